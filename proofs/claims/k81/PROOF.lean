import PyProof.Rows.All
import Wide.All
import OpenK.AllK
import Wide.FinOn
import Lean
import PyProof.EqAt
import PyProof.EqKinds
import PyProof.TupleCall
import PyProof.StrBlockI
import PyProof.SliceList
import PyProof.StrLawsIn
import PyProof.StrLaws
import PyProof.MaxThree
import PyProof.DictValues
import KE.KItemsList
import KE.KEqDict
import PyProof.DictItems
import PyProof.MeetsDictList
import PySem.Challenge.RW_dykemoot_k81_moots_opened
set_option Elab.async false
set_option linter.all false
set_option maxRecDepth 100000
namespace L2
open PySem PySem.Spec PyProof.Rows
abbrev Key:=Sum Int Str
def mS:Key → Value → Bool
 | .inl k,v=>Value.isInt k v
 | .inr x,v=>Value.isStrOf x v
def aHY (w:World):Key → Int
 | .inl k=>hashInt k
 | .inr x=>hashStr w x
theorem cB:∀ {k:Key} {v:Value},mS k v = true → (∃ i t,k = Sum.inl i ∧ v = Value.int i t) ∨ (∃ x t,k = Sum.inr x ∧ v = Value.str x t)
 | .inl i,v,h=>by
  obtain ⟨t,e⟩:=Value.isInt_shape (k:=i) (v:=v) h
  exact .inl ⟨i,t,rfl,e⟩
 | .inr x,v,h=>by
  obtain ⟨t,e⟩:=Value.isStrOf_shape (x:=x) (v:=v) h
  exact .inr ⟨x,t,rfl,e⟩
theorem mB (i:Int) (t:Tok):mS (.inl i) (.int i t) = true:=by simp [mS,Value.isInt]
theorem lZ (x:Str) (t:Tok):mS (.inr x) (.str x t) = true:=by simp [mS,Value.isStrOf]
theorem aFI (a b:Int):decide ((Sum.inl a:Key) = Sum.inl b) = (a == b):=by
 by_cases e:a = b
 ·subst e;simp
 ·have h:¬ (Sum.inl a:Key) = Sum.inl b:=fun q=>e (Sum.inl.inj q)
  rw [decide_eq_false h]
  exact (beq_eq_false_iff_ne.mpr e).symm
theorem aFF (a b:Str):decide ((Sum.inr a:Key) = Sum.inr b) = decide (a = b):=by
 by_cases e:a = b
 ·subst e;simp
 ·have h:¬ (Sum.inr a:Key) = Sum.inr b:=fun q=>e (Sum.inr.inj q)
  rw [decide_eq_false h,decide_eq_false e]
theorem aFH (a:Int) (b:Str):decide ((Sum.inl a:Key) = Sum.inr b) = false:=decide_eq_false (fun q=>nomatch q)
theorem aFG (a:Str) (b:Int):decide ((Sum.inr a:Key) = Sum.inl b) = false:=decide_eq_false (fun q=>nomatch q)
def aS (prog:Program) (w:World):PySem.KeyKind prog w Key where
 is:=mS
 hash:=aHY w
 inj:=fun v a b ha hb=>by
  rcases cB ha with ⟨i,t,rfl,rfl⟩ | ⟨x,t,rfl,rfl⟩
  ·rcases cB hb with ⟨j,u,rfl,e⟩ | ⟨y,u,rfl,e⟩
   ·injection e with e1 _;rw [e1]
   ·exact nomatch e
  ·rcases cB hb with ⟨j,u,rfl,e⟩ | ⟨y,u,rfl,e⟩
   ·exact nomatch e
   ·injection e with e1 _;rw [e1]
 byValue:=fun k v h=>by
  rcases cB h with ⟨i,t,rfl,rfl⟩ | ⟨x,t,rfl,rfl⟩ <;> rfl
 pyHash:=fun hv h=>by
  rcases cB hv with ⟨i,t,rfl,rfl⟩ | ⟨x,t,rfl,rfl⟩
  ·exact wpAny_pyHash_int h
  ·exact wpAny_pyHash_str h
 eqBool:=fun hu hv h=>by
  rcases cB hu with ⟨i,t,rfl,rfl⟩ | ⟨x,t,rfl,rfl⟩
  ·rcases cB hv with ⟨j,u,rfl,rfl⟩ | ⟨y,u,rfl,rfl⟩
   ·rw [aFI] at h;exact wpAny_eqBool_int h
   ·rw [aFH] at h;exact SeqAt.EqAt.int_str i t y u _ _ _ _ h
  ·rcases cB hv with ⟨j,u,rfl,rfl⟩ | ⟨y,u,rfl,rfl⟩
   ·rw [aFG] at h;exact SeqAt.EqAt.str_int x t j u _ _ _ _ h
   ·rw [aFF] at h;exact wpAny_eqBool_str h
 «strs»:=fun k x t v h=>by
  rcases cB h with ⟨i,u,rfl,e⟩ | ⟨y,u,rfl,e⟩
  ·exact nomatch e
  ·injection e with e1 _
   subst e1
   cases v <;> rfl
theorem uA (prog:Program) (w:World) (i:Int) (t:Tok):(aS prog w).is (.inl i) (.int i t) = true:=mB i t
theorem tZ (prog:Program) (w:World) (x:Str) (t:Tok):(aS prog w).is (.inr x) (.str x t) = true:=lZ x t
end L2
namespace L2
open PySem PySem.Spec PyProof.Rows
inductive V where
 | non | bl (b:Bool) | int (i:Int) | str (x:Str) | byt (b:Array UInt8) | flt (b:UInt64) | ref (a:Addr) | ty (n:String)
 deriving DecidableEq
def aZ:V → Value → Prop
 | .non,u=>u = Value.none
 | .bl b,u=>u = Value.bool b
 | .int i,u=>∃ t,u = Value.int i t
 | .str x,u=>∃ t,u = Value.str x t
 | .byt b,u=>∃ t,u = Value.bytes b t
 | .flt b,u=>∃ t,u = Value.float b t
 | .ref a,u=>u = Value.ref a
 | .ty n,u=>u = Value.type n
abbrev aY:List V → List Value → Prop:=Paired aZ
theorem aY.length {xs:List V} {us:List Value} (r:aY xs us):xs.length = us.length:=Paired.length r
theorem aY.get:∀ {xs:List V} {us:List Value} {i:Nat} {x:V},aY xs us → xs[i]? = some x → ∃ u,us[i]? = some u ∧ aZ x u
 | _,_,_,_,.nil,e=>by simp at e
 | _,_,0,_,.cons r _,e=>by simp at e;subst e;exact ⟨_,rfl,r⟩
 | _,_,i + 1,x,.cons _ t,e=>by
  obtain ⟨u,h1,h2⟩:=aY.get (i:=i) (x:=x) t (by simpa using e)
  exact ⟨u,by simpa using h1,h2⟩
theorem aY.append:∀ {xs ys:List V} {us ws:List Value},aY xs us → aY ys ws → aY (xs ++ ys) (us ++ ws)
 | _,_,_,_,.nil,s=>s
 | _,_,_,_,.cons r t,s=>.cons r (aY.append t s)
theorem aY.take:∀ {xs:List V} {us:List Value} (n:Nat),aY xs us → aY (xs.take n) (us.take n)
 | _,_,0,_=>.nil
 | _,_,_ + 1,.nil=>.nil
 | _,_,n + 1,.cons r t=>.cons r (aY.take n t)
theorem aY.drop:∀ {xs:List V} {us:List Value} (n:Nat),aY xs us → aY (xs.drop n) (us.drop n)
 | _,_,0,r=>r
 | _,_,_ + 1,.nil=>.nil
 | _,_,n + 1,.cons _ t=>aY.drop n t
def jR:Option V → Option Value → Prop
 | some v,some u=>aZ v u
 | none,none=>True
 | _,_=>False
def KV {κ:Type}:List (κ × V) → List (κ × Value) → Prop:=Paired fun (p:κ × V) (q:κ × Value)=>p.1 = q.1 ∧ aZ p.2 q.2
def kV:Key → V
 | .inl i=>.int i
 | .inr x=>.str x
inductive HO where
 /-- a list -/
 | lst (xs:List V)
 /-- a tuple (never changes) -/
 | tup (xs:List V)
 /-- a dict whose keys are ints and texts;one whose keys are tuples of ints and texts (the empty one is both) -/
 | dK (kvs:List (Key × V)) | dT (kvs:List (List Key × V))
 /-- a set of ints: its members,its size -/
 | set (S:Int → Bool) (n:Nat)
 /-- an instance of the class at C,its dict at dx,its attributes -/
 | ins (C dx:Addr) (fs:List (Str × V))
 /-- the dict of the instance at x -/
 | own (x:Addr)
 /-- the dict of an exception -/
 | xd (fs:List (Str × V))
 /-- a bound method,f of x -/
 | met (f x:Addr)
 /-- a range object lo,lo + 1,.. below hi -/
 | rng (lo hi:Int)
 /-- a thing that is known to the object (the script;a dict while a loop walks it): read,never written while it is so -/
 | frz (o:Obj) (u:HO)
 /-- a aHH object's table -/
 | tbl (ps:Array Value)
 /-- any other thing,by what is true of its one object (a def of one's own: yM a S n:=HO.ext fun h=>..) -/
 | ext (φ:Heap → Prop)
abbrev Hp:=Addr → Option HO
def upd (H:Hp) (a:Addr) (o:HO):Hp:=fun b=>if b = a then some o else H b
theorem aF {H:Hp} {a:Addr} {o:HO}:upd H a o a = some o:=by unfold upd;rw [if_pos rfl]
theorem aJ {H:Hp} {a b:Addr} {o:HO} (h:b ≠ a):upd H a o b = H b:=by unfold upd;rw [if_neg h]
theorem aBV {H:Hp} {a:Addr} {o u:HO}:upd (upd H a o) a u = upd H a u:=by
 funext b;unfold upd;split <;> rfl
theorem aAH {H:Hp} {a b:Addr} {o u:HO} (h:H a = some o) (h':H b = some u) (d:o ≠ u):a ≠ b:=by
 intro e;subst e;rw [h] at h';exact d (Option.some.inj h')
theorem aH {H:Hp} {a b:Addr} {o:HO} (h:H a = some o) (h':H b = none):a ≠ b:=by
 intro e;subst e;rw [h] at h';cases h'
def vY (h:Heap) (a:Addr) (its:Array Value):Prop:=∃ o,h.get? a = some o ∧ o.cls = .type "tuple" ∧ ∃ n,o.data = .seq its n ∧ o.dict = none
theorem vY.tup {h:Heap} {a:Addr} {its:Array Value} (x:vY h a its):IsTup h a its:=by
 obtain ⟨o,e,c,n,d,_⟩:=x
 exact ⟨o,e,c,n,d⟩
section
variable (P:Program) (w:World)
def bG (H:Hp) (h:Heap) (a:Addr):HO → Prop
 | .lst xs=>xs.length ≤ sizeLine ∧ ∃ (its:List Value) (n:Nat),aY xs its ∧ h.get? a = some { cls:=.type "list",data:=.seq its.toArray n }
 | .tup xs=>xs.length ≤ sizeLine ∧ ∃ its:List Value,aY xs its ∧ vY h a its.toArray
 | .dK kvs=>kvs.length ≤ sizeLine ∧ (a == sysModules) = false ∧ ∃ vs,KV kvs vs ∧ h.DictOf (aS P w) a vs
 | .dT kvs=>kvs.length ≤ sizeLine ∧ (a == sysModules) = false ∧ ∃ xs:List (List Key × Addr × Value),
   Paired (fun (p:List Key × V) (q:List Key × Addr × Value)=>p.1 = q.1 ∧ H q.2.1 = some (.tup (p.1.map kV)) ∧ aZ p.2 q.2.2) kvs xs ∧
   ∃ o es ep,h.get? a = some o ∧ o.ExactDict ∧ o.data = .dict es ep ∧ es.toList = xs.map (entryOfKey (tupleKind (aS P w))) ∧ (xs.map (·.1)).Nodup
 | .set S n=>h.SetOf (intKind P w) a S n
 | .ins C dx fs=>H dx = some (.own a) ∧ fs.length ≤ 1000 ∧ dx ≠ a ∧ h.get? a = some (PySem.W.instObj C dx) ∧
   ∃ mA,h.Ns1 dx mA ∧ (∀ f,jR (fs.lookup f) (mA f)) ∧ PySem.Within mA (fs.map (·.1))
 | .own _=>∃ o,h.get? a = some o
 | .xd fs=>∃ mA,h.Ns1 a mA ∧ ∀ f,jR (fs.lookup f) (mA f)
 | .rng lo hi=>∃ t u v,h.get? a = some { cls:=.type "range",data:=.fields #[.int lo t,.int hi u,.int 1 v] }
 | .frz o u=>h.get? a = some o ∧ bG H h a u
 | .tbl ps=>h.get? a = some { cls:=.none,data:=.fields ps }
 | .met f x=>h.get? a = some (PySem.W.methodObj (.ref f) (.ref x))
 | .ext φ=>φ h ∧ (∃ o,h.get? a = some o) ∧ ∀ h1 h2:Heap,φ h1 → (∀ o,h1.get? a = some o → h2.get? a = some o) → φ h2
def HOk (H:Hp) (h:Heap):Prop:=∀ a o,H a = some o → bG P w H h a o
end
section
variable {P:Program} {w:World} {H H':Hp} {h h':Heap} {a:Addr} {o:HO}
theorem bG.lt (x:bG P w H h a o):a < h.objs.size:=by
 cases o with
 | lst xs=>obtain ⟨_,_,_,_,e⟩:=x;exact Heap.lt_size e
 | tup xs=>obtain ⟨_,_,_,_,e,_⟩:=x;exact Heap.lt_size e
 | dK kvs=>obtain ⟨_,_,_,_,o,_,_,e,_⟩:=x;exact Heap.lt_size e
 | dT kvs=>obtain ⟨_,_,_,_,o,_,_,e,_⟩:=x;exact Heap.lt_size e
 | set S n=>obtain ⟨o,_,_,_,e,_⟩:=x;exact Heap.lt_size e
 | ins C dx fs=>obtain ⟨_,_,_,e,_⟩:=x;exact Heap.lt_size e
 | own y=>obtain ⟨_,e⟩:=x;exact Heap.lt_size e
 | xd fs=>obtain ⟨_,⟨_,_,_,e,_⟩,_⟩:=x;exact Heap.lt_size e
 | rng lo hi=>obtain ⟨_,_,_,e⟩:=x;exact Heap.lt_size e
 | frz ob u=>obtain ⟨e,_⟩:=x;exact Heap.lt_size e
 | tbl ps=>exact Heap.lt_size (show h.get? a = some _ from x)
 | met f y=>exact Heap.lt_size (show h.get? a = some _ from x)
 | ext φ=>obtain ⟨_,⟨_,e⟩,_⟩:=x;exact Heap.lt_size e
theorem Paired.mapP {α β:Type} {F G:α → β → Prop}:∀ {l₁:List α} {l₂:List β},Paired F l₁ l₂ → (∀ a b,F a b → G a b) → Paired G l₁ l₂
 | _,_,.nil,_=>.nil
 | _,_,.cons r t,f=>.cons (f _ _ r) (Paired.mapP t f)
theorem bG.stay (x:bG P w H h a o) (k:∀ b u,(b = a ∨ H b = some (.own a)) → h.get? b = some u → h'.get? b = some u)
  (ho:∀ b,H b = some (.own a) → H' b = some (.own a)) (ht:∀ b xs,H b = some (.tup xs) → H' b = some (.tup xs)):bG P w H' h' a o:=by
 induction o with
 | lst xs=>obtain ⟨z,its,n,r,e⟩:=x;exact ⟨z,its,n,r,k _ _ (.inl rfl) e⟩
 | tup xs=>obtain ⟨z,its,r,ob,e,c⟩:=x;exact ⟨z,its,r,ob,k _ _ (.inl rfl) e,c⟩
 | dK kvs=>obtain ⟨z,y,vs,r,ob,es,ep,e,c⟩:=x;exact ⟨z,y,vs,r,ob,es,ep,k _ _ (.inl rfl) e,c⟩
 | dT kvs =>
  obtain ⟨z,y,xs,r,ob,es,ep,e,c⟩:=x
  exact ⟨z,y,xs,Paired.mapP r fun p q z=>⟨z.1,ht _ _ z.2.1,z.2.2⟩,ob,es,ep,k _ _ (.inl rfl) e,c⟩
 | set S n=>obtain ⟨ob,es,ep,t,e,c⟩:=x;exact ⟨ob,es,ep,t,k _ _ (.inl rfl) e,c⟩
 | ins C dx fs =>
  obtain ⟨d,z,ne,e,mA,⟨od,es,ep,e2,c⟩,r⟩:=x
  exact ⟨ho _ d,z,ne,k _ _ (.inl rfl) e,mA,⟨od,es,ep,k _ _ (.inr d) e2,c⟩,r⟩
 | own y=>obtain ⟨ob,e⟩:=x;exact ⟨ob,k _ _ (.inl rfl) e⟩
 | xd fs=>obtain ⟨mA,⟨od,es,ep,e,c⟩,r⟩:=x;exact ⟨mA,⟨od,es,ep,k _ _ (.inl rfl) e,c⟩,r⟩
 | rng lo hi=>obtain ⟨t,u,v,e⟩:=x;exact ⟨t,u,v,k _ _ (.inl rfl) e⟩
 | frz ob u ih=>obtain ⟨e,q⟩:=x;exact ⟨k _ _ (.inl rfl) e,ih q⟩
 | tbl ps =>
  have e:h.get? a = some { cls:=.none,data:=.fields ps }:=x
  show h'.get? a = some { cls:=.none,data:=.fields ps }
  exact k a _ (.inl rfl) e
 | met f y =>
  have e:h.get? a = some (PySem.W.methodObj (.ref f) (.ref y)):=x
  show h'.get? a = some (PySem.W.methodObj (.ref f) (.ref y))
  exact k a _ (.inl rfl) e
 | ext φ=>obtain ⟨p,⟨o,e⟩,st⟩:=x;exact ⟨st _ _ p fun o q=>k _ _ (.inl rfl) q,⟨o,k _ _ (.inl rfl) e⟩,st⟩
theorem HOk.lt (x:HOk P w H h) (e:H a = some o):a < h.objs.size:=(x a o e).lt
theorem HOk.fresh (x:HOk P w H h) (e:h.objs.size ≤ a):H a = none:=by
 cases q:H a with
 | none=>rfl
 | some u=>exact absurd (Nat.lt_of_lt_of_le (x.lt q) e) (Nat.lt_irrefl _)
theorem HOk.kept (x:HOk P w H h) (k:∀ b u,h.get? b = some u → h'.get? b = some u):HOk P w H h':=fun a o e =>
 (x a o e).stay (fun b u _ q=>k b u q) (fun _ q=>q) fun _ _ q=>q
theorem HOk.laid (x:HOk P w H h) (k:∀ b u,h.get? b = some u → h'.get? b = some u) (hp:h.objs.size ≤ a) (new:bG P w (upd H a o) h' a o):HOk P w (upd H a o) h':=fun b u e=>by
 have hn:=x.fresh hp
 by_cases hb:b = a
 ·subst hb;rw [aF] at e;cases e;exact new
 ·rw [aJ hb] at e
  exact (x b u e).stay (fun c v _ q=>k c v q) (fun c q=>by rw [aJ (aH q hn)];exact q) fun c xs q=>by rw [aJ (aH q hn)];exact q
end
def Rd (H:Hp) (a:Addr) (u:HO):Prop:=H a = some u ∨ ∃ o,H a = some (.frz o u)
theorem Rd.ok {P:Program} {w:World} {H:Hp} {h:Heap} {a:Addr} {u:HO} (r:Rd H a u) (x:HOk P w H h):bG P w H h a u:=by
 rcases r with r | ⟨o,r⟩
 ·exact x a u r
 ·obtain ⟨_,q⟩:=x a _ r
  exact q
def Mut:Option HO → Prop
 | some (.lst _)=>True
 | some (.dK _)=>True
 | some (.dT _)=>True
 | some (.set _ _)=>True
 | some (.ins _ _ _)=>True
 | some (.ext _)=>True
 | _=>False
section
variable {P:Program} {w:World} {H:Hp} {h h':Heap} {x e:Addr} {o':HO}
theorem HOk.write (ok:HOk P w H h) (mu:Mut (H x)) (he:e = x ∨ H e = some (.own x)) (k:∀ b u,b ≠ e → h.get? b = some u → h'.get? b = some u) (heo:∃ u,h'.get? e = some u)
  (new:bG P w (upd H x o') h' x o'):HOk P w (upd H x o') h':=fun b u q=>by
 have nown:∀ c y,H c = some (.own y) → c ≠ x:=fun c y r z=>by subst z;rw [r] at mu;exact mu
 have ntup:∀ c xs,H c = some (.tup xs) → c ≠ x:=fun c xs r z=>by subst z;rw [r] at mu;exact mu
 by_cases hb:b = x
 ·subst hb;rw [aF] at q;cases q;exact new
 ·rw [aJ hb] at q
  by_cases hbe:b = e
  ·have q':H b = some (.own x):=by
    rcases he with z | z
    ·exact absurd (hbe.trans z) hb
    ·rw [hbe];exact z
   rw [q] at q';cases q'
   obtain ⟨v,hv⟩:=heo
   exact ⟨v,by rw [hbe];exact hv⟩
  ·refine (ok b u q).stay (fun c v hc r=>k c v ?_ r) (fun c r=>by rw [aJ (nown c b r)];exact r) fun c xs r=>by rw [aJ (ntup c xs r)];exact r
   rcases hc with rfl | hc
   ·exact hbe
   ·rintro rfl
    rcases he with z | z
    ·exact nown c b hc z
    ·rw [hc] at z;cases z;exact hb rfl
end
structure Un (fs ex:List Addr) (H H':Hp) (h h':Heap):Prop where
 keep:∀ b o,h.get? b = some o → H b = none → b ∉ fs → b ∉ ex → h'.get? b = some o
 slot:∀ b o,h.get? b = some o → H b = none → b ∈ fs → b ∉ ex → ∃ sl,h'.get? b = some { o with slots:=sl }
 free:∀ b o,h.get? b = some o → H b = none → b ∉ ex → H' b = none
 there:∀ b o,h.get? b = some o → b ∉ ex → ∃ o',h'.get? b = some o'
 tups:∀ b xs,H b = some (.tup xs) → H' b = some (.tup xs)
 frzs:∀ b o u,H b = some (.frz o u) → H' b = some (.frz o u)
 tbls:∀ b ps,H b = some (.tbl ps) → ∃ more,H' b = some (.tbl (ps ++ more))
section
variable {fs fs' ex ex':List Addr} {H H1 H2:Hp} {h h1 h2 h':Heap} {a x e:Addr} {o:HO}
theorem Un.any (u:Un fs ex H H1 h h1) {b:Addr} {ob:Obj} (q:h.get? b = some ob) (n:H b = none) (hx:b ∉ ex):∃ sl,h1.get? b = some { ob with slots:=sl }:=by
 by_cases hb:b ∈ fs
 ·exact u.slot b ob q n hb hx
 ·exact ⟨ob.slots,u.keep b ob q n hb hx⟩
theorem Un.kept (k:∀ b u,h.get? b = some u → h'.get? b = some u):Un fs ex H H h h' :=
 ⟨fun b ob q _ _ _=>k b ob q,fun b ob q _ _ _=>⟨ob.slots,k b ob q⟩,fun _ _ _ n _=>n,fun b ob q _=>⟨ob,k b ob q⟩,fun _ _ q=>q,fun _ _ _ q=>q,fun _ ps q=>⟨#[],by rw [q];simp⟩⟩
theorem Un.refl:Un fs ex H H h h:=Un.kept fun _ _ q=>q
theorem Un.laid (k:∀ b u,h.get? b = some u → h'.get? b = some u) (hp:h.objs.size ≤ a) (hn:H a = none):Un fs ex H (upd H a o) h h' where
 keep:=fun b u q _ _ _=>k b u q
 slot:=fun b u q _ _ _=>⟨u.slots,k b u q⟩
 free:=fun b u q n _=>by rw [aJ (Nat.ne_of_lt (Nat.lt_of_lt_of_le (Heap.lt_size q) hp))];exact n
 there:=fun b u q _=>⟨u,k b u q⟩
 tups:=fun b xs q=>by rw [aJ (aH q hn)];exact q
 frzs:=fun b u xs q=>by rw [aJ (aH q hn)];exact q
 tbls:=fun b ps q=>⟨#[],by rw [aJ (aH q hn),q];simp⟩
theorem Un.write (mu:Mut (H x)) (he:e = x ∨ H e = some (.own x)) (k:∀ b u,b ≠ e → h.get? b = some u → h'.get? b = some u) (heo:∃ u,h'.get? e = some u):Un fs ex H (upd H x o) h h':=by
 have hx:∀ b,H b = none → b ≠ x:=fun b n z=>by subst z;rw [n] at mu;exact mu
 have hb:∀ b,H b = none → b ≠ e:=fun b n z=>by
  subst z
  rcases he with r | r
  ·exact hx b n r
  ·rw [n] at r;cases r
 have hm:∀ b u,H b = some u → ¬ Mut (some u) → b ≠ x:=fun b u q nm z=>by subst z;rw [q] at mu;exact nm mu
 refine ⟨fun b u q n _ _=>k b u (hb b n) q,fun b u q n _ _=>⟨u.slots,k b u (hb b n) q⟩,fun b u q n _=>by rw [aJ (hx b n)];exact n,fun b u q _=>?_,
  fun b xs q=>by rw [aJ (hm b _ q fun z=>z)];exact q,fun b u xs q=>by rw [aJ (hm b _ q fun z=>z)];exact q,fun b ps q=>⟨#[],by rw [aJ (hm b _ q fun z=>z),q];simp⟩⟩
 by_cases hbe:b = e
 ·subst hbe;exact heo
 ·exact ⟨u,k b u hbe q⟩
end
def trk (h:Heap) (H:Hp):List Addr:=(List.range h.objs.size).filter fun a=>(H a).isSome
def sQ (h:Heap) (H:Hp):Heap:=PySem.W.hideAll h (trk h H)
theorem xW (h:Heap) (H:Hp):(sQ h H).objs.size = h.objs.size:=PySem.W.hideAll_size _ _
theorem aAS {h:Heap} {H:Hp} {b:Addr} {o:Obj} (e:h.get? b = some o) (n:H b = none):(sQ h H).get? b = some o :=
 PySem.W.hideAll_get _ e fun hm=>by
  have q:(H b).isSome = true:=(List.mem_filter.mp hm).2
  rw [n] at q;simp at q
theorem aCN {h:Heap} {H:Hp} {b:Addr} {o:Obj} (e:(sQ h H).get? b = some o):h.get? b = some o ∧ H b = none:=by
 have e':h.get? b = some o:=PySem.W.of_hideAll (trk h H) e
 refine ⟨e',?_⟩
 cases q:H b with
 | none=>rfl
 | some x =>
  have hm:b ∈ trk h H:=List.mem_filter.mpr ⟨List.mem_range.mpr (Heap.lt_size e'),by simp [q]⟩
  have z:(sQ h H).get? b = none:=PySem.W.hideAll_none (trk h H) hm
  rw [z] at e;cases e
def aDL (g h:Heap) (L:Addr):List (Addr × Obj):=(List.range h.objs.size).filterMap fun a=>if a = L ∨ (g.get? a).isSome = true then none else (h.get? a).map fun o=>(a,o)
def rest (g h:Heap) (L d:Addr):List (Addr × Obj):=(aDL g h L).filter fun p=>decide (p.1 ≠ d)
end L2
namespace L2
open PySem PySem.Spec PyProof.Rows
structure Mod (K:PySem.W.Frag) (mg:Str → Option Value) (base:Heap):Prop where
 kin:K.In base
 glob:base.Ns mainGlobals mg
 blt:∃ mb,base.Ns builtinsNs mb ∧ ∀ x:Str,x ≠ "__name__" → mb x = bootBuiltins x
 nolimit:base.NoLimit
structure Cx where
 prog:Program
 w:World
 K:PySem.W.Frag
 mg:Str → Option Value
 base:Heap
 A:Around
 N:List Str
 s₀:Shared
 H₀:Hp
 env:Env
 outer:List Env
 stack:List Env
 ex:List Addr
 fn:Str → Bool
 calm:Bool
 pn:List (Addr × Obj)
 xe:Value → Shared → Prop
def frs (l:List Env):List Addr:=l.filterMap (·.frame)
abbrev Cx.fs (X:Cx):List Addr:=frs X.outer
def Vis (sc:Scope) (x:Str):Prop:=sc.names.lookup x = some .local ∨ sc.names.lookup x = some .cell ∨ sc.names.lookup x = some .free
def Loc (sc:Scope) (x:Str):Prop:=sc.names.lookup x = some .local ∨ sc.names.lookup x = some .cell
def aIE (env:Env) (h:Heap) (m:Str → Option Value) (x:Str) (u:Value):Prop :=
 (env.kindOf x = some .local ∧ m x = some u) ∨ ((env.kindOf x = some .cell ∨ env.kindOf x = some .free) ∧ ∃ c,env.cells.lookup x = some c ∧ h.IsCell c (some u))
structure Cx.Ok (X:Cx):Prop where
 mod:Mod X.K X.mg X.base
 kind:X.env.scope.kind = .function
 glob:X.env.globals = mainGlobals
 blt:X.env.builtins = builtinsNs
 above:X.s₀.heap.objs.size ≤ X.env.locals
 inj:∀ x y c,X.env.cells.lookup x = some c → X.env.cells.lookup y = some c → x = y
 has:∀ x,(X.env.kindOf x = some .cell ∨ X.env.kindOf x = some .free) → ∃ c,X.env.cells.lookup x = some c
 cab:∀ x c,X.fn x = true → X.env.cells.lookup x = some c → X.s₀.heap.objs.size ≤ c
 hd:X.calm = true → X.A.handled = none
 frames:X.A.frames = some X.stack
 stk:X.stack = X.outer ∨ (X.stack = X.env :: X.outer ∧ X.env.frame = some X.env.locals)
 exf:∀ b ∈ X.ex,b ≠ X.env.locals ∧ ∀ x c,X.env.cells.lookup x = some c → c ≠ b
 bs:∀ b o,X.base.get? b = some o → X.s₀.heap.get? b = some o ∧ X.H₀ b = none
 bsz:X.base.objs.size ≤ X.s₀.heap.objs.size
 noex:∀ b o,X.base.get? b = some o → b ∉ X.ex
 exfs:∀ b ∈ X.ex,b ∉ X.fs
 funs:X.s₀.heap.FunFrames X.base X.outer
 frf:∀ b ∈ X.fs,X.H₀ b = none
structure Inv (X:Cx) (pins:List (Addr × Obj)) (σ:List (Option V)) (H:Hp) (s:Shared):Prop where
 ok:X.Ok
 os:s.os = X.s₀.os
 bare:AllBare s.gens
 base:Un X.fs X.ex X.H₀ H X.s₀.heap s.heap
 loc:∃ m,s.heap.Ns X.env.locals m ∧ ∀ (i:Nat) (x:Str) (v:V),X.N[i]? = some x → σ[i]? = some (some v) → Vis X.env.scope x → ∃ u,aZ v u ∧ aIE X.env s.heap m x u
 cell:∀ x c,X.env.cells.lookup x = some c → ∃ v,s.heap.IsCell c v
 free:H X.env.locals = none
 freeC:∀ x c,X.env.cells.lookup x = some c → H c = none
 pin:∀ p ∈ X.pn ++ pins,s.heap.get? p.1 = some p.2 ∧ H p.1 = none ∧ p.1 ≠ X.env.locals ∧ p.1 ∉ X.fs ∧ ∀ v,p.2.data ≠ .cell v
 hok:HOk X.prog X.w H s.heap
 len:σ.length = X.N.length
section
variable {X:Cx} {pins:List (Addr × Obj)} {σ:List (Option V)} {H H':Hp} {s:Shared} {h':Heap}
theorem Cx.Ok.nofr (ok:X.Ok) {b:Addr} {o:Obj} (e:X.base.get? b = some o):b ∉ X.fs:=fun hb=>by
 have:=(ok.funs.mem hb).1
 rw [e] at this;cases this
theorem Inv.bs (I:Inv X pins σ H s):∀ b o,X.base.get? b = some o → s.heap.get? b = some o ∧ H b = none:=fun b o e =>
 ⟨I.base.keep b o (I.ok.bs b o e).1 (I.ok.bs b o e).2 (I.ok.nofr e) (I.ok.noex b o e),I.base.free b o (I.ok.bs b o e).1 (I.ok.bs b o e).2 (I.ok.noex b o e)⟩
theorem Inv.bk (I:Inv X pins σ H s):∀ b o,X.base.get? b = some o → s.heap.get? b = some o:=fun b o e=>(I.bs b o e).1
theorem Inv.mod (I:Inv X pins σ H s):Mod X.K X.mg X.base:=I.ok.mod
theorem Inv.kIn (I:Inv X pins σ H s):X.K.In s.heap:=I.ok.mod.kin.keeps I.bk
theorem Inv.fr (I:Inv X pins σ H s):∃ m,Fr X.base X.env.locals s.heap m :=
 let ⟨m,hn,_⟩:=I.loc
 ⟨m,hn,I.bk,Nat.le_trans I.ok.bsz I.ok.above⟩
theorem Inv.lt (I:Inv X pins σ H s):X.env.locals < s.heap.objs.size:=let ⟨_,hn,_⟩:=I.loc;hn.lt
theorem Inv.sz (I:Inv X pins σ H s):X.s₀.heap.objs.size ≤ s.heap.objs.size:=Nat.le_trans I.ok.above (Nat.le_of_lt I.lt)
theorem Inv.nofs (I:Inv X pins σ H s) {a:Addr} (h:s.heap.objs.size ≤ a):a ∉ X.fs:=fun hb=>by
 obtain ⟨_,o,ho,_⟩:=I.ok.funs.mem hb
 exact absurd (Nat.lt_of_lt_of_le (Heap.lt_size ho) (Nat.le_trans I.sz h)) (Nat.lt_irrefl _)
theorem Inv.cne (I:Inv X pins σ H s):∀ x c,X.env.cells.lookup x = some c → c ≠ X.env.locals:=fun x c e z=>by
 obtain ⟨v,o,ho,hd⟩:=I.cell x c e
 obtain ⟨m,⟨o',es,ep,ho',hd',_⟩,_⟩:=I.loc
 rw [z,ho'] at ho;cases ho;rw [hd'] at hd;cases hd
theorem Inv.funs (I:Inv X pins σ H s):s.heap.FunFrames X.base X.outer:=by
 have all:∀ (l:List Env),(∀ b ∈ frs l,b ∈ X.fs) → X.s₀.heap.FunFrames X.base l → s.heap.FunFrames X.base l:=by
  intro l
  induction l with
  | nil=>intro _ _;trivial
  | cons env r ih =>
   intro hs hl
   obtain ⟨hk,⟨L,o,hf,hn,ho,hd⟩,hr⟩:=hl
   have hL:L ∈ X.fs:=hs L (by unfold frs;rw [List.filterMap_cons,hf];exact List.mem_cons_self)
   obtain ⟨sl,e⟩:=I.base.slot L o ho (I.ok.frf L hL) hL fun z=>I.ok.exfs L z hL
   exact ⟨hk,⟨L,_,hf,hn,e,hd⟩,ih (fun b hb=>hs b (by unfold frs;rw [List.filterMap_cons,hf];exact List.mem_cons_of_mem _ hb)) hr⟩
 exact all X.outer (fun _ hb=>hb) I.ok.funs
theorem Inv.stack (I:Inv X pins σ H s):s.heap.FunFrames X.base X.stack:=by
 rcases I.ok.stk with e | ⟨e,hf⟩
 ·rw [e];exact I.funs
 ·rw [e]
  obtain ⟨m,hn,_⟩:=I.loc
  refine .cons (by rw [I.ok.kind];decide) hf hn ?_ I.funs
  exact Heap.get?_none_of_le (Nat.le_trans I.ok.bsz I.ok.above)
theorem Inv.stkSub (I:Inv X pins σ H s):∀ b ∈ frs X.stack,b ∈ X.env.locals :: X.fs:=fun b hb=>by
 rcases I.ok.stk with e | ⟨e,hf⟩
 ·rw [e] at hb;exact List.mem_cons_of_mem _ hb
 ·rw [e] at hb
  unfold frs at hb
  rw [List.filterMap_cons,hf] at hb
  exact hb
theorem Inv.stkFree (I:Inv X pins σ H s):∀ b ∈ frs X.stack,H b = none:=fun b hb=>by
 rcases List.mem_cons.mp (I.stkSub b hb) with e | hb
 ·rw [e];exact I.free
 ·obtain ⟨_,o,ho,_⟩:=I.ok.funs.mem hb
  exact I.base.free b o ho (I.ok.frf b hb) fun z=>I.ok.exfs b z hb
theorem Inv.step {g':Array GenState} {t':Nat} {d':Drawn} {ch:List Addr} (I:Inv X pins σ H s)
  (hch:∀ b ∈ ch,(b ∈ X.ex ∨ X.s₀.heap.objs.size ≤ b) ∧ b ≠ X.env.locals ∧ (∀ x c,X.env.cells.lookup x = some c → c ≠ b) ∧ ∀ p ∈ X.pn ++ pins,p.1 ≠ b)
  (keep:∀ b o,b ≠ X.env.locals → b ∉ X.fs → b ∉ ch → s.heap.get? b = some o → H b = none → h'.get? b = some o)
  (slot:∀ b o,b ≠ X.env.locals → b ∈ X.fs → b ∉ ch → s.heap.get? b = some o → H b = none → ∃ sl,h'.get? b = some { o with slots:=sl }) (free:∀ b o,b ∉ ch → s.heap.get? b = some o → H b = none → H' b = none)
  (there:∀ b o,b ∉ ch → s.heap.get? b = some o → ∃ o',h'.get? b = some o')
  (tups:∀ b xs,H b = some (.tup xs) → H' b = some (.tup xs)) (frzs:∀ b o u,H b = some (.frz o u) → H' b = some (.frz o u)) (tbls:∀ b ps,H b = some (.tbl ps) → ∃ more,H' b = some (.tbl (ps ++ more)))
  (ns:∀ m,s.heap.Ns X.env.locals m → h'.Ns X.env.locals m) (hok:HOk X.prog X.w H' h') (hg:AllBare g') :
  Inv X pins σ H' { s with heap:=h',gens:=g',drawn:=d',toks:=t' }:=by
 have neL:∀ b o,X.s₀.heap.get? b = some o → b ≠ X.env.locals:=fun b o e=>Nat.ne_of_lt (Nat.lt_of_lt_of_le (Heap.lt_size e) I.ok.above)
 have neC:∀ b o,X.s₀.heap.get? b = some o → b ∉ X.ex → b ∉ ch:=fun b o e hx hb=>by
  rcases (hch b hb).1 with z | z
  ·exact hx z
  ·exact absurd (Nat.lt_of_lt_of_le (Heap.lt_size e) z) (Nat.lt_irrefl _)
 have cellK:∀ x c,X.env.cells.lookup x = some c → ∀ v,s.heap.IsCell c v → h'.IsCell c v:=fun x c e v ⟨o,ho,hd⟩=>by
  have nch:c ∉ ch:=fun z=>(hch c z).2.2.1 x c e rfl
  by_cases hc:c ∈ X.fs
  ·obtain ⟨sl,q⟩:=slot c o (I.cne x c e) hc nch ho (I.freeC x c e)
   exact ⟨_,q,hd⟩
  ·exact ⟨o,keep c o (I.cne x c e) hc nch ho (I.freeC x c e),hd⟩
 refine ⟨I.ok,I.os,hg,⟨fun b o e n hb hx=>?_,fun b o e n hb hx=>?_,fun b o e n hx=>?_,fun b o e hx=>?_,fun b xs e=>tups b xs (I.base.tups b xs e),fun b o xs e=>frzs b o xs (I.base.frzs b o xs e),fun b ps e=>?_⟩,?_,fun x c e=>?_,?_,fun x c e=>?_,fun p hp=>?_,hok,I.len⟩
 ·exact keep b o (neL b o e) hb (neC b o e hx) (I.base.keep b o e n hb hx) (I.base.free b o e n hx)
 ·obtain ⟨sl,e1⟩:=I.base.slot b o e n hb hx
  obtain ⟨sl',e2⟩:=slot b _ (neL b o e) hb (neC b o e hx) e1 (I.base.free b o e n hx)
  exact ⟨sl',e2⟩
 ·obtain ⟨o',e1⟩:=I.base.there b o e hx
  exact free b o' (neC b o e hx) e1 (I.base.free b o e n hx)
 ·obtain ⟨o',e1⟩:=I.base.there b o e hx
  exact there b o' (neC b o e hx) e1
 ·obtain ⟨m1,e1⟩:=I.base.tbls b ps e
  obtain ⟨m2,e2⟩:=tbls b _ e1
  exact ⟨m1 ++ m2,by rw [e2,Array.append_assoc]⟩
 ·obtain ⟨m,hn,hl⟩:=I.loc
  refine ⟨m,ns m hn,fun i x v e1 e2 e3=>?_⟩
  obtain ⟨u,r,l⟩:=hl i x v e1 e2 e3
  refine ⟨u,r,?_⟩
  rcases l with l | ⟨k,c,e,z⟩
  ·exact .inl l
  ·exact .inr ⟨k,c,e,cellK x c e _ z⟩
 ·obtain ⟨v,z⟩:=I.cell x c e
  exact ⟨v,cellK x c e v z⟩
 ·obtain ⟨m,⟨o,_,_,ho,_⟩,_⟩:=I.loc
  exact free _ o (fun z=>(hch _ z).2.1 rfl) ho I.free
 ·obtain ⟨v,o,ho,hd⟩:=I.cell x c e
  exact free c o (fun z=>(hch c z).2.2.1 x c e rfl) ho (I.freeC x c e)
 ·obtain ⟨e,n,ne,nf,d⟩:=I.pin p hp
  have nch:p.1 ∉ ch:=fun z=>(hch p.1 z).2.2.2 p hp rfl
  exact ⟨keep p.1 p.2 ne nf nch e n,free p.1 p.2 nch e n,ne,nf,d⟩
theorem Inv.un {t':Nat} (I:Inv X pins σ H s) (u:Un X.fs [] H H' s.heap h') (hok:HOk X.prog X.w H' h'):Inv X pins σ H' { s with heap:=h',toks:=t' }:=by
 obtain ⟨m,⟨o,es,ep,ho,r⟩,_⟩:=id I.loc
 obtain ⟨sl,hL⟩:=u.any ho I.free (by simp)
 exact I.step (g':=s.gens) (d':=s.drawn) (ch:=[]) (fun _ z=>nomatch z) (fun b o _ hb _ e n=>u.keep b o e n hb (by simp)) (fun b o _ hb _ e n=>u.slot b o e n hb (by simp)) (fun b o _ e n=>u.free b o e n (by simp)) (fun b o _ e=>u.there b o e (by simp)) u.tups u.frzs u.tbls (fun m' hm=>by
  obtain ⟨o',es',ep',ho',r'⟩:=hm
  rw [ho] at ho';cases ho'
  exact ⟨_,es',ep',hL,r'⟩) hok I.bare
theorem Inv.call {g':Array GenState} {t':Nat} {d':Drawn} {ch:List Addr} (I:Inv X pins σ H s) (u:Un (frs X.stack) ch H H' s.heap h') (hok:HOk X.prog X.w H' h') (hg:AllBare g')
  (hch:∀ b ∈ ch,(b ∈ X.ex ∨ X.s₀.heap.objs.size ≤ b) ∧ b ≠ X.env.locals ∧ (∀ x c,X.env.cells.lookup x = some c → c ≠ b) ∧ ∀ p ∈ X.pn ++ pins,p.1 ≠ b) :
  Inv X pins σ H' { s with heap:=h',gens:=g',drawn:=d',toks:=t' }:=by
 obtain ⟨m,⟨o,es,ep,ho,r⟩,_⟩:=id I.loc
 obtain ⟨sl,hL⟩:=u.any ho I.free fun z=>(hch _ z).2.1 rfl
 exact I.step (ch:=ch) hch (fun b o hL hb hc e n=>u.keep b o e n (fun z=>(List.mem_cons.mp (I.stkSub b z)).elim hL hb) hc) (fun b o _ _ hc e n=>u.any e n hc) (fun b o hc e n=>u.free b o e n hc) (fun b o hc e=>u.there b o e hc) u.tups u.frzs u.tbls (fun m' hm=>by
  obtain ⟨o',es',ep',ho',r'⟩:=hm
  rw [ho] at ho';cases ho'
  exact ⟨_,es',ep',hL,r'⟩) hok hg
theorem Inv.turned {t':Nat} {it:Addr} (I:Inv X pins σ H s) (k:∀ b o,b ≠ it → s.heap.get? b = some o → h'.get? b = some o) (hn:H it = none) (hL:it ≠ X.env.locals)
  (h1:it ∈ X.ex ∨ X.s₀.heap.objs.size ≤ it) (h2:∀ x c,X.env.cells.lookup x = some c → c ≠ it) (h3:∀ p ∈ X.pn ++ pins,p.1 ≠ it):Inv X pins σ H { s with heap:=h',toks:=t' }:=by
 have nit:∀ b u,H b = some u → b ≠ it:=fun b u e z=>by rw [z,hn] at e;cases e
 refine I.step (g':=s.gens) (d':=s.drawn) (ch:=[it]) (fun b hb=>?_) (fun b o _ _ hc e _=>k b o (fun z=>hc (by simp [z])) e) (fun b o _ _ hc e _=>⟨o.slots,k b o (fun z=>hc (by simp [z])) e⟩) (fun _ _ _ _ n=>n)
  (fun b o hc e=>⟨o,k b o (fun z=>hc (by simp [z])) e⟩) (fun _ _ e=>e) (fun _ _ _ e=>e) (fun b ps e=>⟨#[],by rw [e];simp⟩) (fun m hm=>?_) (fun b u e=>?_) I.bare
 ·have e:b = it:=by simpa using hb
  subst e
  exact ⟨h1,hL,h2,h3⟩
 ·obtain ⟨o,es,ep,ho,r⟩:=hm
  exact ⟨o,es,ep,k _ o (Ne.symm hL) ho,r⟩
 ·refine (I.hok b u e).stay (fun c v hc q=>k c v ?_ q) (fun _ q=>q) fun _ _ q=>q
  rcases hc with z | z
  ·rw [z];exact nit b u e
  ·exact nit c _ z
theorem Inv.tok (I:Inv X pins σ H s) (t:Nat):Inv X pins σ H { s with toks:=t }:=I.un (h':=s.heap) (t':=t) Un.refl I.hok
theorem Inv.kept {t':Nat} (I:Inv X pins σ H s) (k:∀ b u,s.heap.get? b = some u → h'.get? b = some u):Inv X pins σ H { s with heap:=h',toks:=t' }:=I.un (Un.kept k) (I.hok.kept k)
theorem Inv.laid {a:Addr} {o:HO} {t':Nat} (I:Inv X pins σ H s) (k:∀ b u,s.heap.get? b = some u → h'.get? b = some u) (hp:s.heap.objs.size ≤ a) (new:bG X.prog X.w (upd H a o) h' a o) :
  Inv X pins σ (upd H a o) { s with heap:=h',toks:=t' }:=I.un (Un.laid k hp (I.hok.fresh hp)) (I.hok.laid k hp new)
theorem Inv.write {x e:Addr} {o:HO} {t':Nat} (I:Inv X pins σ H s) (mu:Mut (H x)) (he:e = x ∨ H e = some (.own x)) (k:∀ b u,b ≠ e → s.heap.get? b = some u → h'.get? b = some u) (heo:∃ u,h'.get? e = some u)
  (new:bG X.prog X.w (upd H x o) h' x o):Inv X pins σ (upd H x o) { s with heap:=h',toks:=t' }:=I.un (Un.write mu he k heo) (I.hok.write mu he k heo new)
theorem Inv.weak {σ':List (Option V)} (I:Inv X pins σ H s) (hl:σ'.length = σ.length) (w:∀ (i:Nat) v,σ'[i]? = some (some v) → σ[i]? = some (some v)):Inv X pins σ' H s :=
 ⟨I.ok,I.os,I.bare,I.base,let ⟨m,hn,hl'⟩:=I.loc;⟨m,hn,fun i x v e1 e2 e3=>hl' i x v e1 (w i v e2) e3⟩,I.cell,I.free,I.freeC,I.pin,I.hok,hl.trans I.len⟩
theorem Inv.pins_of {pins':List (Addr × Obj)} (I:Inv X pins σ H s) (h:∀ p ∈ pins',s.heap.get? p.1 = some p.2 ∧ H p.1 = none ∧ p.1 ≠ X.env.locals ∧ p.1 ∉ X.fs ∧ ∀ v,p.2.data ≠ .cell v):Inv X pins' σ H s :=
 ⟨I.ok,I.os,I.bare,I.base,I.loc,I.cell,I.free,I.freeC,fun p hp=>(List.mem_append.mp hp).elim (fun z=>I.pin p (List.mem_append_left _ z)) (h p),I.hok,I.len⟩
theorem pB {N:List Str} (hN:N.Nodup) {i j:Nat} {x:Str} (a:N[i]? = some x) (b:N[j]? = some x):i = j:=by
 obtain ⟨h1,e1⟩:=List.getElem?_eq_some_iff.mp a
 obtain ⟨h2,e2⟩:=List.getElem?_eq_some_iff.mp b
 exact (List.getElem_inj hN).mp (e1.trans e2.symm)
theorem xI {M:Model} {A:Around} {E:Value → Shared → Prop} {i:Nat} {x:Str} {v:V} {u:Value} {Q:Unit → Shared → Prop} (I:Inv X pins σ H s) (hN:X.N.Nodup) (hi:X.N[i]? = some x) (hx:Loc X.env.scope x) (r:aZ v u)
  (h:∀ s',Inv X pins (σ.set i (some v)) H s' → (∃ a,Heap.SameBut a s.heap s'.heap ∧ (a = X.env.locals ∨ X.env.cells.lookup x = some a)) → Q () s') (hf:X.fn x = true ∨ X.env.scope.names.lookup x = some .local:=by first | exact .inl rfl | exact .inr rfl | assumption):wpAny M A (storeName X.env x u) Q E s:=by
 obtain ⟨m,hn,hl⟩:=id I.loc
 have hcls:(X.env.scope.kind == .class || (X.env.scope.kind == .module && X.env.locals != X.env.globals)) = false:=by rw [I.ok.kind];rfl
 have hiσ:i < σ.length:=by rw [I.len];exact (List.getElem?_eq_some_iff.mp hi).1
 have cne:=I.cne
 have tracked:∀ {a:Addr} {h':Heap},(∃ o,s.heap.get? a = some o ∧ H a = none) → Heap.SameBut a s.heap h' → HOk X.prog X.w H h':=fun {a h'} ha hs b ob e=>by
  obtain ⟨_,_,hfree⟩:=ha
  refine (I.hok b ob e).stay (fun c w' hc q=>(hs.2 c ?_).trans q) (fun _ q=>q) fun _ _ q=>q
  rintro rfl
  rcases hc with rfl | hc
  ·rw [hfree] at e;cases e
  ·rw [hfree] at hc;cases hc
 rcases hx with hk | hk
 ·refine wpAny_storeName_local hk hn (fun h' hn' hs=>?_) hcls
  obtain ⟨oL,_,_,hoL,_⟩:=id hn
  refine h _ ⟨I.ok,I.os,I.bare,⟨fun b o e n hb hx=>?_,fun b o e n hb hx=>?_,I.base.free,fun b o e hx=>?_,I.base.tups,I.base.frzs,I.base.tbls⟩,⟨_,hn',fun j y v' e1 e2 e3=>?_⟩,fun y c e=>?_,I.free,I.freeC,fun p hp=>?_,tracked ⟨oL,hoL,I.free⟩ hs,by simpa using I.len⟩ ⟨_,hs,.inl rfl⟩
  ·exact (hs.2 b (Nat.ne_of_lt (Nat.lt_of_lt_of_le (Heap.lt_size e) I.ok.above))).trans (I.base.keep b o e n hb hx)
  ·obtain ⟨sl,e1⟩:=I.base.slot b o e n hb hx
   exact ⟨sl,(hs.2 b (Nat.ne_of_lt (Nat.lt_of_lt_of_le (Heap.lt_size e) I.ok.above))).trans e1⟩
  ·obtain ⟨o',e1⟩:=I.base.there b o e hx
   exact ⟨o',(hs.2 b (Nat.ne_of_lt (Nat.lt_of_lt_of_le (Heap.lt_size e) I.ok.above))).trans e1⟩
  ·by_cases hj:j = i
   ·subst hj
    rw [hi] at e1;cases e1
    rw [List.getElem?_set_self hiσ] at e2
    cases e2
    exact ⟨u,r,.inl ⟨hk,by simp⟩⟩
   ·rw [List.getElem?_set_ne (Ne.symm hj)] at e2
    obtain ⟨u',r',q⟩:=hl j y v' e1 e2 e3
    refine ⟨u',r',?_⟩
    rcases q with ⟨k,e⟩ | ⟨k,c,e,z⟩
    ·refine .inl ⟨k,?_⟩
     have:y ≠ x:=fun e=>hj (pB hN e1 (e ▸ hi))
     simp [this,e]
    ·exact .inr ⟨k,c,e,z.sameBut hs (cne y c e)⟩
  ·obtain ⟨w',z⟩:=I.cell y c e
   exact ⟨w',z.sameBut hs (cne y c e)⟩
  ·obtain ⟨e,n,ne,nf,d⟩:=I.pin p hp
   exact ⟨(hs.2 p.1 ne).trans e,n,ne,nf,d⟩
 ·have hfn:X.fn x = true:=by
   rcases hf with z | z
   ·exact z
   ·rw [z] at hk;cases hk
  obtain ⟨c,hc⟩:=I.ok.has x (.inl hk)
  obtain ⟨w',z⟩:=I.cell x c hc
  refine wpAny_storeName_cell I.ok.kind hk hc z (fun h' hc' hs=>?_)
  obtain ⟨oc,hoc,hocd⟩:=id z
  refine h { s with heap:=h' } ⟨I.ok,I.os,I.bare,⟨fun b o e n hb hx=>?_,fun b o e n hb hx=>?_,I.base.free,fun b o e hx=>?_,I.base.tups,I.base.frzs,I.base.tbls⟩,⟨m,hn.sameBut hs (Ne.symm (cne x c hc)),fun j y v' e1 e2 e3=>?_⟩,fun y c' e=>?_,I.free,I.freeC,fun p hp=>?_,tracked ⟨oc,hoc,I.freeC x c hc⟩ hs,by simpa using I.len⟩ ⟨c,hs,.inr hc⟩
  ·exact (hs.2 b (Nat.ne_of_lt (Nat.lt_of_lt_of_le (Heap.lt_size e) (I.ok.cab x c hfn hc)))).trans (I.base.keep b o e n hb hx)
  ·obtain ⟨sl,e1⟩:=I.base.slot b o e n hb hx
   exact ⟨sl,(hs.2 b (Nat.ne_of_lt (Nat.lt_of_lt_of_le (Heap.lt_size e) (I.ok.cab x c hfn hc)))).trans e1⟩
  ·obtain ⟨o',e1⟩:=I.base.there b o e hx
   exact ⟨o',(hs.2 b (Nat.ne_of_lt (Nat.lt_of_lt_of_le (Heap.lt_size e) (I.ok.cab x c hfn hc)))).trans e1⟩
  ·by_cases hj:j = i
   ·subst hj
    rw [hi] at e1;cases e1
    rw [List.getElem?_set_self hiσ] at e2
    cases e2
    exact ⟨u,r,.inr ⟨.inl hk,c,hc,hc'⟩⟩
   ·rw [List.getElem?_set_ne (Ne.symm hj)] at e2
    obtain ⟨u',r',q⟩:=hl j y v' e1 e2 e3
    refine ⟨u',r',?_⟩
    rcases q with q | ⟨k,c',e,z'⟩
    ·exact .inl q
    ·refine .inr ⟨k,c',e,z'.sameBut hs ?_⟩
     rintro rfl
     exact hj (pB hN e1 (I.ok.inj _ _ _ e hc ▸ hi))
  ·by_cases hcc:c' = c
   ·subst hcc;exact ⟨_,hc'⟩
   ·obtain ⟨w2,z2⟩:=I.cell y c' e
    exact ⟨w2,z2.sameBut hs hcc⟩
  ·obtain ⟨e,n,ne,nf,d⟩:=I.pin p hp
   refine ⟨(hs.2 p.1 ?_).trans e,n,ne,nf,d⟩
   intro q
   rw [q,hoc] at e
   have q':oc = p.2:=Option.some.inj e
   exact d w' (by rw [← q'];exact hocd)
theorem kQ {M:Model} {A:Around} {E:Value → Shared → Prop} {i:Nat} {x:Str} {v:V} {u:Value} {Q:Unit → Shared → Prop} (I:Inv X pins σ H s) (hN:X.N.Nodup) (hi:X.N[i]? = some x) (hx:Loc X.env.scope x) (r:aZ v u)
  (h:∀ s',Inv X pins (σ.set i (some v)) H s' → Q () s') (hf:X.fn x = true ∨ X.env.scope.names.lookup x = some .local:=by first | exact .inl rfl | exact .inr rfl | assumption):wpAny M A (storeName X.env x u) Q E s :=
 xI I hN hi hx r (fun s' I' _=>h s' I') hf
theorem Inv.call' {s':Shared} {ch:List Addr} (I:Inv X pins σ H s) (ho:s'.os = s.os) (u:Un (frs X.stack) ch H H' s.heap s'.heap) (hok:HOk X.prog X.w H' s'.heap) (hg:AllBare s'.gens)
  (hch:∀ b ∈ ch,(b ∈ X.ex ∨ X.s₀.heap.objs.size ≤ b) ∧ b ≠ X.env.locals ∧ (∀ x c,X.env.cells.lookup x = some c → c ≠ b) ∧ ∀ p ∈ X.pn ++ pins,p.1 ≠ b):Inv X pins σ H' s':=by
 obtain ⟨h',g',d',t',o'⟩:=s'
 have e:o' = s.os:=ho
 subst e
 exact I.call (g':=g') (t':=t') (d':=d') u hok hg hch
end
abbrev XK:=Value → Option Addr → Hp → Prop
abbrev St:=List (Option V)
abbrev VK:=V → Hp → Prop
abbrev TE:=St → Hp → VK → Prop
abbrev TT:=St → Hp → (Bool → Hp → Prop) → Prop
abbrev TA:=St → Hp → (List V → Hp → Prop) → Prop
structure Ends where
 nx:St → Hp → Prop
 rt:VK
 bk:St → Hp → Prop:=fun _ _=>False
 ct:St → Hp → Prop:=fun _ _=>False
abbrev TS:=Ends → St → Hp → Prop
def EP (X:Cx) (pins:List (Addr × Obj)) (σ:St) (Q:VK) (u:Value) (s':Shared):Prop:=∃ v H',Inv X pins σ H' s' ∧ aZ v u ∧ Q v H'
def TP (X:Cx) (pins:List (Addr × Obj)) (σ:St) (Q:Bool → Hp → Prop) (b:Bool) (s':Shared):Prop:=∃ H',Inv X pins σ H' s' ∧ Q b H'
def AP (X:Cx) (pins:List (Addr × Obj)) (σ:St) (Q:List V → Hp → Prop) (us:List Value) (s':Shared):Prop:=∃ vs H',Inv X pins σ H' s' ∧ aY vs us ∧ Q vs H'
def SP (X:Cx) (pins:List (Addr × Obj)) (D:Ends) (f:Flow) (s':Shared):Prop :=
 match f with
 | .next=>∃ σ' H',Inv X pins σ' H' s' ∧ D.nx σ' H'
 | .brk=>∃ σ' H',Inv X pins σ' H' s' ∧ D.bk σ' H'
 | .cont=>∃ σ' H',Inv X pins σ' H' s' ∧ D.ct σ' H'
 | .ret u=>∃ v σ' H',Inv X pins σ' H' s' ∧ aZ v u ∧ D.rt v H'
def PE (X:Cx) (e:Expr) (t:TE):Prop :=
 ∀ (pins:List (Addr × Obj)) (s:Shared) (σ:St) (H:Hp) (Q:VK),Inv X pins σ H s → t σ H Q → wpAny (model X.prog X.w) X.A (eval e X.env) (EP X pins σ Q) X.xe s
def PT (X:Cx) (e:Expr) (t:TT):Prop :=
 ∀ (pins:List (Addr × Obj)) (s:Shared) (σ:St) (H:Hp) (Q:Bool → Hp → Prop),Inv X pins σ H s → t σ H Q → wpAny (model X.prog X.w) X.A (isTrue e X.env (eval e X.env)) (TP X pins σ Q) X.xe s
def PW (X:Cx) (e:Expr) (t:TT):Prop :=
 ∀ (whole:Sem Value) (pins:List (Addr × Obj)) (s:Shared) (σ:St) (H:Hp) (Q:Bool → Hp → Prop),Inv X pins σ H s → t σ H Q → wpAny (model X.prog X.w) X.A (isTrue e X.env whole) (TP X pins σ Q) X.xe s
theorem PW.pt {X:Cx} {e:Expr} {t:TT} (h:PW X e t):PT X e t:=h _
def PA (X:Cx) (es:List Expr) (t:TA):Prop :=
 ∀ (pos:Pos) (pins:List (Addr × Obj)) (s:Shared) (σ:St) (H:Hp) (Q:List V → Hp → Prop),Inv X pins σ H s → t σ H Q → wpAny (model X.prog X.w) X.A (spliced (backTo pos (starEach es X.env))) (AP X pins σ Q) X.xe s
def PS (X:Cx) (st:Stmt) (t:TS):Prop :=
 ∀ (pins:List (Addr × Obj)) (s:Shared) (σ:St) (H:Hp) (D:Ends),Inv X pins σ H s → t D σ H → wpAny (model X.prog X.w) X.A (exec st X.env) (SP X pins D) X.xe s
def PSs (X:Cx) (st:List Stmt) (t:TS):Prop :=
 ∀ (pins:List (Addr × Obj)) (s:Shared) (σ:St) (H:Hp) (D:Ends),Inv X pins σ H s → t D σ H → wpAny (model X.prog X.w) X.A (execs st X.env) (SP X pins D) X.xe s
theorem thn {α:Type} {t:Sem α} {Q Q':α → Shared → Prop} {M:Model} {A:Around} {E:Value → Shared → Prop} {s:Shared} (h:wpAny M A t Q E s) (hQ:∀ a s,Q a s → Q' a s):wpAny M A t Q' E s:=wpAny_mono h hQ fun _ _ x=>x
end L2
namespace L2
open PySem PySem.Spec PyProof.Rows
section
variable {X:Cx}
def aFU (i:Nat):TE:=fun σ H Q=>∃ v,σ[i]? = some (some v) ∧ Q v H
def tC (v:V):TE:=fun _ H Q=>Q v H
theorem aEX {i:Nat} {x:Str} {pos:Pos} (hN:X.N[i]? = some x) (hv:Vis X.env.scope x) (hd:(x == ("__debug__":Str)) = false:=by decide) (hcd:(x == ("__classdict__":Str)) = false:=by decide):PE X (.Name x pos) (aFU i):=by
 intro pins s σ H Q I h
 obtain ⟨v,e,h⟩:=h
 obtain ⟨m,hn,hl⟩:=I.loc
 obtain ⟨u,r,l⟩:=hl i x v hN e hv
 have fin:EP X pins σ Q u s:=⟨v,H,I,r,h⟩
 rcases l with ⟨hk,hm⟩ | ⟨hk,c,hc,hcell⟩
 ·exact wpAny_Name (wpAny_loadName_local I.ok.kind hk hn hm fin) hd
 ·rcases hk with hk | hk
  ·exact wpAny_Name (wpAny_loadName_cell I.ok.kind hk hc hcell fin) hd
  ·exact wpAny_Name (wpAny_loadName_free I.ok.kind hk hc hcell fin hcd) hd
theorem aB {i j pos}:PE X (.Constant (.int i) j pos) (tC (.int i)):=fun _ _ _ H _ I h=>wpAny_Constant_int ⟨.int i,H,I.tok _,⟨_,rfl⟩,h⟩
theorem gS {b j pos}:PE X (.Constant (.bool b) j pos) (tC (.bl b)):=fun _ _ _ H _ I h=>Constant_bool ⟨.bl b,H,I,rfl,h⟩
theorem gG {j pos}:PE X (.Constant .none j pos) (tC .non):=fun _ _ _ H _ I h=>Constant_none ⟨.non,H,I,rfl,h⟩
theorem bI {x j pos}:PE X (.Constant (.str x) j pos) (tC (.str x)):=fun _ _ _ H _ I h=>Calls.Constant_str ⟨.str x,H,I.tok _,⟨_,rfl⟩,h⟩
def Gl (X:Cx) (x:Str):Prop:=X.env.kindOf x = some .globalImplicit
theorem kA {E:Value → Shared → Prop} {pins:List (Addr × Obj)} {s:Shared} {σ:St} {H:Hp} {x:Str} {u:Value} {pos:Pos} {Q:Value → Shared → Prop} (I:Inv X pins σ H s) (hg:Gl X x) (hm:X.mg x = some u) (h:Q u s)
  (hd:(x == ("__debug__":Str)) = false:=by decide):wpAny (model X.prog X.w) X.A (eval (.Name x pos) X.env) Q E s :=
 Calls.Name_function_global I.ok.kind hg (Calls.loadGlobal_global (by rw [I.ok.glob];exact I.mod.glob.keeps I.bk) hm h) hd
theorem sO {E:Value → Shared → Prop} {pins:List (Addr × Obj)} {s:Shared} {σ:St} {H:Hp} {x:Str} {u:Value} {pos:Pos} {Q:Value → Shared → Prop} (I:Inv X pins σ H s) (hg:Gl X x) (hm:X.mg x = none) (hv:bootBuiltins x = some u) (h:Q u s)
  (hn:x ≠ "__name__":=by decide) (hd:(x == ("__debug__":Str)) = false:=by decide):wpAny (model X.prog X.w) X.A (eval (.Name x pos) X.env) Q E s:=by
 obtain ⟨mb,h1,h2⟩:=I.mod.blt
 exact Calls.Name_function_global I.ok.kind hg (Calls.loadGlobal_builtin (by rw [I.ok.glob];exact I.mod.glob.keeps I.bk) hm (by rw [I.ok.blt];exact h1.keeps I.bk) ((h2 x hn).trans hv) h) hd
theorem eQ {x:Str} {v:V} {u:Value} {pos:Pos} (hg:Gl X x) (hm:X.mg x = some u) (r:aZ v u) (hd:(x == ("__debug__":Str)) = false:=by decide):PE X (.Name x pos) (tC v) :=
 fun _ _ _ H _ I h=>kA I hg hm ⟨v,H,I,r,h⟩ hd
theorem aCL {x:Str} {v:V} {u:Value} {pos:Pos} (hg:Gl X x) (hm:X.mg x = none) (hv:bootBuiltins x = some u) (r:aZ v u) (hn:x ≠ "__name__":=by decide) (hd:(x == ("__debug__":Str)) = false:=by decide):PE X (.Name x pos) (tC v) :=
 fun _ _ _ H _ I h=>sO I hg hm hv ⟨v,H,I,r,h⟩ hn hd
def t2I (ta tb:TE) (k:Int → Int → Hp → Prop):St → Hp → Prop:=fun σ H=>ta σ H fun x H1=>tb σ H1 fun y H2=>∃ i j,x = .int i ∧ y = .int j ∧ k i j H2
variable {a b:Expr} {ta tb:TE} {pos:Pos}
def tCmp (p:Int → Int → Bool) (ta tb:TE):TE:=fun σ H Q=>t2I ta tb (fun i j H2=>Q (.bl (p i j)) H2) σ H
def tB (t:TE):TT:=fun σ H Q=>t σ H fun x H1=>∃ c,x = .bl c ∧ Q c H1
theorem bW {e:Expr} {t:TE} (h:PE X e t) (he:∀ whole,isTrue e X.env whole = (do let v ← whole;standAt e.pos;holding [v] (truthy v)):=by intro _;rfl):PT X e (tB t):=by
 intro pins s σ H Q I hw
 refine isTrue_plain (thn (h pins s σ H _ I hw) fun v s1 ⟨x,H1,I1,r1,q1⟩=>?_) (he _)
 obtain ⟨d,rfl,q⟩:=q1
 cases r1
 exact wpAny_truthy_bool ⟨H1,I1,q⟩
variable {tA tB':TT} {rest:List Expr}
def tOr (t u:TT):TT:=fun σ H Q=>t σ H fun c H1=>if c = true then Q true H1 else u σ H1 Q
def aHM (t:TT):TT:=fun σ H Q=>t σ H fun c H1=>Q (!c) H1
theorem fS (ha:PT X a tA):PW X (.BoolOp .Or [a] pos) tA:=by
 intro wh pins s σ H Q I h
 refine isTrue_or (thn (ha pins s σ H Q I h) fun c s1 e=>?_)
 cases c with
 | false=>exact isTrue_or_nil e
 | true=>exact e
theorem iA (ha:PT X a tA) (hb:PW X (.BoolOp .Or (b :: rest) pos) tB'):PW X (.BoolOp .Or (a :: b :: rest) pos) (tOr tA tB'):=by
 intro wh pins s σ H Q I h
 refine isTrue_or (thn (ha pins s σ H _ I h) fun c s1 ⟨H1,I1,q1⟩=>?_)
 cases c with
 | true=>exact ⟨H1,I1,q1⟩
 | false=>exact hb wh pins s1 σ H1 Q I1 q1
theorem cD (ha:PT X a tA):PT X (.UnaryOp .Not a pos) (aHM tA):=by
 intro pins s σ H Q I h
 exact isTrue_not (ha pins s σ H (fun c H1=>Q (!c) H1) I h)
def aGC (ta tb:TE):TE:=fun σ H Q=>ta σ H fun x H1=>∃ c,x = .bl c ∧ if c = true then tb σ H1 Q else Q (.bl false) H1
def aHL (ta tb:TE):TE:=fun σ H Q=>ta σ H fun x H1=>∃ c,x = .bl c ∧ if c = true then Q (.bl true) H1 else tb σ H1 Q
def aFY (ta:TE):TE:=fun σ H Q=>ta σ H fun x H1=>∃ c,x = .bl c ∧ Q (.bl (!c)) H1
theorem dD {op} {t:TE} (h:PE X a t):PE X (.BoolOp op [a] pos) t:=fun pins s σ H Q I hw=>BoolOp_one (h pins s σ H Q I hw)
theorem cE (ha:PE X a ta) (hb:PE X (.BoolOp .And (b :: rest) pos) tb):PE X (.BoolOp .And (a :: b :: rest) pos) (aGC ta tb):=by
 intro pins s σ H Q I h
 refine BoolOp_and (thn (ha pins s σ H _ I h) fun v s1 ⟨x,H1,I1,r1,q1⟩=>?_)
 obtain ⟨c,rfl,q1⟩:=q1
 cases r1
 refine wpAny_truthy_bool ?_
 cases c with
 | true=>exact hb pins s1 σ H1 Q I1 q1
 | false=>exact ⟨.bl false,H1,I1,rfl,q1⟩
theorem aGL (ha:PE X a ta) (hb:PE X (.BoolOp .Or (b :: rest) pos) tb):PE X (.BoolOp .Or (a :: b :: rest) pos) (aHL ta tb):=by
 intro pins s σ H Q I h
 refine BoolOp_or (thn (ha pins s σ H _ I h) fun v s1 ⟨x,H1,I1,r1,q1⟩=>?_)
 obtain ⟨c,rfl,q1⟩:=q1
 cases r1
 refine wpAny_truthy_bool ?_
 cases c with
 | false=>exact hb pins s1 σ H1 Q I1 q1
 | true=>exact ⟨.bl true,H1,I1,rfl,q1⟩
theorem aAA (ha:PE X a ta):PE X (.UnaryOp .Not a pos) (aFY ta):=by
 intro pins s σ H Q I h
 refine UnaryOp_ (thn (ha pins s σ H _ I h) fun v s1 ⟨x,H1,I1,r1,q1⟩=>?_)
 obtain ⟨c,rfl,q1⟩:=q1
 cases r1
 exact not_of (wpAny_truthy_bool ⟨.bl (!c),H1,I1,rfl,q1⟩)
end
end L2
namespace L2
open PySem PySem.Spec PyProof.Rows
def SqL (K:PySem.W.Frag) (H:Hp) (a:Addr) (xs:List V):Prop :=
 Rd H a (.lst xs) ∨
  ∃ (o:Obj) (its:Array Value) (n:Nat),K.lookup a = some o ∧ o.cls = .type "list" ∧ o.dict = none ∧ o.data = .seq its n ∧ its.size ≤ sizeLine ∧ aY xs its.toList
def SqT (K:PySem.W.Frag) (H:Hp) (a:Addr) (xs:List V):Prop :=
 Rd H a (.tup xs) ∨
  ∃ (o:Obj) (its:Array Value) (n:Nat),K.lookup a = some o ∧ o.cls = .type "tuple" ∧ o.data = .seq its n ∧ its.size ≤ sizeLine ∧ aY xs its.toList
def aID:Value → Option V
 | .none=>some .non
 | .bool b=>some (.bl b)
 | .int i _=>some (.int i)
 | .str x _=>some (.str x)
 | .bytes b _=>some (.byt b)
 | .float b _=>some (.flt b)
 | .ref a=>some (.ref a)
 | .type n=>some (.ty n)
 | _=>none
theorem aZ.abs {x:V} {u:Value} (r:aZ x u):aID u = some x:=by
 cases x with
 | non=>cases r;rfl
 | bl _=>cases r;rfl
 | int _=>obtain ⟨t,rfl⟩:=r;rfl
 | str _=>obtain ⟨t,rfl⟩:=r;rfl
 | byt _=>obtain ⟨t,rfl⟩:=r;rfl
 | flt _=>obtain ⟨t,rfl⟩:=r;rfl
 | ref _=>cases r;rfl
 | ty _=>cases r;rfl
theorem aZ.inj {x y:V} {u:Value} (r:aZ x u) (q:aZ y u):x = y:=Option.some.inj (r.abs.symm.trans q.abs)
theorem aY.inj:∀ {xs ys:List V} {us:List Value},aY xs us → aY ys us → xs = ys
 | _,_,_,.nil,.nil=>rfl
 | _,_,_,.cons r t,.cons r' t'=>by rw [r.inj r',aY.inj t t']
section
variable {X:Cx} {pins:List (Addr × Obj)} {σ:St} {H:Hp} {s:Shared} {a:Addr} {xs ys:List V}
theorem SqL.of {K:PySem.W.Frag} (h:H a = some (.lst xs)):SqL K H a xs:=.inl (.inl h)
theorem SqT.of {K:PySem.W.Frag} (h:H a = some (.tup xs)):SqT K H a xs:=.inl (.inl h)
theorem Inv.list (I:Inv X pins σ H s) (h:SqL X.K H a xs):∃ its:List Value,aY xs its ∧ PlainL s.heap a its.toArray ∧ xs.length ≤ sizeLine:=by
 rcases h with h | ⟨o,its,n,hk,hc,hd,hs,hz,r⟩
 ·obtain ⟨z,its,n,r,e⟩:=h.ok I.hok
  exact ⟨its,r,⟨_,n,e,rfl,rfl,rfl⟩,z⟩
 ·refine ⟨its.toList,r,⟨o,n,I.kIn a o hk,hc,hd,by simpa using hs⟩,?_⟩
  have e:=r.length
  simp only [Array.length_toList] at e
  omega
theorem Inv.tuple (I:Inv X pins σ H s) (h:SqT X.K H a xs):∃ its:List Value,aY xs its ∧ IsTup s.heap a its.toArray ∧ xs.length ≤ sizeLine:=by
 rcases h with h | ⟨o,its,n,hk,hc,hs,hz,r⟩
 ·obtain ⟨z,its,r,p⟩:=h.ok I.hok
  exact ⟨its,r,p.tup,z⟩
 ·refine ⟨its.toList,r,⟨o,I.kIn a o hk,hc,n,by simpa using hs⟩,?_⟩
  have e:=r.length
  simp only [Array.length_toList] at e
  omega
theorem Inv.list_inj (I:Inv X pins σ H s) (h:SqL X.K H a xs) (h':SqL X.K H a ys):xs = ys:=by
 obtain ⟨its,r,⟨o,n,e,_,_,d⟩,_⟩:=I.list h
 obtain ⟨its',r',⟨o',n',e',_,_,d'⟩,_⟩:=I.list h'
 rw [e] at e';cases e'
 rw [d] at d'
 injection d' with d1 _
 have:its = its':=by simpa using congrArg Array.toList d1
 subst this
 exact r.inj r'
end
abbrev Cx.wish (X:Cx) (E:Value → Shared → Prop):Cx:={ X with xe:=E }
abbrev Cx.nox (X:Cx):Cx:=X.wish fun _ _=>False
theorem Cx.Ok.wish {X:Cx} (ok:X.Ok) (E:Value → Shared → Prop):(X.wish E).Ok :=
 ⟨ok.mod,ok.kind,ok.glob,ok.blt,ok.above,ok.inj,ok.has,ok.cab,ok.hd,ok.frames,ok.stk,ok.exf,ok.bs,ok.bsz,ok.noex,ok.exfs,ok.funs,ok.frf⟩
theorem Cx.Ok.unwish {X:Cx} {E:Value → Shared → Prop} (ok:(X.wish E).Ok):X.Ok :=
 ⟨ok.mod,ok.kind,ok.glob,ok.blt,ok.above,ok.inj,ok.has,ok.cab,ok.hd,ok.frames,ok.stk,ok.exf,ok.bs,ok.bsz,ok.noex,ok.exfs,ok.funs,ok.frf⟩
section
variable {X:Cx} {pins:List (Addr × Obj)} {σ:St} {H:Hp} {s:Shared} {E:Value → Shared → Prop}
theorem Inv.wish (I:Inv X pins σ H s) (E:Value → Shared → Prop):Inv (X.wish E) pins σ H s:=⟨I.ok.wish E,I.os,I.bare,I.base,I.loc,I.cell,I.free,I.freeC,I.pin,I.hok,I.len⟩
theorem Inv.unwish (I:Inv (X.wish E) pins σ H s):Inv X pins σ H s:=⟨I.ok.unwish,I.os,I.bare,I.base,I.loc,I.cell,I.free,I.freeC,I.pin,I.hok,I.len⟩
theorem SP.unwish {D:Ends} {f:Flow} {s':Shared} (h:SP (X.wish E) pins D f s'):SP X pins D f s':=by
 cases f with
 | next=>obtain ⟨σ',H',I,q⟩:=h;exact ⟨σ',H',I.unwish,q⟩
 | brk=>obtain ⟨σ',H',I,q⟩:=h;exact ⟨σ',H',I.unwish,q⟩
 | cont=>obtain ⟨σ',H',I,q⟩:=h;exact ⟨σ',H',I.unwish,q⟩
 | ret u=>obtain ⟨v,σ',H',I,r,q⟩:=h;exact ⟨v,σ',H',I.unwish,r,q⟩
theorem PSs.nox {st:List Stmt} {t:TS} (h:PSs X.nox st t):PSs X st t:=fun pins s σ H D I hw =>
 wpAny_mono (h pins s σ H D (I.wish _) hw) (fun _ _ q=>q.unwish) fun _ _ z=>False.elim z
end
section
variable {X:Cx} {st:Stmt} {rest:List Stmt} {t u:TS} {e:Expr} {te:TE} {pos:Pos}
def aFZ:TS:=fun D σ H=>D.nx σ H
def fY (t u:TS):TS:=fun D σ H=>t { D with nx:=u D } σ H
theorem bM:PSs X [] aFZ:=fun _ _ σ H _ I h=>wpAny_execs_nil ⟨σ,H,I,h⟩
theorem aG (h1:PS X st t) (h2:PSs X rest u):PSs X (st :: rest) (fY t u):=by
 intro pins s σ H D I h
 refine wpAny_execs_cons (thn (h1 pins s σ H { D with nx:=u D } I h) fun f s1 q=>?_)
 cases f with
 | next =>
  obtain ⟨σ',H',I',q⟩:=q
  exact h2 pins s1 σ' H' D I' q
 | ret v=>exact q
 | brk=>exact q
 | cont=>exact q
theorem aI (h1:PS X st t):PSs X [st] t:=by
 intro pins s σ H D I h
 refine wpAny_execs_cons (thn (h1 pins s σ H D I h) fun f s1 q=>?_)
 cases f with
 | next=>exact wpAny_execs_nil q
 | ret v=>exact q
 | brk=>exact q
 | cont=>exact q
theorem Inv.quiet {pins:List (Addr × Obj)} {σ:St} {H:Hp} {s:Shared} (I:Inv X pins σ H s):interactive X.env = false:=by simp [interactive,I.ok.kind]
def aDS (te:TE):TS:=fun D σ H=>te σ H fun _ H1=>D.nx σ H1
theorem jW (he:PE X e te) (hs:swapsWith e none pos.line X.env = pure false:=by rfl):PS X (.Expr e pos) (aDS te):=by
 intro pins s σ H D I h
 exact wpAny_Expr_any (thn (he pins s σ H _ I h) fun v s1 ⟨x,H1,I1,r1,q1⟩=>⟨σ,H1,I1,q1⟩) I.quiet hs
def aHK (te:TE):TS:=fun D σ H=>te σ H D.rt
theorem aT (he:PE X e te):PS X (.Return (some e) pos) (aHK te):=by
 intro pins s σ H D I h
 exact wpAny_Return_some (thn (he pins s σ H _ I h) fun v s1 ⟨x,H1,I1,r1,q1⟩=>⟨x,σ,H1,I1,r1,q1⟩)
def aEM (c:TT) (t u:TS):TS:=fun D σ H=>c σ H fun b H1=>if b = true then t D σ H1 else u D σ H1
theorem cN {c:Expr} {a b:List Stmt} {tc:TT} (hc:PT X c tc) (ha:PSs X a t) (hb:PSs X b u):PS X (.If c a b pos) (aEM tc t u):=by
 intro pins s σ H D I h
 refine wpAny_If (thn (hc pins s σ H _ I h) fun d s1 ⟨H1,I1,q1⟩=>?_)
 cases d with
 | true=>exact ha pins s1 σ H1 D I1 q1
 | false=>exact hb pins s1 σ H1 D I1 q1
def yU:TS:=fun _ _ _=>False
theorem jE:PS X st yU:=fun _ _ _ _ _ _ h=>h.elim
theorem lP {sts:List Stmt}:PSs X sts yU:=fun _ _ _ _ _ _ h=>h.elim
end
abbrev TG:=V → St → Hp → (St → Hp → Prop) → Prop
abbrev TGs:=List V → St → Hp → (St → Hp → Prop) → Prop
def PG (X:Cx) (target:Expr) (t:TG):Prop :=
 ∀ (pins:List (Addr × Obj)) (s:Shared) (σ:St) (H:Hp) (v:V) (u:Value) (Q:St → Hp → Prop),Inv X pins σ H s → aZ v u → t v σ H Q →
  wpAny (model X.prog X.w) X.A (assign target X.env u) (fun _ s'=>∃ σ' H',Inv X pins σ' H' s' ∧ Q σ' H') X.xe s
def PGs (X:Cx) (ts:List Expr) (t:TGs):Prop :=
 ∀ (pins:List (Addr × Obj)) (s:Shared) (σ:St) (H:Hp) (vs:List V) (us:List Value) (Q:St → Hp → Prop),Inv X pins σ H s → aY vs us → t vs σ H Q →
  wpAny (model X.prog X.w) X.A (assignInOrder ((assignEach ts X.env).map (·.2)) us) (fun _ s'=>∃ σ' H',Inv X pins σ' H' s' ∧ Q σ' H') X.xe s
abbrev TSet:=V → V → V → Hp → (Hp → Prop) → Prop
abbrev TIp:=V → V → Hp → VK → Prop
section
variable {X:Cx} {pos:Pos}
def lG (i:Nat):TG:=fun v σ H Q=>Q (σ.set i (some v)) H
theorem bN {i:Nat} {x:Str} (hN:X.N.Nodup) (hi:X.N[i]? = some x) (hx:Loc X.env.scope x) (hf:X.fn x = true ∨ X.env.scope.names.lookup x = some .local:=by first | exact .inl rfl | exact .inr rfl | assumption):PG X (.Name x pos) (lG i):=by
 intro pins s σ H v u Q I r h
 exact wpAny_assign_Name (kQ I hN hi hx r (fun s' I'=>⟨_,H,I',h⟩) hf)
def aHB:TGs:=fun vs σ H Q=>vs = [] ∧ Q σ H
def aEE (t:TG) (u:TGs):TGs:=fun vs σ H Q=>∃ v r,vs = v :: r ∧ t v σ H fun σ' H'=>u r σ' H' Q
theorem wP:PGs X [] aHB:=by
 intro pins s σ H vs us Q I r h
 obtain ⟨e,h⟩:=h
 subst e
 cases r
 exact assignInOrder_nil ⟨σ,H,I,h⟩
theorem jG {e:Expr} {es:List Expr} {t:TG} {u:TGs} (h1:PG X e t) (h2:PGs X es u)
  (hs:(assignEach (e :: es) X.env).map (·.2) = assign e X.env :: (assignEach es X.env).map (·.2):=by rfl):PGs X (e :: es) (aEE t u):=by
 intro pins s σ H vs us Q I r h
 obtain ⟨v,vr,e1,h⟩:=h
 subst e1
 cases r with
 | cons r rr =>
  rw [hs]
  refine assignInOrder_cons (thn (h1 pins s σ H _ _ _ I r h) fun _ s1 ⟨σ1,H1,I1,q1⟩=>?_)
  exact h2 pins s1 σ1 H1 _ _ Q I1 rr q1
def aAW (K:PySem.W.Frag) (n:Nat) (t:TGs):TG:=fun v σ H Q=>∃ a xs,v = .ref a ∧ SqT K H a xs ∧ xs.length = n ∧ t xs σ H Q
theorem zZ {es:List Expr} {k:Nat} {t:TGs} {n:Nat} (hc:X.calm = true) (h:PGs X es t)
  (hn:(assignEach es X.env).length = n:=by rfl) (hst:(assignEach es X.env).findIdx? (·.1) = none:=by rfl):PG X (.Tuple es k pos) (aAW X.K n t):=by
 intro pins s σ H v u Q I r hw
 obtain ⟨a,xs,e1,hq,hl,hw⟩:=hw
 subst e1
 cases r
 obtain ⟨its,rv,ht,hz⟩:=I.tuple hq
 refine assign_Tuple_tuple (I.ok.hd hc) ht (by simp [hn,← hl,rv.length]) hst fun h' hx=>?_
 have I1:Inv X pins σ H { s with heap:=h' }:=I.kept (t':=s.toks) fun b o e=>hx b o (Nat.ne_of_lt (Heap.lt_size e)) e
 exact h pins _ σ H xs _ Q I1 (by simpa using rv) hw
def aEP (te:TE) (g:TG):TS:=fun D σ H=>te σ H fun x H1=>g x σ H1 D.nx
theorem aW {i:Nat} {x:Str} {e:Expr} {te:TE} {pos':Pos} (hN:X.N.Nodup) (hi:X.N[i]? = some x) (hx:Loc X.env.scope x) (he:PE X e te) (hs:swapsWith e (some (.Name x pos')) pos.line X.env = pure false:=by rfl) (hf:X.fn x = true ∨ X.env.scope.names.lookup x = some .local:=by first | exact .inl rfl | exact .inr rfl | assumption) :
  PS X (.Assign [.Name x pos'] e pos) (aEP te (lG i)):=by
 intro pins s σ H D I h
 refine wpAny_Assign_Name (thn (he pins s σ H _ I h) fun v s1 ⟨y,H1,I1,r1,q1⟩=>?_) hs
 exact kQ I1 hN hi hx r1 (fun s2 I2=>⟨_,H1,I2,q1⟩) hf
end
section
variable {X:Cx} {pos:Pos}
def yT (c:TT) (tb:TS):TS:=fun D σ H=>∃ W:Nat → St → Hp → Prop,(∃ m,W m σ H) ∧ ∀ m σ H,W m σ H →
 c σ H fun b H1=>if b = true then ∃ N:St → Hp → Prop,(∀ σ' H',N σ' H' → ∃ m',m' < m ∧ W m' σ' H') ∧ tb { D with nx:=N,ct:=N,bk:=D.nx } σ H1 else D.nx σ H1
theorem zW {c:Expr} {body:List Stmt} {tc:TT} {tb:TS} (hp:PassesOwn (model X.prog X.w) X.A X.env X.xe) (hc:PT X c tc) (hb:PSs X body tb):PS X (.While c body [] pos) (yT tc tb):=by
 intro pins s σ H D I h
 obtain ⟨W,⟨m0,w0⟩,turn⟩:=h
 refine wpAny_While (codeAny_whileLoop (fun n s'=>∃ σ' H',Inv X pins σ' H' s' ∧ W n σ' H') ?_ m0 ⟨σ,H,I,w0⟩)
 rintro n s1 ⟨σ1,H1,I1,w1⟩
 refine wpAny_passesOwn hp (thn (hc pins s1 σ1 H1 _ I1 (turn n σ1 H1 w1)) fun b s2 ⟨H2,I2,q2⟩=>?_)
 cases b with
 | true =>
  obtain ⟨N,hN,q2⟩:=q2
  rw [if_pos rfl]
  refine wpAny_passesOwn hp (thn (hb pins s2 σ1 H2 _ I2 q2) fun f s3 q3=>?_)
  cases f with
  | next =>
   obtain ⟨σ3,H3,I3,n3⟩:=q3
   obtain ⟨m',hm,w3⟩:=hN σ3 H3 n3
   exact ⟨m',hm,σ3,H3,I3,w3⟩
  | cont =>
   obtain ⟨σ3,H3,I3,n3⟩:=q3
   obtain ⟨m',hm,w3⟩:=hN σ3 H3 n3
   exact ⟨m',hm,σ3,H3,I3,w3⟩
  | brk=>exact q3
  | ret v=>exact q3
 | false =>
  rw [if_neg Bool.false_ne_true]
  exact wpAny_execs_nil ⟨σ1,H2,I2,q2⟩
end
structure It where
 go:Nat → Hp → Prop
 yld:Nat → Hp → V → Hp → Prop
 stop:Nat → Hp → Prop
def tD (X:Cx) (pins:List (Addr × Obj)) (H:Hp) (b:Addr):Prop :=
 H b = none ∧ b ≠ X.env.locals ∧ b ∉ X.fs ∧ (b ∈ X.ex ∨ X.s₀.heap.objs.size ≤ b) ∧ (∀ x c,X.env.cells.lookup x = some c → c ≠ b) ∧ ∀ p ∈ X.pn ++ pins,p.1 ≠ b
theorem Inv.fpOk {X:Cx} {pins:List (Addr × Obj)} {σ:St} {H H':Hp} {s:Shared} {b:Addr} (I:Inv X pins σ H s) (hb:s.heap.objs.size ≤ b) (hn:H' b = none):tD X pins H' b:=by
 refine ⟨hn,Nat.ne_of_gt (Nat.lt_of_lt_of_le I.lt hb),I.nofs hb,.inr (Nat.le_trans I.sz hb),fun x c e z=>?_,fun p hp z=>?_⟩
 ·obtain ⟨v,q⟩:=I.cell x c e
  exact absurd (Nat.lt_of_lt_of_le q.lt (by rw [z];exact hb)) (Nat.lt_irrefl _)
 ·exact absurd (Nat.lt_of_lt_of_le (Heap.lt_size (I.pin p hp).1) (by rw [z];exact hb)) (Nat.lt_irrefl _)
structure Turn (P:Program) (w:World) (K:PySem.W.Frag) (tg:Expr) (J:It) (fp:List Addr) (it:Addr) (tn:Nat → Heap → Prop):Prop where
 mem:it ∈ fp
 obj:∀ i h,tn i h → ∀ b ∈ fp,∃ o,h.get? b = some o ∧ ∀ v,o.data ≠ .cell v
 keep:∀ i h h',tn i h → (∀ b ∈ fp,∀ o,h.get? b = some o → h'.get? b = some o) → tn i h'
 item:∀ (X:Cx),X.prog = P → X.w = w → X.K = K → X.calm = true → ∀ (i:Nat) (pins:List (Addr × Obj)) (s:Shared) (σ:St) (H:Hp) (E:Value → Shared → Prop),Inv X pins σ H s → (∀ b ∈ fp,tD X pins H b) → tn i s.heap → J.go i H →
  wpAny (model P w) X.A (pyNext (.ref it)) (fun r s1=>∃ u,r = some u ∧
   wpAny (model P w) X.A (letOwnedTupleGo tg (.ref it) u) (fun _ s2=>∃ x H',Inv X pins σ H' s2 ∧ aZ x u ∧ J.yld i H x H' ∧ tn (i + 1) s2.heap ∧ ∀ b ∈ fp,H' b = none) E s1) E s
 done:∀ (X:Cx),X.prog = P → X.w = w → X.K = K → X.calm = true → ∀ (i:Nat) (pins:List (Addr × Obj)) (s:Shared) (σ:St) (H:Hp) (E:Value → Shared → Prop),Inv X pins σ H s → (∀ b ∈ fp,tD X pins H b) → tn i s.heap → J.stop i H →
  wpAny (model P w) X.A (pyNext (.ref it)) (fun r s1=>r = none ∧ Inv X pins σ H s1) E s
 self:∀ (A:Around) (i:Nat) (s:Shared) (Q:Value → Shared → Prop) (E:Value → Shared → Prop),tn i s.heap → Q (.ref it) s → wpAny (model P w) A (pyIter (.ref it)) Q E s
abbrev TI:=St → Hp → (It → Hp → Prop) → Prop
def PIE (X:Cx) (pins:List (Addr × Obj)) (σ:St) (tg:Expr) (R:It → Hp → Prop) (itv:Value) (s2:Shared):Prop :=
 ∃ (it:Addr) (fp:List Addr) (tn:Nat → Heap → Prop) (J:It) (H':Hp),itv = .ref it ∧ Inv X pins σ H' s2 ∧ Turn X.prog X.w X.K tg J fp it tn ∧ tn 0 s2.heap ∧ (∀ b ∈ fp,tD X pins H' b) ∧ R J H'
def PI (X:Cx) (tg iter:Expr) (wi:TI):Prop :=
 ∀ (pins:List (Addr × Obj)) (s:Shared) (σ:St) (H:Hp) (R:It → Hp → Prop),Inv X pins σ H s → wi σ H R →
  wpAny (model X.prog X.w) X.A (eval iter X.env) (fun v s1=>wpAny (model X.prog X.w) X.A (pyIter v) (PIE X pins σ tg R) X.xe s1) X.xe s
theorem wZ {M:Model} {A:Around} {E:Value → Shared → Prop} {s:Shared} {tg:Expr} {it:Addr} {u:Value} {o:Obj} {n:String} {vs:Array Value} {Q:Unit → Shared → Prop} (ho:s.heap.get? it = some o) (hc:o.cls = .type n) (hd:o.data = .fields vs)
    (hn:["enumerate","zip","dict_itemiterator","dict_reverseitemiterator","odict_iterator","itertools.zip_longest","itertools.pairwise"].contains n = false) (hQ:Q () s):wpAny M A (letOwnedTupleGo tg (.ref it) u) Q E s:=by
  unfold letOwnedTupleGo
  cases tg <;> first
    | exact wpAny_pure hQ
    | (cases u <;> first
        | exact wpAny_pure hQ
        | (refine wpAny_bind (wpAny_load ho ?_)
           rw [hc,hd]
           show wpAny M A (if (["enumerate","zip","dict_itemiterator","dict_reverseitemiterator","odict_iterator","itertools.zip_longest","itertools.pairwise"].contains n && vs[0]? == some (rawInt _)) = true then _ else _) Q E s
           rw [if_neg (by intro h;rw [hn,Bool.false_and] at h;cases h)]
           exact wpAny_pure hQ))
def Itl (K:PySem.W.Frag) (a:Addr):It :=
 ⟨fun i H=>∃ xs x,SqL K H a xs ∧ xs[i]? = some x,fun i H x H'=>H' = H ∧ ∀ xs,SqL K H a xs → xs[i]? = some x,fun i H=>∃ xs,SqL K H a xs ∧ xs.length ≤ i⟩
def Itt (K:PySem.W.Frag) (a:Addr):It :=
 ⟨fun i H=>∃ xs x,SqT K H a xs ∧ xs[i]? = some x,fun i H x H'=>H' = H ∧ ∀ xs,SqT K H a xs → xs[i]? = some x,fun i H=>∃ xs,SqT K H a xs ∧ xs.length ≤ i⟩
def Itr (lo:Int) (n:Nat):It:=⟨fun i _=>i < n,fun i H x H'=>H' = H ∧ x = .int (lo + i),fun i _=>n ≤ i⟩
theorem xG {P:Program} {w:World} {K:PySem.W.Frag} {tg:Expr} (a it:Addr):Turn P w K tg (Itl K a) [it] it (fun i h=>h.IsListIter it a i) where
 mem:=by simp
 obj:=fun i h st b hb=>by
  have e:b = it:=by simpa using hb
  subst e
  obtain ⟨o,e,c,d⟩:=st
  exact ⟨o,e,fun v z=>by rw [d] at z;cases z⟩
 keep:=fun i h h' st k=>st.at fun o e=>k it (by simp) o e
 item:=by
  intro X hP hw hK hc i pins s σ H E I hf st hg
  subst hP hw hK
  obtain ⟨xs,x,hq,hx⟩:=hg
  obtain ⟨its,rv,p,hz⟩:=I.list hq
  obtain ⟨u,hu,ru⟩:=rv.get hx
  obtain ⟨f0,f1,f2,f3,f4,f5⟩:=hf it (by simp)
  refine wpAny_pyNext_list_item st p.isList (x:=u) (by simpa using hu) fun h' st' sb=>?_
  have I1:Inv X pins σ H { s with heap:=h' }:=I.turned (t':=s.toks) (fun b o hb e=>(sb.2 b hb).trans e) f0 f1 f3 f4 f5
  obtain ⟨o,e,c,d⟩:=id st'
  exact ⟨u,rfl,wZ (s:={ s with heap:=h' }) e c d (by decide) ⟨x,H,I1,ru,⟨rfl,fun ys hy=>by rw [I.list_inj hy hq];exact hx⟩,st',fun b hb=>(hf b hb).1⟩⟩
 done:=by
  intro X hP hw hK hc i pins s σ H E I hf st hg
  subst hP hw hK
  obtain ⟨xs,hq,hx⟩:=hg
  obtain ⟨its,rv,p,hz⟩:=I.list hq
  obtain ⟨f0,f1,f2,f3,f4,f5⟩:=hf it (by simp)
  have hl:=rv.length
  exact wpAny_pyNext_list_end (I.ok.hd hc) st p.isList (by simp;omega) fun h' eb=>⟨rfl,I.turned (t':=s.toks) (fun b o hb e=>eb b o hb e) f0 f1 f3 f4 f5⟩
 self:=fun _ _ _ _ _ st h=>wpAny_pyIter_listiter st h
theorem uT {P:Program} {w:World} {K:PySem.W.Frag} {tg:Expr} (it:Addr) (lo:Int) (n:Nat):Turn P w K tg (Itr lo n) [it] it (fun i h=>IsRangeIter h it (lo + (i:Nat) * 1) ((n:Int) - (i:Nat)) 1) where
 mem:=by simp
 obj:=fun i h st b hb=>by
  have e:b = it:=by simpa using hb
  subst e
  exact ⟨_,st,fun v z=>by
   have z':Data.fields _ = Data.cell v:=z
   cases z'⟩
 keep:=fun i h h' st k=>k it (by simp) _ st
 item:=by
  intro X hP hw hK hc i pins s σ H E I hf st hg
  subst hP hw hK
  obtain ⟨f0,f1,f2,f3,f4,f5⟩:=hf it (by simp)
  have W:=Walks.range (prog:=X.prog) (w:=X.w) (I.ok.hd hc) it lo 1 n
  refine W.item i s _ _ hg st fun v h' tk hv st' kk=>?_
  obtain ⟨t,rfl⟩:=hv
  have I1:Inv X pins σ H { s with heap:=h',toks:=tk }:=I.turned (fun b o hb e=>kk b o (by simpa using hb) e) f0 f1 f3 f4 f5
  refine ⟨_,rfl,wZ (s:={ s with heap:=h',toks:=tk }) (n:="range_iterator") st' rfl rfl (by decide) ⟨.int (lo + i),H,I1,⟨t,?_⟩,⟨rfl,rfl⟩,st',fun b hb=>(hf b hb).1⟩⟩
  rw [Int.mul_one]
 done:=by
  intro X hP hw hK hc i pins s σ H E I hf st hg
  subst hP hw hK
  obtain ⟨f0,f1,f2,f3,f4,f5⟩:=hf it (by simp)
  exact wpAny_pyNext_range_end (I.ok.hd hc) st (by have:n ≤ i:=hg;omega) fun h' eb=>⟨rfl,I.turned (t':=s.toks) (fun b o hb e=>eb b o hb e) f0 f1 f3 f4 f5⟩
 self:=fun _ _ _ _ _ st h=>wpAny_pyIter_rangeiter st h
end L2
namespace L2
open PySem PySem.Spec PyProof.Rows
section
variable {X:Cx} {tg:Expr}
def aAR (K:PySem.W.Frag) (tl:TE):TI:=fun σ H R=>tl σ H fun x H1=>∃ a,x = .ref a ∧ (∃ xs,SqL K H1 a xs) ∧ R (Itl K a) H1
theorem dY {l:Expr} {tl:TE} (hl:PE X l tl):PI X tg l (aAR X.K tl):=by
 intro pins s σ H R I h
 refine thn (hl pins s σ H _ I h) fun v s1 ⟨x,H1,I1,r1,q1⟩=>?_
 obtain ⟨a,e,⟨xs,hq⟩,q⟩:=q1
 subst e
 cases r1
 obtain ⟨its,rv,p,hz⟩:=I1.list hq
 refine wpAny_pyIter_list p.isList ?_
 refine ⟨s1.heap.objs.size,[s1.heap.objs.size],_,_,H1,rfl,I1.kept (t':=s1.toks) fun b o e=>Heap.get?_push_of_some _ e,xG a _,⟨_,Heap.get?_push_size _ rfl,rfl,rfl⟩,fun b hb=>?_,q⟩
 have e:b = s1.heap.objs.size:=by simpa using hb
 subst e
 exact I1.fpOk (Nat.le_refl _) (I1.hok.fresh (Nat.le_refl _))
theorem zT {pins:List (Addr × Obj)} {σ:St} {H:Hp} {s:Shared} {R:It → Hp → Prop} {E:Value → Shared → Prop} {lo hi:Int} {t u v:Tok} {tk:Nat} (I:Inv X pins σ H s) (h1:-(2 ^ 62) ≤ lo) (h2:lo < 2 ^ 62) (h3:-(2 ^ 62) ≤ hi) (h4:hi < 2 ^ 62)
  (q:R (Itr lo (hi - lo).toNat) H):wpAny (model X.prog X.w) X.A (pyIter (.ref s.heap.objs.size)) (PIE X pins σ tg R) E { s with heap:=s.heap.push { cls:=.type "range",data:=.fields #[.int lo t,.int hi u,.int 1 v] },toks:=tk }:=by
 refine wpAny_pyIter_range (IsRange.new ..) (small_one h1 h2 h3 h4) ?_
 have I1:Inv X pins σ H { s with heap:=s.heap.push { cls:=.type "range",data:=.fields #[.int lo t,.int hi u,.int 1 v] },toks:=tk }:=I.kept fun b o e=>Heap.get?_push_of_some _ e
 refine ⟨(s.heap.push { cls:=.type "range",data:=.fields #[.int lo t,.int hi u,.int 1 v] }).objs.size,[(s.heap.push { cls:=.type "range",data:=.fields #[.int lo t,.int hi u,.int 1 v] }).objs.size],_,_,H,rfl,
  I1.kept (t':=tk) fun b o e=>Heap.get?_push_of_some _ e,uT _ lo (hi - lo).toNat,?_,fun b hb=>?_,q⟩
 ·have e1:lo + ((0:Nat):Int) * 1 = lo:=by simp
  have e2:(((hi - lo).toNat:Nat):Int) - ((0:Nat):Int) = Builtin.Range.rangeSize lo hi 1:=by rw [rangeSize_one];split <;> omega
  show IsRangeIter _ _ (lo + ((0:Nat):Int) * 1) ((((hi - lo).toNat:Nat):Int) - ((0:Nat):Int)) 1
  rw [e1,e2]
  exact Heap.get?_push_size _ rfl
 ·have e:b = (s.heap.push { cls:=.type "range",data:=.fields #[.int lo t,.int hi u,.int 1 v] }).objs.size:=by simpa using hb
  subst e
  exact I1.fpOk (Nat.le_refl _) (I1.hok.fresh (Nat.le_refl _))
def aGZ (ta:TA):TI:=fun σ H R=>ta σ H fun vs H1=>∃ j:Int,vs = [.int j] ∧ -(2 ^ 62) ≤ j ∧ j < 2 ^ 62 ∧ R (Itr 0 j.toNat) H1
theorem iB {a:Expr} {ta:TA} {p pos:Pos} (hg:Gl X "range") (hm:X.mg "range" = none) (ha:PA X [a] ta) (hs:starEach [a] X.env = [(false,eval a X.env)]:=by rfl):PI X tg (.Call (.Name "range" p) [a] [] pos) (aGZ ta):=by
 intro pins s σ H R I h
 refine Call_ (sO I hg hm boot_range (PyProof.Rows.callWith_type1 (thn (ha pos pins s σ H _ I h) fun us s1 ⟨vs,H1,I1,r1,q1⟩=>?_) hs rfl))
 obtain ⟨j,e,q1,q2,q⟩:=q1
 subst e
 cases r1 with
 | cons r rr =>
  cases rr
  obtain ⟨t,rfl⟩:=r
  exact call_range_1 (zT I1 (by omega) (by omega) q1 q2 (by simpa using q))
def aHO (wi:TI) (g:TG) (tb:TS):TS:=fun D σ H=>wi σ H fun J H1=>∃ W:Nat → Nat → St → Hp → Prop,(∃ m,W 0 m σ H1) ∧ ∀ i m σ H,W i m σ H →
 (J.stop i H ∧ D.nx σ H) ∨ (J.go i H ∧ ∃ N:St → Hp → Prop,(∀ σ' H',N σ' H' → ∃ m',m' < m ∧ W (i + 1) m' σ' H') ∧ ∀ x H',J.yld i H x H' → g x σ H' fun σ2 H2=>tb { D with nx:=N,ct:=N,bk:=D.nx } σ2 H2)
def jF (fp:List Addr) (h:Heap):List (Addr × Obj):=fp.filterMap fun b=>(h.get? b).map fun o=>(b,o)
theorem iQ {fp:List Addr} {h:Heap} {b:Addr} {o:Obj} (hb:b ∈ fp) (e:h.get? b = some o):(b,o) ∈ jF fp h:=List.mem_filterMap.mpr ⟨b,hb,by rw [e];rfl⟩
theorem qX {fp:List Addr} {h:Heap} {p:Addr × Obj} (hp:p ∈ jF fp h):p.1 ∈ fp ∧ h.get? p.1 = some p.2:=by
 obtain ⟨b,hb,e⟩:=List.mem_filterMap.mp hp
 cases q:h.get? b with
 | none=>rw [q] at e;cases e
 | some o =>
  rw [q] at e
  have e':(b,o) = p:=Option.some.inj e
  subst e'
  exact ⟨hb,q⟩
theorem Inv.pinned {pins:List (Addr × Obj)} {σ:St} {H:Hp} {s:Shared} {fp:List Addr} (I:Inv X pins σ H s) (hf:∀ b ∈ fp,tD X pins H b) (ho:∀ b ∈ fp,∃ o,s.heap.get? b = some o ∧ ∀ v,o.data ≠ .cell v):Inv X (pins ++ jF fp s.heap) σ H s :=
 I.pins_of fun p hp=>(List.mem_append.mp hp).elim (fun z=>I.pin p (List.mem_append_right _ z)) fun z=>by
  obtain ⟨hb,e⟩:=qX z
  obtain ⟨f0,f1,f2,_⟩:=hf p.1 hb
  obtain ⟨o,e',d⟩:=ho p.1 hb
  rw [e] at e';cases e'
  exact ⟨e,f0,f1,f2,d⟩
theorem Inv.unpinned {pins pl:List (Addr × Obj)} {σ:St} {H:Hp} {s:Shared} (I:Inv X (pins ++ pl) σ H s):Inv X pins σ H s:=I.pins_of fun p hp=>I.pin p (List.mem_append_right _ (List.mem_append_left _ hp))
theorem lQ {iter:Expr} {body:List Stmt} {wi:TI} {g:TG} {tb:TS} {pos:Pos} (hp:PassesOwn (model X.prog X.w) X.A X.env X.xe) (hc:X.calm = true) (hi:PI X tg iter wi) (hg:PG X tg g) (hb:PSs X body tb)
  (hs:∀ x,foldedSetIterable iter X.env x = pure x:=by intro _;rfl):PS X (.For tg iter body [] pos) (aHO wi g tb):=by
 intro pins s σ H D I h
 refine wpAny_For (thn (hi pins s σ H _ I h) fun v s1 h1=>thn h1 fun itv s2 h2=>?_) hs
 obtain ⟨it,fp,tn,J,H2,e,I2,T,st2,f2,W,⟨m0,w0⟩,turn⟩:=h2
 subst e
 have stat:∀ {H':Hp},(∀ b ∈ fp,H' b = none) → ∀ b ∈ fp,tD X pins H' b:=fun hn b hb=>⟨hn b hb,(f2 b hb).2⟩
 refine codeAny_forLoop_any (fun n s'=>∃ i σ' H',Inv X pins σ' H' s' ∧ tn i s'.heap ∧ (∀ b ∈ fp,H' b = none) ∧ W i n σ' H') ?_ m0 ⟨0,σ,H2,I2,st2,fun b hb=>(f2 b hb).1,w0⟩
 rintro n s3 ⟨i,σ3,H3,I3,st3,fr3,w3⟩
 rcases turn i n σ3 H3 w3 with ⟨stop,qn⟩ | ⟨go,N,hN,step⟩
 ·refine wpAny_passesOwn hp (thn (T.done X rfl rfl rfl hc i pins s3 σ3 H3 X.xe I3 (stat fr3) st3 stop) fun r s4 ⟨hr,I4⟩=>?_)
  subst hr
  exact wpAny_execs_nil ⟨σ3,H3,I4,qn⟩
 ·refine wpAny_passesOwn hp (thn (T.item X rfl rfl rfl hc i pins s3 σ3 H3 X.xe I3 (stat fr3) st3 go) fun r s4 ⟨u,hr,h4⟩=>?_)
  subst hr
  refine wpAny_passesOwn hp (thn h4 fun _ s5 ⟨x,H5,I5,r5,y5,st5,fr5⟩=>?_)
  have I5':=I5.pinned (stat fr5) (T.obj _ _ st5)
  refine wpAny_passesOwn hp (thn (hg _ s5 σ3 H5 x u _ I5' r5 (step x H5 y5)) fun _ s6 ⟨σ6,H6,I6,q6⟩=>?_)
  refine wpAny_passesOwn hp (thn (hb _ s6 σ6 H6 _ I6 q6) fun f s7 q7=>?_)
  have again:∀ {σ7:St} {H7:Hp},Inv X (pins ++ jF fp s5.heap) σ7 H7 s7 → N σ7 H7 → ∃ m,m < n ∧ ∃ i σ' H',Inv X pins σ' H' s7 ∧ tn i s7.heap ∧ (∀ b ∈ fp,H' b = none) ∧ W i m σ' H':=fun {σ7 H7} I7 n7=>by
   obtain ⟨m',hm,w7⟩:=hN σ7 H7 n7
   refine ⟨m',hm,i + 1,σ7,H7,I7.unpinned,T.keep _ _ _ st5 fun b hb o e=>(I7.pin (b,o) (List.mem_append_right _ (List.mem_append_right _ (iQ hb e)))).1,fun b hb=>?_,w7⟩
   obtain ⟨o,e,d⟩:=T.obj _ _ st5 b hb
   exact (I7.pin (b,o) (List.mem_append_right _ (List.mem_append_right _ (iQ hb e)))).2.1
  cases f with
  | next=>obtain ⟨σ7,H7,I7,n7⟩:=q7;exact again I7 n7
  | cont=>obtain ⟨σ7,H7,I7,n7⟩:=q7;exact again I7 n7
  | brk=>obtain ⟨σ7,H7,I7,q7⟩:=q7;exact ⟨σ7,H7,I7.unpinned,q7⟩
  | ret v=>obtain ⟨x7,σ7,H7,I7,r7,q7⟩:=q7;exact ⟨x7,σ7,H7,I7.unpinned,r7,q7⟩
end
theorem aAZ {K:PySem.W.Frag} {a:Addr} {xs:List V} {g:TG} {tb:TS} {D:Ends} {σ:St} {H:Hp} (Pv:Nat → St → Hp → Prop) (h0:Pv 0 σ H) (hl:∀ i σ H,i ≤ xs.length → Pv i σ H → SqL K H a xs)
  (hs:∀ i x σ H,xs[i]? = some x → Pv i σ H → g x σ H fun σ2 H2=>tb { D with nx:=Pv (i + 1),ct:=Pv (i + 1),bk:=D.nx } σ2 H2) (hd:∀ σ H,Pv xs.length σ H → D.nx σ H) :
  ∃ W:Nat → Nat → St → Hp → Prop,(∃ m,W 0 m σ H) ∧ ∀ i m σ H,W i m σ H →
   ((Itl K a).stop i H ∧ D.nx σ H) ∨ ((Itl K a).go i H ∧ ∃ N:St → Hp → Prop,(∀ σ' H',N σ' H' → ∃ m',m' < m ∧ W (i + 1) m' σ' H') ∧ ∀ x H',(Itl K a).yld i H x H' → g x σ H' fun σ2 H2=>tb { D with nx:=N,ct:=N,bk:=D.nx } σ2 H2):=by
 refine ⟨fun i m σ H=>m = xs.length - i ∧ i ≤ xs.length ∧ Pv i σ H,⟨xs.length,by simp,Nat.zero_le _,h0⟩,?_⟩
 rintro i m σ H ⟨rfl,hi,p⟩
 have q:=hl i σ H hi p
 by_cases hlt:i < xs.length
 ·refine .inr ⟨⟨xs,xs[i],q,by simp [hlt]⟩,Pv (i + 1),fun σ' H' p'=>⟨xs.length - (i + 1),by omega,rfl,hlt,p'⟩,fun x H' y=>?_⟩
  obtain ⟨e,y⟩:=y
  subst e
  exact hs i x σ _ (y xs q) p
 ·have e:i = xs.length:=by omega
  subst e
  exact .inl ⟨⟨xs,q,Nat.le_refl _⟩,hd σ H p⟩
theorem kC {lo:Int} {n:Nat} {g:TG} {tb:TS} {D:Ends} {σ:St} {H:Hp} (Pv:Nat → St → Hp → Prop) (h0:Pv 0 σ H)
  (hs:∀ i σ H,i < n → Pv i σ H → g (.int (lo + i)) σ H fun σ2 H2=>tb { D with nx:=Pv (i + 1),ct:=Pv (i + 1),bk:=D.nx } σ2 H2) (hd:∀ σ H,Pv n σ H → D.nx σ H) :
  ∃ W:Nat → Nat → St → Hp → Prop,(∃ m,W 0 m σ H) ∧ ∀ i m σ H,W i m σ H →
   ((Itr lo n).stop i H ∧ D.nx σ H) ∨ ((Itr lo n).go i H ∧ ∃ N:St → Hp → Prop,(∀ σ' H',N σ' H' → ∃ m',m' < m ∧ W (i + 1) m' σ' H') ∧ ∀ x H',(Itr lo n).yld i H x H' → g x σ H' fun σ2 H2=>tb { D with nx:=N,ct:=N,bk:=D.nx } σ2 H2):=by
 refine ⟨fun i m σ H=>m = n - i ∧ i ≤ n ∧ Pv i σ H,⟨n,by simp,Nat.zero_le _,h0⟩,?_⟩
 rintro i m σ H ⟨rfl,hi,p⟩
 by_cases hlt:i < n
 ·refine .inr ⟨hlt,Pv (i + 1),fun σ' H' p'=>⟨n - (i + 1),by omega,rfl,hlt,p'⟩,fun x H' y=>?_⟩
  obtain ⟨e,y⟩:=y
  subst e y
  exact hs i σ _ hlt p
 ·have e:i = n:=by omega
  subst e
  exact .inl ⟨Nat.le_refl _,hd σ H p⟩
theorem yN {c:TT} {tb:TS} {D:Ends} {σ:St} {H:Hp} (Pv:St → Hp → Prop) (μ:St → Hp → Nat) (h0:Pv σ H)
  (hs:∀ σ H,Pv σ H → c σ H fun b H1=>if b = true then tb { D with nx:=fun σ' H'=>Pv σ' H' ∧ μ σ' H' < μ σ H,ct:=fun σ' H'=>Pv σ' H' ∧ μ σ' H' < μ σ H,bk:=D.nx } σ H1 else D.nx σ H1)
  (mono:∀ σ H Q Q',(∀ b H1,Q b H1 → Q' b H1) → c σ H Q → c σ H Q'):yT c tb D σ H:=by
 refine ⟨fun m σ H=>m = μ σ H ∧ Pv σ H,⟨_,rfl,h0⟩,?_⟩
 rintro m σ H ⟨rfl,p⟩
 refine mono σ H _ _ (fun b H1 q=>?_) (hs σ H p)
 cases b with
 | true=>exact ⟨_,fun σ' H' ⟨p',l⟩=>⟨_,l,rfl,p'⟩,q⟩
 | false=>exact q
end L2
namespace L2
open PySem PySem.Spec PyProof.Rows
abbrev R2:=V → V → Hp → VK → Prop
def OpR (X:Cx) (f:Value → Value → Sem Value) (r:R2):Prop :=
 ∀ (pins:List (Addr × Obj)) (s:Shared) (σ:St) (H:Hp) (x y:V) (v u:Value) (Q:VK),Inv X pins σ H s → aZ x v → aZ y u → r x y H Q →
  wpAny (model X.prog X.w) X.A (f v u) (EP X pins σ Q) X.xe s
def UnR (X:Cx) (f:Value → Sem Value) (r:V → Hp → VK → Prop):Prop :=
 ∀ (pins:List (Addr × Obj)) (s:Shared) (σ:St) (H:Hp) (x:V) (v:Value) (Q:VK),Inv X pins σ H s → aZ x v → r x H Q →
  wpAny (model X.prog X.w) X.A (f v) (EP X pins σ Q) X.xe s
def dU (X:Cx) (f:Value) (r:List V → Hp → VK → Prop):Prop :=
 ∀ (pins:List (Addr × Obj)) (s:Shared) (σ:St) (H:Hp) (xs:List V) (us:List Value) (Q:VK),Inv X pins σ H s → aY xs us → r xs H Q →
  wpAny (model X.prog X.w) X.A (call f us) (EP X pins σ Q) X.xe s
def tOp (r:R2) (ta tb:TE):TE:=fun σ H Q=>ta σ H fun x H1=>tb σ H1 fun y H2=>r x y H2 Q
def tUn (r:V → Hp → VK → Prop) (ta:TE):TE:=fun σ H Q=>ta σ H fun x H1=>r x H1 Q
def rI (C:Int → Int → Prop) (g:Int → Int → V):R2:=fun x y H Q=>∃ i j,x = .int i ∧ y = .int j ∧ C i j ∧ Q (g i j) H
def rI0 (g:Int → Int → V):R2:=fun x y H Q=>∃ i j,x = .int i ∧ y = .int j ∧ Q (g i j) H
def rU (g:Int → V):V → Hp → VK → Prop:=fun x H Q=>∃ i,x = .int i ∧ Q (g i) H
section
variable {X:Cx} {a b c:Expr} {ta tb tc:TE} {pos:Pos}
theorem aFN (ha:PE X a ta) (hb:PE X b tb) {pins:List (Addr × Obj)} {s:Shared} {σ:St} {H:Hp} {R:V → V → Hp → Prop} (I:Inv X pins σ H s)
  (h:ta σ H fun x H1=>tb σ H1 fun y H2=>R x y H2) {Q:Value → Shared → Prop} {f:Value → Value → Sem Value}
  (hf:∀ v u s2 x y H2,Inv X pins σ H2 s2 → aZ x v → aZ y u → R x y H2 → wpAny (model X.prog X.w) X.A (f v u) Q X.xe s2) :
  wpAny (model X.prog X.w) X.A (eval a X.env) (fun v s₁=>wpAny (model X.prog X.w) X.A (eval b X.env) (fun u s₂=>wpAny (model X.prog X.w) X.A (f v u) Q X.xe s₂) X.xe s₁) X.xe s:=by
 refine thn (ha pins s σ H _ I h) fun v s1 ⟨x,H1,I1,r1,q1⟩=>?_
 refine thn (hb pins s1 σ H1 _ I1 q1) fun u s2 ⟨y,H2,I2,r2,q2⟩=>?_
 exact hf v u s2 x y H2 I2 r1 r2 q2
theorem aK {op:Operator} {r:R2} (ho:OpR X (binaryOp op) r) (ha:PE X a ta) (hb:PE X b tb):PE X (.BinOp a op b pos) (tOp r ta tb):=by
 intro pins s σ H Q I h
 exact wpAny_BinOp (aFN ha hb I h fun v u s2 x y H2 I2 rx ry q=>ho pins s2 σ H2 x y v u Q I2 rx ry q)
theorem aEB {op:UnaryOp} {r:V → Hp → VK → Prop} (ho:UnR X (unaryOp op) r) (ha:PE X a ta):PE X (.UnaryOp op a pos) (tUn r ta):=by
 intro pins s σ H Q I h
 exact UnaryOp_ (thn (ha pins s σ H _ I h) fun v s1 ⟨x,H1,I1,r1,q1⟩=>ho pins s1 σ H1 x v Q I1 r1 q1)
theorem opI {f:Value → Value → Sem Value} {C:Int → Int → Prop} {g:Int → Int → Int}
  (rule:∀ (i j:Int) (t u:Tok) (s:Shared) (Q:Value → Shared → Prop) (E:Value → Shared → Prop),C i j → Q (.int (g i j) s.toks) { s with toks:=s.toks + 1 } → wpAny (model X.prog X.w) X.A (f (.int i t) (.int j u)) Q E s) :
  OpR X f (rI C fun i j=>.int (g i j)):=by
 intro pins s σ H x y v u Q I rx ry h
 obtain ⟨i,j,rfl,rfl,hc,q⟩:=h
 obtain ⟨t,rfl⟩:=rx
 obtain ⟨t',rfl⟩:=ry
 exact rule i j t t' s _ _ hc ⟨.int (g i j),H,I.tok _,⟨_,rfl⟩,q⟩
theorem aGM {f:Value → Value → Sem Value} {g:Int → Int → Int}
  (rule:∀ (i j:Int) (t u:Tok) (s:Shared) (Q:Value → Shared → Prop) (E:Value → Shared → Prop),Q (.int (g i j) s.toks) { s with toks:=s.toks + 1 } → wpAny (model X.prog X.w) X.A (f (.int i t) (.int j u)) Q E s) :
  OpR X f (rI0 fun i j=>.int (g i j)):=by
 intro pins s σ H x y v u Q I rx ry h
 obtain ⟨i,j,rfl,rfl,q⟩:=h
 obtain ⟨t,rfl⟩:=rx
 obtain ⟨t',rfl⟩:=ry
 exact rule i j t t' s _ _ ⟨.int (g i j),H,I.tok _,⟨_,rfl⟩,q⟩
theorem aGN {f:Value → Value → Sem Value} {g:Int → Int → Bool}
  (rule:∀ (i j:Int) (t u:Tok) (s:Shared) (Q:Value → Shared → Prop) (E:Value → Shared → Prop),Q (.bool (g i j)) s → wpAny (model X.prog X.w) X.A (f (.int i t) (.int j u)) Q E s) :
  OpR X f (rI0 fun i j=>.bl (g i j)):=by
 intro pins s σ H x y v u Q I rx ry h
 obtain ⟨i,j,rfl,rfl,q⟩:=h
 obtain ⟨t,rfl⟩:=rx
 obtain ⟨t',rfl⟩:=ry
 exact rule i j t t' s _ _ ⟨.bl (g i j),H,I,rfl,q⟩
def aIF (i j:Int):Prop:=0 ≤ j ∧ j ≤ 1000000 ∧ i.natAbs < 2 ^ 64
def aFT (i j:Int):Prop:=(-(2 ^ 64) < i ∧ i < 2 ^ 64) ∨ (-(2 ^ 64) < j ∧ j < 2 ^ 64)
theorem aFT.ok {i j:Int} (h:aFT i j):IntMulOk i j:=by
 rcases h with ⟨h1,h2⟩ | ⟨h1,h2⟩
 ·exact .of_left (intBits_le_64 h1 h2)
 ·exact .of_right (intBits_le_64 h1 h2)
theorem cV:OpR X (binaryOp .Add) (rI0 fun i j=>.int (i + j)):=aGM fun _ _ _ _ _ _ _ q=>add_int q
theorem iN:OpR X (binaryOp .Sub) (rI0 fun i j=>.int (i - j)):=aGM fun _ _ _ _ _ _ _ q=>sub_int q
theorem lR:OpR X (binaryOp .Mult) (rI aFT fun i j=>.int (i * j)):=opI fun _ _ _ _ _ _ _ hc q=>mul_int q hc.ok
theorem bE:OpR X (binaryOp .Mod) (rI (fun _ j=>0 < j) fun i j=>.int (i % j)):=opI fun i j _ _ _ _ _ hc q=>by
 have h1:(0:Int) < j:=hc
 exact mod_int' (by omega) (by rw [Int.fmod_eq_emod_of_nonneg i (by omega)];exact q)
theorem dE:OpR X (binaryOp .Pow) (rI aIF fun i j=>.int (i ^ j.toNat)):=opI fun _ _ _ _ _ _ _ hc q=>pow_int_small hc.1 hc.2.1 hc.2.2 q
theorem unI {f:Value → Sem Value} {g:Int → Int}
  (rule:∀ (i:Int) (t:Tok) (s:Shared) (Q:Value → Shared → Prop) (E:Value → Shared → Prop),Q (.int (g i) s.toks) { s with toks:=s.toks + 1 } → wpAny (model X.prog X.w) X.A (f (.int i t)) Q E s) :
  UnR X f (rU fun i=>.int (g i)):=by
 intro pins s σ H x v Q I rx h
 obtain ⟨i,rfl,q⟩:=h
 obtain ⟨t,rfl⟩:=rx
 exact rule i t s _ _ ⟨.int (g i),H,I.tok _,⟨_,rfl⟩,q⟩
theorem yQ:UnR X (unaryOp .USub) (rU fun i=>.int (-i)):=unI fun _ _ _ _ _ q=>neg_int q
end
def aGD:V → V → Bool
 | .non,.non=>true | .non,.int _=>true | .int _,.non=>true | .non,.bl _=>true | .bl _,.non=>true | .non,.str _=>true | .str _,.non=>true
 | .int _,.int _=>true | .bl _,.bl _=>true | .str _,.str _=>true | .byt _,.byt _=>true
 | .int _,.str _=>true | .str _,.int _=>true | .bl _,.str _=>true | .str _,.bl _=>true
 | _,_=>false
def rEq:R2:=fun x y H Q=>aGD x y = true ∧ Q (.bl (decide (x = y))) H
def rNe:R2:=fun x y H Q=>aGD x y = true ∧ Q (.bl (!decide (x = y))) H
theorem kE {i j:Int}:decide (V.int i = V.int j) = (i == j):=by
 rw [Bool.eq_iff_iff]
 simp
theorem aBM {i j:Bool}:decide (V.bl i = V.bl j) = (i == j):=by
 rw [Bool.eq_iff_iff]
 simp
theorem lJ {i j:Str}:decide (V.str i = V.str j) = (i == j):=by
 rw [Bool.eq_iff_iff]
 simp
theorem xD {i j:Array UInt8}:decide (V.byt i = V.byt j) = (i.toList == j.toList):=by
 rw [Bool.eq_iff_iff]
 cases i
 cases j
 simp
section
variable {X:Cx} {a b c:Expr} {ta tb tc:TE} {pos:Pos}
theorem bK {pins:List (Addr × Obj)} {σ:St} {H:Hp} {s:Shared} {Q:VK} {k k':Bool} (I:Inv X pins σ H s) (q:Q (.bl k) H) (e:k = k'):EP X pins σ Q (.bool k') s:=by
 subst e
 exact ⟨.bl k,H,I,rfl,q⟩
theorem oQ:OpR X (compareOp .Eq) rEq:=by
 intro pins s σ H x y v u Q I rx ry h
 obtain ⟨hs,q⟩:=h
 cases x with
 | non =>
  cases rx
  cases y with
  | non=>cases ry;exact PySem.EqNone.eq_none_none (bK I q (by simp))
  | bl j=>cases ry;exact PySem.EqNone.eq_none_bool (bK I q (by simp))
  | int j=>obtain ⟨t',rfl⟩:=ry;exact PySem.EqNone.eq_none_int (bK I q (by simp))
  | str j=>obtain ⟨t',rfl⟩:=ry;exact PySem.EqNone.eq_none_str (bK I q (by simp))
  | _=>exact absurd (show false = true from hs) Bool.false_ne_true
 | bl i =>
  cases rx
  cases y with
  | non=>cases ry;exact PySem.EqNone.eq_bool_none (bK I q (by simp))
  | bl j=>cases ry;exact eq_bool (bK I q aBM)
  | str j=>obtain ⟨t',rfl⟩:=ry;exact PySem.EqMixed.eq_bool_str (bK I q (by simp))
  | _=>exact absurd (show false = true from hs) Bool.false_ne_true
 | int i =>
  obtain ⟨t,rfl⟩:=rx
  cases y with
  | non=>cases ry;exact PySem.EqNone.eq_int_none (bK I q (by simp))
  | int j=>obtain ⟨t',rfl⟩:=ry;exact eq_int (bK I q kE)
  | str j=>obtain ⟨t',rfl⟩:=ry;exact PySem.EqMixed.eq_int_str (bK I q (by simp))
  | _=>exact absurd (show false = true from hs) Bool.false_ne_true
 | str i =>
  obtain ⟨t,rfl⟩:=rx
  cases y with
  | non=>cases ry;exact PySem.EqNone.eq_str_none (bK I q (by simp))
  | bl j=>cases ry;exact PySem.EqMixed.eq_str_bool (bK I q (by simp))
  | int j=>obtain ⟨t',rfl⟩:=ry;exact PySem.EqMixed.eq_str_int (bK I q (by simp))
  | str j=>obtain ⟨t',rfl⟩:=ry;exact eq_str (bK I q lJ)
  | _=>exact absurd (show false = true from hs) Bool.false_ne_true
 | byt i =>
  obtain ⟨t,rfl⟩:=rx
  cases y with
  | byt j=>obtain ⟨t',rfl⟩:=ry;exact PySem.W.eq_bytes (bK I q xD)
  | _=>exact absurd (show false = true from hs) Bool.false_ne_true
 | _=>cases y <;> exact absurd (show false = true from hs) Bool.false_ne_true
theorem kI:OpR X (compareOp .NotEq) rNe:=by
 intro pins s σ H x y v u Q I rx ry h
 obtain ⟨hs,q⟩:=h
 cases x with
 | non =>
  cases rx
  cases y with
  | non=>cases ry;exact PySem.EqNone.ne_none_none (bK I q (by simp))
  | bl j=>cases ry;exact PySem.EqNone.ne_none_bool (bK I q (by simp))
  | int j=>obtain ⟨t',rfl⟩:=ry;exact PySem.EqNone.ne_none_int (bK I q (by simp))
  | str j=>obtain ⟨t',rfl⟩:=ry;exact PySem.EqNone.ne_none_str (bK I q (by simp))
  | _=>exact absurd (show false = true from hs) Bool.false_ne_true
 | bl i =>
  cases rx
  cases y with
  | non=>cases ry;exact PySem.EqNone.ne_bool_none (bK I q (by simp))
  | bl j=>cases ry;exact ne_bool (bK I q (congrArg not aBM))
  | str j=>obtain ⟨t',rfl⟩:=ry;exact PySem.EqMixed.ne_bool_str (bK I q (by simp))
  | _=>exact absurd (show false = true from hs) Bool.false_ne_true
 | int i =>
  obtain ⟨t,rfl⟩:=rx
  cases y with
  | non=>cases ry;exact PySem.EqNone.ne_int_none (bK I q (by simp))
  | int j=>obtain ⟨t',rfl⟩:=ry;exact ne_int (bK I q (congrArg not kE))
  | str j=>obtain ⟨t',rfl⟩:=ry;exact PySem.EqMixed.ne_int_str (bK I q (by simp))
  | _=>exact absurd (show false = true from hs) Bool.false_ne_true
 | str i =>
  obtain ⟨t,rfl⟩:=rx
  cases y with
  | non=>cases ry;exact PySem.EqNone.ne_str_none (bK I q (by simp))
  | bl j=>cases ry;exact PySem.EqMixed.ne_str_bool (bK I q (by simp))
  | int j=>obtain ⟨t',rfl⟩:=ry;exact PySem.EqMixed.ne_str_int (bK I q (by simp))
  | str j=>obtain ⟨t',rfl⟩:=ry;exact ne_str (bK I q (congrArg not lJ))
  | _=>exact absurd (show false = true from hs) Bool.false_ne_true
 | byt i =>
  obtain ⟨t,rfl⟩:=rx
  cases y with
  | byt j=>obtain ⟨t',rfl⟩:=ry;exact PySem.W.ne_bytes (bK I q (congrArg not xD))
  | _=>exact absurd (show false = true from hs) Bool.false_ne_true
 | _=>cases y <;> exact absurd (show false = true from hs) Bool.false_ne_true
theorem aAF:OpR X (compareOp .Lt) (rI0 fun i j=>.bl (decide (i < j))):=aGN fun _ _ _ _ _ _ _ q=>lt_int q
theorem kJ:OpR X (compareOp .LtE) (rI0 fun i j=>.bl (decide (i ≤ j))):=aGN fun _ _ _ _ _ _ _ q=>le_int q
theorem xP:OpR X (compareOp .In) (fun x y H Q=>∃ i j,x = .str i ∧ y = .str j ∧ Q (.bl (!(Builtin.Str.occurrences j i 0 j.length 1).isEmpty)) H):=by
 intro pins s σ H x y v u Q I rx ry h
 obtain ⟨i,j,rfl,rfl,q⟩:=h
 obtain ⟨t,rfl⟩:=rx
 obtain ⟨t',rfl⟩:=ry
 exact in_str (bK I q rfl)
theorem sG:OpR X (compareOp .Is) (fun x y H Q=>y = .non ∧ Q (.bl (decide (x = .non))) H):=by
 intro pins s σ H x y v u Q I rx ry h
 obtain ⟨rfl,q⟩:=h
 cases ry
 refine is_none_gen (bK I q ?_)
 cases x <;> first
  | (cases rx;rfl)
  | (obtain ⟨t,rfl⟩:=rx;rfl)
theorem bT (b:Expr) {op:CmpOp} (h:op ≠ .In:=by decide) (h2:op ≠ .NotIn:=by decide):behindInMarks op b = false:=by
 have e1:(op == CmpOp.In) = false:=by cases op <;> first | rfl | exact absurd rfl h
 have e2:(op == CmpOp.NotIn) = false:=by cases op <;> first | rfl | exact absurd rfl h2
 cases b <;> simp [behindInMarks,e1,e2]
theorem dF {op:CmpOp} {r:R2} (ho:OpR X (compareOp op) r) (ha:PE X a ta) (hb:PE X b tb) (hm:behindInMarks op b = false):PE X (.Compare a [op] [b] pos) (tOp r ta tb):=by
 intro pins s σ H Q I h
 exact wpAny_Compare1 (aFN ha hb I h fun v u s2 x y H2 I2 rx ry q=>ho pins s2 σ H2 x y v u Q I2 rx ry q) hm
def aDR (t:TE):TT:=fun σ H Q=>t σ H fun x H'=>∃ k,x = .bl k ∧ Q k H'
theorem cQ {op:CmpOp} {r:R2} (ho:OpR X (compareOp op) r) (ha:PE X a ta) (hb:PE X b tb) (hm:behindInMarks op b = false):PT X (.Compare a [op] [b] pos) (aDR (tOp r ta tb)):=by
 intro pins s σ H Q I h
 refine wpAny_isTrue_Compare1 (thn (ha pins s σ H _ I h) fun v s1 ⟨x,H1,I1,r1,q1⟩=>thn (hb pins s1 σ H1 _ I1 q1) fun u s2 ⟨y,H2,I2,r2,q2⟩ =>
  thn (ho pins s2 σ H2 x y v u _ I2 r1 r2 q2) fun c s3 ⟨z,H3,I3,r3,k,e,q3⟩=>?_) hm
 subst e
 cases r3
 exact wpAny_truthy_bool ⟨H3,I3,q3⟩
def yX (r r':R2) (ta tb tc:TE):TE:=fun σ H Q=>ta σ H fun x H1=>tb σ H1 fun y H2=>r x y H2 fun z H3=>∃ k,z = .bl k ∧
 (if k = true then tc σ H3 fun w' H4=>r' y w' H4 Q else Q (.bl false) H3)
theorem kZ {op op':CmpOp} {r r':R2} (ho:OpR X (compareOp op) r) (ho':OpR X (compareOp op') r') (ha:PE X a ta) (hb:PE X b tb) (hc:PE X c tc)
  (hm:lastMarks [op,op'] [b,c] = false:=by with_unfolding_all rfl):PE X (.Compare a [op,op'] [b,c] pos) (yX r r' ta tb tc):=by
 intro pins s σ H Q I h
 refine Compare_chain (thn (ha pins s σ H _ I h) fun v s1 ⟨x,H1,I1,r1,q1⟩=>chain_link (thn (hb pins s1 σ H1 _ I1 q1) fun u s2 ⟨y,H2,I2,r2,q2⟩ =>
  thn (ho pins s2 σ H2 x y v u _ I2 r1 r2 q2) fun d s3 ⟨z,H3,I3,r3,k,e,q3⟩=>?_)) hm
 subst e
 cases r3
 refine wpAny_truthy_bool ?_
 cases k with
 | false=>exact ite_ff ⟨.bl false,H3,I3,rfl,q3⟩
 | true=>exact ite_tt (chain_last (thn (hc pins s3 σ H3 _ I3 q3) fun w' s4 ⟨z',H4,I4,r4,q4⟩=>ho' pins s4 σ H4 y z' u w' Q I4 r2 r4 q4))
theorem zV {op op':CmpOp} {r r':R2} (ho:OpR X (compareOp op) r) (ho':OpR X (compareOp op') r') (ha:PE X a ta) (hb:PE X b tb) (hc:PE X c tc)
  (hm:lastMarks [op,op'] [b,c] = false:=by with_unfolding_all rfl):PT X (.Compare a [op,op'] [b,c] pos) (aDR (yX r r' ta tb tc)):=by
 intro pins s σ H Q I h
 refine isTrue_chain (thn (ha pins s σ H _ I h) fun v s1 ⟨x,H1,I1,r1,q1⟩=>test_link (thn (hb pins s1 σ H1 _ I1 q1) fun u s2 ⟨y,H2,I2,r2,q2⟩ =>
  thn (ho pins s2 σ H2 x y v u _ I2 r1 r2 q2) fun d s3 ⟨z,H3,I3,r3,k,e,q3⟩=>?_)) hm
 subst e
 cases r3
 refine wpAny_truthy_bool ?_
 cases k with
 | false =>
  obtain ⟨k',e',q'⟩:=q3
  cases e'
  exact ite_ff ⟨H3,I3,q'⟩
 | true =>
  refine ite_tt (test_last (thn (hc pins s3 σ H3 _ I3 q3) fun w' s4 ⟨z',H4,I4,r4,q4⟩=>thn (ho' pins s4 σ H4 y z' u w' _ I4 r2 r4 q4) fun d' s5 ⟨z2,H5,I5,r5,k2,e2,q5⟩=>?_))
  subst e2
  cases r5
  exact wpAny_truthy_bool ⟨H5,I5,q5⟩
theorem pH:(sizeLine:Nat) < 2 ^ 63:=by rw [sizeLine_eq];decide
theorem gI:OpR X (binaryOp .Add) (fun x y H Q=>∃ i j,x = .str i ∧ y = .str j ∧ i.length + j.length ≤ sizeLine ∧ Q (.str (i ++ j)) H):=by
 intro pins s σ H x y v u Q I rx ry h
 obtain ⟨i,j,rfl,rfl,hz,q⟩:=h
 obtain ⟨t,rfl⟩:=rx
 obtain ⟨t',rfl⟩:=ry
 exact add_str (fun t' tk=>⟨.str (i ++ j),H,I.tok _,⟨_,rfl⟩,q⟩) hz
theorem nQ {x:V} {us:List Value} (r:aY [x] us):∃ u,us = [u] ∧ aZ x u:=by
 cases r with
 | cons r1 r2=>cases r2;exact ⟨_,rfl,r1⟩
theorem aDQ {x y:V} {us:List Value} (r:aY [x,y] us):∃ u w',us = [u,w'] ∧ aZ x u ∧ aZ y w':=by
 cases r with
 | cons r1 r2 =>
  cases r2 with
  | cons r3 r4=>cases r4;exact ⟨_,_,rfl,r1,r3⟩
theorem aBS:dU X (.builtin "abs") (fun xs H Q=>∃ i,xs = [.int i] ∧ Q (.int (if i < 0 then -i else i)) H):=by
 intro pins s σ H xs us Q I r h
 obtain ⟨i,rfl,q⟩:=h
 obtain ⟨u,rfl,t,rfl⟩:=nQ r
 exact call_abs_int fun u tk=>⟨.int (if i < 0 then -i else i),H,I.tok _,⟨_,rfl⟩,q⟩
theorem rM (hc:X.calm = true):dU X (.builtin "max") (fun xs H Q=>∃ i j,xs = [.int i,.int j] ∧ Q (.int (if j > i then j else i)) H):=by
 intro pins s σ H xs us Q I r h
 obtain ⟨i,j,rfl,q⟩:=h
 obtain ⟨u,w',rfl,⟨t,rfl⟩,⟨t',rfl⟩⟩:=aDQ r
 refine max_two_ints (I.ok.hd hc) fun h' tk k=>⟨_,H,I.kept k,?_,q⟩
 by_cases hj:j > i
 ·rw [if_pos hj,if_pos hj];exact ⟨_,rfl⟩
 ·rw [if_neg hj,if_neg hj];exact ⟨_,rfl⟩
theorem rL (hc:X.calm = true):dU X (.builtin "min") (fun xs H Q=>∃ i j,xs = [.int i,.int j] ∧ Q (.int (if j < i then j else i)) H):=by
 intro pins s σ H xs us Q I r h
 obtain ⟨i,j,rfl,q⟩:=h
 obtain ⟨u,w',rfl,⟨t,rfl⟩,⟨t',rfl⟩⟩:=aDQ r
 refine min_two_ints (I.ok.hd hc) fun h' tk k=>⟨_,H,I.kept k,?_,q⟩
 by_cases hj:j < i
 ·rw [if_pos hj,if_pos hj];exact ⟨_,rfl⟩
 ·rw [if_neg hj,if_neg hj];exact ⟨_,rfl⟩
theorem eB:dU X (.type "int") (fun xs H Q=>(∃ i,xs = [.int i] ∧ Q (.int i) H) ∨ ∃ k,xs = [.bl k] ∧ Q (.int (if k then 1 else 0)) H):=by
 intro pins s σ H xs us Q I r h
 rcases h with ⟨i,rfl,q⟩ | ⟨k,rfl,q⟩
 ·obtain ⟨u,rfl,t,rfl⟩:=nQ r
  exact call_int_int ⟨.int i,H,I,⟨_,rfl⟩,q⟩
 ·obtain ⟨u,rfl,r1⟩:=nQ r
  cases r1
  exact call_int_bool ⟨.int (if k then 1 else 0),H,I.tok _,⟨_,rfl⟩,q⟩
end
end L2
namespace L2
open PySem PySem.Spec PyProof.Rows
structure ObjM (h:Heap) (x dx C:Addr) (mA:Str → Option Value):Prop where
 obj:h.get? x = some (PySem.W.instObj C dx)
 ns:h.Ns1 dx mA
 ne:dx ≠ x
theorem xT {h:Heap} {dx:Addr} {mA:Str → Option Value} (n:h.Ns1 dx mA):∃ od,h.get? dx = some od ∧ ∀ name,PySem.W.lookIn name od = some (mA name):=by
 obtain ⟨o,es,ep,ho,hd,hk,_,hm⟩:=n
 refine ⟨o,ho,fun name=>?_⟩
 have e:=hm name
 unfold nsFind findBy at e
 rw [← Array.find?_toList] at e
 unfold PySem.W.lookIn
 rw [hd]
 dsimp only
 split
 ·rename_i y q
  rw [q] at e
  exact congrArg some e
 ·rename_i q
  rw [q] at e
  have a:es.toList.any (·.refKey) = false:=by
   rw [List.any_eq_false]
   intro y hy
   obtain ⟨z,t,hkey⟩:=hk y (Array.mem_toList_iff.mp hy)
   simp [DictEntry.refKey,hkey]
  have a':¬ es.toList.any (·.refKey) = true:=by rw [a];exact Bool.false_ne_true
  rw [if_neg a']
  exact congrArg some e
theorem ObjM.look {h:Heap} {x dx C:Addr} {mA:Str → Option Value} (I:ObjM h x dx C mA):∃ od,PySem.W.InstAt h x (PySem.W.instObj C dx) C (some od) ∧ ∀ name,PySem.W.lookIn name od = some (mA name) :=
 let ⟨od,ho,hl⟩:=xT I.ns
 ⟨od,⟨I.obj,rfl,rfl,ho⟩,hl⟩
section
variable {prog:Program} {w:World} {A:Around} {E:Value → Shared → Prop} {s:Shared} {K:PySem.W.Frag} {x dx C f:Addr} {mA:Str → Option Value} {name:Str} {v:Value}
theorem aDB {expr:Bool} {Q:Value → Shared → Prop} (X:K.In s.heap) (I:ObjM s.heap x dx C mA) (hg:PySem.W.plainGet K C name = true) (hh:PySem.W.hasDictIn K C = true)
  (ha:PySem.W.findIn K (.ref C) name = some none) (hv:mA name = some v) (hv':PySem.W.handedIn v = true) (h:Q v { s with toks:=s.toks + 1 }) :
  wpAny (model prog w) A (getAttr (.ref x) name expr) Q E s:=by
 obtain ⟨od,J,hl⟩:=I.look
 exact PySem.W.get_value X J (PySem.W.plainGet_of hg).1 (PySem.W.findObj_own hh ha rfl (by rw [hl,hv])) hv' h
theorem aAU {pl:Sem Bool} {Q:Value × List Value → Shared → Prop} (X:K.In s.heap) (I:ObjM s.heap x dx C mA) (hg:PySem.W.plainGet K C name = true)
  (hf:PySem.W.findIn K (.ref C) name = some (some (.ref f))) (ht:PySem.W.isFn K (.ref f) = true) (hv:mA name = none) (h:Q (.ref f,[.ref x]) s) :
  wpAny (model prog w) A (getMethod (.ref x) name pl) Q E s:=by
 obtain ⟨od,J,hl⟩:=I.look
 exact PySem.W.method_fn X J (PySem.W.plainGet_of hg).1 (PySem.W.plainGet_of hg).2 hf (beq_iff_eq.mp ht) (by show (PySem.W.lookIn name od).map (·.isSome) = some false;rw [hl,hv];rfl) h
theorem aCA {ns:List Str} {Q:Unit → Shared → Prop} (X:K.In s.heap) (I:ObjM s.heap x dx C mA)
  (hs:PySem.W.findIn K (.ref C) "__setattr__" = some (some (.builtin "object.__setattr__"))) (hp:PySem.W.plainOver K C = true) (ht:PySem.W.takerIn K C name = some none) (hh:PySem.W.hasDictIn K C = true)
  (hw:PySem.Within mA ns) (hsz:ns.length ≤ sizeLine)
  (h:∀ h',ObjM h' x dx C (fun y=>if y = name then some v else mA y) → Heap.SameBut dx s.heap h' → Q () { s with heap:=h',toks:=s.toks + 2 }) :
  wpAny (model prog w) A (setAttr (.ref x) name v) Q E s:=by
 obtain ⟨od,J,hl⟩:=I.look
 refine PySem.W.set_plain X J hs (PySem.W.osa_open (s:={ s with toks:=s.toks + 1 }) (r:=none) X J hp ht fun b=>?_)
 obtain ⟨cd,hc,hd'⟩:=PySem.W.any_some hh
 have hx:s.heap.get? x = some ⟨.ref C,some dx,.plain,#[]⟩:=I.obj
 refine wpAny_bind (wpAny_pure (wpAny_bind (wpAny_bind (wpAny_loadPart hx (wpAny_bind (PySem.W.Looks.here (s:={ s with toks:=s.toks + 1 }) (PySem.W.looks_clsIn X hc) ?_))))))
 rw [hd']
 refine wpAny_pure (a:=some dx) (wpAny_bind (wpAny_pure (wpAny_bind ?_)))
 refine wpAny_nsSet1 (s:={ s with toks:=s.toks + 1 }) I.ns fun h' hn2 hs2=>?_
 obtain ⟨oD,esD,epD,hoD,hdD,hcD⟩:=hn2.count (PySem.Within.cons name v hw)
 refine wpAny_bind (wpAny_lookBehind hoD (by rw [hdD];exact pastItsLine_dict (Nat.le_trans hcD (by rw [List.length_cons];omega))) ?_)
 exact wpAny_pure (h _ ⟨(hs2.2 _ (Ne.symm I.ne)).trans I.obj,hn2,I.ne⟩ hs2)
theorem uC {R:Result → Shared → Prop} {vs:List Value} {kw:List (Str × Value)} (X:K.In s.heap) (hm:PySem.W.makesIn K C = true)
  (hi:PySem.W.findIn K (.ref C) "__init__" = some (some (.ref f))) (hf:PySem.W.typeIn K (.ref f) = some (.type "function"))
  (h:codeAny (model prog w) (A.under (.builtin "type.__call__" ⟨.ref C :: vs,kw⟩)) (.call (.ref f) ⟨.ref (s.heap.objs.size + 1) :: vs,kw⟩) (PySem.W.InitBack (s.heap.objs.size + 1) R)
   { s with heap:=(s.heap.push PySem.W.emptyDict).push (PySem.W.instObj C s.heap.objs.size) }) :
  codeAny (model prog w) A (.call (.ref C) ⟨vs,kw⟩) R s:=by
 obtain ⟨hh,g,d,t,os⟩:=s
 exact PySem.W.make_core (PySem.W.makes_of X hm) (PySem.W.looks_findIn X hi) (fun self=>PySem.W.bind_fn X self hf) (.inl rfl) h
end
def eR (f:Str) (v:V):List (Str × V) → List (Str × V)
 | []=>[(f,v)]
 | (g,x) :: r=>if g = f then (g,v) :: r else (g,x) :: eR f v r
theorem cM (f g:Str) (v:V):∀ fs:List (Str × V),(eR f v fs).lookup g = if g = f then some v else fs.lookup g
 | []=>by
  show List.lookup g [(f,v)] = _
  by_cases h:g = f
  ·have hb:(g == f) = true:=beq_iff_eq.mpr h
   simp only [List.lookup,hb,if_pos h]
  ·have hb:(g == f) = false:=beq_eq_false_iff_ne.mpr h
   simp only [List.lookup,hb,if_neg h]
 | (k,x) :: r=>by
  have ih:=cM f g v r
  rw [show eR f v ((k,x) :: r) = (if k = f then (k,v) :: r else (k,x) :: eR f v r) from rfl]
  by_cases hk:k = f
  ·rw [if_pos hk]
   by_cases h:g = k
   ·have hb:(g == k) = true:=beq_iff_eq.mpr h
    simp only [List.lookup,hb,if_pos (h.trans hk)]
   ·have hb:(g == k) = false:=beq_eq_false_iff_ne.mpr h
    simp only [List.lookup,hb,if_neg (fun e:g = f=>h (e.trans hk.symm))]
  ·rw [if_neg hk]
   by_cases h:g = k
   ·have hb:(g == k) = true:=beq_iff_eq.mpr h
    simp only [List.lookup,hb,if_neg (fun e:g = f=>hk (h.symm.trans e))]
   ·have hb:(g == k) = false:=beq_eq_false_iff_ne.mpr h
    simp only [List.lookup,hb]
    exact ih
theorem lY (f:Str) (v:V):∀ fs:List (Str × V),f ∈ (eR f v fs).map (·.1) ∧ ∀ g,g ∈ fs.map (·.1) → g ∈ (eR f v fs).map (·.1)
 | []=>⟨by simp [eR],fun g h=>by simp at h⟩
 | (k,x) :: r=>by
  obtain ⟨i1,i2⟩:=lY f v r
  rw [show eR f v ((k,x) :: r) = (if k = f then (k,v) :: r else (k,x) :: eR f v r) from rfl]
  by_cases hk:k = f
  ·rw [if_pos hk]
   subst hk
   exact ⟨by simp,fun g h=>by simpa using h⟩
  ·rw [if_neg hk]
   refine ⟨?_,fun g h=>?_⟩
   ·rw [List.map_cons]
    exact List.mem_cons_of_mem _ i1
   ·rw [List.map_cons] at h ⊢
    rcases List.mem_cons.mp h with e | e
    ·exact List.mem_cons.mpr (.inl e)
    ·exact List.mem_cons_of_mem _ (i2 g e)
theorem mQ (f:Str) (v:V):∀ fs:List (Str × V),(eR f v fs).length ≤ fs.length + 1
 | []=>by simp [eR]
 | (k,x) :: r=>by
  have ih:=mQ f v r
  rw [show eR f v ((k,x) :: r) = (if k = f then (k,v) :: r else (k,x) :: eR f v r) from rfl]
  by_cases hk:k = f
  ·rw [if_pos hk,List.length_cons,List.length_cons];omega
  ·rw [if_neg hk,List.length_cons,List.length_cons];omega
theorem jR.some_of {v:V} {o:Option Value} (r:jR (some v) o):∃ u,o = some u ∧ aZ v u:=by
 cases o with
 | none=>exact (show False from r).elim
 | some u=>exact ⟨u,rfl,r⟩
theorem jR.none_of {o:Option Value} (r:jR none o):o = none:=by
 cases o with
 | none=>rfl
 | some u=>exact (show False from r).elim
theorem xX {v:V} {u:Value} (r:aZ v u):PySem.W.handedIn u = true:=by
 cases v with
 | non=>cases (show u = Value.none from r);rfl
 | bl b=>cases (show u = Value.bool b from r);rfl
 | int i=>obtain ⟨t,e⟩:=(show ∃ t,u = Value.int i t from r);cases e;rfl
 | str x=>obtain ⟨t,e⟩:=(show ∃ t,u = Value.str x t from r);cases e;rfl
 | byt b=>obtain ⟨t,e⟩:=(show ∃ t,u = Value.bytes b t from r);cases e;rfl
 | flt b=>obtain ⟨t,e⟩:=(show ∃ t,u = Value.float b t from r);cases e;rfl
 | ref a=>cases (show u = Value.ref a from r);rfl
 | ty n=>cases (show u = Value.type n from r);rfl
section
variable {P:Program} {w:World} {H H':Hp} {h h':Heap} {a C dx:Addr} {fs fs':List (Str × V)}
theorem nO (hok:HOk P w H h) (e:H a = some (.ins C dx fs)):∃ mA,ObjM h a dx C mA ∧ (∀ f,jR (fs.lookup f) (mA f)) ∧ PySem.Within mA (fs.map (·.1)) ∧ fs.length ≤ 1000 ∧ H dx = some (.own a):=by
 obtain ⟨d,z,ne,ob,mA,n,r,q⟩:=(show bG P w H h a (.ins C dx fs) from hok a _ e)
 exact ⟨mA,⟨ob,n,ne⟩,r,q,z,d⟩
end
structure Cls (K:PySem.W.Frag) (C:Addr):Prop where
 pg:PySem.W.plainGet K C Str.empty = true
 hd:PySem.W.hasDictIn K C = true
 po:PySem.W.plainOver K C = true
 sa:PySem.W.findIn K (.ref C) "__setattr__" = some (some (.builtin "object.__setattr__"))
theorem Cls.get {K:PySem.W.Frag} {C:Addr} (c:Cls K C) (f:Str):PySem.W.plainGet K C f = true:=c.pg
def gP (K:PySem.W.Frag) (C:Addr) (f:Str):Prop:=PySem.W.findIn K (.ref C) f = some none
theorem gP.taker {K:PySem.W.Frag} {C:Addr} {f:Str} (n:gP K C f):PySem.W.takerIn K C f = some none:=by
 unfold PySem.W.takerIn
 rw [show PySem.W.findIn K (.ref C) f = some none from n]
 rfl
structure Con (K:PySem.W.Frag) (C:Addr) (f:Str) (v:V) (u:Value):Prop where
 at_:PySem.W.findIn K (.ref C) f = some (some u)
 rel:aZ v u
 get:PySem.W.specialIn K u "__get__" = some none
 cp:PySem.W.copiedNames.contains f = false
structure Meth (K:PySem.W.Frag) (C:Addr) (m:Str) (f:Addr):Prop where
 at_:PySem.W.findIn K (.ref C) m = some (some (.ref f))
 fn:PySem.W.isFn K (.ref f) = true
 kp:PySem.W.keepIn K (.ref f) = true
section
variable {X:Cx} {pins:List (Addr × Obj)} {σ:St} {H:Hp} {s:Shared} {a C dx:Addr} {fs:List (Str × V)} {f:Str} {v:V} {A:Around} {E:Value → Shared → Prop}
theorem vS {b:Bool} {Q:Value → Shared → Prop} (I:Inv X pins σ H s) (e:H a = some (.ins C dx fs)) (c:Cls X.K C) (n:gP X.K C f) (l:fs.lookup f = some v)
  (h:∀ u s',Inv X pins σ H s' → aZ v u → Q u s'):wpAny (model X.prog X.w) A (getAttr (.ref a) f b) Q E s:=by
 obtain ⟨mA,O,r,_,_,_⟩:=nO I.hok e
 obtain ⟨u,hu,ru⟩:=jR.some_of (v:=v) (o:=mA f) (by rw [← l];exact r f)
 exact aDB I.kIn O (c.get f) c.hd n hu (xX ru) (h u _ (I.tok _) ru)
theorem pL {m:Str} {g:Addr} {pl:Sem Bool} {Q:Value × List Value → Shared → Prop} (I:Inv X pins σ H s) (e:H a = some (.ins C dx fs)) (c:Cls X.K C) (k:Meth X.K C m g) (l:fs.lookup m = none)
  (h:Q (.ref g,[.ref a]) s):wpAny (model X.prog X.w) A (getMethod (.ref a) m pl) Q E s:=by
 obtain ⟨mA,O,r,_,_,_⟩:=nO I.hok e
 have hn:mA m = none:=jR.none_of (by rw [← l];exact r m)
 exact aAU I.kIn O (c.get m) k.at_ k.fn hn h
theorem uW {y:V} {u:Value} {Q:Unit → Shared → Prop} (I:Inv X pins σ H s) (e:H a = some (.ins C dx fs)) (c:Cls X.K C) (n:gP X.K C f) (hl:fs.length < 1000) (ry:aZ y u)
  (h:∀ s',Inv X pins σ (upd H a (.ins C dx (eR f y fs))) s' → Q () s'):wpAny (model X.prog X.w) A (setAttr (.ref a) f u) Q E s:=by
 obtain ⟨mA,O,r,wi,_,ho⟩:=nO I.hok e
 have hz:(fs.map (·.1)).length ≤ sizeLine:=by rw [List.length_map,sizeLine_eq];omega
 refine aCA I.kIn O c.sa c.po n.taker c.hd wi hz fun h' O' sb=>h _ ?_
 have hd:∃ o,h'.get? dx = some o:=let ⟨o,_,_,e',_⟩:=O'.ns;⟨o,e'⟩
 refine I.write (x:=a) (e:=dx) (by rw [e];exact True.intro) (.inr ho) (fun b q hb z=>(sb.2 b hb).trans z) hd ?_
 refine ⟨by rw [aJ O.ne];exact ho,?_,O.ne,O'.obj,_,O'.ns,fun g=>?_,fun g hg=>?_⟩
 ·have:=mQ f y fs;omega
 ·show jR ((eR f y fs).lookup g) (if g = f then some u else mA g)
  rw [cM]
  by_cases q:g = f
  ·rw [if_pos q,if_pos q];exact ry
  ·rw [if_neg q,if_neg q];exact r g
 ·by_cases q:g = f
  ·rw [q];exact (lY f y fs).1
  ·refine (lY f y fs).2 g (wi g fun z=>hg ?_)
   show (if g = f then some u else mA g) = none
   rw [if_neg q];exact z
theorem Inv.made (I:Inv X pins σ H s):Inv X pins σ (upd (upd H s.heap.objs.size (.own (s.heap.objs.size + 1))) (s.heap.objs.size + 1) (.ins C s.heap.objs.size []))
  { s with heap:=(s.heap.push PySem.W.emptyDict).push (PySem.W.instObj C s.heap.objs.size) }:=by
 have e1:(s.heap.push PySem.W.emptyDict).get? s.heap.objs.size = some PySem.W.emptyDict:=Heap.get?_push_size s.heap rfl
 have e2:((s.heap.push PySem.W.emptyDict).push (PySem.W.instObj C s.heap.objs.size)).get? (s.heap.objs.size + 1) = some (PySem.W.instObj C s.heap.objs.size):=by
  have:=Heap.get?_push_size (s.heap.push PySem.W.emptyDict) (o:=PySem.W.instObj C s.heap.objs.size) rfl
  rwa [Heap.size_push] at this
 have e3:(s.heap.push PySem.W.emptyDict).Ns s.heap.objs.size (fun _=>none):=⟨PySem.W.emptyDict,#[],_,e1,rfl,(fun e he=>absurd he (by simp)),fun _=>rfl⟩
 have I1:=I.laid (a:=s.heap.objs.size) (o:=.own (s.heap.objs.size + 1)) (h':=s.heap.push PySem.W.emptyDict) (t':=s.toks) (fun b u q=>Heap.get?_push_of_some _ q) (Nat.le_refl _) ⟨_,e1⟩
 refine I1.laid (a:=s.heap.objs.size + 1) (o:=.ins C s.heap.objs.size []) (t':=s.toks) (fun b u q=>Heap.get?_push_of_some _ q) (Nat.le_of_eq (Heap.size_push _ _)) ?_
 have ne:s.heap.objs.size ≠ s.heap.objs.size + 1:=Nat.ne_of_lt (Nat.lt_succ_self _)
 refine ⟨by rw [aJ ne,aF],Nat.zero_le _,ne,e2,fun _=>none,(Heap.Ns1.of_empty e3).at fun o q=>Heap.get?_push_of_some _ q,fun _=>True.intro,fun y hy=>absurd rfl hy⟩
theorem aDK {prog:Program} {w:World} {env:Env} {e:Expr} {f:Str} {pos:Pos} {s:Shared} {Q:Value → Shared → Prop} (hb:attributeBase e f env (eval e env) = eval e env)
  (h:wpAny (model prog w) A (eval e env) (fun o s₁=>wpAny (model prog w) A (getAttr o f true) Q E s₁) E s):wpAny (model prog w) A (eval (.Attribute e f pos) env) Q E s :=
 Attribute_any_ h (by rw [arm_eval_Attribute,hb])
end
def aHP (K:PySem.W.Frag) (ta:TE) (f:Str):TE:=fun σ H Q=>ta σ H fun x H1=>∃ a C dx fs v,x = .ref a ∧ H1 a = some (.ins C dx fs) ∧ Cls K C ∧ gP K C f ∧ fs.lookup f = some v ∧ Q v H1
def aHT (K:PySem.W.Frag) (ta tv:TE) (f:Str):TS:=fun D σ H=>tv σ H fun y H1=>ta σ H1 fun x H2=>∃ a C dx fs,x = .ref a ∧ H2 a = some (.ins C dx fs) ∧ Cls K C ∧ gP K C f ∧ fs.length < 1000 ∧
 D.nx σ (upd H2 a (.ins C dx (eR f y fs)))
section
variable {X:Cx} {o e value:Expr} {f:Str} {pos pos' tpos:Pos} {ta tv:TE}
theorem gH (he:PE X e ta) (hb:attributeBase e f X.env (eval e X.env) = eval e X.env):PE X (.Attribute e f pos) (aHP X.K ta f):=by
 intro pins s σ H Q I h
 refine aDK hb (thn (he pins s σ H _ I h) fun u s1 ⟨x,H1,I1,rx,a,C,dx,fs,v,ex,ea,c,n,l,q⟩=>?_)
 subst ex
 obtain rfl:u = Value.ref a:=rx
 exact vS I1 ea c n l fun u' s2 I2 ru=>⟨v,H1,I2,ru,q⟩
theorem oO (ha:PE X o ta) (hv:PE X value tv) (hs:swapsWith value (some (.Attribute o f pos')) pos.line X.env = pure false):PS X (.Assign [.Attribute o f pos'] value pos) (aHT X.K ta tv f):=by
 intro pins s σ H D I h
 refine plainObj_wpAny_Assign_Attribute (thn (hv pins s σ H _ I h) fun u s1 ⟨y,H1,I1,ry,q⟩=>thn (ha pins s1 σ H1 _ I1 q) fun ov s2 ⟨x,H2,I2,rx,a,C,dx,fs,ex,ea,c,n,l,q2⟩=>?_) hs
 subst ex
 obtain rfl:ov = Value.ref a:=rx
 exact uW I2 ea c n l ry fun s3 I3=>⟨σ,_,I3,q2⟩
end
section
variable {X:Cx} {pins:List (Addr × Obj)} {σ:St} {H:Hp} {s:Shared} {A:Around} {E:Value → Shared → Prop} {Q:Value → Shared → Prop} {c:Value} {b:Bool}
inductive TyOf (K:PySem.W.Frag) (H:Hp):V → Value → Prop where
 | non:TyOf K H .non (.type "NoneType")
 | bl (x:Bool):TyOf K H (.bl x) (.type "bool")
 | int (i:Int):TyOf K H (.int i) (.type "int")
 | str (x:Str):TyOf K H (.str x) (.type "str")
 | flt (x:UInt64):TyOf K H (.flt x) (.type "float")
 | lst {a:Addr} {xs:List V} (e:H a = some (.lst xs)):TyOf K H (.ref a) (.type "list")
 | frz {a:Addr} {o:Obj} {xs:List V} (e:H a = some (.frz o (.lst xs))):TyOf K H (.ref a) (.type "list")
 | tup {a:Addr} {xs:List V} (e:H a = some (.tup xs)):TyOf K H (.ref a) (.type "tuple")
 | dK {a:Addr} {kvs:List (Key × V)} (e:H a = some (.dK kvs)):TyOf K H (.ref a) (.type "dict")
 | dT {a:Addr} {kvs:List (List Key × V)} (e:H a = some (.dT kvs)):TyOf K H (.ref a) (.type "dict")
 | ins {a C dx:Addr} {fs:List (Str × V)} (e:H a = some (.ins C dx fs)) (cl:Cls K C) (ha:PySem.W.findIn K (.ref C) "__class__" = some (some (.builtin "object.__class__")))
   (hn:PySem.W.specialIn K (.builtin "object.__class__") "__get__" = some (some (.builtin "getset_descriptor.__get__"))) (htk:PySem.W.takesIn K (.builtin "object.__class__") = some true)
   (hm:PySem.W.mroIn K C (.type "object") = some true):TyOf K H (.ref a) (.ref C)
theorem xU {x:V} {u t:Value} (I:Inv X pins σ H s) (rx:aZ x u) (ty:TyOf X.K H x t) (e:PySem.W.kitOne X.K t c = some b) (h:∀ tk,Q (.bool b) { s with toks:=tk }) :
  wpAny (model X.prog X.w) A (call (.builtin "isinstance") [u,c]) Q E s:=by
 cases ty with
 | non=>cases (show u = Value.none from rx);exact PySem.W.kia_one PySem.W.kitx_none I.kIn True.intro e (fun z=>nomatch z) h
 | bl y=>cases (show u = Value.bool y from rx);exact PySem.W.kia_one PySem.W.kitx_bool I.kIn True.intro e (fun z=>nomatch z) h
 | int i=>obtain ⟨t,q⟩:=(show ∃ t,u = Value.int i t from rx);cases q;exact PySem.W.kia_one PySem.W.kitx_int I.kIn True.intro e (fun z=>nomatch z) h
 | str y=>obtain ⟨t,q⟩:=(show ∃ t,u = Value.str y t from rx);cases q;exact PySem.W.kia_one PySem.W.kitx_str I.kIn True.intro e (fun z=>nomatch z) h
 | flt y=>obtain ⟨t,q⟩:=(show ∃ t,u = Value.float y t from rx);cases q;exact PySem.W.kia_one PySem.W.kitx_float I.kIn True.intro e (fun z=>nomatch z) h
 | @lst a xs ea =>
  cases (show u = Value.ref a from rx)
  obtain ⟨_,_,n,_,h1⟩:=(show bG X.prog X.w H s.heap a (.lst xs) from I.hok a _ ea)
  exact PySem.W.kia_one PySem.W.kitx_list I.kIn ⟨_,h1,rfl⟩ e (fun z=>nomatch z) h
 | @frz a ob xs ea =>
  cases (show u = Value.ref a from rx)
  obtain ⟨_,_,_,n,_,h1⟩:=(show bG X.prog X.w H s.heap a (.frz ob (.lst xs)) from I.hok a _ ea)
  exact PySem.W.kia_one PySem.W.kitx_list I.kIn ⟨_,h1,rfl⟩ e (fun z=>nomatch z) h
 | @tup a xs ea =>
  cases (show u = Value.ref a from rx)
  obtain ⟨_,_,_,p⟩:=(show bG X.prog X.w H s.heap a (.tup xs) from I.hok a _ ea)
  obtain ⟨o,h1,h2,_⟩:=p
  exact PySem.W.kia_one PySem.W.kitx_tuple I.kIn ⟨o,h1,h2⟩ e (fun z=>nomatch z) h
 | @dK a kvs ea =>
  cases (show u = Value.ref a from rx)
  obtain ⟨_,_,vs,_,p⟩:=(show bG X.prog X.w H s.heap a (.dK kvs) from I.hok a _ ea)
  obtain ⟨o,es,ep,h1,h2,_⟩:=p
  exact PySem.W.kia_one PySem.W.kitx_dict I.kIn ⟨o,h1,h2.1⟩ e (fun z=>nomatch z) h
 | @dT a kvs ea =>
  cases (show u = Value.ref a from rx)
  obtain ⟨_,_,xs,_,o,es,ep,h1,h2,_⟩:=(show bG X.prog X.w H s.heap a (.dT kvs) from I.hok a _ ea)
  exact PySem.W.kia_one PySem.W.kitx_dict I.kIn ⟨o,h1,h2.1⟩ e (fun z=>nomatch z) h
 | @ins a C dx fs ea cl ha hn htk hm =>
  cases (show u = Value.ref a from rx)
  obtain ⟨mA,O,_⟩:=nO I.hok ea
  obtain ⟨od,J,_⟩:=O.look
  exact PySem.W.kia_one (PySem.W.kitx_own (cl.get _) cl.hd ha hn htk hm) I.kIn J e (fun z=>nomatch z) h
end
end L2
namespace L2
open PySem PySem.Spec PyProof.Rows
structure Room (k:Nat) (A:Around):Prop where
 hd:A.handled = none
 dp:A.depth + 3 * k + 5 < recursionLimit
 un:A.units + 16 * k + 200 < cLine
theorem Room.mono {j k:Nat} {A:Around} (r:Room k A) (h:j ≤ k):Room j A:=⟨r.hd,by have:=r.dp;omega,by have:=r.un;omega⟩
theorem Room.deeper {k:Nat} {A:Around} (r:Room (k + 1) A) (env:Env):Room k (A.deeper env) :=
 ⟨r.hd,by have:=r.dp;show A.depth + 1 + 3 * k + 5 < _;omega,by have:=r.un;show A.units + 3 + 16 * k + 200 < _;omega⟩
theorem vH {A:Around} {C:Addr} {us:List Value} {kw:List (Str × Value)}:(A.under (.builtin "type.__call__" ⟨.ref C :: us,kw⟩)).depth = A.depth + 1:=by
 first | rfl | simp [Around.under,Code.weight,Code.isCreation,Code.isGuard,Code.isCaller,Code.frames,Code.isFrame,guardIds]
theorem vG {A:Around} {C:Addr} {us:List Value} {kw:List (Str × Value)}:(A.under (.builtin "type.__call__" ⟨.ref C :: us,kw⟩)).units = A.units + 1:=by
 first | rfl | simp [Around.under,Code.cUnits,Code.frames,Code.isFrame]
theorem Room.make {k:Nat} {A:Around} (r:Room (k + 1) A) (C:Addr) (us:List Value) (kw:List (Str × Value)):Room k (A.under (.builtin "type.__call__" ⟨.ref C :: us,kw⟩)) :=
 ⟨r.hd,by have:=r.dp;rw [vH];omega,by have:=r.un;rw [vG];omega⟩
theorem Room.depth {k:Nat} {A:Around} (r:Room k A):A.depth < recursionLimit:=by have:=r.dp;omega
theorem Room.units {k:Nat} {A:Around} (r:Room k A):A.units + 64 < cLine:=by have:=r.un;omega
def aEL:TA:=fun _ H Q=>Q [] H
def aGB (ta:TE) (tr:TA):TA:=fun σ H Q=>ta σ H fun x H1=>tr σ H1 fun xs H2=>Q (x :: xs) H2
section
variable {X:Cx} {e:Expr} {es:List Expr} {te:TE} {t:TA} {pos:Pos}
theorem aD:PA X [] aEL:=fun _ _ _ _ H Q I h=>Calls.spliced_nil ⟨[],H,I,.nil,h⟩
theorem aA (ha:PE X e te) (hr:PA X es t) (hs:starEach (e :: es) X.env = (false,eval e X.env) :: starEach es X.env:=by rfl):PA X (e :: es) (aGB te t):=by
 intro pos pins s σ H Q I h
 rw [hs]
 show wpAny _ _ (spliced ((false,eval e X.env) :: backTo pos (starEach es X.env))) _ _ s
 refine Calls.spliced_cons (thn (ha pins s σ H _ I h) fun u s1 ⟨x,H1,I1,r1,q1⟩=>?_)
 exact thn (hr pos pins s1 σ H1 _ I1 q1) fun us s2 ⟨xs,H2,I2,r2,q2⟩=>⟨x :: xs,H2,I2,.cons r1 r2,q2⟩
def aHJ (t:TA):TE:=fun σ H Q=>t σ H fun xs H1=>xs.length ≤ sizeLine ∧ ∀ p,H1 p = none → Q (.ref p) (upd H1 p (.tup xs))
def aHN (t:TA):TE:=fun σ H Q=>t σ H fun xs H1=>xs.length ≤ sizeLine ∧ ∀ p,H1 p = none → Q (.ref p) (upd H1 p (.lst xs))
theorem fT {x1} (h:PA X es t):PE X (.Tuple es x1 pos) (aHJ t):=by
 intro pins s σ H Q I hq
 refine wpAny_Tuple_spliced (thn (h pos pins s σ H _ I hq) fun us s1 ⟨xs,H1,I1,r,z,q⟩=>⟨by rw [← r.length];exact z,?_⟩)
 have hf:H1 s1.heap.objs.size = none:=I1.hok.fresh (Nat.le_refl _)
 refine ⟨.ref s1.heap.objs.size,upd H1 s1.heap.objs.size (.tup xs),I1.laid (t':=s1.toks) (fun b u e=>Heap.get?_push_of_some _ e) (Nat.le_refl _) ?_,rfl,q _ hf⟩
 exact ⟨z,us,r,⟨_,Heap.get?_push_size _ rfl,rfl,_,rfl,rfl⟩⟩
theorem cJ (h:PA X es t):PE X (.List es pos) (aHN t):=by
 intro pins s σ H Q I hq
 refine wpAny_List_spliced (thn (h pos pins s σ H _ I hq) fun us s1 ⟨xs,H1,I1,r,z,q⟩=>⟨by rw [← r.length];exact z,?_⟩)
 have hf:H1 s1.heap.objs.size = none:=I1.hok.fresh (Nat.le_refl _)
 refine ⟨.ref s1.heap.objs.size,upd H1 s1.heap.objs.size (.lst xs),I1.laid (t':=s1.toks) (fun b u e=>Heap.get?_push_of_some _ e) (Nat.le_refl _) ?_,rfl,q _ hf⟩
 exact ⟨z,us,0,r,Heap.get?_push_size _ rfl⟩
end
abbrev Sp:=List V → Hp → VK → XK → Prop
abbrev CXT:=List Env → Hp → Shared → XK → Value → Shared → Prop
structure Env0 (P:Program) (w:World) (K:PySem.W.Frag) (mg:Str → Option Value) (base:Heap) (A:Around) (outer:List Env) (s:Shared) (H:Hp):Prop where
 frames:A.frames = some outer
 mod:Mod K mg base
 bs:∀ b o,base.get? b = some o → s.heap.get? b = some o ∧ H b = none
 bsz:base.objs.size ≤ s.heap.objs.size
 funs:s.heap.FunFrames base outer
 frf:∀ b ∈ frs outer,H b = none
 hok:HOk P w H s.heap
 bare:AllBare s.gens
def CE (outer:List Env) (P:Program) (w:World) (H:Hp) (s:Shared) (Q:VK) (u:Value) (s':Shared):Prop :=
 ∃ v H',s'.os = s.os ∧ AllBare s'.gens ∧ Un (frs outer) [] H H' s.heap s'.heap ∧ HOk P w H' s'.heap ∧ aZ v u ∧ Q v H'
def CR (CX:CXT) (outer:List Env) (P:Program) (w:World) (H:Hp) (s:Shared) (Q:VK) (E:XK) (r:Result) (s':Shared):Prop :=
 match r with
 | .ok (.ret u)=>CE outer P w H s Q u s'
 | .ok _=>False
 | .error e=>CX outer H s E e s'
structure FnOk (P:Program) (w:World) (K:PySem.W.Frag) (mg:Str → Option Value) (base:Heap) (CX:CXT) (k:Nat) (f:Addr) (fd:FuncData) (ps:List Str) (sp:Sp):Prop where
 len:∀ vs H Q E,sp vs H Q E → vs.length = ps.length
 run:∀ (A:Around) (outer:List Env) (s:Shared) (H:Hp) (args:Args) (us:List Value) (vs:List V) (Q:VK) (E:XK),Room k A → Env0 P w K mg base A outer s H → BindsTo s fd args (ps.zip us) → aY vs us → sp vs H Q E →
  codeAny (model P w) A (.call (.ref f) args) (CR CX outer P w H s Q E) s
theorem FnOk.imp {P:Program} {w:World} {K:PySem.W.Frag} {mg:Str → Option Value} {base:Heap} {CX:CXT} {k:Nat} {f:Addr} {fd:FuncData} {ps:List Str} {sp sp':Sp} (F:FnOk P w K mg base CX k f fd ps sp)
  (h:∀ vs H Q E,sp' vs H Q E → sp vs H Q E):FnOk P w K mg base CX k f fd ps sp' :=
 ⟨fun vs H Q E q=>F.len vs H Q E (h _ _ _ _ q),fun A outer s H args us vs Q E hr he hb hv hs=>F.run A outer s H args us vs Q E hr he hb hv (h _ _ _ _ hs)⟩
theorem Env0.make {P:Program} {w:World} {K:PySem.W.Frag} {mg:Str → Option Value} {base:Heap} {A:Around} {outer:List Env} {s:Shared} {H:Hp} (e:Env0 P w K mg base A outer s H) (C:Addr) (us:List Value) (kw:List (Str × Value)) :
  Env0 P w K mg base (A.under (.builtin "type.__call__" ⟨.ref C :: us,kw⟩)) outer s H:=⟨by first | exact e.frames | (simpa [Around.under,Code.envs,Code.isFrame,pushEnvs] using e.frames),e.mod,e.bs,e.bsz,e.funs,e.frf,e.hok,e.bare⟩
section
variable {X:Cx} {pins:List (Addr × Obj)} {σ:St} {H:Hp} {s s':Shared}
theorem Inv.env0 (I:Inv X pins σ H s):Env0 X.prog X.w X.K X.mg X.base X.A X.stack s H :=
 ⟨I.ok.frames,I.ok.mod,I.bs,Nat.le_trans I.ok.bsz I.sz,I.stack,I.stkFree,I.hok,I.bare⟩
theorem Inv.after {Q:VK} {u:Value} (I:Inv X pins σ H s) (h:CE X.stack X.prog X.w H s Q u s'):EP X pins σ Q u s':=by
 obtain ⟨v,H',os,bare,un,hok,r,q⟩:=h
 obtain ⟨hh,g,d,t,os'⟩:=s'
 obtain rfl:os' = s.os:=os
 exact ⟨v,H',I.call (h':=hh) (g':=g) (d':=d) (t':=t) (ch:=[]) un hok bare (fun b z=>absurd z (by simp)),r,q⟩
end
def aDU (sp:Sp) (dvs:List V) (E:XK) (t:TA):TE:=fun σ H Q=>t σ H fun vs H1=>sp (vs ++ dvs) H1 Q E
def yV (C:Addr) (m:Str) (sp:Sp) (dvs:List V) (E:XK) (ta:TE) (t:TA):TE:=fun σ H Q=>ta σ H fun x H1=>∃ a dx fs,x = .ref a ∧ H1 a = some (.ins C dx fs) ∧ fs.lookup m = none ∧
 t σ H1 fun vs H2=>sp (x :: (vs ++ dvs)) H2 Q E
def yW (C:Addr) (sp:Sp) (dvs:List V) (E:XK) (t:TA):TE:=fun σ H Q=>t σ H fun vs H1=>∀ x dx,H1 x = none → H1 dx = none → dx ≠ x →
 sp (.ref x :: (vs ++ dvs)) (upd (upd H1 dx (.own x)) x (.ins C dx [])) (fun v H2=>v = .non ∧ Q (.ref x) H2) E
def fD (K:PySem.W.Frag) (fd:FuncData) (ps:List Str) (ds:List Value):Prop :=
 ∀ (s:Shared) (us:List Value),K.In s.heap → (us ++ ds).length = ps.length → BindsTo s fd ⟨us,[]⟩ (ps.zip (us ++ ds))
theorem fD.all {K:PySem.W.Frag} {fd:FuncData} {ps:List Str} (h:∀ us:List Value,us.length = ps.length → bindArgs fd ⟨us,[]⟩ = pure (ps.zip us)):fD K fd ps []:=fun s us _ hl=>by
 rw [List.append_nil] at hl ⊢
 exact .of_eq (h us hl)
def mL (CX:CXT) (X:Cx) (E:XK):Prop:=∀ (pins:List (Addr × Obj)) (σ:St) (H:Hp) (s:Shared) (e:Value) (s':Shared),Inv X pins σ H s → CX X.stack H s E e s' → X.xe e s'
section
variable {X:Cx} {CX:CXT} {k:Nat} {f C:Addr} {fd:FuncData} {ps:List Str} {sp:Sp} {dvs:List V} {ds:List Value} {E:XK} {x m:Str} {p pos apos:Pos} {e o:Expr} {es:List Expr} {ta:TE} {t:TA}
theorem zP {pins:List (Addr × Obj)} {σ:St} {H:Hp} {s:Shared} {Q:VK} {us:List Value} {vs:List V} (F:FnOk X.prog X.w X.K X.mg X.base CX k f fd ps sp) (hr:Room k X.A) (hb:fD X.K fd ps ds) (hd:aY dvs ds) (hx:mL CX X E)
  (I:Inv X pins σ H s) (r:aY vs us) (h:sp (vs ++ dvs) H Q E):wpAny (model X.prog X.w) X.A (call (.ref f) us) (EP X pins σ Q) X.xe s:=by
 have r2:aY (vs ++ dvs) (us ++ ds):=r.append hd
 have hl:(us ++ ds).length = ps.length:=by rw [← r2.length];exact F.len _ _ _ _ h
 refine wpAny_call (codeAny_mono (F.run X.A X.stack s H ⟨us,[]⟩ (us ++ ds) (vs ++ dvs) Q E hr I.env0 (hb s us I.kIn hl) r2 h) fun r s' hq=>?_)
 cases r with
 | error e=>exact hx pins σ H s e s' I hq
 | ok fl =>
  cases fl with
  | ret u=>exact I.after hq
  | next=>exact False.elim hq
  | brk=>exact False.elim hq
  | cont=>exact False.elim hq
theorem aCK (F:FnOk X.prog X.w X.K X.mg X.base CX k f fd ps sp) (hr:Room k X.A) (hg:Gl X x) (hm:X.mg x = some (.ref f)) (hk:PySem.W.keepIn X.K (.ref f) = true) (hb:fD X.K fd ps ds) (hd:aY dvs ds) (hx:mL CX X E)
  (ha:PA X (e :: es) t) (hdb:(x == ("__debug__":Str)) = false:=by decide) (he:starEach (e :: es) X.env = (false,eval e X.env) :: starEach es X.env:=by rfl) (hpl:(backTo pos (starEach es X.env)).any (·.1) = false:=by rfl) :
  PE X (.Call (.Name x p) (e :: es) [] pos) (aDU sp dvs E t):=by
 intro pins s σ H Q I h
 refine wpAny_Call_Name_kw (kA I hg hm ?_ hdb)
 refine PySem.W.callWith_K (h₀:=X.base) I.ok.mod.kin hk (thn (ha pos pins s σ H _ I h) fun us s1 ⟨vs,H1,I1,r,q⟩=>⟨I1.kIn,?_⟩) he hpl
 exact zP F hr hb hd hx I1 r q
theorem aAB {pl:Sem Bool} (he:PE X o ta) (c:Cls X.K C) (hm:Meth X.K C m f) (F:FnOk X.prog X.w X.K X.mg X.base CX k f fd ps sp) (hr:Room k X.A) (hb:fD X.K fd ps ds) (hd:aY dvs ds) (hx:mL CX X E)
  (ht:eval (.Call (.Attribute o m apos) [] [] pos) X.env = (do
   let ov ← eval o X.env
   standAt apos.atName
   let (f,first) ← holding [ov] (getMethod ov m pl)
   callWith pos f first (backTo pos (starEach [] X.env)) (backToKw pos (keywordEach [] X.env))):=by rfl) :
  PE X (.Call (.Attribute o m apos) [] [] pos) (yV C m sp dvs E ta aEL):=by
 intro pins s σ H Q I h
 refine PySem.W.methodCall_KW (pl:=pl) (thn (he pins s σ H _ I h) fun u s1 ⟨x,H1,I1,rx,a,dx,fs,ex,ea,l,q⟩=>?_) ht
 subst ex
 obtain rfl:u = Value.ref a:=rx
 refine pL I1 ea c hm l ?_
 exact PySem.W.callWith_K0 (first:=[.ref a]) I1.kIn hm.kp (zP (us:=[.ref a]) (vs:=[.ref a]) F hr hb hd hx I1 (.cons rfl .nil) q)
structure Mk (K:PySem.W.Frag) (C f:Addr):Prop where
 makes:PySem.W.makesIn K C = true
 init:PySem.W.findIn K (.ref C) "__init__" = some (some (.ref f))
 fn:PySem.W.isFn K (.ref f) = true
 kp:PySem.W.keepIn K (.ref C) = true
theorem zO {pins:List (Addr × Obj)} {σ:St} {H:Hp} {s:Shared} {Q:VK} {us:List Value} {vs:List V} (M:Mk X.K C f) (F:FnOk X.prog X.w X.K X.mg X.base CX k f fd ps sp) (hr:Room (k + 1) X.A) (hb:fD X.K fd ps ds) (hd:aY dvs ds)
  (hx:mL CX X E) (I:Inv X pins σ H s) (r:aY vs us)
  (h:∀ x dx,H x = none → H dx = none → dx ≠ x → sp (.ref x :: (vs ++ dvs)) (upd (upd H dx (.own x)) x (.ins C dx [])) (fun v H2=>v = .non ∧ Q (.ref x) H2) E) :
  wpAny (model X.prog X.w) X.A (call (.ref C) us) (EP X pins σ Q) X.xe s:=by
 have hq:=h (s.heap.objs.size + 1) s.heap.objs.size (I.hok.fresh (Nat.le_succ _)) (I.hok.fresh (Nat.le_refl _)) (Nat.ne_of_lt (Nat.lt_succ_self _))
 have I2:=Inv.made (C:=C) I
 have r2:aY (V.ref (s.heap.objs.size + 1) :: (vs ++ dvs)) (Value.ref (s.heap.objs.size + 1) :: (us ++ ds)):=.cons rfl (r.append hd)
 have hl:(Value.ref (s.heap.objs.size + 1) :: us ++ ds).length = ps.length:=by
  have e:=r2.length
  rw [F.len _ _ _ _ hq] at e
  exact e.symm
 refine wpAny_call (uC (f:=f) I.kIn M.makes M.init (beq_iff_eq.mp M.fn) (codeAny_mono (F.run _ X.stack _ _ ⟨Value.ref (s.heap.objs.size + 1) :: us,[]⟩ (Value.ref (s.heap.objs.size + 1) :: (us ++ ds)) _ _ E (hr.make C us [])
  (I2.env0.make C us []) (hb _ (Value.ref (s.heap.objs.size + 1) :: us) I2.kIn hl) r2 hq) fun r s' hq'=>?_))
 cases r with
 | error e=>exact hx pins σ _ _ e s' I2 hq'
 | ok fl =>
  cases fl with
  | ret u =>
   obtain ⟨v,H',I3,rv,ev,q3⟩:=I2.after hq'
   subst ev
   exact ⟨rv,⟨V.ref (s.heap.objs.size + 1),H',I3,rfl,q3⟩⟩
  | next=>exact False.elim hq'
  | brk=>exact False.elim hq'
  | cont=>exact False.elim hq'
theorem aCJ (M:Mk X.K C f) (F:FnOk X.prog X.w X.K X.mg X.base CX k f fd ps sp) (hr:Room (k + 1) X.A) (hg:Gl X x) (hm:X.mg x = some (.ref C)) (hb:fD X.K fd ps ds) (hd:aY dvs ds) (hx:mL CX X E)
  (ha:PA X (e :: es) t) (hdb:(x == ("__debug__":Str)) = false:=by decide) (he:starEach (e :: es) X.env = (false,eval e X.env) :: starEach es X.env:=by rfl) (hpl:(backTo pos (starEach es X.env)).any (·.1) = false:=by rfl) :
  PE X (.Call (.Name x p) (e :: es) [] pos) (yW C sp dvs E t):=by
 intro pins s σ H Q I h
 refine wpAny_Call_Name_kw (kA I hg hm ?_ hdb)
 refine PySem.W.callWith_K (h₀:=X.base) I.ok.mod.kin M.kp (thn (ha pos pins s σ H _ I h) fun us s1 ⟨vs,H1,I1,r,q⟩=>⟨I1.kIn,?_⟩) he hpl
 exact zO M F hr hb hd hx I1 r q
end
section
variable {X:Cx} {CX:CXT} {k:Nat} {f C:Addr} {fd:FuncData} {ps ks:List Str} {sp:Sp} {E:XK} {x m:Str} {p pos apos kpos:Pos} {e o:Expr} {es:List Expr} {kws:List Keyword} {te ta:TE} {t tk:TA} {nm:Option Str}
structure KBinds (K:PySem.W.Frag) (fd:FuncData) (ps ks:List Str) (g:List Value → List Value → List Value) (gV:List V → List V → List V):Prop where
 to:∀ (s:Shared) (us ws:List Value),K.In s.heap → (g us ws).length = ps.length → BindsTo s fd ⟨us,ks.zip ws⟩ (ps.zip (g us ws))
 rel:∀ {vs:List V} {us:List Value} {zs:List V} {ws:List Value},aY vs us → aY zs ws → aY (gV vs zs) (g us ws)
variable {g:List Value → List Value → List Value} {gV:List V → List V → List V}
end
structure FnScope (N P:List Str) (sc:Scope):Prop where
 kind:sc.kind = .function
 co:sc.isCoroutine = false
 gen:sc.isGenerator = false
 nd:N.Nodup
 pre:N.take P.length = P
 par:∀ x ∈ P,sc.names.lookup x = some .local ∨ sc.names.lookup x = some .cell
 nofree:∀ y ∈ sc.names,y.2 ≠ .free
theorem rR {kindOf:Str → Option NameKind} {x:Str}:∀ {binds:List (Str × Value)} {m:Str → Option Value},(∀ v,(x,v) ∉ binds) → bindL kindOf binds m x = m x
 | [],_,_=>rfl
 | (n,v) :: r,m,h=>by
  unfold bindL
  rw [rR fun w hw=>h w (List.mem_cons_of_mem _ hw)]
  split
  ·have:x ≠ n:=by rintro rfl;exact h v List.mem_cons_self
   simp [this]
  ·rfl
theorem rT {kindOf:Str → Option NameKind} {x:Str}:∀ {binds:List (Str × Value)} {m:Str → Option Value},(∀ v,(x,v) ∉ binds) → bindC kindOf binds m x = m x
 | [],_,_=>rfl
 | (n,v) :: r,m,h=>by
  unfold bindC
  rw [rT fun w hw=>h w (List.mem_cons_of_mem _ hw)]
  split
  ·rfl
  ·have:x ≠ n:=by rintro rfl;exact h v List.mem_cons_self
   simp [this]
theorem rS {kindOf:Str → Option NameKind} {x:Str} {v:Value}:∀ {P:List Str} {vs:List Value} {i:Nat} {m:Str → Option Value},P.Nodup → P[i]? = some x → vs[i]? = some v → kindOf x = some .local →
  bindL kindOf (P.zip vs) m x = some v
 | [],_,_,_,_,h,_,_=>by simp at h
 | _ :: _,[],_,_,_,_,h,_=>by simp at h
 | p :: P,w :: vs,0,m,nd,h1,h2,hk=>by
  simp at h1 h2;subst h1;subst h2
  show bindL kindOf ((p,w) :: P.zip vs) m p = _
  unfold bindL
  rw [rR fun v hv=>(List.nodup_cons.mp nd).1 (List.of_mem_zip hv).1,if_pos hk]
  simp
 | p :: P,w :: vs,i + 1,m,nd,h1,h2,hk=>by
  show bindL kindOf ((p,w) :: P.zip vs) m x = _
  unfold bindL
  exact rS (i:=i) (List.nodup_cons.mp nd).2 (by simpa using h1) (by simpa using h2) hk
theorem rV {kindOf:Str → Option NameKind} {x:Str} {v:Value}:∀ {P:List Str} {vs:List Value} {i:Nat} {m:Str → Option Value},P.Nodup → P[i]? = some x → vs[i]? = some v → kindOf x ≠ some .local →
  bindC kindOf (P.zip vs) m x = some v
 | [],_,_,_,_,h,_,_=>by simp at h
 | _ :: _,[],_,_,_,_,h,_=>by simp at h
 | p :: P,w :: vs,0,m,nd,h1,h2,hk=>by
  simp at h1 h2;subst h1;subst h2
  show bindC kindOf ((p,w) :: P.zip vs) m p = _
  unfold bindC
  rw [rT fun v hv=>(List.nodup_cons.mp nd).1 (List.of_mem_zip hv).1,if_neg hk]
  simp
 | p :: P,w :: vs,i + 1,m,nd,h1,h2,hk=>by
  show bindC kindOf ((p,w) :: P.zip vs) m x = _
  unfold bindC
  exact rV (i:=i) (List.nodup_cons.mp nd).2 (by simpa using h1) (by simpa using h2) hk
def fW (N:List Str) (vs:List V):St:=vs.map some ++ List.replicate (N.length - vs.length) none
def iT (CX:CXT) (P:Program) (w:World) (K:PySem.W.Frag) (mg:Str → Option Value) (base:Heap) (N:List Str) (qual:Str) (scope:Scope) (f:Addr) (cd:Value) (A:Around) (outer:List Env) (s:Shared) (H:Hp) (E:XK):Cx where
 prog:=P
 w:=w
 K:=K
 mg:=mg
 base:=base
 A:=A.deeper (envOfC qual scope s.heap.objs.size f cd)
 N:=N
 s₀:=s
 H₀:=H
 env:=envOfC qual scope s.heap.objs.size f cd
 outer:=outer
 stack:=envOfC qual scope s.heap.objs.size f cd :: outer
 ex:=[]
 calm:=true
 fn:=fun _=>true
 pn:=[]
 xe:=fun e s'=>wpAny (model P w) (A.deeper (envOfC qual scope s.heap.objs.size f cd)) (leaving (envOfC qual scope s.heap.objs.size f cd) e) (fun _ s''=>CX outer H s E e s'') (fun e' s''=>CX outer H s E e' s'') s'
theorem uO {sc:Scope} {n:Nat} {x:Str} (h:sc.names.lookup x = some .cell):∃ c,(cellsFrom n sc.names []).lookup x = some c:=by
 have q:=PySem.W.cellsFrom_some sc.names n [] (.inl h)
 exact Option.isSome_iff_exists.mp q
theorem xV {CX:CXT} {P:Program} {w:World} {K:PySem.W.Frag} {mg:Str → Option Value} {base:Heap} {N ps:List Str} {qual:Str} {scope:Scope} {f:Addr} {cd:Value} {A:Around} {outer:List Env} {s s1:Shared} {H:Hp} {E:XK} {us:List Value} {vs:List V}
  (S:FnScope N ps scope) (hd:A.handled = none) (e0:Env0 P w K mg base A outer s H) (hl:vs.length = ps.length) (r:aY vs us)
  (x:InCallC s s.heap.objs.size (bindL (envOfC qual scope s.heap.objs.size f cd).kindOf (ps.zip us) fun _=>none) (cellsFrom (s.heap.objs.size + 1) scope.names []) (bindC (envOfC qual scope s.heap.objs.size f cd).kindOf (ps.zip us) fun _=>none) s1) :
  Inv (iT CX P w K mg base N qual scope f cd A outer s H E) [] (fW N vs) H s1:=by
 have hpl:ps.length ≤ N.length:=by have:=congrArg List.length S.pre;rw [List.length_take] at this;omega
 obtain ⟨h1,tk,rfl,hk⟩:=x.done
 have noA:∀ b:Addr,b ∉ (iT CX P w K mg base N qual scope f cd A outer s H E).ex:=fun b z=>absurd (show b ∈ ([]:List Addr) from z) (by simp)
 refine ⟨⟨e0.mod,S.kind,rfl,rfl,Nat.le_refl _,fun y z c h1 h2=>?_,fun y hy=>?_,fun y c _ h=>?_,fun _=>hd,Around.frames_deeper e0.frames,.inr ⟨rfl,rfl⟩,fun b z=>absurd z (noA b),e0.bs,e0.bsz,fun b _ _=>noA b,fun b z=>absurd z (noA b),e0.funs,e0.frf⟩,
  rfl,e0.bare,Un.kept hk,⟨_,x.toInCall.ns,fun i y v h1 h2 h3=>?_⟩,fun y c h=>⟨_,x.cell y c h⟩,e0.hok.fresh (Nat.le_refl _),fun y c h=>?_,fun p hp=>absurd (show p ∈ ([]:List (Addr × Obj)) from hp) (by simp),e0.hok.kept hk,?_⟩
 ·exact name_of_addr x.apart (PySem.mem_of_lookup h1) (PySem.mem_of_lookup h2)
 ·have hy:scope.names.lookup y = some .cell ∨ scope.names.lookup y = some .free:=hy
  rcases hy with hy | hy
  ·exact uO hy
  ·exact absurd rfl (S.nofree _ (PySem.mem_of_lookup hy))
 ·exact Nat.le_of_lt (x.above y c (PySem.mem_of_lookup h))
 ·have hi:i < vs.length:=by
   unfold fW at h2
   by_cases hi:i < vs.length
   ·exact hi
   ·rw [List.getElem?_append_right (by simpa using hi)] at h2
    rw [List.getElem?_replicate] at h2
    split at h2 <;> cases h2
  have ha:vs[i]? = some v:=by
   unfold fW at h2
   rw [List.getElem?_append_left (by simpa using hi),List.getElem?_map] at h2
   cases e:vs[i]? with
   | none=>rw [e] at h2;cases h2
   | some a=>rw [e] at h2;cases h2;rfl
  obtain ⟨u,hu,rv⟩:=r.get ha
  have hp:ps[i]? = some y:=by
   rw [← S.pre,List.getElem?_take_of_lt (by omega)];exact h1
  have ndP:ps.Nodup:=by rw [← S.pre];exact S.nd.sublist (List.take_sublist _ _)
  refine ⟨u,rv,?_⟩
  rcases S.par y (List.mem_of_getElem? hp) with k | k
  ·exact .inl ⟨k,rS ndP hp hu k⟩
  ·obtain ⟨c,e⟩:=uO (n:=s.heap.objs.size + 1) k
   refine .inr ⟨.inl k,c,e,?_⟩
   have q:=x.cell y c e
   rw [rV ndP hp hu (by show scope.names.lookup y ≠ _;rw [k];decide)] at q
   exact q
 ·exact e0.hok.fresh (Nat.le_of_lt (x.above y c (PySem.mem_of_lookup h)))
 ·unfold fW
  show _ = N.length
  rw [List.length_append,List.length_map,List.length_replicate]
  omega
theorem aEF {CX:CXT} {P:Program} {w:World} {K:PySem.W.Frag} {mg:Str → Option Value} {base:Heap} {k:Nat} {f:Addr} {name qual:Str} {params:Arguments} {body:List Stmt} {scope:Scope} {dV kV doc pm cdv ct oc:Value} {an od:Option Addr}
  {osl:Array (Option Value)} {N ps:List Str} {sp:Sp} (lk:K.lookup f = some ⟨oc,od,.func (PySem.W.fnOf name qual params body scope dV kV doc pm an cdv ct),osl⟩) (hcd:PySem.W.codeIn K cdv qual = true) (S:FnScope N ps scope)
  (len:∀ vs H Q E,sp vs H Q E → vs.length = ps.length)
  (hbody:∀ (A:Around) (outer:List Env) (s:Shared) (H:Hp) (vs:List V) (Q:VK) (E:XK),Room k (A.deeper (envOfC qual scope s.heap.objs.size f cdv)) → sp vs H Q E →
   ∃ t,PSs (iT CX P w K mg base N qual scope f cdv A outer s H E) body t ∧ t { nx:=fun _ H'=>Q .non H',rt:=Q } (fW N vs) H) :
  FnOk P w K mg base CX (k + 1) f (PySem.W.fnOf name qual params body scope dV kV doc pm an cdv ct) ps sp:=by
 refine ⟨len,fun A outer s H args us vs Q E hr e0 hb r hsp=>?_⟩
 have hl:=len _ _ _ _ hsp
 have KX:K.In s.heap:=e0.mod.kin.keeps fun b o e=>(e0.bs b o e).1
 have lim:s.heap.NoLimit:=e0.mod.nolimit.keeps fun b o e=>(e0.bs b o e).1
 have hkind:∀ y ∈ ps.zip us,scope.names.lookup y.1 = some .local ∨ (scope.names.lookup y.1 = some .cell ∧ ((cellsFrom (s.heap.objs.size + 1) scope.names []).lookup y.1).isSome = true):=fun ⟨n,v⟩ hy=>by
  rcases S.par n (List.of_mem_zip hy).1 with q | q
  ·exact .inl q
  ·exact .inr ⟨q,PySem.W.cellsFrom_some _ _ _ (.inl q)⟩
 refine codeAny_call_function hr.depth (KX _ _ lk) rfl S.co S.gen rfl (PySem.W.codeRec_of KX hcd) (hb _ _ _ _ ?_)
 refine wpAny_newFunctionEnv_cells S.kind hkind fun env he s1 x=>?_
 subst he
 refine ⟨lim.keeps x.toInCall.keep,codeAny_func ?_⟩
 obtain ⟨t,ht,hq⟩:=hbody A outer s H vs Q E (hr.deeper _) hsp
 have I:Inv (iT CX P w K mg base N qual scope f cdv A outer s H E) [] (fW N vs) H s1:=xV S hr.hd e0 hl r x
 refine wpAny_mono (ht [] s1 (fW N vs) H _ I hq) (fun fl s' hs=>?_) fun e s' hs=>hs
 have fin:∀ {σ':St} {H':Hp} {v:V} {u:Value},Inv (iT CX P w K mg base N qual scope f cdv A outer s H E) [] σ' H' s' → aZ v u → Q v H' → CE outer P w H s Q u s' :=
  fun {σ' H' v u} J rv q=>⟨v,H',J.os,J.bare,J.base,J.hok,rv,q⟩
 cases fl with
 | ret u =>
  obtain ⟨v,σ',H',J,rv,q⟩:=hs
  exact fin J rv q
 | next =>
  obtain ⟨σ',H',J,q⟩:=hs
  exact fin (v:=V.non) (u:=Value.none) J rfl q
 | brk =>
  obtain ⟨_,_,_,q⟩:=hs
  exact False.elim q
 | cont =>
  obtain ⟨_,_,_,q⟩:=hs
  exact False.elim q
end L2
namespace L2
open PySem PySem.Spec PyProof.Rows
section
variable {X:Cx} {x:Str} {p pos:Pos} {e:Expr} {es:List Expr} {t:TA} {id T:String} {r:List V → Hp → VK → Prop}
def tCB (r:List V → Hp → VK → Prop) (t:TA):TE:=fun σ H Q=>t σ H fun vs H1=>r vs H1 Q
theorem aO (hc:dU X (.builtin id) r) (hg:Gl X x) (hm:X.mg x = none) (hv:bootBuiltins x = some (.builtin id)) (ha:PA X (e :: es) t) (hn:x ≠ "__name__":=by decide) (hdb:(x == ("__debug__":Str)) = false:=by decide)
  (he:starEach (e :: es) X.env = (false,eval e X.env) :: starEach es X.env:=by rfl) (hpl:(backTo pos (starEach es X.env)).any (·.1) = false:=by rfl):PE X (.Call (.Name x p) (e :: es) [] pos) (tCB r t):=by
 intro pins s σ H Q I h
 refine wpAny_Call_Name_kw (sO I hg hm hv ?_ hn hdb)
 exact PyProof.Rows.callWith_builtin1 (thn (ha pos pins s σ H _ I h) fun us s1 ⟨vs,H1,I1,r1,q1⟩=>hc pins s1 σ H1 vs us Q I1 r1 q1) he hpl
theorem bB (hc:dU X (.type T) r) (hg:Gl X x) (hm:X.mg x = none) (hv:bootBuiltins x = some (.type T)) (ha:PA X (e :: es) t) (hn:x ≠ "__name__":=by decide) (hdb:(x == ("__debug__":Str)) = false:=by decide)
  (he:starEach (e :: es) X.env = (false,eval e X.env) :: starEach es X.env:=by rfl) (hpl:(backTo pos (starEach es X.env)).any (·.1) = false:=by rfl):PE X (.Call (.Name x p) (e :: es) [] pos) (tCB r t):=by
 intro pins s σ H Q I h
 refine wpAny_Call_Name_kw (sO I hg hm hv ?_ hn hdb)
 exact PyProof.Rows.callWith_type1 (thn (ha pos pins s σ H _ I h) fun us s1 ⟨vs,H1,I1,r1,q1⟩=>hc pins s1 σ H1 vs us Q I1 r1 q1) he hpl
end
end L2
namespace L2
open PySem PySem.Spec PyProof.Rows
section
variable {κ:Type} [DecidableEq κ]
def gQ (kvs:List (κ × V)) (k:κ):Option V:=(kvs.find? fun kv=>decide (kv.1 = k)).map (·.2)
def eU (kvs:List (κ × V)) (k:κ) (v:V):List (κ × V) :=
 if (kvs.any fun kv=>decide (kv.1 = k)) = true then kvs.map (fun kv=>if kv.1 = k then (kv.1,v) else kv) else kvs ++ [(k,v)]
def pT (kvs:List (κ × V)) (k:κ):List (κ × V):=kvs.filter fun kv=>decide (kv.1 ≠ k)
theorem nR {p:κ × V} {r:List (κ × V)} {k:κ} (e:p.1 = k):gQ (p :: r) k = some p.2:=by simp [gQ,List.find?_cons,e]
theorem nT {p:κ × V} {r:List (κ × V)} {k:κ} (e:¬ p.1 = k):gQ (p :: r) k = gQ r k:=by simp [gQ,List.find?_cons,e]
theorem nU (k:κ):∀ kvs:List (κ × V),(kvs.any fun kv=>decide (kv.1 = k)) = (gQ kvs k).isSome
 | []=>rfl
 | p :: r=>by
  rw [List.any_cons]
  by_cases e:p.1 = k
  ·simp only [nR e,decide_eq_true e,Bool.true_or,Option.isSome_some]
  ·rw [nT e,decide_eq_false e,Bool.false_or];exact nU k r
theorem mP (kvs:List (κ × V)) (k:κ) (v:V):(eU kvs k v).length ≤ kvs.length + 1:=by
 unfold eU
 split
 ·rw [List.length_map];omega
 ·rw [List.length_append,List.length_cons,List.length_nil];omega
theorem zU {kvs:List (κ × V)} {k:κ} (v:V) (h:gQ kvs k = none):eU kvs k v = kvs ++ [(k,v)]:=by
 unfold eU
 rw [nU,h]
 exact if_neg (by decide)
theorem jR.isSome_eq {o:Option V} {u:Option Value} (r:jR o u):o.isSome = u.isSome:=by
 cases o with
 | none=>cases u with
  | none=>rfl
  | some _=>exact (show False from r).elim
 | some _=>cases u with
  | none=>exact (show False from r).elim
  | some _=>rfl
theorem KV.val {kvs:List (κ × V)} {vs:List (κ × Value)} (r:KV kvs vs) (k:κ):jR (gQ kvs k) (valueAt vs k):=by
 unfold KV at r
 induction r with
 | nil=>exact True.intro
 | @cons p q ps qs h t ih =>
  obtain ⟨h1,h2⟩:=h
  by_cases e:p.1 = k
  ·have e':q.1 = k:=h1.symm.trans e
   have b:valueAt (q :: qs) k = some q.2:=by simp [valueAt,List.find?_cons,e']
   rw [nR e,b];exact h2
  ·have e':¬ q.1 = k:=fun z=>e (h1.trans z)
   have b:valueAt (q :: qs) k = valueAt qs k:=by simp [valueAt,List.find?_cons,e']
   rw [nT e,b];exact ih
theorem KV.any {kvs:List (κ × V)} {vs:List (κ × Value)} (r:KV kvs vs) (k:κ):(kvs.any fun kv=>decide (kv.1 = k)) = vs.any fun kv=>decide (kv.1 = k):=by
 unfold KV at r
 induction r with
 | nil=>rfl
 | cons h t ih=>rw [List.any_cons,List.any_cons,ih,h.1]
theorem KV.repl {kvs:List (κ × V)} {vs:List (κ × Value)} (r:KV kvs vs) (k:κ) {y:V} {u:Value} (ry:aZ y u) :
  KV (kvs.map fun kv=>if kv.1 = k then (kv.1,y) else kv) (vs.map fun kv=>if kv.1 = k then (kv.1,u) else kv):=by
 unfold KV at r ⊢
 induction r with
 | nil=>exact .nil
 | @cons p q ps qs h t ih =>
  rw [List.map_cons,List.map_cons]
  refine .cons ?_ ih
  obtain ⟨h1,h2⟩:=h
  by_cases e:p.1 = k
  ·rw [if_pos e,if_pos (h1.symm.trans e)];exact ⟨h1,ry⟩
  ·rw [if_neg e,if_neg (fun z=>e (h1.trans z))];exact ⟨h1,h2⟩
theorem KV.put {kvs:List (κ × V)} {vs:List (κ × Value)} (r:KV kvs vs) (k:κ) {y:V} {u:Value} (ry:aZ y u):KV (eU kvs k y) (stored vs k u):=by
 unfold eU stored
 rw [r.any k]
 by_cases e:(vs.any fun kv=>decide (kv.1 = k)) = true
 ·rw [if_pos e,if_pos e];exact r.repl k ry
 ·rw [if_neg e,if_neg e];exact Paired.snoc r ⟨rfl,ry⟩
theorem KV.drop {kvs:List (κ × V)} {vs:List (κ × Value)} (r:KV kvs vs) (k:κ):KV (pT kvs k) (without vs k):=by
 unfold KV at r ⊢
 unfold pT without
 induction r with
 | nil=>exact .nil
 | @cons p q ps qs h t ih =>
  obtain ⟨h1,h2⟩:=h
  rw [List.filter_cons,List.filter_cons]
  by_cases e:p.1 = k
  ·have a:¬ decide (p.1 ≠ k) = true:=by simp [e]
   have b:¬ decide (q.1 ≠ k) = true:=by simp [h1.symm.trans e]
   rw [if_neg a,if_neg b];exact ih
  ·have e':¬ q.1 = k:=fun z=>e (h1.trans z)
   have a:decide (p.1 ≠ k) = true:=by simp [e]
   have b:decide (q.1 ≠ k) = true:=by simp [e']
   rw [if_pos a,if_pos b];exact .cons ⟨h1,h2⟩ ih
theorem KV.keys {kvs:List (κ × V)} {vs:List (κ × Value)} (r:KV kvs vs):kvs.map (·.1) = vs.map (·.1):=by
 unfold KV at r
 induction r with
 | nil=>rfl
 | cons h t ih=>rw [List.map_cons,List.map_cons,ih,h.1]
theorem KV.length {kvs:List (κ × V)} {vs:List (κ × Value)} (r:KV kvs vs):kvs.length = vs.length:=Paired.length r
theorem aBI (kvs:List (κ × V)) (k:κ):(pT kvs k).length ≤ kvs.length:=List.length_filter_le _ _
end
theorem wV {P:Program} {w:World} {k:Key} {u:Value} (r:aZ (kV k) u):(aS P w).is k u = true:=by
 cases k with
 | inl i=>obtain ⟨t,e⟩:=(show ∃ t,u = Value.int i t from r);subst e;exact uA P w i t
 | inr x=>obtain ⟨t,e⟩:=(show ∃ t,u = Value.str x t from r);subst e;exact tZ P w x t
theorem rE {P:Program} {w:World}:∀ {ks:List Key} {us:List Value},aY (ks.map kV) us → ItemsAre (aS P w) ks us
 | [],_,r=>by rw [List.map_nil] at r;cases r;exact .nil
 | k :: ks,_,r=>by
  rw [List.map_cons] at r
  cases r with
  | cons h t=>exact .cons (wV h) (rE t)
abbrev KT (H:Hp):List (List Key × V) → List (List Key × Addr × Value) → Prop:=Paired fun p q=>p.1 = q.1 ∧ H q.2.1 = some (.tup (p.1.map kV)) ∧ aZ p.2 q.2.2
theorem KT.val {H:Hp} {kvs:List (List Key × V)} {xs:List (List Key × Addr × Value)} (r:KT H kvs xs) (k:List Key):jR (gQ kvs k) ((atKey xs k).map (·.2)):=by
 induction r with
 | nil=>exact True.intro
 | @cons p q ps qs h t ih =>
  obtain ⟨h1,_,h2⟩:=h
  by_cases e:p.1 = k
  ·have e':q.1 = k:=h1.symm.trans e
   have b:atKey (q :: qs) k = some q.2:=by simp [atKey,List.find?_cons,e']
   rw [nR e,b];exact h2
  ·have e':¬ q.1 = k:=fun z=>e (h1.trans z)
   have b:atKey (q :: qs) k = atKey qs k:=by simp [atKey,List.find?_cons,e']
   rw [nT e,b];exact ih
theorem KT.repl {H:Hp} {kvs:List (List Key × V)} {xs:List (List Key × Addr × Value)} (r:KT H kvs xs) (k:List Key) {y:V} {u:Value} (ry:aZ y u) :
  KT H (kvs.map fun kv=>if kv.1 = k then (kv.1,y) else kv) (xs.map (putAt k u)):=by
 induction r with
 | nil=>exact .nil
 | @cons p q ps qs h t ih =>
  rw [List.map_cons,List.map_cons]
  refine .cons ?_ ih
  obtain ⟨h1,h2,h3⟩:=h
  unfold putAt
  by_cases e:p.1 = k
  ·rw [if_pos e,if_pos (h1.symm.trans e)];exact ⟨h1,h2,ry⟩
  ·rw [if_neg e,if_neg (fun z=>e (h1.trans z))];exact ⟨h1,h2,h3⟩
theorem KT.put {H:Hp} {kvs:List (List Key × V)} {xs:List (List Key × Addr × Value)} (r:KT H kvs xs) (k:List Key) {b:Addr} {y:V} {u:Value} (hb:H b = some (.tup (k.map kV))) (ry:aZ y u) :
  KT H (eU kvs k y) (storedH xs k b u):=by
 have e:(kvs.any fun kv=>decide (kv.1 = k)) = (atKey xs k).isSome:=by
  rw [nU,(r.val k).isSome_eq,Option.isSome_map]
 unfold eU storedH
 rw [e]
 by_cases q:(atKey xs k).isSome = true
 ·rw [if_pos q,if_pos q];exact r.repl k ry
 ·rw [if_neg q,if_neg q];exact Paired.snoc r ⟨rfl,hb,ry⟩
theorem KT.keeps {H H':Hp} {kvs:List (List Key × V)} {xs:List (List Key × Addr × Value)} (r:KT H kvs xs) (ht:∀ b ys,H b = some (.tup ys) → H' b = some (.tup ys)):KT H' kvs xs :=
 Paired.mapP r fun _ _ z=>⟨z.1,ht _ _ z.2.1,z.2.2⟩
section
variable {P:Program} {w:World} {H:Hp} {h:Heap} {a:Addr}
theorem aEA {u:HO} (ok:HOk P w H h) (e:Rd H a u):bG P w H h a u:=e.ok ok
theorem uH {kvs:List (Key × V)} (ok:HOk P w H h) (e:Rd H a (.dK kvs)):kvs.length ≤ sizeLine ∧ (a == sysModules) = false ∧ ∃ vs,KV kvs vs ∧ h.DictOf (aS P w) a vs :=
 show bG P w H h a (.dK kvs) from aEA ok e
theorem aEG {kvs:List (Key × V)} (ok:HOk P w H h) (e:H a = some (.dK kvs)):kvs.length ≤ sizeLine ∧ (a == sysModules) = false ∧ ∃ vs,KV kvs vs ∧ h.DictOf (aS P w) a vs:=uH ok (.inl e)
theorem vL {ks:List Key} (ok:HOk P w H h) (e:H a = some (.tup (ks.map kV))):(tupleKind (aS P w)).is h ks a:=by
 obtain ⟨_,its,r,o,h1,h2,n,h3,_⟩:=(show bG P w H h a (.tup (ks.map kV)) from ok a _ e)
 exact ⟨o,its.toArray,n,h1,h2,h3,by simpa using rE r⟩
theorem xC {kvs:List (List Key × V)} (ok:HOk P w H h) (e:Rd H a (.dT kvs)):kvs.length ≤ sizeLine ∧ (a == sysModules) = false ∧
  ∃ xs,KT H kvs xs ∧ h.DictOfH (tupleKind (aS P w)) a xs:=by
 obtain ⟨z,y,xs,r,o,es,ep,h1,h2,h3,h4,h5⟩:=(show bG P w H h a (.dT kvs) from aEA ok e)
 refine ⟨z,y,xs,r,o,es,ep,h1,h2,h3,h4,fun x hx=>?_,h5⟩
 have all:∀ {l:List (List Key × V)} {m:List (List Key × Addr × Value)},KT H l m → ∀ x ∈ m,(tupleKind (aS P w)).is h x.1 x.2.1:=by
  intro l m q
  induction q with
  | nil=>intro x hx;exact nomatch hx
  | @cons p q ps qs hq t ih =>
   intro x hx
   rcases List.mem_cons.mp hx with e | hx
   ·subst e
    exact vL ok (by rw [← hq.1];exact hq.2.1)
   ·exact ih x hx
 exact all r x hx
theorem aHE {kvs:List (List Key × V)} (ok:HOk P w H h) (e:H a = some (.dT kvs)):kvs.length ≤ sizeLine ∧ (a == sysModules) = false ∧
  ∃ xs,KT H kvs xs ∧ h.DictOfH (tupleKind (aS P w)) a xs:=xC ok (.inl e)
end
def uS (H:Hp) (a:Addr) (y:V) (r:Option V):Prop :=
 (∃ kvs k,Rd H a (.dK kvs) ∧ y = kV k ∧ r = gQ kvs k) ∨ ∃ kvs k b,Rd H a (.dT kvs) ∧ y = .ref b ∧ H b = some (.tup (k.map kV)) ∧ r = gQ kvs k
def tE (H:Hp) (a:Addr) (y v:V) (H':Hp):Prop :=
 (∃ kvs k,H a = some (.dK kvs) ∧ y = kV k ∧ kvs.length < sizeLine ∧ H' = upd H a (.dK (eU kvs k v))) ∨
 ∃ kvs k b,H a = some (.dT kvs) ∧ y = .ref b ∧ H b = some (.tup (k.map kV)) ∧ kvs.length < sizeLine ∧ H' = upd H a (.dT (eU kvs k v))
theorem uS.k {H:Hp} {a:Addr} {kvs:List (Key × V)} {k:Key} (e:H a = some (.dK kvs)):uS H a (kV k) (gQ kvs k):=.inl ⟨kvs,k,.inl e,rfl,rfl⟩
theorem tE.k {H:Hp} {a:Addr} {kvs:List (Key × V)} {k:Key} {v:V} (e:H a = some (.dK kvs)) (hl:kvs.length < sizeLine):tE H a (kV k) v (upd H a (.dK (eU kvs k v))):=.inl ⟨kvs,k,e,rfl,hl,rfl⟩
section
variable {X:Cx} {pins:List (Addr × Obj)} {σ:St} {H:Hp} {s:Shared} {a:Addr} {y v:V} {u r:Value} {o:Option V} {A:Around} {E:Value → Shared → Prop}
theorem Inv.big (I:Inv X pins σ H s):sysModules < s.heap.objs.size:=by
 have h:mainGlobals < s.heap.objs.size:=(I.mod.glob.keeps I.bk).lt
 exact Nat.lt_trans (by decide) h
theorem yG {Q:Value → Shared → Prop} (hu:A.units + 1 < cLine) (I:Inv X pins σ H s) (g:uS H a y (some v)) (ry:aZ y u) (h:∀ w' s',Inv X pins σ H s' → aZ v w' → Q w' s') :
  wpAny (model X.prog X.w) A (getItem (.ref a) u) Q E s:=by
 rcases g with ⟨kvs,k,e,ey,l⟩ | ⟨kvs,k,b,e,ey,eb,l⟩
 ·subst ey
  obtain ⟨z,hd,vs,rel,dd⟩:=uH I.hok e
  obtain ⟨w',hw,rw'⟩:=jR.some_of (v:=v) (o:=valueAt vs k) (by rw [l];exact rel.val k)
  exact wpAny_getItem_of (wV ry) dd.mapOf hw (h w' _ (I.tok _) rw')
 ·subst ey
  cases (show u = Value.ref b from ry)
  obtain ⟨z,hd,xs,rel,dd⟩:=xC I.hok e
  obtain ⟨w',hw,rw'⟩:=jR.some_of (v:=v) (o:=(atKey xs k).map (·.2)) (by rw [l];exact rel.val k)
  obtain ⟨p,hp,hp2⟩:=Option.map_eq_some_iff.mp hw
  refine wpAny_getItem_heap (tupleKind_room_in1 hu) (vL I.hok eb) dd hp ?_
  rw [hp2]
  exact h w' _ (I.tok _) rw'
theorem sS {h':Heap} {t':Nat} {ob:HO} (I:Inv X pins σ H s) (mu:Mut (H a)) (hs:Heap.SameBut a s.heap h') (he:∃ q,h'.get? a = some q) (new:bG X.prog X.w (upd H a ob) h' a ob) :
  Inv X pins σ (upd H a ob) { s with heap:=h',toks:=t' } :=
 I.write (x:=a) (e:=a) mu (.inl rfl) (fun b q hb z=>(hs.2 b hb).trans z) he new
theorem aBJ {P:Program} {w:World} {H':Hp} {h':Heap} {kvs:List (Key × V)} {vs:List (Key × Value)} (z:kvs.length ≤ sizeLine) (hd:(a == sysModules) = false) (rel:KV kvs vs) (dd:h'.DictOf (aS P w) a vs) :
  bG P w H' h' a (.dK kvs):=⟨z,hd,vs,rel,dd⟩
theorem yF {H':Hp} {Q:Unit → Shared → Prop} (hu:A.units + 1 < cLine) (I:Inv X pins σ H s) (g:tE H a y v H') (ry:aZ y u) (rv:aZ v r) (h:∀ s',Inv X pins σ H' s' → Q () s') :
  wpAny (model X.prog X.w) A (setItem (.ref a) u r) Q E s:=by
 rcases g with ⟨kvs,k,e,ey,l,eH⟩ | ⟨kvs,k,b,e,ey,eb,l,eH⟩
 ·subst ey eH
  obtain ⟨z,hd,vs,rel,dd⟩:=aEG I.hok e
  have hz:vs.length ≤ sizeLine:=by rw [← rel.length];exact z
  have hl:(eU kvs k v).length ≤ sizeLine:=by have:=mP kvs k v;omega
  refine wpAny_setItem_pairs (hsz:=hz) (wV ry) dd fun h' dd' hs=>h _ ?_
  have he:∃ q,h'.get? a = some q:=let ⟨q,_,_,hq,_⟩:=dd';⟨q,hq⟩
  exact sS I (by rw [e];exact True.intro) hs he (aBJ hl hd (rel.put k rv) dd')
 ·subst ey eH
  cases (show u = Value.ref b from ry)
  obtain ⟨z,hd,xs,rel,dd⟩:=aHE I.hok e
  have hz:xs.length ≤ sizeLine:=by rw [← Paired.length rel];exact z
  have hl:(eU kvs k v).length ≤ sizeLine:=by have:=mP kvs k v;omega
  refine wpAny_setItem_heap (hsz:=hz) (tupleKind_room_in1 hu) (vL I.hok eb) dd fun h' dd' hs=>h _ ?_
  obtain ⟨q,es,ep,hq,h2,h3,h4,_,h5⟩:=dd'
  refine sS I (by rw [e];exact True.intro) hs ⟨q,hq⟩ ⟨hl,hd,_,(rel.put k eb rv).keeps fun c ys ec=>?_,q,es,ep,hq,h2,h3,h4,h5⟩
  rw [aJ (aAH ec e (fun z=>nomatch z))]
  exact ec
end
section
variable {X:Cx} {pins:List (Addr × Obj)} {σ:St} {H:Hp} {s:Shared} {a:Addr} {kvs:List (Key × V)} {k:Key} {u:Value} {A:Around} {E:Value → Shared → Prop}
theorem aHF {v:V} {more:List Value} {Q:Value → Shared → Prop} (I:Inv X pins σ H s) (e:H a = some (.dK kvs)) (ry:aZ (kV k) u) (l:gQ kvs k = some v) (hm:more = [] ∨ ∃ x,more = [x])
  (h:∀ w' s',Inv X pins σ (upd H a (.dK (pT kvs k))) s' → aZ v w' → Q w' s'):wpAny (model X.prog X.w) A (call (.builtin "dict.pop") (.ref a :: u :: more)) Q E s:=by
 obtain ⟨z,hd,vs,rel,dd⟩:=aEG I.hok e
 obtain ⟨w',hw,rw'⟩:=jR.some_of (v:=v) (o:=valueAt vs k) (by rw [← l];exact rel.val k)
 have hp:(keyPart u).isSome = true:=by
  cases k with
  | inl i=>obtain ⟨t,q⟩:=(show ∃ t,u = Value.int i t from ry);subst q;rfl
  | inr x=>obtain ⟨t,q⟩:=(show ∃ t,u = Value.str x t from ry);subst q;rfl
 have ha:argsOk "dict.pop" ⟨.ref a :: u :: more,[]⟩:=by
  rcases hm with q | ⟨x,q⟩
  ·subst q;exact PySem.F.args_dict_pop_2 _ _
  ·subst q;exact PySem.F.args_dict_pop_3 _ _ _
 refine call_meetsIn PySem.F.slot_dict_pop dd.typeIs PySem.F.entry_dict_pop ha (meets_dict_pop_there (aS X.prog X.w) a (wV ry) more hm hp)
  ⟨vs,w',dd,by rw [← rel.length];exact z,hw,fun h' dd' hs=>h w' _ ?_ rw'⟩
 have he:∃ q,h'.get? a = some q:=let ⟨q,_,_,hq,_⟩:=dd';⟨q,hq⟩
 exact sS I (by rw [e];exact True.intro) hs he (aBJ (Nat.le_trans (aBI kvs k) z) hd (rel.drop k) dd')
theorem aHG {Q:Value → Shared → Prop} (I:Inv X pins σ H s) (e:Rd H a (.dK kvs)) (h:∀ t s',Inv X pins σ H s' → Q (.int kvs.length t) s'):wpAny (model X.prog X.w) A (call (.builtin "len") [.ref a]) Q E s:=by
 obtain ⟨z,hd,vs,rel,dd⟩:=uH I.hok e
 refine call_len_dict hd dd (by rw [← rel.length];rw [sizeLine_eq] at z;omega) ?_
 rw [← rel.length]
 exact h _ _ (I.tok _)
end
def aHI (i:Expr):Prop:=∀ ov iv,subscripted i false ov iv = operate [ov,iv] (getItem ov iv)
theorem aBX {prog:Program} {w:World} {A:Around} {E:Value → Shared → Prop} {s:Shared} {env:Env} {value slice:Expr} {pos:Pos} {T id:String} {Q:Value → Shared → Prop}
  (hl:typeLookup (.type T) "__getitem__" = pure (some (.builtin id))) (hs:aHI slice)
  (h:wpAny (model prog w) A (eval value env) (fun o s₁=>wpAny (model prog w) A (eval slice env) (fun i s₂=>s₂.TypeIs o T ∧ wpAny (model prog w) A (getItem o i) Q E s₂) E s₁) E s) :
  wpAny (model prog w) A (eval (.Subscript value slice pos) env) Q E s:=by
 refine Subscript_ (wpAny_mono h (fun o s₁ h₁=>wpAny_mono h₁ (fun i s₂ h₂=>?_) fun _ _ x=>x) fun _ _ x=>x)
 obtain ⟨hT,h₂⟩:=h₂
 unfold subscriptTail
 refine wpAny_bind ?_
 rw [getitemInPython_of_ne hT.not_modules]
 refine wpAny_bind (wpAny_specialOf hT hl ?_)
 have fin:wpAny (model prog w) A (subscripted slice false o i) (fun r s₃=>wpAny (model prog w) A (letTemporaryGo value o r >>= fun _=>pure r) Q E s₃) E s₂:=by
  rw [hs o i]
  exact wpAny_operating (wpAny_mono h₂ (fun r s₃ h₃=>wpAny_bind (wpAny_letTemporaryGo (wpAny_pure h₃))) fun _ _ x=>x)
 first
  | exact wpAny_pure (wpAny_bind fin)
  | exact wpAny_bind (wpAny_pure (wpAny_bind fin))
  | exact wpAny_bind fin
theorem uI {X:Cx} {pins:List (Addr × Obj)} {σ:St} {H:Hp} {s:Shared} {a:Addr} {y:V} {o:Option V} (I:Inv X pins σ H s) (g:uS H a y o):s.TypeIs (.ref a) "dict":=by
 rcases g with ⟨kvs,k,e,_,_⟩ | ⟨kvs,k,b,e,_,_,_⟩
 ·obtain ⟨_,_,vs,_,dd⟩:=uH I.hok e
  exact dd.typeIs
 ·obtain ⟨_,_,xs,_,dd⟩:=xC I.hok e
  exact dd.typeIs
def aGA (td ty:TE):TE:=fun σ H Q=>td σ H fun x H1=>ty σ H1 fun y H2=>∃ a v,x = .ref a ∧ uS H2 a y (some v) ∧ Q v H2
def aGE (td ty tv:TE):TS:=fun D σ H=>tv σ H fun v H1=>td σ H1 fun x H2=>ty σ H2 fun y H3=>∃ a H4,x = .ref a ∧ tE H3 a y v H4 ∧ D.nx σ H4
section
variable {X:Cx} {o i e value:Expr} {pos pos' tpos:Pos} {td ty tv:TE}
theorem jX (hu:X.A.units + 1 < cLine) (ho:PE X o td) (hi:PE X i ty) (hs:aHI i):PE X (.Subscript o i pos) (aGA td ty):=by
 intro pins s σ H Q I h
 refine aBX PySem.F.slot_dict_getitem.lookup hs (thn (ho pins s σ H _ I h) fun u s1 ⟨x,H1,I1,rx,q1⟩=>thn (hi pins s1 σ H1 _ I1 q1) fun iv s2 ⟨y,H2,I2,ry,a,v,ex,g,q2⟩=>?_)
 subst ex
 obtain rfl:u = Value.ref a:=rx
 exact ⟨uI I2 g,yG hu I2 g ry fun w' s3 I3 rw'=>⟨v,H2,I3,rw',q2⟩⟩
theorem kX (hu:X.A.units + 1 < cLine) (ho:PE X o td) (hi:PE X i ty) (hv:PE X value tv) (hs:swapsWith value (some (.Subscript o i pos')) pos.line X.env = pure false) :
  PS X (.Assign [.Subscript o i pos'] value pos) (aGE td ty tv):=by
 intro pins s σ H D I h
 refine wpAny_Assign_Subscript (thn (hv pins s σ H _ I h) fun r s1 ⟨v,H1,I1,rv,q1⟩=>thn (ho pins s1 σ H1 _ I1 q1) fun u s2 ⟨x,H2,I2,rx,q2⟩=>thn (hi pins s2 σ H2 _ I2 q2) fun iv s3 ⟨y,H3,I3,ry,a,H4,ex,g,q3⟩=>?_) hs
 subst ex
 obtain rfl:u = Value.ref a:=rx
 exact yF hu I3 g ry rv fun s4 I4=>⟨σ,H4,I4,q3⟩
end
theorem aBK {P:Program} {w:World} {H:Hp} (h:Heap) (hb:sysModules < h.objs.size):bG P w H (h.push { cls:=.type "dict",data:=.dict #[] }) h.objs.size (.dK []) :=
 ⟨Nat.zero_le _,beq_eq_false_iff_ne.mpr (Ne.symm (Nat.ne_of_lt hb)),[],.nil,Heap.DictOf.new h⟩
def aEO:TE:=fun _ H Q=>∀ p,H p = none → Q (.ref p) (upd H p (.dK []))
section
variable {X:Cx} {pos:Pos}
theorem tQ:PE X (.Dict [] [] pos) aEO:=fun pins s σ H Q I h =>
 wpAny_Dict_empty ⟨.ref s.heap.objs.size,_,I.laid (a:=s.heap.objs.size) (o:=.dK []) (t':=s.toks) (fun _ _ q=>Heap.get?_push_of_some _ q) (Nat.le_refl _) (aBK s.heap I.big),rfl,h _ (I.hok.fresh (Nat.le_refl _))⟩
end
def aEK:List (TE × TE) → St → Hp → (List (V × V) → Hp → Prop) → Prop
 | [],_,H,Q=>Q [] H
 | (tk,tv) :: r,σ,H,Q=>tk σ H fun x H1=>tv σ H1 fun y H2=>aEK r σ H2 fun ps H3=>Q ((x,y) :: ps) H3
abbrev VV:List (V × V) → List (Value × Value) → Prop:=Paired fun p q=>aZ p.1 q.1 ∧ aZ p.2 q.2
def mergeK (kvs more:List (Key × V)):List (Key × V):=more.foldl (fun acc kv=>eU acc kv.1 kv.2) kvs
structure M1 (X:Cx) (o:Expr) (m:Str) (apos:Pos) (e:Expr) (cpos:Pos):Prop where
 base:attributeBase o m X.env (eval o X.env) = eval o X.env
 few:((backTo cpos (starEach [e] X.env)).all (fun x=>!x.1) && (backToKw cpos (keywordEach [] X.env)).all (fun x=>x.1.isSome)
  && decide (([e]:List Expr).length + ([]:List Keyword).length + (if ([]:List Keyword).isEmpty then 0 else 1) < 30)) = true
 line:(apos.endLine == cpos.line) = true
 trees:backTo cpos (starEach [e] X.env) = [(false,eval e X.env)]
structure M2 (X:Cx) (o:Expr) (m:Str) (apos:Pos) (e f:Expr) (cpos:Pos):Prop where
 base:attributeBase o m X.env (eval o X.env) = eval o X.env
 few:((backTo cpos (starEach [e,f] X.env)).all (fun x=>!x.1) && (backToKw cpos (keywordEach [] X.env)).all (fun x=>x.1.isSome)
  && decide (([e,f]:List Expr).length + ([]:List Keyword).length + (if ([]:List Keyword).isEmpty then 0 else 1) < 30)) = true
 line:(apos.endLine == cpos.line) = true
 trees:backTo cpos (starEach [e,f] X.env) = [(false,eval e X.env),(false,eval f X.env)]
def IsD (H:Hp) (a:Addr):Prop:=(∃ kvs,Rd H a (.dK kvs)) ∨ ∃ kvs,Rd H a (.dT kvs)
theorem aFL {X:Cx} {pins:List (Addr × Obj)} {σ:St} {H:Hp} {s:Shared} {a:Addr} (I:Inv X pins σ H s) (d:IsD H a) :
  s.TypeIs (.ref a) "dict" ∧ (∀ b,Value.ref a = .ref b → ∃ ob,s.heap.get? b = some ob ∧ ob.dict = none) ∧ (a == sysModules) = false:=by
 rcases d with ⟨kvs,e⟩ | ⟨kvs,e⟩
 ·obtain ⟨_,hd,vs,_,dd⟩:=uH I.hok e
  refine ⟨dd.typeIs,fun b q=>?_,hd⟩
  cases q
  obtain ⟨ob,_,_,h1,h2,_⟩:=dd
  exact ⟨ob,h1,h2.2.1⟩
 ·obtain ⟨_,hd,xs,_,dd⟩:=xC I.hok e
  refine ⟨dd.typeIs,fun b q=>?_,hd⟩
  cases q
  obtain ⟨ob,_,_,h1,h2,_⟩:=dd
  exact ⟨ob,h1,h2.2.1⟩
section
variable {X:Cx} {pins:List (Addr × Obj)} {σ:St} {H:Hp} {s:Shared} {a:Addr} {y d:V} {u r:Value} {o:Option V} {A:Around} {E:Value → Shared → Prop}
end
def aEN (td ty:TE):TE:=fun σ H Q=>td σ H fun x H1=>∃ a,x = .ref a ∧ IsD H1 a ∧ ty σ H1 fun y H2=>∃ kvs k v,H2 a = some (.dK kvs) ∧ y = kV k ∧ gQ kvs k = some v ∧ Q v (upd H2 a (.dK (pT kvs k)))
section
variable {X:Cx} {o e f:Expr} {apos cpos:Pos} {td ty tx:TE}
theorem aAC (ho:PE X o td) (he:PE X e ty) (m:M1 X o "pop" apos e cpos):PE X (.Call (.Attribute o "pop" apos) [e] [] cpos) (aEN td ty):=by
 intro pins s σ H Q I h
 refine wpAny_Call_method m.base m.few m.line PySem.F.plainAttrs_dict PySem.F.slot_dict_pop PySem.F.type_dict_pop (thn (ho pins s σ H _ I h) fun u s1 ⟨x,H1,I1,rx,a,ex,d,q1⟩=>?_)
 subst ex
 obtain rfl:u = Value.ref a:=rx
 obtain ⟨t1,t2,_⟩:=aFL I1 d
 refine ⟨t1,t2,?_⟩
 rw [m.trees]
 refine Calls.callWith_builtin rfl (Calls.evalArgs_plain (Calls.spliced_cons (thn (he pins s1 σ H1 _ I1 q1) fun iv s2 ⟨y,H2,I2,ry,kvs,k,v,ea,ey,l,q2⟩=>Calls.spliced_nil ?_)))
 subst ey
 exact aHF I2 ea ry l (.inl rfl) fun w' s3 I3 rw'=>⟨v,_,I3,rw',q2⟩
end
section
variable {X:Cx} {pins:List (Addr × Obj)} {σ:St} {H:Hp} {s:Shared} {a:Addr} {kvs:List (Key × V)} {A:Around} {E:Value → Shared → Prop}
end
section
variable {X:Cx} {pins:List (Addr × Obj)} {σ:St} {H:Hp} {s:Shared} {a:Addr} {y:V} {u:Value} {A:Around} {E:Value → Shared → Prop}
end
end L2
namespace HT
open PySem PyProof.Rows
def aGQ:List Int → List Int → Bool
 | [],[]=>false
 | [],_ :: _=>true
 | _ :: _,[]=>false
 | x :: xs,y :: ys=>if x = y then aGQ xs ys else decide (x < y)
section
open PySem.SeqAt
open PySem.AutoSeq1 (wpAny_loadPart')
open PySem.MeetsSeq PySem.MeetsSeq2 PySem.MeetsSeq3
end
section
variable {prog:Program} {w:World} {A:Around} {E:Value → Shared → Prop} {s:Shared}
def sIx (n d:Nat):Option Int → Nat
 | none=>d
 | some v=>if v < 0 then (v + (n:Int)).toNat else min v.toNat n
theorem sIx_none (n d:Nat):sIx n d none = d:=rfl
theorem sIx_nat (n d k:Nat):sIx n d (some (k:Int)) = min k n:=by
 show (if (k:Int) < 0 then ((k:Int) + (n:Int)).toNat else min (k:Int).toNat n) = min k n
 rw [if_neg (by omega),Int.toNat_natCast]
end
end HT
namespace L2
open PySem PySem.Spec PyProof.Rows
abbrev TO:=St → Hp → (Option Int → Hp → Prop) → Prop
def PO (X:Cx) (e:Option Expr) (t:TO):Prop :=
 ∀ (pins:List (Addr × Obj)) (s:Shared) (σ:St) (H:Hp) (Q:Option Int → Hp → Prop),Inv X pins σ H s → t σ H Q →
  wpAny (model X.prog X.w) X.A (evalPart e X.env) (fun u s'=>∃ o H',Inv X pins σ H' s' ∧ IsPart u o ∧ Q o H') X.xe s
def aBW:TO:=fun _ H Q=>Q none H
def aFX (t:TE):TO:=fun σ H Q=>t σ H fun x H1=>∃ i,x = .int i ∧ Q (some i) H1
section
variable {X:Cx} {e:Expr} {te:TE} {lo hi:Option Expr} {tl th:TO} {pos p2:Pos}
theorem nM:PO X none aBW:=by
 intro pins s σ H Q I h
 rw [evalPart_none]
 exact wpAny_pure ⟨none,H,I,.none,h⟩
theorem nL (h:PE X e te):PO X (some e) (aFX te):=by
 intro pins s σ H Q I hw
 rw [evalPart_some]
 refine thn (h pins s σ H _ I hw) fun u s1 ⟨x,H1,I1,r1,q1⟩=>?_
 obtain ⟨i,rfl,q⟩:=q1
 obtain ⟨t,rfl⟩:=r1
 exact ⟨some i,H1,I1,.int i t,q⟩
def SlR (X:Cx) (r:V → Option Int → Option Int → Hp → VK → Prop):Prop :=
 ∀ (pins:List (Addr × Obj)) (s:Shared) (σ:St) (H:Hp) (x:V) (v vl vu:Value) (lo hi:Option Int) (sl:Addr) (Q:VK),Inv X pins σ H s → aZ x v → s.heap.IsSliceOf sl vl vu .none → IsPart vl lo → IsPart vu hi → r x lo hi H Q →
  ∃ T id,typeLookup (.type T) "__getitem__" = pure (some (.builtin id)) ∧ s.TypeIs v T ∧ wpAny (model X.prog X.w) X.A (getItem v (.ref sl)) (EP X pins σ Q) X.xe s
def tSl (r:V → Option Int → Option Int → Hp → VK → Prop) (te:TE) (tl th:TO):TE:=fun σ H Q=>te σ H fun x H1=>tl σ H1 fun l H2=>th σ H2 fun u H3=>r x l u H3 Q
theorem kY {r:V → Option Int → Option Int → Hp → VK → Prop} (hr:SlR X r) (he:PE X e te) (hl:PO X lo tl) (hu:PO X hi th):PE X (.Subscript e (.Slice lo hi none p2) pos) (tSl r te tl th):=by
 intro pins s σ H Q I h
 refine Subscript_ (thn (he pins s σ H _ I h) fun v s1 ⟨x,H1,I1,r1,q1⟩=>?_)
 refine wpAny_Slice (thn (hl pins s1 σ H1 _ I1 q1) fun vl s2 ⟨l,H2,I2,pl,q2⟩=>thn (hu pins s2 σ H2 _ I2 q2) fun vu s3 ⟨u,H3,I3,pu,q3⟩=>?_)
 rw [evalPart_none]
 refine wpAny_pure ?_
 have I4:Inv X pins σ H3 { s3 with heap:=s3.heap.push { cls:=.type "slice",data:=.fields #[vl,vu,.none] } }:=I3.kept (t':=s3.toks) fun b ob q=>Heap.get?_push_of_some _ q
 obtain ⟨T,id,hT,ht,hg⟩:=hr pins { s3 with heap:=s3.heap.push { cls:=.type "slice",data:=.fields #[vl,vu,.none] } } σ H3 x v vl vu l u s3.heap.objs.size Q I4 r1 (Heap.IsSliceOf.new ..) pl pu q3
 show wpAny (model X.prog X.w) X.A (subscriptTail e (.Slice lo hi none p2) v (.ref s3.heap.objs.size)) (EP X pins σ Q) X.xe { s3 with heap:=s3.heap.push { cls:=.type "slice",data:=.fields #[vl,vu,.none] } }
 exact tail_any (ops:=[.ref s3.heap.objs.size,v]) ht hT hg (by with_unfolding_all rfl)
def uL (xs:List V) (lo hi:Option Int):List V:=(xs.drop (HT.sIx xs.length 0 lo)).take (HT.sIx xs.length xs.length hi - HT.sIx xs.length 0 lo)
theorem uK (xs:List V) (lo hi:Option Int):(uL xs lo hi).length ≤ xs.length:=by
 unfold uL
 rw [List.length_take,List.length_drop]
 omega
end
end L2
namespace L2
open PySem PySem.Spec PyProof.Rows
def ixN (n:Nat) (i:Int):Option Nat:=if 0 ≤ i then (if i < n then some i.toNat else none) else if -(n:Int) ≤ i then some (i + n).toNat else none
def atI {α:Type} (xs:List α) (i:Int):Option α:=(ixN xs.length i).bind fun j=>xs[j]?
theorem aCW {n:Nat} {i:Int} {j:Nat} (h:ixN n i = some j):seqIndex? i n = some j ∧ j < n ∧ -(n:Int) ≤ i ∧ i < n:=by
 unfold ixN at h
 by_cases h0:0 ≤ i
 ·rw [if_pos h0] at h
  by_cases h1:i < n
  ·rw [if_pos h1] at h
   have e:i.toNat = j:=Option.some.inj h
   exact ⟨by rw [seqIndex_of h0 h1,e],by omega,by omega,h1⟩
  ·rw [if_neg h1] at h;cases h
 ·rw [if_neg h0] at h
  by_cases h1:-(n:Int) ≤ i
  ·rw [if_pos h1] at h
   have e:(i + n).toNat = j:=Option.some.inj h
   exact ⟨by rw [seqIndex_neg (by omega) h1,e],by omega,h1,by omega⟩
  ·rw [if_neg h1] at h;cases h
theorem sX {α:Type} {xs:List α} {i:Int} {v:α} (h:atI xs i = some v):∃ j,seqIndex? i xs.length = some j ∧ xs[j]? = some v ∧ j < xs.length ∧ -(xs.length:Int) ≤ i ∧ i < xs.length:=by
 unfold atI at h
 cases e:ixN xs.length i with
 | none=>rw [e] at h;cases h
 | some j =>
  rw [e] at h
  obtain ⟨h1,h2,h3,h4⟩:=aCW e
  exact ⟨j,h1,h,h2,h3,h4⟩
theorem aQ {α:Type} {xs:List α} {j:Nat} {v:α} (h:xs[j]? = some v):atI xs (j:Int) = some v:=by
 have hj:j < xs.length:=(List.getElem?_eq_some_iff.mp h).1
 have e:ixN xs.length (j:Int) = some j:=by
  unfold ixN
  rw [if_pos (by omega),if_pos (by omega)];simp
 unfold atI;rw [e];exact h
def aDO (b:Expr):Prop:=∀ o i,subscripted b false o i = operate [o,i] (getItem o i)
def IxR (X:Cx) (r:R2):Prop :=
 ∀ (value slice:Expr) (pins:List (Addr × Obj)) (s:Shared) (σ:St) (H:Hp) (x y:V) (v u:Value) (Q:VK),Inv X pins σ H s → aZ x v → aZ y u → r x y H Q →
  subscripted slice false v u = operate [v,u] (getItem v u) → wpAny (model X.prog X.w) X.A (subscriptTail value slice v u) (EP X pins σ Q) X.xe s
def MtR (X:Cx) (id:String) (r:V → List V → Hp → VK → Prop):Prop :=
 ∀ (pins:List (Addr × Obj)) (s:Shared) (σ:St) (H:Hp) (x:V) (xs:List V) (v:Value) (us:List Value) (Q:VK),Inv X pins σ H s → aZ x v → aY xs us → r x xs H Q →
  wpAny (model X.prog X.w) X.A (call (.builtin id) (v :: us)) (EP X pins σ Q) X.xe s
section
variable {X:Cx} {a b:Expr} {ta tb:TE} {pos:Pos}
theorem bD {r:R2} (hr:IxR X r) (ha:PE X a ta) (hb:PE X b tb) (hs:aDO b):PE X (.Subscript a b pos) (tOp r ta tb):=by
 intro pins s σ H Q I h
 exact Subscript_ (aFN ha hb I h fun v u s2 x y H2 I2 rx ry q=>hr a b pins s2 σ H2 x y v u Q I2 rx ry q (hs _ _))
def aGJ (K:PySem.W.Frag):R2:=fun x y H Q=>∃ p xs i v,x = .ref p ∧ y = .int i ∧ SqL K H p xs ∧ atI xs i = some v ∧ Q v H
def aGI (K:PySem.W.Frag):R2:=fun x y H Q=>∃ p xs i v,x = .ref p ∧ y = .int i ∧ SqT K H p xs ∧ atI xs i = some v ∧ Q v H
def aHU:R2:=fun x y H Q=>∃ z i c,x = .str z ∧ y = .int i ∧ z.length ≤ sizeLine ∧ atI z.cps.toList i = some c ∧ Q (.str ⟨#[c]⟩) H
theorem aCV:IxR X (aGJ X.K):=by
 intro value slice pins s σ H x y v u Q I rx ry h hs
 obtain ⟨p,xs,i,z,rfl,rfl,hq,he,q⟩:=h
 cases rx
 obtain ⟨t,rfl⟩:=ry
 obtain ⟨its,r,pl,hz⟩:=I.list hq
 obtain ⟨j,h1,h2,h3,h4,h5⟩:=sX he
 obtain ⟨w,ew,rw'⟩:=r.get h2
 have hl:=r.length
 have hn:=pH
 have fin:EP X pins σ Q w s:=⟨z,H,I,rw',q⟩
 by_cases h0:0 ≤ i
 ·have hj:i.toNat = j:=by
   rw [seqIndex_of h0 h5] at h1
   exact Option.some.inj h1
  exact item_listR pl.isList h0 (by omega) (by rw [hj];simpa using ew) fin hs
 ·have hj:(i + (its.toArray.size:Int)).toNat = j:=by
   rw [seqIndex_neg (by omega) h4] at h1
   rw [List.size_toArray,← hl]
   exact Option.some.inj h1
  exact subscriptTail_builtinR (x:=w) pl.isList.typeIs slot_list_getitem.lookup
   (wpAny_getItem_list_neg (Q:=fun r s'=>r = w ∧ EP X pins σ Q r s') pl.isList (by omega) (by rw [List.size_toArray] <;> omega) (by omega) (by rw [hj];simpa using ew) ⟨rfl,fin⟩) hs
theorem aFJ:IxR X (aGI X.K):=by
 intro value slice pins s σ H x y v u Q I rx ry h hs
 obtain ⟨p,xs,i,z,rfl,rfl,hq,he,q⟩:=h
 cases rx
 obtain ⟨t,rfl⟩:=ry
 obtain ⟨its,r,pl,hz⟩:=I.tuple hq
 obtain ⟨j,h1,h2,h3,h4,h5⟩:=sX he
 obtain ⟨w,ew,rw'⟩:=r.get h2
 have hl:=r.length
 have hn:=pH
 have fin:EP X pins σ Q w s:=⟨z,H,I,rw',q⟩
 exact subscriptTail_builtinR (x:=w) pl.typeIs slot_tuple_getitem.lookup
  (getItem_tuple (j:=j) (Q:=fun r s'=>r = w ∧ EP X pins σ Q r s') pl (by omega) (by omega) (by rw [List.size_toArray,← hl];exact h1) (by simpa using ew) ⟨rfl,fin⟩) hs
theorem aAO:IxR X aHU:=by
 intro value slice pins s σ H x y v u Q I rx ry h hs
 obtain ⟨z,i,c,rfl,rfl,hz,he,q⟩:=h
 obtain ⟨t,rfl⟩:=rx
 obtain ⟨t',rfl⟩:=ry
 obtain ⟨j,h1,h2,h3,h4,h5⟩:=sX he
 have hl:z.cps.toList.length = z.length:=by simp [Str.length]
 rw [hl] at h1 h4 h5
 have hn:=pH
 exact tail_any (typeIs_str s z t) slot_str_getitem.lookup (getItem_str (c:=c) (by
  have e1:decide (i < -(2 ^ 63:Int)) = false:=decide_eq_false (by omega)
  have e2:decide (i ≥ 2 ^ 63) = false:=decide_eq_false (by omega)
  rw [e1,e2,Bool.or_false]) (by rw [h1];simpa using h2) ⟨.str ⟨#[c]⟩,H,I.tok _,⟨_,rfl⟩,q⟩) hs
theorem sB (lo hi:Option Int) (n:Nat):(sliceBounds lo hi none n).1 = ((HT.sIx n 0 lo:Nat):Int) ∧ (sliceBounds lo hi none n).2.1 = ((HT.sIx n n hi:Nat):Int) ∧ (sliceBounds lo hi none n).2.2 = 1:=by
 refine ⟨?_,?_,rfl⟩
 ·cases lo with
  | none=>simp [sliceBounds,HT.sIx]
  | some i =>
   simp only [sliceBounds,HT.sIx,Option.getD_none,show (1:Int) > 0 by decide,if_true]
   by_cases h:i < 0
   ·simp only [h,if_true] <;> omega
   ·simp only [h,if_false] <;> omega
 ·cases hi with
  | none=>simp [sliceBounds,HT.sIx]
  | some i =>
   simp only [sliceBounds,HT.sIx,Option.getD_none,show (1:Int) > 0 by decide,if_true]
   by_cases h:i < 0
   ·simp only [h,if_true] <;> omega
   ·simp only [h,if_false] <;> omega
theorem qB (its:List Value) (lo hi:Option Int):slicePick its.toArray lo hi none = ((its.drop (HT.sIx its.length 0 lo)).take (HT.sIx its.length its.length hi - HT.sIx its.length 0 lo)).toArray:=by
 obtain ⟨h1,h2,h3⟩:=sB lo hi its.toArray.size
 unfold slicePick
 rw [h1,h2,h3]
 simp only [sliceRange_one,pick_run,List.size_toArray] <;> rfl
def aGH (K:PySem.W.Frag):V → Option Int → Option Int → Hp → VK → Prop:=fun x lo hi H Q=>∃ a xs,x = .ref a ∧ SqL K H a xs ∧ ∀ p,H p = none → Q (.ref p) (upd H p (.lst (uL xs lo hi)))
theorem aBZ:SlR X (aGH X.K):=by
 intro pins s σ H x v vl vu lo hi sl Q I rx hs pl pu h
 obtain ⟨a,xs,rfl,hx,q⟩:=h
 cases rx
 obtain ⟨its,r,ht,hz⟩:=I.list hx
 have hlen:=r.length
 refine ⟨"list",_,slot_list_getitem.lookup,ht.isList.typeIs,?_⟩
 refine wpAny_getItem_list_slice ht.isList hs pl pu .none (by simp) ?_ (by rw [List.size_toArray] <;> omega)
 rw [qB,← hlen]
 refine ⟨.ref s.heap.objs.size,_,I.laid (t':=s.toks) (o:=.lst (uL xs lo hi)) (fun b ob q=>Heap.get?_push_of_some _ q) (Nat.le_refl _) ?_,rfl,q _ (I.hok.fresh (Nat.le_refl _))⟩
 exact ⟨Nat.le_trans (uK xs lo hi) hz,_,0,(r.drop (HT.sIx xs.length 0 lo)).take (HT.sIx xs.length xs.length hi - HT.sIx xs.length 0 lo),Heap.get?_push_size _ rfl⟩
def lH:V → Bool
 | .non=>true
 | .bl _=>true
 | .int _=>true
 | .str _=>true
 | _=>false
def eqV:V → V → Bool
 | .non,.non=>true
 | .bl a,.bl b=>a == b
 | .bl a,.int b=>(if a then 1 else 0) == b
 | .int a,.bl b=>a == (if b then 1 else 0)
 | .int a,.int b=>a == b
 | .str a,.str b=>a == b
 | _,_=>false
theorem iS {A:Around} {s:Shared} {y x:V} {u v:Value} (ry:aZ y u) (rx:aZ x v) (fy:lH y = true) (fx:lH x = true):SeqAt.EqAt A s u v (eqV y x):=by
 cases y with
 | non =>
  cases ry
  cases x with
  | non=>cases rx;exact SeqAt.EqAt.same _
  | bl b=>cases rx;exact SeqAt.EqAt.none_bool b
  | int b=>obtain ⟨t,rfl⟩:=rx;exact SeqAt.EqAt.none_int b t
  | str b=>obtain ⟨t,rfl⟩:=rx;exact SeqAt.EqAt.none_str b t
  | _=>exact absurd (show false = true from fx) Bool.false_ne_true
 | bl a =>
  cases ry
  cases x with
  | non=>cases rx;exact SeqAt.EqAt.bool_none a
  | bl b=>cases rx;exact SeqAt.EqAt.bool_bool a b
  | int b=>obtain ⟨t,rfl⟩:=rx;exact SeqAt.EqAt.bool_int a b t
  | str b=>obtain ⟨t,rfl⟩:=rx;exact SeqAt.EqAt.bool_str a b t
  | _=>exact absurd (show false = true from fx) Bool.false_ne_true
 | int a =>
  obtain ⟨t',rfl⟩:=ry
  cases x with
  | non=>cases rx;exact SeqAt.EqAt.int_none a t'
  | bl b=>cases rx;exact SeqAt.EqAt.int_bool a t' b
  | int b=>obtain ⟨t,rfl⟩:=rx;exact SeqAt.EqAt.int_int a t' b t
  | str b=>obtain ⟨t,rfl⟩:=rx;exact SeqAt.EqAt.int_str a t' b t
  | _=>exact absurd (show false = true from fx) Bool.false_ne_true
 | str a =>
  obtain ⟨t',rfl⟩:=ry
  cases x with
  | non=>cases rx;exact SeqAt.EqAt.str_none a t'
  | bl b=>cases rx;exact SeqAt.EqAt.str_bool a t' b
  | int b=>obtain ⟨t,rfl⟩:=rx;exact SeqAt.EqAt.str_int a t' b t
  | str b=>obtain ⟨t,rfl⟩:=rx;exact SeqAt.EqAt.str_str a t' b t
  | _=>exact absurd (show false = true from fx) Bool.false_ne_true
 | _=>exact absurd (show false = true from fy) Bool.false_ne_true
def eqU (x:V) (u:Value):Bool:=match u with
 | .none=>eqV .non x
 | .bool b=>eqV (.bl b) x
 | .int i _=>eqV (.int i) x
 | .str z _=>eqV (.str z) x
 | _=>false
theorem aBF {x y:V} {u:Value} (r:aZ y u) (f:lH y = true):eqU x u = eqV y x:=by
 cases y with
 | non=>cases r;rfl
 | bl b=>cases r;rfl
 | int i=>obtain ⟨t,rfl⟩:=r;rfl
 | str z=>obtain ⟨t,rfl⟩:=r;rfl
 | _=>exact absurd (show false = true from f) Bool.false_ne_true
theorem sY {x:V}:∀ {xs:List V} {us:List Value},aY xs us → xs.all lH = true → us.any (eqU x) = xs.any fun y=>eqV y x
 | _,_,.nil,_=>rfl
 | y :: xs,u :: us,.cons r t,f=>by
  rw [List.all_cons,Bool.and_eq_true] at f
  rw [List.any_cons,List.any_cons,aBF r f.1,sY t f.2]
theorem pF {A:Around} {s:Shared} {x:V} {v:Value} (rx:aZ x v) (fx:lH x = true):∀ {xs:List V} {us:List Value},aY xs us → xs.all lH = true → ∀ u ∈ us,SeqAt.EqAt A s u v (eqU x u)
 | _,_,.nil,_=>fun u hu=>by cases hu
 | y :: xs,u :: us,.cons r t,f=>fun u' hu=>by
  rw [List.all_cons,Bool.and_eq_true] at f
  rcases List.mem_cons.mp hu with rfl | hu
  ·rw [aBF r f.1];exact iS r rx f.1 fx
  ·exact pF rx fx t f.2 u' hu
def inV (x:V) (xs:List V):Bool:=xs.any fun y=>eqV y x
def rIn (K:PySem.W.Frag) (neg:Bool):R2:=fun x y H Q=>∃ p xs,y = .ref p ∧ (SqL K H p xs ∨ SqT K H p xs) ∧ lH x = true ∧ xs.all lH = true ∧ Q (.bl (if neg then !inV x xs else inV x xs)) H
theorem xQ:OpR X (compareOp .In) (rIn X.K false):=by
 intro pins s σ H x y v u Q I rx ry h
 obtain ⟨p,xs,rfl,hq,fx,fs,q⟩:=h
 cases ry
 rcases hq with hq | hq
 ·obtain ⟨its,r,pl,hz⟩:=I.list hq
  refine SeqAt.in_listAt (eqU x) pl.isList (fun w hw=>pF rx fx r fs w (by simpa using hw)) ⟨.bl _,H,I,rfl,?_⟩
  rw [show its.toArray.any (eqU x) = its.any (eqU x) by simp,sY r fs]
  exact q
 ·obtain ⟨its,r,pl,hz⟩:=I.tuple hq
  refine SeqAt.in_tupleAt (eqU x) pl (fun w hw=>pF rx fx r fs w (by simpa using hw)) ⟨.bl _,H,I,rfl,?_⟩
  rw [show its.toArray.any (eqU x) = its.any (eqU x) by simp,sY r fs]
  exact q
theorem sW:dU X (.builtin "len") (fun xs H Q=>∃ p ys,xs = [.ref p] ∧ (SqL X.K H p ys ∨ SqT X.K H p ys) ∧ Q (.int ys.length) H):=by
 intro pins s σ H xs us Q I r h
 obtain ⟨p,ys,rfl,hq,q⟩:=h
 obtain ⟨u,rfl,rx⟩:=nQ r
 cases rx
 have hn:=pH
 rcases hq with hq | hq
 ·obtain ⟨its,r',pl,hz⟩:=I.list hq
  have hlen:=r'.length
  exact Calls.call_len_list pl.isList (by simp only [List.size_toArray] <;> omega) ⟨.int ys.length,H,I.tok _,⟨s.toks + 1,by rw [List.size_toArray,hlen]⟩,q⟩
 ·obtain ⟨its,r',pl,hz⟩:=I.tuple hq
  have hlen:=r'.length
  exact len_tuple pl (by simp only [List.size_toArray] <;> omega) ⟨.int ys.length,H,I.tok _,⟨s.toks + 1,by rw [List.size_toArray,hlen]⟩,q⟩
theorem sV:dU X (.builtin "len") (fun xs H Q=>∃ z,xs = [.str z] ∧ z.length ≤ sizeLine ∧ Q (.int z.length) H):=by
 intro pins s σ H xs us Q I r h
 obtain ⟨z,rfl,hz,q⟩:=h
 obtain ⟨u,rfl,t,rfl⟩:=nQ r
 have hn:=pH
 exact len_str (by omega) ⟨.int z.length,H,I.tok _,⟨_,rfl⟩,q⟩
theorem sU:dU X (.type "list") (fun xs H Q=>∃ p ys,xs = [.ref p] ∧ (SqL X.K H p ys ∨ SqT X.K H p ys) ∧ ∀ l,H l = none → Q (.ref l) (upd H l (.lst ys))):=by
 intro pins s σ H xs us Q I r h
 obtain ⟨p,ys,rfl,hq,q⟩:=h
 obtain ⟨u,rfl,rx⟩:=nQ r
 cases rx
 have fin:∀ (its:List Value),aY ys its → ys.length ≤ sizeLine → ∀ (h':Heap) (c':Nat),(∀ b o',s.heap.get? b = some o' → h'.get? b = some o') →
   h'.get? s.heap.objs.size = some { cls:=.type "list",dict:=none,data:=.seq its.toArray c',slots:=#[] } → EP X pins σ Q (.ref s.heap.objs.size) { s with heap:=h' }:=fun its r' hz h' c' kp e =>
  ⟨.ref s.heap.objs.size,_,I.laid (t':=s.toks) kp (Nat.le_refl _) (show bG X.prog X.w _ h' _ (.lst ys) from ⟨hz,its,c',r',e⟩),rfl,q _ (I.hok.fresh (Nat.le_refl _))⟩
 rcases hq with hq | hq
 ·obtain ⟨its,r',pl,hz⟩:=I.list hq
  have hlen:=r'.length
  obtain ⟨o,ho,hc,n,hd⟩:=pl.isList
  exact call_list_seq p (.inl rfl) ho hc hd (fun h' c' kp e=>fin its r' hz h' c' kp e) (by simp only [List.size_toArray] <;> omega)
 ·obtain ⟨its,r',pl,hz⟩:=I.tuple hq
  have hlen:=r'.length
  obtain ⟨o,ho,hc,n,hd⟩:=pl
  exact call_list_seq p (.inr rfl) ho hc hd (fun h' c' kp e=>fin its r' hz h' c' kp e) (by simp only [List.size_toArray] <;> omega)
def tyV (K:PySem.W.Frag) (T:String) (x:V) (H:Hp):Prop:=match x with
 | .str _=>T = "str"
 | .int _=>T = "int"
 | .ref p=>(T = "list" ∧ ∃ xs,SqL K H p xs) ∨ (T = "tuple" ∧ ∃ o,K.lookup p = some o ∧ o.cls = .type "tuple" ∧ o.dict = none) ∨
   (T = "dict" ∧ ((∃ kvs,H p = some (.dK kvs)) ∨ ∃ kvs,H p = some (.dT kvs))) ∨ (T = "set" ∧ ∃ S n,H p = some (.set S n)) ∨ (T = "tuple" ∧ ∃ xs,H p = some (.tup xs))
 | _=>False
theorem yR {pins:List (Addr × Obj)} {σ:St} {H:Hp} {s:Shared} {T:String} {x:V} {v:Value} (I:Inv X pins σ H s) (r:aZ x v) (ty:tyV X.K T x H) :
  s.TypeIs v T ∧ ∀ a,v = .ref a → ∃ ob,s.heap.get? a = some ob ∧ ob.dict = none:=by
 cases x with
 | str z =>
  obtain ⟨t,rfl⟩:=r
  cases (show T = "str" from ty)
  exact ⟨typeIs_str s z t,fun _ e=>nomatch e⟩
 | int i =>
  obtain ⟨t,rfl⟩:=r
  cases (show T = "int" from ty)
  exact ⟨typeIs_int s i t,fun _ e=>nomatch e⟩
 | ref p =>
  cases r
  rcases ty with ⟨rfl,xs,hq⟩ | ⟨rfl,o,hk,hc,hd⟩ | ⟨rfl,hk⟩ | ⟨rfl,S,n,hk⟩ | ⟨rfl,xs,hk⟩
  ·obtain ⟨its,_,pl,_⟩:=I.list hq
   refine ⟨pl.isList.typeIs,fun a e=>?_⟩
   cases e
   obtain ⟨o,n,e,c,hd,_⟩:=pl
   exact ⟨o,e,hd⟩
  ·refine ⟨⟨o,I.kIn p o hk,hc⟩,fun a e=>?_⟩
   cases e
   exact ⟨o,I.kIn _ o hk,hd⟩
  ·have z:∃ o,s.heap.get? p = some o ∧ o.ExactDict:=by
    rcases hk with ⟨kvs,hk⟩ | ⟨kvs,hk⟩
    ·obtain ⟨_,_,_,_,o,_,_,e,ex,_⟩:=I.hok p _ hk
     exact ⟨o,e,ex⟩
    ·obtain ⟨_,_,_,_,o,_,_,e,ex,_⟩:=I.hok p _ hk
     exact ⟨o,e,ex⟩
   obtain ⟨o,e,ex⟩:=z
   refine ⟨⟨o,e,ex.1⟩,fun a e2=>?_⟩
   cases e2
   exact ⟨o,e,ex.2.1⟩
  ·obtain ⟨o,_,_,_,e,ex,_⟩:=I.hok p _ hk
   refine ⟨⟨o,e,ex.1⟩,fun a e2=>?_⟩
   cases e2
   exact ⟨o,e,ex.2.1⟩
  ·obtain ⟨_,_,_,o,e,hc,_,_,hd⟩:=(show bG X.prog X.w H s.heap p (.tup xs) from I.hok p _ hk)
   refine ⟨⟨o,e,hc⟩,fun a e2=>?_⟩
   cases e2
   exact ⟨o,e,hd⟩
 | _=>exact False.elim ty
def aHQ (K:PySem.W.Frag) (T:String) (r:V → List V → Hp → VK → Prop) (to:TE):TE:=fun σ H Q=>to σ H fun x H1=>tyV K T x H1 ∧ r x [] H1 Q
def tBM (K:PySem.W.Frag) (T:String) (r:V → List V → Hp → VK → Prop) (to:TE) (t:TA):TE:=fun σ H Q=>to σ H fun x H1=>tyV K T x H1 ∧ t σ H1 fun xs H2=>r x xs H2 Q
variable {o e:Expr} {es:List Expr} {to:TE} {t:TA} {name:Str} {apos cpos:Pos} {T id:String} {r:V → List V → Hp → VK → Prop}
theorem sF (pa:PlainAttrs T) (slot:Slot T name id) (hty:typeOf (.builtin id) = pure (.type "method_descriptor")) (hm:MtR X id r) (ho:PE X o to)
  (hbase:attributeBase o name X.env (eval o X.env) = eval o X.env:=by rfl) (hline:(apos.endLine == cpos.line) = true:=by rfl):PE X (.Call (.Attribute o name apos) [] [] cpos) (aHQ X.K T r to):=by
 intro pins s σ H Q I h
 refine wpAny_Call_method0_late hbase hline (thn (ho pins s σ H _ I h) fun v s1 ⟨x,H1,I1,r1,ty,q1⟩=>?_)
 obtain ⟨h1,h2⟩:=yR I1 r1 ty
 exact ⟨T,id,pa,slot,hty,h1,h2,Calls.callWith_builtin rfl (PySem.evalArgs_none (hm pins s1 σ H1 x [] v [] Q I1 r1 .nil q1))⟩
theorem wQ (pa:PlainAttrs T) (slot:Slot T name id) (hty:typeOf (.builtin id) = pure (.type "method_descriptor")) (hm:MtR X id r) (ho:PE X o to) (ha:PA X (e :: es) t)
  (hbase:attributeBase o name X.env (eval o X.env) = eval o X.env:=by rfl)
  (hfew:((backTo cpos (starEach (e :: es) X.env)).all (fun x=>!x.1) && (backToKw cpos (keywordEach [] X.env)).all (fun x=>x.1.isSome)
   && decide ((e :: es).length + ([]:List Keyword).length + (if ([]:List Keyword).isEmpty then 0 else 1) < 30)) = true:=by rfl)
  (hline:(apos.endLine == cpos.line) = true:=by rfl) (hs:starEach (e :: es) X.env = (false,eval e X.env) :: starEach es X.env:=by rfl) (hplain:(backTo cpos (starEach es X.env)).any (·.1) = false:=by rfl) :
  PE X (.Call (.Attribute o name apos) (e :: es) [] cpos) (tBM X.K T r to t):=by
 intro pins s σ H Q I h
 refine wpAny_Call_method_late hbase hfew hline rfl (thn (ho pins s σ H _ I h) fun v s1 ⟨x,H1,I1,r1,ty,q1⟩=>?_)
 obtain ⟨h1,h2⟩:=yR I1 r1 ty
 refine ⟨T,id,pa,slot,hty,h1,h2,?_⟩
 have hA:=ha cpos pins s1 σ H1 _ I1 q1
 rw [hs] at hA ⊢
 refine Calls.callWith_builtin (by show (false || (backTo cpos (starEach es X.env)).any (·.1)) = false;rw [hplain] <;> rfl) (Calls.evalArgs_plain ?_)
 exact thn hA fun us s2 ⟨vs,H2,I2,r2,q2⟩=>hm pins s2 σ H2 x vs v us Q I2 r1 r2 q2
end
end L2
namespace L2
open PySem PySem.Spec PyProof.Rows
def MtM (X:Cx) (id:String) (r:V → List V → Hp → VK → Prop):Prop :=
 ∀ (pins:List (Addr × Obj)) (s:Shared) (σ:St) (H:Hp) (x:V) (xs:List V) (v:Value) (us:List Value) (Q:VK),Inv X pins σ H s → aZ x v → aY xs us → r x xs H Q →
  wpAny (model X.prog X.w) X.A (call (.builtin id) (v :: us)) (EP X pins σ Q) X.xe s
theorem aY.one:∀ {x:V} {us:List Value},aY [x] us → ∃ u,us = [u] ∧ aZ x u
 | _,_,.cons r .nil=>⟨_,rfl,r⟩
theorem aY.two:∀ {x y:V} {us:List Value},aY [x,y] us → ∃ u v,us = [u,v] ∧ aZ x u ∧ aZ y v
 | _,_,_,.cons r (.cons q .nil)=>⟨_,_,rfl,r,q⟩
theorem aY.zero:∀ {us:List Value},aY [] us → us = []
 | _,.nil=>rfl
section
variable {X:Cx} {pins:List (Addr × Obj)} {σ:St} {H:Hp} {s:Shared} {l b:Addr} {xs ys zs:List V}
theorem Inv.lset {its its':List Value} {n:Nat} {f:Array Value → Array Value} {t':Nat} (I:Inv X pins σ H s) (hH:H l = some (.lst xs))
  (e:s.heap.get? l = some { cls:=.type "list",data:=.seq its.toArray n }) (hf:f its.toArray = its'.toArray) (hv:aY ys its') (hz:ys.length ≤ sizeLine) :
  Inv X pins σ (upd H l (.lst ys)) { s with heap:=s.heap.update l (Obj.mapSeq f),toks:=t' }:=by
 have q:=PySem.IsL.update e f
 rw [hf] at q
 refine I.write (x:=l) (e:=l) (by rw [hH];exact trivial) (.inl rfl) (fun b' u hb hu=>(Heap.get?_update_other s.heap (Obj.mapSeq f) (Ne.symm hb)).trans hu) ⟨_,q⟩ ?_
 exact ⟨hz,its',_,hv,q⟩
theorem Inv.lnew {its:List Value} {t':Nat} (I:Inv X pins σ H s) (hv:aY ys its) (hz:ys.length ≤ sizeLine) :
  Inv X pins σ (upd H s.heap.objs.size (.lst ys)) { s with heap:=s.heap.push { cls:=.type "list",data:=.seq its.toArray },toks:=t' } :=
 I.laid (fun _ _ q=>Heap.get?_push_of_some _ q) (Nat.le_refl _) ⟨hz,its,0,hv,Heap.get?_push_size _ rfl⟩
theorem Inv.fresh (I:Inv X pins σ H s):H s.heap.objs.size = none:=I.hok.fresh (Nat.le_refl _)
theorem Inv.lstM (I:Inv X pins σ H s) (hH:H l = some (.lst xs)):xs.length ≤ sizeLine ∧ ∃ (its:List Value) (n:Nat),aY xs its ∧ xs.length = its.length ∧ s.heap.get? l = some { cls:=.type "list",data:=.seq its.toArray n }:=by
 obtain ⟨z,its,n,r,e⟩:=I.hok l _ hH
 exact ⟨z,its,n,r,r.length,e⟩
end
section
variable {X:Cx}
def aCG:V → List V → Hp → VK → Prop:=fun x vs H Q=>∃ l xs y,x = .ref l ∧ vs = [y] ∧ H l = some (.lst xs) ∧ xs.length < sizeLine ∧ Q .non (upd H l (.lst (xs ++ [y])))
theorem lX:MtM X "list.append" aCG:=by
 intro pins s σ H x vs v us Q I rx rv h
 obtain ⟨l,xs,y,rfl,rfl,hH,hz,q⟩:=h
 cases rx
 obtain ⟨u,rfl,ru⟩:=rv.one
 obtain ⟨z,its,n,r,hl,e⟩:=I.lstM hH
 refine call_meets F.slot_list_append ⟨_,e,rfl⟩ F.entry_list_append (F.args_list_append_2 _ _) (PySem.list_append l its.toArray n u (by rw [List.size_toArray];omega)) ⟨e,?_⟩
 refine ⟨.non,_,I.lset (its':=its ++ [u]) hH e (by simp) (r.append (.cons ru .nil)) ?_,rfl,q⟩
 rw [List.length_append,List.length_singleton]
 omega
def aHV:R2:=fun x y H Q=>∃ l b xs zs,x = .ref l ∧ y = .ref b ∧ H l = some (.lst xs) ∧ H b = some (.lst zs) ∧ xs.length + zs.length ≤ sizeLine ∧ ∀ p,H p = none → Q (.ref p) (upd H p (.lst (xs ++ zs)))
theorem vC:OpR X (binaryOp .Add) aHV:=by
 intro pins s σ H x y v u Q I rx ry h
 obtain ⟨l,b,xs,zs,rfl,rfl,hH,hB,hz,q⟩:=h
 cases rx
 cases ry
 obtain ⟨z,its,n,r,hl,e⟩:=I.lstM hH
 obtain ⟨z2,its2,n2,r2,hl2,e2⟩:=I.lstM hB
 refine PySem.P.add_list e e2 ?_ (by rw [List.size_toArray,List.size_toArray];omega)
 have ea:its.toArray ++ its2.toArray = (its ++ its2).toArray:=by simp
 rw [ea]
 exact ⟨.ref _,_,I.lnew (t':=s.toks) (r.append r2) (by rw [List.length_append];omega),rfl,q _ I.fresh⟩
end
section
variable {prog:Program} {w:World} {A:Around} {E:Value → Shared → Prop} {s:Shared}
end
section
variable {X:Cx}
end
end L2
namespace Att
open PySem PySem.W PySem.Calls PyProof.Rows
theorem nE {P:Params} {h:Heap}:∀ (ns:List Int) (vs:List Value),WellAll P h vs (ns.map WData.int) → IntsAre vs ns:=by
 intro ns
 induction ns with
 | nil =>
  intro vs w
  rw [List.map_nil] at w
  cases w
  exact .nil
 | cons n ns ih =>
  intro vs w
  rw [List.map_cons] at w
  cases w with
  | cons a b =>
   cases a
   exact .cons _ _ (ih _ b)
theorem xL {l:OpenLaw} {n:Nat} (hn:l.most = some n) {P:Params} {h:Heap} {args:List WData} {vals:List Value}
  (hpre:l.row.toRowW.claim.pre args = true) (hwl:WellAll P h vals args) :
  ∃ a vs ns,vals = [Value.ref a] ∧ args = [WData.list (ns.map WData.int)] ∧ h.get? a = some { cls:=.type "list",data:=.seq vs.toArray } ∧ IntsAre vs ns ∧ ns.length ≤ n:=by
 have hsh:WShape.hasAll [] args [.list .int] = true:=(pre_splitW hpre).1
 have hc:l.pre.holds [] { args:=args } = true:=(pre_splitW hpre).2
 obtain ⟨d,r,rfl,h1,h2⟩:=hasAllW_cons hsh
 obtain rfl:=hasAllW_nil h2
 obtain ⟨xs,rfl,h3⟩:=hasW_list h1
 obtain ⟨ns,rfl⟩:=items_int h3
 have hlen:ns.length ≤ n:=by
  unfold OpenLaw.pre at hc
  have h4:(WTm.not (.lt (.lit (.int (n:Int))) (.len (.arg 0)))).holds [] { args:=[.list (ns.map .int)] } = true:=by
   have h4:=(holds_andW hc).1
   rw [hn] at h4
   exact h4
  have h5:=condW_of h4 (w_not (w_lt w_lit (w_len_list (w_arg rfl))))
  rw [List.length_map] at h5
  refine Nat.le_of_not_lt fun q=>?_
  have q':(n:Int) < ((ns.length:Nat):Int):=by omega
  first
   | (rw [decide_eq_true q'] at h5;exact absurd h5 (by decide))
   | (simp at h5;omega)
 cases hwl with
 | cons w1 w2 =>
  cases w2
  cases w1 with
  | list ho hall=>exact ⟨_,_,ns,rfl,rfl,ho,nE ns _ hall,hlen⟩
theorem xO (l:OpenLaw) (args:List WData):l.row.toRowW.claim.post args (.bool true) args = true :=
 postW_of (r:=l.row.toRowW) (X:=(true == true))
  (show WShape.has [] (.bool true) .bool = true by first | rfl | decide | simp [WShape.has,WShape.arms,WShape.armsAll])
  (show (WTm.eq .res (.lit (.bool true))).value [] { args:=args,res:=some (.bool true),after:=args } = some (.bool (true == true)) from w_eq_bool (w_res rfl) w_lit) rfl
theorem attach_call {l:OpenLaw} {n:Nat} {q:Program} {loose:List Str} {XP:(Str → Option Value) → Heap → Prop} {YP:World → Heap → Prop} {d:DefRec}
  (hn:l.most = some n) (hdf:d.params.defaults = [])
  (call:∀ (w:World) (s₀ s₁:Shared) (mg mb:Str → Option Value) (fa:Addr) (o:Obj) (pm cd doc:Value) (a:Addr) (vs:List Value) (ns:List Int),
   Ground q loose [] XP w s₀ mg mb s₁.heap → YP w s₁.heap →
   s₁.heap.get? fa = some o → o.data = .func (docDef d.name d.params d.body d.scope pm cd doc) → s₁.heap.CodeRec cd d.name → mg d.name = some (.ref fa) →
   s₁.heap.get? a = some { cls:=.type "list",data:=.seq vs.toArray } → IntsAre vs ns → ns.length ≤ n → s₁.gens = #[] →
   codeAny (model l.prog w) callerA (.call (.ref fa) ⟨[.ref a],[]⟩) (fun r s'=>r = .ok (.ret (.bool true)) ∧ OldK s₁.heap s'.heap ∧ s'.os = s₁.os ∧ AllBare s'.gens) s₁) :
  WalkO q loose XP YP l.row.toRowW d [] (fun f vs=>PySem.call f vs):=by
 intro w s₀ s₁ mg mb G Y fa o pm cd doc dV kV ho hd hcd hD hmg hg args vals as hpre hlay hrd hwl hlo
 obtain rfl:dV = .none:=Dflts.none hD hdf
 obtain rfl:kV = .none:=Dflts.noKw hD
 obtain ⟨a,vs,ns,rfl,rfl,hobj,hints,hlen⟩:=xL hn hpre hwl
 refine enter_call (codeAny_mono (call w s₀ s₁ mg mb fa o pm cd doc a vs ns G Y ho (fd_plain hd) hcd hmg hobj hints hlen hg) fun r s' hq=>?_)
 obtain ⟨rfl,h2,h3,h4⟩:=hq
 exact ⟨.inl ⟨.bool true,.bool true,[],rfl,fun _=>rfl,.bool true,xO l _,fun _=>⟨List.Pairwise.nil,fun _ hm=>(nomatch hm)⟩⟩,h2,h3,h4⟩
section
variable {prog:Program} {w:World} {A:Around} {E:Value → Shared → Prop} {s:Shared} {K:Frag}
def noObjs (h:Heap):Heap:={ h with objs:=#[] }
def ledger (h:Heap) (L d:Addr):List (Addr × Obj):=(List.range h.objs.size).filterMap fun a=>if a = L ∨ a = d then none else (h.get? a).map fun o=>(a,o)
end
end Att
namespace L2
open PySem PySem.Spec PyProof.Rows
theorem qR:∀ {vs:List Value} {ns:List Int},IntsAre vs ns → aY (ns.map V.int) vs
 | _,_,.nil=>.nil
 | _,_,.cons n t h=>.cons ⟨t,rfl⟩ (qR h)
def aFS (H:Hp):Prop:=∀ b,H b = none ∨ ∃ o xs,H b = some (.frz o (.lst xs))
theorem aAK {P:Program} {w:World} {K:PySem.W.Frag} {mg mb:Str → Option Value} {CX:CXT} {k:Nat} {fa a:Addr} {fd:FuncData} {x:Str} {sp:Sp} {s₁:Shared} {vs:List Value} {ns:List Int}
  (KX:K.In s₁.heap) (hns:s₁.heap.Ns mainGlobals mg) (hb:s₁.heap.Ns builtinsNs mb) (hbb:∀ x:Str,x ≠ "__name__" → mb x = bootBuiltins x) (hlim:s₁.heap.NoLimit) (hg:s₁.gens = #[])
  (ha:s₁.heap.get? a = some { cls:=.type "list",data:=.seq vs.toArray }) (hi:IntsAre vs ns) (hl:ns.length ≤ sizeLine) (hr:Room k callerA)
  (F:∀ base:Heap,K.In base → base.Ns mainGlobals mg → FnOk P w K mg base CX k fa fd [x] sp) (hbind:∀ (s:Shared) (u:Value),BindsTo s fd ⟨[u],[]⟩ [(x,u)])
  (hsp:∀ H:Hp,aFS H → SqL K H a (ns.map V.int) → sp [.ref a] H (fun v _=>v = .bl true) fun _ _ _=>False)
  (hCX:∀ H e s',CX [] H s₁ (fun _ _ _=>False) e s' → False) :
  codeAny (model P w) callerA (.call (.ref fa) ⟨[.ref a],[]⟩) (fun r s'=>r = .ok (.ret (.bool true)) ∧ OldK s₁.heap s'.heap ∧ s'.os = s₁.os ∧ AllBare s'.gens) s₁:=by
 have rv:=qR hi
 have lenV:=hi.length
 have core:∀ H:Hp,aFS H → SqL K H a (ns.map V.int) → HOk P w H s₁.heap → (∀ b,H b ≠ none → b = a) → (H a ≠ none → K.lookup a = none) →
   codeAny (model P w) callerA (.call (.ref fa) ⟨[.ref a],[]⟩) (fun r s'=>r = .ok (.ret (.bool true)) ∧ OldK s₁.heap s'.heap ∧ s'.os = s₁.os ∧ AllBare s'.gens) s₁:=by
  intro H hO hS hok hA hK
  have base_of:∀ {b:Addr} {o:Obj},s₁.heap.get? b = some o → H b = none → (sQ s₁.heap H).get? b = some o:=fun e n=>aAS e n
  have noA:∀ {b:Addr} {o:Obj} {es:Array DictEntry} {ep:Nat},s₁.heap.get? b = some o → o.data = .dict es ep → H b = none:=fun {b o es ep} e d=>by
   cases q:H b with
   | none=>rfl
   | some u =>
    have e':b = a:=hA b (by rw [q];simp)
    subst e'
    rw [ha] at e;cases e
    have d':Data.seq vs.toArray _ = Data.dict es ep:=d
    cases d'
  have nsK:∀ {b:Addr} {m:Str → Option Value},s₁.heap.Ns b m → (sQ s₁.heap H).Ns b m:=fun {b m} ⟨o,es,ep,e,d,r⟩=>⟨o,es,ep,base_of e (noA e d),d,r⟩
  have hKb:K.In (sQ s₁.heap H):=fun b o e=>base_of (KX b o e) (by
   cases q:H b with
   | none=>rfl
   | some u =>
    have e':b = a:=hA b (by rw [q];simp)
    subst e'
    rw [hK (by rw [q];simp)] at e;cases e)
  have hM:Mod K mg (sQ s₁.heap H):=⟨hKb,nsK hns,⟨mb,nsK hb,hbb⟩,let ⟨mc,h1,h2⟩:=hlim;⟨mc,nsK h1,h2⟩⟩
  have e0:Env0 P w K mg (sQ s₁.heap H) callerA [] s₁ H:=⟨rfl,hM,fun b o e=>aCN e,Nat.le_of_eq (xW _ _),trivial,fun b hb=>absurd (show b ∈ ([]:List Addr) from hb) (by simp),hok,.of_eq hg⟩
  refine codeAny_mono ((F _ hKb (nsK hns)).run callerA [] s₁ H ⟨[.ref a],[]⟩ [.ref a] [.ref a] _ _ hr e0 (hbind s₁ (.ref a)) (.cons rfl .nil) (hsp H hO hS)) fun r s' h=>?_
  cases r with
  | error e=>exact (hCX H e s' h).elim
  | ok fl =>
   cases fl with
   | next=>exact False.elim h
   | brk=>exact False.elim h
   | cont=>exact False.elim h
   | ret u =>
    obtain ⟨v,H',os,bare,un,hok',r',q⟩:=h
    have q':v = .bl true:=q
    subst q'
    obtain rfl:u = Value.bool true:=r'
    refine ⟨rfl,OldK.of_keep fun b o e=>?_,os,bare⟩
    cases q:H b with
    | none=>exact un.keep b o e q (by intro z;exact absurd (show b ∈ ([]:List Addr) from z) (by simp)) (by simp)
    | some u =>
     rcases hO b with z | ⟨ob,xs,z⟩
     ·rw [q] at z;cases z
     ·have z2:=un.frzs b ob _ z
      obtain ⟨e1,_⟩:=hok b _ z
      obtain ⟨e2,_⟩:=hok' b _ z2
      rw [e] at e1;cases e1
      exact e2
 cases hk:K.lookup a with
 | some o =>
  have e:=KX a o hk
  rw [ha] at e
  cases e
  refine core (fun _=>none) (fun _=>.inl rfl) (.inr ⟨_,vs.toArray,_,hk,rfl,rfl,rfl,by rw [List.size_toArray,lenV];exact hl,by simpa using rv⟩) (fun b u z=>by have z':(none:Option HO) = some u:=z;cases z') (fun b z=>absurd rfl z) fun z=>absurd rfl z
 | none =>
  refine core (fun b=>if b = a then some (.frz { cls:=.type "list",data:=.seq vs.toArray } (.lst (ns.map V.int))) else none) (fun b=>?_) (.inl (.inr ⟨{ cls:=.type "list",data:=.seq vs.toArray },if_pos rfl⟩)) (fun b u z=>?_) (fun b z=>?_) fun _=>hk
  ·by_cases hb:b = a
   ·exact .inr ⟨_,_,if_pos hb⟩
   ·exact .inl (if_neg hb)
  ·by_cases hb:b = a
   ·have z':=(if_pos hb).symm.trans z
    cases z'
    subst hb
    exact ⟨ha,by rw [List.length_map];exact hl,vs,_,rv,ha⟩
   ·have z':=(if_neg hb).symm.trans z
    cases z'
  ·by_cases hb:b = a
   ·exact hb
   ·exact absurd (if_neg hb) z
end L2
namespace L2
open PySem PySem.Spec PyProof.Rows
theorem walk_of {l:PySem.W.OpenLaw} {n k:Nat} {q:Program} {loose:List Str} {XP:(Str → Option Value) → Heap → Prop} {YP:World → Heap → Prop} {d:DefRec} {K:Params → PySem.W.Frag} {CX:World → CXT} {sp:World → Sp} {x:Str}
  (hn:l.most = some n) (hn2:n ≤ sizeLine) (hdf:d.params.defaults = []) (hr:Room k callerA)
  (hY:∀ (w:World) (h:Heap),YP w h → (K w.params).In h)
  (F:∀ (w:World) (mg:Str → Option Value) (fa:Addr) (h:Heap),(K w.params).In h → h.Ns mainGlobals mg → mg d.name = some (.ref fa) →
   ∃ fd:FuncData,(∀ (s:Shared) (u:Value),BindsTo s fd ⟨[u],[]⟩ [(x,u)]) ∧
    ∀ base:Heap,(K w.params).In base → base.Ns mainGlobals mg → FnOk l.prog w (K w.params) mg base (CX w) k fa fd [x] (sp w))
  (hsp:∀ (w:World) (H:Hp) (a:Addr) (ns:List Int),ns.length ≤ n → aFS H → SqL (K w.params) H a (ns.map V.int) → sp w [.ref a] H (fun v _=>v = .bl true) fun _ _ _=>False)
  (hCX:∀ (w:World) (H:Hp) (s:Shared) (e:Value) (s':Shared),CX w [] H s (fun _ _ _=>False) e s' → False) :
  PySem.W.WalkO q loose XP YP l.row.toRowW d [] (fun f vs=>PySem.call f vs):=by
 refine Att.attach_call hn hdf fun w s₀ s₁ mg mb fa o pm cd doc a vs ns G Y ho hd hcd hmg hobj hints hlen hg=>?_
 have KX:=hY w _ Y
 obtain ⟨fd,hb,hF⟩:=F w mg fa _ KX G.T.g hmg
 exact aAK KX G.T.g G.T.b G.T.builtins G.T.nolimit hg hobj hints (Nat.le_trans hlen hn2) hr hF hb (fun H hO hS=>hsp w H a ns hlen hO hS) fun H e s'=>hCX w H s₁ e s'
end L2
namespace L2
open PySem PySem.Spec PyProof.Rows
def cR (s:Stmt) (j:Nat):Stmt:=match s with
 | .ClassDef _ _ _ body _ _ _ _ _ _ _=>body.getD j (.Pass ⟨0,0,0,0⟩)
 | _=>.Pass ⟨0,0,0,0⟩
def aP (s:Stmt):Arguments:=match s with
 | .FunctionDef _ a _ _ _ _ _ _ _ _=>a
 | _=>{ posonlyargs:=[],args:=[],vararg:=none,kwonlyargs:=[],kw_defaults:=[],kwarg:=none,defaults:=[] }
def aN (s:Stmt):List Stmt:=match s with
 | .FunctionDef _ _ b _ _ _ _ _ _ _=>b
 | _=>[]
def aE (s:Stmt):Scope:=match s with
 | .FunctionDef _ _ _ _ _ _ sc _ _ _=>sc
 | _=>{ kind:=.function,names:=[],isGenerator:=false,isCoroutine:=false }
abbrev CX0:CXT:=fun _ _ _ _ _ _=>False
abbrev E0:XK:=fun _ _ _=>False
theorem aAE {X:Cx}:mL CX0 X E0:=fun _ _ _ _ _ _ _ h=>h.elim
structure Fun (K:PySem.W.Frag) (x qual:Str) (st:Stmt) (f:Addr) (fd:FuncData):Prop where
 ex:∃ (oc:Value) (od:Option Addr) (kV doc pm:Value) (an:Option Addr) (cdv ct:Value) (osl:Array (Option Value)),
  fd = PySem.W.fnOf x qual (aP st) (aN st) (aE st) .none kV doc pm an cdv ct ∧ K.lookup f = some ⟨oc,od,.func fd,osl⟩ ∧ PySem.W.codeIn K cdv qual = true
 kp:PySem.W.keepIn K (.ref f) = true
section
variable {P:Program} {w:World} {K:PySem.W.Frag} {mg:Str → Option Value} {base:Heap}
theorem Fun.ok {x qual:Str} {st:Stmt} {f:Addr} {fd:FuncData} {N ps:List Str} {k:Nat} {sp:Sp} (F:Fun K x qual st f fd) (S:FnScope N ps (aE st)) (len:∀ vs H Q E,sp vs H Q E → vs.length = ps.length)
  (hbody:∀ (cdv:Value) (A:Around) (outer:List Env) (s:Shared) (H:Hp) (vs:List V) (Q:VK) (E:XK),Room k (A.deeper (envOfC qual (aE st) s.heap.objs.size f cdv)) → sp vs H Q E →
   ∃ t,PSs (iT CX0 P w K mg base N qual (aE st) f cdv A outer s H E).nox (aN st) t ∧ t { nx:=fun _ H'=>Q .non H',rt:=Q } (fW N vs) H):FnOk P w K mg base CX0 (k + 1) f fd ps sp:=by
 obtain ⟨oc,od,kV,doc,pm,an,cdv,ct,osl,rfl,lk,hcd⟩:=F.ex
 refine aEF lk hcd S len fun A outer s H vs Q E hr hsp=>?_
 obtain ⟨t,h,q⟩:=hbody cdv A outer s H vs Q E hr hsp
 exact ⟨t,h.nox,q⟩
theorem Fun.binds {x qual:Str} {st:Stmt} {f:Addr} {fd:FuncData} {ps:List Str} (F:Fun K x qual st f fd)
  (h:∀ (kV doc pm:Value) (an:Option Addr) (cdv ct:Value) (us:List Value),us.length = ps.length → bindArgs (PySem.W.fnOf x qual (aP st) (aN st) (aE st) .none kV doc pm an cdv ct) ⟨us,[]⟩ = pure (ps.zip us)):fD K fd ps []:=by
 obtain ⟨oc,od,kV,doc,pm,an,cdv,ct,osl,rfl,lk,hcd⟩:=F.ex
 exact .all (h kV doc pm an cdv ct)
theorem mF {x qual:Str} {st:Stmt} {f:Addr} {oc:Value} {od an:Option Addr} {osl:Array (Option Value)} {kV doc pm cdv ct:Value} (l:K.lookup f = some ⟨oc,od,.func (PySem.W.fnOf x qual (aP st) (aN st) (aE st) .none kV doc pm an cdv ct),osl⟩)
  (c:PySem.W.codeIn K cdv qual = true) (k:PySem.W.keepIn K (.ref f) = true):Fun K x qual st f (PySem.W.fnOf x qual (aP st) (aN st) (aE st) .none kV doc pm an cdv ct):=⟨⟨oc,od,kV,doc,pm,an,cdv,ct,osl,rfl,l,c⟩,k⟩
end
theorem pK {A:Around} {k:Nat} (hr:Room k A):A.units + 1 < cLine:=Nat.lt_of_le_of_lt (Nat.add_le_add_left (by decide:1 ≤ 64) _) hr.units
section
variable {X:Cx}
theorem pv (i:Nat) {x:Str} {pos:Pos} (hN:X.N[i]? = some x:=by rfl) (hv:Vis X.env.scope x:=by first | exact Or.inl rfl | exact Or.inr (Or.inl rfl) | exact Or.inr (Or.inr rfl)) (hd:(x == ("__debug__":Str)) = false:=by decide)
  (hcd:(x == ("__classdict__":Str)) = false:=by decide):PE X (.Name x pos) (aFU i):=aEX hN hv hd hcd
end
theorem bX {A B:Prop} (h:B):if false = true then A else B:=by
 rw [if_neg Bool.false_ne_true]
 exact h
theorem eA {A B:Prop} (h:A):if true = true then A else B:=by
 rw [if_pos rfl]
 exact h
theorem jA {c A B:Prop} [Decidable c] (h1:c → A) (h2:¬ c → B):if c then A else B:=by
 by_cases h:c
 ·rw [if_pos h]
  exact h1 h
 ·rw [if_neg h]
  exact h2 h
def aL (H H':Hp):Prop:=∀ b o,H b = some o → H' b = some o
theorem aL.refl (H:Hp):aL H H:=fun _ _ h=>h
theorem aL.trans {H H1 H2:Hp} (a:aL H H1) (b:aL H1 H2):aL H H2:=fun c o h=>b c o (a c o h)
theorem aL.free {H H':Hp} (e:aL H H') {l:Addr} (h:H' l = Option.none):H l = Option.none:=by
 cases q:H l with
 | none=>rfl
 | some o =>
  rw [e l o q] at h
  cases h
theorem aL.seq {K:PySem.W.Frag} {H H':Hp} {a:Addr} {xs:List V} (e:aL H H') (h:SqL K H a xs):SqL K H' a xs:=by
 rcases h with (h | ⟨o,h⟩) | h
 ·exact .inl (.inl (e _ _ h))
 ·exact .inl (.inr ⟨o,e _ _ h⟩)
 ·exact .inr h
end L2
namespace L2
open PySem PySem.Spec PyProof.Rows
section
variable {X:Cx}
theorem mK:dU X (.builtin "len") (fun xs H Q=>∃ a kvs,xs = [V.ref a] ∧ H a = some (.dK kvs) ∧ Q (.int kvs.length) H):=by
 intro pins s σ H xs us Q I r h
 obtain ⟨a,kvs,rfl,ha,q⟩:=h
 obtain ⟨u,rfl,ru⟩:=nQ r
 cases ru
 exact aHG I (.inl ha) fun t s' I'=>⟨.int kvs.length,H,I',⟨t,rfl⟩,q⟩
end
section
variable {κ:Type} [DecidableEq κ]
end
end L2
namespace Tx
open PySem PySem.Builtin PySem.Builtin.Str
def cl (n d:Nat):Option Int → Nat
 | none=>d
 | some i=>(max 0 (min (if i < 0 then i + n else i) n)).toNat
theorem cl_nat (n d k:Nat):cl n d (some (k:Int)) = min k n:=by
 show (max 0 (min (if (k:Int) < 0 then (k:Int) + n else (k:Int)) n)).toNat = min k n
 rw [if_neg (by omega)]
 omega
theorem aEH (n d:Nat) (hd:d ≤ n):∀ o,cl n d o ≤ n
 | none=>hd
 | some i=>by
  show (max 0 (min (if i < 0 then i + n else i) n)).toNat ≤ n
  omega
theorem vO (lo hi:Option Int) (n:Nat):strSliceIndices lo hi 1 n = (List.range (cl n n hi - cl n 0 lo)).map (cl n 0 lo + ·):=by
 have h1:∀ (v:Option Int) (d:Nat),d ≤ n → (match v with | none=>(d:Int) | some i=>if (1:Int) > 0 then max 0 (min (if i < 0 then i + n else i) n) else max (-1) (min (if i < 0 then i + n else i) (n - 1))) = ((cl n d v:Nat):Int):=by
  intro v d hd
  cases v with
  | none=>rfl
  | some i =>
   show (if (1:Int) > 0 then max 0 (min (if i < 0 then i + n else i) n) else max (-1) (min (if i < 0 then i + n else i) (n - 1))) = (((max 0 (min (if i < 0 then i + n else i) n)).toNat:Nat):Int)
   rw [if_pos (by decide)]
   omega
 rw [← sliceRange_one]
 unfold strSliceIndices
 have a:=h1 lo 0 (Nat.zero_le _)
 have b:=h1 hi n (Nat.le_refl _)
 simp only [show (1:Int) > 0 by decide,if_true] at a b ⊢
 congr 1
theorem slice_codes (x:Str) (lo hi:Option Int):(Txt.slice x lo hi).cps.toList = (x.cps.toList.drop (cl x.length 0 lo)).take (cl x.length x.length hi - cl x.length 0 lo):=by
 unfold Txt.slice
 rw [vO]
 split
 ·rename_i h
  have h':cl x.length x.length hi - cl x.length 0 lo = x.length:=by
   have:=(Bool.and_eq_true_iff.mp h).2
   have:=beq_iff_eq.mp this
   simpa using this
  have h2:=aEH x.length x.length (Nat.le_refl _) hi
  have h4:=aEH x.length 0 (Nat.zero_le _) lo
  have h3:cl x.length 0 lo = 0:=by omega
  rw [h',h3,List.drop_zero,List.take_of_length_le]
  show x.cps.toList.length ≤ x.cps.size
  simp
 ·rw [pick_run]
theorem app_codes (a b:Str):(a ++ b).cps.toList = a.cps.toList ++ b.cps.toList:=by
 simp [Str.cps_append]
theorem app_len (a b:Str):(a ++ b).length = a.length + b.length:=Str.length_append a b
end Tx
set_option maxHeartbeats 4000000
namespace L2
open PySem PySem.Spec PyProof.Rows
theorem jL {env:Env} {f:(Str × NameKind) → List (Str × Addr) → Sem (ForInStep (List (Str × Addr)))}
  (hf:∀ n k cs,f (n,k) cs = if (k == NameKind.free) = true then (cellOf env n >>= fun c=>pure (ForInStep.yield ((n,c) :: cs))) else pure (ForInStep.yield cs)) :
  ∀ (names:List (Str × NameKind)) (acc:List (Str × Addr)),
  (∀ y ∈ names,y.2 = .free → ∃ c,env.cells.lookup y.1 = some c) →
  (∀ x c,acc.lookup x = some c → env.cells.lookup x = some c) →
  ∃ cl,forIn names acc f = (pure cl:Sem _) ∧ (∀ x c,cl.lookup x = some c → env.cells.lookup x = some c) ∧ (∀ x c,acc.lookup x = some c → ∃ d,cl.lookup x = some d) ∧
   ∀ x,(x,NameKind.free) ∈ names → ∃ c,cl.lookup x = some c
 | [],acc,_,ha=>⟨acc,rfl,ha,fun x c e=>⟨c,e⟩,fun x m=>absurd m (by simp)⟩
 | (n,k) :: r,acc,hn,ha=>by
  have hr:∀ y ∈ r,y.2 = .free → ∃ c,env.cells.lookup y.1 = some c:=fun y hy=>hn y (List.mem_cons_of_mem _ hy)
  by_cases hk:k = .free
  ·subst hk
   obtain ⟨c,hc⟩:=hn (n,.free) List.mem_cons_self rfl
   have hcell:cellOf env n = pure c:=by
    have hc':env.cells.lookup n = some c:=hc
    unfold cellOf
    rw [hc']
   have ha':∀ x d,List.lookup x ((n,c) :: acc) = some d → env.cells.lookup x = some d:=fun x d e=>by
    by_cases hx:(x == n) = true
    ·rw [List.lookup_cons,hx] at e
     obtain rfl:=beq_iff_eq.mp hx
     cases e
     exact hc
    ·have hx':(x == n) = false:=by simpa using hx
     rw [List.lookup_cons,hx'] at e
     exact ha x d e
   obtain ⟨cl,e1,e2,e3,e4⟩:=jL hf r ((n,c) :: acc) hr ha'
   refine ⟨cl,?_,e2,fun x d e=>?_,fun x m=>?_⟩
   ·rw [List.forIn_cons,hf,if_pos (beq_self_eq_true _),hcell,pure_bind,pure_bind]
    exact e1
   ·by_cases hx:(x == n) = true
    ·exact e3 x c (by rw [List.lookup_cons,hx])
    ·have hx':(x == n) = false:=by simpa using hx
     exact e3 x d (by rw [List.lookup_cons,hx'];exact e)
   ·rcases List.mem_cons.mp m with q | q
    ·have q':x = n:=congrArg Prod.fst q
     subst q'
     exact e3 x c (by rw [List.lookup_cons,beq_self_eq_true])
    ·exact e4 x q
  ·have hk':(k == NameKind.free) = false:=by simpa using hk
   obtain ⟨cl,e1,e2,e3,e4⟩:=jL hf r acc hr ha
   refine ⟨cl,?_,e2,e3,fun x m=>?_⟩
   ·rw [List.forIn_cons,hf,hk',if_neg Bool.false_ne_true,pure_bind]
    exact e1
   ·rcases List.mem_cons.mp m with q | q
    ·exact absurd (congrArg Prod.snd q).symm hk
    ·exact e4 x q
theorem pY {scope:Scope} {env:Env} (h:∀ y ∈ scope.names,y.2 = .free → ∃ c,env.cells.lookup y.1 = some c) :
  ∃ cl,closureFor scope env = pure cl ∧ (∀ x c,cl.lookup x = some c → env.cells.lookup x = some c) ∧ ∀ x,(x,NameKind.free) ∈ scope.names → ∃ c,cl.lookup x = some c:=by
 obtain ⟨cl,e1,e2,_,e4⟩:=jL (env:=env) (f:=fun (x:Str × NameKind) cs=>match x with | (name,kind)=>if (kind == NameKind.free) = true then (cellOf env name >>= fun c=>pure (ForInStep.yield ((name,c) :: cs))) else pure (ForInStep.yield cs)) (fun n k cs=>rfl) scope.names [] h (fun x c e=>by cases e)
 refine ⟨cl,?_,e2,e4⟩
 have:closureFor scope env = (forIn scope.names [] (fun (x:Str × NameKind) cs=>match x with | (name,kind)=>if (kind == NameKind.free) = true then (cellOf env name >>= fun c=>pure (ForInStep.yield ((name,c) :: cs))) else pure (ForInStep.yield cs)) >>= fun cs=>pure cs):=by
  first | rfl | (unfold closureFor;rfl) | (unfold closureFor;simp only [pure_bind,bind_pure])
 rw [this,e1,pure_bind]
theorem fX {env:Env}:∀ {names:List (Str × NameKind)} {x:Str},names.lookup x = some .free →
  (names.map fun (n,k)=>if (k == NameKind.free && env.scope.kind == .function && env.kindOf n == some .cell) then (n,NameKind.cell) else (n,k)).lookup x = some .cell ∨
  (names.map fun (n,k)=>if (k == NameKind.free && env.scope.kind == .function && env.kindOf n == some .cell) then (n,NameKind.cell) else (n,k)).lookup x = some .free
 | [],_,h=>by simp at h
 | (n,k) :: r,x,h=>by
  have ih:=@fX env r x
  show List.lookup x ((if (k == NameKind.free && env.scope.kind == .function && env.kindOf n == some .cell) = true then (n,NameKind.cell) else (n,k)) :: _) = _ ∨ List.lookup x ((if (k == NameKind.free && env.scope.kind == .function && env.kindOf n == some .cell) = true then (n,NameKind.cell) else (n,k)) :: _) = _
  cases hx:x == n with
  | true =>
   simp only [List.lookup_cons,hx] at h
   cases h
   by_cases hc:(NameKind.free == NameKind.free && env.scope.kind == .function && env.kindOf n == some .cell) = true
   ·rw [if_pos hc];left;simp only [List.lookup_cons,hx]
   ·rw [if_neg hc];right;simp only [List.lookup_cons,hx]
  | false =>
   simp only [List.lookup_cons,hx] at h
   by_cases hc:(k == NameKind.free && env.scope.kind == .function && env.kindOf n == some .cell) = true
   ·rw [if_pos hc];simp only [List.lookup_cons,hx];exact ih h
   ·rw [if_neg hc];simp only [List.lookup_cons,hx];exact ih h
theorem hZ {env:Env}:∀ {names:List (Str × NameKind)} {x:Str},(∀ y ∈ names,y.2 ≠ .cell) →
  ((names.map fun (n,k)=>if (k == NameKind.free && env.scope.kind == .function && env.kindOf n == some .cell) then (n,NameKind.cell) else (n,k)).lookup x = some .cell ∨
  (names.map fun (n,k)=>if (k == NameKind.free && env.scope.kind == .function && env.kindOf n == some .cell) then (n,NameKind.cell) else (n,k)).lookup x = some .free) → (x,NameKind.free) ∈ names
 | [],_,_,h=>by rcases h with h | h <;> simp at h
 | (n,k) :: r,x,hn,h=>by
  have ih:=@hZ env r x (fun y hy=>hn y (List.mem_cons_of_mem _ hy))
  have h':List.lookup x ((if (k == NameKind.free && env.scope.kind == .function && env.kindOf n == some .cell) = true then (n,NameKind.cell) else (n,k)) :: (r.map fun (n,k)=>if (k == NameKind.free && env.scope.kind == .function && env.kindOf n == some .cell) then (n,NameKind.cell) else (n,k))) = some .cell ∨
   List.lookup x ((if (k == NameKind.free && env.scope.kind == .function && env.kindOf n == some .cell) = true then (n,NameKind.cell) else (n,k)) :: (r.map fun (n,k)=>if (k == NameKind.free && env.scope.kind == .function && env.kindOf n == some .cell) then (n,NameKind.cell) else (n,k))) = some .free:=h
  cases hx:x == n with
  | true =>
   obtain rfl:=beq_iff_eq.mp hx
   have hk:k = .free:=by
    by_cases hc:(k == NameKind.free && env.scope.kind == .function && env.kindOf x == some .cell) = true
    ·have:=(Bool.and_eq_true_iff.mp (Bool.and_eq_true_iff.mp hc).1).1
     exact beq_iff_eq.mp this
    ·rw [if_neg hc] at h'
     simp only [List.lookup_cons,hx] at h'
     rcases h' with e | e
     ·cases e;exact absurd rfl (hn (x,.cell) List.mem_cons_self)
     ·cases e;rfl
   subst hk
   exact List.mem_cons_self
  | false =>
   refine List.mem_cons_of_mem _ (ih ?_)
   by_cases hc:(k == NameKind.free && env.scope.kind == .function && env.kindOf n == some .cell) = true
   ·rw [if_pos hc] at h';simp only [List.lookup_cons,hx] at h';exact h'
   ·rw [if_neg hc] at h';simp only [List.lookup_cons,hx] at h';exact h'
structure BlkR where
 cl:List (Str × Addr)
 C:Addr
 s₀:Shared
 H₀:Hp
 ex:List Addr
abbrev blk (X:Cx) (scope:Scope) (N':List Str) (R:BlkR):Cx :=
 { prog:=X.prog,w:=X.w,K:=X.K,mg:=X.mg,base:=X.base,A:=X.A,N:=N',s₀:=R.s₀,H₀:=R.H₀,env:=compEnvC scope R.cl R.C X.env,outer:=X.stack,stack:=X.stack,ex:=R.ex,fn:=fun _=>false,calm:=X.calm,pn:=[],xe:=fun _ _=>False }
def aBU (X:Cx) (ifs:List Expr) (t:TT):Prop :=
 ∀ (pins:List (Addr × Obj)) (s:Shared) (σ:St) (H:Hp) (Q:Bool → Hp → Prop),Inv X pins σ H s → t σ H Q →
  wpAny (model X.prog X.w) X.A (forIn ifs true fun c r=>if r = true then do let ok ← isTrue c X.env (eval c X.env);pure (ForInStep.yield ok) else pure (ForInStep.yield r)) (TP X pins σ Q) X.xe s
def aFW:TT:=fun _ H Q=>Q true H
theorem cT {X:Cx}:aBU X [] aFW:=fun pins s σ H Q I h=>wpAny_tests_nil ⟨H,I,h⟩
theorem tP {X:Cx} {c:Expr} {t:TT} (h:PT X c t):aBU X [c] t:=fun pins s σ H Q I hw=>wpAny_tests_one (h pins s σ H Q I hw)
def uR (nt:Nat) (g:TG):Prop:=∀ x σ H Q,g x σ H Q → g x σ H fun σ2 H2=>Q σ2 H2 ∧ σ2.length = σ.length ∧ ∀ i,nt ≤ i → σ2[i]? = σ[i]?
theorem bR {nt i:Nat} (h:i < nt):uR nt (lG i):=fun x σ H Q q =>
 ⟨q,by simp,fun j hj=>List.getElem?_set_ne (by omega)⟩
def jO (nt:Nat) (cap:List Nat) (σ:St):St:=List.replicate nt none ++ cap.map fun j=>(σ[j]?).join
theorem yL {nt:Nat} {cap:List Nat} {σ:St}:(jO nt cap σ).length = nt + cap.length:=by simp [jO]
theorem rQ {nt:Nat} {cap:List Nat} {σ:St} {i:Nat} {v:V} (h:(jO nt cap σ)[i]? = some (some v)):∃ j,nt ≤ i ∧ cap[i - nt]? = some j ∧ σ[j]? = some (some v):=by
 unfold jO at h
 by_cases hi:i < nt
 ·rw [List.getElem?_append_left (by simpa using hi),List.getElem?_replicate] at h
  rw [if_pos hi] at h
  cases h
 ·rw [List.getElem?_append_right (by simp;omega),List.length_replicate,List.getElem?_map] at h
  cases e:cap[i - nt]? with
  | none=>rw [e] at h;cases h
  | some j =>
   rw [e] at h
   refine ⟨j,by omega,rfl,?_⟩
   have h':(σ[j]?).join = some v:=by simpa using h
   cases q:σ[j]? with
   | none=>rw [q] at h';cases h'
   | some o=>rw [q] at h';cases o with
    | none=>cases h'
    | some z=>cases h';rfl
theorem pW {prog:Program} {w:World} {A:Around} {R:Result → Shared → Prop} {s:Shared} {elt target iter:Expr} {ifs:List Expr} {scope:Scope} {pos:Pos} {it acc:Value} {env:Env} (I:Nat → Shared → Prop)
  (turn:∀ n s,I n s → wpAny (model prog w) A (pyNext it) (fun r s₁=>match r with
   | none=>R (.ok .next) s₁
   | some v=>wpAny (model prog w) A (letOwnedTupleGo target it v) (fun _ s₁=>wpAny (model prog w) A (assign target env v) (fun _ s₂ =>
     wpAny (model prog w) A (forIn ifs true fun c r=>if r = true then do let ok ← isTrue c env (eval c env);pure (ForInStep.yield ok) else pure (ForInStep.yield r)) (fun ok s₃ =>
      if ok = true then wpAny (model prog w) A (eval elt env) (fun x s₄ =>
       wpAny (model prog w) A (call (.builtin "list.append") [acc,x]) (fun _ s₅=>∃ m,m < n ∧ I m s₅) (notedBy (model prog w) A env fun e s'=>R (.error e) s') s₄) (notedBy (model prog w) A env fun e s'=>R (.error e) s') s₃
      else ∃ m,m < n ∧ I m s₃) (notedBy (model prog w) A env fun e s'=>R (.error e) s') s₂) (notedBy (model prog w) A env fun e s'=>R (.error e) s') s₁) (notedBy (model prog w) A env fun e s'=>R (.error e) s') s₁) (notedBy (model prog w) A env fun e s'=>R (.error e) s') s)
  (n:Nat) (h:I n s) :
  codeAny (model prog w) A (.compLoop (.ListComp elt [⟨target,iter,ifs,0⟩] scope pos) 0 it acc env) R s:=by
 refine codeAny_loop rfl I (fun n s hI=>?_) n h
 show wpAny _ A ((compTurn (.ListComp elt [⟨target,iter,ifs,0⟩] scope pos) 0 it acc env).onRaise (fun x=>do noteFrame x env;theTreesLotGoes x)) _ _ s
 refine wpAny_noted ?_
 rw [compTurn_list]
 refine wpAny_bind (wpAny_standAt (wpAny_bind (wpAny_mono (turn n s hI) (fun r s₁ h₁=>?_) fun _ _ h'=>h')))
 cases r with
 | none=>exact wpAny_pure h₁
 | some v =>
  refine wpAny_bind (wpAny_mono h₁ (fun _ s₁' h₁'=>?_) fun _ _ h'=>h')
  refine wpAny_bind (wpAny_mono h₁' (fun _ s₂ h₂=>wpAny_bind (wpAny_mono h₂ (fun ok s₃ h₃=>?_) fun _ _ h'=>h')) fun _ _ h'=>h')
  cases ok with
  | false=>exact wpAny_pure ⟨rfl,h₃⟩
  | true =>
   exact wpAny_bind (wpAny_bind (wpAny_mono h₃ (fun x s₄ h₄=>wpAny_bind (wpAny_mono h₄ (fun _ s₅ h₅=>wpAny_pure (wpAny_pure ⟨rfl,h₅⟩)) fun _ _ h'=>h')) fun _ _ h'=>h'))
abbrev CW:=Nat → Nat → List V → Hp → Prop
def qS (σb:St) (J:It) (g:TG) (tt:TT) (te:TE) (W:CW) (fin:List V → Hp → Prop) (i m:Nat) (ys:List V) (H:Hp):Prop :=
 (J.stop i H ∧ fin ys H) ∨
 (J.go i H ∧ ys.length < sizeLine ∧ ∀ x H',J.yld i H x H' → g x σb H' fun σ2 H2=>tt σ2 H2 fun b H3 =>
  if b = true then te σ2 H3 fun y H4=>∃ m',m' < m ∧ W (i + 1) m' (ys ++ [y]) H4 else ∃ m',m' < m ∧ W (i + 1) m' ys H3)
structure BlkEnd (X:Cx) (pins:List (Addr × Obj)) (H:Hp) (C:Addr) (s:Shared):Prop where
 ns:∃ m,s.heap.Ns C m
 fr:H C = none
 ne:C ≠ X.env.locals
 ab:X.s₀.heap.objs.size ≤ C
 cl:∀ x c,X.env.cells.lookup x = some c → c ≠ C
 pn:∀ p ∈ X.pn ++ pins,p.1 ≠ C
theorem pV {X:Cx} {pins:List (Addr × Obj)} {σ:St} {s₂:Shared} {H₂:Hp} {elt iter tg:Expr} {ifs:List Expr} {scope:Scope} {pos:Pos} {N':List Str} {nt:Nat} {cap:List Nat} {g:TG} {tt:TT} {te:TE} {cl:List (Str × Addr)}
  {it:Addr} {fp:List Addr} {tn:Nat → Heap → Prop} {J:It} {Q:List V → Hp → Prop} {E:Value → Shared → Prop}
  (hc:X.calm = true) (I₂:Inv X pins σ H₂ s₂) (T:Turn X.prog X.w X.K tg J fp it tn) (st:tn 0 s₂.heap) (hf:∀ b ∈ fp,tD X pins H₂ b)
  (hclk:∀ x c,cl.lookup x = some c → X.env.cells.lookup x = some c) (hclh:∀ x,(x,NameKind.free) ∈ scope.names → ∃ c,cl.lookup x = some c)
  (hcell:∀ y ∈ scope.names,y.2 ≠ .cell) (hkind:scope.kind = .function)
  (hfr:∀ y ∈ scope.names,y.2 = .free → (X.env.kindOf y.1 = some .cell ∨ X.env.kindOf y.1 = some .free))
  (hN:N'.length = nt + cap.length) (hcapN:∀ (k j:Nat),cap[k]? = some j → N'[nt + k]? = X.N[j]?) (hcapF:∀ x ∈ N'.drop nt,scope.names.lookup x = some .free)
  (hg:∀ R,PG (blk X scope N' R) tg g) (hgk:uR nt g) (ht:∀ R,aBU (blk X scope N' R) ifs tt) (he:∀ R,PE (blk X scope N' R) elt te)
  (h:∃ W:CW,(∃ m,W 0 m [] H₂) ∧ ∀ i m ys H,W i m ys H → qS (jO nt cap σ) J g tt te W Q i m ys H)
  {RR:Value → Addr → Result → Shared → Prop}
  (hRR:∀ D C s' H' ys,H' D = none → Q ys H' → Inv X pins σ (upd H' D (.lst ys)) s' → BlkEnd X pins (upd H' D (.lst ys)) C s' → RR (.ref D) C (.ok .next) s') :
  wpAny (model X.prog X.w) X.A (newList []) (fun acc s₃=>wpAny (model X.prog X.w) X.A (newFunctionEnv scope X.env.globals cl [] X.env.qual none .none (some X.env)) (fun cenv s₄ =>
   codeAny (model X.prog X.w) X.A (.compStart (.ListComp elt [⟨tg,iter,ifs,0⟩] scope pos) 0 (.ref it) acc { cenv with scope:=relabel scope X.env }) (RR acc cenv.locals) s₄) E s₃) E s₂:=by
 obtain ⟨W,⟨m0,w0⟩,turn⟩:=h
 refine wpAny_newObj_type (wpAny_newFunctionEnv hcell (by intro y hy;simp at hy) (fun h₁ hns₁ hsb₁=>?_) hkind)
 dsimp only at hns₁ hsb₁ ⊢
 generalize hH2:s₂.heap.push { cls:=.type "list",dict:=none,data:=.seq ([]:List Value).toArray } = Hx at hns₁ hsb₁ ⊢
 have hC:Hx.objs.size = s₂.heap.objs.size + 1:=by rw [← hH2,Heap.size_push]
 generalize hD:s₂.heap.objs.size = D at hC ⊢
 generalize hCC:Hx.objs.size = C at hns₁ hsb₁ hC ⊢
 have hDC:D ≠ C:=by omega
 have below:∀ b,b < s₂.heap.objs.size → b ≠ C ∧ b ≠ D:=fun b hb=>by omega
 have old:∀ b o,s₂.heap.get? b = some o → h₁.get? b = some o:=fun b o e=>hsb₁.extBut b o (below b (Heap.lt_size e)).1 (Heap.get?_push_of_some _ (hH2 ▸ Heap.get?_push_of_some _ e))
 have hacc:h₁.get? D = some { cls:=.type "list",data:=.seq ([]:List Value).toArray }:=hsb₁.extBut _ _ hDC (Heap.get?_push_of_some _ (by rw [← hH2,← hD];exact Heap.get?_push_size _ rfl))
 have freshD:H₂ D = none:=I₂.hok.fresh (by omega)
 have freshC:H₂ C = none:=I₂.hok.fresh (by omega)
 have fpo:∀ b ∈ fp,∃ o,s₂.heap.get? b = some o ∧ ∀ v,o.data ≠ .cell v:=T.obj 0 _ st
 have fplt:∀ b ∈ fp,b < s₂.heap.objs.size:=fun b hb=>let ⟨o,e,_⟩:=fpo b hb;Heap.lt_size e
 have celllt:∀ x c,X.env.cells.lookup x = some c → c < s₂.heap.objs.size:=fun x c e=>let ⟨v,z⟩:=I₂.cell x c e;z.lt
 have pinlt:∀ p ∈ X.pn ++ pins,p.1 < s₂.heap.objs.size:=fun p hp=>Heap.lt_size (I₂.pin p hp).1
 let R:BlkR:=⟨cl,C,s₂,H₂,fp⟩
 have okb:(blk X scope N' R).Ok:={
  mod:=I₂.mod
  kind:=hkind
  glob:=I₂.ok.glob
  blt:=I₂.ok.blt
  above:=(by show s₂.heap.objs.size ≤ C;omega)
  inj:=fun x y c e1 e2=>I₂.ok.inj x y c (hclk x c e1) (hclk y c e2)
  has:=fun x hx=>hclh x (hZ hcell hx)
  cab:=fun x c hx _=>by cases hx
  hd:=I₂.ok.hd
  frames:=I₂.ok.frames
  stk:=.inl rfl
  exf:=fun b hb=>⟨(below b (fplt b hb)).1,fun x c e=>(hf b hb).2.2.2.2.1 x c (hclk x c e)⟩
  bs:=I₂.bs
  bsz:=Nat.le_trans I₂.ok.bsz I₂.sz
  noex:=fun b o e hb=>by
   rcases (hf b hb).2.2.2.1 with z | z
   ·exact I₂.ok.noex b o e z
   ·exact absurd (Nat.lt_of_lt_of_le (Heap.lt_size e) (Nat.le_trans I₂.ok.bsz z)) (Nat.lt_irrefl _)
  exfs:=fun b hb z=>by
   rcases List.mem_cons.mp (I₂.stkSub b z) with q | q
   ·exact (hf b hb).2.1 q
   ·exact (hf b hb).2.2.1 q
  funs:=I₂.stack
  frf:=I₂.stkFree }
 have nofs:∀ a,s₂.heap.objs.size ≤ a → a ∉ frs X.stack:=fun a ha z=>by
  rcases List.mem_cons.mp (I₂.stkSub a z) with q | q
  ·exact absurd (Nat.lt_of_lt_of_le I₂.lt ha) (by rw [q];exact Nat.lt_irrefl _)
  ·exact I₂.nofs ha q
 have hDle:s₂.heap.objs.size ≤ D:=by omega
 have hCle:s₂.heap.objs.size ≤ C:=by omega
 have stat:∀ {H':Hp} {ob:Obj},(∀ b ∈ fp,H' b = none) → ∀ b ∈ fp,tD (blk X scope N' R) [(D,ob)] H' b:=fun {H' ob} hn b hb =>
  ⟨hn b hb,(below b (fplt b hb)).1,okb.exfs b hb,.inl hb,fun x c e=>(hf b hb).2.2.2.2.1 x c (hclk x c e),fun p hp=>by
   have e:p = (D,ob):=by simpa using hp
   rw [e]
   exact Ne.symm (below b (fplt b hb)).2⟩
 have entry:∀ tk,Inv (blk X scope N' R) [(D,{ cls:=.type "list",data:=.seq ([]:List Value).toArray })] (jO nt cap σ) H₂ { s₂ with heap:=h₁,toks:=tk }:=fun tk=>{
  ok:=okb
  os:=rfl
  bare:=I₂.bare
  base:=Un.kept old
  loc:=by
   refine ⟨_,hns₁,fun i x v e1 e2 e3=>?_⟩
   obtain ⟨j,hi,hj,hv⟩:=rQ e2
   have hx:X.N[j]? = some x:=by
    rw [← hcapN _ _ hj,show nt + (i - nt) = i by omega]
    exact e1
   have hxm:x ∈ N'.drop nt:=by
    refine List.mem_of_getElem? (i:=i - nt) ?_
    rw [List.getElem?_drop,show nt + (i - nt) = i by omega]
    exact e1
   have hfree:=hcapF x hxm
   have hmem:(x,NameKind.free) ∈ scope.names:=by
    have:∀ (l:List (Str × NameKind)),l.lookup x = some .free → (x,NameKind.free) ∈ l:=by
     intro l
     induction l with
     | nil=>intro q;cases q
     | cons a r ih =>
      intro q
      obtain ⟨n,k⟩:=a
      cases hxn:x == n with
      | true =>
       rw [List.lookup_cons,hxn] at q
       obtain rfl:=beq_iff_eq.mp hxn
       cases q
       exact List.mem_cons_self
      | false =>
       rw [List.lookup_cons,hxn] at q
       exact List.mem_cons_of_mem _ (ih q)
    exact this _ hfree
   have hk:=hfr (x,.free) hmem rfl
   obtain ⟨m,hn,hl⟩:=I₂.loc
   have vis:Vis X.env.scope x:=by
    rcases hk with k | k
    ·exact .inr (.inl k)
    ·exact .inr (.inr k)
   obtain ⟨u,ru,lk⟩:=hl j x v hx hv vis
   refine ⟨u,ru,?_⟩
   rcases lk with ⟨k,_⟩ | ⟨k,c,hc1,hc2⟩
   ·exfalso
    rcases hk with z | z
    ·rw [z] at k;cases k
    ·rw [z] at k;cases k
   ·obtain ⟨d,hd⟩:=hclh x hmem
    have hd':=hclk x d hd
    rw [hc1] at hd'
    cases hd'
    refine .inr ⟨fX hfree,c,hd,?_⟩
    obtain ⟨o,ho,hdat⟩:=hc2
    exact ⟨o,old c o ho,hdat⟩
  cell:=fun x c e=>by
   obtain ⟨v,o,ho,hdat⟩:=I₂.cell x c (hclk x c e)
   exact ⟨v,o,old c o ho,hdat⟩
  free:=freshC
  freeC:=fun x c e=>I₂.freeC x c (hclk x c e)
  pin:=fun p hp=>by
   have e:p = (D,{ cls:=.type "list",data:=.seq ([]:List Value).toArray }):=by simpa using hp
   subst e
   exact ⟨hacc,freshD,hDC,nofs D hDle,fun v z=>by cases z⟩
  hok:=I₂.hok.kept old
  len:=by rw [yL,hN] }
 have loop:∀ tk,codeAny (model X.prog X.w) X.A (.compLoop (.ListComp elt [⟨tg,iter,ifs,0⟩] scope pos) 0 (.ref it) (.ref D) (compEnvC scope cl C X.env)) (RR (.ref D) C) { s₂ with heap:=h₁,toks:=tk }:=by
  intro tk
  refine pW (fun n s'=>∃ i ys H' its k,Inv (blk X scope N' R) [(D,{ cls:=.type "list",data:=.seq its.toArray k })] (jO nt cap σ) H' s' ∧ tn i s'.heap ∧ (∀ b ∈ fp,H' b = none) ∧ aY ys its ∧ ys.length ≤ sizeLine ∧ W i n ys H') ?_ m0
   ⟨0,[],H₂,[],0,entry tk,T.keep _ _ _ st fun b hb o e=>old b o e,fun b hb=>(hf b hb).1,.nil,Nat.zero_le _,w0⟩
  rintro n s3 ⟨i,ys,H3,its,k,I3,st3,fr3,rv,hz,w3⟩
  have pD:=I3.pin (D,{ cls:=.type "list",data:=.seq its.toArray k }) (by simp)
  rcases turn i n ys H3 w3 with ⟨stop,qn⟩ | ⟨go,hlt,step⟩
  ·-- the end
   refine wpAny_mono (T.done (blk X scope N' R) rfl rfl rfl hc i _ s3 _ H3 (fun _ _=>False) I3 (stat fr3) st3 stop) (fun r s4 ⟨hr,I4⟩=>?_) fun _ _ z=>z.elim
   subst hr
   have pD4:=I4.pin (D,{ cls:=.type "list",data:=.seq its.toArray k }) (by simp)
   have b4:Un (frs X.stack) fp H₂ H3 s₂.heap s4.heap:=I4.base
   have u4:Un (frs X.stack) fp H₂ (upd H3 D (.lst ys)) s₂.heap s4.heap:={
    keep:=b4.keep
    slot:=b4.slot
    free:=fun b o e n hx=>by
     rw [aJ (below b (Heap.lt_size e)).2]
     exact b4.free b o e n hx
    there:=b4.there
    tups:=fun b xs e=>by
     have z:=b4.tups b xs e
     rw [aJ (aH z pD4.2.1)]
     exact z
    frzs:=fun b o u e=>by
     have z:=b4.frzs b o u e
     rw [aJ (aH z pD4.2.1)]
     exact z
    tbls:=fun b ps e=>by
     obtain ⟨more,z⟩:=b4.tbls b ps e
     exact ⟨more,by rw [aJ (aH z pD4.2.1)];exact z⟩ }
   have hok4:HOk X.prog X.w (upd H3 D (.lst ys)) s4.heap:=fun b u e=>by
    by_cases hb:b = D
    ·subst hb
     rw [aF] at e
     cases e
     exact ⟨hz,its,k,rv,pD4.1⟩
    ·rw [aJ hb] at e
     exact (I4.hok b u e).stay (fun c v _ q=>q) (fun c q=>by rw [aJ (aH q pD4.2.1)];exact q) fun c xs q=>by rw [aJ (aH q pD4.2.1)];exact q
   have I5:Inv X pins σ (upd H3 D (.lst ys)) s4:=I₂.call' I4.os u4 hok4 I4.bare fun b hb=>⟨(hf b hb).2.2.2.1,(hf b hb).2.1,(hf b hb).2.2.2.2.1,(hf b hb).2.2.2.2.2⟩
   refine hRR D C s4 H3 ys pD4.2.1 qn I5 ?_
   obtain ⟨m,hn,_⟩:=I4.loc
   exact ⟨⟨m,hn⟩,by rw [aJ (Ne.symm hDC)];exact I4.free,fun z=>absurd I₂.lt (by rw [← z];exact Nat.not_lt.mpr hCle),Nat.le_trans I₂.sz hCle,fun x c e=>Nat.ne_of_lt (Nat.lt_of_lt_of_le (celllt x c e) hCle),fun p hp=>Nat.ne_of_lt (Nat.lt_of_lt_of_le (pinlt p hp) hCle)⟩
  ·-- a turn
   refine wpAny_mono (T.item (blk X scope N' R) rfl rfl rfl hc i _ s3 _ H3 (fun _ _=>False) I3 (stat fr3) st3 go) (fun r s4 ⟨u,hr,h4⟩=>?_) fun _ _ z=>z.elim
   subst hr
   refine wpAny_mono h4 (fun _ s5 ⟨x,H5,I5,r5,y5,st5,fr5⟩=>?_) fun _ _ z=>z.elim
   have I5':=I5.pinned (stat fr5) (T.obj _ _ st5)
   refine wpAny_mono (hg R _ s5 _ H5 x u _ I5' r5 (hgk _ _ _ _ (step x H5 y5))) (fun _ s6 ⟨σ6,H6,I6,q6,l6,k6⟩=>?_) fun _ _ z=>z.elim
   refine wpAny_mono (ht R _ s6 σ6 H6 _ I6 q6) (fun ok s7 ⟨H7,I7,q7⟩=>?_) fun _ _ z=>z.elim
   have weak:∀ {H8:Hp} {s8:Shared} {ps:List (Addr × Obj)},Inv (blk X scope N' R) ps σ6 H8 s8 → Inv (blk X scope N' R) ps (jO nt cap σ) H8 s8:=fun I8=>I8.weak (by rw [l6]) fun j v e=>by
    obtain ⟨_,hj,_,_⟩:=rQ e
    rw [k6 j hj]
    exact e
   have tnK:∀ {H8:Hp} {s8:Shared} {σ8:St},Inv (blk X scope N' R) ([(D,{ cls:=.type "list",data:=.seq its.toArray k })] ++ jF fp s5.heap) σ8 H8 s8 → tn (i + 1) s8.heap ∧ ∀ b ∈ fp,H8 b = none:=fun {H8 s8 σ8} I8 =>
    ⟨T.keep _ _ _ st5 fun b hb o e=>(I8.pin (b,o) (List.mem_append_right _ (List.mem_append_right _ (iQ hb e)))).1,fun b hb=>by
     obtain ⟨o,e,_⟩:=T.obj _ _ st5 b hb
     exact (I8.pin (b,o) (List.mem_append_right _ (List.mem_append_right _ (iQ hb e)))).2.1⟩
   cases ok with
   | false =>
    rw [if_neg Bool.false_ne_true] at q7 ⊢
    obtain ⟨m',hm,w7⟩:=q7
    exact ⟨m',hm,i + 1,ys,H7,its,k,weak I7.unpinned,(tnK I7).1,(tnK I7).2,rv,hz,w7⟩
   | true =>
    rw [if_pos rfl] at q7 ⊢
    refine wpAny_mono (he R _ s7 σ6 H7 _ I7 q7) (fun xv s8 ⟨y,H8,I8,ry,q8⟩=>?_) fun _ _ z=>z.elim
    obtain ⟨m',hm,w8⟩:=q8
    have pD8:=I8.pin (D,{ cls:=.type "list",data:=.seq its.toArray k }) (by simp)
    have hsz:its.toArray.size ≤ sizeLine:=by rw [List.size_toArray,← rv.length];omega
    refine wpAny_list_append_plain (hsz:=hsz) ⟨k,pD8.1⟩ fun h9 hl9 hs9=>?_
    obtain ⟨k9,hl9⟩:=hl9
    have tn8:=tnK I8
    have I8':Inv (blk X scope N' R) (jF fp s5.heap) (jO nt cap σ) H8 s8:=(weak I8).pins_of fun p hp=>I8.pin p (List.mem_append_right _ (List.mem_append_right _ hp))
    have I9:Inv (blk X scope N' R) (jF fp s5.heap) (jO nt cap σ) H8 { s8 with heap:=h9 }:=I8'.turned (it:=D) (t':=s8.toks) (fun b o hb e=>hs9.extBut b o hb e) pD8.2.1 pD8.2.2.1 (.inr hDle)
     (fun x c e=>Nat.ne_of_lt (Nat.lt_of_lt_of_le (celllt x c (hclk x c e)) hDle)) fun p hp=>by
      have hp':p ∈ jF fp s5.heap:=by simpa using hp
      exact Nat.ne_of_lt (Nat.lt_of_lt_of_le (fplt p.1 (qX hp').1) hDle)
    have e9:h9.get? D = some { cls:=.type "list",data:=.seq (its ++ [xv]).toArray k9 }:=by
     rw [hl9]
     simp
    refine ⟨m',hm,i + 1,ys ++ [y],H8,its ++ [xv],k9,I9.pins_of fun p hp=>?_,T.keep _ _ _ tn8.1 fun b hb o e=>hs9.extBut b o (Nat.ne_of_lt (Nat.lt_of_lt_of_le (fplt b hb) hDle)) e,tn8.2,rv.append (.cons ry .nil),by rw [List.length_append];exact hlt,w8⟩
    have e:p = (D,{ cls:=.type "list",data:=.seq (its ++ [xv]).toArray k9 }):=by simpa using hp
    subst e
    exact ⟨e9,pD8.2.1,pD8.2.2.1,pD8.2.2.2.1,fun v z=>by cases z⟩
 exact codeAny_compStart_list (loop _) (T.self _ 0 _ _ _ (T.keep _ _ _ st fun b hb o e=>old b o e) (loop _))
def aDT (nt:Nat) (cap:List Nat) (wi:TI) (g:TG) (tt:TT) (te:TE):TE:=fun σ H Q=>wi σ H fun J H1=>∃ W:CW,(∃ m,W 0 m [] H1) ∧ ∀ i m ys H,W i m ys H → qS (jO nt cap σ) J g tt te W (fun ys H'=>∀ p,H' p = none → Q (.ref p) (upd H' p (.lst ys))) i m ys H
theorem gW {α:Type} {l:List α} {p:α → Bool} (h:l.all p = true):∀ x ∈ l,p x = true:=fun x hx=>List.all_eq_true.mp h x hx
theorem dZ {X:Cx} {elt iter tg:Expr} {ifs:List Expr} {scope:Scope} {pos:Pos} {wi:TI} {g:TG} {tt:TT} {te:TE} (N':List Str) (nt:Nat) (cap:List Nat)
  (hc:X.calm = true) (hi:PI X tg iter wi) (hg:∀ R,PG (blk X scope N' R) tg g) (hgk:uR nt g) (ht:∀ R,aBU (blk X scope N' R) ifs tt) (he:∀ R,PE (blk X scope N' R) elt te)
  (hcell:(scope.names.all fun y=>!(y.2 == .cell)) = true:=by rfl) (hkind:scope.kind = .function:=by rfl)
  (hnames:(scope.names.all fun y=>!(y.2 == .local) || (scope.names.lookup y.1 == some .local)) = true:=by rfl)
  (hfr:(scope.names.all fun y=>!(y.2 == .free) || (X.env.kindOf y.1 == some .cell || X.env.kindOf y.1 == some .free)) = true:=by rfl)
  (hN:N'.length = nt + cap.length:=by rfl) (hcapN:(cap.map fun j=>X.N[j]?) = (N'.drop nt).map some:=by rfl) (hcapF:((N'.drop nt).all fun x=>scope.names.lookup x == some .free) = true:=by rfl)
  (hs:∀ x,foldedSetIterable iter X.env x = pure x:=by intro _;rfl) :
  PE X (.ListComp elt [⟨tg,iter,ifs,0⟩] scope pos) (aDT nt cap wi g tt te):=by
 intro pins s σ H Q I h
 have hfr':∀ y ∈ scope.names,y.2 = .free → (X.env.kindOf y.1 = some .cell ∨ X.env.kindOf y.1 = some .free):=fun y hy e=>by
  have z:=gW hfr y hy
  rw [e] at z
  have z':(X.env.kindOf y.1 == some .cell || X.env.kindOf y.1 == some .free) = true:=z
  rcases Bool.or_eq_true_iff.mp z' with q | q
  ·exact .inl (beq_iff_eq.mp q)
  ·exact .inr (beq_iff_eq.mp q)
 have hcell':∀ y ∈ scope.names,y.2 ≠ .cell:=fun y hy e=>by
  have z:=gW hcell y hy
  rw [e] at z
  cases z
 obtain ⟨cl,hcl,hclk,hclh⟩:=pY (scope:=scope) (env:=X.env) fun y hy e=>I.ok.has y.1 (hfr' y hy e)
 have hnames':∀ y ∈ scope.names,y.2 = .local → scope.names.lookup y.1 = some .local:=fun y hy e=>by
  have z:=gW hnames y hy
  rw [e] at z
  exact beq_iff_eq.mp z
 have hcapN':∀ (k j:Nat),cap[k]? = some j → N'[nt + k]? = X.N[j]?:=fun k j e=>by
  have z:=congrArg (fun l:List (Option Str)=>l[k]?) hcapN
  simp only [List.getElem?_map,e,Option.map_some,List.getElem?_drop] at z
  cases q:N'[nt + k]? with
  | none=>rw [q] at z;cases z
  | some x=>rw [q] at z;exact (Option.some.inj z).symm
 rw [eval_ListComp]
 refine wpAny_comprehension_free (use:=none) rfl hs hcl hkind hnames' (thn (hi pins s σ H _ I h) fun v s1 h1=>thn h1 fun itv s2 h2=>?_)
 obtain ⟨it,fp,tn,J,H2,e,I2,T,st2,f2,hw⟩:=h2
 subst e
 refine pV (RR:=fun acc C=>compPost (model X.prog X.w) X.A X.xe none (EP X pins σ Q) acc C) hc I2 T st2 f2 hclk hclh hcell' hkind hfr' hN hcapN' (fun x hx=>beq_iff_eq.mp (gW hcapF x hx)) hg hgk ht he hw ?_
 intro D C s' H' ys hD q I' B
 obtain ⟨m,hn⟩:=B.ns
 refine ⟨m,hn,fun h' hs'=>⟨.ref D,_,I'.turned (it:=C) (t':=s'.toks) (fun b o hb e=>hs'.extBut b o hb e) B.fr B.ne (.inr B.ab) B.cl B.pn,rfl,q D hD⟩⟩
end L2
namespace L2
open PySem PySem.Spec PyProof.Rows
section
variable {X:Cx}
def aDJ:V → Option Value
 | .ty n=>some (.type n)
 | .ref a=>some (.ref a)
 | _=>none
theorem uN {y:V} {c u:Value} (h:aDJ y = some c) (r:aZ y u):u = c:=by
 cases y with
 | ty n=>cases h;exact r
 | ref a=>cases h;exact r
 | non=>cases h
 | bl b=>cases h
 | int i=>cases h
 | str x=>cases h
 | byt b=>cases h
 | flt b=>cases h
theorem uP:dU X (.builtin "isinstance") (fun xs H Q=>∃ x y c t b,xs = [x,y] ∧ aDJ y = some c ∧ TyOf X.K H x t ∧ PySem.W.kitOne X.K t c = some b ∧ Q (.bl b) H):=by
 intro pins s σ H xs us Q I r h
 obtain ⟨x,y,c,t,b,rfl,hc,ty,e,q⟩:=h
 obtain ⟨u,v,rfl,ru,rv⟩:=aY.two r
 obtain rfl:=uN hc rv
 exact xU I ru ty e fun tk=>⟨.bl b,H,I.tok tk,rfl,q⟩
theorem mW:∀ {bs:List Bool} {us:List Value},aY (bs.map V.bl) us → LSm.BoolsAre us bs
 | [],us,r=>by
  rw [List.map_nil] at r
  cases r
  exact .nil
 | b :: bs,us,r=>by
  rw [List.map_cons] at r
  cases r with
  | cons r1 r2 =>
   cases r1
   exact .cons b (mW r2)
theorem lK (hc:X.calm = true):dU X (.builtin "all") (fun xs H Q=>∃ (p:Addr) (bs:List Bool),xs = [.ref p] ∧ SqL X.K H p (bs.map V.bl) ∧ Q (.bl (bs.all id)) H):=by
 intro pins s σ H xs us Q I r h
 obtain ⟨p,bs,rfl,hq,q⟩:=h
 obtain ⟨u,rfl,ru⟩:=aY.one r
 cases ru
 obtain ⟨its,rv,pl,hz⟩:=I.list hq
 obtain ⟨m,F⟩:=I.fr
 have hb:=mW rv
 have hl:=pl.isList
 have hlt:p < s.heap.objs.size:=by obtain ⟨_,e,_⟩:=hl;exact Heap.lt_size e
 refine call_all_walk (wpAny_pyIter_list hl ?_)
 refine ⟨s.heap.objs.size,[s.heap.objs.size,p],[s.heap.objs.size],its.toArray.size,_,_,fun i=>(bs[i]?).getD true,rfl,Walks.list (A:=X.A.in1) (I.ok.hd hc) _ p (Nat.ne_of_lt hlt) its.toArray,
  ⟨⟨_,Heap.get?_push_size _ rfl,rfl,rfl⟩,hl.push _⟩,fun i v s' Q' E' hP hQ=>?_,fun h' tk hk=>?_⟩
 ·obtain ⟨b,e,rfl⟩:=hb.get i v (by simpa using hP)
  simp only [e,Option.getD_some] at hQ
  exact wpAny_truthy_bool hQ
 ·have e:((List.range its.toArray.size).all fun i=>(bs[i]?).getD true) = bs.all id:=by
   rw [List.size_toArray,hb.length];exact LSm.range_all bs
  rw [e]
  exact ⟨.bl _,H,I.kept (LSm.kept_iter hk),rfl,q⟩
theorem zK:SlR X (fun x lo hi H Q=>∃ z,x = .str z ∧ z.length ≤ sizeLine ∧ Q (.str (Txt.slice z lo hi)) H):=by
 intro pins s σ H x v vl vu lo hi sl Q I rx hs pl pu h
 obtain ⟨z,rfl,hz,q⟩:=h
 obtain ⟨t,rfl⟩:=rx
 refine ⟨"str",_,F.slot_str_getitem.lookup,typeIs_str _ _ _,?_⟩
 have fin:∀ (t':Tok) (k:Nat),EP X pins σ Q (.str (Txt.slice z lo hi) t') { s with toks:=k }:=fun t' k=>⟨.str _,H,I.tok k,⟨t',rfl⟩,q⟩
 cases pl with
 | none =>
  cases pu with
  | none=>exact wpAny_getItem_str_slice (l:=none) (u:=none) (st:=none) hs rfl (post_val_or_str ⟨Nat.le_trans (Txt.slice_le z _ _) hz,fun t' k=>fin t' k⟩)
  | int j uj=>exact wpAny_getItem_str_slice (l:=none) (u:=some (j,uj)) (st:=none) hs rfl (post_val_or_str ⟨Nat.le_trans (Txt.slice_le z _ _) hz,fun t' k=>fin t' k⟩)
 | int i ui =>
  cases pu with
  | none=>exact wpAny_getItem_str_slice (l:=some (i,ui)) (u:=none) (st:=none) hs rfl (post_val_or_str ⟨Nat.le_trans (Txt.slice_le z _ _) hz,fun t' k=>fin t' k⟩)
  | int j uj=>exact wpAny_getItem_str_slice (l:=some (i,ui)) (u:=some (j,uj)) (st:=none) hs rfl (post_val_or_str ⟨Nat.le_trans (Txt.slice_le z _ _) hz,fun t' k=>fin t' k⟩)
theorem fE:OpR X (binaryOp .Mult) (fun x y H Q=>∃ z n,x = .str z ∧ y = .int n ∧ z.length ≤ 16 ∧ n ≤ 1048576 ∧ -(2 ^ 63) ≤ n ∧ Q (.str (Txt.mul z n)) H):=by
 intro pins s σ H x y v u Q I rx ry h
 obtain ⟨z,n,rfl,rfl,h1,h2,h3,q⟩:=h
 obtain ⟨t,rfl⟩:=rx
 obtain ⟨t',rfl⟩:=ry
 exact SB.mul (mulOk_of 16 1048576 h1 h2 h3 (by decide) (by decide)) fun t'' k=>⟨.str _,H,I.tok k,⟨t'',rfl⟩,q⟩
theorem bA:OpR X (binaryOp .FloorDiv) (rI (fun _ j=>0 < j ∧ j.natAbs.log2 < 9000) fun i j=>.int (i / j)):=opI fun i j _ _ _ _ _ hc q=>by
 have h1:(0:Int) < j:=hc.1
 exact floordiv_int (by omega) (by rw [Int.fdiv_eq_ediv_of_nonneg i (by omega)];exact q) (.inl (PyProof.noPylong_of_log2 hc.2))
def Its (x:Str):It where
 go:=fun i _=>i < x.cps.size
 yld:=fun i H v H'=>H' = H ∧ ∃ c,x.cps[i]? = some c ∧ v = .str ⟨#[c]⟩
 stop:=fun i _=>i = x.cps.size
theorem tF {P:Program} {w:World} {K:PySem.W.Frag} {tg:Expr} (it:Addr) (x:Str) (t:Tok) (ty:String)
  (W:∀ A:Around,A.handled = none → Walks P w A it [it] [it] x.cps.size (SignAt x) (fun i h=>h.IsStrIter it ty x t i))
  (hn:["enumerate","zip","dict_itemiterator","dict_reverseitemiterator","odict_iterator","itertools.zip_longest","itertools.pairwise"].contains ty = false)
  (self:∀ (A:Around) (i:Nat) (s:Shared) (Q:Value → Shared → Prop) (E:Value → Shared → Prop),s.heap.IsStrIter it ty x t i → Q (.ref it) s → wpAny (model P w) A (pyIter (.ref it)) Q E s) :
  Turn P w K tg (Its x) [it] it (fun i h=>h.IsStrIter it ty x t i) where
 mem:=by simp
 obj:=fun i h st b hb=>by
  have e:b = it:=by simpa using hb
  subst e
  obtain ⟨o,e,c,d⟩:=st
  exact ⟨o,e,fun v z=>by rw [d] at z;cases z⟩
 keep:=fun i h h' st k=>let ⟨o,ho,r⟩:=st;⟨o,k it (by simp) o ho,r⟩
 item:=by
  intro X hP hw hK hc i pins s σ H E I hf st hg
  subst hP hw hK
  obtain ⟨f0,f1,f2,f3,f4,f5⟩:=hf it (by simp)
  refine (W X.A (I.ok.hd hc)).item i s _ _ hg st fun v h' tk hv st' kk=>?_
  obtain ⟨c,u,hx,rfl⟩:=hv
  have I1:Inv X pins σ H { s with heap:=h',toks:=tk }:=I.turned (fun b o hb e=>kk b o (by simpa using hb) e) f0 f1 f3 f4 f5
  obtain ⟨o,e,cc,d⟩:=id st'
  exact ⟨_,rfl,wZ (s:={ s with heap:=h',toks:=tk }) e cc d hn ⟨.str ⟨#[c]⟩,H,I1,⟨u,rfl⟩,⟨rfl,c,hx,rfl⟩,st',fun b hb=>(hf b hb).1⟩⟩
 done:=by
  intro X hP hw hK hc i pins s σ H E I hf st hg
  subst hP hw hK
  obtain ⟨f0,f1,f2,f3,f4,f5⟩:=hf it (by simp)
  have hg':i = x.cps.size:=hg
  subst hg'
  exact (W X.A (I.ok.hd hc)).done s _ _ st fun h' tk kk=>⟨rfl,I.turned (fun b o hb e=>kk b o (by simpa using hb) e) f0 f1 f3 f4 f5⟩
 self:=self
def aIA (tl:TE):TI:=fun σ H R=>tl σ H fun x H1=>∃ z,x = .str z ∧ R (Its z) H1
theorem aEW {tg l:Expr} {tl:TE} (hl:PE X l tl):PI X tg l (aIA tl):=by
 intro pins s σ H R I h
 refine thn (hl pins s σ H _ I h) fun v s1 ⟨x,H1,I1,r1,q1⟩=>?_
 obtain ⟨z,e,q⟩:=q1
 subst e
 obtain ⟨t,rfl⟩:=r1
 have fp:∀ b ∈ [s1.heap.objs.size],tD X pins H1 b:=fun b hb=>by
  have e:b = s1.heap.objs.size:=by simpa using hb
  subst e
  exact I1.fpOk (Nat.le_refl _) (I1.hok.fresh (Nat.le_refl _))
 cases ha:z.cps.all (· < 128)
 ·refine wpAny_pyIter_wide ha ?_
  exact ⟨s1.heap.objs.size,[s1.heap.objs.size],_,_,H1,rfl,I1.kept (t':=s1.toks) fun b o e=>Heap.get?_push_of_some _ e,tF _ z t "str_iterator" (fun A hA=>Walks.strWide hA _ z t) (by decide) (fun A i s Q E st h=>wpAny_pyIter_striter_wide st h),
   ⟨_,Heap.get?_push_size _ rfl,rfl,rfl⟩,fp,q⟩
 ·refine wpAny_pyIter_ascii ha ?_
  exact ⟨s1.heap.objs.size,[s1.heap.objs.size],_,_,H1,rfl,I1.kept (t':=s1.toks) fun b o e=>Heap.get?_push_of_some _ e,tF _ z t "str_ascii_iterator" (fun A hA=>Walks.strAscii hA _ z t) (by decide) (fun A i s Q E st h=>wpAny_pyIter_striter_ascii st h),
   ⟨_,Heap.get?_push_size _ rfl,rfl,rfl⟩,fp,q⟩
end
theorem aBP {σb:St} {x:Str} {g:TG} {tt:TT} {te:TE} {fin:List V → Hp → Prop} {H:Hp} (hz:x.cps.size ≤ sizeLine) (Pv:Nat → List V → Hp → Prop) (h0:Pv 0 [] H) (hl:∀ i ys H,Pv i ys H → ys.length ≤ i)
  (hs:∀ i c ys H (K:VK) (K':Hp → Prop),x.cps[i]? = some c → Pv i ys H → (∀ y H4,Pv (i + 1) (ys ++ [y]) H4 → K y H4) → (∀ H3,Pv (i + 1) ys H3 → K' H3) →
   g (.str ⟨#[c]⟩) σb H fun σ2 H2=>tt σ2 H2 fun b H3=>if b = true then te σ2 H3 K else K' H3)
  (hd:∀ ys H,Pv x.cps.size ys H → fin ys H):∃ W:CW,(∃ m,W 0 m [] H) ∧ ∀ i m ys H,W i m ys H → qS σb (Its x) g tt te W fin i m ys H:=by
 refine ⟨fun i m ys H=>m = x.cps.size - i ∧ i ≤ x.cps.size ∧ Pv i ys H,⟨x.cps.size,by simp,Nat.zero_le _,h0⟩,?_⟩
 rintro i m ys H ⟨rfl,hi,p⟩
 by_cases hlt:i < x.cps.size
 ·refine .inr ⟨hlt,?_,fun v H' y=>?_⟩
  ·have:=hl i ys H p;omega
  ·obtain ⟨e,c,hx,rfl⟩:=y
   subst e
   exact hs i c ys _ _ _ hx p (fun y H4 q=>⟨x.cps.size - (i + 1),by omega,rfl,hlt,q⟩) fun H3 q=>⟨x.cps.size - (i + 1),by omega,rfl,hlt,q⟩
 ·have e:i = x.cps.size:=by omega
  subst e
  exact .inl ⟨rfl,hd ys H p⟩
theorem cL {F:PySem.W.Frag} {a:Addr} {xs:List V} {σb:St} {g:TG} {tt:TT} {te:TE} {fin:List V → Hp → Prop} {H:Hp} (hz:xs.length ≤ sizeLine) (Pv:Nat → List V → Hp → Prop) (h0:Pv 0 [] H)
  (hl:∀ i ys H,i ≤ xs.length → Pv i ys H → SqL F H a xs ∧ ys.length ≤ i)
  (hs:∀ i x ys H (K:VK) (K':Hp → Prop),xs[i]? = some x → Pv i ys H → (∀ y H4,Pv (i + 1) (ys ++ [y]) H4 → K y H4) → (∀ H3,Pv (i + 1) ys H3 → K' H3) →
   g x σb H fun σ2 H2=>tt σ2 H2 fun b H3=>if b = true then te σ2 H3 K else K' H3)
  (hd:∀ ys H,Pv xs.length ys H → fin ys H):∃ W:CW,(∃ m,W 0 m [] H) ∧ ∀ i m ys H,W i m ys H → qS σb (Itl F a) g tt te W fin i m ys H:=by
 refine ⟨fun i m ys H=>m = xs.length - i ∧ i ≤ xs.length ∧ Pv i ys H,⟨xs.length,by simp,Nat.zero_le _,h0⟩,?_⟩
 rintro i m ys H ⟨rfl,hi,p⟩
 obtain ⟨q,ql⟩:=hl i ys H hi p
 by_cases hlt:i < xs.length
 ·refine .inr ⟨⟨xs,xs[i],q,by simp [hlt]⟩,by omega,fun x H' y=>?_⟩
  obtain ⟨e,y⟩:=y
  subst e
  exact hs i x ys _ _ _ (y xs q) p (fun y H4 q=>⟨xs.length - (i + 1),by omega,rfl,hlt,q⟩) fun H3 q=>⟨xs.length - (i + 1),by omega,rfl,hlt,q⟩
 ·have e:i = xs.length:=by omega
  subst e
  exact .inl ⟨⟨xs,q,Nat.le_refl _⟩,hd ys H p⟩
theorem vV {lo:Int} {n:Nat} {σb:St} {g:TG} {tt:TT} {te:TE} {fin:List V → Hp → Prop} {H:Hp} (hz:n ≤ sizeLine) (Pv:Nat → List V → Hp → Prop) (h0:Pv 0 [] H) (hl:∀ i ys H,Pv i ys H → ys.length ≤ i)
  (hs:∀ i ys H (K:VK) (K':Hp → Prop),i < n → Pv i ys H → (∀ y H4,Pv (i + 1) (ys ++ [y]) H4 → K y H4) → (∀ H3,Pv (i + 1) ys H3 → K' H3) →
   g (.int (lo + i)) σb H fun σ2 H2=>tt σ2 H2 fun b H3=>if b = true then te σ2 H3 K else K' H3)
  (hd:∀ ys H,Pv n ys H → fin ys H):∃ W:CW,(∃ m,W 0 m [] H) ∧ ∀ i m ys H,W i m ys H → qS σb (Itr lo n) g tt te W fin i m ys H:=by
 refine ⟨fun i m ys H=>m = n - i ∧ i ≤ n ∧ Pv i ys H,⟨n,by simp,Nat.zero_le _,h0⟩,?_⟩
 rintro i m ys H ⟨rfl,hi,p⟩
 by_cases hlt:i < n
 ·refine .inr ⟨hlt,?_,fun v H' y=>?_⟩
  ·have:=hl i ys H p;omega
  ·obtain ⟨e,y⟩:=y
   subst e y
   exact hs i ys _ _ _ hlt p (fun y H4 q=>⟨n - (i + 1),by omega,rfl,hlt,q⟩) fun H3 q=>⟨n - (i + 1),by omega,rfl,hlt,q⟩
 ·have e:i = n:=by omega
  subst e
  exact .inl ⟨Nat.le_refl _,hd ys H p⟩
end L2
namespace L2
open PySem PySem.Spec PyProof.Rows
structure DefAt (K:PySem.W.Frag) (mg:Str → Option Value) (x:Str) (st:Stmt) (ps:List Str):Prop where
 ex:∃ (f:Addr) (fd:FuncData),Fun K x x st f fd ∧ fD K fd ps [] ∧ mg x = some (.ref f)
structure Fc (P:Program) (w:World) (K:PySem.W.Frag) (mg:Str → Option Value) (base:Heap) (k:Nat) (x:Str) (ps:List Str) (sp:Sp):Prop where
 ex:∃ (f:Addr) (fd:FuncData),FnOk P w K mg base CX0 k f fd ps sp ∧ fD K fd ps [] ∧ mg x = some (.ref f) ∧ PySem.W.keepIn K (.ref f) = true
section
variable {P:Program} {w:World} {K:PySem.W.Frag} {mg:Str → Option Value} {base:Heap}
theorem DefAt.fc {x:Str} {st:Stmt} {N ps:List Str} {k:Nat} {sp:Sp} (D:DefAt K mg x st ps) (S:FnScope N ps (aE st)) (len:∀ vs H Q E,sp vs H Q E → vs.length = ps.length)
  (hbody:∀ (f:Addr) (cdv:Value) (A:Around) (outer:List Env) (s:Shared) (H:Hp) (vs:List V) (Q:VK) (E:XK),Room k (A.deeper (envOfC x (aE st) s.heap.objs.size f cdv)) → sp vs H Q E →
   ∃ t,PSs (iT CX0 P w K mg base N x (aE st) f cdv A outer s H E).nox (aN st) t ∧ t { nx:=fun _ H'=>Q .non H',rt:=Q } (fW N vs) H):Fc P w K mg base (k + 1) x ps sp:=by
 obtain ⟨f,fd,F,b,m⟩:=D.ex
 exact ⟨f,fd,F.ok S len fun cdv A outer s H vs Q E hr h=>hbody f cdv A outer s H vs Q E hr h,b,m,F.kp⟩
theorem bO {h:Heap} {x:Str} {st:Stmt} {ps:List Str} {f:Addr} {oc:Value} {od an:Option Addr} {osl:Array (Option Value)} {kV doc pm cdv ct:Value} (X:K.In h) (G:h.Ns mainGlobals mg)
  (a:PySem.W.nsIn K mainGlobals x = some (some (.ref f))) (l:K.lookup f = some ⟨oc,od,.func (PySem.W.fnOf x x (aP st) (aN st) (aE st) .none kV doc pm an cdv ct),osl⟩)
  (c:PySem.W.codeIn K cdv x = true) (k:PySem.W.keepIn K (.ref f) = true)
  (hb:∀ (kV doc pm:Value) (an:Option Addr) (cdv ct:Value) (us:List Value),us.length = ps.length → bindArgs (PySem.W.fnOf x x (aP st) (aN st) (aE st) .none kV doc pm an cdv ct) ⟨us,[]⟩ = pure (ps.zip us)):DefAt K mg x st ps :=
 ⟨f,_,mF l c k,(mF l c k).binds hb,PySem.W.mg_of X G a⟩
end
section
variable {X:Cx} {k:Nat} {ps:List Str} {sp:Sp} {x:Str} {p pos:Pos} {e:Expr} {es:List Expr} {t:TA}
theorem bQ (F:Fc X.prog X.w X.K X.mg X.base k x ps sp) (hr:Room k X.A) (ha:PA X (e :: es) t) (hg:Gl X x:=by rfl) (hdb:(x == ("__debug__":Str)) = false:=by decide)
  (he:starEach (e :: es) X.env = (false,eval e X.env) :: starEach es X.env:=by rfl) (hpl:(backTo pos (starEach es X.env)).any (·.1) = false:=by rfl) :
  PE X (.Call (.Name x p) (e :: es) [] pos) (aDU sp [] E0 t):=by
 obtain ⟨f,fd,G,b,m,kp⟩:=F.ex
 exact aCK G hr hg m kp b .nil aAE ha hdb he hpl
end
def sp1 (f:V → Hp → VK → Prop):Sp:=fun vs H Q _=>∃ x,vs = [x] ∧ f x H Q
def sp2 (f:V → V → Hp → VK → Prop):Sp:=fun vs H Q _=>∃ x y,vs = [x,y] ∧ f x y H Q
def sp3 (f:V → V → V → Hp → VK → Prop):Sp:=fun vs H Q _=>∃ x y z,vs = [x,y,z] ∧ f x y z H Q
theorem jJ {f:V → Hp → VK → Prop}:∀ vs H Q E,sp1 f vs H Q E → vs.length = 1:=fun vs H Q E ⟨x,e,_⟩=>by rw [e];rfl
theorem kN {f:V → V → Hp → VK → Prop}:∀ vs H Q E,sp2 f vs H Q E → vs.length = 2:=fun vs H Q E ⟨x,y,e,_⟩=>by rw [e];rfl
theorem aAJ {f:V → V → V → Hp → VK → Prop}:∀ vs H Q E,sp3 f vs H Q E → vs.length = 3:=fun vs H Q E ⟨x,y,z,e,_⟩=>by rw [e];rfl
theorem aM:bootBuiltins "isinstance" = some (.builtin "isinstance"):=by decide +kernel
theorem kF:bootBuiltins "all" = some (.builtin "all"):=by decide +kernel
theorem bS:bootBuiltins "len" = some (.builtin "len"):=by decide +kernel
theorem rP:bootBuiltins "max" = some (.builtin "max"):=by decide +kernel
theorem rO:bootBuiltins "min" = some (.builtin "min"):=by decide +kernel
theorem rN:bootBuiltins "str" = some (.type "str"):=by decide +kernel
theorem dC:bootBuiltins "int" = some (.type "int"):=by decide +kernel
theorem pZ:bootBuiltins "bool" = some (.type "bool"):=by decide +kernel
theorem eS:bootBuiltins "list" = some (.type "list"):=by decide +kernel
theorem mV:bootBuiltins "tuple" = some (.type "tuple"):=by decide +kernel
theorem dS:bootBuiltins "dict" = some (.type "dict"):=by decide +kernel
theorem yJ:bootBuiltins "set" = some (.type "set"):=by decide +kernel
inductive Pl (K:PySem.W.Frag) (H:Hp):V → Prop where
 | non:Pl K H .non
 | bl (b:Bool):Pl K H (.bl b)
 | int (i:Int):Pl K H (.int i)
 | str (x:Str):Pl K H (.str x)
 | lst {a:Addr} {xs:List V} (e:H a = some (.lst xs)):Pl K H (.ref a)
 | frz {a:Addr} {o:Obj} {xs:List V} (e:H a = some (.frz o (.lst xs))):Pl K H (.ref a)
 | tup {a:Addr} {xs:List V} (e:H a = some (.tup xs)):Pl K H (.ref a)
 | dK {a:Addr} {kvs:List (Key × V)} (e:H a = some (.dK kvs)):Pl K H (.ref a)
theorem fP (K:PySem.W.Frag) (n:String):PySem.W.kitOne K (.type n) (.type n) = some true:=by
 unfold PySem.W.kitOne
 rw [if_pos (by simp)]
end L2
namespace L2
open PySem PySem.Spec PyProof.Rows
def hE (mg:Str → Option Value) (x:Str) (v:V):Prop:=∃ u,mg x = some u ∧ aZ v u
theorem qF {X:Cx} {x:Str} {v:V} {pos:Pos} (h:hE X.mg x v) (hg:Gl X x:=by rfl) (hd:(x == ("__debug__":Str)) = false:=by decide):PE X (.Name x pos) (tC v):=by
 obtain ⟨u,hm,r⟩:=h
 exact eQ hg hm r hd
theorem gT {K:PySem.W.Frag} {mg:Str → Option Value} {h:Heap} {x:Str} {v:V} {u:Value} (X:K.In h) (G:h.Ns mainGlobals mg) (a:PySem.W.nsIn K mainGlobals x = some (some u)) (r:aZ v u):hE mg x v:=⟨u,PySem.W.mg_of X G a,r⟩
end L2
namespace L2
open PySem PySem.Spec PyProof.Rows
def mI:HO → Bool
 | .lst _=>true
 | .dK _=>true
 | .set _ _=>true
 | .ext _=>true
 | .rng _ _=>true
 | _=>false
def fQ (H' H'':Hp):Prop:=∀ b,H'' b = H' b ∨ (H'' b = none ∧ ∃ o,H' b = some o ∧ mI o = true)
theorem fQ.refl (H:Hp):fQ H H:=fun _=>.inl rfl
theorem fQ.trans {H1 H2 H3:Hp} (a:fQ H1 H2) (b:fQ H2 H3):fQ H1 H3:=fun c=>by
 rcases b c with e | ⟨e,o,q,d⟩
 ·rcases a c with e' | ⟨e',o,q,d⟩
  ·exact .inl (e.trans e')
  ·exact .inr ⟨e.trans e',o,q,d⟩
 ·rcases a c with e' | ⟨e',_⟩
  ·exact .inr ⟨e,o,e' ▸ q,d⟩
  ·rw [e'] at q;cases q
theorem fQ.new {H:Hp} {p:Addr} {o:HO} (h:H p = none) (d:mI o = true):fQ (upd H p o) H:=fun b=>by
 by_cases hb:b = p
 ·subst hb
  exact .inr ⟨h,o,aF,d⟩
 ·exact .inl (aJ hb).symm
theorem fQ.lst {H:Hp} {p:Addr} {xs:List V} (h:H p = none):fQ (upd H p (.lst xs)) H:=fQ.new h rfl
def cO (Q:VK):VK:=fun v H'=>∃ H'',fQ H' H'' ∧ Q v H''
theorem cO.of {Q:VK} {v:V} {H H':Hp} (d:fQ H' H) (q:Q v H):cO Q v H':=⟨H,d,q⟩
theorem HOk.drop {P:Program} {w:World} {H' H'':Hp} {h:Heap} (d:fQ H' H'') (ok:HOk P w H' h):HOk P w H'' h:=fun b o e=>by
 have e':H' b = some o:=by
  rcases d b with z | ⟨z,_⟩
  ·exact z.symm.trans e
  ·rw [z] at e;cases e
 refine (ok b o e').stay (fun _ _ _ q=>q) (fun c q=>?_) fun c xs q=>?_
 ·rcases d c with z | ⟨_,o',z',dr⟩
  ·exact z.trans q
  ·rw [q] at z';cases z';cases dr
 ·rcases d c with z | ⟨_,o',z',dr⟩
  ·exact z.trans q
  ·rw [q] at z';cases z';cases dr
theorem Un.drop {fs ex:List Addr} {H H' H'':Hp} {h h':Heap} (d:fQ H' H'') (u:Un fs ex H H' h h'):Un fs ex H H'' h h' where
 keep:=u.keep
 slot:=u.slot
 free:=fun b o e n hx=>by
  rcases d b with z | ⟨z,_⟩
  ·exact z.trans (u.free b o e n hx)
  ·exact z
 there:=u.there
 tups:=fun b xs e=>by
  have q:=u.tups b xs e
  rcases d b with z | ⟨_,o',z',dr⟩
  ·exact z.trans q
  ·rw [q] at z';cases z';cases dr
 frzs:=fun b o v e=>by
  have q:=u.frzs b o v e
  rcases d b with z | ⟨_,o',z',dr⟩
  ·exact z.trans q
  ·rw [q] at z';cases z';cases dr
 tbls:=fun b ps e=>by
  obtain ⟨m,q⟩:=u.tbls b ps e
  rcases d b with z | ⟨_,o',z',dr⟩
  ·exact ⟨m,z.trans q⟩
  ·rw [q] at z';cases z';cases dr
theorem FnOk.drop {P:Program} {w:World} {K:PySem.W.Frag} {mg:Str → Option Value} {base:Heap} {k:Nat} {f:Addr} {fd:FuncData} {ps:List Str} {sp:Sp} (len:∀ vs H Q E,sp vs H Q E → vs.length = ps.length)
  (F:FnOk P w K mg base CX0 k f fd ps (fun vs H Qd E=>∃ Q,sp vs H Q E ∧ Qd = cO Q)):FnOk P w K mg base CX0 k f fd ps sp:=by
 refine ⟨len,fun A outer s H args us vs Q E hr he hb hv hs=>codeAny_mono (F.run A outer s H args us vs (cO Q) E hr he hb hv ⟨Q,hs,rfl⟩) fun r s' h=>?_⟩
 cases r with
 | error e=>exact h
 | ok fl =>
  cases fl with
  | ret u =>
   obtain ⟨v,H',os,bare,un,hok,rv,H'',d,q⟩:=h
   exact ⟨v,H'',os,bare,un.drop d,hok.drop d,rv,q⟩
  | next=>exact h
  | brk=>exact h
  | cont=>exact h
theorem DefAt.fcD {P:Program} {w:World} {K:PySem.W.Frag} {mg:Str → Option Value} {base:Heap} {x:Str} {st:Stmt} {N ps:List Str} {k:Nat} {sp:Sp} (D:DefAt K mg x st ps) (S:FnScope N ps (aE st)) (len:∀ vs H Q E,sp vs H Q E → vs.length = ps.length)
  (hbody:∀ (f:Addr) (cdv:Value) (A:Around) (outer:List Env) (s:Shared) (H:Hp) (vs:List V) (Q:VK) (E:XK),Room k (A.deeper (envOfC x (aE st) s.heap.objs.size f cdv)) → sp vs H Q E →
   ∃ t,PSs (iT CX0 P w K mg base N x (aE st) f cdv A outer s H E).nox (aN st) t ∧ t { nx:=fun _ H'=>cO Q .non H',rt:=cO Q } (fW N vs) H):Fc P w K mg base (k + 1) x ps sp:=by
 obtain ⟨f,fd,F,b,m⟩:=D.ex
 refine ⟨f,fd,FnOk.drop len (F.ok S (fun vs H Q E ⟨Q',h,_⟩=>len vs H Q' E h) fun cdv A outer s H vs Q E hr ⟨Q',h,e⟩=>?_),b,m,F.kp⟩
 subst e
 exact hbody f cdv A outer s H vs Q' E hr h
end L2
namespace L2
open PySem PySem.Spec PyProof.Rows
theorem aL.upd {H:Hp} {p:Addr} {o:HO} (h:H p = none):aL H (upd H p o):=fun b u e=>by
 rw [aJ (aH e h)]
 exact e
def wK (K:PySem.W.Frag):Sp:=sp1 fun x H Q=>∃ (a:Addr) (ns:List Int),x = .ref a ∧ SqL K H a (ns.map V.int) ∧ ns.length ≤ 63 ∧ ∀ H',Q (.bl true) H'
theorem walk_law {l:PySem.W.OpenLaw} {q:Program} {loose:List Str} {XP:(Str → Option Value) → Heap → Prop} {YP:World → Heap → Prop} {d:DefRec} {K:Params → PySem.W.Frag} (k:Nat) (hr:Room k callerA) (hn:l.most = some 63) (hdf:d.params.defaults = [])
  (hY:∀ (w:World) (h:Heap),YP w h → (K w.params).In h)
  (F:∀ (w:World) (mg:Str → Option Value) (fa:Addr) (h:Heap),(K w.params).In h → h.Ns mainGlobals mg → mg d.name = some (.ref fa) →
   ∃ fd:FuncData,(∀ (s:Shared) (u:Value),BindsTo s fd ⟨[u],[]⟩ [("_law_script",u)]) ∧ ∀ base:Heap,(K w.params).In base → base.Ns mainGlobals mg → FnOk l.prog w (K w.params) mg base CX0 k fa fd ["_law_script"] (wK (K w.params))) :
  PySem.W.WalkO q loose XP YP l.row.toRowW d [] (fun f vs=>PySem.call f vs) :=
 L2.walk_of (n:=63) (k:=k) (x:="_law_script") (CX:=fun _=>CX0) (sp:=fun w=>wK (K w.params)) hn (by decide) hdf hr hY F (fun _ _ a ns hl _ hS=>⟨_,rfl,a,ns,rfl,hS,hl,fun _=>rfl⟩) fun _ _ _ _ _ z=>z
end L2
namespace L2
open PySem PySem.Spec PyProof.Rows
theorem gR {X:Cx} {x:Str} {n:String} {pos:Pos} (hm:X.mg x = none) (hv:bootBuiltins x = some (.type n)) (hg:Gl X x:=by rfl) (hn:x ≠ "__name__":=by decide) (hd:(x == ("__debug__":Str)) = false:=by decide):PE X (.Name x pos) (tC (.ty n)) :=
 aCL hg hm hv rfl hn hd
end L2
namespace L2
theorem aV {n:Nat} (h:Nat.ble n 1000 = true):n ≤ PySem.sizeLine:=Nat.le_trans (Nat.le_of_ble_eq_true h) (by decide)
end L2
namespace L2
open PySem PySem.Spec PyProof.Rows
def Ite (K:PySem.W.Frag) (a:Addr):It where
 go:=fun i H=>∃ xs x,SqL K H a xs ∧ xs[i]? = some x
 yld:=fun i H v H'=>∃ p x,H p = none ∧ v = .ref p ∧ H' = upd H p (.tup [.int i,x]) ∧ ∀ ys,SqL K H a ys → ys[i]? = some x
 stop:=fun i H=>∃ xs,SqL K H a xs ∧ xs.length ≤ i
end L2
namespace L2
open PySem PySem.Spec PyProof.Rows
inductive Dv where
 | non | bl (b:Bool) | int (i:Int) | str (x:Str) | lst (ds:List Dv) | tup (ds:List Dv) | dct (ks:List Key) (ds:List Dv)
mutual
def Is (H:Hp):Dv → V → Prop
 | .non,v=>v = .non
 | .bl b,v=>v = .bl b
 | .int i,v=>v = .int i
 | .str x,v=>v = .str x
 | .lst ds,v=>∃ a vs,v = .ref a ∧ H a = some (.lst vs) ∧ IsL H ds vs
 | .tup ds,v=>∃ a vs,v = .ref a ∧ H a = some (.tup vs) ∧ IsL H ds vs
 | .dct ks ds,v=>∃ a vs,v = .ref a ∧ H a = some (.dK (ks.zip vs)) ∧ vs.length = ks.length ∧ IsL H ds vs
def IsL (H:Hp):List Dv → List V → Prop
 | [],vs=>vs = []
 | d :: ds,vs=>∃ v r,vs = v :: r ∧ Is H d v ∧ IsL H ds r
end
def aFK:HO → Bool
 | .lst _=>true
 | .tup _=>true
 | .dK _=>true
 | _=>false
def xF (H H':Hp):Prop:=∀ b o,H b = some o → aFK o = true → H' b = some o
mutual
theorem Is.sameD {H H':Hp} (S:xF H H'):∀ (d:Dv) (v:V),Is H d v → Is H' d v
 | .non,_,h=>h
 | .bl _,_,h=>h
 | .int _,_,h=>h
 | .str _,_,h=>h
 | .lst ds,_,⟨a,vs,e,o,h⟩=>⟨a,vs,e,S _ _ o rfl,IsL.sameD S ds vs h⟩
 | .tup ds,_,⟨a,vs,e,o,h⟩=>⟨a,vs,e,S _ _ o rfl,IsL.sameD S ds vs h⟩
 | .dct ks ds,_,⟨a,vs,e,o,l,h⟩=>⟨a,vs,e,S _ _ o rfl,l,IsL.sameD S ds vs h⟩
theorem IsL.sameD {H H':Hp} (S:xF H H'):∀ (ds:List Dv) (vs:List V),IsL H ds vs → IsL H' ds vs
 | [],_,h=>h
 | d :: ds,_,⟨v,r,e,h,t⟩=>⟨v,r,e,Is.sameD S d v h,IsL.sameD S ds r t⟩
end
theorem Is.same {H H':Hp} (S:aL H H') (d:Dv) (v:V) (h:Is H d v):Is H' d v:=Is.sameD (fun b o e _=>S b o e) d v h
theorem IsL.same {H H':Hp} (S:aL H H') (ds:List Dv) (vs:List V) (h:IsL H ds vs):IsL H' ds vs:=IsL.sameD (fun b o e _=>S b o e) ds vs h
mutual
def lF:Dv → Bool
 | .lst _=>false
 | .dct _ _=>false
 | .tup ds=>iF ds
 | _=>true
def iF:List Dv → Bool
 | []=>true
 | d :: ds=>lF d && iF ds
end
def jS (H H':Hp):Prop:=∀ a xs,H a = some (.tup xs) → H' a = some (.tup xs)
mutual
theorem Is.keep {H H':Hp} (S:jS H H'):∀ (d:Dv) (v:V),lF d = true → Is H d v → Is H' d v
 | .non,_,_,h=>h
 | .bl _,_,_,h=>h
 | .int _,_,_,h=>h
 | .str _,_,_,h=>h
 | .lst ds,_,f,_=>by cases f
 | .tup ds,_,f,⟨a,vs,e,o,h⟩=>⟨a,vs,e,S _ _ o,IsL.keep S ds vs f h⟩
 | .dct ks ds,_,f,_=>by cases f
theorem IsL.keep {H H':Hp} (S:jS H H'):∀ (ds:List Dv) (vs:List V),iF ds = true → IsL H ds vs → IsL H' ds vs
 | [],_,_,h=>h
 | d :: ds,_,f,⟨v,r,e,h,t⟩=>⟨v,r,e,Is.keep S d v (Bool.and_eq_true_iff.mp f).1 h,IsL.keep S ds r (Bool.and_eq_true_iff.mp f).2 t⟩
end
mutual
def deq:Dv → Dv → Bool
 | .non,.non=>true
 | .bl a,.bl b=>a == b
 | .bl a,.int b=>(if a then 1 else 0) == b
 | .int a,.bl b=>a == (if b then 1 else 0)
 | .int a,.int b=>a == b
 | .str a,.str b=>a == b
 | .lst a,.lst b=>qM a b
 | .tup a,.tup b=>qM a b
 | _,_=>false
def qM:List Dv → List Dv → Bool
 | [],[]=>true
 | a :: r,b :: q=>deq a b && qM r q
 | _,_=>false
end
mutual
def aR:Nat → Dv → Bool
 | _,.dct _ _=>false
 | 0,.lst _=>false
 | 0,.tup _=>false
 | n + 1,.lst ds=>cC n ds
 | n + 1,.tup ds=>cC n ds
 | _,_=>true
def cC:Nat → List Dv → Bool
 | _,[]=>true
 | n,d :: ds=>aR n d && cC n ds
end
mutual
theorem lI:∀ (n:Nat) (d:Dv),aR n d = true → deq d d = true
 | _,.non,_=>rfl
 | _,.bl b,_=>beq_self_eq_true b
 | _,.int i,_=>beq_self_eq_true i
 | _,.str x,_=>beq_self_eq_true x
 | 0,.lst ds,f=>by simp [aR] at f
 | 0,.tup ds,f=>by simp [aR] at f
 | n + 1,.lst ds,f=>mJ n ds (by simpa [aR] using f)
 | n + 1,.tup ds,f=>mJ n ds (by simpa [aR] using f)
 | n,.dct ks ds,f=>by simp [aR] at f
theorem mJ:∀ (n:Nat) (ds:List Dv),cC n ds = true → qM ds ds = true
 | _,[],_=>rfl
 | n,d :: ds,f=>by
  rw [cC,Bool.and_eq_true] at f
  show (deq d d && qM ds ds) = true
  rw [lI n d f.1,mJ n ds f.2];rfl
end
theorem IsL.length {H:Hp}:∀ {ds:List Dv} {vs:List V},IsL H ds vs → vs.length = ds.length
 | [],_,h=>by rw [show _ = [] from h];rfl
 | d :: ds,_,⟨v,r,e,_,t⟩=>by rw [e,List.length_cons,List.length_cons,IsL.length t]
mutual
theorem Is.inj {H:Hp}:∀ (d e:Dv) (v:V),Is H d v → Is H e v → (∃ n,aR n d = true) → (∃ n,aR n e = true) → d = e
 | .non,e,v,h,h',_,_=>by
  cases e <;> simp_all [Is]
 | .bl b,e,v,h,h',_,_=>by
  cases e <;> simp_all [Is]
 | .int b,e,v,h,h',_,_=>by
  cases e <;> simp_all [Is]
 | .str b,e,v,h,h',_,_=>by
  cases e <;> simp_all [Is]
 | .lst ds,e,v,⟨a,vs,q,o,h⟩,h',⟨n,f⟩,⟨m,g⟩=>by
  subst q
  cases e with
  | lst es =>
   obtain ⟨a',vs',q',o',h'⟩:=h'
   cases q'
   rw [o] at o'
   cases o'
   cases n with
   | zero=>simp [aR] at f
   | succ n =>
    cases m with
    | zero=>simp [aR] at g
    | succ m=>rw [IsL.inj ds es vs h h' ⟨n,by simpa [aR] using f⟩ ⟨m,by simpa [aR] using g⟩]
  | tup es =>
   obtain ⟨a',vs',q',o',h'⟩:=h'
   cases q'
   rw [o] at o'
   cases o'
  | dct ks es=>simp [aR] at g
  | _=>simp_all [Is]
 | .tup ds,e,v,⟨a,vs,q,o,h⟩,h',⟨n,f⟩,⟨m,g⟩=>by
  subst q
  cases e with
  | tup es =>
   obtain ⟨a',vs',q',o',h'⟩:=h'
   cases q'
   rw [o] at o'
   cases o'
   cases n with
   | zero=>simp [aR] at f
   | succ n =>
    cases m with
    | zero=>simp [aR] at g
    | succ m=>rw [IsL.inj ds es vs h h' ⟨n,by simpa [aR] using f⟩ ⟨m,by simpa [aR] using g⟩]
  | lst es =>
   obtain ⟨a',vs',q',o',h'⟩:=h'
   cases q'
   rw [o] at o'
   cases o'
  | dct ks es=>simp [aR] at g
  | _=>simp_all [Is]
 | .dct ks ds,e,v,_,h',⟨n,f⟩,_=>by simp [aR] at f
theorem IsL.inj {H:Hp}:∀ (ds es:List Dv) (vs:List V),IsL H ds vs → IsL H es vs → (∃ n,cC n ds = true) → (∃ n,cC n es = true) → ds = es
 | [],es,vs,h,h',_,_=>by
  rw [show vs = [] from h] at h'
  cases es with
  | nil=>rfl
  | cons e es=>obtain ⟨v,r,q,_⟩:=h';cases q
 | d :: ds,es,vs,⟨v,r,q,h,t⟩,h',⟨n,f⟩,⟨m,g⟩=>by
  subst q
  cases es with
  | nil=>cases (show v :: r = [] from h')
  | cons e es =>
   obtain ⟨v',r',q',h',t'⟩:=h'
   cases q'
   rw [cC,Bool.and_eq_true] at f g
   rw [Is.inj d e v h h' ⟨n,f.1⟩ ⟨m,g.1⟩,IsL.inj ds es r t t' ⟨n,f.2⟩ ⟨m,g.2⟩]
end
theorem IsL.get {H:Hp}:∀ {ds:List Dv} {vs:List V} {i:Nat} {d:Dv},IsL H ds vs → ds[i]? = some d → ∃ v,vs[i]? = some v ∧ Is H d v
 | [],_,_,_,_,e=>by simp at e
 | d :: ds,_,0,d',⟨v,r,e,h,t⟩,q=>by
  simp at q
  subst q e
  exact ⟨v,rfl,h⟩
 | d :: ds,_,i + 1,d',⟨v,r,e,h,t⟩,q=>by
  subst e
  obtain ⟨u,h1,h2⟩:=IsL.get (i:=i) t (by simpa using q)
  exact ⟨u,by simpa using h1,h2⟩
theorem kP:∀ (ds es:List Dv),ds.length = es.length → (List.range ds.length).all (fun j=>deq (ds.getD j .non) (es.getD j .non)) = qM ds es
 | [],[],_=>rfl
 | d :: ds,e :: es,h=>by
  have ih:=kP ds es (by simpa using h)
  rw [List.length_cons,List.range_succ_eq_map,List.all_cons,List.all_map]
  show (deq d e && (List.range ds.length).all (fun j=>deq (ds.getD j .non) (es.getD j .non))) = (deq d e && qM ds es)
  rw [ih]
 | [],_ :: _,h=>by simp at h
 | _ :: _,[],h=>by simp at h
theorem pU:∀ (ds es:List Dv),ds.length ≠ es.length → qM ds es = false
 | [],[],h=>absurd rfl h
 | d :: ds,e :: es,h=>by
  show (deq d e && qM ds es) = false
  rw [pU ds es (fun q=>h (by simp [q]))]
  simp
 | [],_ :: _,_=>rfl
 | _ :: _,[],_=>rfl
theorem jM:∀ {n:Nat} {ds:List Dv} {i:Nat} {d:Dv},cC n ds = true → ds[i]? = some d → aR n d = true
 | n,[],_,_,_,e=>by simp at e
 | n,d :: ds,0,d',f,e=>by
  simp at e
  subst e
  rw [cC,Bool.and_eq_true] at f
  exact f.1
 | n,d :: ds,i + 1,d',f,e=>by
  rw [cC,Bool.and_eq_true] at f
  exact jM (i:=i) f.2 (by simpa using e)
theorem IsL.snoc {H:Hp} {d:Dv} {v:V} (h:Is H d v):∀ {ds:List Dv} {vs:List V},IsL H ds vs → IsL H (ds ++ [d]) (vs ++ [v])
 | [],_,e=>by
  rw [show _ = [] from e]
  exact ⟨v,[],rfl,h,rfl⟩
 | d' :: ds,_,⟨v',r,e,h',t⟩=>by
  subst e
  exact ⟨v',r ++ [v],rfl,h',IsL.snoc h t⟩
theorem aL.over {H H':Hp} {l:Addr} {o:HO} (S:aL H H') (hl:H l = none):aL H (L2.upd H' l o):=fun b u e=>by
 rw [aJ (aH e hl)]
 exact S b u e
theorem pN {n:Nat}:∀ {ds:List Dv},(∀ d ∈ ds,aR n d = true) → cC n ds = true
 | [],_=>by rw [cC]
 | d :: ds,h=>by
  rw [cC,h d List.mem_cons_self,pN fun e m=>h e (List.mem_cons_of_mem _ m)]
  rfl
inductive View (s:Shared) (H:Hp):Dv → Value → Prop where
 | non:View s H .non .none
 | bl (b:Bool):View s H (.bl b) (.bool b)
 | int (i:Int) (t:Tok):View s H (.int i) (.int i t)
 | str (x:Str) (t:Tok):View s H (.str x) (.str x t)
 | lst {ds:List Dv} {l:Addr} {its:List Value} {vs:List V} (hl:s.heap.IsList l its.toArray) (r:aY vs its) (h:IsL H ds vs):View s H (.lst ds) (.ref l)
 | tup {ds:List Dv} {l:Addr} {its:List Value} {vs:List V} (hl:s.heap.IsTuple l its.toArray) (r:aY vs its) (h:IsL H ds vs):View s H (.tup ds) (.ref l)
section
variable {X:Cx} {pins:List (Addr × Obj)} {σ:St} {H:Hp} {s:Shared}
theorem Is.view (I:Inv X pins σ H s) {n:Nat} {d:Dv} {v:V} {u:Value} (f:aR n d = true) (h:Is H d v) (r:aZ v u):View s H d u:=by
 cases d with
 | non=>cases (show v = .non from h);cases r;exact .non
 | bl b=>cases (show v = .bl b from h);cases r;exact .bl b
 | int b=>cases (show v = .int b from h);obtain ⟨t,rfl⟩:=r;exact .int b t
 | str b=>cases (show v = .str b from h);obtain ⟨t,rfl⟩:=r;exact .str b t
 | lst ds =>
  obtain ⟨a,vs,rfl,o,h⟩:=h
  cases r
  obtain ⟨its,rv,pl,hz⟩:=I.list (SqL.of o)
  exact .lst pl.isList rv h
 | tup ds =>
  obtain ⟨a,vs,rfl,o,h⟩:=h
  cases r
  obtain ⟨its,rv,pl,hz⟩:=I.tuple (SqT.of o)
  exact .tup pl rv h
 | dct ks ds=>simp [aR] at f
open PySem.SeqAt in
theorem iR {n:Nat} {A:Around} (hu:A.units + n < cLine)
  (ih:∀ (d e:Dv) (v v':V) (u u':Value) (A:Around),A.units + n < cLine → aR n d = true → aR n e = true → Is H d v → Is H e v' → aZ v u → aZ v' u' → EqAt A s u u' (deq d e))
  {ds es:List Dv} {vs vs':List V} {its its':List Value} (f:cC n ds = true) (g:cC n es = true) (h:IsL H ds vs) (h':IsL H es vs') (r:aY vs its) (r':aY vs' its')
  (j:Nat) (h1:j < its.toArray.size) (h2:j < its'.toArray.size):EqAt A s its.toArray[j] its'.toArray[j] (deq (ds.getD j .non) (es.getD j .non)):=by
 have l1:=r.length
 have l2:=r'.length
 have l3:=h.length
 have l4:=h'.length
 rw [List.size_toArray] at h1 h2
 have e1:ds[j]? = some (ds.getD j .non):=by
  rw [List.getD_eq_getElem?_getD,List.getElem?_eq_getElem (by omega)];rfl
 have e2:es[j]? = some (es.getD j .non):=by
  rw [List.getD_eq_getElem?_getD,List.getElem?_eq_getElem (by omega)];rfl
 obtain ⟨v,q1,i1⟩:=h.get e1
 obtain ⟨v',q2,i2⟩:=h'.get e2
 obtain ⟨u,p1,k1⟩:=r.get q1
 obtain ⟨u',p2,k2⟩:=r'.get q2
 have z1:its.toArray[j] = u:=by
  have:=List.getElem?_eq_some_iff.mp p1
  obtain ⟨_,e⟩:=this
  simpa using e
 have z2:its'.toArray[j] = u':=by
  have:=List.getElem?_eq_some_iff.mp p2
  obtain ⟨_,e⟩:=this
  simpa using e
 rw [z1,z2]
 exact ih _ _ v v' u u' A hu (jM f e1) (jM g e2) i1 i2 k1 k2
open PySem.SeqAt in
theorem zS (I:Inv X pins σ H s) {n:Nat}
  (ih:∀ (d e:Dv) (v v':V) (u u':Value) (A:Around),A.units + n < cLine → aR n d = true → aR n e = true → Is H d v → Is H e v' → aZ v u → aZ v' u' → EqAt A s u u' (deq d e))
  (d e:Dv) (v v':V) (u u':Value) (A:Around) (hu:A.units + (n + 1) < cLine) (f:aR (n + 1) d = true) (g:aR (n + 1) e = true) (h:Is H d v) (h':Is H e v') (r:aZ v u) (r':aZ v' u') :
  RcAt A s u u' (deq d e) ∧ RcNeAt A s u u' (!deq d e):=by
 have hu0:A.units < cLine:=by omega
 have hu1:A.in1.units + n < cLine:=by show A.units + 1 + n < cLine;omega
 have w:=Is.view I f h r
 have w':=Is.view I g h' r'
 cases w with
 | non =>
  cases w' with
  | non=>exact ⟨RcAt.none_none,RcNeAt.none_none⟩
  | bl b=>exact ⟨RcAt.none_bool _,RcNeAt.none_bool _⟩
  | int b t=>exact ⟨RcAt.none_int _ _,RcNeAt.none_int _ _⟩
  | str b t=>exact ⟨RcAt.none_str _ _,RcNeAt.none_str _ _⟩
  | lst hl _ _=>exact ⟨RcAt.none_list hl hu0,RcNeAt.none_list hl hu0⟩
  | tup hl _ _=>exact ⟨RcAt.none_tuple hl hu0,RcNeAt.none_tuple hl hu0⟩
 | bl a =>
  cases w' with
  | non=>exact ⟨RcAt.bool_none _,RcNeAt.bool_none _⟩
  | bl b=>exact ⟨RcAt.bool_bool _ _,RcNeAt.bool_bool _ _⟩
  | int b t=>exact ⟨RcAt.bool_int _ _ _,RcNeAt.bool_int _ _ _⟩
  | str b t=>exact ⟨RcAt.bool_str _ _ _,RcNeAt.bool_str _ _ _⟩
  | lst hl _ _=>exact ⟨RcAt.bool_list _ hl hu0,RcNeAt.bool_list _ hl hu0⟩
  | tup hl _ _=>exact ⟨RcAt.bool_tuple _ hl hu0,RcNeAt.bool_tuple _ hl hu0⟩
 | int a t =>
  cases w' with
  | non=>exact ⟨RcAt.int_none _ _,RcNeAt.int_none _ _⟩
  | bl b=>exact ⟨RcAt.int_bool _ _ _,RcNeAt.int_bool _ _ _⟩
  | int b t=>exact ⟨RcAt.int_int _ _ _ _,RcNeAt.int_int _ _ _ _⟩
  | str b t=>exact ⟨RcAt.int_str _ _ _ _,RcNeAt.int_str _ _ _ _⟩
  | lst hl _ _=>exact ⟨RcAt.int_list _ _ hl hu0,RcNeAt.int_list _ _ hl hu0⟩
  | tup hl _ _=>exact ⟨RcAt.int_tuple _ _ hl hu0,RcNeAt.int_tuple _ _ hl hu0⟩
 | str a t =>
  cases w' with
  | non=>exact ⟨RcAt.str_none _ _,RcNeAt.str_none _ _⟩
  | bl b=>exact ⟨RcAt.str_bool _ _ _,RcNeAt.str_bool _ _ _⟩
  | int b t=>exact ⟨RcAt.str_int _ _ _ _,RcNeAt.str_int _ _ _ _⟩
  | str b t=>exact ⟨RcAt.str_str _ _ _ _,RcNeAt.str_str _ _ _ _⟩
  | lst hl _ _=>exact ⟨RcAt.str_list _ _ hl hu0,RcNeAt.str_list _ _ hl hu0⟩
  | tup hl _ _=>exact ⟨RcAt.str_tuple _ _ hl hu0,RcNeAt.str_tuple _ _ hl hu0⟩
 | @lst ds l its vs hl rv hi =>
  cases w' with
  | non=>exact ⟨RcAt.list_none hl hu0,RcNeAt.list_none hl hu0⟩
  | bl b=>exact ⟨RcAt.list_bool _ hl hu0,RcNeAt.list_bool _ hl hu0⟩
  | int b t=>exact ⟨RcAt.list_int _ _ hl hu0,RcNeAt.list_int _ _ hl hu0⟩
  | str b t=>exact ⟨RcAt.list_str _ _ hl hu0,RcNeAt.list_str _ _ hl hu0⟩
  | @lst es l' its' vs' hl' rv' hi' =>
   have f':cC n ds = true:=by simpa [aR] using f
   have g':cC n es = true:=by simpa [aR] using g
   have l1:=rv.length
   have l2:=rv'.length
   have l3:=hi.length
   have l4:=hi'.length
   by_cases hq:ds.length = es.length
   ·have hsz:its.toArray.size = its'.toArray.size:=by rw [List.size_toArray,List.size_toArray];omega
    have key:(List.range its.toArray.size).all (fun j=>deq (ds.getD j .non) (es.getD j .non)) = deq (.lst ds) (.lst es):=by
     rw [List.size_toArray,show its.length = ds.length by omega]
     exact kP ds es hq
    rw [← key]
    exact ⟨RcAt.lists hl hl' hsz hu0 (iR hu1 ih f' g' hi hi' rv rv'),RcNeAt.lists hl hl' hsz hu0 (iR hu1 ih f' g' hi hi' rv rv')⟩
   ·have key:deq (.lst ds) (.lst es) = false:=pU ds es hq
    have hsz:(its.toArray.size != its'.toArray.size) = true:=by
     rw [List.size_toArray,List.size_toArray,bne_iff_ne];omega
    rw [key]
    exact ⟨RcAt.lists_lengths hl hl' hsz hu0,RcNeAt.lists_lengths hl hl' hsz hu0⟩
  | tup hl' _ _=>exact ⟨RcAt.list_tuple hl hl' hu0,RcNeAt.list_tuple hl hl' hu0⟩
 | @tup ds l its vs hl rv hi =>
  cases w' with
  | non=>exact ⟨RcAt.tuple_none hl hu0,RcNeAt.tuple_none hl hu0⟩
  | bl b=>exact ⟨RcAt.tuple_bool _ hl hu0,RcNeAt.tuple_bool _ hl hu0⟩
  | int b t=>exact ⟨RcAt.tuple_int _ _ hl hu0,RcNeAt.tuple_int _ _ hl hu0⟩
  | str b t=>exact ⟨RcAt.tuple_str _ _ hl hu0,RcNeAt.tuple_str _ _ hl hu0⟩
  | lst hl' _ _=>exact ⟨RcAt.tuple_list hl hl' hu0,RcNeAt.tuple_list hl hl' hu0⟩
  | @tup es l' its' vs' hl' rv' hi' =>
   have f':cC n ds = true:=by simpa [aR] using f
   have g':cC n es = true:=by simpa [aR] using g
   have l1:=rv.length
   have l2:=rv'.length
   have l3:=hi.length
   have l4:=hi'.length
   have key:((List.range (min its.toArray.size its'.toArray.size)).all (fun j=>deq (ds.getD j .non) (es.getD j .non)) && its.toArray.size == its'.toArray.size) = deq (.tup ds) (.tup es):=by
    rw [List.size_toArray,List.size_toArray,show its.length = ds.length by omega,show its'.length = es.length by omega]
    show _ = qM ds es
    by_cases hq:ds.length = es.length
    ·rw [← hq,Nat.min_self,kP ds es hq]
     simp
    ·rw [pU ds es hq,beq_eq_false_iff_ne.mpr hq]
     simp
   rw [← key]
   exact ⟨RcAt.tuples hl hl' hu0 (iR hu1 ih f' g' hi hi' rv rv'),RcNeAt.tuples hl hl' hu0 (iR hu1 ih f' g' hi hi' rv rv')⟩
open PySem.SeqAt in
theorem Is.eqAt (I:Inv X pins σ H s):∀ (n:Nat) (d e:Dv) (v v':V) (u u':Value) (A:Around),A.units + n < cLine → aR n d = true → aR n e = true → Is H d v → Is H e v' → aZ v u → aZ v' u' → EqAt A s u u' (deq d e):=by
 intro n
 induction n with
 | zero =>
  intro d e v v' u u' A hu f g h h' r r'
  cases d with
  | lst _=>simp [aR] at f
  | tup _=>simp [aR] at f
  | dct _ _=>simp [aR] at f
  | non =>
   cases e with
   | lst _=>simp [aR] at g
   | tup _=>simp [aR] at g
   | dct _ _=>simp [aR] at g
   | _=>cases h;cases h';exact iS r r' rfl rfl
  | bl b =>
   cases e with
   | lst _=>simp [aR] at g
   | tup _=>simp [aR] at g
   | dct _ _=>simp [aR] at g
   | _=>cases h;cases h';exact iS r r' rfl rfl
  | int b =>
   cases e with
   | lst _=>simp [aR] at g
   | tup _=>simp [aR] at g
   | dct _ _=>simp [aR] at g
   | _=>cases h;cases h';exact iS r r' rfl rfl
  | str b =>
   cases e with
   | lst _=>simp [aR] at g
   | tup _=>simp [aR] at g
   | dct _ _=>simp [aR] at g
   | _=>cases h;cases h';exact iS r r' rfl rfl
 | succ n ih =>
  intro d e v v' u u' A hu f g h h' r r'
  have rc:=(zS I ih d e v v' u u' A hu f g h h' r r').1
  have w:=Is.view I f h r
  have w':=Is.view I g h' r'
  have fin:∀ (l l':Addr),u = .ref l → u' = .ref l' → EqAt A s u u' (deq d e):=by
   rintro l l' rfl rfl
   by_cases hq:l = l'
   ·subst hq
    have e1:v = .ref l:=r.inj (show aZ (.ref l) (.ref l) from rfl)
    have e2:v' = .ref l:=r'.inj (show aZ (.ref l) (.ref l) from rfl)
    subst e1 e2
    have e3:=Is.inj d e _ h h' ⟨_,f⟩ ⟨_,g⟩
    subst e3
    rw [lI _ d f]
    exact EqAt.same _
   ·exact EqAt.of_refs hq rc
  cases w with
  | lst hl _ _ =>
   cases w' with
   | lst hl' _ _=>exact fin _ _ rfl rfl
   | tup hl' _ _=>exact fin _ _ rfl rfl
   | non=>exact EqAt.list_none hl (by omega)
   | bl b=>exact EqAt.list_bool _ hl (by omega)
   | int b t=>exact EqAt.list_int _ _ hl (by omega)
   | str b t=>exact EqAt.list_str _ _ hl (by omega)
  | tup hl _ _ =>
   cases w' with
   | lst hl' _ _=>exact fin _ _ rfl rfl
   | tup hl' _ _=>exact fin _ _ rfl rfl
   | non=>exact EqAt.tuple_none hl (by omega)
   | bl b=>exact EqAt.tuple_bool _ hl (by omega)
   | int b t=>exact EqAt.tuple_int _ _ hl (by omega)
   | str b t=>exact EqAt.tuple_str _ _ hl (by omega)
  | non =>
   cases w' with
   | lst hl' _ _=>exact EqAt.none_list hl' (by omega)
   | tup hl' _ _=>exact EqAt.none_tuple hl' (by omega)
   | _=>cases h;cases h';exact iS r r' rfl rfl
  | bl b =>
   cases w' with
   | lst hl' _ _=>exact EqAt.bool_list _ hl' (by omega)
   | tup hl' _ _=>exact EqAt.bool_tuple _ hl' (by omega)
   | _=>cases h;cases h';exact iS r r' rfl rfl
  | int b t =>
   cases w' with
   | lst hl' _ _=>exact EqAt.int_list _ _ hl' (by omega)
   | tup hl' _ _=>exact EqAt.int_tuple _ _ hl' (by omega)
   | _=>cases h;cases h';exact iS r r' rfl rfl
  | str b t =>
   cases w' with
   | lst hl' _ _=>exact EqAt.str_list _ _ hl' (by omega)
   | tup hl' _ _=>exact EqAt.str_tuple _ _ hl' (by omega)
   | _=>cases h;cases h';exact iS r r' rfl rfl
end
def aCF (neg:Bool):R2:=fun x y H Q=>∃ d e,Is H d x ∧ Is H e y ∧ aR 30 d = true ∧ aR 30 e = true ∧ Q (.bl (if neg then !deq d e else deq d e)) H
theorem vB {X:Cx} (hu:X.A.units + 64 < cLine):OpR X (compareOp .Eq) (aCF false):=by
 intro pins s σ H x y v u Q I rx ry h
 obtain ⟨d,e,h,h',f,g,q⟩:=h
 exact (zS (n:=29) I (Is.eqAt I 29) d e x y v u X.A (by omega) f g h h' rx ry).1 _ _ _ _ ⟨.bl _,H,I,rfl,q⟩
theorem aEY {X:Cx} (hu:X.A.units + 64 < cLine):OpR X (compareOp .NotEq) (aCF true):=by
 intro pins s σ H x y v u Q I rx ry h
 obtain ⟨d,e,h,h',f,g,q⟩:=h
 exact (zS (n:=29) I (Is.eqAt I 29) d e x y v u X.A (by omega) f g h h' rx ry).2 _ _ _ _ ⟨.bl _,H,I,rfl,q⟩
end L2
namespace L2
open PySem PySem.Spec PyProof.Rows
instance keyMem (k:Key) (l:List Key):Decidable (k ∈ l):=decidable_of_iff (l.any (fun x=>decide (x = k)) = true) (by simp)
def cW (key:Nat → Key):Nat → List Key
 | 0=>[]
 | i + 1=>if key i ∈ cW key i then cW key i else cW key i ++ [key i]
theorem nN (key:Nat → Key):∀ i,(cW key i).length ≤ i
 | 0=>Nat.le_refl _
 | i + 1=>by
  have ih:=nN key i
  show (if key i ∈ cW key i then cW key i else cW key i ++ [key i]).length ≤ i + 1
  split
  ·omega
  ·rw [List.length_append,List.length_singleton];omega
theorem uB (key:Nat → Key) (k:Key):∀ i,k ∈ cW key i ↔ ∃ j,j < i ∧ key j = k
 | 0=>by
  constructor
  ·intro h;cases h
  ·rintro ⟨j,h,_⟩;omega
 | i + 1=>by
  have ih:=uB key k i
  show k ∈ (if key i ∈ cW key i then cW key i else cW key i ++ [key i]) ↔ _
  have step:(k ∈ cW key i ∨ k = key i) ↔ ∃ j,j < i + 1 ∧ key j = k:=by
   rw [ih]
   constructor
   ·rintro (⟨j,h,e⟩ | e)
    ·exact ⟨j,by omega,e⟩
    ·exact ⟨i,by omega,e.symm⟩
   ·rintro ⟨j,h,e⟩
    by_cases hj:j = i
    ·subst hj;exact .inr e.symm
    ·exact .inl ⟨j,by omega,e⟩
  rw [← step]
  split
  ·rename_i h
   constructor
   ·exact .inl
   ·rintro (h' | rfl)
    ·exact h'
    ·exact h
  ·rw [List.mem_append,List.mem_singleton]
theorem rA (key:Nat → Key):∀ n,(cW key n).length = n ↔ ∀ i j,i < j → j < n → key i ≠ key j
 | 0=>⟨fun _ i j _ h=>absurd h (Nat.not_lt_zero _),fun _=>rfl⟩
 | n + 1=>by
  have ih:=rA key n
  have le:=nN key n
  have mm:=uB key (key n) n
  show (if key n ∈ cW key n then cW key n else cW key n ++ [key n]).length = n + 1 ↔ _
  split
  ·rename_i h
   constructor
   ·intro e;omega
   ·intro e
    obtain ⟨j,hj,q⟩:=mm.mp h
    exact absurd q (e j n hj (Nat.lt_succ_self n))
  ·rename_i h
   rw [List.length_append,List.length_singleton,Nat.add_right_cancel_iff,ih]
   constructor
   ·intro e i j hi hj
    by_cases q:j = n
    ·subst q
     exact fun z=>h (mm.mpr ⟨i,hi,z⟩)
    ·exact e i j hi (by omega)
   ·intro e i j hi hj
    exact e i j hi (by omega)
def qN (ks:List Key):List Key:=cW (fun i=>ks.getD i (.inl 0)) ks.length
theorem yE (ks:List Key):(qN ks).length = ks.length ↔ ks.Nodup:=by
 unfold qN
 rw [rA,List.nodup_iff_pairwise_ne,List.pairwise_iff_getElem]
 constructor
 ·intro h i j hi hj hij
  have:=h i j hij hj
  simpa [List.getD_eq_getElem?_getD,hi,hj] using this
 ·intro h i j hij hj
  have hi:i < ks.length:=by omega
  have:=h i j hi hj hij
  simpa [List.getD_eq_getElem?_getD,hi,hj] using this
theorem aDH (ks:List Key):(qN ks).length ≤ ks.length:=nN _ _
def yM (P:Program) (w:World) (a:Addr) (S:Key → Bool) (n:Nat):HO:=.ext fun h=>h.SetOf (aS P w) a S n
theorem yM.ok {P:Program} {w:World} {H:Hp} {h:Heap} {a:Addr} {S:Key → Bool} {n:Nat} (x:h.SetOf (aS P w) a S n):bG P w H h a (yM P w a S n) :=
 ⟨x,let ⟨o,_,_,_,ho,_⟩:=x;⟨o,ho⟩,fun _ _ ⟨o,es,ep,t,ho,r⟩ k=>⟨o,es,ep,t,k o ho,r⟩⟩
theorem aAN {P:Program} {w:World} {k:Key} {v:Value} (h:(aS P w).is k v = true):v.scannable = true:=by
 rcases cB h with ⟨i,t,rfl,rfl⟩ | ⟨x,t,rfl,rfl⟩ <;> rfl
section
variable {P:Program} {w:World} {A:Around} {R:Result → Shared → Prop} {I:Addr} {fp wr:List Addr} {G:Array GenState → Array GenState → Prop} {n:Nat} {Pv:Nat → Value → Prop} {Stt:Nat → Shared → Prop}
theorem uX {h:Heap} {a:Addr} {S S':Key → Bool} {n n':Nat} (x:h.SetOf (aS P w) a S n) (e:∀ k,S k = S' k) (q:n = n'):h.SetOf (aS P w) a S' n':=by
 obtain rfl:S = S':=funext e
 subst q
 exact x
theorem zM (W:WalksS P w A.in1 I fp wr G n Pv Stt) (D:Addr) (hD:D ∉ fp) (key:Nat → Key) (hv:∀ i v,Pv i v → (aS P w).is (key i) v = true) (hb:n + 1 < scanBound) (fin:∀ s s',Moved (D :: wr) G s s' → s'.heap.SetOf (aS P w) D (fun k=>decide (k ∈ cW key n)) (cW key n).length → True) :
  ∀ (m i:Nat) (s:Shared),n - i = m → i ≤ n → Stt i s → s.heap.SetOf (aS P w) D (fun k=>decide (k ∈ cW key i)) (cW key i).length →
   (∀ s',Moved (D :: wr) G s s' → s'.heap.SetOf (aS P w) D (fun k=>decide (k ∈ cW key n)) (cW key n).length → R (.ok (.ret .none)) s') →
   codeAny (model P w) A (.builtin "set.update.loop" ⟨[.ref D,.ref I],[]⟩) R s:=by
 have hDw:D ∉ wr:=fun z=>hD (W.sub _ z)
 have sub:∀ b ∈ wr,b ∈ D :: wr:=fun b z=>List.mem_cons_of_mem _ z
 have moved:∀ {s s':Shared} {S:Key → Bool} {c:Nat},Moved wr G s s' → s.heap.SetOf (aS P w) D S c → s'.heap.SetOf (aS P w) D S c:=fun mv ⟨o,es,ep,t,ho,r⟩=>⟨o,es,ep,t,mv.heap D _ hDw ho,r⟩
 intro m
 induction m with
 | zero =>
  intro i s e1 e2 st hS hR
  obtain rfl:i = n:=by omega
  refine codeAny_builtin PyProof.Rows.F.entry_set_update_loop ?_
  rw [Around.under_plainId PyProof.Rows.F.plain_set_update_loop _]
  show wpAny _ A.in1 (pyNext (.ref I) >>= _) _ _ s
  refine wpAny_bind (W.done s _ _ st fun s' mv=>?_)
  exact wpAny_pure (hR s' (mv.mono sub) (moved mv hS))
 | succ m ih =>
  intro i s e1 e2 st hS hR
  have lt:i < n:=by omega
  refine codeAny_builtin PyProof.Rows.F.entry_set_update_loop ?_
  rw [Around.under_plainId PyProof.Rows.F.plain_set_update_loop _]
  show wpAny _ A.in1 (pyNext (.ref I) >>= _) _ _ s
  refine wpAny_bind (W.item i s _ _ lt st fun v s' pv st' mv=>?_)
  have hk:=hv i v pv
  have hS1:=moved mv hS
  show wpAny _ A.in1 (holding [v] (setAdd D v) >>= _) _ _ s'
  refine wpAny_bind (wpAny_holding ?_)
  unfold setAdd
  refine wpAny_holding (wpAny_bind ((aS P w).pyHash (k:=key i) hk ?_))
  have room:(cW key i).length + 1 < scanBound:=by have:=nN key i;omega
  refine wpAny_setAddHashed_of (knd:=aS P w) (s:={ s' with toks:=s'.toks + 1 }) hk (aAN hk) hS1 room fun h' sb hS2=>?_
  have hS3:h'.SetOf (aS P w) D (fun k=>decide (k ∈ cW key (i + 1))) (cW key (i + 1)).length:=by
   refine uX hS2 (fun k=>?_) ?_
   ·show (decide (k ∈ cW key i) || decide (k = key i)) = decide (k ∈ if key i ∈ cW key i then cW key i else cW key i ++ [key i])
    by_cases z:key i ∈ cW key i
    ·rw [if_pos z]
     by_cases y:k = key i
     ·subst y;simp [z]
     ·simp [y]
    ·rw [if_neg z]
     simp
   ·show (if decide (key i ∈ cW key i) = true then (cW key i).length else (cW key i).length + 1) = (if key i ∈ cW key i then cW key i else cW key i ++ [key i]).length
    by_cases z:key i ∈ cW key i
    ·rw [if_pos z,if_pos (decide_eq_true z)]
    ·rw [if_neg z,if_neg (by simpa using z)]
     simp
  refine wpAny_pure ⟨plainId_quiet PyProof.Rows.F.plain_set_update_loop _,ih (i + 1) _ (by omega) lt (W.frame _ s' _ _ st' (Nat.le_succ _) fun b hb o e=>?_) hS3 fun s2 mv2 hS4=>?_⟩
  ·rw [sb.2 b (fun z:b = D=>hD (by rw [← z];exact hb))]
   exact e
  ·refine hR s2 (Moved.trans W.gtrans ((mv.mono sub).then_heap (Nat.le_succ _) fun b o hb e=>?_) mv2) hS4
   rw [sb.2 b (fun z:b = D=>hb (by rw [z];exact List.mem_cons_self))]
   exact e
end
section
variable {P:Program} {w:World} {A:Around} {E:Value → Shared → Prop} {s:Shared}
abbrev pE (led:Bool):Obj:={ cls:=.type "set",dict:=none,data:=.set #[] 0 (.fresh 0 0 led) }
set_option maxHeartbeats 8000000 in
theorem tJ {l:Addr} {its:List Value} {ks:List Key} {Q:Value → Shared → Prop} (hh:A.handled = none) (hl:s.heap.IsList l its.toArray) (hk:∀ i v,its[i]? = some v → (aS P w).is (ks.getD i (.inl 0)) v = true) (hn:its.length = ks.length) (hb:its.length + 1 < scanBound)
  (h:∀ (h':Heap) (tk:Nat),h'.SetOf (aS P w) s.heap.objs.size (fun k=>decide (k ∈ qN ks)) (qN ks).length → (∀ b o,s.heap.get? b = some o → h'.get? b = some o) → Q (.ref s.heap.objs.size) { s with heap:=h',toks:=tk }) :
  wpAny (model P w) A (call (.type "set") [.ref l]) Q E s:=by
 obtain ⟨c,tl,hmro⟩:=PySem.F.called_set.mro
 have m1:=PySem.F.called_set.made
 have m2:=PySem.F.called_set.sub
 refine wpAny_call (codeAny_of_tree ?_)
 show wpAny _ _ (callAny (.type "set") _) _ _ _
 refine wpAny_pure ⟨Code.quiet_builtin _ (by decide +kernel),codeAny_builtin PySem.F.entry_type_call ?_⟩
 rw [Around.under_plain (weight_type_call_type "set" [.ref l] []) rfl]
 have m3:=PySem.F.called_set.notType
 have m4:=PySem.F.called_set.canCreate
 have m5:=PySem.F.typeCall_set_1 (.ref l)
 repeat (any_goals (first | assumption | wp_step))
 refine codeAny_mono (code_set_new_1 (.ref l) (E:=E) (Q₁:=fun ob s1=>∃ led:Bool,ob = .ref s.heap.objs.size ∧ s1 = { s with heap:=s.heap.push (pE led) }) fun led=>⟨led,rfl,rfl⟩) fun r s1 hr=>?_
 cases r with
 | error e=>exact hr
 | ok fl =>
  cases fl with
  | ret ob =>
   obtain ⟨led,rfl,rfl⟩:=hr
   have hS:(s.heap.push (pE led)).get? s.heap.objs.size = some (pE led):=Heap.get?_push_size _ rfl
   have hT:Shared.TypeIs { s with heap:=s.heap.push (pE led) } (.ref s.heap.objs.size) "set":=⟨_,hS,rfl⟩
   have m6:=PySem.F.called_set.init.lookup
   have m7:=PySem.F.called_set.init.bind (.ref s.heap.objs.size)
   repeat (any_goals (first | assumption | wp_step))
   refine codeAny_mono (codeAny_call_builtin (R:=wants (fun r s2=>r = .none ∧ ∃ h' tk,s2 = { s with heap:=h',toks:=tk } ∧ h'.SetOf (aS P w) s.heap.objs.size (fun k=>decide (k ∈ qN ks)) (qN ks).length ∧ (∀ b o,s.heap.get? b = some o → h'.get? b = some o)) E)
    PySem.F.called_set.init.plain PySem.F.entry_set_init (check_set_init_1 hT ?_)) fun r2 s2 hr2=>?_
   ·obtain ⟨⟨oc,od,oda,osl⟩,hol,hcl,nl,hdl⟩:=hl
    simp only at hcl hdl
    subst hcl hdl
    have hol1:(s.heap.push (pE led)).get? l = some { cls:=.type "list",dict:=od,data:=.seq its.toArray nl,slots:=osl }:=Heap.get?_push_of_some _ hol
    have m8:=PySem.F.sub_list_set
    have m9:=PySem.F.sub_list_frozenset
    have m10:(Value.type "list" == Value.type "dict") = false:=by decide
    have hl1:(s.heap.push (pE led)).IsList l its.toArray:=⟨_,hol1,rfl,nl,rfl⟩
    have lS:l < s.heap.objs.size:=Heap.lt_size hol
    unfold Builtin.«set.__init__» noKeywords Builtin.Frozenset.updateFrom
    generalize hPI:pyIter = PI
    wp_walk
    subst hPI
    refine wpAny_pyIter_list hl1 (wpAny_bind (wpAny_runValue ?_))
    have hh3:A.in1.in1.in1.handled = none:=by simp [hh]
    have nI:l ≠ (s.heap.push (pE led)).objs.size:=by rw [Heap.size_push];exact Nat.ne_of_lt (Nat.lt_succ_of_lt lS)
    have nS:s.heap.objs.size ∉ [(s.heap.push (pE led)).objs.size,l]:=by
     rw [Heap.size_push]
     simp only [List.mem_cons,List.mem_singleton,List.not_mem_nil,or_false,not_or]
     exact ⟨Nat.ne_of_lt (Nat.lt_succ_self _),Nat.ne_of_gt lS⟩
    have sz:its.toArray.size = ks.length:=by rw [List.size_toArray,hn]
    refine zM ((Walks.list hh3 _ l nI its.toArray).toS) s.heap.objs.size nS (fun i=>ks.getD i (.inl 0)) (fun i v pv=>hk i v (by simpa using pv)) (by rw [List.size_toArray];exact hb) (fun _ _ _ _=>trivial) (its.toArray.size - 0) 0 _ (by omega) (Nat.zero_le _)
     ⟨⟨_,Heap.get?_push_size _ rfl,rfl,rfl⟩,(hl1.push _)⟩ ?_ ?_
    ·have g:((s.heap.push (pE led)).push { cls:=.type "list_iterator",data:=.fields #[.ref l,.int 0 0] }).get? s.heap.objs.size = some (pE led):=Heap.get?_push_of_some _ hS
     exact ⟨_,#[],0,_,g,⟨rfl,rfl,rfl⟩,rfl,fun e he=>by simp at he,fun k=>by simp [cW],by decide,by rfl,rfl⟩
    ·intro s3 mv hS3
     obtain ⟨h3,g3,d3,t3,o3⟩:=s3
     have e1:g3 = s.gens:=mv.gens
     have e2:d3 = s.drawn:=mv.drawn
     have e3:o3 = s.os:=mv.os
     subst e1 e2 e3
     rw [sz] at hS3
     show wpAny _ _ _ _ _ _
     refine wpAny_pure ?_
     show wpAny _ _ (ret Value.none) _ _ _
     refine wpAny_pure ⟨rfl,h3,t3,rfl,hS3,fun b o e=>?_⟩
     have lb:=Heap.lt_size e
     have b1:b ≠ s.heap.objs.size:=Nat.ne_of_lt lb
     have b2:b ≠ (s.heap.push (pE led)).objs.size:=by rw [Heap.size_push];exact Nat.ne_of_lt (Nat.lt_succ_of_lt lb)
     exact mv.heap b o (by simp only [List.mem_cons,List.mem_singleton,List.not_mem_nil,or_false,not_or];exact ⟨b1,b2⟩) (Heap.get?_push_of_some _ (Heap.get?_push_of_some _ e))
   ·cases r2 with
    | error e=>exact hr2
    | ok f2 =>
     cases f2 with
     | ret r =>
      obtain ⟨rfl,h',tk,rfl,hS2,hk2⟩:=hr2
      repeat (any_goals (first | assumption | wp_step))
      exact h _ _ hS2 hk2
     | _=>exact hr2.elim
  | _=>exact hr.elim
end
section
variable {X:Cx}
theorem wU {P:Program} {w:World}:∀ {ks:List Key} {us:List Value},aY (ks.map kV) us → ∀ i v,us[i]? = some v → (aS P w).is (ks.getD i (.inl 0)) v = true
 | [],us,r,i,v,e=>by
  rw [List.map_nil] at r
  cases r
  simp at e
 | k :: ks,us,r,i,v,e=>by
  rw [List.map_cons] at r
  cases r with
  | cons r1 r2 =>
   cases i with
   | zero =>
    simp at e
    subst e
    cases k with
    | inl z=>obtain ⟨t,rfl⟩:=r1;exact mB z t
    | inr z=>obtain ⟨t,rfl⟩:=r1;exact lZ z t
   | succ i =>
    have:=wU (P:=P) (w:=w) r2 i v (by simpa using e)
    simpa using this
theorem qO (hc:X.calm = true):dU X (.type "set") (fun xs H Q=>∃ (p:Addr) (ks:List Key),xs = [.ref p] ∧ SqL X.K H p (ks.map kV) ∧ ks.length ≤ 1000 ∧
  ∀ l,H l = none → Q (.ref l) (upd H l (yM X.prog X.w l (fun k=>decide (k ∈ qN ks)) (qN ks).length))):=by
 intro pins s σ H xs us Q I r h
 obtain ⟨p,ks,rfl,hq,hn,q⟩:=h
 obtain ⟨u,rfl,ru⟩:=aY.one r
 cases ru
 obtain ⟨its,rv,pl,hz⟩:=I.list hq
 have hlen:=rv.length
 rw [List.length_map] at hlen
 refine tJ (ks:=ks) (I.ok.hd hc) pl.isList (wU rv) hlen.symm (by unfold scanBound;omega) fun h' tk hS hk=>?_
 exact ⟨.ref s.heap.objs.size,_,I.laid (t':=tk) hk (Nat.le_refl _) (yM.ok hS),rfl,q _ (I.hok.fresh (Nat.le_refl _))⟩
theorem call_len_set:dU X (.builtin "len") (fun xs H Q=>∃ l S n,xs = [.ref l] ∧ H l = some (yM X.prog X.w l S n) ∧ n ≤ 1000 ∧ Q (.int n) H):=by
 intro pins s σ H xs us Q I r h
 obtain ⟨l,S,n,rfl,e,hn,q⟩:=h
 obtain ⟨u,rfl,ru⟩:=aY.one r
 cases ru
 obtain ⟨⟨o,es,ep,t,ho,hex,hd,hel,hmem,hb,hf,hes⟩,_⟩:=I.hok l _ e
 refine PySem.call_len_set ho hex hd hf (by rw [hes];omega) ⟨.int n,H,I.tok _,⟨s.toks + 1,by rw [hes]⟩,q⟩
end
end L2
namespace L2
open PySem PySem.Spec PyProof.Rows
section
variable {X:Cx}
theorem kB {k:Key} {v:Value} (h:mS k v = true):aZ (kV k) v:=by
 rcases cB h with ⟨i,t,rfl,rfl⟩ | ⟨x,t,rfl,rfl⟩
 ·exact ⟨t,rfl⟩
 ·exact ⟨t,rfl⟩
theorem rX:∀ {xs:List V} {us:List Value},us.length = xs.length → (∀ (j:Nat) (u:Value) (x:V),us[j]? = some u → xs[j]? = some x → aZ x u) → aY xs us
 | [],[],_,_=>.nil
 | x :: xs,u :: us,hl,h=>.cons (h 0 u x rfl rfl) (rX (by simpa using hl) fun j v y e1 e2=>h (j + 1) v y (by simpa using e1) (by simpa using e2))
 | [],_ :: _,hl,_=>by simp at hl
 | _ :: _,[],hl,_=>by simp at hl
theorem KV.get:∀ {kvs:List (Key × V)} {vs:List (Key × Value)} {i:Nat} {p:Key × Value},KV kvs vs → vs[i]? = some p → ∃ q,kvs[i]? = some q ∧ q.1 = p.1 ∧ aZ q.2 p.2
 | _,_,_,_,.nil,e=>by simp at e
 | _,_,0,_,.cons r _,e=>by simp at e;subst e;exact ⟨_,rfl,r.1,r.2⟩
 | _,_,i + 1,p,.cons _ t,e=>by
  obtain ⟨q,h1,h2⟩:=KV.get (i:=i) (p:=p) t (by simpa using e)
  exact ⟨q,by simpa using h1,h2⟩
theorem jN (hc:X.calm = true):dU X (.type "list") (fun xs H Q=>∃ p kvs,xs = [.ref p] ∧ Rd H p (.dK kvs) ∧ ∀ l,H l = none → Q (.ref l) (upd H l (.lst (kvs.map fun kv=>kV kv.1)))):=by
 intro pins s σ H xs us Q I r h
 obtain ⟨p,kvs,rfl,hq,q⟩:=h
 obtain ⟨u,rfl,ru⟩:=aY.one r
 cases ru
 obtain ⟨hz,lo,vs,kv,hD⟩:=hq.ok I.hok
 obtain ⟨ep,hat⟩:=hD.dictAt
 have hl:=KV.length kv
 refine PySem.W.kdl_call (PySem.W.kdl_dict (knd:=aS X.prog X.w) (kvs:=vs) (ep:=ep) lo) (I.ok.hd hc) hat (by omega) fun h' tk acc c hk hg hi=>?_
 refine ⟨.ref s.heap.objs.size,_,I.laid (t':=tk) hk (Nat.le_refl _) (show bG X.prog X.w _ h' _ (.lst (kvs.map fun kv=>kV kv.1)) from ⟨by rw [List.length_map];exact hz,acc.toList,c,?_,by simpa using hg⟩),rfl,q _ (I.hok.fresh (Nat.le_refl _))⟩
 refine rX (by rw [List.length_map,Array.length_toList,hi.1,hl]) fun j u x e1 e2=>?_
 obtain ⟨k,y,e3,e4⟩:=hi.2 j u (by rw [← Array.getElem?_toList];exact e1)
 obtain ⟨z,e5,e6,_⟩:=KV.get kv e3
 rw [List.getElem?_map,e5] at e2
 have e2':kV z.1 = x:=by simpa using e2
 subst e2'
 rw [show z.1 = k from e6]
 exact kB e4
def uQ (v d:Addr):HO:=.ext fun h=>h.IsValuesView v d
theorem uQ.ok {P:Program} {w:World} {H:Hp} {h:Heap} {v d:Addr} (x:h.IsValuesView v d):bG P w H h v (uQ v d) :=
 ⟨x,let ⟨o,ho,_⟩:=x;⟨o,ho⟩,fun _ _ ⟨o,ho,r⟩ k=>⟨o,k o ho,r⟩⟩
theorem qY:MtR X "dict.values" (fun x vs H Q=>∃ d kvs,x = .ref d ∧ vs = [] ∧ Rd H d (.dK kvs) ∧ ∀ v,H v = none → Q (.ref v) (upd H v (uQ v d))):=by
 intro pins s σ H x vs v us Q I rx rv h
 obtain ⟨d,kvs,rfl,rfl,hq,q⟩:=h
 cases rx
 have hus:=rv.zero
 subst hus
 obtain ⟨hz,lo,ws,kv,hD⟩:=hq.ok I.hok
 refine call_meetsIn PySem.F.slot_dict_values hD.typeIs PySem.F.entry_dict_values (PySem.F.args_dict_values_1 _) (meets_dict_values (aS X.prog X.w) d lo) ⟨⟨ws,hD⟩,?_⟩
 exact ⟨.ref s.heap.objs.size,_,I.laid (t':=s.toks) (fun b ob e=>Heap.get?_push_of_some _ e) (Nat.le_refl _) (uQ.ok ⟨_,Heap.get?_push_size _ rfl,rfl,rfl⟩),rfl,q _ (I.hok.fresh (Nat.le_refl _))⟩
theorem iJ (hc:X.calm = true):dU X (.type "list") (fun xs H Q=>∃ v d kvs,xs = [.ref v] ∧ H v = some (uQ v d) ∧ Rd H d (.dK kvs) ∧ ∀ l,H l = none → Q (.ref l) (upd H l (.lst (kvs.map (·.2))))):=by
 intro pins s σ H xs us Q I r h
 obtain ⟨v,d,kvs,rfl,ev,hq,q⟩:=h
 obtain ⟨u,rfl,ru⟩:=aY.one r
 cases ru
 obtain ⟨hz,lo,vs,kv,hD⟩:=hq.ok I.hok
 obtain ⟨hv,_⟩:=I.hok v _ ev
 obtain ⟨ep,hat⟩:=hD.dictAt
 have hl:=KV.length kv
 refine PySem.W.kdl_call (PySem.W.kdl_values (knd:=aS X.prog X.w) (kvs:=vs) (ep:=ep)) (I.ok.hd hc) ⟨hv,hat⟩ (by omega) fun h' tk acc c hk hg hi=>?_
 refine ⟨.ref s.heap.objs.size,_,I.laid (t':=tk) hk (Nat.le_refl _) (show bG X.prog X.w _ h' _ (.lst (kvs.map (·.2))) from ⟨by rw [List.length_map];exact hz,acc.toList,c,?_,by simpa using hg⟩),rfl,q _ (I.hok.fresh (Nat.le_refl _))⟩
 refine rX (by rw [List.length_map,Array.length_toList,hi.1,hl]) fun j u x e1 e2=>?_
 obtain ⟨k,e3⟩:=hi.2 j u (by rw [← Array.getElem?_toList];exact e1)
 obtain ⟨z,e5,_,e6⟩:=KV.get kv e3
 rw [List.getElem?_map,e5] at e2
 have e2':z.2 = x:=by simpa using e2
 subst e2'
 exact e6
end
section
variable {X:Cx} {e se:Expr} {te ts:TE} {p2 pos:Pos}
end
end L2
namespace L2
open PySem PySem.Spec PyProof.Rows
theorem pG:typeLookup (.type "list") "keys" = pure none:=by rw [typeLookup_type,builtinLookup_eq_fast];kernel_rfl
section
variable {P:Program} {w:World} {A:Around} {E:Value → Shared → Prop} {s:Shared}
theorem sM {a:Addr} {xs:Array Value} {k:Nat} {sl:Array (Option Value)} {Q:Option Value → Shared → Prop} (hA:A.handled = none) (hx:s.heap.get? a = some { cls:=.type "list",dict:=none,data:=.seq xs k,slots:=sl })
  (h:∀ h' tk,(∀ b o,s.heap.get? b = some o → h'.get? b = some o) → Q none { s with heap:=h',toks:=tk }):wpAny (model P w) A (getAttr? (.ref a) "keys") Q E s:=by
 obtain ⟨hp,g,d,tk,os⟩:=s
 have hT:∀ tk',(⟨hp,g,d,tk',os⟩:Shared).TypeIs (.ref a) "list":=fun _=>⟨_,hx,rfl⟩
 have f1:=sub_AttributeError
 have f3:=F.slot_list_getattribute.lookup
 have f4:=F.slot_list_getattribute.bind (.ref a)
 have f5:=am_list_getattr_none
 unfold getAttr? getAttrBy? getAttrBy
 repeat (any_goals (first | assumption | exact hT _ | ((with_reducible show wpAny _ _ (call (Value.builtin "list.__getattribute__") _ _) _ _ _);refine call_meets F.slot_list_getattribute (hT _) am_entry_list_getattribute (F.args_list_getattribute_2 _ _) (meets_getattribute_miss_list a xs k sl "keys" _ pG (by decide +kernel)) ⟨hx,hA,fun h' tk' e hx'=>?_⟩) | wp_step))
 obtain ⟨t',u',he⟩:=hx'.there
 show wpAny _ _ (getattributeRaised _ _ _ _ _ _ _) _ _ _
 unfold getattributeRaised
 repeat (any_goals (first | assumption | wp_step))
 exact h _ _ hx'.keeps
end
theorem jB:entryFor table "dict.update.loop" = some Builtin.«dict.update.loop»:=entryFor_of_tree (by kernel_rfl)
theorem eV:plainId "dict.update.loop" = true:=by decide +kernel
section
variable {P:Program} {w:World} {A:Around} {R:Result → Shared → Prop} {I:Addr} {fp wr:List Addr} {G:Array GenState → Array GenState → Prop} {n:Nat} {Pv:Nat → Value → Prop} {Stt:Nat → Shared → Prop}
theorem yD (W:WalksS P w A.in1 I fp wr G n Pv Stt) (D:Addr) (hD:D ∉ fp) (res:Value) (kvs:List (Key × Value)) (hn:kvs.length = n) (hz:n ≤ sizeLine) (s₀:Shared)
  (hv:∀ (i:Nat) (v:Value),Pv i v → ∃ (a:Addr) (k:Key) (kv x:Value) (ob:Obj) (c:Nat),v = .ref a ∧ a ∉ D :: wr ∧ s₀.heap.get? a = some ob ∧ ob.cls = .type "tuple" ∧ ob.data = .seq #[kv,x] c ∧ kvs[i]? = some (k,x) ∧ (aS P w).is k kv = true) :
  ∀ (m i:Nat) (s:Shared),n - i = m → i ≤ n → Stt i s → (∀ b o,b ∉ D :: wr → s₀.heap.get? b = some o → s.heap.get? b = some o) → s.heap.DictOf (aS P w) D (merged [] (kvs.take i)) →
   (∀ s',Moved (D :: wr) G s s' → s'.heap.DictOf (aS P w) D (merged [] kvs) → R (.ok (.ret res)) s') →
   codeAny (model P w) A (.builtin "dict.update.loop" ⟨[.ref D,.ref I,rawInt i,res],[]⟩) R s:=by
 have hDw:D ∉ wr:=fun z=>hD (W.sub _ z)
 have sub:∀ b ∈ wr,b ∈ D :: wr:=fun b z=>List.mem_cons_of_mem _ z
 have moved:∀ {s s':Shared} {l:List (Key × Value)},Moved wr G s s' → s.heap.DictOf (aS P w) D l → s'.heap.DictOf (aS P w) D l:=fun mv ⟨o,es,ep,ho,r⟩=>⟨o,es,ep,mv.heap D _ hDw ho,r⟩
 intro m
 induction m with
 | zero =>
  intro i s e1 e2 st kp hS hR
  obtain rfl:i = n:=by omega
  rw [List.take_of_length_le (by omega)] at hS
  refine codeAny_builtin jB ?_
  rw [Around.under_plainId eV _]
  show wpAny _ A.in1 (pyNext (.ref I) >>= _) _ _ s
  refine wpAny_bind (W.done s _ _ st fun s' mv=>?_)
  show wpAny _ A.in1 (Builtin.Dict.addKeywords D [] >>= _) _ _ s'
  refine wpAny_bind (wpAny_pure ?_)
  exact wpAny_pure (hR s' (mv.mono sub) (moved mv hS))
 | succ m ih =>
  intro i s e1 e2 st kp hS hR
  have lt:i < n:=by omega
  refine codeAny_builtin jB ?_
  rw [Around.under_plainId eV _]
  show wpAny _ A.in1 (pyNext (.ref I) >>= _) _ _ s
  refine wpAny_bind (W.item i s _ _ lt st fun v s' pv st' mv=>?_)
  obtain ⟨a,k,kv,x,ob,c,rfl,ha,hg,hc,hd,hi,hk⟩:=hv i v pv
  have hS1:=moved mv hS
  have hg1:s'.heap.get? a = some ob:=mv.heap a ob (fun z=>ha (sub a z)) (kp a ob ha hg)
  have hT:s'.TypeIs (.ref a) "tuple":=⟨ob,hg1,hc⟩
  refine wpAny_bind (wpAny_holding (wpAny_bind (wpAny_tryCatch ?_)))
  unfold Builtin.Dict.pairItems
  refine wpAny_bind (wpAny_typeOf hT ?_)
  rw [if_pos (by decide)]
  refine wpAny_bind (wpAny_seqItems hg1 hd (wpAny_pure ?_))
  show wpAny _ _ (holding [kv,x] (dictSet D kv x)) _ _ s'
  refine wpAny_holding (wpAny_dictSet_pairs hk hS1 (fun h' hS2 sb=>?_) ?_)
  ·have e:merged [] (kvs.take (i + 1)) = stored (merged [] (kvs.take i)) k x:=merged_take_succ [] kvs i (k,x) hi
   rw [← e] at hS2
   refine wpAny_pure ⟨plainId_quiet eV _,ih (i + 1) _ (by omega) lt (W.frame _ s' _ _ st' (Nat.le_succ _) fun b hb o e=>?_) (fun b o hb e=>?_) hS2 fun s2 mv2 hS4=>?_⟩
   ·rw [sb.2 b (fun z:b = D=>hD (by rw [← z];exact hb))]
    exact e
   ·rw [sb.2 b (fun z:b = D=>hb (by rw [z];exact List.mem_cons_self))]
    exact mv.heap b o (fun z=>hb (sub b z)) (kp b o hb e)
   ·refine hR s2 (Moved.trans W.gtrans ((mv.mono sub).then_heap (Nat.le_succ _) fun b o hb e=>?_) mv2) hS4
    rw [sb.2 b (fun z:b = D=>hb (by rw [z];exact List.mem_cons_self))]
    exact e
  ·have:=merged_length_le ([]:List (Key × Value)) (kvs.take i)
   rw [List.length_take] at this
   simp only [List.length_nil] at this
   omega
end
section
variable {P:Program} {w:World} {A:Around} {E:Value → Shared → Prop} {s:Shared}
theorem qL {l:Addr} {its:List Value} {kvs:List (Key × Value)} {Q:Value → Shared → Prop} (hh:A.handled = none) (hl:PlainL s.heap l its.toArray) (hn:its.length = kvs.length) (hz:its.length ≤ sizeLine)
  (hv:∀ (i:Nat) (v:Value),its[i]? = some v → ∃ (a:Addr) (k:Key) (kv x:Value) (ob:Obj) (c:Nat),v = .ref a ∧ s.heap.get? a = some ob ∧ ob.cls = .type "tuple" ∧ ob.data = .seq #[kv,x] c ∧ kvs[i]? = some (k,x) ∧ (aS P w).is k kv = true)
  (h:∀ (h':Heap) (tk:Nat),h'.DictOf (aS P w) s.heap.objs.size (merged [] kvs) → (∀ b o,s.heap.get? b = some o → h'.get? b = some o) → Q (.ref s.heap.objs.size) { s with heap:=h',toks:=tk }) :
  wpAny (model P w) A (call (.type "dict") [.ref l]) Q E s:=by
 refine callType_codes (Q₁:=fun (obj:Value) (s₁:Shared)=>obj = Value.ref s.heap.objs.size ∧ s₁ = { s with heap:=s.heap.push { cls:=.type "dict",data:=.dict #[] } }) F.kt_called_dict (F.kt_typeCall_dict_1 _) F.entry_dict_init (kt_code_dict_new _ ⟨rfl,rfl⟩) ?_
 rintro obj s₁ ⟨rfl,rfl⟩
 have hnew:(s.heap.push { cls:=.type "dict",data:=.dict #[] }).DictOf (aS P w) s.heap.objs.size []:=Heap.DictOf.new s.heap
 obtain ⟨⟨oc,od,oda,osl⟩,nl,hol,hcl,hod,hdl⟩:=id hl
 simp only at hcl hod hdl
 subst hcl hod hdl
 have lS:l < s.heap.objs.size:=Heap.lt_size hol
 have hol1:=Heap.get?_push_of_some (h:=s.heap) { cls:=.type "dict",data:=.dict #[] } hol
 refine ⟨hnew.typeIs,F.args_dict_init_2 _ _,?_⟩
 unfold Builtin.«dict.__init__»
 refine wpAny_bind ?_
 unfold Builtin.Dict.selfAndRest
 refine wpAny_bind (wpAny_notOrdered_dict hnew.typeIs ?_)
 show wpAny _ _ (pure (s.heap.objs.size,[Value.ref l])) _ _ _
 refine wpAny_pure ?_
 show wpAny _ _ (Builtin.Dict.updateFrom "dict.__init__" s.heap.objs.size (.ref l) [] .none) _ _ _
 unfold Builtin.Dict.updateFrom
 refine wpAny_bind (wpAny_typeOf (T:="list") ⟨_,hol1,rfl⟩ ?_)
 rw [if_pos (by decide)]
 refine wpAny_bind (sM (by simp [hh]) hol1 fun h1 t1 k1=>?_)
 show wpAny _ _ (rule _ >>= _) _ _ _
 refine wpAny_bind (wpAny_rule ?_)
 have hol2:=k1 _ _ hol1
 have hl2:h1.IsList l its.toArray:=⟨_,hol2,rfl,nl,rfl⟩
 refine wpAny_bind (wpAny_pyIter_list (s:={ s with heap:=h1,toks:=t1 }) hl2 ?_)
 have sz1:s.heap.objs.size < h1.objs.size:=by
  obtain ⟨o,es,ep,ho,_⟩:=hnew
  exact Heap.lt_size (k1 _ _ ho)
 have nI:l ≠ h1.objs.size:=Nat.ne_of_lt (Heap.lt_size hol2)
 have nD:s.heap.objs.size ∉ [h1.objs.size,l]:=by
  simp only [List.mem_cons,List.mem_singleton,List.not_mem_nil,or_false,not_or]
  exact ⟨Nat.ne_of_lt sz1,Nat.ne_of_gt lS⟩
 refine wpAny_pure ⟨plainId_quiet eV _,?_⟩
 have hh2:A.in1.in1.handled = none:=by simp [hh]
 refine yD ((Walks.list hh2 _ l nI its.toArray).toS) s.heap.objs.size nD .none kvs (by rw [List.size_toArray,hn]) (by rw [List.size_toArray];exact hz) { s with heap:=h1.push { cls:=.type "list_iterator",data:=.fields #[.ref l,.int 0 0] },toks:=t1 } (fun i v pv=>?_) (its.toArray.size - 0) 0 _ (by omega) (Nat.zero_le _)
  ⟨⟨_,Heap.get?_push_size _ rfl,rfl,rfl⟩,(hl2.push _)⟩ (fun _ _ _ e=>e) ?_ ?_
 ·obtain ⟨a,k,kv,x,ob,c,rfl,hg,hc,hd,hi,hk⟩:=hv i v (by simpa using pv)
  have la:=Heap.lt_size hg
  refine ⟨a,k,kv,x,ob,c,rfl,?_,Heap.get?_push_of_some _ (k1 _ _ (Heap.get?_push_of_some _ hg)),hc,hd,hi,hk⟩
  simp only [List.mem_cons,List.mem_singleton,List.not_mem_nil,or_false,not_or]
  exact ⟨Nat.ne_of_lt la,Nat.ne_of_lt (Nat.lt_trans la sz1)⟩
 ·obtain ⟨o,es,ep,ho,r⟩:=hnew
  exact ⟨o,es,ep,Heap.get?_push_of_some _ (k1 _ _ ho),r⟩
 ·intro s3 mv hS3
  obtain ⟨h3,g3,d3,t3,o3⟩:=s3
  have e1:g3 = s.gens:=mv.gens
  have e2:d3 = s.drawn:=mv.drawn
  have e3:o3 = s.os:=mv.os
  subst e1 e2 e3
  refine ⟨rfl,h h3 t3 hS3 fun b o e=>?_⟩
  have lb:=Heap.lt_size e
  refine mv.heap b o ?_ (Heap.get?_push_of_some _ (k1 _ _ (Heap.get?_push_of_some _ e)))
  simp only [List.mem_cons,List.mem_singleton,List.not_mem_nil,or_false,not_or]
  exact ⟨Nat.ne_of_lt lb,Nat.ne_of_lt (Nat.lt_trans lb sz1)⟩
end
def cI (H:Hp) (ys:List V) (kvs:List (Key × V)):Prop:=Paired (fun (y:V) (kv:Key × V)=>∃ a,y = .ref a ∧ H a = some (.tup [kV kv.1,kv.2])) ys kvs
theorem cI.nil (H:Hp):cI H [] []:=Paired.nil
theorem cI.len {H:Hp} {ys:List V} {kvs:List (Key × V)} (h:cI H ys kvs):ys.length = kvs.length:=Paired.length h
theorem cI.same {H H':Hp} (S:aL H H'):∀ {ys:List V} {kvs:List (Key × V)},cI H ys kvs → cI H' ys kvs
 | _,_,Paired.nil=>Paired.nil
 | _,_,Paired.cons ⟨a,e,o⟩ t=>Paired.cons ⟨a,e,S _ _ o⟩ (cI.same S t)
theorem cI.snoc {H:Hp} {ys:List V} {kvs:List (Key × V)} {p:Addr} {k:Key} {v:V} (h:cI H ys kvs) (hp:H p = none):cI (upd H p (.tup [kV k,v])) (ys ++ [.ref p]) (kvs ++ [(k,v)]) :=
 Paired.snoc (h.same (aL.upd hp)) ⟨p,rfl,aF⟩
section
variable {X:Cx}
theorem aCD {P:Program} {w:World} {k:Key} {u:Value} (r:aZ (kV k) u):(aS P w).is k u = true:=by
 cases k with
 | inl z=>obtain ⟨t,rfl⟩:=r;exact mB z t
 | inr z=>obtain ⟨t,rfl⟩:=r;exact lZ z t
theorem lA {pins:List (Addr × Obj)} {σ:St} {H:Hp} {s:Shared} (I:Inv X pins σ H s):∀ {ys:List V} {kvs:List (Key × V)} {its:List Value},cI H ys kvs → aY ys its →
  ∃ vk:List (Key × Value),KV kvs vk ∧ its.length = vk.length ∧ ∀ (i:Nat) (v:Value),its[i]? = some v → ∃ (a:Addr) (k:Key) (kv x:Value) (ob:Obj) (c:Nat),v = .ref a ∧ s.heap.get? a = some ob ∧ ob.cls = .type "tuple" ∧ ob.data = .seq #[kv,x] c ∧ vk[i]? = some (k,x) ∧ (aS X.prog X.w).is k kv = true
 | _,_,_,Paired.nil,Paired.nil=>⟨[],Paired.nil,rfl,fun i v e=>by simp at e⟩
 | _,(k,v0) :: kvs,u :: its,Paired.cons ⟨a,e,o⟩ t,Paired.cons r rs=>by
  obtain ⟨vk,h1,h2,h3⟩:=lA I t rs
  subst e
  cases r
  obtain ⟨tis,rt,⟨ob,g,hc,c,hd⟩,_⟩:=I.tuple (SqT.of o)
  obtain ⟨ku,xu,rfl,rk,rx⟩:=aY.two rt
  refine ⟨(k,xu) :: vk,Paired.cons ⟨rfl,rx⟩ h1,by simp [h2],fun i v e=>?_⟩
  cases i with
  | zero =>
   simp at e
   subst e
   exact ⟨a,k,ku,xu,ob,c,rfl,g,hc,hd,rfl,aCD rk⟩
  | succ i =>
   obtain ⟨a',k',kv',x',ob',c',q⟩:=h3 i v (by simpa using e)
   exact ⟨a',k',kv',x',ob',c',by simpa using q⟩
theorem fU (hc:X.calm = true):dU X (.type "dict") (fun xs H Q=>∃ (p:Addr) (ys:List V) (kvs:List (Key × V)),xs = [.ref p] ∧ SqL X.K H p ys ∧ cI H ys kvs ∧ kvs.length ≤ 1000 ∧ (kvs.map (·.1)).Nodup ∧ ∀ l,H l = none → Q (.ref l) (upd H l (.dK kvs))):=by
 intro pins s σ H xs us Q I r h
 obtain ⟨p,ys,kvs,rfl,hq,hp,hn,nd,q⟩:=h
 obtain ⟨u,rfl,ru⟩:=aY.one r
 cases ru
 obtain ⟨its,rv,pl,hz⟩:=I.list hq
 obtain ⟨vk,kv,el,hv⟩:=lA I hp rv
 have big:(1000:Nat) ≤ sizeLine:=by decide
 have l1:=KV.length kv
 have ek:vk.map (·.1) = kvs.map (·.1):=(KV.keys kv).symm
 refine qL (kvs:=vk) (I.ok.hd hc) pl el (by omega) hv fun h' tk hD hk=>?_
 rw [merged_nil_of_nodup vk (by rw [ek];exact nd)] at hD
 refine ⟨.ref s.heap.objs.size,_,I.laid (t':=tk) hk (Nat.le_refl _) (show bG X.prog X.w _ h' _ (.dK kvs) from ⟨by omega,?_,vk,kv,hD⟩),rfl,q _ (I.hok.fresh (Nat.le_refl _))⟩
 have b:=I.big
 exact beq_eq_false_iff_ne.mpr (Nat.ne_of_gt b)
end
end L2
namespace L2
open PySem PySem.Spec PyProof.Rows
structure MethAt (K:PySem.W.Frag) (C:Addr) (m qual:Str) (st:Stmt) (ps:List Str):Prop where
 ex:∃ (f:Addr) (fd:FuncData),Fun K m qual st f fd ∧ fD K fd ps [] ∧ Meth K C m f
structure InitAt (K:PySem.W.Frag) (C:Addr) (qual:Str) (st:Stmt) (ps:List Str):Prop where
 ex:∃ (f:Addr) (fd:FuncData),Fun K "__init__" qual st f fd ∧ fD K fd ps [] ∧ Mk K C f
structure Mc (P:Program) (w:World) (K:PySem.W.Frag) (mg:Str → Option Value) (base:Heap) (k:Nat) (C:Addr) (m:Str) (ps:List Str) (sp:Sp):Prop where
 ex:∃ (f:Addr) (fd:FuncData),FnOk P w K mg base CX0 k f fd ps sp ∧ fD K fd ps [] ∧ Meth K C m f
structure Ic (P:Program) (w:World) (K:PySem.W.Frag) (mg:Str → Option Value) (base:Heap) (k:Nat) (C:Addr) (ps:List Str) (sp:Sp):Prop where
 ex:∃ (f:Addr) (fd:FuncData),FnOk P w K mg base CX0 k f fd ps sp ∧ fD K fd ps [] ∧ Mk K C f
section
variable {P:Program} {w:World} {K:PySem.W.Frag} {mg:Str → Option Value} {base:Heap} {C:Addr} {m qual:Str} {st:Stmt} {N ps:List Str} {k:Nat} {sp:Sp}
theorem MethAt.mc (D:MethAt K C m qual st ps) (S:FnScope N ps (aE st)) (len:∀ vs H Q E,sp vs H Q E → vs.length = ps.length)
  (hbody:∀ (f:Addr) (cdv:Value) (A:Around) (outer:List Env) (s:Shared) (H:Hp) (vs:List V) (Q:VK) (E:XK),Room k (A.deeper (envOfC qual (aE st) s.heap.objs.size f cdv)) → sp vs H Q E →
   ∃ t,PSs (iT CX0 P w K mg base N qual (aE st) f cdv A outer s H E).nox (aN st) t ∧ t { nx:=fun _ H'=>Q .non H',rt:=Q } (fW N vs) H):Mc P w K mg base (k + 1) C m ps sp:=by
 obtain ⟨f,fd,F,b,mm⟩:=D.ex
 exact ⟨f,fd,F.ok S len fun cdv A outer s H vs Q E hr h=>hbody f cdv A outer s H vs Q E hr h,b,mm⟩
theorem InitAt.ic (D:InitAt K C qual st ps) (S:FnScope N ps (aE st)) (len:∀ vs H Q E,sp vs H Q E → vs.length = ps.length)
  (hbody:∀ (f:Addr) (cdv:Value) (A:Around) (outer:List Env) (s:Shared) (H:Hp) (vs:List V) (Q:VK) (E:XK),Room k (A.deeper (envOfC qual (aE st) s.heap.objs.size f cdv)) → sp vs H Q E →
   ∃ t,PSs (iT CX0 P w K mg base N qual (aE st) f cdv A outer s H E).nox (aN st) t ∧ t { nx:=fun _ H'=>Q .non H',rt:=Q } (fW N vs) H):Ic P w K mg base (k + 1) C ps sp:=by
 obtain ⟨f,fd,F,b,mm⟩:=D.ex
 exact ⟨f,fd,F.ok S len fun cdv A outer s H vs Q E hr h=>hbody f cdv A outer s H vs Q E hr h,b,mm⟩
theorem Mc.imp {sp':Sp} (F:Mc P w K mg base k C m ps sp) (h:∀ vs H Q E,sp' vs H Q E → sp vs H Q E):Mc P w K mg base k C m ps sp':=by
 obtain ⟨f,fd,G,b,mm⟩:=F.ex
 exact ⟨f,fd,G.imp h,b,mm⟩
theorem dI {f:Addr} {oc:Value} {od an:Option Addr} {osl:Array (Option Value)} {kV doc pm cdv ct:Value} (a:PySem.W.findIn K (.ref C) m = some (some (.ref f))) (i:PySem.W.isFn K (.ref f) = true)
  (l:K.lookup f = some ⟨oc,od,.func (PySem.W.fnOf m qual (aP st) (aN st) (aE st) .none kV doc pm an cdv ct),osl⟩) (c:PySem.W.codeIn K cdv qual = true) (kp:PySem.W.keepIn K (.ref f) = true)
  (hb:∀ (kV doc pm:Value) (an:Option Addr) (cdv ct:Value) (us:List Value),us.length = ps.length → bindArgs (PySem.W.fnOf m qual (aP st) (aN st) (aE st) .none kV doc pm an cdv ct) ⟨us,[]⟩ = pure (ps.zip us)):MethAt K C m qual st ps :=
 ⟨f,_,mF l c kp,(mF l c kp).binds hb,⟨a,i,kp⟩⟩
theorem wX {f:Addr} {oc:Value} {od an:Option Addr} {osl:Array (Option Value)} {kV doc pm cdv ct:Value} (a:PySem.W.findIn K (.ref C) "__init__" = some (some (.ref f))) (i:PySem.W.isFn K (.ref f) = true)
  (l:K.lookup f = some ⟨oc,od,.func (PySem.W.fnOf "__init__" qual (aP st) (aN st) (aE st) .none kV doc pm an cdv ct),osl⟩) (c:PySem.W.codeIn K cdv qual = true) (kp:PySem.W.keepIn K (.ref f) = true)
  (mk:PySem.W.makesIn K C = true) (kc:PySem.W.keepIn K (.ref C) = true)
  (hb:∀ (kV doc pm:Value) (an:Option Addr) (cdv ct:Value) (us:List Value),us.length = ps.length → bindArgs (PySem.W.fnOf "__init__" qual (aP st) (aN st) (aE st) .none kV doc pm an cdv ct) ⟨us,[]⟩ = pure (ps.zip us)):InitAt K C qual st ps :=
 ⟨f,_,mF l c kp,(mF l c kp).binds hb,⟨mk,a,i,kc⟩⟩
end
section
variable {X:Cx} {k:Nat} {ps:List Str} {sp:Sp} {x m:Str} {p pos apos:Pos} {o e:Expr} {es:List Expr} {ta:TE} {t:TA} {C:Addr}
theorem jH {pl:Sem Bool} (c:Cls X.K C) (F:Mc X.prog X.w X.K X.mg X.base k C m ps sp) (hr:Room k X.A) (ho:PE X o ta)
  (ht:eval (.Call (.Attribute o m apos) [] [] pos) X.env = (do
   let ov ← eval o X.env
   standAt apos.atName
   let (f,first) ← holding [ov] (getMethod ov m pl)
   callWith pos f first (backTo pos (starEach [] X.env)) (backToKw pos (keywordEach [] X.env))):=by rfl) :
  PE X (.Call (.Attribute o m apos) [] [] pos) (yV C m sp [] E0 ta aEL):=by
 obtain ⟨f,fd,G,b,mm⟩:=F.ex
 exact aAB (pl:=pl) ho c mm G hr b .nil aAE ht
theorem aEC (hm:X.mg x = some (.ref C)) (F:Ic X.prog X.w X.K X.mg X.base k C ps sp) (hr:Room (k + 1) X.A) (ha:PA X (e :: es) t) (hg:Gl X x:=by rfl) (hdb:(x == ("__debug__":Str)) = false:=by decide)
  (he:starEach (e :: es) X.env = (false,eval e X.env) :: starEach es X.env:=by rfl) (hpl:(backTo pos (starEach es X.env)).any (·.1) = false:=by rfl) :
  PE X (.Call (.Name x p) (e :: es) [] pos) (yW C sp [] E0 t):=by
 obtain ⟨f,fd,G,b,mm⟩:=F.ex
 exact aCJ mm G hr hg hm b .nil aAE ha hdb he hpl
end
section
variable {X:Cx} {K:PySem.W.Frag}
theorem bF (e:X.K = K):IxR X (aGI K):=by subst e;exact aFJ
theorem bP (e:X.K = K):IxR X (aGJ K):=by subst e;exact aCV
theorem tI (e:X.K = K):SlR X (aGH K):=by subst e;exact aBZ
theorem vA (e:X.K = K):OpR X (compareOp .In) (rIn K false):=by subst e;exact xQ
theorem bL (e:X.K = K):dU X (.builtin "len") (fun xs H Q=>∃ p ys,xs = [.ref p] ∧ (SqL K H p ys ∨ SqT K H p ys) ∧ Q (.int ys.length) H):=by subst e;exact sW
theorem bY (e:X.K = K):dU X (.builtin "isinstance") (fun xs H Q=>∃ x y c t b,xs = [x,y] ∧ aDJ y = some c ∧ TyOf K H x t ∧ PySem.W.kitOne K t c = some b ∧ Q (.bl b) H):=by subst e;exact uP
theorem qP (e:X.K = K):dU X (.type "list") (fun xs H Q=>∃ p ys,xs = [.ref p] ∧ (SqL K H p ys ∨ SqT K H p ys) ∧ ∀ l,H l = none → Q (.ref l) (upd H l (.lst ys))):=by subst e;exact sU
end
theorem fO {j:Int} (h:decide (0 < j) = true):0 < j:=of_decide_eq_true h
end L2
namespace L2
open PySem PySem.Spec PyProof.Rows
theorem oN {X:Cx} {i:Nat} {x:Str} {elt iter tg:Expr} {ifs:List Expr} {scope:Scope} {pos pos' cpos:Pos} {wi:TI} {g:TG} {tt:TT} {te:TE} (hXN:X.N.Nodup) (hix:X.N[i]? = some x) (N':List Str) (nt:Nat) (cap:List Nat)
  (hc:X.calm = true) (hi:PI X tg iter wi) (hg:∀ R,PG (blk X scope N' R) tg g) (hgk:uR nt g) (ht:∀ R,aBU (blk X scope N' R) ifs tt) (he:∀ R,PE (blk X scope N' R) elt te)
  (hx:Loc X.env.scope x:=by exact Or.inl rfl) (hfn:X.fn x = true ∨ X.env.scope.names.lookup x = some .local:=by first | exact .inl rfl | exact .inr rfl | assumption)
  (hsw:swapsWith (.ListComp elt [⟨tg,iter,ifs,0⟩] scope cpos) (some (.Name x pos')) pos.line X.env = pure true:=by rfl)
  (hcell:(scope.names.all fun y=>!(y.2 == .cell)) = true:=by rfl) (hkind:scope.kind = .function:=by rfl)
  (hnames:(scope.names.all fun y=>!(y.2 == .local) || (scope.names.lookup y.1 == some .local)) = true:=by rfl)
  (hfr:(scope.names.all fun y=>!(y.2 == .free) || (X.env.kindOf y.1 == some .cell || X.env.kindOf y.1 == some .free)) = true:=by rfl)
  (hN:N'.length = nt + cap.length:=by rfl) (hcapN:(cap.map fun j=>X.N[j]?) = (N'.drop nt).map some:=by rfl) (hcapF:((N'.drop nt).all fun x=>scope.names.lookup x == some .free) = true:=by rfl)
  (hs:∀ x,foldedSetIterable iter X.env x = pure x:=by intro _;rfl) :
  PS X (.Assign [.Name x pos'] (.ListComp elt [⟨tg,iter,ifs,0⟩] scope cpos) pos) (aEP (aDT nt cap wi g tt te) (lG i)):=by
 intro pins s σ H Ds I h
 have hfr':∀ y ∈ scope.names,y.2 = .free → (X.env.kindOf y.1 = some .cell ∨ X.env.kindOf y.1 = some .free):=fun y hy e=>by
  have z:=gW hfr y hy
  rw [e] at z
  have z':(X.env.kindOf y.1 == some .cell || X.env.kindOf y.1 == some .free) = true:=z
  rcases Bool.or_eq_true_iff.mp z' with q | q
  ·exact .inl (beq_iff_eq.mp q)
  ·exact .inr (beq_iff_eq.mp q)
 have hcell':∀ y ∈ scope.names,y.2 ≠ .cell:=fun y hy e=>by
  have z:=gW hcell y hy
  rw [e] at z
  cases z
 obtain ⟨cl,hcl,hclk,hclh⟩:=pY (scope:=scope) (env:=X.env) fun y hy e=>I.ok.has y.1 (hfr' y hy e)
 have hnames':∀ y ∈ scope.names,y.2 = .local → scope.names.lookup y.1 = some .local:=fun y hy e=>by
  have z:=gW hnames y hy
  rw [e] at z
  exact beq_iff_eq.mp z
 have hcapN':∀ (k j:Nat),cap[k]? = some j → N'[nt + k]? = X.N[j]?:=fun k j e=>by
  have z:=congrArg (fun l:List (Option Str)=>l[k]?) hcapN
  simp only [List.getElem?_map,e,Option.map_some,List.getElem?_drop] at z
  cases q:N'[nt + k]? with
  | none=>rw [q] at z;cases z
  | some x=>rw [q] at z;exact (Option.some.inj z).symm
 rw [exec_Assign_Name_used _ _ _ _ hsw]
 refine wpAny_bind (wpAny_standAt (wpAny_bind ?_))
 show wpAny _ X.A (do let _ ← comprehension (.ListComp elt [⟨tg,iter,ifs,0⟩] scope cpos) scope X.env _ (newList []) false (eval iter X.env) (some (assign (.Name x pos') X.env))) _ _ s
 refine wpAny_bind (wpAny_mono (wpAny_comprehension_free (use:=some (assign (.Name x pos') X.env)) (Q:=fun _ s'=>SP X pins Ds .next s') rfl hs hcl hkind hnames'
  (thn (hi pins s σ H _ I h) fun v s1 h1=>thn h1 fun itv s2 h2=>?_)) (fun _ s' hq=>wpAny_pure (wpAny_pure hq)) fun _ _ e=>e)
 obtain ⟨it,fp,tn,J,H2,e,I2,T,st2,f2,hw⟩:=h2
 subst e
 refine pV (RR:=fun acc C=>compPost (model X.prog X.w) X.A X.xe (some (assign (.Name x pos') X.env)) (fun _ s'=>SP X pins Ds .next s') acc C) hc I2 T st2 f2 hclk hclh hcell' hkind hfr' hN hcapN' (fun x hx=>beq_iff_eq.mp (gW hcapF x hx)) hg hgk ht he hw ?_
 intro D C s' H' ys hD q I' B
 obtain ⟨m,hn⟩:=B.ns
 obtain ⟨oC,es,ep,hoC,hdC,hrest⟩:=id hn
 have nofs:C ∉ X.fs:=fun hb=>by
  obtain ⟨_,o,ho,_⟩:=I'.ok.funs.mem hb
  exact absurd (Nat.lt_of_lt_of_le (Heap.lt_size ho) B.ab) (Nat.lt_irrefl _)
 have IC:Inv X ((C,oC) :: pins) σ (upd H' D (.lst ys)) s':=I'.pins_of fun p hp=>by
  rcases List.mem_cons.mp hp with rfl | hp
  ·exact ⟨hoC,B.fr,B.ne,nofs,fun v z=>by rw [hdC] at z;cases z⟩
  ·exact I'.pin p (List.mem_append_right _ hp)
 show wpAny _ X.A (assign (.Name x pos') X.env (.ref D)) _ _ _
 refine thn (bN hXN hix hx hfn ((C,oC) :: pins) s' σ (upd H' D (.lst ys)) (.ref D) (.ref D) Ds.nx IC rfl (q D hD)) fun _ s'' h''=>?_
 obtain ⟨σ2,H3,I3,q3⟩:=h''
 have pC:=I3.pin (C,oC) (List.mem_append_right _ List.mem_cons_self)
 refine ⟨m,hn.at' (fun o e=>?_),fun h4 hs4=>⟨σ2,H3,?_,q3⟩⟩
 ·rw [hoC] at e
  cases e
  exact pC.1
 ·have I4:Inv X pins σ2 H3 s'':=I3.pins_of fun p hp=>I3.pin p (List.mem_append_right _ (List.mem_cons_of_mem _ hp))
  exact I4.turned (it:=C) (t':=s''.toks) (fun b o hb e=>hs4.extBut b o hb e) pC.2.1 B.ne (.inr B.ab) B.cl B.pn
end L2
namespace L2
open PySem PySem.Spec PyProof.Rows
section
variable {X:Cx}
end
structure InstC (K:PySem.W.Frag) (C:Addr):Prop where
 ha:PySem.W.findIn K (.ref C) "__class__" = some (some (.builtin "object.__class__"))
 hn:PySem.W.specialIn K (.builtin "object.__class__") "__get__" = some (some (.builtin "getset_descriptor.__get__"))
 htk:PySem.W.takesIn K (.builtin "object.__class__") = some true
 hm:PySem.W.mroIn K C (.type "object") = some true
theorem MethAt.mcD {P:Program} {w:World} {K:PySem.W.Frag} {mg:Str → Option Value} {base:Heap} {C:Addr} {m qual:Str} {st:Stmt} {N ps:List Str} {k:Nat} {sp:Sp} (D:MethAt K C m qual st ps) (S:FnScope N ps (aE st)) (len:∀ vs H Q E,sp vs H Q E → vs.length = ps.length)
  (hbody:∀ (f:Addr) (cdv:Value) (A:Around) (outer:List Env) (s:Shared) (H:Hp) (vs:List V) (Q:VK) (E:XK),Room k (A.deeper (envOfC qual (aE st) s.heap.objs.size f cdv)) → sp vs H Q E →
   ∃ t,PSs (iT CX0 P w K mg base N qual (aE st) f cdv A outer s H E).nox (aN st) t ∧ t { nx:=fun _ H'=>cO Q .non H',rt:=cO Q } (fW N vs) H):Mc P w K mg base (k + 1) C m ps sp:=by
 obtain ⟨f,fd,F,b,mm⟩:=D.ex
 refine ⟨f,fd,FnOk.drop len (F.ok S (fun vs H Q E ⟨Q',h,_⟩=>len vs H Q' E h) fun cdv A outer s H vs Q E hr ⟨Q',h,e⟩=>?_),b,mm⟩
 subst e
 exact hbody f cdv A outer s H vs Q' E hr h
theorem fQ.under {H:Hp} {p q:Addr} {o u:HO} (hp:H p = none) (d:mI o = true) (hq:L2.upd H p o q = none):fQ (L2.upd (L2.upd H p o) q u) (L2.upd H q u):=fun b=>by
 by_cases hb:b = q
 ·subst hb
  left
  rw [aF,aF]
 ·rw [aJ hb,aJ hb]
  by_cases hc:b = p
  ·subst hc
   right
   exact ⟨hp,o,aF,d⟩
  ·left
   rw [aJ hc]
end L2
namespace Ld
open PySem L2
def gL (c:Nat):Bool:=decide (97 ≤ c) && decide (c ≤ 122)
def dH (z:Str):Bool:=decide (1 ≤ z.length) && decide (z.length ≤ 8) && !decide (z = "sea") && z.cps.toList.all gL
def isInt:Dv → Bool
 | .int _=>true
 | _=>false
def aAQ:Dv → Bool
 | .bl _=>true
 | _=>false
def aGV:Dv → Bool
 | .str _=>true
 | _=>false
def aGX:Dv → Bool
 | .lst _=>true
 | _=>false
def aGU:Dv → Bool
 | .tup _=>true
 | _=>false
def yS (n:Int):Dv → Bool
 | .tup ds=>decide ((ds.length:Int) = n)
 | _=>false
def aGP (n:Int):Dv → Bool
 | .lst ds=>decide (1 ≤ ds.length) && decide ((ds.length:Int) ≤ n)
 | _=>false
def kO:Dv → Bool
 | .str z=>dH z
 | _=>false
def hgt (i:Int):Bool:=decide (-1000000 ≤ i) && decide (i ≤ 1000000)
def amt (i:Int):Bool:=decide (0 ≤ i) && decide (i ≤ 1000000)
def gN:Dv → Bool
 | .int i=>hgt i
 | _=>false
def iE:Dv → Bool
 | .int i=>amt i
 | _=>false
def dG (zs:List Str):Dv → Bool
 | .str z=>decide (z ∈ zs)
 | _=>false
def cH:Dv → Option Str
 | .tup (.str z :: _)=>some z
 | _=>none
def bH:Dv → Bool
 | .tup [a,b,c]=>kO a && (gN b && iE c)
 | _=>false
def iK:Dv → Bool
 | .lst ds=>(decide (1 ≤ ds.length) && decide (ds.length ≤ 12)) && (ds.all bH && decide ((ds.map cH).Nodup))
 | _=>false
def jP (zs:List Str) (a b:Dv):Bool:=dG zs a && (dG zs b && !deq a b)
def jK (c:Dv):Dv → Bool
 | .non=>true
 | .int i=>hgt i && (match c with | .int j=>decide (i < j) | _=>false)
 | _=>false
def cG (zs:List Str):Dv → Bool
 | .tup [n,a,b,c,r,s]=>kO n && jP zs a b && (gN c && (iE r && jK c s))
 | _=>false
def jQ (zs:List Str):Dv → Bool
 | .lst ds=>(decide (1 ≤ ds.length) && decide (ds.length ≤ 40)) && (ds.all (cG zs) && decide ((ds.map cH).Nodup))
 | _=>false
mutual
def eC:Dv → Bool
 | .str z=>decide (z.length ≤ 1000)
 | .lst ds=>decide (ds.length ≤ 1000) && fR ds
 | .tup ds=>decide (ds.length ≤ 1000) && fR ds
 | _=>true
def fR:List Dv → Bool
 | []=>true
 | d :: ds=>eC d && fR ds
end
theorem gA:∀ {ds:List Dv} {d:Dv},fR ds = true → d ∈ ds → eC d = true
 | [],_,_,m=>by cases m
 | e :: ds,d,f,m=>by
  rw [fR,Bool.and_eq_true] at f
  rcases List.mem_cons.mp m with rfl | m
  ·exact f.1
  ·exact gA f.2 m
theorem qV {ds:List Dv} (h:eC (.tup ds) = true):fR ds = true:=(Bool.and_eq_true_iff.mp (show (decide (ds.length ≤ 1000) && fR ds) = true from h)).2
theorem mM (K:PySem.W.Frag) {H:Hp} {d:Dv} {x:V} (h:Is H d x):∃ t,TyOf K H x t ∧ PySem.W.kitOne K t (.type "int") = some (isInt d || aAQ d) ∧ PySem.W.kitOne K t (.type "bool") = some (aAQ d) ∧
  PySem.W.kitOne K t (.type "str") = some (aGV d) ∧ PySem.W.kitOne K t (.type "list") = some (aGX d) ∧ PySem.W.kitOne K t (.type "tuple") = some (aGU d):=by
 cases d with
 | non=>cases (show x = .non from h);exact ⟨_,.non,rfl,rfl,rfl,rfl,rfl⟩
 | bl b=>cases (show x = .bl b from h);exact ⟨_,.bl b,rfl,fP _ _,rfl,rfl,rfl⟩
 | int i=>cases (show x = .int i from h);exact ⟨_,.int i,fP _ _,rfl,rfl,rfl,rfl⟩
 | str z=>cases (show x = .str z from h);exact ⟨_,.str z,rfl,rfl,fP _ _,rfl,rfl⟩
 | lst ds=>obtain ⟨a,vs,rfl,e,_⟩:=h;exact ⟨_,.lst e,rfl,rfl,rfl,fP _ _,rfl⟩
 | tup ds=>obtain ⟨a,vs,rfl,e,_⟩:=h;exact ⟨_,.tup e,rfl,rfl,rfl,rfl,fP _ _⟩
 | dct ks ds=>obtain ⟨a,vs,rfl,e,_⟩:=h;exact ⟨_,.dK e,rfl,rfl,rfl,rfl,rfl⟩
theorem sN:("abcdefghijklmnopqrstuvwxyz":Str).cps.toList = [97,98,99,100,101,102,103,104,105,106,107,108,109,110,111,112,113,114,115,116,117,118,119,120,121,122]:=by decide +kernel
theorem vP (c:Nat):(!(Builtin.Str.occurrences ("abcdefghijklmnopqrstuvwxyz":Str) ⟨#[c]⟩ 0 ("abcdefghijklmnopqrstuvwxyz":Str).length 1).isEmpty) = gL c:=by
 rw [PySem.StrLaws.found_one,sN]
 have h1:∀ d,d ∈ ([97,98,99,100,101,102,103,104,105,106,107,108,109,110,111,112,113,114,115,116,117,118,119,120,121,122]:List Nat) → 97 ≤ d ∧ d ≤ 122:=by decide
 have h2:∀ k,k < 26 → (97 + k) ∈ ([97,98,99,100,101,102,103,104,105,106,107,108,109,110,111,112,113,114,115,116,117,118,119,120,121,122]:List Nat):=by decide
 unfold gL
 by_cases h:97 ≤ c ∧ c ≤ 122
 ·have e:=h2 (c - 97) (by omega)
  rw [show 97 + (c - 97) = c by omega] at e
  rw [decide_eq_true e,decide_eq_true h.1,decide_eq_true h.2]
  rfl
 ·have e:¬ c ∈ ([97,98,99,100,101,102,103,104,105,106,107,108,109,110,111,112,113,114,115,116,117,118,119,120,121,122]:List Nat):=fun m=>h (h1 c m)
  rw [decide_eq_false e]
  by_cases h':97 ≤ c
  ·rw [decide_eq_true h',decide_eq_false (fun z=>h ⟨h',z⟩)]
   rfl
  ·rw [decide_eq_false h']
   rfl
def aU (d:Dv):Str:=(cH d).getD ""
def mR (d:Dv):Key:=.inr (aU d)
theorem aBD {d:Dv} {z:Str} (h:cH d = some z):aU d = z:=by unfold aU;rw [h];rfl
def lD (d1 d2:Addr):List (Str × V):=eR "dyke_rows" (.ref d2) (eR "field_rows" (.ref d1) [])
theorem aHC:¬ (("field_rows":Str) = "dyke_rows"):=by decide +kernel
theorem wT (d1 d2:Addr):(lD d1 d2).lookup ("field_rows":Str) = some (.ref d1):=by
 unfold lD
 rw [cM,if_neg aHC,cM,if_pos rfl]
theorem aCU (d1 d2:Addr):(lD d1 d2).lookup ("dyke_rows":Str) = some (.ref d2):=by
 unfold lD
 rw [cM,if_pos rfl]
theorem gM (d1 d2:Addr) {m:Str} (h1:¬ m = "dyke_rows") (h2:¬ m = "field_rows"):(lD d1 d2).lookup m = none:=by
 unfold lD
 rw [cM,if_neg h1,cM,if_neg h2]
 all_goals rfl
def qA (H:Hp) (a:Addr) (ds:List Dv):Prop:=∃ kvs,H a = some (.dK kvs) ∧ kvs.map (·.1) = ds.map mR ∧ IsL H ds (kvs.map (·.2))
theorem qA.same {H H':Hp} (S:aL H H') {a:Addr} {ds:List Dv} (h:qA H a ds):qA H' a ds:=by
 obtain ⟨kvs,e,k,i⟩:=h
 exact ⟨kvs,S _ _ e,k,IsL.same S _ _ i⟩
structure LandAt (C:Addr) (H:Hp) (x:Addr) (fs ds:List Dv):Prop where
 ex:∃ dx d1 d2,H x = some (.ins C dx (lD d1 d2)) ∧ qA H d1 fs ∧ qA H d2 ds
 okf:iK (.lst fs) = true
 okd:jQ ("sea" :: fs.map aU) (.lst ds) = true
theorem LandAt.same {C:Addr} {H H':Hp} (S:aL H H') {x:Addr} {fs ds:List Dv} (h:LandAt C H x fs ds):LandAt C H' x fs ds:=by
 obtain ⟨⟨dx,d1,d2,e,t1,t2⟩,a,b⟩:=h
 exact ⟨⟨dx,d1,d2,S _ _ e,t1.same S,t2.same S⟩,a,b⟩
theorem iG:∀ {ds:List Dv} {p:Dv → Bool},(∀ d,p d = true → ∃ z,cH d = some z) → ds.all p = true → ds.map cH = (ds.map aU).map some
 | [],_,_,_=>rfl
 | d :: ds,p,hp,h=>by
  rw [List.all_cons,Bool.and_eq_true] at h
  obtain ⟨z,e⟩:=hp d h.1
  rw [List.map_cons,List.map_cons,List.map_cons,iG hp h.2,aBD e,e]
theorem fF (zs:List Str):(zs.map some).Nodup ↔ zs.Nodup:=by
 induction zs with
 | nil=>simp
 | cons z zs ih =>
  rw [List.map_cons,List.nodup_cons,List.nodup_cons,ih]
  simp
theorem bJ {d:Dv} (h:bH d = true):∃ z g e,d = .tup [.str z,.int g,.int e] ∧ dH z = true ∧ hgt g = true ∧ amt e = true:=by
 unfold bH at h
 split at h
 ·rename_i a b c
  rw [Bool.and_eq_true,Bool.and_eq_true] at h
  obtain ⟨h1,h2,h3⟩:=h
  cases a with
  | str z =>
   cases b with
   | int g =>
    cases c with
    | int e=>exact ⟨z,g,e,rfl,h1,h2,h3⟩
    | _=>cases h3
   | _=>cases h2
  | _=>cases h1
 ·cases h
theorem mU (d:Dv) (h:bH d = true):∃ z,cH d = some z:=by
 obtain ⟨z,_,_,rfl,_⟩:=bJ h
 exact ⟨z,rfl⟩
theorem fG {zs:List Str} {d:Dv} (h:cG zs d = true):∃ n a b c r s,d = .tup [.str n,.str a,.str b,.int c,.int r,s] ∧ dH n = true ∧ a ∈ zs ∧ b ∈ zs ∧ a ≠ b ∧ hgt c = true ∧ amt r = true ∧ jK (.int c) s = true:=by
 unfold cG at h
 split at h
 ·rename_i n a b c r s
  rw [Bool.and_eq_true,Bool.and_eq_true,Bool.and_eq_true,Bool.and_eq_true] at h
  obtain ⟨⟨h1,h2⟩,h3,h4,h5⟩:=h
  unfold jP at h2
  rw [Bool.and_eq_true,Bool.and_eq_true] at h2
  obtain ⟨h6,h7,h8⟩:=h2
  cases n with
  | str n =>
   cases a with
   | str a =>
    cases b with
    | str b =>
     cases c with
     | int c =>
      cases r with
      | int r =>
       refine ⟨n,a,b,c,r,s,rfl,h1,of_decide_eq_true h6,of_decide_eq_true h7,?_,h3,h4,h5⟩
       intro z
       subst z
       have:(!(a == a)) = true:=h8
       rw [beq_self_eq_true] at this
       cases this
      | _=>cases h4
     | _=>cases h3
    | _=>cases h7
   | _=>cases h6
  | _=>cases h1
 ·cases h
theorem pR {zs:List Str} (d:Dv) (h:cG zs d = true):∃ z,cH d = some z:=by
 obtain ⟨z,_,_,_,_,_,rfl,_⟩:=fG h
 exact ⟨z,rfl⟩
structure GoodF (fs:List Dv):Prop where
 l1:1 ≤ fs.length
 l2:fs.length ≤ 12
 all:∀ d ∈ fs,bH d = true
 nd:(fs.map aU).Nodup
structure GoodD (zs:List Str) (ds:List Dv):Prop where
 l1:1 ≤ ds.length
 l2:ds.length ≤ 40
 all:∀ d ∈ ds,cG zs d = true
 nd:(ds.map aU).Nodup
theorem mD (fs:List Dv):iK (.lst fs) = true ↔ GoodF fs:=by
 show ((decide (1 ≤ fs.length) && decide (fs.length ≤ 12)) && (fs.all bH && decide ((fs.map cH).Nodup))) = true ↔ _
 rw [Bool.and_eq_true,Bool.and_eq_true,Bool.and_eq_true,decide_eq_true_iff,decide_eq_true_iff,decide_eq_true_iff]
 constructor
 ·rintro ⟨⟨a,b⟩,c,d⟩
  rw [iG mU c,fF] at d
  exact ⟨a,b,List.all_eq_true.mp c,d⟩
 ·rintro ⟨a,b,c,d⟩
  have c':=List.all_eq_true.mpr c
  refine ⟨⟨a,b⟩,c',?_⟩
  rw [iG mU c',fF]
  exact d
theorem mE (zs:List Str) (ds:List Dv):jQ zs (.lst ds) = true ↔ GoodD zs ds:=by
 show ((decide (1 ≤ ds.length) && decide (ds.length ≤ 40)) && (ds.all (cG zs) && decide ((ds.map cH).Nodup))) = true ↔ _
 rw [Bool.and_eq_true,Bool.and_eq_true,Bool.and_eq_true,decide_eq_true_iff,decide_eq_true_iff,decide_eq_true_iff]
 constructor
 ·rintro ⟨⟨a,b⟩,c,d⟩
  rw [iG pR c,fF] at d
  exact ⟨a,b,List.all_eq_true.mp c,d⟩
 ·rintro ⟨a,b,c,d⟩
  have c':=List.all_eq_true.mpr c
  refine ⟨⟨a,b⟩,c',?_⟩
  rw [iG pR c',fF]
  exact d
def aGW:Dv → Bool
 | .non=>true
 | _=>false
def hasSill:Dv → Bool
 | .tup [_,_,_,_,_,s]=>!aGW s
 | _=>false
theorem qW:∀ {ds:List Dv},(∀ d ∈ ds,eC d = true) → fR ds = true
 | [],_=>rfl
 | d :: ds,h=>by
  rw [fR,h d List.mem_cons_self,qW fun e m=>h e (List.mem_cons_of_mem _ m)]
  rfl
end Ld
namespace Mt02
open PySem L2 Ld
def aIC (i:Nat):Nat:=if i < 18 then 97 + i else 98 + i
def rst (c:Int):Nat → Int
 | 0=>c / 3
 | j + 1=>rst c j / 25
def num (o:Nat → Int) (c p b:Int) (k j:Nat):Int:=if (j:Int) = b then c / 17 + ((k:Int) / 25) else if (j:Int) = p then c / 11 + (k:Int) else o j
def aHH (o:Nat → Int) (c p b:Int) (k j:Nat):Nat:=aIC (num o c p b k j % 25).toNat
def nm (o:Nat → Int) (c p b:Int) (n k:Nat):Str:=⟨((List.range n).map (aHH o c p b k)).toArray⟩
structure Names (zs:List Str) (n:Nat):Prop where
 len:zs.length = n
 nd:zs.Nodup
 good:∀ z ∈ zs,dH z = true
end Mt02
namespace Mt04
open PySem L2 Ld
def aBO:Dv → Int
 | .tup [_,_,_,.int c,_,_]=>c
 | _=>0
def hOf:Dv → Int
 | .tup [_,.int h]=>h
 | _=>0
def aDI (ds:List Dv) (z:Str):Int:=(ds.find? fun d=>decide (aU d = z)).elim 0 aBO
def aAP (ds:List Dv):Dv → Bool
 | .tup [.str z,.int h]=>decide (z ∈ ds.map aU) && (hgt h && decide (aDI ds z ≤ h))
 | _=>false
def areWorks (ds:List Dv):Dv → Bool
 | .lst ws=>ws.all (aAP ds) && decide ((ws.map cH).Nodup)
 | _=>false
structure GoodW (ds ws:List Dv):Prop where
 all:∀ d ∈ ws,aAP ds d = true
 nd:(ws.map aU).Nodup
def wAt (ws:List Dv) (z:Str):Option Int:=(ws.find? fun d=>decide (aU d = z)).map hOf
def aHX (ws:List Dv):Dv → Dv
 | .tup [.str n,a,b,.int c,r,s]=>.tup [.str n,a,b,.int ((wAt ws n).getD c),r,s]
 | d=>d
def raisedD (ds ws:List Dv):List Dv:=ds.map (aHX ws)
def kvOf (d:Dv):Key × V:=(mR d,.int (hOf d))
end Mt04
namespace Mt22
open PySem L2 Ld
structure St where
 nm:Str
 near:Str
 far:Str
 h:Int
abbrev Lo:=Str → Option Int
def sea:Str:="sea"
def lo0:Lo:=fun z=>if z = sea then some (-1000000) else none
def aGG (lo:Lo) (s:St):Lo:=match lo s.near with
 | none=>lo
 | some a=>fun z=>if z = s.far then some (match lo s.far with | none=>max a s.h | some b=>min (max a s.h) b) else lo z
def aGF (S:List St) (lo:Lo):Lo:=S.foldl aGG lo
def zR (S:List St):Nat → Lo
 | 0=>lo0
 | n + 1=>aGF S (zR S n)
inductive Walk (S:List St):Nat → Str → Int → Prop
 | sea:Walk S 0 Mt22.sea (-1000000)
 | step {k:Nat} {a:Int} {s:St} (w:Walk S k s.near a) (m:s ∈ S):Walk S (k + 1) s.far (max a s.h)
def Le (lo lo':Lo):Prop:=∀ z c,lo' z = some c → ∃ d,lo z = some d ∧ d ≤ c
def Att (S:List St) (lo:Lo):Prop:=∀ z c,lo z = some c → ∃ k,Walk S k z c
inductive Path (S:List St):List Str → Str → Int → Prop
 | sea:Path S [] Mt22.sea (-1000000)
 | step {p:List Str} {a:Int} {s:St} (w:Path S p s.near a) (m:s ∈ S) (n:s.far ∉ p):Path S (s.far :: p) s.far (max a s.h)
structure Flood (S:List St) (lo:Lo):Prop where
 att:Att S lo
 low:∀ k v b,Walk S k v b → ∃ c,lo v = some c ∧ c ≤ b
inductive Come (S:List St) (L:Int):Str → Prop
 | sea:Come S L Mt22.sea
 | step {s:St} (w:Come S L s.near) (m:s ∈ S) (h:s.h < L):Come S L s.far
end Mt22
namespace MtF
open PySem L2 Ld Mt04 Mt22
def aET:Dv → Dv
 | .tup [_,_,_,_,_,s]=>s
 | _=>.non
def aGY:Dv → Int
 | .int i=>i
 | _=>0
def aEZ:Dv → Str
 | .tup [_,.str a,_,_,_,_]=>a
 | _=>""
def uZ:Dv → Str
 | .tup [_,_,.str b,_,_,_]=>b
 | _=>""
def zB (op:List Str) (d:Dv):Int:=if aU d ∈ op then aGY (aET d) else aBO d
def aDA:Dv → Int
 | .tup [_,.int g,_]=>g
 | _=>0
def aAT (fs:List Dv) (z:Str):Int:=(fs.find? fun d=>decide (aU d = z)).elim 0 aDA
def zA (fs:List Dv) (op:List Str) (d:Dv) (near far:Str):List Mt22.St:=if far = "sea" then [] else [⟨aU d,near,far,max (zB op d) (aAT fs far)⟩]
def aBY (fs:List Dv) (op:List Str) (d:Dv):List Mt22.St:=zA fs op d (aEZ d) (uZ d) ++ zA fs op d (uZ d) (aEZ d)
def aEQ (fs ds:List Dv) (op:List Str):List Mt22.St:=ds.flatMap (aBY fs op)
def stepDv (s:Mt22.St):Dv:=.tup [.str s.nm,.str s.near,.str s.far,.int s.h]
def flo (fs ds:List Dv) (op:List Str):Mt22.Lo:=zR (aEQ fs ds op) fs.length
def optV:Option Int → V
 | some i=>.int i
 | none=>.non
end MtF
namespace Mt21
open PySem L2 Ld Mt02
def ab (i:Int):Nat:=97 + (i % 26).toNat
theorem rW (i:Int):gL (ab i) = true:=by
 have h0:=Int.emod_nonneg i (show (26:Int) ≠ 0 by decide)
 have h1:=Int.emod_lt_of_pos i (show (0:Int) < 26 by decide)
 unfold ab gL
 rw [decide_eq_true (by omega),decide_eq_true (by omega)]
 rfl
theorem aDN:("abcdefghijklmnopqrstuvwxyz":Str).cps.toList = (List.range 26).map fun i=>97 + i:=by decide +kernel
theorem aEI (i:Int):atI ("abcdefghijklmnopqrstuvwxyz":Str).cps.toList (i % 26) = some (ab i):=by
 have h0:=Int.emod_nonneg i (show (26:Int) ≠ 0 by decide)
 have h1:=Int.emod_lt_of_pos i (show (0:Int) < 26 by decide)
 obtain ⟨k,hk⟩:=Int.eq_ofNat_of_zero_le h0
 unfold ab
 rw [hk,aDN]
 refine aQ ?_
 rw [List.getElem?_map,List.getElem?_range (by omega)]
 rfl
def oR (i:Int):Str:=⟨#[ab i]⟩
theorem pI:∀ (ys:List Str) (acc:Array Nat),(ys.foldl (fun acc p=>acc ++ ("":Str).cps ++ p.cps) acc).toList = acc.toList ++ (ys.map fun y=>y.cps.toList).flatten
 | [],acc=>by simp
 | y :: ys,acc=>by
  rw [List.foldl_cons,pI ys]
  have:("":Str).cps = #[]:=by decide +kernel
  rw [this]
  simp
theorem vM (ys:List Str):(Txt.join "" ys).cps.toList = (ys.map fun y=>y.cps.toList).flatten:=by
 cases ys with
 | nil =>
  show (Str.empty.cps).toList = []
  decide +kernel
 | cons y ys =>
  show (List.foldl (fun acc p=>acc ++ ("":Str).cps ++ p.cps) y.cps ys).toList = _
  rw [pI]
  simp
theorem nV (z:Str) (k:Nat) (h:k ≤ z.length):(Txt.slice z none (some (k:Int))).cps.toList = z.cps.toList.take k:=by
 rw [Tx.slice_codes,Tx.cl_nat]
 show (z.cps.toList.drop 0).take (min k z.length - 0) = _
 rw [List.drop_zero,Nat.sub_zero,Nat.min_eq_left h]
theorem pS (z:Str) (k:Nat) (h:k ≤ z.length):(Txt.slice z (some (k:Int)) none).cps.toList = z.cps.toList.drop k:=by
 rw [Tx.slice_codes,Tx.cl_nat,Nat.min_eq_left h]
 show (z.cps.toList.drop k).take (z.length - k) = _
 rw [List.take_of_length_le]
 rw [List.length_drop]
 show z.cps.toList.length - k ≤ z.length - k
 simp [Str.length]
theorem fZ (z:Str):z.length = z.cps.toList.length:=by simp [Str.length]
theorem tW {f:Nat → Str} {n:Nat} (h:∀ k l,k < n → l < n → f k = f l → k = l):((List.range n).map f).Nodup:=by
 rw [List.nodup_iff_pairwise_ne,List.pairwise_map]
 refine List.Pairwise.imp_of_mem ?_ (List.pairwise_lt_range (n:=n))
 intro k l hk hl hkl he
 have:=h k l (List.mem_range.mp hk) (List.mem_range.mp hl) he
 omega
structure Put (z b:Str) (at':Nat) (x y:Int):Prop where
 codes:z.cps.toList = b.cps.toList.take at' ++ [ab x,ab y] ++ b.cps.toList.drop at'
end Mt21
namespace Mt05
open PySem L2 Ld Mt02
def noS (z:Str):Prop:=¬ (115:Nat) ∈ z.cps.toList
structure NamesS (zs:List Str) (n:Nat):Prop where
 nm:Names zs n
 nos:∀ z ∈ zs,noS z
end Mt05
namespace Mt23
open PySem L2 Ld Mt02 Mt04 Mt22 MtF
def noHigher:Option Int → Option Int → Bool
 | some a,none=>true
 | some a,some b=>decide (a ≤ b)
 | none,none=>true
 | none,some _=>false
def StepsLe (S S':List Mt22.St):Prop:=∀ s ∈ S',∃ t ∈ S,t.near = s.near ∧ t.far = s.far ∧ t.h ≤ s.h
def aHS (d:Dv):Bool:=decide (Mt22.sea ∈ [aEZ d,uZ d])
def firsts (ds:List Dv) (op:List Str):List Int:=(ds.filter aHS).map (zB op)
end Mt23
namespace L2
open PySem PySem.Spec PyProof.Rows
section
variable {X:Cx}
end
end L2
namespace L2
open PySem PySem.Spec PyProof.Rows
section
variable {X:Cx}
end
def sZ (nt:Nat) (u:TGs):Prop:=∀ vs σ H Q,u vs σ H Q → u vs σ H fun σ2 H2=>Q σ2 H2 ∧ σ2.length = σ.length ∧ ∀ i,nt ≤ i → σ2[i]? = σ[i]?
theorem vR {nt:Nat}:sZ nt aHB:=fun vs σ H Q ⟨e,q⟩=>⟨e,q,rfl,fun _ _=>rfl⟩
theorem mT {nt i:Nat} {u:TGs} (h:i < nt) (hu:sZ nt u):sZ nt (aEE (lG i) u):=fun vs σ H Q ⟨v,r,e,q⟩=>by
 have q':=hu r (σ.set i (some v)) H Q q
 have ef:(fun (σ2:St) (H2:Hp)=>Q σ2 H2 ∧ σ2.length = (σ.set i (some v)).length ∧ ∀ j,nt ≤ j → σ2[j]? = (σ.set i (some v))[j]?) = (fun (σ2:St) (H2:Hp)=>Q σ2 H2 ∧ σ2.length = σ.length ∧ ∀ j,nt ≤ j → σ2[j]? = σ[j]?):=by
  funext σ2 H2
  rw [List.length_set]
  have:(∀ j,nt ≤ j → σ2[j]? = (σ.set i (some v))[j]?) = (∀ j,nt ≤ j → σ2[j]? = σ[j]?):=by
   refine propext ⟨fun h1 j hj=>?_,fun h1 j hj=>?_⟩
   ·rw [h1 j hj,List.getElem?_set_ne (by omega)]
   ·rw [h1 j hj,List.getElem?_set_ne (by omega)]
  rw [this]
 rw [ef] at q'
 exact ⟨v,r,e,q'⟩
theorem xY {nt n:Nat} {K:PySem.W.Frag} {u:TGs} (hu:sZ nt u):uR nt (aAW K n u):=fun x σ H Q ⟨a,xs,e,hq,hl,q⟩=>⟨a,xs,e,hq,hl,hu xs σ H Q q⟩
theorem aCI {X:Cx} {pos:Pos} {es:List Expr} {k:Nat} {t:TGs} {n:Nat} {K:PySem.W.Frag} (e:X.K = K) (hc:X.calm = true) (h:PGs X es t)
  (hn:(assignEach es X.env).length = n:=by rfl) (hst:(assignEach es X.env).findIdx? (·.1) = none:=by rfl):PG X (.Tuple es k pos) (aAW K n t):=by subst e;exact zZ hc h hn hst
end L2
namespace L2
open PySem PySem.Spec PyProof.Rows
theorem yK:bootBuiltins "abs" = some (.builtin "abs"):=by decide +kernel
section
variable {X:Cx}
end
end L2
namespace L2
open PySem PySem.Spec PyProof.Rows
section
variable {X:Cx} {e:Expr} {t:TA} {p1 p2:Pos} {pos1 pos2:Pos}
end
end L2
namespace L2
open PySem PySem.Spec PyProof.Rows
theorem nW:∀ {ys:List Str} {us:List Value},aY (ys.map V.str) us → StrsAre us ys
 | [],us,r=>by
  rw [List.map_nil] at r
  cases r
  exact .nil
 | b :: bs,us,r=>by
  rw [List.map_cons] at r
  cases r with
  | cons r1 r2 =>
   obtain ⟨t,rfl⟩:=r1
   exact .cons b t (nW r2)
section
variable {X:Cx}
theorem aCP:MtR X "str.join" (fun x vs H Q=>∃ z p ys,x = .str z ∧ vs = [.ref p] ∧ SqL X.K H p (ys.map V.str) ∧ (ys.map fun y=>y.length).sum + ys.length * z.length ≤ 16777216 ∧ Q (.str (Txt.join z ys)) H):=by
 intro pins s σ H x xs v us Q I rx r h
 obtain ⟨z,p,ys,rfl,rfl,hq,hz,q⟩:=h
 obtain ⟨t,rfl⟩:=rx
 obtain ⟨u,rfl,ru⟩:=aY.one r
 cases ru
 obtain ⟨its,rv,pl,hl⟩:=I.list hq
 exact join_list pl.isList (nW rv) hz fun t' k=>⟨.str _,H,I.tok k,⟨_,rfl⟩,q⟩
end
end L2
namespace L2
open PySem PySem.Spec PyProof.Rows
section
variable {X:Cx}
end
end L2
namespace L2
open PySem PySem.Spec PyProof.Rows
section
variable {prog:Program} {w:World} {A:Around} {R:Result → Shared → Prop} {I S:Addr} {fp wr:List Addr} {n:Nat} {P:Nat → Value → Prop} {St:Nat → Heap → Prop}
end
section
variable {prog:Program} {w:World} {A:Around} {E:Value → Shared → Prop} {s:Shared}
end
section
variable {X:Cx}
end
end L2
namespace L2
open PySem PySem.Spec PyProof.Rows
def Itd (d:Addr) (o:Obj) (kvs:List (Key × V)):It :=
 ⟨fun i H=>H d = some (.frz o (.dK kvs)) ∧ i < kvs.length,fun i H x H'=>H' = H ∧ ∃ kv,kvs[i]? = some kv ∧ x = kV kv.1,fun i H=>H d = some (.frz o (.dK kvs)) ∧ kvs.length ≤ i⟩
theorem xH {P:Program} {w:World} {K:PySem.W.Frag} {tg:Expr} {d it:Addr} {o:Obj} {kvs:List (Key × V)} {vs:List (Key × Value)} {ep:Nat} {h0:Heap} (kv:KV kvs vs) (hd0:h0.get? d = some o) (hat:h0.DictAt (aS P w) d vs ep) :
  Turn P w K tg (Itd d o kvs) [it] it (fun i h=>h.IsKeyIter it d i vs.length ep) where
 mem:=by simp
 obj:=fun i h st b hb=>by
  have e:b = it:=by simpa using hb
  subst e
  obtain ⟨ob,e,c,dd⟩:=st
  exact ⟨ob,e,fun v z=>by rw [dd] at z;cases z⟩
 keep:=fun i h h' st k=>st.at fun ob e=>k it (by simp) ob e
 item:=by
  intro X hP hw hK hc i pins s σ H E I hf st hg
  subst hP hw hK
  obtain ⟨hH,hi⟩:=hg
  obtain ⟨f0,f1,f2,f3,f4,f5⟩:=hf it (by simp)
  have hget:s.heap.get? d = some o:=(show bG X.prog X.w H s.heap d (.frz o (.dK kvs)) from I.hok d _ hH).1
  have hat':=hat.at' (h':=s.heap) fun ob e=>by rw [hd0] at e;cases e;exact hget
  have hl:=KV.length kv
  obtain ⟨⟨k,v⟩,hx⟩:∃ p,vs[i]? = some p:=⟨_,List.getElem?_eq_getElem (by omega)⟩
  obtain ⟨q,eq,e1,e2⟩:=KV.get kv hx
  refine wpAny_pyNext_dict_item st hat' hx fun key h' hkey st' sb=>?_
  have I1:Inv X pins σ H { s with heap:=h' }:=I.turned (t':=s.toks) (fun b ob hb e=>(sb.2 b hb).trans e) f0 f1 f3 f4 f5
  obtain ⟨ob,e,c,dd⟩:=id st'
  refine ⟨key,rfl,wZ (s:={ s with heap:=h' }) e c dd (by decide) ⟨kV q.1,H,I1,?_,⟨rfl,q,eq,rfl⟩,st',fun b hb=>(hf b hb).1⟩⟩
  rw [show q.1 = k from e1]
  exact kB hkey
 done:=by
  intro X hP hw hK hc i pins s σ H E I hf st hg
  subst hP hw hK
  obtain ⟨hH,hi⟩:=hg
  obtain ⟨f0,f1,f2,f3,f4,f5⟩:=hf it (by simp)
  have hget:s.heap.get? d = some o:=(show bG X.prog X.w H s.heap d (.frz o (.dK kvs)) from I.hok d _ hH).1
  have hat':=hat.at' (h':=s.heap) fun ob e=>by rw [hd0] at e;cases e;exact hget
  have hl:=KV.length kv
  exact wpAny_pyNext_dict_end (I.ok.hd hc) st hat' (List.getElem?_eq_none (by omega)) fun h' eb=>⟨rfl,I.turned (t':=s.toks) (fun b ob hb e=>eb b ob hb e) f0 f1 f3 f4 f5⟩
 self:=fun _ _ _ _ _ st h=>wpAny_pyIter_keyiter st h
section
variable {X:Cx} {tg:Expr}
def aHA (td:TE):TI:=fun σ H R=>td σ H fun x H1=>∃ d kvs,x = .ref d ∧ H1 d = some (.dK kvs) ∧ ∀ o,R (Itd d o kvs) (upd H1 d (.frz o (.dK kvs)))
theorem aCH {l:Expr} {tl:TE} (hl:PE X l tl):PI X tg l (aHA tl):=by
 intro pins s σ H R I h
 refine thn (hl pins s σ H _ I h) fun v s1 ⟨x,H1,I1,r1,q1⟩=>?_
 obtain ⟨d,kvs,e,hH,q⟩:=q1
 subst e
 cases r1
 have hok:=I1.hok d _ hH
 obtain ⟨hz,lo,vs,kv,hD⟩:=id hok
 obtain ⟨ep,hat⟩:=hD.dictAt
 obtain ⟨o,es,ho,_⟩:=id hat
 refine wpAny_pyIter_dict lo hat ?_
 have I2:Inv X pins σ (upd H1 d (.frz o (.dK kvs))) s1:=I1.write (x:=d) (e:=d) (o:=.frz o (.dK kvs)) (h':=s1.heap) (t':=s1.toks) (by rw [hH];exact trivial) (.inl rfl) (fun _ _ _ q=>q) ⟨o,ho⟩ ⟨ho,hz,lo,vs,kv,hD⟩
 refine ⟨s1.heap.objs.size,[s1.heap.objs.size],_,_,upd H1 d (.frz o (.dK kvs)),rfl,I2.kept (t':=s1.toks) fun b ob e=>Heap.get?_push_of_some _ e,xH kv ho hat,⟨_,Heap.get?_push_size _ rfl,rfl,rfl⟩,fun b hb=>?_,q o⟩
 have e:b = s1.heap.objs.size:=by simpa using hb
 subst e
 exact I2.fpOk (Nat.le_refl _) (I2.hok.fresh (Nat.le_refl _))
end
end L2
namespace L2
open PySem PySem.Spec PyProof.Rows
section
variable {X:Cx}
theorem aBA {d:Addr} {o:Obj} {kvs:List (Key × V)} {g:TG} {tb:TS} {D:Ends} {σ:St} {H:Hp} (Pv:Nat → St → Hp → Prop) (h0:Pv 0 σ H) (hl:∀ i σ H,i ≤ kvs.length → Pv i σ H → H d = some (.frz o (.dK kvs)))
  (hs:∀ i kv σ H,kvs[i]? = some kv → Pv i σ H → g (kV kv.1) σ H fun σ2 H2=>tb { D with nx:=Pv (i + 1),ct:=Pv (i + 1),bk:=D.nx } σ2 H2) (hd:∀ σ H,Pv kvs.length σ H → D.nx σ H) :
  ∃ W:Nat → Nat → St → Hp → Prop,(∃ m,W 0 m σ H) ∧ ∀ i m σ H,W i m σ H →
   ((Itd d o kvs).stop i H ∧ D.nx σ H) ∨ ((Itd d o kvs).go i H ∧ ∃ N:St → Hp → Prop,(∀ σ' H',N σ' H' → ∃ m',m' < m ∧ W (i + 1) m' σ' H') ∧ ∀ x H',(Itd d o kvs).yld i H x H' → g x σ H' fun σ2 H2=>tb { D with nx:=N,ct:=N,bk:=D.nx } σ2 H2):=by
 refine ⟨fun i m σ H=>m + i = kvs.length ∧ Pv i σ H,⟨kvs.length,rfl,h0⟩,?_⟩
 intro i m σ H hw
 obtain ⟨hm,pv⟩:=hw
 have at_:=hl i σ H (by omega) pv
 rcases Nat.lt_or_ge i kvs.length with lt | ge
 ·refine .inr ⟨⟨at_,lt⟩,Pv (i + 1),(fun σ' H' p'=>⟨kvs.length - (i + 1),by omega,by omega,p'⟩),fun x H' y=>?_⟩
  obtain ⟨eH,kv,ek,ex⟩:=y
  subst eH ex
  exact hs i kv σ _ ek pv
 ·have ei:i = kvs.length:=by omega
  subst ei
  exact .inl ⟨⟨at_,Nat.le_refl _⟩,hd σ H pv⟩
end
end L2
namespace L2
open PySem PySem.Spec PyProof.Rows
def CX2 (P:Program) (w:World):CXT:=fun outer H s E e s'=>∃ (ea:Addr) (cls a0:Value) (B:Heap) (H':Hp),e = .ref ea ∧ s'.os = s.os ∧ AllBare s'.gens ∧ Un (frs outer) [] H H' s.heap s'.heap ∧ HOk P w H' s'.heap ∧
 Heap.FlyingW B outer ea cls a0 s'.heap ∧ (∀ b o o',s.heap.get? b = some o → s'.heap.get? b = some o' → b ∉ frs outer → B.get? b = some o') ∧ (∀ b o',H' b ≠ none → s'.heap.get? b = some o' → B.get? b = some o') ∧ E cls none H'
section
variable {X:Cx} {pins:List (Addr × Obj)} {σ:St} {H H':Hp} {s s':Shared} {B h2:Heap} {ea:Addr} {cls a0:Value}
theorem aBB (I:Inv X pins σ H s) (u:Un (frs X.stack) [] H H' s.heap s'.heap) (hB:∀ b o o',s.heap.get? b = some o → s'.heap.get? b = some o' → b ∉ frs X.stack → B.get? b = some o')
  (k:B.StaysIn h2) (us:s'.heap.UpToSlots h2):Un (frs X.stack) [] H H' s.heap h2 where
 keep:=fun b o e n hb hx=>k b o (hB b o o e (u.keep b o e n hb hx) hb)
 slot:=fun b o e n hb hx=>by
  obtain ⟨sl,e1⟩:=u.slot b o e n hb hx
  obtain ⟨_,o1,e2,hd⟩:=I.stack.mem hb
  rw [e] at e2
  cases e2
  obtain ⟨sl',e3⟩:=us b _ e1 hd
  exact ⟨sl',e3⟩
 free:=u.free
 there:=fun b o e hx=>by
  obtain ⟨o',e1⟩:=u.there b o e hx
  by_cases hb:b ∈ frs X.stack
  ·obtain ⟨_,o1,e2,hd⟩:=I.stack.mem hb
   rw [e] at e2
   cases e2
   obtain ⟨sl,e3⟩:=u.slot b o e (I.stkFree b hb) hb hx
   obtain ⟨sl',e4⟩:=us b _ e3 hd
   exact ⟨_,e4⟩
  ·exact ⟨o',k b o' (hB b o o' e e1 hb)⟩
 tups:=u.tups
 frzs:=u.frzs
 tbls:=u.tbls
theorem xB {P:Program} {w:World} (ok:HOk P w H' s'.heap) (hT:∀ b o',H' b ≠ none → s'.heap.get? b = some o' → B.get? b = some o') (k:B.StaysIn h2):HOk P w H' h2:=fun a o e =>
 (ok a o e).stay (fun b v hb q=>k b v (hT b v (by
  rcases hb with rfl | hb
  ·rw [e];simp
  ·rw [hb];simp) q)) (fun _ q=>q) fun _ _ q=>q
theorem xA (I:Inv X pins σ H s) (os:s'.os = s.os) (bare:AllBare s'.gens) (u:Un (frs X.stack) [] H H' s.heap s'.heap) (ok:HOk X.prog X.w H' s'.heap) (hB:∀ b o o',s.heap.get? b = some o → s'.heap.get? b = some o' → b ∉ frs X.stack → B.get? b = some o')
  (hT:∀ b o',H' b ≠ none → s'.heap.get? b = some o' → B.get? b = some o') (k:B.StaysIn h2) (us:s'.heap.UpToSlots h2):Inv X pins σ H' { s' with heap:=h2 } :=
 I.call' (s':={ s' with heap:=h2 }) (ch:=[]) os (aBB I u hB k us) (xB ok hT k) bare fun b z=>absurd z (by simp)
end
theorem bG.has {P:Program} {w:World} {H:Hp} {h:Heap} {a:Addr} {o:HO} (x:bG P w H h a o):∃ u,h.get? a = some u:=by
 cases o with
 | lst xs=>obtain ⟨_,_,_,_,e⟩:=x;exact ⟨_,e⟩
 | tup xs=>obtain ⟨_,_,_,ob,e,_⟩:=x;exact ⟨_,e⟩
 | dK kvs=>obtain ⟨_,_,_,_,o,_,_,e,_⟩:=x;exact ⟨_,e⟩
 | dT kvs=>obtain ⟨_,_,_,_,o,_,_,e,_⟩:=x;exact ⟨_,e⟩
 | set S n=>obtain ⟨o,_,_,_,e,_⟩:=x;exact ⟨_,e⟩
 | ins C dx fs=>obtain ⟨_,_,_,e,_⟩:=x;exact ⟨_,e⟩
 | own y=>obtain ⟨_,e⟩:=x;exact ⟨_,e⟩
 | xd fs=>obtain ⟨_,⟨_,_,_,e,_⟩,_⟩:=x;exact ⟨_,e⟩
 | rng lo hi=>obtain ⟨_,_,_,e⟩:=x;exact ⟨_,e⟩
 | frz ob u=>obtain ⟨e,_⟩:=x;exact ⟨_,e⟩
 | tbl ps=>exact ⟨_,show h.get? a = some _ from x⟩
 | met f y=>exact ⟨_,show h.get? a = some _ from x⟩
 | ext φ=>obtain ⟨_,⟨_,e⟩,_⟩:=x;exact ⟨_,e⟩
theorem HOk.has {P:Program} {w:World} {H:Hp} {h:Heap} {a:Addr} (x:HOk P w H h) (e:H a ≠ none):∃ u,h.get? a = some u:=by
 cases q:H a with
 | none=>exact absurd q e
 | some o=>exact (x a o q).has
section
variable {P:Program} {w:World} {K:PySem.W.Frag} {mg:Str → Option Value} {base:Heap} {N:List Str} {qual:Str} {scope:Scope} {f:Addr} {cd:Value} {A:Around} {outer:List Env} {s:Shared} {H:Hp} {E:XK}
theorem aDD {pins:List (Addr × Obj)} {σ:St} {H1 H':Hp} {s1 s':Shared} {B h2:Heap} {ea:Addr} {cls a0:Value} (I:Inv (iT (CX2 P w) P w K mg base N qual scope f cd A outer s H E) pins σ H1 s1) (os:s'.os = s1.os) (bare:AllBare s'.gens)
  (u:Un (frs (envOfC qual scope s.heap.objs.size f cd :: outer)) [] H1 H' s1.heap s'.heap) (ok:HOk P w H' s'.heap) (hB:∀ b o o',s1.heap.get? b = some o → s'.heap.get? b = some o' → b ∉ frs (envOfC qual scope s.heap.objs.size f cd :: outer) → B.get? b = some o')
  (hT:∀ b o',H' b ≠ none → s'.heap.get? b = some o' → B.get? b = some o') (fl:Heap.FlyingW B outer ea cls a0 h2) (us:s'.heap.UpToSlots h2) (q:E cls none H'):CX2 P w outer H s E (.ref ea) { s' with heap:=h2 }:=by
 have J:=xA (h2:=h2) I os bare u ok hB hT fl.1 us
 refine ⟨ea,cls,a0,B,H',rfl,J.os,J.bare,J.base,J.hok,fl,fun b o o' e e' nb=>?_,fun b o' n e'=>?_,q⟩
 ·obtain ⟨o1,e1⟩:=I.base.there b o e (fun z=>absurd z (by simp [iT]))
  obtain ⟨o2,e2⟩:=u.there b o1 e1 (by simp)
  have hb:b ∉ frs (envOfC qual scope s.heap.objs.size f cd :: outer):=fun z=>by
   have lt:b < s.heap.objs.size:=Heap.lt_size e
   have z':b ∈ s.heap.objs.size :: frs outer:=z
   rcases List.mem_cons.mp z' with r | r
   ·exact absurd lt (by rw [r];exact Nat.lt_irrefl _)
   ·exact nb r
  have e3:=hB b o1 o2 e1 e2 hb
  have e4:=fl.1 b o2 e3
  rw [show h2.get? b = some o' from e'] at e4
  cases e4
  exact e3
 ·obtain ⟨o2,e2⟩:=ok.has n
  have e3:=hT b o2 n e2
  have e4:=fl.1 b o2 e3
  rw [show h2.get? b = some o' from e'] at e4
  cases e4
  exact e3
theorem aCE {pins:List (Addr × Obj)} {σ:St} {H1:Hp} {s1:Shared} {h1:Heap} {e:Addr} {cls:Value} {args:List Value} (I:Inv (iT (CX2 P w) P w K mg base N qual scope f cd A outer s H E) pins σ H1 s1) (hx:Heap.MadeExcOf s1.heap h1 e cls args) (q:E cls none H1) :
  (iT (CX2 P w) P w K mg base N qual scope f cd A outer s H E).xe (.ref e) { s1 with heap:=h1 }:=by
 have S:s1.heap.FunFrames base (envOfC qual scope s.heap.objs.size f cd :: outer):=I.stack
 have hin:∀ v ∈ envOfC qual scope s.heap.objs.size f cd :: outer,∀ b,v.frame = some b → b ∈ frs (envOfC qual scope s.heap.objs.size f cd :: outer):=fun v hv b hb=>List.mem_filterMap.mpr ⟨v,hv,hb⟩
 refine wpAny_leaves_madeW (base:=PySem.W.hideAll s1.heap (frs (envOfC qual scope s.heap.objs.size f cd :: outer))) (h:=s1.heap) (env:=envOfC qual scope s.heap.objs.size f cd) (outer:=outer) I.ok.frames rfl (fun b o z=>PySem.W.of_hideAll _ z) (PySem.W.funFrames_hide S hin) hx fun h2 t fl _ _ us=>?_
 refine aDD (s1:=s1) (s':={ s1 with heap:=h1 }) I rfl I.bare (Un.kept hx.keeps) (I.hok.kept hx.keeps) (fun b o o' e1 e2 nb=>?_) (fun b o' n e2=>?_) fl us q
 ·have e3:=hx.keeps b o e1
  rw [show h1.get? b = some o' from e2] at e3
  cases e3
  exact PySem.W.hideAll_get _ e1 nb
 ·obtain ⟨o,e1⟩:=I.hok.has n
  have e3:=hx.keeps b o e1
  rw [show h1.get? b = some o' from e2] at e3
  cases e3
  exact PySem.W.hideAll_get _ e1 fun z=>n (I.stkFree b z)
end
end L2
namespace L2
open PySem PySem.Spec PyProof.Rows
abbrev aDP:List Value:=[.type "ValueError",.type "Exception",.type "BaseException",.type "object"]
structure ExcC (K:PySem.W.Frag) (C:Addr):Prop where
 q:PySem.W.excIn K C aDP "ValueError.__new__" = true
theorem ExcC.own {K:PySem.W.Frag} {C:Addr} {h:Heap} {x:Str} {mg:Str → Option Value} (E:ExcC K C) (X:K.In h) (hm:mg x = some (.ref C)):OwnCls x C aDP "ValueError.__new__" mg h:=by
 refine ⟨hm,?_⟩
 have q:=E.q
 unfold PySem.W.excIn at q
 split at q
 ·rename_i d2 c2 l2 look
  split at q
  ·rename_i C2 tl a0 a1 a2 a3 id2 a5 em es
   have q1:=Bool.and_eq_true_iff.mp q
   have q2:=Bool.and_eq_true_iff.mp q1.1
   have q3:=Bool.and_eq_true_iff.mp q2.1
   have q4:=Bool.and_eq_true_iff.mp q3.1
   have q5:=Bool.and_eq_true_iff.mp q4.1
   obtain rfl:C2 = C:=beq_iff_eq.mp q5.1
   obtain rfl:id2 = "ValueError.__new__":=beq_iff_eq.mp q5.2
   obtain ⟨c_1,c_2,c_3,c_4,c_5,c_6,c_7,c_8,c_9,c_10,c_11⟩:=c2
   obtain rfl:c_3 = .ref C2 :: tl:=em
   obtain rfl:c_11 = false:=by simpa using q4.2
   obtain ⟨ll⟩:=l2
   obtain rfl:ll = [a0,a1,a2,a3,some (.builtin "ValueError.__new__"),a5]:=es
   exact ⟨tl,c_4,c_1,c_5,c_2,c_6,c_7,c_8,c_9,c_10,d2,a0,a1,a2,a3,a5,_,X _ _ look,.of_isNs (PySem.W.isNs_of_in X q2.2),PySem.W.nsMap_none_of_in X q2.2 (beq_iff_eq.mp q1.2),PySem.W.tail_of_in X q3.2⟩
  ·cases q
 ·cases q
def aBT (X:Cx) (E:XK):Prop:=∀ (pins:List (Addr × Obj)) (σ:St) (H:Hp) (s:Shared) (h1:Heap) (e:Addr) (cls:Value) (args:List Value),Inv X pins σ H s → Heap.MadeExcOf s.heap h1 e cls args → E cls none H → X.xe (.ref e) { s with heap:=h1 }
theorem jV {P:Program} {w:World} {K:PySem.W.Frag} {mg:Str → Option Value} {base:Heap} {N:List Str} {qual:Str} {scope:Scope} {f:Addr} {cd:Value} {A:Around} {outer:List Env} {s:Shared} {H:Hp} {E:XK} :
  aBT (iT (CX2 P w) P w K mg base N qual scope f cd A outer s H E) E:=fun _ _ _ _ _ _ _ _ I hx q=>aCE I hx q
section
variable {X:Cx} {C:Addr} {x:Str} {E:XK} {np cpos pos:Pos} {e:Expr} {es:List Expr} {t:TA}
def aEJ (C:Addr) (E:XK) (t:TA):TS:=fun _ σ H=>t σ H fun vs H1=>vs.length ≤ sizeLine ∧ E (.ref C) none H1
theorem kW (hm:X.mg x = some (.ref C)) (EC:ExcC X.K C) (hc:X.calm = true) (R:aBT X E) (ha:PA X (e :: es) t) (hg:Gl X x:=by rfl) (hdb:(x == ("__debug__":Str)) = false:=by decide)
  (he:starEach (e :: es) X.env = (false,eval e X.env) :: starEach es X.env:=by rfl) (hpl:(backTo cpos (starEach es X.env)).any (·.1) = false:=by rfl) :
  PS X (.Raise (some (.Call (.Name x np) (e :: es) [] cpos)) none pos) (aEJ C E t):=by
 intro pins s σ H D I h
 obtain ⟨tl,N,nm,qn,bs,hdct,sn,sub,ab,col,dd,k0,k1,k2,k3,k5,mN,hC,hN,hni,T⟩:=(EC.own I.ok.mod.kin hm).obj
 refine wpAny_Raise_call_subT (C:=C) (N:=N) (nm:=nm) (q:=qn) (bs:=bs) (bm:=tl) (hdct:=hdct) (sn:=sn) (sub:=sub) (ab:=ab) (col:=col) (dd:=dd) (k0:=k0) (k1:=k1) (k2:=k2) (k3:=k3) (k5:=k5)
  PySem.F.excBase_ValueError (mN:=mN) (T.hasType PySem.F.excBase_ValueError.hasBase) (I.ok.hd hc) ?_ hni (kA I hg hm ⟨rfl,?_⟩ hdb)
 ·rw [he]
  show (false || (backTo cpos (starEach es X.env)).any (·.1)) = false
  rw [hpl]
  rfl
 ·have g:=ha cpos pins s σ H _ I h
  rw [he] at g ⊢
  refine Calls.evalArgs_plain (thn g fun us s2 ⟨vs,H2,I2,rv,hz,q⟩=>?_)
  exact ⟨rfl,by rw [← rv.length];exact hz,I2.bk _ _ hC,hN.keeps I2.bk,T.keeps I2.bk,fun h1 ea hx=>R pins σ H2 s2 h1 ea _ _ I2 hx q⟩
end
def CAt (X:Cx) (pins:List (Addr × Obj)) (σ:St) (E:XK) (e:Value) (s':Shared):Prop:=∃ s1 H1,Inv X pins σ H1 s1 ∧ CX2 X.prog X.w X.stack H1 s1 E e s'
abbrev TX:=XK → TE
def PX (X:Cx) (e:Expr) (t:TX):Prop :=
 ∀ (pins:List (Addr × Obj)) (s:Shared) (σ:St) (H:Hp) (Q:VK) (E:XK),Inv X pins σ H s → t E σ H Q → wpAny (model X.prog X.w) X.A (eval e X.env) (EP X pins σ Q) (CAt X pins σ E) s
section
variable {X:Cx} {k:Nat} {f C:Addr} {fd:FuncData} {ps:List Str} {sp:Sp} {E:XK} {x m:Str} {p pos apos:Pos} {e o:Expr} {es:List Expr} {ta:TE} {t:TA}
theorem EP.unwish {pins:List (Addr × Obj)} {σ:St} {Q:VK} {u:Value} {s':Shared} {F:Value → Shared → Prop} (h:EP (X.wish F) pins σ Q u s'):EP X pins σ Q u s':=by
 obtain ⟨v,H',I,r,q⟩:=h
 exact ⟨v,H',I.unwish,r,q⟩
theorem aCC {pins:List (Addr × Obj)} {σ:St} {H:Hp} {s:Shared} {Q:VK} {us:List Value} {vs:List V} (F:FnOk X.prog X.w X.K X.mg X.base (CX2 X.prog X.w) k f fd ps sp) (hr:Room k X.A) (hb:fD X.K fd ps [])
  (I:Inv X pins σ H s) (r:aY vs us) (h:sp vs H Q E):wpAny (model X.prog X.w) X.A (call (.ref f) us) (EP X pins σ Q) (CAt X pins σ E) s:=by
 have I':Inv (X.wish (CAt X pins σ E)) pins σ H s:=I.wish _
 have hl:(us ++ []).length = ps.length:=by rw [List.append_nil,← r.length];exact F.len _ _ _ _ h
 have hb':=hb s us I.kIn hl
 rw [List.append_nil] at hb'
 refine wpAny_call (codeAny_mono (F.run X.A X.stack s H ⟨us,[]⟩ us vs Q E hr I.env0 hb' r h) fun z s' hq=>?_)
 cases z with
 | error e=>exact ⟨s,H,I,hq⟩
 | ok fl =>
  cases fl with
  | ret u=>exact I.after hq
  | next=>exact False.elim hq
  | brk=>exact False.elim hq
  | cont=>exact False.elim hq
theorem xN {pins:List (Addr × Obj)} {σ:St} {H:Hp} {s:Shared} {Q:VK} {us:List Value} {vs:List V} (M:Mk X.K C f) (F:FnOk X.prog X.w X.K X.mg X.base (CX2 X.prog X.w) k f fd ps sp) (hr:Room (k + 1) X.A) (hb:fD X.K fd ps [])
  (I:Inv X pins σ H s) (r:aY vs us) (h:∀ x dx,H x = none → H dx = none → dx ≠ x → sp (.ref x :: vs) (upd (upd H dx (.own x)) x (.ins C dx [])) (fun v H2=>v = .non ∧ Q (.ref x) H2) E) :
  wpAny (model X.prog X.w) X.A (call (.ref C) us) (EP X pins σ Q) (CAt X pins σ E) s:=by
 have hq:=h (s.heap.objs.size + 1) s.heap.objs.size (I.hok.fresh (Nat.le_succ _)) (I.hok.fresh (Nat.le_refl _)) (Nat.ne_of_lt (Nat.lt_succ_self _))
 have I2:=Inv.made (C:=C) I
 have r2:aY (V.ref (s.heap.objs.size + 1) :: vs) (Value.ref (s.heap.objs.size + 1) :: us):=.cons rfl r
 have hl:(Value.ref (s.heap.objs.size + 1) :: us ++ []).length = ps.length:=by
  rw [List.append_nil,← r2.length]
  exact F.len _ _ _ _ hq
 have hb':=hb _ (Value.ref (s.heap.objs.size + 1) :: us) I2.kIn hl
 rw [List.append_nil] at hb'
 refine wpAny_call (uC (f:=f) I.kIn M.makes M.init (beq_iff_eq.mp M.fn) (codeAny_mono (F.run _ X.stack _ _ ⟨Value.ref (s.heap.objs.size + 1) :: us,[]⟩ (Value.ref (s.heap.objs.size + 1) :: us) _ _ E (hr.make C us [])
  (I2.env0.make C us []) hb' r2 hq) fun z s' hq'=>?_))
 cases z with
 | error e=>exact ⟨_,_,I2,hq'⟩
 | ok fl =>
  cases fl with
  | ret u =>
   obtain ⟨v,H',I3,rv,ev,q3⟩:=I2.after hq'
   subst ev
   exact ⟨rv,⟨V.ref (s.heap.objs.size + 1),H',I3,rfl,q3⟩⟩
  | next=>exact False.elim hq'
  | brk=>exact False.elim hq'
  | cont=>exact False.elim hq'
end
end L2
namespace L2
open PySem PySem.Spec PyProof.Rows
theorem FnOk.up {P:Program} {w:World} {K:PySem.W.Frag} {mg:Str → Option Value} {base:Heap} {CX:CXT} {k:Nat} {f:Addr} {fd:FuncData} {ps:List Str} {sp:Sp} (F:FnOk P w K mg base CX0 k f fd ps sp):FnOk P w K mg base CX k f fd ps sp :=
 ⟨F.len,fun A outer s H args us vs Q E hr he hb hv hs=>codeAny_mono (F.run A outer s H args us vs Q E hr he hb hv hs) fun r s' h=>by
  cases r with
  | error e=>exact False.elim h
  | ok fl=>cases fl <;> exact h⟩
structure FcX (P:Program) (w:World) (K:PySem.W.Frag) (mg:Str → Option Value) (base:Heap) (k:Nat) (x:Str) (ps:List Str) (sp:Sp):Prop where
 ex:∃ (f:Addr) (fd:FuncData),FnOk P w K mg base (CX2 P w) k f fd ps sp ∧ fD K fd ps [] ∧ mg x = some (.ref f) ∧ PySem.W.keepIn K (.ref f) = true
structure McX (P:Program) (w:World) (K:PySem.W.Frag) (mg:Str → Option Value) (base:Heap) (k:Nat) (C:Addr) (m:Str) (ps:List Str) (sp:Sp):Prop where
 ex:∃ (f:Addr) (fd:FuncData),FnOk P w K mg base (CX2 P w) k f fd ps sp ∧ fD K fd ps [] ∧ Meth K C m f
structure IcX (P:Program) (w:World) (K:PySem.W.Frag) (mg:Str → Option Value) (base:Heap) (k:Nat) (C:Addr) (ps:List Str) (sp:Sp):Prop where
 ex:∃ (f:Addr) (fd:FuncData),FnOk P w K mg base (CX2 P w) k f fd ps sp ∧ fD K fd ps [] ∧ Mk K C f
section
variable {P:Program} {w:World} {K:PySem.W.Frag} {mg:Str → Option Value} {base:Heap} {C:Addr} {x m qual:Str} {st:Stmt} {N ps:List Str} {k:Nat} {sp sp':Sp}
theorem Fun.okX {f:Addr} {fd:FuncData} (F:Fun K x qual st f fd) (S:FnScope N ps (aE st)) (len:∀ vs H Q E,sp vs H Q E → vs.length = ps.length)
  (hbody:∀ (cdv:Value) (A:Around) (outer:List Env) (s:Shared) (H:Hp) (vs:List V) (Q:VK) (E:XK),Room k (A.deeper (envOfC qual (aE st) s.heap.objs.size f cdv)) → sp vs H Q E →
   ∃ t,PSs (iT (CX2 P w) P w K mg base N qual (aE st) f cdv A outer s H E) (aN st) t ∧ t { nx:=fun _ H'=>Q .non H',rt:=Q } (fW N vs) H):FnOk P w K mg base (CX2 P w) (k + 1) f fd ps sp:=by
 obtain ⟨oc,od,kV,doc,pm,an,cdv,ct,osl,rfl,lk,hcd⟩:=F.ex
 exact aEF lk hcd S len fun A outer s H vs Q E hr hsp=>hbody cdv A outer s H vs Q E hr hsp
theorem MethAt.mcX (D:MethAt K C m qual st ps) (S:FnScope N ps (aE st)) (len:∀ vs H Q E,sp vs H Q E → vs.length = ps.length)
  (hbody:∀ (f:Addr) (cdv:Value) (A:Around) (outer:List Env) (s:Shared) (H:Hp) (vs:List V) (Q:VK) (E:XK),Room k (A.deeper (envOfC qual (aE st) s.heap.objs.size f cdv)) → sp vs H Q E →
   ∃ t,PSs (iT (CX2 P w) P w K mg base N qual (aE st) f cdv A outer s H E) (aN st) t ∧ t { nx:=fun _ H'=>Q .non H',rt:=Q } (fW N vs) H):McX P w K mg base (k + 1) C m ps sp:=by
 obtain ⟨f,fd,F,b,mm⟩:=D.ex
 exact ⟨f,fd,F.okX S len fun cdv A outer s H vs Q E hr h=>hbody f cdv A outer s H vs Q E hr h,b,mm⟩
theorem InitAt.icX (D:InitAt K C qual st ps) (S:FnScope N ps (aE st)) (len:∀ vs H Q E,sp vs H Q E → vs.length = ps.length)
  (hbody:∀ (f:Addr) (cdv:Value) (A:Around) (outer:List Env) (s:Shared) (H:Hp) (vs:List V) (Q:VK) (E:XK),Room k (A.deeper (envOfC qual (aE st) s.heap.objs.size f cdv)) → sp vs H Q E →
   ∃ t,PSs (iT (CX2 P w) P w K mg base N qual (aE st) f cdv A outer s H E) (aN st) t ∧ t { nx:=fun _ H'=>Q .non H',rt:=Q } (fW N vs) H):IcX P w K mg base (k + 1) C ps sp:=by
 obtain ⟨f,fd,F,b,mm⟩:=D.ex
 exact ⟨f,fd,F.okX S len fun cdv A outer s H vs Q E hr h=>hbody f cdv A outer s H vs Q E hr h,b,mm⟩
theorem Mc.up (F:Mc P w K mg base k C m ps sp):McX P w K mg base k C m ps sp:=by
 obtain ⟨f,fd,G,b,mm⟩:=F.ex
 exact ⟨f,fd,G.up,b,mm⟩
end
section
variable {X:Cx} {k:Nat} {C:Addr} {ps:List Str} {sp:Sp} {E:XK} {x m:Str} {p pos apos:Pos} {e o:Expr} {es:List Expr} {ta:TE} {t:TA}
theorem PA.cat {pins:List (Addr × Obj)} {σ:St} {H:Hp} {s:Shared} {Q:List V → Hp → Prop} {F:Value → Shared → Prop} (ha:PA X.nox es t) (I:Inv X pins σ H s) (h:t σ H Q):wpAny (model X.prog X.w) X.A (spliced (backTo pos (starEach es X.env))) (AP X pins σ Q) F s :=
 wpAny_mono (ha pos pins s σ H Q (I.wish _) h) (fun _ _ ⟨vs,H',I',r,q⟩=>⟨vs,H',I'.unwish,r,q⟩) fun _ _ z=>False.elim z
theorem PE.cat {pins:List (Addr × Obj)} {σ:St} {H:Hp} {s:Shared} {Q:VK} {F:Value → Shared → Prop} (ha:PE X.nox e ta) (I:Inv X pins σ H s) (h:ta σ H Q):wpAny (model X.prog X.w) X.A (eval e X.env) (EP X pins σ Q) F s :=
 wpAny_mono (ha pins s σ H Q (I.wish _) h) (fun _ _ z=>z.unwish) fun _ _ z=>False.elim z
theorem aGK (hm:X.mg x = some (.ref C)) (F:IcX X.prog X.w X.K X.mg X.base k C ps sp) (hr:Room (k + 1) X.A) (ha:PA X.nox (e :: es) t) (hg:Gl X x:=by rfl) (hdb:(x == ("__debug__":Str)) = false:=by decide)
  (he:starEach (e :: es) X.env = (false,eval e X.env) :: starEach es X.env:=by rfl) (hpl:(backTo pos (starEach es X.env)).any (·.1) = false:=by rfl) :
  PX X (.Call (.Name x p) (e :: es) [] pos) (fun E=>yW C sp [] E t):=by
 intro pins s σ H Q E I h
 obtain ⟨f,fd,G,b,mm⟩:=F.ex
 refine wpAny_Call_Name_kw (kA I hg hm ?_ hdb)
 refine PySem.W.callWith_K (h₀:=X.base) I.ok.mod.kin mm.kp (thn (ha.cat I h) fun us s1 ⟨vs,H1,I1,r,q⟩=>⟨I1.kIn,?_⟩) he hpl
 simp only [List.append_nil] at q
 exact xN mm G hr b I1 r q
theorem aEU {pl:Sem Bool} (c:Cls X.K C) (F:McX X.prog X.w X.K X.mg X.base k C m ps sp) (hr:Room k X.A) (ho:PE X.nox o ta) (ha:PA X.nox (e :: es) t)
  (hst:starEach (e :: es) X.env = (false,eval e X.env) :: starEach es X.env:=by rfl) (hpl:(backTo pos (starEach es X.env)).any (·.1) = false:=by rfl)
  (ht:eval (.Call (.Attribute o m apos) (e :: es) [] pos) X.env = (do
   let ov ← eval o X.env
   standAt apos.atName
   let (f,first) ← holding [ov] (getMethod ov m pl)
   callWith pos f first (backTo pos (starEach (e :: es) X.env)) (backToKw pos (keywordEach [] X.env))):=by rfl) :
  PX X (.Call (.Attribute o m apos) (e :: es) [] pos) (fun E=>yV C m sp [] E ta t):=by
 intro pins s σ H Q E I h
 obtain ⟨f,fd,G,b,mm⟩:=F.ex
 refine PySem.W.methodCall_KW (pl:=pl) (thn (ho.cat I h) fun u s1 ⟨y,H1,I1,ry,a,dx,fs,ex,ea,l,q⟩=>?_) ht
 subst ex
 obtain rfl:u = Value.ref a:=ry
 refine pL I1 ea c mm l ?_
 refine PySem.W.callWith_K (first:=[.ref a]) (h₀:=X.base) I.ok.mod.kin mm.kp (thn (ha.cat I1 q) fun us s2 ⟨vs,H2,I2,r,q2⟩=>⟨I2.kIn,?_⟩) hst hpl
 simp only [List.append_nil] at q2
 exact aCC (us:=.ref a :: us) (vs:=.ref a :: vs) G hr b I2 (.cons rfl r) q2
abbrev TB:=XK → TS
def PB (X:Cx) (body:List Stmt) (t:TB):Prop :=
 ∀ (pins:List (Addr × Obj)) (s:Shared) (σ:St) (H:Hp) (D:Ends) (E:XK),Inv X pins σ H s → t E D σ H → wpAny (model X.prog X.w) X.A (execs body X.env) (SP X pins D) (CAt X pins σ E) s
theorem aCM {t:TX} (he:PX X e t) (hs:swapsWith e none pos.line X.env = pure false:=by rfl):PB X [.Expr e pos] (fun E=>aDS (t E)):=by
 intro pins s σ H D E I h
 refine wpAny_execs_cons (wpAny_Expr_any (thn (he pins s σ H _ E I h) fun v s1 ⟨y,H1,I1,r1,q1⟩=>?_) I.quiet hs)
 exact wpAny_execs_nil ⟨σ,H1,I1,q1⟩
theorem uY {i:Nat} {pos':Pos} {t:TX} (hN:X.N.Nodup) (hi:X.N[i]? = some x) (hx:Loc X.env.scope x) (he:PX X e t) (hs:swapsWith e (some (.Name x pos')) pos.line X.env = pure false:=by rfl) (hf:X.fn x = true ∨ X.env.scope.names.lookup x = some .local:=by first | exact .inl rfl | exact .inr rfl | assumption) :
  PB X [.Assign [.Name x pos'] e pos] (fun E=>aEP (t E) (lG i)):=by
 intro pins s σ H D E I h
 refine wpAny_execs_cons (wpAny_Assign_Name (thn (he pins s σ H _ E I h) fun v s1 ⟨y,H1,I1,r1,q1⟩=>?_) hs)
 exact kQ I1 hN hi hx r1 (fun s2 I2=>wpAny_execs_nil ⟨_,H1,I2,q1⟩) hf
end
end L2
namespace L2
open PySem PySem.Spec PyProof.Rows
abbrev Cx.held (X:Cx) (ea:Addr):Cx:={ X with A:=X.A.mark (some (.ref ea)),calm:=false,xe:=fun _ _=>False }
section
variable {X:Cx} {pins:List (Addr × Obj)} {σ:St} {H H':Hp} {s s':Shared} {ea:Addr}
theorem Cx.Ok.held (ok:X.Ok) (ea:Addr):(X.held ea).Ok :=
 ⟨ok.mod,ok.kind,ok.glob,ok.blt,ok.above,ok.inj,ok.has,ok.cab,fun z=>absurd z (by simp),ok.frames,ok.stk,ok.exf,ok.bs,ok.bsz,ok.noex,ok.exfs,ok.funs,ok.frf⟩
theorem Inv.held (I:Inv X pins σ H s) (ea:Addr):Inv (X.held ea) pins σ H s:=⟨I.ok.held ea,I.os,I.bare,I.base,I.loc,I.cell,I.free,I.freeC,I.pin,I.hok,I.len⟩
theorem Inv.unheld (ok:X.Ok) (I:Inv (X.held ea) pins σ H s):Inv X pins σ H s:=⟨ok,I.os,I.bare,I.base,I.loc,I.cell,I.free,I.freeC,I.pin,I.hok,I.len⟩
theorem SP.unheld (ok:X.Ok) {D:Ends} {f:Flow} (h:SP (X.held ea) pins D f s'):SP X pins D f s':=by
 cases f with
 | next=>obtain ⟨σ',H',I,q⟩:=h;exact ⟨σ',H',I.unheld ok,q⟩
 | brk=>obtain ⟨σ',H',I,q⟩:=h;exact ⟨σ',H',I.unheld ok,q⟩
 | cont=>obtain ⟨σ',H',I,q⟩:=h;exact ⟨σ',H',I.unheld ok,q⟩
 | ret u=>obtain ⟨v,σ',H',I,r,q⟩:=h;exact ⟨v,σ',H',I.unheld ok,r,q⟩
end
theorem xS {M:Model} {B h:Heap} {l:List Env} {ea:Addr} {cls a0:Value} (fl:Heap.FlyingW B l ea cls a0 h):PySem.W.Looks M h (typeOf (.ref ea)) cls:=by
 obtain ⟨ob,hob,hc⟩:=fl.there
 subst hc
 exact (PySem.W.Looks.ld hob).andThen .now
section
variable {X:Cx} {C:Addr} {x:Str} {np hpos pos:Pos} {body suite:List Stmt} {b₀:Stmt} {tb:TB} {ts:TS}
end
end L2
namespace L2
open PySem PySem.Spec PyProof.Rows
def aHD (a:Addr) (cls:Value) (h:Heap):Prop:=∃ o vs,h.get? a = some o ∧ o.cls = cls ∧ o.data = .fields vs
def iH (a:Addr) (cls:Value):HO:=.ext (aHD a cls)
theorem Un.new {fs ex:List Addr} {H H':Hp} {h h':Heap} {a:Addr} {o:HO} (u:Un fs ex H H' h h') (n:H' a = none) (nn:h.get? a = none):Un fs ex H (upd H' a o) h h' where
 keep:=u.keep
 slot:=u.slot
 free:=fun b ob e nb hx=>by
  rw [aJ (fun z=>by rw [z,nn] at e;cases e)]
  exact u.free b ob e nb hx
 there:=u.there
 tups:=fun b xs e=>by rw [aJ (aH (u.tups b xs e) n)];exact u.tups b xs e
 frzs:=fun b ob v e=>by rw [aJ (aH (u.frzs b ob v e) n)];exact u.frzs b ob v e
 tbls:=fun b ps e=>by
  obtain ⟨m,q⟩:=u.tbls b ps e
  exact ⟨m,by rw [aJ (aH q n)];exact q⟩
theorem HOk.new {P:Program} {w:World} {H:Hp} {h:Heap} {a:Addr} {o:HO} (ok:HOk P w H h) (n:H a = none) (new:bG P w (upd H a o) h a o):HOk P w (upd H a o) h:=fun b u e=>by
 by_cases hb:b = a
 ·subst hb
  rw [aF] at e
  cases e
  exact new
 ·rw [aJ hb] at e
  exact (ok b u e).stay (fun _ _ _ q=>q) (fun c q=>by rw [aJ (aH q n)];exact q) fun c xs q=>by rw [aJ (aH q n)];exact q
section
variable {X:Cx} {pins:List (Addr × Obj)} {σ:St} {H H':Hp} {s s':Shared} {B h2:Heap} {ea:Addr} {cls a0:Value}
theorem aBC (I:Inv X pins σ H s) (os:s'.os = s.os) (bare:AllBare s'.gens) (u:Un (frs X.stack) [] H H' s.heap s'.heap) (ok:HOk X.prog X.w H' s'.heap) (hB:∀ b o o',s.heap.get? b = some o → s'.heap.get? b = some o' → b ∉ frs X.stack → B.get? b = some o')
  (hT:∀ b o',H' b ≠ none → s'.heap.get? b = some o' → B.get? b = some o') (fl:Heap.FlyingW B X.stack ea cls a0 h2) (us:s'.heap.UpToSlots h2):H' ea = none ∧ Inv X pins σ (upd H' ea (iH ea cls)) { s' with heap:=h2 }:=by
 obtain ⟨oe,ws,he,hc,hd,_⟩:=fl.first
 have u2:=aBB I u hB fl.1 us
 have k2:=xB (h2:=h2) ok hT fl.1
 have n:H' ea = none:=by
  cases q:H' ea with
  | none=>rfl
  | some o =>
   have q':H' ea ≠ none:=by rw [q];simp
   obtain ⟨o2,e2⟩:=ok.has q'
   have:=hT ea o2 q' e2
   rw [fl.2.1] at this
   cases this
 have nn:s.heap.get? ea = none:=by
  cases q:s.heap.get? ea with
  | none=>rfl
  | some o =>
   obtain ⟨o2,e2⟩:=u.there ea o q (by simp)
   by_cases hb:ea ∈ frs X.stack
   ·obtain ⟨_,o1,e1,nd⟩:=fl.2.2.1.mem hb
    rw [he] at e1
    cases e1
    exact absurd hd (nd ws)
   ·have:=hB ea o o2 q e2 hb
    rw [fl.2.1] at this
    cases this
 refine ⟨n,I.call' (s':={ s' with heap:=h2 }) (ch:=[]) os (u2.new n nn) (k2.new n ?_) bare fun b z=>absurd z (by simp)⟩
 exact ⟨⟨oe,ws,he,hc,hd⟩,⟨oe,he⟩,fun h1 h3 ⟨o,vs,e1,e2,e3⟩ k=>⟨o,vs,k o e1,e2,e3⟩⟩
theorem jZ {M:Model} {A:Around} {E:Value → Shared → Prop} {i:Nat} {n:Str} {pos:Pos} {Q:Unit → Shared → Prop} (I:Inv X pins σ H s) (hN:X.N.Nodup) (hi:X.N[i]? = some n) (hk:X.env.scope.names.lookup n = some .local)
  (h:∀ s',Inv X pins (σ.set i none) H s' → Q () s'):wpAny M A (do bindName X.env n .none;unbindBehindTheSuite X.env n pos) Q E s:=by
 obtain ⟨m,hn,hl⟩:=id I.loc
 have hcls:(X.env.scope.kind == .class || (X.env.scope.kind == .module && X.env.locals != X.env.globals)) = false:=by rw [I.ok.kind];rfl
 have hiσ:i < σ.length:=by rw [I.len];exact (List.getElem?_eq_some_iff.mp hi).1
 obtain ⟨oL,_,_,hoL,_⟩:=id hn
 have neL:∀ b o,X.s₀.heap.get? b = some o → b ≠ X.env.locals:=fun b o e=>Nat.ne_of_lt (Nat.lt_of_lt_of_le (Heap.lt_size e) I.ok.above)
 refine PySem.wpAny_nameGoes_keeps hk hn hcls fun h' v hn' hs=>h _ ?_
 refine ⟨I.ok,I.os,I.bare,⟨fun b o e nb hb hx=>?_,fun b o e nb hb hx=>?_,I.base.free,fun b o e hx=>?_,I.base.tups,I.base.frzs,I.base.tbls⟩,⟨_,hn',fun j y v' e1 e2 e3=>?_⟩,fun y c e=>?_,I.free,I.freeC,fun p hp=>?_,fun b ob e=>?_,by simpa using I.len⟩
 ·exact (hs.2 b (neL b o e)).trans (I.base.keep b o e nb hb hx)
 ·obtain ⟨sl,e1⟩:=I.base.slot b o e nb hb hx
  exact ⟨sl,(hs.2 b (neL b o e)).trans e1⟩
 ·obtain ⟨o',e1⟩:=I.base.there b o e hx
  exact ⟨o',(hs.2 b (neL b o e)).trans e1⟩
 ·have hj:j ≠ i:=fun z=>by
   subst z
   rw [List.getElem?_set_self hiσ] at e2
   cases e2
  rw [List.getElem?_set_ne (Ne.symm hj)] at e2
  obtain ⟨u',r',q⟩:=hl j y v' e1 e2 e3
  refine ⟨u',r',?_⟩
  rcases q with ⟨k,e⟩ | ⟨k,c,e,z⟩
  ·refine .inl ⟨k,?_⟩
   have ny:y ≠ n:=fun z=>hj (pB hN e1 (z ▸ hi))
   show (if y = n then v else m y) = some u'
   rw [if_neg ny]
   exact e
  ·exact .inr ⟨k,c,e,z.sameBut hs (I.cne y c e)⟩
 ·obtain ⟨w',z⟩:=I.cell y c e
  exact ⟨w',z.sameBut hs (I.cne y c e)⟩
 ·obtain ⟨e,nb,ne,nf,d⟩:=I.pin p hp
  exact ⟨(hs.2 p.1 ne).trans e,nb,ne,nf,d⟩
 ·refine (I.hok b ob e).stay (fun c w' hc q=>(hs.2 c ?_).trans q) (fun _ q=>q) fun _ _ q=>q
  rintro rfl
  rcases hc with rfl | hc
  ·rw [I.free] at e;cases e
  ·rw [I.free] at hc;cases hc
end
section
variable {X:Cx} {C:Addr} {x n:Str} {np hpos pos:Pos} {body suite:List Stmt} {b₀:Stmt} {tb:TB} {ts:TS} {i:Nat}
def Ends.gone (D:Ends) (i:Nat):Ends:={ nx:=fun σ H=>D.nx (σ.set i none) H,rt:=D.rt,bk:=fun σ H=>D.bk (σ.set i none) H,ct:=fun σ H=>D.ct (σ.set i none) H }
def aFV (K:PySem.W.Frag) (C:Addr) (i:Nat) (tb:TB) (ts:TS):TS:=fun D σ H=>tb (fun cls _ H1=>PySem.W.exmOne K cls (.ref C) = some true ∧ ∀ ea,H1 ea = none → ts (D.gone i) (σ.set i (some (.ref ea))) (upd H1 ea (iH ea cls))) D σ H
theorem nK (hN:X.N.Nodup) (hi:X.N[i]? = some n) (hk:X.env.scope.names.lookup n = some .local) (hm:X.mg x = some (.ref C)) (hb:PB X body tb) (hs:∀ ea,PSs (X.held ea) (b₀ :: suite) ts) (hg:Gl X x:=by rfl) (hdb:(x == ("__debug__":Str)) = false:=by decide)
  (hst:X.stack = X.env :: X.outer:=by rfl) (hf:X.env.frame = some X.env.locals:=by rfl) :
  PS X (.Try body [.ExceptHandler (some (.Name x np)) (some n) (b₀ :: suite) hpos] [] [] pos) (aFV X.K C i tb ts):=by
 intro pins s σ H D I h
 refine wpAny_Try_except (wpAny_mono (hb pins s σ H D _ I h) (fun f s1 q=>?_) fun e s1 q=>?_)
 ·cases f with
  | next=>exact wpAny_execs_nil q
  | ret v=>exact q
  | brk=>exact q
  | cont=>exact q
 ·obtain ⟨s0,H0,I0,ea,cls,a0,B,H',rfl,os,bare,u,ok,fl,hB,hT,em,q⟩:=q
  have hfr:X.A.frames = some (X.env :: X.outer):=hst ▸ I.ok.frames
  have fl':Heap.FlyingW B (X.env :: X.outer) ea cls a0 s1.heap:=hst ▸ fl
  refine wpAny_looks_onW hfr hf fl' fun h4 held us4=>?_
  refine wpAny_landsW held fun h5 fl5 us5=>?_
  have J5:=xA I0 os bare u ok hB hT fl5.1 (us4.trans us5)
  refine wpAny_handleBy_cons (codeAny_handlers_test (kA (X:=X.held ea) (J5.held ea) hg hm ?_ hdb)) (by intro z;cases z)
  refine (PySem.W.exm_one J5.kIn (xS fl5) em).here ?_
  refine codeAny_handlers_suite_as ?_
  refine lands_againW fl5 fun h6 fl6 us6=>?_
  obtain ⟨n6,J6⟩:=aBC I0 os bare u ok hB hT (hst.symm ▸ fl6) ((us4.trans us5).trans us6)
  refine kQ (X:=X.held ea) (i:=i) (v:=.ref ea) (J6.held ea) hN hi (.inl hk) rfl (fun s7 I7=>?_) (.inr hk)
  refine wpAny_mono (hs ea pins s7 _ _ (D.gone i) I7 (q ea n6)) (fun f s8 z=>?_) fun _ _ z=>False.elim z
  have z':=z.unheld (X:=X) I.ok
  cases f with
  | next =>
   obtain ⟨σ',H2,I2,q2⟩:=z'
   exact jZ I2 hN hi hk fun s9 I9=>⟨_,H2,I9,q2⟩
  | brk =>
   obtain ⟨σ',H2,I2,q2⟩:=z'
   exact jZ I2 hN hi hk fun s9 I9=>⟨_,H2,I9,q2⟩
  | cont =>
   obtain ⟨σ',H2,I2,q2⟩:=z'
   exact jZ I2 hN hi hk fun s9 I9=>⟨_,H2,I9,q2⟩
  | ret v =>
   obtain ⟨y,σ',H2,I2,r2,q2⟩:=z'
   exact jZ I2 hN hi hk fun s9 I9=>⟨y,_,H2,I9,r2,q2⟩
end
end L2
namespace L2
open PySem PySem.Spec PyProof.Rows
section
open PySem.W PySem.Calls PySem.Builtin PySem.Builtin.ObjectAttr PySem.Builtin.Getset_descriptor
variable {prog:Program} {w:World} {A:Around} {E:Value → Shared → Prop} {s:Shared} {K:PySem.W.Frag} {x C:Addr}
theorem vI {M:Model} {h:Heap} {a g:Value} {name:Str} (X:K.In h) (ha:findIn K (.ref C) name = some (some a)) (hg:specialIn K a "__get__" = some (some g)) (ht:takesIn K a = some true) :
  Looks M h (find (.ref x) (.ref C) name) (.bind g a) :=
 (looks_findIn (M:=M) X ha).andThen ((show Looks M h (getOf (some a)) (some g) from looks_specialIn X hg).andThen
  ((show Looks M h (dataDescriptor? (some a) (some g)) (some (g,a)) from (looks_takesIn (M:=M) X ht).andThen .now).andThen (Looks.tag .now)))
theorem aBR {R:Result → Shared → Prop} {tp:Value} (X:K.In s.heap) (L0:Looks (model prog w) s.heap (typeOf (.ref x)) (.ref C)) (hm:mroIn K C (.type "object") = some true) (h:R (.ok (.ret (.ref C))) s) :
  codeAny (model prog w) A (.call (.builtin "getset_descriptor.__get__") ⟨[.builtin "object.__class__",.ref x,tp],[]⟩) R s:=by
 have L1:=looks_mroIn (M:=model prog w) X hm
 obtain ⟨h2,g2,d2,t2,o2⟩:=s
 refine codeAny_call_builtin KF.slot_gs.plain KF.entry_gs (KF.slot_gs.check _ _ _ _ _ _ _ _ KF.type_class (KF.args_gs _ _ _) (?_))
 unfold Builtin.«getset_descriptor.__get__»
 unfold descrGet;rw [dga_obj];refine wpAny_bind (wpAny_pure ?_)
 unfold descrGetter descrCheckInstance;unfold descrNameAndClass isInstance
 simp only [KF.owner_class]
 repeat lk
 refine ⟨Code.quiet_builtin _ (by decide +kernel),(codeAny_builtin KF.entry_class ?_)⟩
 unfold Builtin.«object.__class__»;unfold shownTypeOf
 repeat lk
 exact h
end
structure ExA (K:PySem.W.Frag) (C:Addr):Prop where
 ex:ExcC K C
 em:PySem.W.exmOne K (.ref C) (.ref C) = some true
structure ExI (K:PySem.W.Frag) (C:Addr):Prop extends ExA K C where
 pg:PySem.W.plainGet K C "__class__" = true
 ic:InstC K C
end L2
namespace L2
open PySem PySem.Spec PyProof.Rows
section
open PySem.W PySem.Calls PySem.Builtin PySem.Builtin.ObjectAttr PySem.Builtin.Getset_descriptor
variable {prog:Program} {w:World} {A:Around} {E:Value → Shared → Prop} {s:Shared} {K:PySem.W.Frag} {x C:Addr}
theorem sT {Q:Option Value → Shared → Prop} (X:K.In s.heap) (L0:Looks (model prog w) s.heap (typeOf (.ref x)) (.ref C)) (hga:findIn K (.ref C) "__getattribute__" = some (some (.builtin "BaseException.__getattribute__"))) (hgt:findIn K (.ref C) "__getattr__" = some none)
  (hB:mroIn K C (.type "BaseException") = some true) (I:InstC K C) (h:Q (some (.ref C)) { s with toks:=s.toks + 1 }):wpAny (model prog w) A (getAttr? (.ref x) "__class__") Q E s:=by
 have LG:=looks_findIn (M:=model prog w) X hga
 have LF:=vI (M:=model prog w) (x:=x) X I.ha I.hn I.htk
 have LH:=looks_findIn (M:=model prog w) X hgt
 have LB:=looks_mroIn (M:=model prog w) X hB
 have X':=X
 obtain ⟨h2,g2,d2,t2,o2⟩:=s
 unfold getAttr?;unfold getAttrBy?;unfold getAttrBy
 refine wpAny_bind (wpAny_mkText (wpAny_bind (wpAny_attempt (wpAny_holding (wpAny_bind (L0.at (wpAny_bind (LG.at (?_)))))))))
 have hx2:(Value.builtin "BaseException.__getattribute__" == Value.builtin "object.__getattribute__") = false:=by decide +kernel
 dsimp only
 rw [hx2,Bool.and_false,if_neg Bool.false_ne_true]
 unfold getAttrByItsOwn hookBefore
 refine wpAny_bind (show wpAny _ _ (typeLookup (.ref C) "__getattr__") _ _ _ from LH.at ?_)
 refine wpAny_bind (wpAny_attempt (wpAny_holding ?_))
 show wpAny _ _ (boundAndCalled _ _ _) _ _ _
 unfold boundAndCalled
 refine wpAny_bind (wpAny_of_eq (PySem.F.attr_ValueError.ga.bind (.ref x)) ?_)
 show wpAny _ _ (call (.builtin "BaseException.__getattribute__") [.ref x,.str "__class__" t2]) _ _ _
 refine wpAny_call (codeAny_call_builtin PySem.F.attr_ValueError.ga.plain F.entry_bexc_ga ?_)
 have hk:builtinKind "BaseException.__getattribute__" = some .slot:=by decide +kernel
 have hsp:splitId "BaseException.__getattribute__" = some ("BaseException","__getattribute__"):=by decide +kernel
 have hargs:=F.args_bexc_ga (.ref x) (.str "__class__" t2)
 simp only [checkBuiltinCall,hk,hsp]
 refine wpAny_bind ?_
 unfold isInstance
 refine wpAny_bind (L0.at (LB.at ?_))
 rw [if_neg (by decide)]
 refine wpAny_of_eq hargs ?_
 unfold Builtin.«object.__getattribute__»
 refine wpAny_bind (wpAny_pure ?_)
 refine wpAny_bind (wpAny_pure ?_)
 refine wpAny_bind (L0.at ?_)
 refine wpAny_bind (LF.at ?_)
 dsimp only
 show wpAny _ _ (holding [.builtin "object.__class__"] (call (.builtin "getset_descriptor.__get__") [.builtin "object.__class__",.ref x,.ref C]) >>= ret) _ _ _
 refine wpAny_bind (wpAny_holding (wpAny_call (aBR (s:=⟨h2,g2,d2,t2 + 1,o2⟩) X' L0 I.hm (?_))))
 refine wpAny_pure ?_
 dsimp only
 exact handed_on rfl (wpAny_pure h)
end
structure ExJ (K:PySem.W.Frag) (C:Addr):Prop extends ExA K C where
 ga:PySem.W.findIn K (.ref C) "__getattribute__" = some (some (.builtin "BaseException.__getattribute__"))
 gt:PySem.W.findIn K (.ref C) "__getattr__" = some none
 mb:PySem.W.mroIn K C (.type "BaseException") = some true
 ic:InstC K C
theorem aAM {K:PySem.W.Frag} {a C:Addr} (e:ExJ K C):PySem.W.KitX K (.ref a) (.ref C) (aHD a (.ref C)) where
 ty:=fun M h X ⟨o,vs,q,c,d⟩=>c ▸ (PySem.W.Looks.ld q).andThen .now
 it:=fun M h X _=>by
  have q:=e.em
  unfold PySem.W.exmOne at q
  split at q
  ·exact (PySem.W.kit_cls (M:=M) X q).2.1
  ·cases q
 ne:=fun h tp dd its n sl X htp=>by
  obtain ⟨tl,N,nm,qn,bs,hdct,sn,sub,ab,col,d2,k0,k1,k2,k3,k5,mN,hC,_⟩:=(e.ex.own (x:="") (mg:=fun _=>some (.ref C)) X rfl).obj
  refine Bool.eq_false_iff.mpr fun q=>?_
  have z:C = tp:=Value.ref.inj (beq_iff_eq.mp q)
  rw [z,htp] at hC
  have w:=congrArg Obj.data (Option.some.inj hC)
  exact absurd w (by intro w;cases w)
 ca:=fun X ⟨o,vs,q,c,d⟩ k=>sT X (c ▸ (PySem.W.Looks.ld q).andThen .now) e.ga e.gt e.mb e.ic k
theorem bC {X:Cx} {K:PySem.W.Frag} (eK:X.K = K):dU X (.builtin "isinstance") (fun xs H Q=>∃ a y c C b,xs = [.ref a,y] ∧ aDJ y = some c ∧ H a = some (iH a (.ref C)) ∧ ExJ K C ∧ PySem.W.kitOne K (.ref C) c = some b ∧ Q (.bl b) H):=by
 subst eK
 intro pins s σ H xs us Q I r h
 obtain ⟨a,y,c,C,b,rfl,hc,ha,e,k,q⟩:=h
 obtain ⟨u,v,rfl,ru,rv⟩:=aY.two r
 obtain rfl:=uN hc rv
 cases ru
 obtain ⟨p,_,_⟩:=(show bG X.prog X.w H s.heap a (iH a (.ref C)) from I.hok a _ ha)
 exact PySem.W.kia_one (aAM e) I.kIn p k (fun z=>nomatch z) fun tk=>⟨.bl b,H,I.tok tk,rfl,q⟩
end L2
namespace L2
open PySem PySem.Spec PyProof.Rows
section
variable {X:Cx} {k:Nat} {ps:List Str} {sp:Sp} {x:Str} {p pos:Pos} {e:Expr} {es:List Expr} {t:TA} {E:XK}
end
end L2
namespace L2
open PySem PySem.Spec PyProof.Rows
section
variable {X:Cx} {tg:Expr}
end
end L2
namespace L2
open PySem PySem.Spec PyProof.Rows
def Itw (d:Addr) (o:Obj) (kvs:List (Key × V)):It :=
 ⟨fun i H=>H d = some (.frz o (.dK kvs)) ∧ i < kvs.length,fun i H x H'=>H' = H ∧ ∃ kv,kvs[i]? = some kv ∧ x = kv.2,fun i H=>H d = some (.frz o (.dK kvs)) ∧ kvs.length ≤ i⟩
section
variable {X:Cx} {tg:Expr}
end
end L2
namespace L2
open PySem PySem.Spec PyProof.Rows
def fV (v d:Addr):HO:=.ext fun h=>h.IsItemsView v d
theorem fV.ok {P:Program} {w:World} {H:Hp} {h:Heap} {v d:Addr} (x:h.IsItemsView v d):bG P w H h v (fV v d) :=
 ⟨x,let ⟨o,ho,_⟩:=x;⟨o,ho⟩,fun _ _ ⟨o,ho,r⟩ k=>⟨o,k o ho,r⟩⟩
def nP (H:Hp):List Addr → List (Key × V) → Prop
 | [],kvs=>kvs = []
 | a :: as,kvs=>∃ k v r,kvs = (k,v) :: r ∧ H a = some (.tup [kV k,v]) ∧ nP H as r
section
variable {P:Program} {w:World} {fs:List Addr} {H0 H:Hp} {h h':Heap}
theorem aCT {a:Addr} {xs:List V} (U:Un fs [] H0 H h h') (ok:HOk P w H h') (hp:h.objs.size ≤ a) (hn:H a = none) (new:bG P w (upd H a (.tup xs)) h' a (.tup xs)) :
  Un fs [] H0 (upd H a (.tup xs)) h h' ∧ HOk P w (upd H a (.tup xs)) h':=by
 refine ⟨⟨U.keep,U.slot,fun b o q n hx=>?_,U.there,fun b ys q=>?_,fun b o u q=>?_,fun b ps q=>?_⟩,fun b u e=>?_⟩
 ·rw [aJ (Nat.ne_of_lt (Nat.lt_of_lt_of_le (Heap.lt_size q) hp))]
  exact U.free b o q n hx
 ·rw [aJ (aH (U.tups b ys q) hn)]
  exact U.tups b ys q
 ·rw [aJ (aH (U.frzs b o u q) hn)]
  exact U.frzs b o u q
 ·obtain ⟨m,z⟩:=U.tbls b ps q
  exact ⟨m,by rw [aJ (aH z hn)];exact z⟩
 ·by_cases hb:b = a
  ·subst hb;rw [aF] at e;cases e;exact new
  ·rw [aJ hb] at e
   exact (ok b u e).stay (fun c v _ q=>q) (fun c q=>by rw [aJ (aH q hn)];exact q) fun c xs q=>by rw [aJ (aH q hn)];exact q
theorem rC:∀ (as:List Addr) (kvs:List (Key × V)) (vs:List (Key × Value)) (H:Hp),KV kvs vs → as.length = vs.length → as.Pairwise (· < ·) → (∀ a ∈ as,h.objs.size ≤ a) → (∀ a ∈ as,H a = none) →
      (∀ (j:Nat) (a:Addr),as[j]? = some a → ∃ key kk x,vs[j]? = some (kk,x) ∧ mS kk key = true ∧ h'.get? a = some { cls:=.type "tuple",data:=.seq #[key,x] }) →
      Un fs [] H0 H h h' → HOk P w H h' → ∃ H',aL H H' ∧ nP H' as kvs ∧ Un fs [] H0 H' h h' ∧ HOk P w H' h'
  | [],kvs,vs,H,kv,hl,_,_,_,_,U,ok=>by
    cases kv with
    | nil=>exact ⟨H,aL.refl _,rfl,U,ok⟩
    | cons _ _=>cases hl
  | a :: as,kvs,vs,H,kv,hl,hp,hs,hn,hj,U,ok=>by
    cases kv with
    | nil=>cases hl
    | @cons p q kvs vs r t =>
      obtain ⟨key,kk,x,e1,e2,e3⟩:=hj 0 a rfl
      have e1':q = (kk,x):=by simpa using e1
      subst e1'
      obtain ⟨r1,r2⟩:=r
      obtain ⟨pk,pv⟩:=p
      have r1':pk = kk:=r1
      subst r1'
      have ha:=hn a List.mem_cons_self
      have big:(2:Nat) ≤ sizeLine:=by decide
      obtain ⟨U1,ok1⟩:=aCT (xs:=[kV pk,pv]) U ok (hs a List.mem_cons_self) ha ⟨big,[key,x],.cons (kB e2) (.cons r2 .nil),_,e3,rfl,0,rfl,rfl⟩
      obtain ⟨H',S',P',U',ok'⟩:=rC as kvs vs (upd H a (.tup [kV pk,pv])) t (by simpa using hl) (List.pairwise_cons.mp hp).2 (fun b m=>hs b (List.mem_cons_of_mem _ m))
        (fun b m=>by rw [aJ (Ne.symm (Nat.ne_of_lt ((List.pairwise_cons.mp hp).1 b m)))];exact hn b (List.mem_cons_of_mem _ m)) (fun j b e=>by
          obtain ⟨key,kk,x,f1,f2,f3⟩:=hj (j + 1) b (by simpa using e)
          exact ⟨key,kk,x,by simpa using f1,f2,f3⟩) U1 ok1
      exact ⟨H',(aL.upd ha).trans S',⟨pk,pv,kvs,rfl,S' _ _ aF,P'⟩,U',ok'⟩
theorem qQ:∀ as:List Addr,aY (as.map V.ref) (as.map Value.ref)
 | []=>.nil
 | a :: as=>.cons rfl (qQ as)
end
section
variable {X:Cx}
theorem tX:MtR X "dict.items" (fun x vs H Q=>∃ d kvs,x = .ref d ∧ vs = [] ∧ Rd H d (.dK kvs) ∧ ∀ v,H v = none → Q (.ref v) (upd H v (fV v d))):=by
 intro pins s σ H x vs v us Q I rx rv h
 obtain ⟨d,kvs,rfl,rfl,hq,q⟩:=h
 cases rx
 have hus:=rv.zero
 subst hus
 obtain ⟨hz,lo,ws,kv,hD⟩:=hq.ok I.hok
 refine call_meetsIn PySem.F.slot_dict_items hD.typeIs PySem.F.entry_dict_items (PySem.F.args_dict_items_1 _) (meets_dict_items (aS X.prog X.w) d lo) ⟨⟨ws,hD⟩,?_⟩
 exact ⟨.ref s.heap.objs.size,_,I.laid (t':=s.toks) (fun b ob e=>Heap.get?_push_of_some _ e) (Nat.le_refl _) (fV.ok ⟨_,Heap.get?_push_size _ rfl,rfl,rfl⟩),rfl,q _ (I.hok.fresh (Nat.le_refl _))⟩
theorem nF (hc:X.calm = true):dU X (.type "list") (fun xs H Q=>∃ v d kvs,xs = [.ref v] ∧ H v = some (fV v d) ∧ Rd H d (.dK kvs) ∧ ∀ (l:Addr) (as:List Addr) (H':Hp),H l = none → aL H H' → H' l = some (.lst (as.map V.ref)) → nP H' as kvs → Q (.ref l) H'):=by
 intro pins s σ H xs us Q I r h
 obtain ⟨v,d,kvs,rfl,ev,hq,q⟩:=h
 obtain ⟨u,rfl,ru⟩:=aY.one r
 cases ru
 obtain ⟨hz,lo,vs,kv,hD⟩:=hq.ok I.hok
 obtain ⟨hv,_⟩:=I.hok v _ ev
 obtain ⟨ep,hat⟩:=hD.dictAt
 have hl:=KV.length kv
 refine PySem.W.kdx_call (knd:=aS X.prog X.w) (kvs:=vs) (ep:=ep) (I.ok.hd hc) hv hat (by omega) fun h' tk acc c as hk hg ha hG hacc=>?_
 have U1:Un X.fs [] H (upd H s.heap.objs.size (.lst (as.map V.ref))) s.heap h':=Un.laid hk (Nat.le_refl _) (I.hok.fresh (Nat.le_refl _))
 have ok1:HOk X.prog X.w (upd H s.heap.objs.size (.lst (as.map V.ref))) h':=I.hok.laid hk (Nat.le_refl _) ⟨by rw [List.length_map];omega,as.map Value.ref,c,qQ as,by rw [← hacc];simpa using hg⟩
 obtain ⟨H',S',P',U',ok'⟩:=rC as kvs vs _ kv ha hG.rise (fun a m=>Nat.le_of_lt (hG.above a m)) (fun a m=>by
  rw [aJ (Nat.ne_of_gt (hG.above a m))]
  exact I.hok.fresh (Nat.le_of_lt (hG.above a m))) hG.pairs U1 ok1
 exact ⟨.ref s.heap.objs.size,H',I.un (t':=tk) U' ok',rfl,q _ as H' (I.hok.fresh (Nat.le_refl _)) ((aL.upd (I.hok.fresh (Nat.le_refl _))).trans S') (S' _ _ aF) P'⟩
theorem Inv.thaw {pins:List (Addr × Obj)} {σ:List (Option V)} {H:Hp} {s:Shared} {d:Addr} {o:Obj} {kvs:List (Key × V)} (I:Inv X pins σ H s) (hd:H d = some (.frz o (.dK kvs))) (h0:X.H₀ d = none):Inv X pins σ (upd H d (.dK kvs)) s:=by
 have nn:∀ b,H b = none → b ≠ d:=fun b e c=>by rw [c,hd] at e;cases e
 refine ⟨I.ok,I.os,I.bare,⟨I.base.keep,I.base.slot,fun b u q n hx=>?_,I.base.there,fun b xs q=>?_,fun b u x q=>?_,fun b ps q=>?_⟩,I.loc,I.cell,?_,fun x c e=>?_,fun p hp=>?_,fun b u e=>?_,I.len⟩
 ·have:=I.base.free b u q n hx
  rw [aJ (nn b this)]
  exact this
 ·rw [aJ (aH q h0)]
  exact I.base.tups b xs q
 ·rw [aJ (aH q h0)]
  exact I.base.frzs b u x q
 ·rw [aJ (aH q h0)]
  exact I.base.tbls b ps q
 ·rw [aJ (nn _ I.free)]
  exact I.free
 ·rw [aJ (nn _ (I.freeC x c e))]
  exact I.freeC x c e
 ·obtain ⟨a,b,c⟩:=I.pin p hp
  exact ⟨a,by rw [aJ (nn _ b)];exact b,c⟩
 ·by_cases hb:b = d
  ·subst hb
   rw [aF] at e
   cases e
   obtain ⟨_,x⟩:=(show bG X.prog X.w H s.heap b (.frz o (.dK kvs)) from I.hok b _ hd)
   exact x
  ·rw [aJ hb] at e
   refine (I.hok b u e).stay (fun c v _ q=>q) (fun c q=>?_) fun c xs q=>?_
   ·rw [aJ (fun z=>by rw [z,hd] at q;cases q)];exact q
   ·rw [aJ (fun z=>by rw [z,hd] at q;cases q)];exact q
theorem qZ:MtR X "dict.clear" (fun x vs H Q=>∃ d kvs,x = .ref d ∧ vs = [] ∧ (H d = some (.dK kvs) ∨ ∃ o,H d = some (.frz o (.dK kvs)) ∧ X.H₀ d = none) ∧ Q .non (upd H d (.dK []))):=by
 intro pins s σ H x vs v us Q I rx rv h
 obtain ⟨d,kvs,rfl,rfl,hq,q⟩:=h
 cases rx
 have hus:=rv.zero
 subst hus
 have key:∀ H1:Hp,Inv X pins σ H1 s → H1 d = some (.dK kvs) → upd H1 d (.dK []) = upd H d (.dK []) → wpAny (model X.prog X.w) X.A (call (.builtin "dict.clear") [.ref d]) (EP X pins σ Q) X.xe s:=fun H1 I1 e1 e2=>by
  obtain ⟨hz,lo,ws,kv,hD⟩:=(show bG X.prog X.w H1 s.heap d (.dK kvs) from I1.hok d _ e1)
  have l1:=KV.length kv
  refine call_meetsIn PySem.F.slot_dict_clear hD.typeIs PySem.F.entry_dict_clear (PySem.F.args_dict_clear_1 _) (meets_dict_clear (knd:=aS X.prog X.w) (d:=d)) ⟨ws,hD,by omega,fun h' hd' hs=>?_⟩
  have hg:∃ z,h'.get? d = some z:=by
   obtain ⟨ob,_,_,e,_⟩:=hd'
   exact ⟨ob,e⟩
  refine ⟨.non,_,I1.write (t':=s.toks) (x:=d) (e:=d) (o:=.dK []) (by rw [e1];trivial) (.inl rfl) (fun b z nb e=>(hs.2 b nb).trans e) hg ⟨Nat.zero_le _,lo,[],.nil,hd'⟩,rfl,?_⟩
  rw [e2]
  exact q
 rcases hq with e | ⟨o,e,h0⟩
 ·exact key H I e rfl
 ·exact key _ (I.thaw e h0) aF aBV
end
end L2
namespace L2
open PySem PySem.Spec PyProof.Rows
def aHR (r:V → List V → Hp → VK → Prop) (to:TE):TE:=fun σ H Q=>to σ H fun x H1=>(∃ p kvs,x = .ref p ∧ Rd H1 p (.dK kvs)) ∧ r x [] H1 Q
section
variable {X:Cx} {o:Expr} {to:TE} {name:Str} {apos cpos:Pos} {id:String} {r:V → List V → Hp → VK → Prop}
theorem aAD (slot:Slot "dict" name id) (hty:typeOf (.builtin id) = pure (.type "method_descriptor")) (hm:MtR X id r) (ho:PE X o to)
  (hbase:attributeBase o name X.env (eval o X.env) = eval o X.env:=by rfl) (hline:(apos.endLine == cpos.line) = true:=by rfl):PE X (.Call (.Attribute o name apos) [] [] cpos) (aHR r to):=by
 intro pins s σ H Q I h
 refine wpAny_Call_method0_late hbase hline (thn (ho pins s σ H _ I h) fun v s1 ⟨x,H1,I1,r1,⟨p,kvs,e,hq⟩,q1⟩=>?_)
 subst e
 cases r1
 obtain ⟨_,_,_,_,ob,_,_,e,ex,_⟩:=hq.ok I1.hok
 have h2:∀ a,Value.ref p = .ref a → ∃ ob,s1.heap.get? a = some ob ∧ ob.dict = none:=fun a e2=>by
  cases e2
  exact ⟨ob,e,ex.2.1⟩
 exact ⟨"dict",id,PySem.F.plainAttrs_dict,slot,hty,⟨ob,e,ex.1⟩,h2,Calls.callWith_builtin rfl (PySem.evalArgs_none (hm pins s1 σ H1 (.ref p) [] _ [] Q I1 rfl .nil q1))⟩
end
end L2
namespace L2
open PySem PySem.Spec PyProof.Rows
section
variable {X:Cx}
theorem gO:dU X (.type "dict") (fun xs H Q=>∃ (p:Addr) (kvs:List (Key × V)),xs = [.ref p] ∧ H p = some (.dK kvs) ∧ ∀ l,H l = none → Q (.ref l) (upd H l (.dK kvs))):=by
 intro pins s σ H xs us Q I r h
 obtain ⟨p,kvs,rfl,hp,q⟩:=h
 obtain ⟨u,rfl,ru⟩:=aY.one r
 cases ru
 obtain ⟨hz,lo,ws,kv,hD⟩:=(show bG X.prog X.w H s.heap p (.dK kvs) from I.hok p _ hp)
 have l1:=KV.length kv
 refine kt_call_dict lo hD (by omega) fun h' hD' hs=>?_
 have k:∀ b o,s.heap.get? b = some o → h'.get? b = some o:=fun b o e=>(hs.2 b (Nat.ne_of_lt (Heap.lt_size e))).trans (Heap.get?_push_of_some _ e)
 refine ⟨.ref s.heap.objs.size,_,I.laid (t':=s.toks) k (Nat.le_refl _) (show bG X.prog X.w _ h' _ (.dK kvs) from ⟨hz,?_,ws,kv,hD'⟩),rfl,q _ (I.hok.fresh (Nat.le_refl _))⟩
 have b:=I.big
 exact beq_eq_false_iff_ne.mpr (Nat.ne_of_gt b)
end
end L2
namespace Mt46
open PySem L2 Ld Mt21
def units:List Int:=[1,3,5,7,9,11,15,17,19,21,23,25]
theorem yO:∀ u ∈ units,∀ d ∈ List.range 26,d ≠ 0 → ((d:Int) * u) % 26 ≠ 0:=by decide +kernel
theorem aFR {i j:Int} (e:ab i = ab j):i % 26 = j % 26:=by
 unfold ab at e
 have h1:=Int.emod_nonneg i (show (26:Int) ≠ 0 by decide)
 have h2:=Int.emod_nonneg j (show (26:Int) ≠ 0 by decide)
 omega
theorem wC {u r:Int} (hu:u ∈ units) {k l:Nat} (hl:l < 26) (h:k < l) (e:ab ((k:Int) * u + r) = ab ((l:Int) * u + r)):False:=by
 have e1:=(Int.emod_eq_emod_iff_emod_sub_eq_zero).mp (aFR e.symm)
 have e2:(l:Int) * u + r - ((k:Int) * u + r) = ((l - k:Nat):Int) * u:=by
  rw [Int.ofNat_sub (by omega),Int.sub_mul]
  omega
 rw [e2] at e1
 exact yO u hu (l - k) (List.mem_range.mpr (by omega)) (by omega) e1
theorem yP {u r:Int} (hu:u ∈ units) {k l:Nat} (hk:k < 26) (hl:l < 26) (e:ab ((k:Int) * u + r) = ab ((l:Int) * u + r)):k = l:=by
 rcases Nat.lt_trichotomy k l with h | h | h
 ·exact (wC hu hl h e).elim
 ·exact h
 ·exact (wC hu hk h e.symm).elim
theorem vJ (a:Str):∀ l:List Str,l.Nodup → l.length ≤ (l.filter fun z=>!decide (z = a)).length + 1
 | [],_=>by simp
 | z :: l,nd=>by
  rw [List.nodup_cons] at nd
  by_cases h:z = a
  ·have e:(l.filter fun z=>!decide (z = a)) = l:=by
    rw [List.filter_eq_self]
    intro y my
    have:y ≠ a:=fun e=>nd.1 (by rw [h,← e];exact my)
    simp [this]
   rw [List.filter_cons_of_neg (by simp [h]),e]
   simp
  ·rw [List.filter_cons_of_pos (by simp [h])]
   have:=vJ a l nd.2
   simp only [List.length_cons]
   omega
structure Nm (zs:List Str):Prop where
 nd:zs.Nodup
 nm:∀ z ∈ zs,dH z = true
 l1:25 ≤ zs.length
 l2:zs.length ≤ 26
theorem aGO {b:Str} {sz pl:Nat} {u r:Int} {g:Nat → Str} (hb:b.cps.toList.all gL = true) (hl:b.length = sz) (h1:1 ≤ sz) (h8:sz ≤ 8) (hp:pl < sz) (hu:u ∈ units)
  (pu:∀ k,k < 26 → (g k).cps.toList = b.cps.toList.take pl ++ [ab ((k:Int) * u + r)] ++ b.cps.toList.drop (pl + 1)):Nm (((List.range 26).map g).filter fun z=>!decide (z = "sea")):=by
 have bl:b.cps.toList.length = sz:=by rw [← fZ];exact hl
 have lg:∀ k,k < 26 → (g k).length = sz:=fun k hk=>by
  rw [fZ,pu k hk,List.length_append,List.length_append,List.length_take,List.length_drop,bl]
  show min pl sz + 1 + (sz - (pl + 1)) = sz
  omega
 have nd:((List.range 26).map g).Nodup:=tW fun k l hk hl e=>by
  have e1:(g k).cps.toList = (g l).cps.toList:=by rw [e]
  rw [pu k hk,pu l hl,List.append_assoc,List.append_assoc] at e1
  have e2:=List.append_cancel_left e1
  rw [List.singleton_append,List.singleton_append] at e2
  exact yP hu hk hl (List.cons.inj e2).1
 have ln:=vJ "sea" _ nd
 rw [List.length_map,List.length_range] at ln
 have lf:=List.length_filter_le (fun z=>!decide (z = ("sea":Str))) ((List.range 26).map g)
 rw [List.length_map,List.length_range] at lf
 refine ⟨nd.sublist List.filter_sublist,fun z mz=>?_,by omega,lf⟩
 obtain ⟨m1,m2⟩:=List.mem_filter.mp mz
 obtain ⟨k,mk,rfl⟩:=List.mem_map.mp m1
 have hk:=List.mem_range.mp mk
 have all:(g k).cps.toList.all gL = true:=by
  rw [pu k hk,List.all_append,List.all_append]
  have hb':=List.all_eq_true.mp hb
  rw [List.all_eq_true.mpr fun x m=>hb' x (List.mem_of_mem_take m),List.all_eq_true.mpr fun x m=>hb' x (List.mem_of_mem_drop m)]
  simp [rW]
 unfold dH
 rw [lg k hk,decide_eq_true h1,decide_eq_true h8,m2,all]
 rfl
theorem aIB {i:Int} (h0:0 ≤ i) (h1:i < 12):∃ u ∈ units,atI ([.int 1,.int 3,.int 5,.int 7,.int 9,.int 11,.int 15,.int 17,.int 19,.int 21,.int 23,.int 25]:List V) i = some (.int u):=by
 obtain ⟨k,rfl⟩:=Int.eq_ofNat_of_zero_le h0
 have hk:k < 12:=by omega
 have hk2:k < units.length:=hk
 refine ⟨units[k],List.getElem_mem hk2,aQ ?_⟩
 show (units.map V.int)[k]? = some (V.int units[k])
 rw [List.getElem?_map,List.getElem?_eq_getElem hk2]
 rfl
end Mt46
namespace L2
open PySem PySem.Spec PyProof.Rows
section
variable {prog:Program} {w:World} {A:Around} {E:Value → Shared → Prop} {s:Shared}
end
section
variable {X:Cx} {pos:Pos}
end
end L2
namespace L2
open PySem PySem.Spec PyProof.Rows
section
variable {X:Cx} {K:PySem.W.Frag}
theorem zX {ex:Expr} {T:String} {r:V → List V → Hp → VK → Prop} {to:TE} {ta:TA} (e:X.K = K) (h:PE X ex (tBM X.K T r to ta)):PE X ex (tBM K T r to ta):=e ▸ h
theorem dX {tg l:Expr} {tl:TE} (e:X.K = K) (h:PI X tg l (aAR X.K tl)):PI X tg l (aAR K tl):=e ▸ h
theorem aEV {pos:Pos} {es:List Expr} {k n:Nat} {t:TGs} (e:X.K = K) (m:Nat) (en:n = m) (h:PG X (.Tuple es k pos) (aAW X.K n t)):PG X (.Tuple es k pos) (aAW K m t):=by
 subst e
 subst en
 exact h
theorem aED {i:Nat} {v:V} {tb:TS} {D:Ends} {σ:St} {H:Hp} (h:∀ D':Ends,(∀ σ' H',D.nx σ' H' → D'.nx σ' H') → tb D' (σ.set i (some v)) H):lG i v σ H fun σ2 H2=>tb D σ2 H2:=h D fun _ _ x=>x
theorem gB {a b:TS} {D:Ends} {σ:St} {H:Hp} (h:∀ u:TS,(∀ D' σ' H',b D' σ' H' → u D' σ' H') → fY a u D σ H):fY a b D σ H:=h b fun _ _ _ x=>x
theorem tL {a1 a2 b:TS} {D:Ends} {σ:St} {H:Hp} (h:∀ u:TS,(∀ D' σ' H',b D' σ' H' → u D' σ' H') → fY a1 (fY a2 u) D σ H):fY a1 (fY a2 b) D σ H:=h b fun _ _ _ x=>x
theorem tK {a1 a2 a3 b:TS} {D:Ends} {σ:St} {H:Hp} (h:∀ u:TS,(∀ D' σ' H',b D' σ' H' → u D' σ' H') → fY a1 (fY a2 (fY a3 u)) D σ H):fY a1 (fY a2 (fY a3 b)) D σ H:=h b fun _ _ _ x=>x
theorem zN {a1 a2 a3 a4 b:TS} {D:Ends} {σ:St} {H:Hp} (h:∀ u:TS,(∀ D' σ' H',b D' σ' H' → u D' σ' H') → fY a1 (fY a2 (fY a3 (fY a4 u))) D σ H):fY a1 (fY a2 (fY a3 (fY a4 b))) D σ H:=h b fun _ _ _ x=>x
end
end L2
namespace Mt46
open PySem L2 Ld Mt21
def noSuch:Str:="nosuchxx"
theorem sL:noSuch.cps.toList = [110,111,115,117,99,104,120,120]:=by decide +kernel
theorem aFQ {i:Int} {n:Nat} (h:ab i = n) (h1:97 ≤ n):i % 26 = (n:Int) - 97:=by
 unfold ab at h
 have h0:=Int.emod_nonneg i (show (26:Int) ≠ 0 by decide)
 omega
theorem aCO {b s:Str} {sz pl:Nat} {q:Int} {x:Nat} (bc:b.cps.toList = (List.range sz).map fun (j:Nat)=>ab (q + (j:Int) * (j:Int))) (hp:pl < sz) (h8:sz ≤ 8) (hs:s.cps.toList = b.cps.toList.take pl ++ [x] ++ b.cps.toList.drop (pl + 1)):s ≠ noSuch:=fun e=>by
 have e1:s.cps.toList = [110,111,115,117,99,104,120,120]:=by rw [e];exact sL
 have l1:s.cps.toList.length = sz:=by
  rw [hs,List.length_append,List.length_append,List.length_take,List.length_drop,bc,List.length_map,List.length_range]
  show min pl sz + 1 + (sz - (pl + 1)) = sz
  omega
 have l8:sz = 8:=by rw [← l1,e1];rfl
 subst l8
 have get:∀ j:Nat,j < 8 → j ≠ pl → s.cps.toList[j]? = some (ab (q + (j:Int) * (j:Int))):=fun j hj hn=>by
  have hb:b.cps.toList[j]? = some (ab (q + (j:Int) * (j:Int))):=by
   rw [bc,List.getElem?_map,List.getElem?_range hj]
   rfl
  have lb:b.cps.toList.length = 8:=by rw [bc,List.length_map,List.length_range]
  rw [hs]
  by_cases h:j < pl
  ·rw [List.append_assoc,List.getElem?_append_left (by rw [List.length_take,lb];omega),List.getElem?_take,if_pos h]
   exact hb
  ·rw [List.getElem?_append_right (by rw [List.length_append,List.length_take,lb];show min pl 8 + 1 ≤ j;omega),List.length_append,List.length_take,lb,List.getElem?_drop]
   show b.cps.toList[pl + 1 + (j - (min pl 8 + 1))]? = _
   rw [show pl + 1 + (j - (min pl 8 + 1)) = j by omega]
   exact hb
 have at':∀ (j n:Nat),j < 8 → j ≠ pl → ([110,111,115,117,99,104,120,120]:List Nat)[j]? = some n → 97 ≤ n → (q + (j:Int) * (j:Int)) % 26 = (n:Int) - 97:=fun j n hj hn he h1=>by
  have:=get j hj hn
  rw [e1,he] at this
  exact aFQ (Option.some.inj this).symm h1
 by_cases p1:pl = 1
 ·have a0:=at' 0 110 (by omega) (by omega) rfl (by omega)
  have a2:=at' 2 115 (by omega) (by omega) rfl (by omega)
  omega
 ·by_cases p2:pl = 2
  ·have a0:=at' 0 110 (by omega) (by omega) rfl (by omega)
   have a3:=at' 3 117 (by omega) (by omega) rfl (by omega)
   omega
  ·have a1:=at' 1 111 (by omega) (by omega) rfl (by omega)
   have a2:=at' 2 115 (by omega) (by omega) rfl (by omega)
   omega
end Mt46
namespace L2
open PySem PySem.Spec PyProof.Rows
def Iti (d:Addr) (o:Obj) (kvs:List (Key × V)):It where
 go:=fun i H=>H d = some (.frz o (.dK kvs)) ∧ i < kvs.length
 yld:=fun i H v H'=>∃ p kv,H p = none ∧ v = .ref p ∧ H' = upd H p (.tup [kV kv.1,kv.2]) ∧ kvs[i]? = some kv
 stop:=fun i H=>H d = some (.frz o (.dK kvs)) ∧ kvs.length ≤ i
theorem pQ:entryFor table "dict_itemiterator.__iter__" = some Builtin.«dict_keyiterator.__iter__»:=entryFor_alias (id':="dict_keyiterator.__iter__") (by kernel_rfl) rfl (by decide +kernel) (by kernel_rfl)
theorem vN {prog:Program} {w:World} {A:Around} {E:Value → Shared → Prop} {s:Shared} {it d:Addr} {i n ep:Nat} {ok ov:Value} {Q:Value → Shared → Prop} (hit:IsItemIter s.heap it d i n ep ok ov) (h:Q (.ref it) s):wpAny (model prog w) A (pyIter (.ref it)) Q E s:=by
 have hT:s.TypeIs (.ref it) "dict_itemiterator":=⟨_,hit,rfl⟩
 refine wpAny_pyIter_slot hT F.slot_dict_itemiterator_iter (wpAny_call_entry F.slot_dict_itemiterator_iter hT pQ ?_ (F.args_dict_itemiterator_iter_1 _))
 show wpAny _ _ (ret (.ref it)) _ _ s
 exact wpAny_pure ⟨_,rfl,"dict_itemiterator",_,hT,F.slot_dict_itemiterator_next.lookup,h⟩
theorem uU {P:Program} {w:World} {K:PySem.W.Frag} {elts:List Expr} {k:Nat} {pos:Pos} {d it:Addr} {o:Obj} {kvs:List (Key × V)} {vs:List (Key × Value)} {ep:Nat} {h0:Heap} (kv:KV kvs vs) (hd0:h0.get? d = some o) (hat:h0.DictAt (aS P w) d vs ep) :
  Turn P w K (.Tuple elts k pos) (Iti d o kvs) [it] it (fun i h=>∃ ok ov,IsItemIter h it d i vs.length ep ok ov) where
 mem:=by simp
 obj:=fun i h ⟨ok,ov,st⟩ b hb=>by
  have e:b = it:=by simpa using hb
  subst e
  exact ⟨_,st,fun v z=>by cases z⟩
 keep:=fun i h h' ⟨ok,ov,st⟩ k=>⟨ok,ov,k it (by simp) _ st⟩
 item:=by
  intro X hP hw hK hc i pins s σ H E I hf ⟨ok,ov,st⟩ hg
  subst hP hw hK
  obtain ⟨hH,hi⟩:=hg
  have fi:=hf it (by simp)
  have now:=hat.at' (h':=s.heap) fun ob e=>by
   rw [hd0] at e
   cases e
   exact (show bG X.prog X.w H s.heap d (.frz o (.dK kvs)) from I.hok d _ hH).1
  have hl:=KV.length kv
  obtain ⟨⟨k,v⟩,hx⟩:∃ p,vs[i]? = some p:=⟨_,List.getElem?_eq_getElem (by omega)⟩
  obtain ⟨q,eq,e1,e2⟩:=KV.get kv hx
  refine wpAny_pyNext_items_item st now hx fun key h1 hkey heo ht1 hz1 hk1=>?_
  refine ⟨_,rfl,wpAny_letOwnedTupleGo_items heo fun h2 he2 hs2=>?_⟩
  replace hs2:Heap.SameBut it h1 h2:=hs2
  have lti:it < s.heap.objs.size:=Heap.lt_size st
  have kept:∀ b o,b ≠ it → s.heap.get? b = some o → h2.get? b = some o:=fun b o h4 q=>hs2.extBut b o h4 (hk1 b o h4 q)
  have ht2:h2.get? s.heap.objs.size = some { cls:=.type "tuple",data:=.seq #[key,v] }:=hs2.extBut _ _ (Nat.ne_of_gt lti) ht1
  have fresh:H s.heap.objs.size = none:=I.hok.fresh (Nat.le_refl _)
  have nin:∀ b,b ∉ [it] → b ≠ it:=fun b hb z=>hb (by simp [z])
  have ntr:∀ b o,H b = some o → b ≠ it:=fun b o q z=>(by rw [z,fi.1] at q;cases q)
  have rk:aZ (kV q.1) key:=by
   rw [show q.1 = k from e1]
   exact kB hkey
  have I2:Inv X pins σ (upd H s.heap.objs.size (.tup [kV q.1,q.2])) { s with heap:=h2 }:=by
   refine I.step (g':=s.gens) (d':=s.drawn) (ch:=[it]) (fun b hb=>?_) (fun b o _ _ hc q _=>kept b o (nin b hc) q) (fun b o _ _ hc q _=>⟨o.slots,kept b o (nin b hc) q⟩)
    (fun b o _ q n=>by rw [aJ (Nat.ne_of_lt (Heap.lt_size q))];exact n) (fun b o hc q=>⟨o,kept b o (nin b hc) q⟩)
    (fun b ys q=>by rw [aJ (aH q fresh)];exact q) (fun b o v q=>by rw [aJ (aH q fresh)];exact q) (fun b ps q=>⟨#[],by rw [aJ (aH q fresh),q];simp⟩) (fun m hm=>?_) (fun b v' q'=>?_) I.bare
   ·have hb':b = it:=by simpa using hb
    subst hb'
    exact ⟨fi.2.2.2.1,fi.2.1,fi.2.2.2.2.1,fi.2.2.2.2.2⟩
   ·obtain ⟨o,es,ep,ho,r⟩:=hm
    exact ⟨o,es,ep,kept _ o (Ne.symm fi.2.1) ho,r⟩
   ·by_cases hb:b = s.heap.objs.size
    ·subst hb
     rw [aF] at q'
     cases q'
     exact ⟨by show 2 ≤ sizeLine;decide,[key,v],.cons rk (.cons e2 .nil),⟨_,ht2,rfl,_,rfl,rfl⟩⟩
    ·rw [aJ hb] at q'
     refine (I.hok b v' q').stay (fun c o hc r=>?_) (fun c r=>by rw [aJ (aH r fresh)];exact r) fun c ys r=>by rw [aJ (aH r fresh)];exact r
     have hc':c ≠ it:=by
      rcases hc with rfl | hc
      ·exact ntr c v' q'
      ·exact ntr c _ hc
     exact kept c o hc' r
  refine ⟨.ref s.heap.objs.size,_,I2,rfl,⟨_,q,fresh,rfl,rfl,eq⟩,⟨_,_,he2⟩,fun b hb=>?_⟩
  have hb':b = it:=by simpa using hb
  subst hb'
  rw [aJ (Nat.ne_of_lt lti)]
  exact fi.1
 done:=by
  intro X hP hw hK hc i pins s σ H E I hf ⟨ok,ov,st⟩ hg
  subst hP hw hK
  obtain ⟨hH,hi⟩:=hg
  obtain ⟨f0,f1,f2,f3,f4,f5⟩:=hf it (by simp)
  have now:=hat.at' (h':=s.heap) fun ob e=>by
   rw [hd0] at e
   cases e
   exact (show bG X.prog X.w H s.heap d (.frz o (.dK kvs)) from I.hok d _ hH).1
  have hl:=KV.length kv
  exact wpAny_pyNext_items_end (I.ok.hd hc) st now (List.getElem?_eq_none (by omega)) fun h' eb=>⟨rfl,I.turned (t':=s.toks) (fun b ob hb e=>eb b ob hb e) f0 f1 f3 f4 f5⟩
 self:=fun _ _ _ _ _ ⟨_,_,st⟩ h=>vN st h
section
variable {X:Cx}
def aFM (t:TE):TI:=fun σ H R=>t σ H fun x H1=>∃ v d kvs,x = .ref v ∧ H1 v = some (fV v d) ∧ H1 d = some (.dK kvs) ∧ ∀ o,R (Iti d o kvs) (upd H1 d (.frz o (.dK kvs)))
theorem zY {elts:List Expr} {k:Nat} {tpos:Pos} {l:Expr} {tl:TE} (hl:PE X l tl):PI X (.Tuple elts k tpos) l (aFM tl):=by
 intro pins s σ H R I h
 refine thn (hl pins s σ H _ I h) fun u s1 ⟨x,H1,I1,r1,v,d,kvs,e,hv,hH,q⟩=>?_
 subst e
 cases r1
 have hok:=I1.hok d _ hH
 obtain ⟨hz,lo,vs,kv,hD⟩:=id hok
 obtain ⟨ep,hat⟩:=hD.dictAt
 obtain ⟨o,es,ho,_⟩:=id hat
 obtain ⟨view,_⟩:=I1.hok v _ hv
 have I2:Inv X pins σ (upd H1 d (.frz o (.dK kvs))) s1:=I1.write (x:=d) (e:=d) (o:=.frz o (.dK kvs)) (h':=s1.heap) (t':=s1.toks) (by rw [hH];exact trivial) (.inl rfl) (fun _ _ _ q=>q) ⟨o,ho⟩ ⟨ho,hz,lo,vs,kv,hD⟩
 refine wpAny_pyIter_items view hat ⟨s1.heap.objs.size,[s1.heap.objs.size],_,_,upd H1 d (.frz o (.dK kvs)),rfl,I2.kept (t':=s1.toks) (fun b ob e=>Heap.get?_push_of_some _ e),uU kv ho hat,⟨_,_,Heap.get?_push_size _ rfl⟩,fun b hb=>?_,q o⟩
 rw [show b = s1.heap.objs.size by simpa using hb]
 exact I2.fpOk (Nat.le_refl _) (I2.hok.fresh (Nat.le_refl _))
theorem vW {d:Addr} {o:Obj} {kvs:List (Key × V)} {σb:St} {g:TG} {tt:TT} {te:TE} {fin:List V → Hp → Prop} {H:Hp} (hz:kvs.length ≤ sizeLine) (Pv:Nat → List V → Hp → Prop) (h0:Pv 0 [] H)
  (hl:∀ i ys H,i ≤ kvs.length → Pv i ys H → H d = some (.frz o (.dK kvs)) ∧ ys.length ≤ i)
  (hs:∀ i kv ys H p (K:VK) (K':Hp → Prop),kvs[i]? = some kv → Pv i ys H → H p = none → (∀ y H4,Pv (i + 1) (ys ++ [y]) H4 → K y H4) → (∀ H3,Pv (i + 1) ys H3 → K' H3) →
   g (.ref p) σb (upd H p (.tup [kV kv.1,kv.2])) fun σ2 H2=>tt σ2 H2 fun b H3=>if b = true then te σ2 H3 K else K' H3)
  (hd:∀ ys H,Pv kvs.length ys H → fin ys H):∃ W:CW,(∃ m,W 0 m [] H) ∧ ∀ i m ys H,W i m ys H → qS σb (Iti d o kvs) g tt te W fin i m ys H:=by
 refine ⟨fun i m ys H=>m + i = kvs.length ∧ Pv i ys H,⟨kvs.length,rfl,h0⟩,?_⟩
 intro i m ys H hw
 obtain ⟨hm,p⟩:=hw
 obtain ⟨q,ql⟩:=hl i ys H (by omega) p
 rcases Nat.lt_or_ge i kvs.length with lt | ge
 ·refine .inr ⟨⟨q,lt⟩,by omega,fun x H' y=>?_⟩
  obtain ⟨pp,kv,hp,ex,eH,ek⟩:=y
  subst eH ex
  exact hs i kv ys _ pp _ _ ek p hp (fun y H4 r=>⟨kvs.length - (i + 1),by omega,by omega,r⟩) fun H3 r=>⟨kvs.length - (i + 1),by omega,by omega,r⟩
 ·have ei:i = kvs.length:=by omega
  subst ei
  exact .inl ⟨⟨q,Nat.le_refl _⟩,hd ys H p⟩
end
end L2
namespace K81
open PySem L2
local macro_rules | `(tactic| trivial)=>`(tactic| first | exact .inl rfl | exact .inr rfl | assumption)
def top (i:Nat):Stmt:=PySem.Challenge.pw_dykemoot_k81_moots_opened.main.body.getD i (.Pass ⟨0,0,0,0⟩)
abbrev kT:Stmt:=top 0
abbrev eW:Stmt:=top 15
theorem qC:FnScope ["thing"] ["thing"] (aE eW):=⟨rfl,rfl,rfl,by decide +kernel,rfl,by decide +kernel,by decide +kernel⟩
abbrev fL:Stmt:=top 16
theorem sD:FnScope ["thing"] ["thing"] (aE fL):=⟨rfl,rfl,rfl,by decide +kernel,rfl,by decide +kernel,by decide +kernel⟩
abbrev eF:Stmt:=top 17
theorem oF:FnScope ["thing"] ["thing"] (aE eF):=⟨rfl,rfl,rfl,by decide +kernel,rfl,by decide +kernel,by decide +kernel⟩
abbrev eG:Stmt:=top 18
theorem oG:FnScope ["thing"] ["thing"] (aE eG):=⟨rfl,rfl,rfl,by decide +kernel,rfl,by decide +kernel,by decide +kernel⟩
abbrev eE:Stmt:=top 19
theorem oE:FnScope ["thing","names"] ["thing","names"] (aE eE):=⟨rfl,rfl,rfl,by decide +kernel,rfl,by decide +kernel,by decide +kernel⟩
abbrev dM:Stmt:=top 20
theorem mY:FnScope ["thing","most"] ["thing","most"] (aE dM):=⟨rfl,rfl,rfl,by decide +kernel,rfl,by decide +kernel,by decide +kernel⟩
abbrev cY:Stmt:=top 21
theorem lL:FnScope ["thing","length"] ["thing","length"] (aE cY):=⟨rfl,rfl,rfl,by decide +kernel,rfl,by decide +kernel,by decide +kernel⟩
abbrev dL:Stmt:=top 22
theorem mX:FnScope ["rows"] ["rows"] (aE dL):=⟨rfl,rfl,rfl,by decide +kernel,rfl,by decide +kernel,by decide +kernel⟩
abbrev eX:Stmt:=top 23
theorem qD:FnScope ["thing"] ["thing"] (aE eX):=⟨rfl,rfl,rfl,by decide +kernel,rfl,by decide +kernel,by decide +kernel⟩
abbrev dO:Stmt:=top 24
theorem mZ:FnScope ["thing"] ["thing"] (aE dO):=⟨rfl,rfl,rfl,by decide +kernel,rfl,by decide +kernel,by decide +kernel⟩
abbrev eI:Stmt:=top 25
theorem oH:FnScope ["one","other","sides"] ["one","other","sides"] (aE eI):=⟨rfl,rfl,rfl,by decide +kernel,rfl,by decide +kernel,by decide +kernel⟩
abbrev fK:Stmt:=top 26
theorem sC:FnScope ["thing","crown"] ["thing","crown"] (aE fK):=⟨rfl,rfl,rfl,by decide +kernel,rfl,by decide +kernel,by decide +kernel⟩
abbrev fM:Stmt:=top 27
theorem sE:FnScope ["thing","sides"] ["thing","sides"] (aE fM):=⟨rfl,rfl,rfl,by decide +kernel,rfl,by decide +kernel,by decide +kernel⟩
abbrev eJ:Stmt:=top 28
theorem oI:FnScope ["thing","sides"] ["thing","sides"] (aE eJ):=⟨rfl,rfl,rfl,by decide +kernel,rfl,by decide +kernel,by decide +kernel⟩
abbrev fB:Stmt:=cR (top 29) 0
theorem qE:FnScope ["self","fields","dykes"] ["self","fields","dykes"] (aE fB):=⟨rfl,rfl,rfl,by decide +kernel,rfl,by decide +kernel,by decide +kernel⟩
abbrev dA:Stmt:=cR (top 29) 1
theorem lN:FnScope ["self"] ["self"] (aE dA):=⟨rfl,rfl,rfl,by decide +kernel,rfl,by decide +kernel,by decide +kernel⟩
abbrev dP:Stmt:=cR (top 29) 2
theorem nA:FnScope ["self"] ["self"] (aE dP):=⟨rfl,rfl,rfl,by decide +kernel,rfl,by decide +kernel,by decide +kernel⟩
abbrev cA:Stmt:=cR (top 29) 3
theorem iY:FnScope ["self"] ["self"] (aE cA):=⟨rfl,rfl,rfl,by decide +kernel,rfl,by decide +kernel,by decide +kernel⟩
abbrev cP:Stmt:=cR (top 29) 4
abbrev dW:Stmt:=cR (top 29) 5
abbrev eP:Stmt:=cR (top 29) 6
abbrev fJ:Stmt:=cR (top 29) 7
abbrev fI:Stmt:=cR (top 29) 8
abbrev eO:Stmt:=cR (top 29) 9
abbrev bZ:Stmt:=top 31
theorem cK:FnScope ["one","other","rest"] ["one","other"] (aE bZ):=⟨rfl,rfl,rfl,by decide +kernel,rfl,by decide +kernel,by decide +kernel⟩
abbrev eY:Stmt:=top 32
theorem kG:FnScope ["top","bottom","divisor"] ["top","bottom"] (aE eY):=⟨rfl,rfl,rfl,by decide +kernel,rfl,by decide +kernel,by decide +kernel⟩
abbrev jD:Stmt:=top 33
theorem xM:FnScope ["one","other"] ["one","other"] (aE jD):=⟨rfl,rfl,rfl,by decide +kernel,rfl,by decide +kernel,by decide +kernel⟩
abbrev eL:Stmt:=top 36
theorem oJ:FnScope ["thing"] ["thing"] (aE eL):=⟨rfl,rfl,rfl,by decide +kernel,rfl,by decide +kernel,by decide +kernel⟩
abbrev dN:Stmt:=top 37
theorem iU:FnScope ["land","thing","names"] ["land","thing"] (aE dN):=⟨rfl,rfl,rfl,by decide +kernel,rfl,by decide +kernel,by decide +kernel⟩
abbrev eZ:Stmt:=cR (top 38) 0
theorem kH:FnScope ["self","land","purses"] ["self","land","purses"] (aE eZ):=⟨rfl,rfl,rfl,by decide +kernel,rfl,by decide +kernel,by decide +kernel⟩
abbrev fH:Stmt:=cR (top 38) 1
abbrev fA:Stmt:=cR (top 38) 2
theorem gX:FnScope ["self","field","coins"] ["self","field","coins"] (aE fA):=⟨rfl,rfl,rfl,by decide +kernel,rfl,by decide +kernel,by decide +kernel⟩
abbrev eM:Stmt:=cR (top 38) 3
theorem oK:FnScope ["self"] ["self"] (aE eM):=⟨rfl,rfl,rfl,by decide +kernel,rfl,by decide +kernel,by decide +kernel⟩
abbrev cZ:Stmt:=cR (top 38) 4
theorem lM:FnScope ["self"] ["self"] (aE cZ):=⟨rfl,rfl,rfl,by decide +kernel,rfl,by decide +kernel,by decide +kernel⟩
abbrev eN:Stmt:=cR (top 38) 5
theorem oM:FnScope ["self"] ["self"] (aE eN):=⟨rfl,rfl,rfl,by decide +kernel,rfl,by decide +kernel,by decide +kernel⟩
abbrev hV:Stmt:=top 40
theorem kL:FnScope ["_law_script","_law_k","_law_number"] ["_law_script","_law_k"] (aE hV):=⟨rfl,rfl,rfl,by decide +kernel,rfl,by decide +kernel,by decide +kernel⟩
abbrev hU:Stmt:=top 41
theorem cU:FnScope ["_law_cell","_law_letters","_law_size","_law_place","_law_by","_law_base","_law_found","_law_k","_law_sign"] ["_law_cell"] (aE hU):=⟨rfl,rfl,rfl,by decide +kernel,rfl,by decide +kernel,by decide +kernel⟩
abbrev gE:Stmt:=top 42
theorem tM:FnScope ["_law_cell"] ["_law_cell"] (aE gE):=⟨rfl,rfl,rfl,by decide +kernel,rfl,by decide +kernel,by decide +kernel⟩
abbrev gF:Stmt:=top 43
theorem eT:FnScope ["_law_script","_law_most","_law_names_here","_law_fields_here","_law_k","_law_cell","_law_dues"] ["_law_script","_law_most"] (aE gF):=⟨rfl,rfl,rfl,by decide +kernel,rfl,by decide +kernel,by decide +kernel⟩
abbrev hW:Stmt:=top 44
theorem bV:FnScope ["_law_script","_law_at","_law_most","_law_fields_here","_law_names_here","_law_sides","_law_dykes_here","_law_k","_law_cell","_law_one","_law_others","_law_other","_law_crown","_law_rate","_law_sill"] ["_law_script","_law_at","_law_most","_law_fields_here"] (aE hW):=⟨rfl,rfl,rfl,by decide +kernel,rfl,by decide +kernel,by decide +kernel⟩
abbrev gD:Stmt:=top 45
theorem dJ:FnScope ["_law_script","_law_fields_here","_law_some","_law_turn","_law_name","_law_ground","_law_dues","_law_cell"] ["_law_script","_law_fields_here"] (aE gD):=⟨rfl,rfl,rfl,by decide +kernel,rfl,by decide +kernel,by decide +kernel⟩
abbrev gC:Stmt:=top 46
theorem jC:FnScope ["_law_purses_here","_law_cell","_law_some","_law_name"] ["_law_purses_here","_law_cell"] (aE gC):=⟨rfl,rfl,rfl,by decide +kernel,rfl,by decide +kernel,by decide +kernel⟩
abbrev fN:Stmt:=top 47
theorem kS:FnScope ["_law_land","_law_purses_here","e"] ["_law_land","_law_purses_here"] (aE fN):=⟨rfl,rfl,rfl,by decide +kernel,rfl,by decide +kernel,by decide +kernel⟩
abbrev kU:Stmt:=top 48
theorem eD:FnScope ["_law_moot","_law_field","_law_coins","_law_gone","e"] ["_law_moot","_law_field","_law_coins"] (aE kU):=⟨rfl,rfl,rfl,by decide +kernel,rfl,by decide +kernel,by decide +kernel⟩
abbrev hJ:Stmt:=top 49
theorem iL:FnScope ["_law_moot","_law_fields_here","_law_dykes_here","_law_held","_law_found","_law_due","_law_name"] ["_law_moot","_law_fields_here","_law_dykes_here","_law_held"] (aE hJ):=⟨rfl,rfl,rfl,by decide +kernel,rfl,by decide +kernel,by decide +kernel⟩
abbrev jU:Stmt:=top 50
theorem cS:FnScope ["_law_script","_law_fields_here","_law_dykes_here","_law_land","_law_held","_law_handed","_law_moot","_law_k","_law_cell","_law_name","_law_coins","_law_odd","_law_strange"] ["_law_script"] (aE jU):=⟨rfl,rfl,rfl,by decide +kernel,rfl,by decide +kernel,by decide +kernel⟩
structure Txt (K:PySem.W.Frag) (mg:Str → Option Value) (C:Addr):Prop where
 cl_Land:Cls K C
 mg_Land:mg "Land" = some (.ref C)
 a_field_rows:gP K C "field_rows"
 a_dyke_rows:gP K C "dyke_rows"
 i_Land:InitAt K C "Land.__init__" fB ["self","fields","dykes"]
 m_land_p_fields:MethAt K C "fields" "Land.fields" dA ["self"]
 m_land_p_dykes:MethAt K C "dykes" "Land.dykes" dP ["self"]
 m_land_p_field_names:MethAt K C "field_names" "Land.field_names" cA ["self"]
 m_land_p_dyke_names:MethAt K C "dyke_names" "Land.dyke_names" cP ["self"]
 m_land_p_sluices:MethAt K C "sluices" "Land.sluices" dW ["self"]
 m_land_p_ground:MethAt K C "ground" "Land.ground" eP ["self","field"]
 m_land_p_dues:MethAt K C "dues" "Land.dues" fJ ["self","field"]
 m_land_p_dyke:MethAt K C "dyke" "Land.dyke" fI ["self","name"]
 m_land_p_raised:MethAt K C "raised" "Land.raised" eO ["self","works"]
 k_Moot:∃ C_Moot:Addr,Cls K C_Moot ∧ mg "Moot" = some (.ref C_Moot) ∧ gP K C_Moot "land_now" ∧ gP K C_Moot "purse_of" ∧ gP K C_Moot "works_done" ∧ InitAt K C_Moot "Moot.__init__" eZ ["self","land","purses"] ∧ MethAt K C_Moot "move" "Moot.move" fH ["self","fields","height","yes"] ∧ MethAt K C_Moot "put" "Moot.put" fA ["self","field","coins"] ∧ MethAt K C_Moot "land" "Moot.land" eM ["self"] ∧ MethAt K C_Moot "purses" "Moot.purses" cZ ["self"] ∧ MethAt K C_Moot "done" "Moot.done" eN ["self"]
 xs:∃ c_NoPurse c_NoVoice c_DykeError c_Short:Addr,(ExJ K c_NoPurse) ∧ (ExJ K c_NoVoice) ∧ mg "NoPurse" = some (.ref c_NoPurse) ∧ mg "NoVoice" = some (.ref c_NoVoice) ∧ mg "DykeError" = some (.ref c_DykeError) ∧ mg "Short" = some (.ref c_Short) ∧ PySem.W.kitOne K (.ref c_NoPurse) (.ref c_DykeError) = some true ∧ PySem.W.kitOne K (.ref c_NoPurse) (.ref c_NoPurse) = some true ∧ PySem.W.kitOne K (.ref c_NoPurse) (.type "ValueError") = some true ∧ PySem.W.kitOne K (.ref c_NoPurse) (.ref c_NoVoice) = some false ∧ PySem.W.kitOne K (.ref c_NoPurse) (.ref c_Short) = some false ∧ PySem.W.kitOne K (.ref c_NoVoice) (.ref c_DykeError) = some true ∧ PySem.W.kitOne K (.ref c_NoVoice) (.ref c_NoPurse) = some false ∧ PySem.W.kitOne K (.ref c_NoVoice) (.type "ValueError") = some true ∧ PySem.W.kitOne K (.ref c_NoVoice) (.ref c_NoVoice) = some true ∧ PySem.W.kitOne K (.ref c_NoVoice) (.ref c_Short) = some false ∧ PySem.W.exmOne K (.ref c_NoPurse) (.ref c_DykeError) = some true ∧ PySem.W.exmOne K (.ref c_NoVoice) (.ref c_DykeError) = some true
 d_p_wall:DefAt K mg "_wall" kT ["k"]
 d_p_is_whole:DefAt K mg "is_whole" eW ["thing"]
 d_p_is_name:DefAt K mg "is_name" fL ["thing"]
 d_p_is_height:DefAt K mg "is_height" eF ["thing"]
 d_p_is_amount:DefAt K mg "is_amount" eG ["thing"]
 d_p_is_one_of:DefAt K mg "is_one_of" eE ["thing","names"]
 d_p_is_list_of:DefAt K mg "is_list_of" dM ["thing","most"]
 d_p_is_tuple_of:DefAt K mg "is_tuple_of" cY ["thing","length"]
 d_p_none_twice:DefAt K mg "none_twice" dL ["rows"]
 d_p_is_field:DefAt K mg "is_field" eX ["thing"]
 d_p_are_fields:DefAt K mg "are_fields" dO ["thing"]
 d_p_are_sides:DefAt K mg "are_sides" eI ["one","other","sides"]
 d_p_is_sill:DefAt K mg "is_sill" fK ["thing","crown"]
 d_p_is_dyke:DefAt K mg "is_dyke" fM ["thing","sides"]
 d_p_are_dykes:DefAt K mg "are_dykes" eJ ["thing","sides"]
 d_p_greatest_divisor:DefAt K mg "greatest_divisor" bZ ["one","other"]
 d_p_fraction:DefAt K mg "fraction" eY ["top","bottom"]
 d_p_plus:DefAt K mg "plus" jD ["one","other"]
 d_p_are_coins:DefAt K mg "are_coins" eL ["thing"]
 d_p_are_purses:DefAt K mg "are_purses" dN ["land","thing"]
 d_l_mixed:DefAt K mg "_law_mixed" hV ["_law_script","_law_k"]
 d_l_names:DefAt K mg "_law_names" hU ["_law_cell"]
 d_l_height:DefAt K mg "_law_height" gE ["_law_cell"]
 d_l_fields:DefAt K mg "_law_fields" gF ["_law_script","_law_most"]
 d_l_dykes:DefAt K mg "_law_dykes" hW ["_law_script","_law_at","_law_most","_law_fields_here"]
 d_l_purses:DefAt K mg "_law_purses" gD ["_law_script","_law_fields_here"]
 d_l_spoilt:DefAt K mg "_law_spoilt" gC ["_law_purses_here","_law_cell"]
 d_l_refused:DefAt K mg "_law_refused" fN ["_law_land","_law_purses_here"]
 d_l_put:DefAt K mg "_law_put" kU ["_law_moot","_law_field","_law_coins"]
 d_l_tells:DefAt K mg "_law_tells" hJ ["_law_moot","_law_fields_here","_law_dykes_here","_law_held"]
 d_p_law:DefAt K mg "law" jU ["_law_script"]
 g_SEA:hE mg "SEA" (.str "sea")
 g_LETTERS:hE mg "LETTERS" (.str "abcdefghijklmnopqrstuvwxyz")
 g_MOST_LETTERS:hE mg "MOST_LETTERS" (.int 8)
 g_MOST_HEIGHT:hE mg "MOST_HEIGHT" (.int 1000000)
 g_MOST_AMOUNT:hE mg "MOST_AMOUNT" (.int 1000000)
 g_MOST_FIELDS:hE mg "MOST_FIELDS" (.int 12)
 g_MOST_DYKES:hE mg "MOST_DYKES" (.int 40)
 g_MOST_COINS:hE mg "MOST_COINS" (.int 1000000000000)
 n_ValueError:mg "ValueError" = none
 n_abs:mg "abs" = none
 n_all:mg "all" = none
 n_bool:mg "bool" = none
 n_dict:mg "dict" = none
 n_int:mg "int" = none
 n_isinstance:mg "isinstance" = none
 n_len:mg "len" = none
 n_list:mg "list" = none
 n_max:mg "max" = none
 n_min:mg "min" = none
 n_range:mg "range" = none
 n_set:mg "set" = none
 n_str:mg "str" = none
 n_tuple:mg "tuple" = none
section
variable {P:Program} {w:World} {K:PySem.W.Frag} {mg:Str → Option Value} {base:Heap} {C:Addr}
open Ld
theorem cX:(1000:Nat) ≤ sizeLine:=by decide
def nG:Sp:=sp1 fun x H Q=>∃ d,Is H d x ∧ Q (.bl (isInt d)) H
theorem gY (T:Txt K mg C):Fc P w K mg base 1 "is_whole" ["thing"] nG:=by
 refine T.d_p_is_whole.fc qC jJ (fun f cdv A outer s H vs Q E hr h=>?_)
 obtain ⟨x,rfl,d,hd,q⟩:=h
 obtain ⟨t,ty,e1,e2,_⟩:=mM K hd
 refine ⟨_,(aI (@aT _ _ _ _ (@cE _ _ _ _ _ _ _ (@aO _ _ _ _ _ _ _ _ _ (@bY _ (K) rfl) rfl T.n_isinstance aM (aA (pv 0) (aA (@gR _ _ _ _ T.n_int dC (by rfl) (by decide) (by decide)) aD)) (by decide) (by decide) (by rfl) (by rfl)) (@dD _ _ _ _ _ (@aAA _ _ _ _ (@aO _ _ _ _ _ _ _ _ _ (@bY _ (K) rfl) rfl T.n_isinstance aM (aA (pv 0) (aA (@gR _ _ _ _ T.n_bool pZ (by rfl) (by decide) (by decide)) aD)) (by decide) (by decide) (by rfl) (by rfl))))))),?_⟩
 refine ⟨_,rfl,_,_,_,t,_,rfl,rfl,ty,e1,_,rfl,?_⟩
 refine jA (fun h=>?_) (fun h=>?_)
 ·refine ⟨_,rfl,_,_,_,t,_,rfl,rfl,ty,e2,_,rfl,?_⟩
  have e:(!aAQ d) = isInt d:=by cases d <;> simp_all [isInt,aAQ]
  rw [e]
  exact q
 ·have e:isInt d = false:=by cases d <;> simp_all [isInt,aAQ]
  rw [e] at q
  exact q
def uV:Sp:=sp1 fun x H Q=>∃ d,Is H d x ∧ eC d = true ∧ Q (.bl (kO d)) H
theorem lB (T:Txt K mg C):Fc P w K mg base 1 "is_name" ["thing"] uV:=by
 refine T.d_p_is_name.fcD sD jJ (fun f cdv A outer s H vs Q E hr h=>?_)
 obtain ⟨x,rfl,d,hd,hz,q⟩:=h
 obtain ⟨t,ty,e1,e2,e3,_⟩:=mM K hd
 have big:=cX
 refine ⟨_,(aG (@cN _ _ _ _ _ _ _ _ (@PW.pt _ _ _ (@iA _ _ _ _ _ _ _ (@cD _ _ _ _ (@bW _ _ _ (@aO _ _ _ _ _ _ _ _ _ (@bY _ (K) rfl) rfl T.n_isinstance aM (aA (pv 0) (aA (@gR _ _ _ _ T.n_str rN (by rfl) (by decide) (by decide)) aD)) (by decide) (by decide) (by rfl) (by rfl)) (by intro _;rfl))) (@fS _ _ _ _ (@cD _ _ _ _ (@zV _ _ _ _ _ _ _ _ _ _ _ _ kJ kJ aB (@aO _ _ _ _ _ _ _ _ _ sV rfl T.n_len bS (aA (pv 0) aD) (by decide) (by decide) (by rfl) (by rfl)) (@qF _ _ _ _ T.g_MOST_LETTERS (by rfl) (by decide)) (by with_unfolding_all rfl)))))) (aI (@aT _ _ _ _ gS)) bM) (aI (@aT _ _ _ _ (@cE _ _ _ _ _ _ _ (@dF _ _ _ _ _ _ _ _ kI (pv 0) (@qF _ _ _ _ T.g_SEA (by rfl) (by decide)) (@bT _ _ (by decide) (by decide))) (@dD _ _ _ _ _ (@aO _ _ _ _ _ _ _ _ _ (@lK _ rfl) rfl T.n_all kF (aA (@dZ _ _ _ _ _ _ _ _ _ _ _ ["sign"] 1 [] rfl (@aEW _ _ _ _ (pv 0)) (fun R=>@bN _ _ (0) _ (show List.Nodup (["sign"]:List Str) by decide +kernel) rfl (Or.inl rfl) (by trivial)) (@bR _ _ (by decide)) (fun R=>cT) (fun R=>(@dF _ _ _ _ _ _ _ _ xP (pv 0) (@qF _ _ _ _ T.g_LETTERS (by rfl) (by decide)) (by with_unfolding_all rfl))) (by rfl) (by rfl) (by rfl) (by rfl) (by rfl) (by rfl) (by rfl) (by intro _;rfl)) aD) (by decide) (by decide) (by rfl) (by rfl))))))),?_⟩
 refine ⟨_,rfl,_,_,_,t,_,rfl,rfl,ty,e3,_,rfl,?_⟩
 cases d with
 | str z =>
  cases (show x = .str z from hd)
  have hz:z.length ≤ 1000:=of_decide_eq_true hz
  have q:Q (.bl (dH z)) H:=q
  have hzs:z.length ≤ sizeLine:=by omega
  refine bX ?_
  refine ⟨_,rfl,z,rfl,hzs,_,_,rfl,rfl,_,rfl,?_⟩
  refine jA (fun h1=>?_) (fun h1=>?_)
  ·refine ⟨_,_,rfl,rfl,_,rfl,?_⟩
   have h1':1 ≤ z.length:=by
    have:=of_decide_eq_true h1
    omega
   refine jA (fun h2=>?_) (fun h2=>?_)
   ·have e:dH z = false:=by
     have h2':¬ z.length ≤ 8:=by
      intro h3
      have:((z.length:Nat):Int) ≤ 8:=by omega
      simp [this] at h2
     simp [dH,h2']
    rw [e] at q
    exact cO.of (.refl _) q
   ·have h2':z.length ≤ 8:=by
     have h3:decide (((z.length:Nat):Int) ≤ 8) = true:=by
      cases h4:decide (((z.length:Nat):Int) ≤ 8) with
      | true=>rfl
      | false=>exact absurd (by rw [h4];rfl) h2
     have:=of_decide_eq_true h3
     omega
    refine ⟨_,rfl,rfl,_,rfl,?_⟩
    refine jA (fun h3=>?_) (fun h3=>?_)
    ·have h3':¬ z = "sea":=by
      intro h4
      subst h4
      simp at h3
     refine ⟨_,rfl,z,rfl,?_⟩
     refine aBP (Nat.le_trans hz (by decide)) (fun i ys H'=>H' = H ∧ ys = (z.cps.toList.take i).map fun c=>V.bl (gL c)) ⟨rfl,rfl⟩ ?_ ?_ ?_
     ·rintro i ys H' ⟨_,rfl⟩
      rw [List.length_map,List.length_take]
      omega
     ·rintro i c ys H' K1 K2 hc ⟨rfl,rfl⟩ k1 k2
      refine ⟨_,rfl,_,_,rfl,rfl,k1 _ _ ⟨rfl,?_⟩⟩
      have hc':z.cps.toList[i]? = some c:=by simpa using hc
      rw [List.take_add_one,hc',vP]
      simp
     ·rintro ys H' ⟨rfl,rfl⟩
      intro p hp'
      refine ⟨p,z.cps.toList.map gL,rfl,SqL.of ?_,?_⟩
      ·rw [aF,List.take_of_length_le (by simp),List.map_map]
       rfl
      ·refine ⟨H',fQ.lst hp',?_⟩
       have e:dH z = (z.cps.toList.map gL).all id:=by
        rw [List.all_map]
        simp [dH,h1',h2',h3']
       rw [← e]
       exact q
    ·have e:dH z = false:=by
      have h4:z = "sea":=by
       apply Classical.byContradiction
       intro h5
       exact h3 (by simp [h5])
      subst h4
      simp [dH]
     rw [e] at q
     exact cO.of (.refl _) q
  ·have e:dH z = false:=by
    have h1':¬ 1 ≤ z.length:=by
     intro h3
     exact h1 (decide_eq_true (by omega))
    simp [dH,h1']
   rw [e] at q
   exact ⟨_,rfl,cO.of (.refl _) q⟩
 | non=>exact cO.of (.refl _) q
 | bl b=>exact cO.of (.refl _) q
 | int i=>exact cO.of (.refl _) q
 | lst a=>exact cO.of (.refl _) q
 | tup a=>exact cO.of (.refl _) q
 | dct a b=>exact cO.of (.refl _) q
def kR:Sp:=sp1 fun x H Q=>∃ d,Is H d x ∧ Q (.bl (gN d)) H
theorem gJ (T:Txt K mg C):Fc P w K mg base 2 "is_height" ["thing"] kR:=by
 have G_p_is_whole:Fc P w K mg base 1 "is_whole" ["thing"] nG:=gY T
 refine T.d_p_is_height.fc oF jJ (fun f cdv A outer s H vs Q E hr h=>?_)
 obtain ⟨x,rfl,d,hd,q⟩:=h
 refine ⟨_,(aI (@aT _ _ _ _ (@cE _ _ _ _ _ _ _ (@bQ _ _ _ _ _ _ _ _ _ _ G_p_is_whole (hr.mono (by decide)) (aA (pv 0) aD) (by rfl) (by decide) (by rfl) (by rfl)) (@dD _ _ _ _ _ (@kZ _ _ _ _ _ _ _ _ _ _ _ _ kJ kJ (@aEB _ _ _ _ _ _ yQ (@qF _ _ _ _ T.g_MOST_HEIGHT (by rfl) (by decide))) (pv 0) (@qF _ _ _ _ T.g_MOST_HEIGHT (by rfl) (by decide)) (by with_unfolding_all rfl)))))),?_⟩
 refine ⟨_,rfl,_,rfl,d,hd,_,rfl,?_⟩
 cases d with
 | int i =>
  cases (show x = .int i from hd)
  refine eA ?_
  have q:Q (.bl (decide (-1000000 ≤ i) && decide (i ≤ 1000000))) H:=q
  refine ⟨_,rfl,_,rfl,_,_,rfl,rfl,_,rfl,?_⟩
  refine jA (fun h1=>?_) (fun h1=>?_)
  ·refine ⟨_,_,rfl,rfl,?_⟩
   rw [decide_eq_true (show -1000000 ≤ i from of_decide_eq_true h1),Bool.true_and] at q
   exact q
  ·rw [show decide (-1000000 ≤ i) = false from by simpa using h1,Bool.false_and] at q
   exact q
 | _=>exact bX q
def oA:Sp:=sp1 fun x H Q=>∃ d,Is H d x ∧ Q (.bl (iE d)) H
theorem jI (T:Txt K mg C):Fc P w K mg base 2 "is_amount" ["thing"] oA:=by
 have G_p_is_whole:Fc P w K mg base 1 "is_whole" ["thing"] nG:=gY T
 refine T.d_p_is_amount.fc oG jJ (fun f cdv A outer s H vs Q E hr h=>?_)
 obtain ⟨x,rfl,d,hd,q⟩:=h
 refine ⟨_,(aI (@aT _ _ _ _ (@cE _ _ _ _ _ _ _ (@bQ _ _ _ _ _ _ _ _ _ _ G_p_is_whole (hr.mono (by decide)) (aA (pv 0) aD) (by rfl) (by decide) (by rfl) (by rfl)) (@dD _ _ _ _ _ (@kZ _ _ _ _ _ _ _ _ _ _ _ _ kJ kJ aB (pv 0) (@qF _ _ _ _ T.g_MOST_AMOUNT (by rfl) (by decide)) (by with_unfolding_all rfl)))))),?_⟩
 refine ⟨_,rfl,_,rfl,d,hd,_,rfl,?_⟩
 cases d with
 | int i =>
  cases (show x = .int i from hd)
  refine eA ?_
  have q:Q (.bl (decide (0 ≤ i) && decide (i ≤ 1000000))) H:=q
  refine ⟨_,rfl,_,_,rfl,rfl,_,rfl,?_⟩
  refine jA (fun h1=>?_) (fun h1=>?_)
  ·refine ⟨_,_,rfl,rfl,?_⟩
   rw [decide_eq_true (show 0 ≤ i from of_decide_eq_true h1),Bool.true_and] at q
   exact q
  ·rw [show decide (0 ≤ i) = false from by simpa using h1,Bool.false_and] at q
   exact q
 | _=>exact bX q
def jT (K:PySem.W.Frag):Sp:=sp2 fun x y H Q=>∃ (d:Dv) (p:Addr) (zs:List Str),Is H d x ∧ y = .ref p ∧ SqL K H p (zs.map V.str) ∧ Q (.bl (dG zs d)) H
theorem aCZ (z:Str) (zs:List Str):inV (.str z) (zs.map V.str) = decide (z ∈ zs):=by
 unfold inV
 rw [Bool.eq_iff_iff,List.any_eq_true,decide_eq_true_iff]
 constructor
 ·rintro ⟨y,hy,e⟩
  obtain ⟨u,hu,rfl⟩:=List.mem_map.mp hy
  have e':(u == z) = true:=e
  rw [← beq_iff_eq.mp e']
  exact hu
 ·intro h
  exact ⟨_,List.mem_map.mpr ⟨z,h,rfl⟩,beq_self_eq_true z⟩
theorem xZ (zs:List Str):(zs.map V.str).all lH = true:=by
 rw [List.all_eq_true]
 intro y hy
 obtain ⟨u,_,rfl⟩:=List.mem_map.mp hy
 rfl
theorem dQ (T:Txt K mg C):Fc P w K mg base 1 "is_one_of" ["thing","names"] (jT K):=by
 refine T.d_p_is_one_of.fc oE kN (fun f cdv A outer s H vs Q E hr h=>?_)
 obtain ⟨x,y,rfl,d,p,zs,hd,rfl,hp,q⟩:=h
 obtain ⟨t,ty,e1,e2,e3,_⟩:=mM K hd
 refine ⟨_,(aI (@aT _ _ _ _ (@cE _ _ _ _ _ _ _ (@aO _ _ _ _ _ _ _ _ _ (@bY _ (K) rfl) rfl T.n_isinstance aM (aA (pv 0) (aA (@gR _ _ _ _ T.n_str rN (by rfl) (by decide) (by decide)) aD)) (by decide) (by decide) (by rfl) (by rfl)) (@dD _ _ _ _ _ (@dF _ _ _ _ _ _ _ _ (@vA _ (K) rfl) (pv 0) (pv 1) (by with_unfolding_all rfl)))))),?_⟩
 refine ⟨_,rfl,_,_,_,t,_,rfl,rfl,ty,e3,_,rfl,?_⟩
 cases d with
 | str z =>
  cases (show x = .str z from hd)
  refine eA ⟨_,rfl,_,rfl,p,_,rfl,.inl hp,rfl,xZ zs,?_⟩
  show Q (.bl (inV (.str z) (zs.map V.str))) H
  rw [aCZ]
  exact q
 | _=>exact bX q
def nZ:Sp:=sp2 fun x y H Q=>∃ (d:Dv) (n:Int),Is H d x ∧ y = .int n ∧ Q (.bl (aGP n d)) H
theorem iW (T:Txt K mg C):Fc P w K mg base 1 "is_list_of" ["thing","most"] nZ:=by
 refine T.d_p_is_list_of.fc mY kN (fun f cdv A outer s H vs Q E hr h=>?_)
 obtain ⟨x,y,rfl,d,n,hd,rfl,q⟩:=h
 obtain ⟨t,ty,e1,e2,e3,e4,_⟩:=mM K hd
 refine ⟨_,(aI (@aT _ _ _ _ (@cE _ _ _ _ _ _ _ (@aO _ _ _ _ _ _ _ _ _ (@bY _ (K) rfl) rfl T.n_isinstance aM (aA (pv 0) (aA (@gR _ _ _ _ T.n_list eS (by rfl) (by decide) (by decide)) aD)) (by decide) (by decide) (by rfl) (by rfl)) (@dD _ _ _ _ _ (@kZ _ _ _ _ _ _ _ _ _ _ _ _ kJ kJ aB (@aO _ _ _ _ _ _ _ _ _ (@bL _ (K) rfl) rfl T.n_len bS (aA (pv 0) aD) (by decide) (by decide) (by rfl) (by rfl)) (pv 1) (by with_unfolding_all rfl)))))),?_⟩
 refine ⟨_,rfl,_,_,_,t,_,rfl,rfl,ty,e4,_,rfl,?_⟩
 cases d with
 | lst ds =>
  obtain ⟨a,vs,rfl,o,hl⟩:=hd
  have hlen:=hl.length
  have q:Q (.bl (decide (1 ≤ ds.length) && decide ((ds.length:Int) ≤ n))) H:=q
  refine eA ⟨_,rfl,a,vs,rfl,.inl (SqL.of o),_,_,rfl,rfl,_,rfl,?_⟩
  rw [hlen]
  refine jA (fun h1=>?_) (fun h1=>?_)
  ·refine ⟨_,rfl,_,_,rfl,rfl,?_⟩
   have h1':1 ≤ ds.length:=by have:=of_decide_eq_true h1;omega
   rw [decide_eq_true h1',Bool.true_and] at q
   exact q
  ·have h1':¬ 1 ≤ ds.length:=fun c=>h1 (decide_eq_true (by omega))
   rw [decide_eq_false h1',Bool.false_and] at q
   exact q
 | _=>exact bX q
def rZ:Sp:=sp2 fun x y H Q=>∃ (d:Dv) (n:Int),Is H d x ∧ y = .int n ∧ Q (.bl (yS n d)) H
theorem iC (T:Txt K mg C):Fc P w K mg base 1 "is_tuple_of" ["thing","length"] rZ:=by
 refine T.d_p_is_tuple_of.fc lL kN (fun f cdv A outer s H vs Q E hr h=>?_)
 obtain ⟨x,y,rfl,d,n,hd,rfl,q⟩:=h
 obtain ⟨t,ty,e1,e2,e3,e4,e5⟩:=mM K hd
 refine ⟨_,(aI (@aT _ _ _ _ (@cE _ _ _ _ _ _ _ (@aO _ _ _ _ _ _ _ _ _ (@bY _ (K) rfl) rfl T.n_isinstance aM (aA (pv 0) (aA (@gR _ _ _ _ T.n_tuple mV (by rfl) (by decide) (by decide)) aD)) (by decide) (by decide) (by rfl) (by rfl)) (@dD _ _ _ _ _ (@dF _ _ _ _ _ _ _ _ oQ (@aO _ _ _ _ _ _ _ _ _ (@bL _ (K) rfl) rfl T.n_len bS (aA (pv 0) aD) (by decide) (by decide) (by rfl) (by rfl)) (pv 1) (@bT _ _ (by decide) (by decide))))))),?_⟩
 refine ⟨_,rfl,_,_,_,t,_,rfl,rfl,ty,e5,_,rfl,?_⟩
 cases d with
 | tup ds =>
  obtain ⟨a,vs,rfl,o,hl⟩:=hd
  have hlen:=hl.length
  have q:Q (.bl (decide ((ds.length:Int) = n))) H:=q
  refine eA ⟨_,rfl,a,vs,rfl,.inr (SqT.of o),_,rfl,rfl,?_⟩
  rw [hlen]
  have e:decide (V.int (ds.length:Int) = V.int n) = decide ((ds.length:Int) = n):=by rw [kE,Bool.eq_iff_iff];simp
  rw [e]
  exact q
 | _=>exact bX q
def rY:Sp:=sp1 fun x H Q=>∃ (p:Addr) (vs:List V) (ds:List Dv) (zs:List Str),x = .ref p ∧ H p = some (.lst vs) ∧ IsL H ds vs ∧ ds.map cH = zs.map some ∧ zs.length ≤ 1000 ∧ Q (.bl (decide zs.Nodup)) H
theorem yA {H:Hp} {d:Dv} {v:V} {z:Str} (h:Is H d v) (e:cH d = some z):∃ a r,v = .ref a ∧ H a = some (.tup (.str z :: r)):=by
 cases d with
 | tup ds =>
  cases ds with
  | nil=>cases e
  | cons d0 ds =>
   cases d0 with
   | str y =>
    cases e
    obtain ⟨a,vs,rfl,o,v0,r,rfl,h0,_⟩:=h
    cases (show v0 = .str z from h0)
    exact ⟨a,r,rfl,o⟩
   | _=>cases e
 | _=>cases e
theorem lW (zs:List Str):(zs.map (Sum.inr:Str → Key)).Nodup ↔ zs.Nodup:=by
 induction zs with
 | nil=>simp
 | cons z zs ih =>
  rw [List.map_cons,List.nodup_cons,List.nodup_cons,ih]
  simp
theorem aCR (zs:List Str):(zs.map (Sum.inr:Str → Key)).map kV = zs.map V.str:=by
 rw [List.map_map];rfl
theorem iV (T:Txt K mg C):Fc P w K mg base 1 "none_twice" ["rows"] rY:=by
 refine T.d_p_none_twice.fcD mX jJ (fun f cdv A outer s H vs Q E hr h=>?_)
 obtain ⟨x,rfl,p,us,ds,zs,rfl,hp,hi,hz,hn,q⟩:=h
 have big:=cX
 have l1:=hi.length
 have l2:ds.length = zs.length:=by have:=congrArg List.length hz;simpa using this
 refine ⟨_,(aI (@aT _ _ _ _ (@dF _ _ _ _ _ _ _ _ oQ (@aO _ _ _ _ _ _ _ _ _ call_len_set rfl T.n_len bS (aA (@bB _ _ _ _ _ _ _ _ _ (@qO _ rfl) rfl T.n_set yJ (aA (@dZ _ _ _ _ _ _ _ _ _ _ _ ["row"] 1 [] rfl (@dX _ (K) _ _ _ rfl (@dY _ _ _ _ (pv 0))) (fun R=>@bN _ _ (0) _ (show List.Nodup (["row"]:List Str) by decide +kernel) rfl (Or.inl rfl) (by trivial)) (@bR _ _ (by decide)) (fun R=>cT) (fun R=>(@bD _ _ _ _ _ _ _ (@bF _ (K) rfl) (pv 0) aB (fun _ _=>rfl))) (by rfl) (by rfl) (by rfl) (by rfl) (by rfl) (by rfl) (by rfl) (by intro _;rfl)) aD) (by decide) (by decide) (by rfl) (by rfl)) aD) (by decide) (by decide) (by rfl) (by rfl)) (@aO _ _ _ _ _ _ _ _ _ (@bL _ (K) rfl) rfl T.n_len bS (aA (pv 0) aD) (by decide) (by decide) (by rfl) (by rfl)) (@bT _ _ (by decide) (by decide))))),?_⟩
 refine ⟨_,rfl,p,rfl,⟨_,SqL.of hp⟩,?_⟩
 refine cL (F:=K) (xs:=us) (by omega) (fun i ys H'=>H' = H ∧ ys = (zs.take i).map V.str) ⟨rfl,rfl⟩ ?_ ?_ ?_
 ·rintro i ys H' hi' ⟨rfl,rfl⟩
  exact ⟨SqL.of hp,by rw [List.length_map,List.length_take];omega⟩
 ·rintro i x ys H' K1 K2 hx ⟨rfl,rfl⟩ k1 k2
  have hil:i < us.length:=(List.getElem?_eq_some_iff.mp hx).1
  obtain ⟨d,ed⟩:∃ d,ds[i]? = some d:=⟨_,List.getElem?_eq_getElem (by omega)⟩
  obtain ⟨z,ez⟩:∃ z,zs[i]? = some z:=⟨_,List.getElem?_eq_getElem (by omega)⟩
  obtain ⟨v,ev,iv⟩:=hi.get ed
  rw [hx] at ev
  cases ev
  have ef:cH d = some z:=by
   have:=congrArg (fun l=>l[i]?) hz
   simpa [ed,ez] using this
  obtain ⟨a,r,rfl,o⟩:=yA iv ef
  refine ⟨_,rfl,a,_,0,.str z,rfl,rfl,SqT.of o,aQ (j:=0) rfl,k1 _ _ ⟨rfl,?_⟩⟩
  rw [List.take_add_one,ez]
  simp
 ·rintro ys H' ⟨rfl,rfl⟩
  intro p1 hp1
  have hys:(zs.take us.length).map V.str = (zs.map (Sum.inr:Str → Key)).map kV:=by
   rw [List.take_of_length_le (by omega),aCR]
  refine ⟨p1,zs.map Sum.inr,rfl,SqL.of (by rw [aF,hys]),by rw [List.length_map];exact hn,fun p2 hp2=>?_⟩
  have hle:=aDH (zs.map (Sum.inr:Str → Key))
  rw [List.length_map] at hle
  have np:p ≠ p1:=aH hp hp1
  have np2:p ≠ p2:=aH (show upd H' p1 _ p = _ from (aJ np).trans hp) hp2
  refine ⟨p2,_,_,rfl,aF,by omega,_,rfl,p,us,rfl,.inl (SqL.of (by rw [aJ np2,aJ np];exact hp)),rfl,?_⟩
  have e:decide (V.int ((qN (zs.map (Sum.inr:Str → Key))).length:Int) = V.int (us.length:Int)) = decide zs.Nodup:=by
   rw [kE,Bool.eq_iff_iff,decide_eq_true_iff,← lW,← yE,List.length_map,beq_iff_eq]
   omega
  rw [e]
  exact cO.of ((fQ.new hp2 rfl).trans (fQ.lst hp1)) q
def wM:Sp:=sp1 fun x H Q=>∃ d,Is H d x ∧ eC d = true ∧ Q (.bl (bH d)) H
theorem qG (T:Txt K mg C):Fc P w K mg base 3 "is_field" ["thing"] wM:=by
 have G_p_is_tuple_of:Fc P w K mg base 1 "is_tuple_of" ["thing","length"] rZ:=iC T
 have G_p_is_name:Fc P w K mg base 1 "is_name" ["thing"] uV:=lB T
 have G_p_is_height:Fc P w K mg base 2 "is_height" ["thing"] kR:=gJ T
 have G_p_is_amount:Fc P w K mg base 2 "is_amount" ["thing"] oA:=jI T
 refine T.d_p_is_field.fc qD jJ (fun f cdv A outer s H vs Q E hr h=>?_)
 obtain ⟨x,rfl,d,hd,hs,q⟩:=h
 refine ⟨_,(aG (@cN _ _ _ _ _ _ _ _ (@cD _ _ _ _ (@bW _ _ _ (@bQ _ _ _ _ _ _ _ _ _ _ G_p_is_tuple_of (hr.mono (by decide)) (aA (pv 0) (aA aB aD)) (by rfl) (by decide) (by rfl) (by rfl)) (by intro _;rfl))) (aI (@aT _ _ _ _ gS)) bM) (aI (@aT _ _ _ _ (@cE _ _ _ _ _ _ _ (@bQ _ _ _ _ _ _ _ _ _ _ G_p_is_name (hr.mono (by decide)) (aA (@bD _ _ _ _ _ _ _ (@bF _ (K) rfl) (pv 0) aB (fun _ _=>rfl)) aD) (by rfl) (by decide) (by rfl) (by rfl)) (@cE _ _ _ _ _ _ _ (@bQ _ _ _ _ _ _ _ _ _ _ G_p_is_height (hr.mono (by decide)) (aA (@bD _ _ _ _ _ _ _ (@bF _ (K) rfl) (pv 0) aB (fun _ _=>rfl)) aD) (by rfl) (by decide) (by rfl) (by rfl)) (@dD _ _ _ _ _ (@bQ _ _ _ _ _ _ _ _ _ _ G_p_is_amount (hr.mono (by decide)) (aA (@bD _ _ _ _ _ _ _ (@bF _ (K) rfl) (pv 0) aB (fun _ _=>rfl)) aD) (by rfl) (by decide) (by rfl) (by rfl)))))))),?_⟩
 refine ⟨_,rfl,_,_,rfl,d,3,hd,rfl,_,rfl,?_⟩
 by_cases h3:∃ a b c,d = .tup [a,b,c]
 ·obtain ⟨a,b,c,rfl⟩:=h3
  obtain ⟨t,us,rfl,o,va,r1,rfl,ha,vb,r2,rfl,hb,vc,r3,rfl,hc,h0⟩:=hd
  cases (show r3 = [] from h0)
  have sa:eC a = true:=by
   exact gA (qV hs) List.mem_cons_self
  have q:Q (.bl (kO a && (gN b && iE c))) H:=q
  refine bX ⟨_,rfl,t,_,0,va,rfl,rfl,SqT.of o,aQ (j:=0) rfl,_,rfl,a,ha,sa,_,rfl,?_⟩
  cases ea:kO a with
  | false=>rw [ea] at q;exact bX q
  | true =>
   rw [ea,Bool.true_and] at q
   refine eA ⟨_,rfl,t,_,1,vb,rfl,rfl,SqT.of o,aQ (j:=1) rfl,_,rfl,b,hb,_,rfl,?_⟩
   cases eb:gN b with
   | false=>rw [eb] at q;exact bX q
   | true =>
    rw [eb,Bool.true_and] at q
    exact eA ⟨_,rfl,t,_,2,vc,rfl,rfl,SqT.of o,aQ (j:=2) rfl,_,rfl,c,hc,q⟩
 ·have e1:bH d = false:=by
   unfold bH
   split
   ·rename_i a b c
    exact absurd ⟨a,b,c,rfl⟩ h3
   ·rfl
  have e2:yS 3 d = false:=by
   cases d with
   | tup ds =>
    refine decide_eq_false (fun e=>?_)
    have e':ds.length = 3:=by omega
    match ds,e',h3 with
    | [a,b,c],_,h3=>exact h3 ⟨a,b,c,rfl⟩
   | _=>rfl
  dsimp only
  rw [e2]
  rw [e1] at q
  exact eA q
theorem mG {p:Dv → Bool} (hp:∀ d,p d = true → ∃ z,cH d = some z):∀ {ds:List Dv},ds.all p = true → ∃ zs:List Str,ds.map cH = zs.map some
 | [],_=>⟨[],rfl⟩
 | d :: ds,h=>by
  rw [List.all_cons,Bool.and_eq_true] at h
  obtain ⟨z,e⟩:=hp d h.1
  obtain ⟨zs,e2⟩:=mG hp h.2
  exact ⟨z :: zs,by rw [List.map_cons,List.map_cons,e,e2]⟩
theorem qK (d:Dv) (h:bH d = true):∃ z,cH d = some z:=by
 unfold bH at h
 split at h
 ·rename_i a b c
  rw [Bool.and_eq_true] at h
  cases a with
  | str z=>exact ⟨z,rfl⟩
  | _=>cases h.1
 ·cases h
def tH:Sp:=sp1 fun x H Q=>∃ d,Is H d x ∧ eC d = true ∧ Q (.bl (iK d)) H
theorem nB (T:Txt K mg C):Fc P w K mg base 4 "are_fields" ["thing"] tH:=by
 have G_p_is_list_of:Fc P w K mg base 1 "is_list_of" ["thing","most"] nZ:=iW T
 have G_p_is_field:Fc P w K mg base 3 "is_field" ["thing"] wM:=qG T
 have G_p_none_twice:Fc P w K mg base 1 "none_twice" ["rows"] rY:=iV T
 refine T.d_p_are_fields.fcD mZ jJ (fun f cdv A outer s H vs Q E hr h=>?_)
 obtain ⟨x,rfl,d,hd,hs,q⟩:=h
 have big:=cX
 refine ⟨_,(aI (@aT _ _ _ _ (@cE _ _ _ _ _ _ _ (@bQ _ _ _ _ _ _ _ _ _ _ G_p_is_list_of (hr.mono (by decide)) (aA (pv 0) (aA (@qF _ _ _ _ T.g_MOST_FIELDS (by rfl) (by decide)) aD)) (by rfl) (by decide) (by rfl) (by rfl)) (@cE _ _ _ _ _ _ _ (@aO _ _ _ _ _ _ _ _ _ (@lK _ rfl) rfl T.n_all kF (aA (@dZ _ _ _ _ _ _ _ _ _ _ _ ["row"] 1 [] rfl (@dX _ (K) _ _ _ rfl (@dY _ _ _ _ (pv 0))) (fun R=>@bN _ _ (0) _ (show List.Nodup (["row"]:List Str) by decide +kernel) rfl (Or.inl rfl) (by trivial)) (@bR _ _ (by decide)) (fun R=>cT) (fun R=>(@bQ _ _ _ _ _ _ _ _ _ _ G_p_is_field (hr.mono (by decide)) (aA (pv 0) aD) (by rfl) (by decide) (by rfl) (by rfl))) (by rfl) (by rfl) (by rfl) (by rfl) (by rfl) (by rfl) (by rfl) (by intro _;rfl)) aD) (by decide) (by decide) (by rfl) (by rfl)) (@dD _ _ _ _ _ (@bQ _ _ _ _ _ _ _ _ _ _ G_p_none_twice (hr.mono (by decide)) (aA (pv 0) aD) (by rfl) (by decide) (by rfl) (by rfl))))))),?_⟩
 refine ⟨_,rfl,_,_,rfl,d,12,hd,rfl,_,rfl,?_⟩
 cases d with
 | lst ds =>
  obtain ⟨p,us,rfl,o,hi⟩:=hd
  have l1:=hi.length
  have hs':=Bool.and_eq_true_iff.mp (show (decide (ds.length ≤ 1000) && fR ds) = true from hs)
  have l2:ds.length ≤ 1000:=of_decide_eq_true hs'.1
  have q:Q (.bl ((decide (1 ≤ ds.length) && decide (ds.length ≤ 12)) && (ds.all bH && decide ((ds.map cH).Nodup)))) H:=q
  have e0:(decide (1 ≤ ds.length) && decide ((ds.length:Int) ≤ 12)) = (decide (1 ≤ ds.length) && decide (ds.length ≤ 12)):=by
   congr 1
   rw [Bool.eq_iff_iff,decide_eq_true_iff,decide_eq_true_iff]
   omega
  show if (decide (1 ≤ ds.length) && decide ((ds.length:Int) ≤ 12)) = true then _ else _
  rw [e0]
  refine jA (fun h1=>?_) (fun h1=>?_)
  ·rw [h1,Bool.true_and] at q
   refine ⟨_,rfl,p,rfl,⟨_,SqL.of o⟩,?_⟩
   refine cL (F:=K) (xs:=us) (by omega) (fun i ys H'=>H' = H ∧ ys = (ds.take i).map fun d=>V.bl (bH d)) ⟨rfl,rfl⟩ ?_ ?_ ?_
   ·rintro i ys H' hi' ⟨rfl,rfl⟩
    exact ⟨SqL.of o,by rw [List.length_map,List.length_take];omega⟩
   ·rintro i x ys H' K1 K2 hx ⟨rfl,rfl⟩ k1 k2
    have hil:i < us.length:=(List.getElem?_eq_some_iff.mp hx).1
    obtain ⟨d,ed⟩:∃ d,ds[i]? = some d:=⟨_,List.getElem?_eq_getElem (by omega)⟩
    obtain ⟨v,ev,iv⟩:=hi.get ed
    rw [hx] at ev
    cases ev
    refine ⟨_,rfl,_,rfl,d,iv,gA hs'.2 (List.mem_of_getElem? ed),k1 _ _ ⟨rfl,?_⟩⟩
    rw [List.take_add_one,ed]
    simp
   ·rintro ys H' ⟨rfl,rfl⟩
    intro p1 hp1
    have np:p ≠ p1:=aH o hp1
    refine ⟨p1,ds.map bH,rfl,SqL.of ?_,_,rfl,?_⟩
    ·rw [aF,List.take_of_length_le (by omega),List.map_map]
     rfl
    have e1:(ds.map bH).all id = ds.all bH:=by rw [List.all_map];rfl
    rw [e1]
    refine jA (fun h2=>?_) (fun h2=>?_)
    ·rw [h2,Bool.true_and] at q
     obtain ⟨zs,ez⟩:=mG qK h2
     have l3:zs.length = ds.length:=by have:=congrArg List.length ez;simpa using this.symm
     refine ⟨_,rfl,_,rfl,p,us,ds,zs,rfl,by rw [aJ np];exact o,IsL.same (aL.upd hp1) _ _ hi,ez,by omega,?_⟩
     have e2:decide zs.Nodup = decide (ds.map cH).Nodup:=by rw [ez,Bool.eq_iff_iff,decide_eq_true_iff,decide_eq_true_iff,fF]
     rw [e2]
     exact cO.of (fQ.lst hp1) q
    ·have h2':ds.all bH = false:=by simpa using h2
     rw [h2'] at q
     exact cO.of (fQ.lst hp1) q
  ·have h1':(decide (1 ≤ ds.length) && decide (ds.length ≤ 12)) = false:=by simpa using h1
   rw [h1'] at q
   exact cO.of (.refl _) q
 | _=>exact bX (cO.of (.refl _) q)
def wF (K:PySem.W.Frag):Sp:=sp3 fun x y u H Q=>∃ (a b:Dv) (p:Addr) (zs:List Str),Is H a x ∧ Is H b y ∧ u = .ref p ∧ SqL K H p (zs.map V.str) ∧ Q (.bl (jP zs a b)) H
theorem oS (T:Txt K mg C):Fc P w K mg base 2 "are_sides" ["one","other","sides"] (wF K):=by
 have G_p_is_one_of:Fc P w K mg base 1 "is_one_of" ["thing","names"] (jT K):=dQ T
 refine T.d_p_are_sides.fc oH aAJ (fun f cdv A outer s H vs Q E hr h=>?_)
 obtain ⟨x,y,u,rfl,a,b,p,zs,ha,hb,rfl,hp,q⟩:=h
 refine ⟨_,(aI (@aT _ _ _ _ (@cE _ _ _ _ _ _ _ (@bQ _ _ _ _ _ _ _ _ _ _ G_p_is_one_of (hr.mono (by decide)) (aA (pv 0) (aA (pv 2) aD)) (by rfl) (by decide) (by rfl) (by rfl)) (@cE _ _ _ _ _ _ _ (@bQ _ _ _ _ _ _ _ _ _ _ G_p_is_one_of (hr.mono (by decide)) (aA (pv 1) (aA (pv 2) aD)) (by rfl) (by decide) (by rfl) (by rfl)) (@dD _ _ _ _ _ (@dF _ _ _ _ _ _ _ _ kI (pv 0) (pv 1) (@bT _ _ (by decide) (by decide)))))))),?_⟩
 have q:Q (.bl (dG zs a && (dG zs b && !deq a b))) H:=q
 refine ⟨_,rfl,_,rfl,_,_,rfl,a,p,zs,ha,rfl,hp,_,rfl,?_⟩
 cases ea:dG zs a with
 | false=>rw [ea] at q;exact bX q
 | true =>
  rw [ea,Bool.true_and] at q
  refine eA ⟨_,rfl,_,rfl,_,_,rfl,b,p,zs,hb,rfl,hp,_,rfl,?_⟩
  cases eb:dG zs b with
  | false=>rw [eb] at q;exact bX q
  | true =>
   rw [eb,Bool.true_and] at q
   cases a with
   | str z =>
    cases b with
    | str z' =>
     cases (show x = .str z from ha)
     cases (show y = .str z' from hb)
     refine eA ⟨_,rfl,_,rfl,rfl,?_⟩
     have e:(!decide (V.str z = V.str z')) = !deq (.str z) (.str z'):=by rw [lJ];rfl
     rw [e]
     exact q
    | _=>cases eb
   | _=>cases ea
def zC:Sp:=sp2 fun x y H Q=>∃ (d:Dv) (j:Int),Is H d x ∧ y = .int j ∧ Q (.bl (jK (.int j) d)) H
theorem sH (T:Txt K mg C):Fc P w K mg base 3 "is_sill" ["thing","crown"] zC:=by
 have G_p_is_height:Fc P w K mg base 2 "is_height" ["thing"] kR:=gJ T
 refine T.d_p_is_sill.fc sC kN (fun f cdv A outer s H vs Q E hr h=>?_)
 obtain ⟨x,y,rfl,d,j,hd,rfl,q⟩:=h
 refine ⟨_,(aI (@aT _ _ _ _ (@aGL _ _ _ _ _ _ _ (@dF _ _ _ _ _ _ _ _ sG (pv 0) gG (@bT _ _ (by decide) (by decide))) (@dD _ _ _ _ _ (@cE _ _ _ _ _ _ _ (@bQ _ _ _ _ _ _ _ _ _ _ G_p_is_height (hr.mono (by decide)) (aA (pv 0) aD) (by rfl) (by decide) (by rfl) (by rfl)) (@dD _ _ _ _ _ (@dF _ _ _ _ _ _ _ _ aAF (pv 0) (pv 1) (@bT _ _ (by decide) (by decide))))))))),?_⟩
 refine ⟨_,rfl,rfl,_,rfl,?_⟩
 cases d with
 | non =>
  cases (show x = .non from hd)
  rw [decide_eq_true rfl]
  exact eA q
 | int i =>
  cases (show x = .int i from hd)
  rw [decide_eq_false (show ¬ V.int i = V.non by intro z;cases z)]
  refine bX ⟨_,rfl,_,rfl,.int i,rfl,_,rfl,?_⟩
  have q:Q (.bl (hgt i && decide (i < j))) H:=q
  show if hgt i = true then _ else _
  cases e:hgt i with
  | false=>rw [e] at q;exact bX q
  | true=>rw [e,Bool.true_and] at q;exact eA ⟨_,rfl,_,rfl,_,_,rfl,rfl,q⟩
 | bl b =>
  cases (show x = .bl b from hd)
  rw [decide_eq_false (show ¬ V.bl b = V.non by intro z;cases z)]
  exact bX ⟨_,rfl,_,rfl,.bl b,rfl,_,rfl,bX q⟩
 | str b =>
  cases (show x = .str b from hd)
  rw [decide_eq_false (show ¬ V.str b = V.non by intro z;cases z)]
  exact bX ⟨_,rfl,_,rfl,.str b,rfl,_,rfl,bX q⟩
 | lst b =>
  obtain ⟨a,us,rfl,o⟩:=id hd
  rw [decide_eq_false (show ¬ V.ref a = V.non by intro z;cases z)]
  exact bX ⟨_,rfl,_,rfl,.lst b,hd,_,rfl,bX q⟩
 | tup b =>
  obtain ⟨a,us,rfl,o⟩:=id hd
  rw [decide_eq_false (show ¬ V.ref a = V.non by intro z;cases z)]
  exact bX ⟨_,rfl,_,rfl,.tup b,hd,_,rfl,bX q⟩
 | dct b c =>
  obtain ⟨a,us,rfl,o⟩:=id hd
  rw [decide_eq_false (show ¬ V.ref a = V.non by intro z;cases z)]
  exact bX ⟨_,rfl,_,rfl,.dct b c,hd,_,rfl,bX q⟩
def zJ (K:PySem.W.Frag):Sp:=sp2 fun x y H Q=>∃ (d:Dv) (p:Addr) (zs:List Str),Is H d x ∧ eC d = true ∧ y = .ref p ∧ SqL K H p (zs.map V.str) ∧ Q (.bl (cG zs d)) H
theorem sI (T:Txt K mg C):Fc P w K mg base 4 "is_dyke" ["thing","sides"] (zJ K):=by
 have G_p_is_tuple_of:Fc P w K mg base 1 "is_tuple_of" ["thing","length"] rZ:=iC T
 have G_p_is_name:Fc P w K mg base 1 "is_name" ["thing"] uV:=lB T
 have G_p_are_sides:Fc P w K mg base 2 "are_sides" ["one","other","sides"] (wF K):=oS T
 have G_p_is_height:Fc P w K mg base 2 "is_height" ["thing"] kR:=gJ T
 have G_p_is_amount:Fc P w K mg base 2 "is_amount" ["thing"] oA:=jI T
 have G_p_is_sill:Fc P w K mg base 3 "is_sill" ["thing","crown"] zC:=sH T
 refine T.d_p_is_dyke.fc sE kN (fun f cdv A outer s H vs Q E hr h=>?_)
 obtain ⟨x,y,rfl,d,p,zs,hd,hs,rfl,hp,q⟩:=h
 refine ⟨_,(aG (@cN _ _ _ _ _ _ _ _ (@PW.pt _ _ _ (@iA _ _ _ _ _ _ _ (@cD _ _ _ _ (@bW _ _ _ (@bQ _ _ _ _ _ _ _ _ _ _ G_p_is_tuple_of (hr.mono (by decide)) (aA (pv 0) (aA aB aD)) (by rfl) (by decide) (by rfl) (by rfl)) (by intro _;rfl))) (@iA _ _ _ _ _ _ _ (@cD _ _ _ _ (@bW _ _ _ (@bQ _ _ _ _ _ _ _ _ _ _ G_p_is_name (hr.mono (by decide)) (aA (@bD _ _ _ _ _ _ _ (@bF _ (K) rfl) (pv 0) aB (fun _ _=>rfl)) aD) (by rfl) (by decide) (by rfl) (by rfl)) (by intro _;rfl))) (@fS _ _ _ _ (@cD _ _ _ _ (@bW _ _ _ (@bQ _ _ _ _ _ _ _ _ _ _ G_p_are_sides (hr.mono (by decide)) (aA (@bD _ _ _ _ _ _ _ (@bF _ (K) rfl) (pv 0) aB (fun _ _=>rfl)) (aA (@bD _ _ _ _ _ _ _ (@bF _ (K) rfl) (pv 0) aB (fun _ _=>rfl)) (aA (pv 1) aD))) (by rfl) (by decide) (by rfl) (by rfl)) (by intro _;rfl))))))) (aI (@aT _ _ _ _ gS)) bM) (aI (@aT _ _ _ _ (@cE _ _ _ _ _ _ _ (@bQ _ _ _ _ _ _ _ _ _ _ G_p_is_height (hr.mono (by decide)) (aA (@bD _ _ _ _ _ _ _ (@bF _ (K) rfl) (pv 0) aB (fun _ _=>rfl)) aD) (by rfl) (by decide) (by rfl) (by rfl)) (@cE _ _ _ _ _ _ _ (@bQ _ _ _ _ _ _ _ _ _ _ G_p_is_amount (hr.mono (by decide)) (aA (@bD _ _ _ _ _ _ _ (@bF _ (K) rfl) (pv 0) aB (fun _ _=>rfl)) aD) (by rfl) (by decide) (by rfl) (by rfl)) (@dD _ _ _ _ _ (@bQ _ _ _ _ _ _ _ _ _ _ G_p_is_sill (hr.mono (by decide)) (aA (@bD _ _ _ _ _ _ _ (@bF _ (K) rfl) (pv 0) aB (fun _ _=>rfl)) (aA (@bD _ _ _ _ _ _ _ (@bF _ (K) rfl) (pv 0) aB (fun _ _=>rfl)) aD)) (by rfl) (by decide) (by rfl) (by rfl)))))))),?_⟩
 refine ⟨_,rfl,_,_,rfl,d,6,hd,rfl,_,rfl,?_⟩
 by_cases h6:∃ n a b c r l,d = .tup [n,a,b,c,r,l]
 ·obtain ⟨n,a,b,c,r,l,rfl⟩:=h6
  obtain ⟨t,us,rfl,o,v0,r0,rfl,i0,v1,r1,rfl,i1,v2,r2,rfl,i2,v3,r3,rfl,i3,v4,r4,rfl,i4,v5,r5,rfl,i5,h0⟩:=hd
  cases (show r5 = [] from h0)
  have sn:eC n = true:=by
   exact gA (qV hs) List.mem_cons_self
  have q:Q (.bl (kO n && jP zs a b && (gN c && (iE r && jK c l)))) H:=q
  have at_:∀ (j:Nat) (v:V),([v0,v1,v2,v3,v4,v5]:List V)[j]? = some v → atI [v0,v1,v2,v3,v4,v5] (j:Int) = some v:=fun j v e=>aQ e
  refine bX ⟨_,rfl,t,_,0,v0,rfl,rfl,SqT.of o,at_ 0 _ rfl,_,rfl,n,i0,sn,_,rfl,?_⟩
  cases en:kO n with
  | false=>rw [en] at q;exact eA q
  | true =>
   rw [en,Bool.true_and] at q
   refine bX ⟨_,rfl,t,_,1,v1,rfl,rfl,SqT.of o,at_ 1 _ rfl,_,rfl,t,_,2,v2,rfl,rfl,SqT.of o,at_ 2 _ rfl,_,rfl,_,_,_,rfl,a,b,p,zs,i1,i2,rfl,hp,_,rfl,?_⟩
   cases es:jP zs a b with
   | false=>rw [es] at q;exact eA q
   | true =>
    rw [es,Bool.true_and] at q
    refine bX ⟨_,rfl,t,_,3,v3,rfl,rfl,SqT.of o,at_ 3 _ rfl,_,rfl,c,i3,_,rfl,?_⟩
    cases ec:gN c with
    | false=>rw [ec] at q;exact bX q
    | true =>
     rw [ec,Bool.true_and] at q
     refine eA ⟨_,rfl,t,_,4,v4,rfl,rfl,SqT.of o,at_ 4 _ rfl,_,rfl,r,i4,_,rfl,?_⟩
     cases er:iE r with
     | false=>rw [er] at q;exact bX q
     | true =>
      rw [er,Bool.true_and] at q
      cases c with
      | int j =>
       cases (show v3 = .int j from i3)
       exact eA ⟨_,rfl,t,_,5,v5,rfl,rfl,SqT.of o,at_ 5 _ rfl,_,rfl,t,_,3,_,rfl,rfl,SqT.of o,at_ 3 _ rfl,_,_,rfl,l,j,i5,rfl,q⟩
      | _=>cases ec
 ·have e1:cG zs d = false:=by
   unfold cG
   split
   ·rename_i n a b c r l
    exact absurd ⟨n,a,b,c,r,l,rfl⟩ h6
   ·rfl
  have e2:yS 6 d = false:=by
   cases d with
   | tup ds =>
    refine decide_eq_false (fun e=>?_)
    have e':ds.length = 6:=by omega
    match ds,e',h6 with
    | [n,a,b,c,r,l],_,h6=>exact h6 ⟨n,a,b,c,r,l,rfl⟩
   | _=>rfl
  dsimp only
  rw [e2]
  rw [e1] at q
  exact eA q
theorem sP {zs:List Str} (d:Dv) (h:cG zs d = true):∃ z,cH d = some z:=by
 unfold cG at h
 split at h
 ·rename_i n a b c r l
  rw [Bool.and_eq_true,Bool.and_eq_true] at h
  cases n with
  | str z=>exact ⟨z,rfl⟩
  | _=>cases h.1.1
 ·cases h
def wN (K:PySem.W.Frag):Sp:=sp2 fun x y H Q=>∃ (d:Dv) (p:Addr) (zs:List Str),Is H d x ∧ eC d = true ∧ y = .ref p ∧ H p = some (.lst (zs.map V.str)) ∧ Q (.bl (jQ zs d)) H
theorem oT (T:Txt K mg C):Fc P w K mg base 5 "are_dykes" ["thing","sides"] (wN K):=by
 have G_p_is_list_of:Fc P w K mg base 1 "is_list_of" ["thing","most"] nZ:=iW T
 have G_p_is_dyke:Fc P w K mg base 4 "is_dyke" ["thing","sides"] (zJ K):=sI T
 have G_p_none_twice:Fc P w K mg base 1 "none_twice" ["rows"] rY:=iV T
 refine T.d_p_are_dykes.fcD oI kN (fun f cdv A outer s H vs Q E hr h=>?_)
 obtain ⟨x,y,rfl,d,p0,zs0,hd,hs,rfl,hp0,q⟩:=h
 have big:=cX
 refine ⟨_,(aI (@aT _ _ _ _ (@cE _ _ _ _ _ _ _ (@bQ _ _ _ _ _ _ _ _ _ _ G_p_is_list_of (hr.mono (by decide)) (aA (pv 0) (aA (@qF _ _ _ _ T.g_MOST_DYKES (by rfl) (by decide)) aD)) (by rfl) (by decide) (by rfl) (by rfl)) (@cE _ _ _ _ _ _ _ (@aO _ _ _ _ _ _ _ _ _ (@lK _ rfl) rfl T.n_all kF (aA (@dZ _ _ _ _ _ _ _ _ _ _ _ ["row","sides"] 1 [1] rfl (@dX _ (K) _ _ _ rfl (@dY _ _ _ _ (pv 0))) (fun R=>@bN _ _ (0) _ (show List.Nodup (["row","sides"]:List Str) by decide +kernel) rfl (Or.inl rfl) (by trivial)) (@bR _ _ (by decide)) (fun R=>cT) (fun R=>(@bQ _ _ _ _ _ _ _ _ _ _ G_p_is_dyke (hr.mono (by decide)) (aA (pv 0) (aA (pv 1) aD)) (by rfl) (by decide) (by rfl) (by rfl))) (by rfl) (by rfl) (by rfl) (by rfl) (by rfl) (by rfl) (by rfl) (by intro _;rfl)) aD) (by decide) (by decide) (by rfl) (by rfl)) (@dD _ _ _ _ _ (@bQ _ _ _ _ _ _ _ _ _ _ G_p_none_twice (hr.mono (by decide)) (aA (pv 0) aD) (by rfl) (by decide) (by rfl) (by rfl))))))),?_⟩
 refine ⟨_,rfl,_,_,rfl,d,40,hd,rfl,_,rfl,?_⟩
 cases d with
 | lst ds =>
  obtain ⟨p,us,rfl,o,hi⟩:=hd
  have l1:=hi.length
  have hs':=Bool.and_eq_true_iff.mp (show (decide (ds.length ≤ 1000) && fR ds) = true from hs)
  have l2:ds.length ≤ 1000:=of_decide_eq_true hs'.1
  have q:Q (.bl ((decide (1 ≤ ds.length) && decide (ds.length ≤ 40)) && (ds.all (cG zs0) && decide ((ds.map cH).Nodup)))) H:=q
  have e0:(decide (1 ≤ ds.length) && decide ((ds.length:Int) ≤ 40)) = (decide (1 ≤ ds.length) && decide (ds.length ≤ 40)):=by
   congr 1
   rw [Bool.eq_iff_iff,decide_eq_true_iff,decide_eq_true_iff]
   omega
  show if (decide (1 ≤ ds.length) && decide ((ds.length:Int) ≤ 40)) = true then _ else _
  rw [e0]
  refine jA (fun h1=>?_) (fun h1=>?_)
  ·rw [h1,Bool.true_and] at q
   refine ⟨_,rfl,p,rfl,⟨_,SqL.of o⟩,?_⟩
   refine cL (F:=K) (xs:=us) (by omega) (fun i ys H'=>H' = H ∧ ys = (ds.take i).map fun d=>V.bl (cG zs0 d)) ⟨rfl,rfl⟩ ?_ ?_ ?_
   ·rintro i ys H' hi' ⟨rfl,rfl⟩
    exact ⟨SqL.of o,by rw [List.length_map,List.length_take];omega⟩
   ·rintro i x ys H' K1 K2 hx ⟨rfl,rfl⟩ k1 k2
    have hil:i < us.length:=(List.getElem?_eq_some_iff.mp hx).1
    obtain ⟨d,ed⟩:∃ d,ds[i]? = some d:=⟨_,List.getElem?_eq_getElem (by omega)⟩
    obtain ⟨v,ev,iv⟩:=hi.get ed
    rw [hx] at ev
    cases ev
    refine ⟨_,rfl,_,rfl,_,_,rfl,d,p0,zs0,iv,gA hs'.2 (List.mem_of_getElem? ed),rfl,SqL.of hp0,k1 _ _ ⟨rfl,?_⟩⟩
    rw [List.take_add_one,ed]
    simp
   ·rintro ys H' ⟨rfl,rfl⟩
    intro p1 hp1
    have np:p ≠ p1:=aH o hp1
    refine ⟨p1,ds.map (cG zs0),rfl,SqL.of ?_,_,rfl,?_⟩
    ·rw [aF,List.take_of_length_le (by omega),List.map_map]
     rfl
    have e1:(ds.map (cG zs0)).all id = ds.all (cG zs0):=by rw [List.all_map];rfl
    rw [e1]
    refine jA (fun h2=>?_) (fun h2=>?_)
    ·rw [h2,Bool.true_and] at q
     obtain ⟨zs,ez⟩:=mG sP h2
     have l3:zs.length = ds.length:=by have:=congrArg List.length ez;simpa using this.symm
     refine ⟨_,rfl,_,rfl,p,us,ds,zs,rfl,by rw [aJ np];exact o,IsL.same (aL.upd hp1) _ _ hi,ez,by omega,?_⟩
     have e2:decide zs.Nodup = decide (ds.map cH).Nodup:=by rw [ez,Bool.eq_iff_iff,decide_eq_true_iff,decide_eq_true_iff,fF]
     rw [e2]
     exact cO.of (fQ.lst hp1) q
    ·have h2':ds.all (cG zs0) = false:=by simpa using h2
     rw [h2'] at q
     exact cO.of (fQ.lst hp1) q
  ·have h1':(decide (1 ≤ ds.length) && decide (ds.length ≤ 40)) = false:=by simpa using h1
   rw [h1'] at q
   exact cO.of (.refl _) q
 | _=>exact bX (cO.of (.refl _) q)
def zI (C:Addr):Sp:=sp3 fun x v1 v2 H Q=>∃ (p dx:Addr) (fs ds:List Dv),x = .ref p ∧ H p = some (.ins C dx []) ∧ Is H (.lst fs) v1 ∧ Is H (.lst ds) v2 ∧ eC (.lst fs) = true ∧ eC (.lst ds) = true ∧
 iK (.lst fs) = true ∧ jQ ("sea" :: fs.map aU) (.lst ds) = true ∧ ∀ H',LandAt C H' p fs ds → (∀ b o,H b = some o → b ≠ p → H' b = some o) → Q .non H'
def nX (C:Addr) (sel:List Dv → List Dv → List Dv):Sp:=sp1 fun x H Q=>∃ (p:Addr) (fs ds:List Dv),x = .ref p ∧ LandAt C H p fs ds ∧ ∀ (l:Addr) (vs:List V) (H':Hp),aL H H' → H l = none → H' l = some (.lst vs) → IsL H' (sel fs ds) vs → Q (.ref l) H'
def kK (C:Addr) (sel:List Dv → List Dv → List Str):Sp:=sp1 fun x H Q=>∃ (p:Addr) (fs ds:List Dv),x = .ref p ∧ LandAt C H p fs ds ∧ ∀ (l:Addr) (H':Hp),aL H H' → H l = none → H' l = some (.lst ((sel fs ds).map V.str)) → Q (.ref l) H'
def sA (C:Addr) (sel:List Dv → List Dv → List Dv):Sp:=sp1 fun x H Q=>∃ (p:Addr) (fs ds:List Dv),x = .ref p ∧ LandAt C H p fs ds ∧ ∀ (l:Addr) (vs:List V),H l = none → IsL H (sel fs ds) vs → Q (.ref l) (upd H l (.lst vs))
def wE (C:Addr) (sel:List Dv → List Dv → List Str):Sp:=sp1 fun x H Q=>∃ (p:Addr) (fs ds:List Dv),x = .ref p ∧ LandAt C H p fs ds ∧ ∀ (l:Addr),H l = none → Q (.ref l) (upd H l (.lst ((sel fs ds).map V.str)))
theorem tO {C:Addr} {sel:List Dv → List Dv → List Dv}:∀ vs H Q E,nX C sel vs H Q E → sA C sel vs H Q E:=by
 rintro vs H Q E ⟨x,rfl,p,fs,ds,rfl,L,q⟩
 exact ⟨_,rfl,p,fs,ds,rfl,L,fun l us hl hi=>q l us _ (aL.upd hl) hl aF (IsL.same (aL.upd hl) _ _ hi)⟩
theorem yY {C:Addr} {sel:List Dv → List Dv → List Str}:∀ vs H Q E,kK C sel vs H Q E → wE C sel vs H Q E:=by
 rintro vs H Q E ⟨x,rfl,p,fs,ds,rfl,L,q⟩
 exact ⟨_,rfl,p,fs,ds,rfl,L,fun l hl=>q l _ (aL.upd hl) hl aF⟩
theorem lC (T:Txt K mg C):Mc P w K mg base 1 C "fields" ["self"] (sA C fun fs _=>fs):=by
 refine T.m_land_p_fields.mcD lN jJ (fun f cdv A outer s H vs Q E hr h=>?_)
 obtain ⟨x,rfl,p,fs,ds,rfl,L,q⟩:=h
 obtain ⟨dx,d1,d2,hx,⟨k1,h1,e1,i1⟩,t2⟩:=L.ex
 refine ⟨_,(aI (@aT _ _ _ _ (@bB _ _ _ _ _ _ _ _ _ (@iJ _ rfl) rfl T.n_list eS (aA (@sF _ _ _ _ _ _ _ _ _ PySem.F.plainAttrs_dict PySem.F.slot_dict_values PySem.F.type_dict_values qY (@gH _ _ _ _ _ (pv 0) rfl) (by rfl) (by rfl)) aD) (by decide) (by decide) (by rfl) (by rfl)))),?_⟩
 refine ⟨_,rfl,p,C,dx,_,_,rfl,hx,T.cl_Land,T.a_field_rows,wT _ _,.inr (.inr (.inl ⟨rfl,.inl ⟨_,h1⟩⟩)),d1,k1,rfl,rfl,.inl h1,fun v hv=>?_⟩
 have nv:d1 ≠ v:=aH h1 hv
 refine ⟨v,d1,k1,rfl,aF,.inl (by rw [aJ nv];exact h1),fun l hl=>?_⟩
 exact cO.of (fQ.under hv rfl hl) (q l _ ((aL.upd hv).free hl) i1)
theorem lV (T:Txt K mg C):Mc P w K mg base 1 C "dykes" ["self"] (sA C fun _ ds=>ds):=by
 refine T.m_land_p_dykes.mcD nA jJ (fun f cdv A outer s H vs Q E hr h=>?_)
 obtain ⟨x,rfl,p,fs,ds,rfl,L,q⟩:=h
 obtain ⟨dx,d1,d2,hx,t1,⟨k1,h1,e1,i1⟩⟩:=L.ex
 refine ⟨_,(aI (@aT _ _ _ _ (@bB _ _ _ _ _ _ _ _ _ (@iJ _ rfl) rfl T.n_list eS (aA (@sF _ _ _ _ _ _ _ _ _ PySem.F.plainAttrs_dict PySem.F.slot_dict_values PySem.F.type_dict_values qY (@gH _ _ _ _ _ (pv 0) rfl) (by rfl) (by rfl)) aD) (by decide) (by decide) (by rfl) (by rfl)))),?_⟩
 refine ⟨_,rfl,p,C,dx,_,_,rfl,hx,T.cl_Land,T.a_dyke_rows,aCU _ _,.inr (.inr (.inl ⟨rfl,.inl ⟨_,h1⟩⟩)),d2,k1,rfl,rfl,.inl h1,fun v hv=>?_⟩
 have nv:d2 ≠ v:=aH h1 hv
 refine ⟨v,d2,k1,rfl,aF,.inl (by rw [aJ nv];exact h1),fun l hl=>?_⟩
 exact cO.of (fQ.under hv rfl hl) (q l _ ((aL.upd hv).free hl) i1)
theorem lU (T:Txt K mg C):Mc P w K mg base 1 C "fields" ["self"] (nX C fun fs _=>fs):=(lC T).imp tO
theorem nC (T:Txt K mg C):Mc P w K mg base 1 C "dykes" ["self"] (nX C fun _ ds=>ds):=(lV T).imp tO
theorem vK {kvs:List (Key × V)} {ds:List Dv} (e:kvs.map (·.1) = ds.map mR):(kvs.map fun kv=>kV kv.1) = (ds.map aU).map V.str:=by
 have h:(kvs.map fun kv=>kV kv.1) = (kvs.map (·.1)).map kV:=by rw [List.map_map];rfl
 rw [h,e,List.map_map,List.map_map]
 rfl
theorem iO (T:Txt K mg C):Mc P w K mg base 1 C "field_names" ["self"] (wE C fun fs _=>fs.map aU):=by
 refine T.m_land_p_field_names.mc iY jJ (fun f cdv A outer s H vs Q E hr h=>?_)
 obtain ⟨x,rfl,p,fs,ds,rfl,L,q⟩:=h
 obtain ⟨dx,d1,d2,hx,⟨k1,h1,e1,i1⟩,t2⟩:=L.ex
 refine ⟨_,(aI (@aT _ _ _ _ (@bB _ _ _ _ _ _ _ _ _ (@jN _ rfl) rfl T.n_list eS (aA (@gH _ _ _ _ _ (pv 0) rfl) aD) (by decide) (by decide) (by rfl) (by rfl)))),?_⟩
 refine ⟨_,rfl,p,C,dx,_,_,rfl,hx,T.cl_Land,T.a_field_rows,wT _ _,d1,k1,rfl,.inl h1,fun l hl=>?_⟩
 have:=q l hl
 rw [vK e1]
 exact this
theorem bU (T:Txt K mg C):Mc P w K mg base 1 C "field_names" ["self"] (kK C fun fs _=>fs.map aU):=(iO T).imp yY
theorem aBH {H:Hp} {n a b:Str} {c r:Int} {s:Dv} {v:V} (h:Is H (.tup [.str n,.str a,.str b,.int c,.int r,s]) v):∃ t vs,v = .ref t ∧ H t = some (.tup [.str n,.str a,.str b,.int c,.int r,vs]) ∧ Is H s vs:=by
 obtain ⟨t,us,rfl,o,v0,r0,rfl,i0,v1,r1,rfl,i1,v2,r2,rfl,i2,v3,r3,rfl,i3,v4,r4,rfl,i4,v5,r5,rfl,i5,h0⟩:=h
 cases (show r5 = [] from h0)
 cases (show v0 = _ from i0)
 cases (show v1 = _ from i1)
 cases (show v2 = _ from i2)
 cases (show v3 = _ from i3)
 cases (show v4 = _ from i4)
 exact ⟨t,v5,rfl,o,i5⟩
theorem mH {H:Hp} {n:Str} {g e:Int} {v:V} (h:Is H (.tup [.str n,.int g,.int e]) v):∃ t,v = .ref t ∧ H t = some (.tup [.str n,.int g,.int e]):=by
 obtain ⟨t,us,rfl,o,v0,r0,rfl,i0,v1,r1,rfl,i1,v2,r2,rfl,i2,h0⟩:=h
 cases (show r2 = [] from h0)
 cases (show v0 = _ from i0)
 cases (show v1 = _ from i1)
 cases (show v2 = _ from i2)
 exact ⟨t,rfl,o⟩
theorem iD {C:Addr} {H:Hp} {p:Addr} {fs ds:List Dv} (L:LandAt C H p fs ds):GoodF fs ∧ GoodD ("sea" :: fs.map aU) ds:=⟨(mD _).mp L.okf,(mE _ _).mp L.okd⟩
theorem wB {α β:Type}:∀ {xs:List α} {ys:List β},xs.length = ys.length → (xs.zip ys).map (·.1) = xs
 | [],[],_=>rfl
 | x :: xs,y :: ys,h=>by rw [List.zip_cons_cons,List.map_cons,wB (by simpa using h)]
 | [],_ :: _,h=>by simp at h
 | _ :: _,[],h=>by simp at h
theorem vZ {α β:Type}:∀ {xs:List α} {ys:List β},xs.length = ys.length → (xs.zip ys).map (·.2) = ys
 | [],[],_=>rfl
 | x :: xs,y :: ys,h=>by rw [List.zip_cons_cons,List.map_cons,vZ (by simpa using h)]
 | [],_ :: _,h=>by simp at h
 | _ :: _,[],h=>by simp at h
def cF (ds:List Dv) (us:List V):List (Key × V):=(ds.map mR).zip us
theorem iM {ds:List Dv} {us:List V} (h:us.length = ds.length):(cF ds us).map (·.1) = ds.map mR:=wB (by rw [List.length_map];exact h.symm)
theorem oP {ds:List Dv} {us:List V} (h:us.length = ds.length):(cF ds us).map (·.2) = us:=vZ (by rw [List.length_map];exact h.symm)
theorem jY {ds:List Dv} {us:List V} (h:us.length = ds.length):(cF ds us).length = us.length:=by
 unfold cF
 rw [List.length_zip,List.length_map]
 omega
theorem tR {ds:List Dv} {us:List V} {i:Nat} {d:Dv} {v:V} (e1:ds[i]? = some d) (e2:us[i]? = some v):(cF ds us)[i]? = some (mR d,v):=by
 unfold cF
 rw [List.getElem?_zip_eq_some]
 exact ⟨by rw [List.getElem?_map,e1];rfl,e2⟩
theorem rD {ds:List Dv} (h:(ds.map aU).Nodup):(ds.map mR).Nodup:=by
 have e:ds.map mR = (ds.map aU).map Sum.inr:=by rw [List.map_map];rfl
 rw [e,lW]
 exact h
theorem qJ (T:Txt K mg C):Ic P w K mg base 6 C ["self","fields","dykes"] (zI C):=by
 have G_p_are_fields:Fc P w K mg base 4 "are_fields" ["thing"] tH:=nB T
 have G_p_are_dykes:Fc P w K mg base 5 "are_dykes" ["thing","sides"] (wN K):=oT T
 refine T.i_Land.ic qE aAJ (fun f cdv A outer s H vs Q E hr h=>?_)
 obtain ⟨x,v1,v2,rfl,p,dx,fs,ds,rfl,hx,hf,hd,sf,sd,okf,okd,q⟩:=h
 have big:=cX
 have gf:=(mD _).mp okf
 have gd:=(mE _ _).mp okd
 have lf:=gf.l2
 have ld:=gd.l2
 obtain ⟨a1,us,rfl,o1,i1⟩:=id hf
 obtain ⟨a2,ws,rfl,o2,i2⟩:=id hd
 have l1:=i1.length
 have l2:=i2.length
 refine ⟨_,(aG (@cN _ _ _ _ _ _ _ _ (@cD _ _ _ _ (@bW _ _ _ (@bQ _ _ _ _ _ _ _ _ _ _ G_p_are_fields (hr.mono (by decide)) (aA (pv 1) aD) (by rfl) (by decide) (by rfl) (by rfl)) (by intro _;rfl))) (aI jE) bM) (aG (@cN _ _ _ _ _ _ _ _ (@cD _ _ _ _ (@bW _ _ _ (@bQ _ _ _ _ _ _ _ _ _ _ G_p_are_dykes (hr.mono (by decide)) (aA (pv 2) (aA (@aK _ _ _ _ _ _ _ _ vC (@cJ _ _ _ _ (aA (@qF _ _ _ _ T.g_SEA (by rfl) (by decide)) aD)) (@dZ _ _ _ _ _ _ _ _ _ _ _ ["field"] 1 [] rfl (@dX _ (K) _ _ _ rfl (@dY _ _ _ _ (pv 1))) (fun R=>@bN _ _ (0) _ (show List.Nodup (["field"]:List Str) by decide +kernel) rfl (Or.inl rfl) (by trivial)) (@bR _ _ (by decide)) (fun R=>cT) (fun R=>(@bD _ _ _ _ _ _ _ (@bF _ (K) rfl) (pv 0) aB (fun _ _=>rfl))) (by rfl) (by rfl) (by rfl) (by rfl) (by rfl) (by rfl) (by rfl) (by intro _;rfl))) aD)) (by rfl) (by decide) (by rfl) (by rfl)) (by intro _;rfl))) (aI jE) bM) (aG (@oO _ _ _ _ _ _ _ _ (pv 0) (@bB _ _ _ _ _ _ _ _ _ (@fU _ rfl) rfl T.n_dict dS (aA (@dZ _ _ _ _ _ _ _ _ _ _ _ ["field"] 1 [] rfl (@dX _ (K) _ _ _ rfl (@dY _ _ _ _ (pv 1))) (fun R=>@bN _ _ (0) _ (show List.Nodup (["field"]:List Str) by decide +kernel) rfl (Or.inl rfl) (by trivial)) (@bR _ _ (by decide)) (fun R=>cT) (fun R=>(@fT _ _ _ _ _ (aA (@bD _ _ _ _ _ _ _ (@bF _ (K) rfl) (pv 0) aB (fun _ _=>rfl)) (aA (pv 0) aD)))) (by rfl) (by rfl) (by rfl) (by rfl) (by rfl) (by rfl) (by rfl) (by intro _;rfl)) aD) (by decide) (by decide) (by rfl) (by rfl)) rfl) (aI (@oO _ _ _ _ _ _ _ _ (pv 0) (@bB _ _ _ _ _ _ _ _ _ (@fU _ rfl) rfl T.n_dict dS (aA (@dZ _ _ _ _ _ _ _ _ _ _ _ ["dyke"] 1 [] rfl (@dX _ (K) _ _ _ rfl (@dY _ _ _ _ (pv 2))) (fun R=>@bN _ _ (0) _ (show List.Nodup (["dyke"]:List Str) by decide +kernel) rfl (Or.inl rfl) (by trivial)) (@bR _ _ (by decide)) (fun R=>cT) (fun R=>(@fT _ _ _ _ _ (aA (@bD _ _ _ _ _ _ _ (@bF _ (K) rfl) (pv 0) aB (fun _ _=>rfl)) (aA (pv 0) aD)))) (by rfl) (by rfl) (by rfl) (by rfl) (by rfl) (by rfl) (by rfl) (by intro _;rfl)) aD) (by decide) (by decide) (by rfl) (by rfl)) rfl))))),?_⟩
 refine ⟨_,rfl,_,rfl,.lst fs,hf,sf,_,rfl,?_⟩
 rw [okf]
 refine bX ?_
 refine ⟨_,rfl,aV rfl,fun p1 hp1=>?_⟩
 have S1:=aL.upd (o:=.lst [.str "sea"]) hp1
 refine ⟨_,rfl,a1,rfl,⟨_,SqL.of (S1 _ _ o1)⟩,?_⟩
 refine cL (F:=K) (xs:=us) (by omega) (fun i ys H'=>H' = upd H p1 (.lst [.str "sea"]) ∧ ys = ((fs.take i).map aU).map V.str) ⟨rfl,rfl⟩ ?_ ?_ ?_
 ·rintro i ys H' hi' ⟨rfl,rfl⟩
  exact ⟨SqL.of (S1 _ _ o1),by rw [List.length_map,List.length_map,List.length_take];omega⟩
 ·rintro i x ys H' K1 K2 hx' ⟨rfl,rfl⟩ k1 k2
  have hil:i < us.length:=(List.getElem?_eq_some_iff.mp hx').1
  obtain ⟨d,ed⟩:∃ d,fs[i]? = some d:=⟨_,List.getElem?_eq_getElem (by omega)⟩
  obtain ⟨v,ev,iv⟩:=i1.get ed
  rw [hx'] at ev
  cases ev
  obtain ⟨z,g,e,rfl,_⟩:=bJ (gf.all d (List.mem_of_getElem? ed))
  obtain ⟨t,rfl,o⟩:=mH iv
  refine ⟨_,rfl,t,_,0,.str z,rfl,rfl,SqT.of (S1 _ _ o),aQ (j:=0) rfl,k1 _ _ ⟨rfl,?_⟩⟩
  rw [List.take_add_one,ed]
  simp [aU,cH]
 ·rintro ys H' ⟨rfl,rfl⟩
  intro p2 hp2
  rw [List.take_of_length_le (by omega)]
  have S2:=aL.upd (o:=.lst ((fs.map aU).map V.str)) hp2
  refine ⟨p1,p2,_,_,rfl,rfl,S2 _ _ aF,aF,by simp only [List.length_map,List.length_cons,List.length_nil];omega,fun p3 hp3=>?_⟩
  have S3:=aL.upd (o:=.lst ([.str "sea"] ++ (fs.map aU).map V.str)) hp3
  have S:=S1.trans (S2.trans S3)
  generalize hH3:upd (upd (upd H p1 (.lst [.str "sea"])) p2 (.lst ((fs.map aU).map V.str))) p3 (.lst ([.str "sea"] ++ (fs.map aU).map V.str)) = H3 at S
  have hp3':H3 p3 = some (.lst ((("sea":Str) :: fs.map aU).map V.str)):=by rw [← hH3,aF];rfl
  refine ⟨_,_,rfl,.lst ds,p3,_,Is.same S _ _ hd,sd,rfl,hp3',_,rfl,?_⟩
  rw [okd]
  refine bX ?_
  refine ⟨_,rfl,a1,rfl,⟨_,SqL.of (S _ _ o1)⟩,?_⟩
  refine cL (F:=K) (xs:=us) (by omega) (fun i ys H'=>aL H3 H' ∧ cI H' ys ((cF fs us).take i)) ⟨aL.refl _,cI.nil _⟩ ?_ ?_ ?_
  ·rintro i ys H' hi' ⟨S4,pr⟩
   exact ⟨SqL.of (S4 _ _ (S _ _ o1)),by have:=pr.len;rw [List.length_take] at this;omega⟩
  ·rintro i x ys H' K1 K2 hx' ⟨S4,pr⟩ k1 k2
   have hil:i < us.length:=(List.getElem?_eq_some_iff.mp hx').1
   obtain ⟨d,ed⟩:∃ d,fs[i]? = some d:=⟨_,List.getElem?_eq_getElem (by omega)⟩
   obtain ⟨v,ev,iv⟩:=i1.get ed
   rw [hx'] at ev
   cases ev
   obtain ⟨z,g,e,rfl,_⟩:=bJ (gf.all d (List.mem_of_getElem? ed))
   obtain ⟨t,rfl,o⟩:=mH iv
   have ot:=S4 _ _ (S _ _ o)
   refine ⟨_,rfl,t,_,0,.str z,rfl,rfl,SqT.of ot,aQ (j:=0) rfl,_,rfl,aV rfl,fun pt hpt=>k1 _ _ ⟨S4.trans (aL.upd hpt),?_⟩⟩
   rw [List.take_add_one,tR ed hx']
   exact pr.snoc (k:=Sum.inr z) hpt
  ·rintro ys H4 ⟨S4,pr⟩
   rw [List.take_of_length_le (by rw [jY l1];omega)] at pr
   intro p4 hp4
   have S5:=aL.upd (o:=.lst ys) hp4
   refine ⟨p4,ys,cF fs us,rfl,SqL.of aF,pr.same S5,by rw [jY l1];omega,by rw [iM l1];exact rD gf.nd,fun d1 hd1=>?_⟩
   have S6:=aL.upd (o:=.dK (cF fs us)) hd1
   have SA:=S.trans (S4.trans (S5.trans S6))
   have hd1':upd (upd H4 p4 (.lst ys)) d1 (.dK (cF fs us)) d1 = some (.dK (cF fs us)):=aF
   generalize upd (upd H4 p4 (.lst ys)) d1 (.dK (cF fs us)) = H6 at SA hd1'
   refine ⟨_,rfl,p,C,dx,[],rfl,SA _ _ hx,T.cl_Land,T.a_field_rows,(by show 0 < 1000;decide),?_⟩
   have SB:∀ b o,H b = some o → b ≠ p → upd H6 p (.ins C dx (eR "field_rows" (.ref d1) [])) b = some o:=fun b o e hb=>by rw [aJ hb];exact SA _ _ e
   have nd1:d1 ≠ p:=aAH hd1' (SA _ _ hx) (by intro z;cases z)
   have SD:xF H (upd H6 p (.ins C dx (eR "field_rows" (.ref d1) []))):=fun b o e dt=>SB b o e (fun z=>by subst z;rw [hx] at e;cases e;cases dt)
   have hp7:upd H6 p (.ins C dx (eR "field_rows" (.ref d1) [])) p = some (.ins C dx (eR "field_rows" (.ref d1) [])):=aF
   have hd7:upd H6 p (.ins C dx (eR "field_rows" (.ref d1) [])) d1 = some (.dK (cF fs us)):=by rw [aJ nd1];exact hd1'
   generalize upd H6 p (.ins C dx (eR "field_rows" (.ref d1) [])) = H7 at SB SD hp7 hd7
   refine ⟨_,rfl,a2,rfl,⟨_,SqL.of (SD _ _ o2 rfl)⟩,?_⟩
   refine cL (F:=K) (xs:=ws) (by omega) (fun i ys H'=>aL H7 H' ∧ cI H' ys ((cF ds ws).take i)) ⟨aL.refl _,cI.nil _⟩ ?_ ?_ ?_
   ·rintro i ys H' hi' ⟨S8,pr⟩
    exact ⟨SqL.of (S8 _ _ (SD _ _ o2 rfl)),by have:=pr.len;rw [List.length_take] at this;omega⟩
   ·rintro i x ys H' K1 K2 hx' ⟨S8,pr⟩ k1 k2
    have hil:i < ws.length:=(List.getElem?_eq_some_iff.mp hx').1
    obtain ⟨d,ed⟩:∃ d,ds[i]? = some d:=⟨_,List.getElem?_eq_getElem (by omega)⟩
    obtain ⟨v,ev,iv⟩:=i2.get ed
    rw [hx'] at ev
    cases ev
    obtain ⟨n,a,b,c,r,sl,rfl,_⟩:=fG (gd.all d (List.mem_of_getElem? ed))
    obtain ⟨t,vs,rfl,o,_⟩:=aBH iv
    have ot:=S8 _ _ (SD _ _ o rfl)
    refine ⟨_,rfl,t,_,0,.str n,rfl,rfl,SqT.of ot,aQ (j:=0) rfl,_,rfl,aV rfl,fun pt hpt=>k1 _ _ ⟨S8.trans (aL.upd hpt),?_⟩⟩
    rw [List.take_add_one,tR ed hx']
    exact pr.snoc (k:=Sum.inr n) hpt
   ·rintro ys H8 ⟨S8,pr⟩
    rw [List.take_of_length_le (by rw [jY l2];omega)] at pr
    intro p9 hp9
    have S9:=aL.upd (o:=.lst ys) hp9
    refine ⟨p9,ys,cF ds ws,rfl,SqL.of aF,pr.same S9,by rw [jY l2];omega,by rw [iM l2];exact rD gd.nd,fun d2 hd2=>?_⟩
    have S10:=aL.upd (o:=.dK (cF ds ws)) hd2
    have SC:=S8.trans (S9.trans S10)
    have hd2':upd (upd H8 p9 (.lst ys)) d2 (.dK (cF ds ws)) d2 = some (.dK (cF ds ws)):=aF
    generalize upd (upd H8 p9 (.lst ys)) d2 (.dK (cF ds ws)) = H10 at SC hd2'
    refine ⟨_,rfl,p,C,dx,_,rfl,SC _ _ hp7,T.cl_Land,T.a_dyke_rows,(by show 1 < 1000;decide),?_⟩
    have nd2:d2 ≠ p:=aAH hd2' (SC _ _ hp7) (by intro z;cases z)
    have SE:xF H (upd H10 p (.ins C dx (lD d1 d2))):=fun b o e dt=>by
     have hb:b ≠ p:=fun z=>by subst z;rw [hx] at e;cases e;cases dt
     rw [aJ hb]
     exact SC _ _ (SB _ _ e hb)
    refine q _ ⟨⟨dx,d1,d2,aF,⟨_,(aJ nd1).trans (SC _ _ hd7),iM l1,?_⟩,⟨_,(aJ nd2).trans hd2',iM l2,?_⟩⟩,okf,okd⟩ fun b o e hb=>?_
    ·rw [oP l1]
     exact IsL.sameD SE _ _ i1
    ·rw [oP l2]
     exact IsL.sameD SE _ _ i2
    ·show upd H10 p (.ins C dx (lD d1 d2)) b = some o
     rw [aJ hb]
     exact SC _ _ (SB _ _ e hb)
open Mt02
def Scr (K:PySem.W.Frag) (H:Hp) (x:V):Prop:=∃ (a:Addr) (ns:List Int),x = .ref a ∧ SqL K H a (ns.map V.int) ∧ ns.length ≤ 63
theorem Scr.same {K:PySem.W.Frag} {H H':Hp} {x:V} (S:aL H H') (h:Scr K H x):Scr K H' x:=by
 obtain ⟨a,ns,e,q,l⟩:=h
 exact ⟨a,ns,e,S.seq q,l⟩
theorem at4 {a b c d i:Int} (h0:0 ≤ i) (h1:i < 4):∃ m:Int,atI ([.int a,.int b,.int c,.int d]:List V) i = some (.int m) ∧ (m = a ∨ m = b ∨ m = c ∨ m = d):=by
 obtain ⟨k,rfl⟩:=Int.eq_ofNat_of_zero_le h0
 have hk:k < 4:=by omega
 match k,hk with
 | 0,_=>exact ⟨a,aQ rfl,.inl rfl⟩
 | 1,_=>exact ⟨b,aQ rfl,.inr (.inl rfl)⟩
 | 2,_=>exact ⟨c,aQ rfl,.inr (.inr (.inl rfl))⟩
 | 3,_=>exact ⟨d,aQ rfl,.inr (.inr (.inr rfl))⟩
structure Fds (fs:List Dv) (n:Nat):Prop where
 l1:1 ≤ fs.length
 l2:fs.length ≤ n
 all:∀ d ∈ fs,bH d = true
 nd:(fs.map aU).Nodup
theorem pO {d:Dv} (h:bH d = true):lF d = true:=by
 obtain ⟨z,g,e,rfl,_⟩:=bJ h
 rfl
theorem aBE {z:Str} {g e:Int} (hz:dH z = true) (g0:-1000000 ≤ g) (g1:g ≤ 1000000) (e0:0 ≤ e) (e1:e ≤ 1000000):bH (.tup [.str z,.int g,.int e]) = true:=by
 show (dH z && (hgt g && amt e)) = true
 unfold hgt amt
 rw [hz,decide_eq_true g0,decide_eq_true g1,decide_eq_true e0,decide_eq_true e1]
 rfl
structure Dks (zs:List Str) (ds:List Dv) (n:Nat):Prop where
 l1:1 ≤ ds.length
 l2:ds.length ≤ n
 all:∀ d ∈ ds,cG zs d = true
 nd:(ds.map aU).Nodup
theorem xJ {c s:Dv} (h:jK c s = true):lF s = true:=by
 cases s with
 | non=>rfl
 | int i=>rfl
 | _=>cases h
theorem rJ {zs:List Str} {d:Dv} (h:cG zs d = true):lF d = true:=by
 obtain ⟨n,a,b,c,r,s,rfl,_,_,_,_,_,_,hs⟩:=fG h
 have:=xJ hs
 show (true && (true && (true && (true && (true && (lF s && true)))))) = true
 rw [this]
 rfl
theorem aDG {zs:List Str} {n a b:Str} {c r:Int} {s:Dv} (hn:dH n = true) (ha:a ∈ zs) (hb:b ∈ zs) (hab:a ≠ b) (hc:hgt c = true) (hr:amt r = true) (hs:jK (.int c) s = true):cG zs (.tup [.str n,.str a,.str b,.int c,.int r,s]) = true:=by
 show (dH n && (decide (a ∈ zs) && (decide (b ∈ zs) && !(a == b))) && (hgt c && (amt r && jK (.int c) s))) = true
 rw [hn,decide_eq_true ha,decide_eq_true hb,hc,hr,hs,beq_eq_false_iff_ne.mpr hab]
 rfl
theorem vQ {i:Int} (h0:-1000000 ≤ i) (h1:i ≤ 1000000):hgt i = true:=by
 unfold hgt
 rw [decide_eq_true h0,decide_eq_true h1]
 rfl
theorem aFP {i:Int} (h0:0 ≤ i) (h1:i ≤ 1000000):amt i = true:=by
 unfold amt
 rw [decide_eq_true h0,decide_eq_true h1]
 rfl
theorem aCB {z:Str} (h:dH z = true):z ≠ "sea":=by
 intro e
 subst e
 simp [dH] at h
theorem zL {fs:List Dv} {n:Nat} (h:Fds fs n):("sea" :: fs.map aU:List Str).Nodup:=by
 rw [List.nodup_cons]
 refine ⟨fun m=>?_,h.nd⟩
 obtain ⟨d,md,e⟩:=List.mem_map.mp m
 obtain ⟨z,g,e',rfl,hz,_⟩:=bJ (h.all d md)
 exact aCB hz e
theorem yB {fs:List Dv} {n:Nat} (h:Fds fs n) (hn:n ≤ 12):iK (.lst fs) = true:=(mD fs).mpr ⟨h.l1,Nat.le_trans h.l2 hn,h.all,h.nd⟩
theorem aBG {zs:List Str} {ds:List Dv} {n:Nat} (h:Dks zs ds n) (hn:n ≤ 40):jQ zs (.lst ds) = true:=(mE zs ds).mpr ⟨h.l1,Nat.le_trans h.l2 hn,h.all,h.nd⟩
theorem kM {z:Str} (h:dH z = true):z.length ≤ 1000:=by
 unfold dH at h
 rw [Bool.and_eq_true,Bool.and_eq_true,Bool.and_eq_true] at h
 have:=of_decide_eq_true h.1.1.2
 omega
theorem uG {d:Dv} (h:bH d = true):eC d = true:=by
 obtain ⟨z,g,e,rfl,hz,_⟩:=bJ h
 show (decide (3 ≤ 1000) && (decide (z.length ≤ 1000) && (true && (true && true)))) = true
 rw [decide_eq_true (kM hz)]
 rfl
theorem oB {fs:List Dv} (hf:∀ d ∈ fs,bH d = true) {a:Str} (h:a ∈ ("sea" :: fs.map aU:List Str)):a.length ≤ 1000:=by
 rcases List.mem_cons.mp h with rfl | h
 ·decide +kernel
 ·obtain ⟨d,m,rfl⟩:=List.mem_map.mp h
  obtain ⟨z,g,e,rfl,hz,_⟩:=bJ (hf d m)
  exact kM hz
theorem vU {fs:List Dv} (hf:∀ d ∈ fs,bH d = true) {d:Dv} (h:cG ("sea" :: fs.map aU) d = true):eC d = true:=by
 obtain ⟨n,a,b,c,r,s,rfl,hn,ha,hb,_,_,_,hs⟩:=fG h
 have e:eC s = true:=by
  cases s with
  | non=>rfl
  | int i=>rfl
  | _=>cases hs
 show (decide (6 ≤ 1000) && (decide (n.length ≤ 1000) && (decide (a.length ≤ 1000) && (decide (b.length ≤ 1000) && (true && (true && (eC s && true))))))) = true
 rw [decide_eq_true (kM hn),decide_eq_true (oB hf ha),decide_eq_true (oB hf hb),e]
 rfl
theorem rB {ds:List Dv} (h:∀ d ∈ ds,eC d = true) (hl:ds.length ≤ 1000):eC (.lst ds) = true:=by
 show (decide (ds.length ≤ 1000) && fR ds) = true
 rw [decide_eq_true hl,qW h]
 rfl
theorem vT {d:Dv} (h:bH d = true):aR 29 d = true:=by
 obtain ⟨z,g,e,rfl,_⟩:=bJ h
 rfl
theorem yC {zs:List Str} {d:Dv} (h:cG zs d = true):aR 29 d = true:=by
 obtain ⟨n,a,b,c,r,s,rfl,_,_,_,_,_,_,hs⟩:=fG h
 cases s with
 | non=>rfl
 | int i=>rfl
 | _=>cases hs
theorem pM {ds:List Dv} (h:∀ d ∈ ds,aR 29 d = true):aR 30 (.lst ds) = true:=by
 have:=pN h
 simpa [aR] using this
theorem aAI {d:Dv} {x y:V} {H:Hp} {Q:VK} (hx:Is H d x) (hy:Is H d y) (f:aR 30 d = true) (q:Q (.bl false) H):aCF true x y H Q:=⟨d,d,hx,hy,f,f,by rw [lI 30 d f];exact q⟩
theorem aBN (xs:List V) (k:Nat):uL xs (some (k:Int)) none = xs.drop k:=by
 unfold uL
 rw [HT.sIx_nat,HT.sIx_none]
 by_cases h:k ≤ xs.length
 ·rw [Nat.min_eq_left h,List.take_of_length_le (by rw [List.length_drop];exact Nat.le_refl _)]
 ·rw [Nat.min_eq_right (by omega),Nat.sub_self,List.take_zero,List.drop_eq_nil_of_le (by omega)]
theorem aDE {C:Addr} {H:Hp} {p:Addr} {fs ds:List Dv} (L:LandAt C H p fs ds):aR 30 (.lst fs) = true:=pM fun d m=>vT ((iD L).1.all d m)
theorem aDF {C:Addr} {H:Hp} {p:Addr} {fs ds:List Dv} (L:LandAt C H p fs ds):aR 30 (.lst ds) = true:=pM fun d m=>yC ((iD L).2.all d m)
def dB (p:Addr) (H H':Hp):Prop:=∀ b o,H b = some o → b ≠ p → H' b = some o
theorem dB.then {p:Addr} {H H' H'':Hp} (X:dB p H H') (S:aL H' H''):dB p H H'':=fun b o e n=>S _ _ (X b o e n)
theorem dB.put {p:Addr} {H H':Hp} {o:HO} (X:dB p H H'):dB p H (upd H' p o):=fun b o' e n=>by rw [aJ n];exact X b o' e n
theorem aL.x {p:Addr} {H H':Hp} (S:aL H H'):dB p H H':=fun b o e _=>S _ _ e
def sp4 (f:V → V → V → V → Hp → VK → Prop):Sp:=fun vs H Q _=>∃ x y z u,vs = [x,y,z,u] ∧ f x y z u H Q
theorem aGR {f:V → V → V → V → Hp → VK → Prop}:∀ vs H Q E,sp4 f vs H Q E → vs.length = 4:=fun vs H Q E ⟨x,y,z,u,e,_⟩=>by rw [e];rfl
open Mt21 Mt46
def zD (K:PySem.W.Frag):Sp:=sp2 fun x y H Q=>∃ k:Int,Scr K H x ∧ y = .int k ∧ 0 ≤ k ∧ ∀ m:Int,0 ≤ m → Q (.int m) H
theorem iP (T:Txt K mg C):Fc P w K mg base 1 "_law_mixed" ["_law_script","_law_k"] (zD K):=by
 refine T.d_l_mixed.fc kL kN (fun f cdv A outer s H vs Q E hr h=>?_)
 obtain ⟨x,y,rfl,k,⟨a,ns,rfl,hS,hl⟩,rfl,hk,q⟩:=h
 obtain ⟨j,rfl⟩:=Int.eq_ofNat_of_zero_le hk
 refine ⟨_,(aG (@aW _ _ (2) _ _ _ _ kL.nd rfl (Or.inl rfl) aB (by rfl) (by trivial)) (aG (@cN _ _ _ _ _ _ _ _ (@cQ _ _ _ _ _ _ _ _ aAF (pv 1) (@aO _ _ _ _ _ _ _ _ _ (@bL _ (K) rfl) rfl T.n_len bS (aA (pv 0) aD) (by decide) (by decide) (by rfl) (by rfl)) (@bT _ _ (by decide) (by decide))) (aI (@aW _ _ (2) _ _ _ _ kL.nd rfl (Or.inl rfl) (@bD _ _ _ _ _ _ _ (@bP _ (K) rfl) (pv 0) (pv 1) (fun _ _=>rfl)) (by rfl) (by trivial))) bM) (aI (@aT _ _ _ _ (@aK _ _ _ _ _ _ _ _ bE (@aK _ _ _ _ _ _ _ _ lR (pv 2) aB) (@aK _ _ _ _ _ _ _ _ dE aB aB)))))),?_⟩
 have p24:(0:Int) < 10 ^ (24:Int).toNat:=by decide
 have fin:∀ m:Int,Q (.int (m % 10 ^ (24:Int).toNat)) H:=fun m=>q _ (Int.emod_nonneg _ (by decide))
 refine ⟨_,rfl,_,rfl,a,_,rfl,.inl hS,_,_,rfl,rfl,_,rfl,?_⟩
 rw [List.length_map]
 refine jA (fun h1=>?_) (fun h1=>?_)
 ·have h1':j < ns.length:=by
   have:=of_decide_eq_true h1
   omega
  refine ⟨_,rfl,_,rfl,a,_,_,.int (ns.getD j 0),rfl,rfl,hS,aQ ?_,?_⟩
  ·rw [List.getElem?_map,List.getElem?_eq_getElem h1',List.getD_eq_getElem?_getD,List.getElem?_eq_getElem h1']
   rfl
  exact ⟨_,rfl,_,_,rfl,rfl,.inr ⟨by decide,by decide⟩,_,_,rfl,rfl,⟨by decide,by decide,by decide⟩,_,_,rfl,rfl,p24,fin _⟩
 ·exact ⟨_,rfl,_,_,rfl,rfl,.inr ⟨by decide,by decide⟩,_,_,rfl,rfl,⟨by decide,by decide,by decide⟩,_,_,rfl,rfl,p24,fin _⟩
def aES:Sp:=sp1 fun x H Q=>∃ n:Int,x = .int n ∧ ∀ m:Int,hgt m = true → Q (.int m) H
theorem mO (T:Txt K mg C):Fc P w K mg base 1 "_law_height" ["_law_cell"] aES:=by
 refine T.d_l_height.fc tM jJ (fun f cdv A outer s H vs Q E hr h=>?_)
 obtain ⟨x,rfl,n,rfl,q⟩:=h
 have p6':(10:Int) ^ (6:Int).toNat = 1000000:=by decide
 refine ⟨_,(aG (@cN _ _ _ _ _ _ _ _ (@cQ _ _ _ _ _ _ _ _ oQ (@aK _ _ _ _ _ _ _ _ bE (pv 0) aB) aB (@bT _ _ (by decide) (by decide))) (aI (@aT _ _ _ _ (@aK _ _ _ _ _ _ _ _ iN (@aK _ _ _ _ _ _ _ _ bE (@aK _ _ _ _ _ _ _ _ bA (pv 0) aB) aB) (@aK _ _ _ _ _ _ _ _ dE aB aB)))) bM) (aI (@aT _ _ _ _ (@aK _ _ _ _ _ _ _ _ iN (@aK _ _ _ _ _ _ _ _ bE (@aK _ _ _ _ _ _ _ _ bA (pv 0) aB) aB) aB)))),?_⟩
 refine ⟨_,rfl,_,_,rfl,rfl,(fO rfl),rfl,_,rfl,?_⟩
 rw [kE]
 refine jA (fun h1=>?_) (fun h1=>?_)
 ·refine ⟨_,rfl,_,_,rfl,rfl,⟨by decide,by decide⟩,_,_,rfl,rfl,(fO rfl),_,_,rfl,rfl,⟨by decide,by decide,by decide⟩,_,_,rfl,rfl,q _ ?_⟩
  rw [p6']
  have a0:=Int.emod_nonneg (n / 4) (show (2000001:Int) ≠ 0 by decide)
  have a1:=Int.emod_lt_of_pos (n / 4) (show (0:Int) < 2000001 by decide)
  exact vQ (by omega) (by omega)
 ·refine ⟨_,rfl,_,_,rfl,rfl,⟨by decide,by decide⟩,_,_,rfl,rfl,(fO rfl),_,_,rfl,rfl,q _ ?_⟩
  have a0:=Int.emod_nonneg (n / 4) (show (7:Int) ≠ 0 by decide)
  have a1:=Int.emod_lt_of_pos (n / 4) (show (0:Int) < 7 by decide)
  exact vQ (by omega) (by omega)
theorem aGS:("abcdefghijklmnopqrstuvwxyz":Str).length = 26:=by decide +kernel
def aER:Sp:=sp1 fun x H Q=>∃ c:Int,x = .int c ∧ ∀ (zs:List Str) (l:Addr) (H':Hp),Nm zs → (∀ z ∈ zs,z ≠ noSuch) → aL H H' → H l = none → H' l = some (.lst (zs.map V.str)) → Q (.ref l) H'
theorem oZ (T:Txt K mg C):Fc P w K mg base 1 "_law_names" ["_law_cell"] aER:=by
 refine T.d_l_names.fc cU jJ (fun f cdv A outer s H vs Q E hr h=>?_)
 obtain ⟨x,rfl,c,rfl,q⟩:=h
 have big:=cX
 have l26:=aGS
 have hss:("abcdefghijklmnopqrstuvwxyz":Str).length ≤ sizeLine:=by rw [l26];omega
 refine ⟨_,(@aG _ _ _ _ _ (@aW _ _ (1) _ _ _ _ cU.nd rfl (Or.inr rfl) bI (by rfl) (by trivial)) (@aG _ _ _ _ _ (@aW _ _ (2) _ _ _ _ cU.nd rfl (Or.inl rfl) (@aK _ _ _ _ _ _ _ _ cV aB (@aK _ _ _ _ _ _ _ _ bE (pv 0) aB)) (by rfl) (by trivial)) (@aG _ _ _ _ _ (@aW _ _ (3) _ _ _ _ cU.nd rfl (Or.inl rfl) (@aK _ _ _ _ _ _ _ _ bE (@aK _ _ _ _ _ _ _ _ bA (pv 0) aB) (pv 2)) (by rfl) (by trivial)) (@aG _ _ _ _ _ (@aW _ _ (4) _ _ _ _ cU.nd rfl (Or.inl rfl) (@bD _ _ _ _ _ _ _ (@bP _ (K) rfl) (@cJ _ _ _ _ (@aA _ _ _ _ _ aB (@aA _ _ _ _ _ aB (@aA _ _ _ _ _ aB (@aA _ _ _ _ _ aB (@aA _ _ _ _ _ aB (@aA _ _ _ _ _ aB (@aA _ _ _ _ _ aB (@aA _ _ _ _ _ aB (@aA _ _ _ _ _ aB (@aA _ _ _ _ _ aB (@aA _ _ _ _ _ aB (@aA _ _ _ _ _ aB aD (by rfl)) (by rfl)) (by rfl)) (by rfl)) (by rfl)) (by rfl)) (by rfl)) (by rfl)) (by rfl)) (by rfl)) (by rfl)) (by rfl))) (@aK _ _ _ _ _ _ _ _ bE (@aK _ _ _ _ _ _ _ _ bA (pv 0) aB) aB) (fun _ _=>rfl)) (by rfl) (by trivial)) (@aG _ _ _ _ _ (@aW _ _ (5) _ _ _ _ cU.nd rfl (Or.inl rfl) (@wQ _ _ _ _ _ _ _ _ _ _ _ _ PySem.F.plainAttrs_str PySem.F.slot_str_join PySem.F.type_str_join aCP bI (aA (@dZ _ _ _ _ _ _ _ _ _ _ _ ["_law_j","_law_cell","_law_letters"] 1 [0,1] rfl (@iB _ _ _ _ _ _ rfl T.n_range (aA (pv 2) aD) (by rfl)) (fun R=>@bN _ _ (0) _ (show List.Nodup (["_law_j","_law_cell","_law_letters"]:List Str) by decide +kernel) rfl (Or.inl rfl) (by trivial)) (@bR _ _ (by decide)) (fun R=>cT) (fun R=>(@bD _ _ _ _ _ _ _ aAO (pv 2) (@aK _ _ _ _ _ _ _ _ bE (@aK _ _ _ _ _ _ _ _ cV (@aK _ _ _ _ _ _ _ _ bA (pv 1) aB) (@aK _ _ _ _ _ _ _ _ lR (pv 0) (pv 0))) aB) (fun _ _=>rfl))) (by rfl) (by rfl) (by rfl) (by rfl) (by rfl) (by rfl) (by rfl) (by intro _;rfl)) aD) (by rfl) (by rfl) (by rfl) (by rfl) (by rfl)) (by rfl) (by trivial)) (@aG _ _ _ _ _ (@aW _ _ (6) _ _ _ _ cU.nd rfl (Or.inl rfl) (@cJ _ _ _ _ aD) (by rfl) (by trivial)) (@aG _ _ _ _ _ (@lQ _ _ _ _ _ _ _ _ PassesOwn.never rfl (@iB _ _ _ _ _ _ rfl T.n_range (@aA _ _ _ _ _ aB aD (by rfl)) (by rfl)) (@bN _ _ (7) _ cU.nd rfl (Or.inl rfl) (by trivial)) (@aG _ _ _ _ _ (@aW _ _ (8) _ _ _ _ cU.nd rfl (Or.inl rfl) (@bD _ _ _ _ _ _ _ aAO (pv 1) (@aK _ _ _ _ _ _ _ _ bE (@aK _ _ _ _ _ _ _ _ cV (@aK _ _ _ _ _ _ _ _ lR (pv 7) (pv 4)) (@aK _ _ _ _ _ _ _ _ bA (pv 0) aB)) aB) (fun _ _=>rfl)) (by rfl) (by trivial)) (@aI _ _ _ (@jW _ _ _ _ (@zX _ (K) _ _ _ _ _ rfl (@wQ _ _ _ _ _ _ _ _ _ _ _ _ PySem.F.plainAttrs_list PySem.F.slot_list_append PySem.F.type_list_append lX (pv 6) (aA (@aK _ _ _ _ _ _ _ _ gI (@aK _ _ _ _ _ _ _ _ gI (@kY _ _ _ _ _ _ _ _ _ _ zK (pv 5) nM (@nL _ _ _ (pv 3))) (pv 8)) (@kY _ _ _ _ _ _ _ _ _ _ zK (pv 5) (@nL _ _ _ (@aK _ _ _ _ _ _ _ _ cV (pv 3) aB)) nM)) aD) (by rfl) (by rfl) (by rfl) (by rfl) (by rfl))) (by rfl)))) (by intro _;rfl)) (@aI _ _ _ (@aT _ _ _ _ (@dZ _ _ _ _ _ _ _ _ _ _ _ ["_law_name"] 1 [] rfl (@dX _ (K) _ _ _ rfl (@dY _ _ _ _ (pv 6))) (fun R=>@bN _ _ (0) _ (show List.Nodup (["_law_name"]:List Str) by decide +kernel) rfl (Or.inl rfl) (by trivial)) (@bR _ _ (by decide)) (fun R=>@tP _ _ _ (@cQ _ _ _ _ _ _ _ _ kI (pv 0) bI (@bT _ _ (by decide) (by decide)))) (fun R=>(pv 0)) (by rfl) (by rfl) (by rfl) (by rfl) (by rfl) (by rfl) (by rfl) (by intro _;rfl))))))))))),?_⟩
 have z0:0 ≤ c % 8:=Int.emod_nonneg _ (by decide)
 have z1:c % 8 < 8:=Int.emod_lt_of_pos _ (by decide)
 obtain ⟨sz,hsz⟩:=Int.eq_ofNat_of_zero_le (show 0 ≤ 1 + c % 8 by omega)
 refine ⟨_,rfl,_,_,rfl,rfl,(fO rfl),_,_,rfl,rfl,?_⟩
 dsimp only
 rw [hsz]
 have szp:(0:Int) < (sz:Int):=by omega
 refine ⟨_,rfl,_,_,rfl,rfl,⟨by decide,by decide⟩,_,rfl,_,_,rfl,rfl,szp,?_⟩
 have a0:0 ≤ c / 8 % (sz:Int):=Int.emod_nonneg _ (by omega)
 have a1:c / 8 % (sz:Int) < (sz:Int):=Int.emod_lt_of_pos _ (by omega)
 obtain ⟨at',hat⟩:=Int.eq_ofNat_of_zero_le a0
 dsimp only
 rw [hat]
 refine ⟨aV rfl,fun pb hpb=>?_⟩
 have S0:=aL.upd (o:=.lst [.int 1,.int 3,.int 5,.int 7,.int 9,.int 11,.int 15,.int 17,.int 19,.int 21,.int 23,.int 25]) hpb
 obtain ⟨u,mu,eu⟩:=aIB (i:=c / 64 % 12) (Int.emod_nonneg _ (by decide)) (Int.emod_lt_of_pos _ (by decide))
 refine ⟨_,rfl,_,_,rfl,rfl,⟨by decide,by decide⟩,_,_,rfl,rfl,(fO rfl),pb,_,_,.int u,rfl,rfl,SqL.of aF,eu,?_⟩
 generalize upd H pb (.lst [.int 1,.int 3,.int 5,.int 7,.int 9,.int 11,.int 15,.int 17,.int 19,.int 21,.int 23,.int 25]) = H0 at S0
 refine ⟨rfl,_,rfl,_,rfl,by omega,by omega,?_⟩
 refine vV (lo:=0) (n:=sz) (by omega) (fun i ys H'=>H0 = H' ∧ ys = ((List.range i).map fun (j:Nat)=>oR (c / 768 + (j:Int) * (j:Int))).map V.str) ⟨rfl,rfl⟩ ?_ ?_ ?_
 ·rintro i ys H' ⟨rfl,rfl⟩
  simp
 ·rintro i ys H' K1 K2 hi ⟨rfl,rfl⟩ k1 k2
  refine ⟨_,rfl,_,rfl,_,_,rfl,rfl,⟨by decide,by decide⟩,_,rfl,_,rfl,_,_,rfl,rfl,.inl ⟨by omega,by omega⟩,_,_,rfl,rfl,_,_,rfl,rfl,(fO rfl),_,_,ab (c / 768 + (0 + (i:Int)) * (0 + (i:Int))),rfl,rfl,hss,aEI _,k1 _ _ ⟨rfl,?_⟩⟩
  rw [List.range_succ,List.map_append,List.map_append]
  show _ ++ [V.str (oR _)] = _ ++ [V.str (oR _)]
  rw [Int.zero_add]
 rintro ys H' ⟨rfl,rfl⟩
 intro p1 hp1
 have S1:=aL.upd (o:=.lst (((List.range sz).map fun (j:Nat)=>oR (c / 768 + (j:Int) * (j:Int))).map V.str)) hp1
 have lsum:((((List.range sz).map fun (j:Nat)=>oR (c / 768 + (j:Int) * (j:Int)))).map fun y=>y.length).sum = sz:=by
  rw [List.map_map]
  show ((List.range sz).map fun _=>1).sum = sz
  have e:∀ m:Nat,((List.range m).map fun _=>1).sum = m:=fun m=>by
   induction m with
   | zero=>rfl
   | succ m ih=>rw [List.range_succ,List.map_append,List.sum_append,ih];rfl
  exact e sz
 refine ⟨"",p1,(List.range sz).map fun (j:Nat)=>oR (c / 768 + (j:Int) * (j:Int)),rfl,rfl,SqL.of aF,by rw [lsum,List.length_map,List.length_range,show ("":Str).length = 0 by decide +kernel];omega,?_⟩
 generalize hb:Txt.join "" ((List.range sz).map fun (j:Nat)=>oR (c / 768 + (j:Int) * (j:Int))) = b
 have bc:b.cps.toList = (List.range sz).map fun (j:Nat)=>ab (c / 768 + (j:Int) * (j:Int)):=by
  rw [← hb,vM,List.map_map]
  show (((List.range sz).map fun j=>[ab _]).flatten) = _
  induction (List.range sz) with
  | nil=>rfl
  | cons x r ih=>rw [List.map_cons,List.flatten_cons,ih,List.map_cons];rfl
 have bl:b.length = sz:=by rw [fZ,bc,List.length_map,List.length_range]
 have ball:b.cps.toList.all gL = true:=by
  rw [bc,List.all_eq_true]
  intro x hx
  obtain ⟨j,_,rfl⟩:=List.mem_map.mp hx
  exact rW _
 have bs:b.length ≤ sizeLine:=by omega
 refine ⟨aV rfl,fun l hl=>?_⟩
 have S2:=aL.upd (o:=.lst []) hl
 have hl0:=S1.free hl
 have ub:1 ≤ u ∧ u ≤ 25:=(show ∀ u ∈ units,1 ≤ u ∧ u ≤ 25 by decide +kernel) u mu
 refine ⟨_,rfl,by omega,by omega,?_⟩
 refine kC (lo:=0) (n:=26) (fun i σ H'=>∃ (v7 v8:Option V) (g:Nat → Str),σ = [some (.int c),some (.str "abcdefghijklmnopqrstuvwxyz"),some (.int sz),some (.int at'),some (.int u),some (.str b),some (.ref l),v7,v8] ∧ aL H0 H' ∧ H' l = some (.lst (((List.range i).map g).map V.str)) ∧ ∀ k,k < i → (g k).cps.toList = b.cps.toList.take at' ++ [ab ((k:Int) * u + c / 19968)] ++ b.cps.toList.drop (at' + 1))
  ⟨_,_,fun _=>"",rfl,S1.trans S2,aF,(fun k hk=>absurd hk (by omega))⟩ ?_ ?_
 ·rintro i σ H3 hi ⟨v7,v8,g,rfl,S3,hl3,pu⟩
  have ku:0 ≤ (0 + (i:Int)) * u:=Int.mul_nonneg (by omega) (by omega)
  refine ⟨_,rfl,_,rfl,_,rfl,_,_,rfl,rfl,.inl ⟨by omega,by omega⟩,_,rfl,_,_,rfl,rfl,⟨by decide,by decide⟩,_,_,rfl,rfl,_,_,rfl,rfl,(fO rfl),_,_,ab ((0 + (i:Int)) * u + c / 19968),rfl,rfl,hss,aEI _,?_⟩
  have tl:(Txt.slice b none (some (at':Int))).length ≤ 8:=by
   rw [fZ,nV b at' (by omega),List.length_take]
   omega
  have dl:(Txt.slice b (some ((at':Int) + 1)) none).length ≤ 8:=by
   rw [show ((at':Int) + 1) = ((at' + 1:Nat):Int) from rfl,fZ,pS b (at' + 1) (by omega),List.length_drop,← fZ]
   omega
  have ia:(oR ((0 + (i:Int)) * u + c / 19968)).length = 1:=rfl
  have sh1:(oR ((0 + (i:Int)) * u + c / 19968)).cps.toList = [ab ((0 + (i:Int)) * u + c / 19968)]:=rfl
  refine ⟨_,rfl,.inl ⟨rfl,_,SqL.of hl3⟩,_,rfl,_,rfl,_,rfl,b,rfl,bs,_,rfl,_,_,rfl,rfl,?_,_,rfl,_,rfl,_,_,rfl,rfl,_,rfl,b,rfl,bs,_,_,rfl,rfl,?_,l,_,_,rfl,rfl,hl3,by rw [List.length_map,List.length_map,List.length_range];omega,?_⟩
  ·refine Nat.le_trans (Nat.add_le_add tl (Nat.le_of_eq ia)) (by omega)
  ·rw [Tx.app_len]
   refine Nat.le_trans (Nat.add_le_add (Nat.add_le_add tl (Nat.le_of_eq ia)) dl) (by omega)
  ·refine ⟨_,_,fun k=>if k = i then Txt.slice b none (some (at':Int)) ++ oR ((0 + (i:Int)) * u + c / 19968) ++ Txt.slice b (some ((at':Int) + 1)) none else g k,rfl,S3.over ?_,?_,fun k hk=>?_⟩
   ·exact hl0
   ·rw [aF,List.range_succ,List.map_append,List.map_append]
    have e1:(List.range i).map (fun k=>if k = i then Txt.slice b none (some (at':Int)) ++ oR ((0 + (i:Int)) * u + c / 19968) ++ Txt.slice b (some ((at':Int) + 1)) none else g k) = (List.range i).map g:=List.map_congr_left fun k m=>by
     rw [if_neg (by have:=List.mem_range.mp m;omega)]
    rw [e1]
    show _ = some (HO.lst (_ ++ [V.str (if i = i then _ else _)]))
    rw [if_pos rfl]
    rfl
   ·by_cases hki:k = i
    ·subst hki
     dsimp only
     rw [if_pos rfl]
     rw [Tx.app_codes,Tx.app_codes,nV b at' (by omega),show ((at':Int) + 1) = ((at' + 1:Nat):Int) from rfl,pS b (at' + 1) (by omega),sh1,Int.zero_add]
    ·dsimp only
     rw [if_neg hki]
     exact pu k (by omega)
 ·rintro σ H3 ⟨v7,v8,g,rfl,S3,hl3,pu⟩
  have NM:=aGO (g:=g) (r:=c / 19968) ball bl (by omega) (by omega) (by omega) mu pu
  have NX:∀ z ∈ ((List.range 26).map g).filter (fun z=>!decide (z = ("sea":Str))),z ≠ noSuch:=fun z m=>by
   obtain ⟨k,mk,rfl⟩:=List.mem_map.mp (List.mem_filter.mp m).1
   exact aCO bc (by omega) (by omega) (pu k (List.mem_range.mp mk))
  refine ⟨_,rfl,l,rfl,⟨_,SqL.of hl3⟩,?_⟩
  generalize hzs:(List.range 26).map g = zs at *
  have lz:zs.length = 26:=by rw [← hzs,List.length_map,List.length_range]
  refine cL (F:=K) (xs:=zs.map V.str) (by rw [List.length_map];omega) (fun i ys H'=>H3 = H' ∧ ys = ((zs.take i).filter fun z=>!decide (z = ("sea":Str))).map V.str ∧ ys.length ≤ i) ⟨rfl,rfl,Nat.le_refl _⟩ ?_ ?_ ?_
  ·rintro i ys H' hi' ⟨rfl,rfl,hy⟩
   exact ⟨SqL.of hl3,hy⟩
  ·rintro i xv ys H' K1 K2 hx ⟨rfl,rfl,hy⟩ k1 k2
   obtain ⟨z,ez⟩:∃ z,zs[i]? = some z:=by
    have:=(List.getElem?_eq_some_iff.mp hx).1
    rw [List.length_map] at this
    exact ⟨_,List.getElem?_eq_getElem this⟩
   rw [List.getElem?_map,ez] at hx
   cases hx
   refine ⟨_,rfl,rfl,_,rfl,?_⟩
   show if (!decide (V.str z = V.str "sea")) = true then _ else _
   rw [lJ]
   have et:((zs.take (i + 1)).filter fun z=>!decide (z = ("sea":Str))) = ((zs.take i).filter fun z=>!decide (z = ("sea":Str))) ++ (if (!decide (z = ("sea":Str))) = true then [z] else []):=by
    rw [List.take_add_one,ez,List.filter_append]
    cases hb:(!decide (z = ("sea":Str))) <;> simp_all
   cases hb:(!decide (z = ("sea":Str))) with
   | true =>
    rw [hb] at et
    refine eA ⟨_,rfl,k1 _ _ ⟨rfl,?_,by rw [List.length_append,List.length_singleton];omega⟩⟩
    rw [et,List.map_append]
    rfl
   | false =>
    rw [hb] at et
    refine bX (k2 _ ⟨rfl,?_,by omega⟩)
    rw [et]
    simp
  rintro ys H' ⟨rfl,rfl,hy⟩
  rw [List.length_map,List.take_of_length_le (Nat.le_refl _)]
  intro l2 hl2
  exact q _ l2 _ NM NX (S0.trans (S3.trans (aL.upd hl2))) (S0.free (S3.free hl2)) aF
theorem wY {i:Int} (h:hgt i = true):-1000000 ≤ i ∧ i ≤ 1000000:=by
 unfold hgt at h
 rw [Bool.and_eq_true,decide_eq_true_iff,decide_eq_true_iff] at h
 exact h
theorem lE:∀ {ds:List Dv},(∀ d ∈ ds,lF d = true) → iF ds = true
 | [],_=>rfl
 | d :: ds,h=>by
  rw [iF,h d List.mem_cons_self,lE fun e m=>h e (List.mem_cons_of_mem _ m)]
  rfl
def aDY (K:PySem.W.Frag):Sp:=sp2 fun x y H Q=>∃ n:Nat,Scr K H x ∧ y = .int n ∧ 1 ≤ n ∧ n ≤ 12 ∧ ∀ (l:Addr) (vs:List V) (fs:List Dv) (H':Hp),aL H H' → H l = none → H' l = some (.lst vs) → IsL H' fs vs → Fds fs n → (∀ d ∈ fs,aU d ≠ Mt46.noSuch) → Q (.ref l) H'
theorem tU (T:Txt K mg C):Fc P w K mg base 2 "_law_fields" ["_law_script","_law_most"] (aDY K):=by
 have G_l_names:Fc P w K mg base 1 "_law_names" ["_law_cell"] aER:=oZ T
 have G_l_mixed:Fc P w K mg base 1 "_law_mixed" ["_law_script","_law_k"] (zD K):=iP T
 have G_l_height:Fc P w K mg base 1 "_law_height" ["_law_cell"] aES:=mO T
 refine T.d_l_fields.fc eT kN (fun f cdv A outer s H vs Q E hr h=>?_)
 obtain ⟨x,y,rfl,n,⟨a,ns,rfl,hS,hns⟩,rfl,n1,n12,q⟩:=h
 have scr:Scr K H (.ref a):=⟨a,ns,rfl,hS,hns⟩
 have big:=cX
 refine ⟨_,(aG (@aW _ _ (2) _ _ _ _ eT.nd rfl (Or.inl rfl) (@bQ _ _ _ _ _ _ _ _ _ _ G_l_names (hr.mono (by decide)) (aA (@bQ _ _ _ _ _ _ _ _ _ _ G_l_mixed (hr.mono (by decide)) (aA (pv 0) (@aA _ _ _ _ _ aB aD (by rfl))) (by rfl) (by decide) (by rfl) (by rfl)) aD) (by rfl) (by decide) (by rfl) (by rfl)) (by rfl) (by trivial)) (aG (@aW _ _ (3) _ _ _ _ eT.nd rfl (Or.inl rfl) (@cJ _ _ _ _ aD) (by rfl) (by trivial)) (aG (@lQ _ _ _ _ _ _ _ _ PassesOwn.never rfl (@iB _ _ _ _ _ _ rfl T.n_range (aA (@aK _ _ _ _ _ _ _ _ cV aB (@aK _ _ _ _ _ _ _ _ bE (@bQ _ _ _ _ _ _ _ _ _ _ G_l_mixed (hr.mono (by decide)) (aA (pv 0) (@aA _ _ _ _ _ aB aD (by rfl))) (by rfl) (by decide) (by rfl) (by rfl)) (pv 1))) aD) (by rfl)) (@bN _ _ (4) _ eT.nd rfl (Or.inl rfl) (by trivial)) (aG (@aW _ _ (5) _ _ _ _ eT.nd rfl (Or.inl rfl) (@bQ _ _ _ _ _ _ _ _ _ _ G_l_mixed (hr.mono (by decide)) (aA (pv 0) (aA (@aK _ _ _ _ _ _ _ _ cV aB (pv 4)) aD)) (by rfl) (by decide) (by rfl) (by rfl)) (by rfl) (by trivial)) (aG (@aW _ _ (6) _ _ _ _ eT.nd rfl (Or.inl rfl) (@bD _ _ _ _ _ _ _ (@bP _ (K) rfl) (@cJ _ _ _ _ (aA aB (aA aB (aA (@aK _ _ _ _ _ _ _ _ cV aB (@aK _ _ _ _ _ _ _ _ bE (@aK _ _ _ _ _ _ _ _ bA (pv 5) aB) aB)) (aA (@aK _ _ _ _ _ _ _ _ bE (@aK _ _ _ _ _ _ _ _ bA (pv 5) aB) (@aK _ _ _ _ _ _ _ _ cV (@aK _ _ _ _ _ _ _ _ dE aB aB) aB)) aD))))) (@aK _ _ _ _ _ _ _ _ bE (pv 5) aB) (fun _ _=>rfl)) (by rfl) (by trivial)) (aI (@jW _ _ _ _ (@zX _ (K) _ _ _ _ _ rfl (@wQ _ _ _ _ _ _ _ _ _ _ _ _ PySem.F.plainAttrs_list PySem.F.slot_list_append PySem.F.type_list_append lX (pv 3) (aA (@fT _ _ _ _ _ (aA (@bD _ _ _ _ _ _ _ (@bP _ (K) rfl) (pv 2) (pv 4) (fun _ _=>rfl)) (aA (@bQ _ _ _ _ _ _ _ _ _ _ G_l_height (hr.mono (by decide)) (aA (@aK _ _ _ _ _ _ _ _ bA (pv 5) (@aK _ _ _ _ _ _ _ _ dE aB aB)) aD) (by rfl) (by decide) (by rfl) (by rfl)) (aA (pv 6) aD)))) aD) (by rfl) (by rfl) (by rfl) (by rfl) (by rfl))) (by rfl))))) (by intro _;rfl)) (aI (@aT _ _ _ _ (pv 3)))))),?_⟩
 refine ⟨_,rfl,_,_,rfl,0,scr,rfl,by decide,fun m0 hm0=>?_⟩
 refine ⟨_,rfl,m0,rfl,fun zs ln H1 NM NX S1 nln hln=>?_⟩
 refine ⟨aV rfl,fun l hl=>?_⟩
 have S2:=aL.upd (o:=.lst []) hl
 have nl:H l = none:=S1.free hl
 have hl2:upd H1 l (.lst []) l = some (.lst []):=aF
 have T2:=S1.trans S2
 have hln2:=S2 _ _ hln
 have nll:ln ≠ l:=fun z=>by rw [z,hl2] at hln2;have:=(HO.lst.inj (Option.some.inj hln2));have h1:=NM.l1;rw [← List.length_map (f:=V.str),← this] at h1;exact absurd h1 (by decide)
 generalize upd H1 l (.lst []) = H2 at T2 hl2 hln2
 refine ⟨_,rfl,_,_,rfl,1,scr.same T2,rfl,by decide,fun m1 hm1=>?_⟩
 have np:(0:Int) < (n:Int):=by omega
 have r0:0 ≤ m1 % (n:Int):=Int.emod_nonneg _ (by omega)
 have r1:m1 % (n:Int) < (n:Int):=Int.emod_lt_of_pos _ np
 obtain ⟨cnt,hcnt⟩:=Int.eq_ofNat_of_zero_le (show 0 ≤ 1 + m1 % (n:Int) by omega)
 refine ⟨_,rfl,_,_,rfl,rfl,np,_,_,rfl,rfl,_,rfl,by show -(2 ^ 62) ≤ 1 + m1 % (n:Int);omega,by show 1 + m1 % (n:Int) < 2 ^ 62;omega,?_⟩
 rw [show (1 + m1 % (n:Int)).toNat = cnt by omega]
 have nz:=NM.l1
 refine kC (lo:=0) (n:=cnt) (fun i σ H'=>∃ (v4 v5 v6:Option V) (vs:List V) (es:List Dv),σ = [some (.ref a),some (.int n),some (.ref ln),some (.ref l),v4,v5,v6] ∧ dB l H2 H' ∧ H' l = some (.lst vs) ∧ IsL H' es vs ∧ es.map aU = zs.take i ∧ es.length = i ∧ ∀ d ∈ es,bH d = true) ⟨_,_,_,[],[],rfl,(fun b o e _=>e),hl2,rfl,rfl,rfl,fun d m=>by cases m⟩ ?_ ?_
 ·rintro i σ H' hi ⟨v4,v5,v6,ys,es,rfl,X,hly,iy,en,le,all⟩
  have SH:aL H H':=fun b o e=>X _ _ (T2 _ _ e) (fun z=>by rw [z,nl] at e;cases e)
  have ly:=iy.length
  obtain ⟨z,ez⟩:∃ z,zs[i]? = some z:=⟨_,List.getElem?_eq_getElem (by omega)⟩
  have zi:(0:Int) + (i:Int) = (i:Int):=Int.zero_add _
  refine ⟨_,rfl,_,rfl,_,_,rfl,rfl,_,_,rfl,_,scr.same SH,rfl,by show 0 ≤ 2 + (0 + (i:Int));omega,fun mc hmc=>?_⟩
  have p6':(10:Int) ^ (6:Int).toNat = 1000000:=by decide
  have pm6:(0:Int) < 10 ^ (6:Int).toNat + 1:=by decide
  refine ⟨_,rfl,_,_,rfl,rfl,⟨by decide,by decide⟩,_,_,rfl,rfl,(fO rfl),_,_,rfl,rfl,_,rfl,_,_,rfl,rfl,⟨by decide,by decide⟩,_,_,rfl,rfl,⟨by decide,by decide,by decide⟩,_,_,rfl,rfl,_,_,rfl,rfl,pm6,aV rfl,fun p1 hp1=>?_⟩
  have A1:=aL.upd (o:=.lst [.int 0,.int 1,.int (1 + mc / 16 % 5),.int (mc / 16 % (10 ^ (6:Int).toNat + 1))]) hp1
  obtain ⟨du,edu,hdu⟩:=at4 (a:=0) (b:=1) (c:=1 + mc / 16 % 5) (d:=mc / 16 % (10 ^ (6:Int).toNat + 1)) (i:=mc % 4) (Int.emod_nonneg _ (by decide)) (Int.emod_lt_of_pos _ (by decide))
  have du01:0 ≤ du ∧ du ≤ 1000000:=by
   have b0:=Int.emod_nonneg (mc / 16) (show (5:Int) ≠ 0 by decide)
   have b1:=Int.emod_lt_of_pos (mc / 16) (show (0:Int) < 5 by decide)
   rw [p6'] at hdu
   have c0:=Int.emod_nonneg (mc / 16) (show (1000000 + 1:Int) ≠ 0 by decide)
   have c1:=Int.emod_lt_of_pos (mc / 16) (show (0:Int) < 1000000 + 1 by decide)
   rcases hdu with rfl | rfl | rfl | rfl <;> omega
  refine ⟨_,rfl,_,_,rfl,rfl,(fO rfl),p1,_,_,.int du,rfl,rfl,SqL.of aF,edu,?_⟩
  generalize upd H' p1 (.lst [.int 0,.int 1,.int (1 + mc / 16 % 5),.int (mc / 16 % (10 ^ (6:Int).toNat + 1))]) = H4 at A1 ⊢
  refine ⟨_,rfl,.inl ⟨rfl,_,SqL.of (A1 _ _ hly)⟩,?_⟩
  refine ⟨_,rfl,_,rfl,ln,_,_,.str z,rfl,rfl,SqL.of (A1 _ _ (X _ _ hln2 nll)),(by rw [zi];exact aQ (by rw [List.getElem?_map,ez];rfl)),?_⟩
  refine ⟨_,rfl,_,_,rfl,rfl,⟨by decide,by decide,by decide⟩,_,_,rfl,rfl,⟨by decide,by decide⟩,_,rfl,_,rfl,fun g hg=>?_⟩
  refine ⟨_,rfl,aV rfl,fun t ht=>?_⟩
  have A2:=aL.upd (o:=.tup [.str z,.int g,.int du]) ht
  have A:=A1.trans A2
  have hl5:=A _ _ hly
  refine ⟨l,_,_,rfl,rfl,hl5,by omega,?_⟩
  have nmz:=NM.nm z (List.mem_of_getElem? ez)
  have ntl:t ≠ l:=fun e=>by rw [e,A1 _ _ hly] at ht;cases ht
  have kp:jS H' (upd (upd H4 t (.tup [.str z,.int g,.int du])) l (.lst (ys ++ [.ref t]))):=fun b xs e=>by
   rw [aJ (fun z=>by rw [z,hly] at e;cases e)]
   exact A _ _ e
  have hh:=wY hg
  refine ⟨_,_,_,ys ++ [.ref t],es ++ [.tup [.str z,.int g,.int du]],rfl,(X.then A).put,aF,IsL.snoc ?_ (IsL.keep kp _ _ (lE fun d m=>pO (all d m)) iy),?_,by rw [List.length_append,le];rfl,?_⟩
  ·exact ⟨t,_,rfl,by rw [aJ ntl,aF],_,_,rfl,rfl,_,_,rfl,rfl,_,_,rfl,rfl,rfl⟩
  ·rw [List.map_append,en,List.take_add_one,ez]
   rfl
  ·intro d md
   rcases List.mem_append.mp md with md | md
   ·exact all d md
   ·rw [List.mem_singleton.mp md]
    exact aBE nmz hh.1 hh.2 du01.1 du01.2
 ·rintro σ H' ⟨v4,v5,v6,ys,es,rfl,X,hly,iy,en,le,all⟩
  have SH:aL H H':=fun b o e=>X _ _ (T2 _ _ e) (fun z=>by rw [z,nl] at e;cases e)
  refine ⟨_,rfl,q l ys es H' SH nl hly iy ⟨by omega,by omega,all,?_⟩ fun d m=>?_⟩
  ·rw [en]
   exact NM.nd.sublist (List.take_sublist _ _)
  ·have h:aU d ∈ es.map aU:=List.mem_map.mpr ⟨d,m,rfl⟩
   rw [en] at h
   exact NX _ (List.mem_of_mem_take h)
open Mt21 Mt46
theorem xK {c:TT} {a b u:TS} {D:Ends} {σ:L2.St} {H:Hp} (R:L2.St → Hp → Prop) (h:∀ σ' H',R σ' H' → u D σ' H') (k:∀ D':Ends,(∀ σ' H',R σ' H' → D'.nx σ' H') → aEM c a b D' σ H):fY (aEM c a b) u D σ H:=k { D with nx:=u D } h
theorem aHZ {b:Bool} {A B X:Prop} (hA:A) (hX:A → b = false → X):if b = true then (if true = true then A else B) else X:=by
 cases b with
 | true=>rw [if_pos rfl,if_pos rfl];exact hA
 | false=>rw [if_neg (by intro z;cases z)];exact hX hA rfl
def aDZ (K:PySem.W.Frag):Sp:=sp4 fun x y z u H Q=>∃ (ia im:Nat) (lf:Addr) (vf:List V) (fs:List Dv) (nf:Nat),Scr K H x ∧ y = .int ia ∧ ia ≤ 63 ∧ z = .int im ∧ 1 ≤ im ∧ im ≤ 20 ∧ u = .ref lf ∧ H lf = some (.lst vf) ∧ IsL H fs vf ∧ Fds fs nf ∧ nf ≤ 12 ∧
 ∀ (l:Addr) (us:List V) (ds:List Dv) (H':Hp),aL H H' → H l = none → H' l = some (.lst us) → IsL H' ds us → Dks ("sea" :: fs.map aU) ds im → (∀ d ∈ ds,aU d ≠ Mt46.noSuch) → Q (.ref l) H'
theorem vE (T:Txt K mg C):Fc P w K mg base 2 "_law_dykes" ["_law_script","_law_at","_law_most","_law_fields_here"] (aDZ K):=by
 have G_l_names:Fc P w K mg base 1 "_law_names" ["_law_cell"] aER:=oZ T
 have G_l_mixed:Fc P w K mg base 1 "_law_mixed" ["_law_script","_law_k"] (zD K):=iP T
 have G_l_height:Fc P w K mg base 1 "_law_height" ["_law_cell"] aES:=mO T
 refine T.d_l_dykes.fc bV aGR (fun f cdv A outer s H vs Q E hr h=>?_)
 obtain ⟨x,y,z,u,rfl,ia,im,lf,vf,fs,nf,⟨a,ns,rfl,hS,hns⟩,rfl,ia63,rfl,im1,im20,rfl,hlf,iff,gf,nf12,q⟩:=h
 have scr:Scr K H (.ref a):=⟨a,ns,rfl,hS,hns⟩
 have big:=cX
 have lvf:=iff.length
 have f1:=gf.l1
 have f2:=gf.l2
 have snd:=zL gf
 refine ⟨_,(aG (@aW _ _ (4) _ _ _ _ bV.nd rfl (Or.inl rfl) (@bQ _ _ _ _ _ _ _ _ _ _ G_l_names (hr.mono (by decide)) (aA (@aK _ _ _ _ _ _ _ _ bA (@bQ _ _ _ _ _ _ _ _ _ _ G_l_mixed (hr.mono (by decide)) (aA (pv 0) (@aA _ _ _ _ _ aB aD (by rfl))) (by rfl) (by decide) (by rfl) (by rfl)) (@aK _ _ _ _ _ _ _ _ dE aB aB)) aD) (by rfl) (by decide) (by rfl) (by rfl)) (by rfl) (by trivial)) (aG (@aW _ _ (5) _ _ _ _ bV.nd rfl (Or.inl rfl) (@aK _ _ _ _ _ _ _ _ vC (@cJ _ _ _ _ (aA bI aD)) (@dZ _ _ _ _ _ _ _ _ _ _ _ ["_law_field"] 1 [] rfl (@dX _ (K) _ _ _ rfl (@dY _ _ _ _ (pv 3))) (fun R=>@bN _ _ (0) _ (show List.Nodup (["_law_field"]:List Str) by decide +kernel) rfl (Or.inl rfl) (by trivial)) (@bR _ _ (by decide)) (fun R=>cT) (fun R=>(@bD _ _ _ _ _ _ _ (@bF _ (K) rfl) (pv 0) aB (fun _ _=>rfl))) (by rfl) (by rfl) (by rfl) (by rfl) (by rfl) (by rfl) (by rfl) (by intro _;rfl))) (by rfl) (by trivial)) (aG (@aW _ _ (6) _ _ _ _ bV.nd rfl (Or.inl rfl) (@cJ _ _ _ _ aD) (by rfl) (by trivial)) (aG (@lQ _ _ _ _ _ _ _ _ PassesOwn.never rfl (@iB _ _ _ _ _ _ rfl T.n_range (aA (@aO _ _ _ _ _ _ _ _ _ (@rM _ rfl) rfl T.n_max rP (aA aB (aA (@aO _ _ _ _ _ _ _ _ _ (@rL _ rfl) rfl T.n_min rO (aA (pv 2) (aA (@aK _ _ _ _ _ _ _ _ iN (@aO _ _ _ _ _ _ _ _ _ (@bL _ (K) rfl) rfl T.n_len bS (aA (pv 0) aD) (by decide) (by decide) (by rfl) (by rfl)) (pv 1)) aD)) (by decide) (by decide) (by rfl) (by rfl)) aD)) (by decide) (by decide) (by rfl) (by rfl)) aD) (by rfl)) (@bN _ _ (7) _ bV.nd rfl (Or.inl rfl) (by trivial)) (aG (@aW _ _ (8) _ _ _ _ bV.nd rfl (Or.inl rfl) (@bQ _ _ _ _ _ _ _ _ _ _ G_l_mixed (hr.mono (by decide)) (aA (pv 0) (aA (@aK _ _ _ _ _ _ _ _ cV (pv 1) (pv 7)) aD)) (by rfl) (by decide) (by rfl) (by rfl)) (by rfl) (by trivial)) (aG (@aW _ _ (9) _ _ _ _ bV.nd rfl (Or.inr rfl) (@bD _ _ _ _ _ _ _ (@bP _ (K) rfl) (pv 5) (@aK _ _ _ _ _ _ _ _ bE (pv 8) (@aO _ _ _ _ _ _ _ _ _ (@bL _ (K) rfl) rfl T.n_len bS (aA (pv 5) aD) (by decide) (by decide) (by rfl) (by rfl))) (fun _ _=>rfl)) (by rfl) (by trivial)) (aG (@oN _ (10) _ _ _ _ _ _ _ _ _ _ _ _ _ bV.nd rfl ["_law_side","_law_one"] 1 [9] rfl (@dX _ (K) _ _ _ rfl (@dY _ _ _ _ (pv 5))) (fun R=>@bN _ _ (0) _ (show List.Nodup (["_law_side","_law_one"]:List Str) by decide +kernel) rfl (Or.inl rfl) (by trivial)) (@bR _ _ (by decide)) (fun R=>@tP _ _ _ (@cQ _ _ _ _ _ _ _ _ kI (pv 0) (pv 1) (@bT _ _ (by decide) (by decide)))) (fun R=>(pv 0)) (by exact Or.inl rfl) (by trivial) (by rfl) (by rfl) (by rfl) (by rfl) (by rfl) (by rfl) (by rfl) (by rfl) (by intro _;rfl)) (aG (@aW _ _ (11) _ _ _ _ bV.nd rfl (Or.inl rfl) (@bD _ _ _ _ _ _ _ (@bP _ (K) rfl) (pv 10) (@aK _ _ _ _ _ _ _ _ bE (@aK _ _ _ _ _ _ _ _ bA (pv 8) aB) (@aO _ _ _ _ _ _ _ _ _ (@bL _ (K) rfl) rfl T.n_len bS (aA (pv 10) aD) (by decide) (by decide) (by rfl) (by rfl))) (fun _ _=>rfl)) (by rfl) (by trivial)) (aG (@aW _ _ (12) _ _ _ _ bV.nd rfl (Or.inl rfl) (@bQ _ _ _ _ _ _ _ _ _ _ G_l_height (hr.mono (by decide)) (aA (@aK _ _ _ _ _ _ _ _ bA (pv 8) aB) aD) (by rfl) (by decide) (by rfl) (by rfl)) (by rfl) (by trivial)) (aG (@aW _ _ (13) _ _ _ _ bV.nd rfl (Or.inl rfl) (@bD _ _ _ _ _ _ _ (@bP _ (K) rfl) (@cJ _ _ _ _ (aA aB (aA aB (aA (@aK _ _ _ _ _ _ _ _ cV aB (@aK _ _ _ _ _ _ _ _ bE (@aK _ _ _ _ _ _ _ _ bA (pv 8) (@aK _ _ _ _ _ _ _ _ dE aB aB)) aB)) (aA (@aK _ _ _ _ _ _ _ _ bE (@aK _ _ _ _ _ _ _ _ bA (pv 8) (@aK _ _ _ _ _ _ _ _ dE aB aB)) (@aK _ _ _ _ _ _ _ _ cV (@aK _ _ _ _ _ _ _ _ dE aB aB) aB)) aD))))) (@aK _ _ _ _ _ _ _ _ bE (@aK _ _ _ _ _ _ _ _ bA (pv 8) (@aK _ _ _ _ _ _ _ _ dE aB aB)) aB) (fun _ _=>rfl)) (by rfl) (by trivial)) (aG (@aW _ _ (14) _ _ _ _ bV.nd rfl (Or.inl rfl) (@aK _ _ _ _ _ _ _ _ iN (@aK _ _ _ _ _ _ _ _ iN (pv 12) aB) (@bD _ _ _ _ _ _ _ (@bP _ (K) rfl) (@cJ _ _ _ _ (aA aB (aA aB (aA aB (aA (@aK _ _ _ _ _ _ _ _ dE aB aB) aD))))) (@aK _ _ _ _ _ _ _ _ bE (@aK _ _ _ _ _ _ _ _ bA (pv 8) (@aK _ _ _ _ _ _ _ _ dE aB aB)) aB) (fun _ _=>rfl))) (by rfl) (by trivial)) (aG (@cN _ _ _ _ _ _ _ _ (@PW.pt _ _ _ (@iA _ _ _ _ _ _ _ (@cQ _ _ _ _ _ _ _ _ oQ (@aK _ _ _ _ _ _ _ _ bE (@aK _ _ _ _ _ _ _ _ bA (pv 8) (@aK _ _ _ _ _ _ _ _ dE aB aB)) aB) aB (@bT _ _ (by decide) (by decide))) (@fS _ _ _ _ (@cQ _ _ _ _ _ _ _ _ aAF (pv 14) (@aK _ _ _ _ _ _ _ _ iN aB (@aK _ _ _ _ _ _ _ _ dE aB aB)) (@bT _ _ (by decide) (by decide)))))) (aI (@aW _ _ (14) _ _ _ _ bV.nd rfl (Or.inl rfl) gG (by rfl) (by trivial))) bM) (aI (@jW _ _ _ _ (@zX _ (K) _ _ _ _ _ rfl (@wQ _ _ _ _ _ _ _ _ _ _ _ _ PySem.F.plainAttrs_list PySem.F.slot_list_append PySem.F.type_list_append lX (pv 6) (aA (@fT _ _ _ _ _ (@aA _ _ _ _ _ (@bD _ _ _ _ _ _ _ (@bP _ (K) rfl) (pv 4) (pv 7) (fun _ _=>rfl)) (@aA _ _ _ _ _ (pv 9) (@aA _ _ _ _ _ (pv 11) (@aA _ _ _ _ _ (pv 12) (@aA _ _ _ _ _ (pv 13) (@aA _ _ _ _ _ (pv 14) aD (by rfl)) (by rfl)) (by rfl)) (by rfl)) (by rfl)) (by rfl))) aD) (by rfl) (by rfl) (by rfl) (by rfl) (by rfl))) (by rfl))))))))))) (by intro _;rfl)) (aI (@aT _ _ _ _ (pv 6))))))),?_⟩
 refine ⟨_,rfl,_,_,rfl,1,scr,rfl,by decide,fun m0 hm0=>?_⟩
 refine ⟨_,_,rfl,rfl,⟨by decide,by decide,by decide⟩,_,_,rfl,rfl,⟨by decide,by decide⟩,_,rfl,_,rfl,fun zs ln H1 NM NX S1 nln hln=>?_⟩
 refine ⟨aV rfl,fun p1 hp1=>?_⟩
 have A1:=aL.upd (o:=.lst [.str "sea"]) hp1
 have B1:=S1.trans A1
 refine ⟨_,rfl,lf,rfl,⟨_,SqL.of (B1 _ _ hlf)⟩,?_⟩
 refine cL (F:=K) (xs:=vf) (by omega) (fun i ys H'=>upd H1 p1 (.lst [.str "sea"]) = H' ∧ ys = ((fs.take i).map aU).map V.str) ⟨rfl,rfl⟩ ?_ ?_ ?_
 ·rintro i ys H' hi' ⟨rfl,rfl⟩
  exact ⟨SqL.of (B1 _ _ hlf),by rw [List.length_map,List.length_map,List.length_take];omega⟩
 ·rintro i xv ys H' K1 K2 hx ⟨rfl,rfl⟩ k1 k2
  have hil:i < vf.length:=(List.getElem?_eq_some_iff.mp hx).1
  obtain ⟨d,ed⟩:∃ d,fs[i]? = some d:=⟨_,List.getElem?_eq_getElem (by omega)⟩
  obtain ⟨v,ev,iv⟩:=iff.get ed
  rw [hx] at ev
  cases ev
  obtain ⟨z,g,e,rfl,_⟩:=bJ (gf.all d (List.mem_of_getElem? ed))
  obtain ⟨t,rfl,o⟩:=mH iv
  refine ⟨_,rfl,t,_,0,.str z,rfl,rfl,SqT.of (B1 _ _ o),aQ (j:=0) rfl,k1 _ _ ⟨rfl,?_⟩⟩
  rw [List.take_add_one,ed]
  simp [aU,cH]
 rintro ys H' ⟨rfl,rfl⟩
 rw [List.take_of_length_le (by omega)]
 intro p2 hp2
 have A2:=aL.upd (o:=.lst ((fs.map aU).map V.str)) hp2
 refine ⟨p1,p2,_,_,rfl,rfl,A2 _ _ aF,aF,by simp only [List.length_map,List.length_cons,List.length_nil];omega,fun ls hls=>?_⟩
 have A3:=aL.upd (o:=.lst ([.str "sea"] ++ (fs.map aU).map V.str)) hls
 have B3:=B1.trans (A2.trans A3)
 have C3:=A1.trans (A2.trans A3)
 have hls3:upd (upd (upd H1 p1 (.lst [.str "sea"])) p2 (.lst ((fs.map aU).map V.str))) ls (.lst ([.str "sea"] ++ (fs.map aU).map V.str)) ls = some (.lst ((("sea":Str) :: fs.map aU).map V.str)):=aF
 have hln3:=C3 _ _ hln
 generalize upd (upd (upd H1 p1 (.lst [.str "sea"])) p2 (.lst ((fs.map aU).map V.str))) ls (.lst ([.str "sea"] ++ (fs.map aU).map V.str)) = H3 at B3 hls3 hln3
 generalize hsd:(("sea":Str) :: fs.map aU) = sd at *
 have lsd:2 ≤ sd.length ∧ sd.length ≤ 13:=by rw [← hsd,List.length_cons,List.length_map];omega
 refine ⟨aV rfl,fun l hl=>?_⟩
 have S4:=aL.upd (o:=.lst []) hl
 have T4:=B3.trans S4
 have nl:H l = none:=B3.free hl
 have hl4:upd H3 l (.lst []) l = some (.lst []):=aF
 have hls4:=S4 _ _ hls3
 have hln4:=S4 _ _ hln3
 have nls:ls ≠ l:=fun z=>by rw [z,hl] at hls3;cases hls3
 have nll:ln ≠ l:=fun z=>by rw [z,hl] at hln3;cases hln3
 generalize upd H3 l (.lst []) = H4 at T4 hl4 hls4 hln4
 have lns:(ns.map V.int).length = ns.length:=List.length_map ..
 refine ⟨_,rfl,_,rfl,a,_,rfl,.inl (T4.seq hS),_,rfl,_,_,rfl,rfl,_,_,rfl,_,_,rfl,?_⟩
 obtain ⟨cnt,hcnt,c1,c2⟩:∃ cnt:Nat,(if (if (((ns.map V.int).length:Nat):Int) - (ia:Int) < (im:Int) then (((ns.map V.int).length:Nat):Int) - (ia:Int) else (im:Int)) > 1 then (if (((ns.map V.int).length:Nat):Int) - (ia:Int) < (im:Int) then (((ns.map V.int).length:Nat):Int) - (ia:Int) else (im:Int)) else 1) = (cnt:Int) ∧ 1 ≤ cnt ∧ cnt ≤ im:=by
  generalize (((ns.map V.int).length:Nat):Int) - (ia:Int) = w
  by_cases h1:w < (im:Int)
  ·rw [if_pos h1]
   by_cases h2:w > 1
   ·rw [if_pos h2]
    exact ⟨w.toNat,by omega,by omega,by omega⟩
   ·rw [if_neg h2]
    exact ⟨1,rfl,by omega,by omega⟩
  ·rw [if_neg h1]
   by_cases h2:(im:Int) > 1
   ·rw [if_pos h2]
    exact ⟨im,rfl,by omega,by omega⟩
   ·rw [if_neg h2]
    exact ⟨1,rfl,by omega,by omega⟩
 refine ⟨(cnt:Int),congrArg (fun x=>[V.int x]) hcnt,by omega,by omega,?_⟩
 rw [Int.toNat_natCast]
 have nz:=NM.l1
 refine kC (lo:=0) (n:=cnt) (fun i σ H'=>∃ (w7 w8 w9 w10 w11 w12 w13 w14:Option V) (vs:List V) (es:List Dv),σ = [some (.ref a),some (.int ia),some (.int im),some (.ref lf),some (.ref ln),some (.ref ls),some (.ref l),w7,w8,w9,w10,w11,w12,w13,w14] ∧ dB l H4 H' ∧ H' l = some (.lst vs) ∧ IsL H' es vs ∧ es.map aU = zs.take i ∧ es.length = i ∧ ∀ d ∈ es,cG sd d = true) ⟨_,_,_,_,_,_,_,_,[],[],rfl,(fun b o e _=>e),hl4,rfl,rfl,rfl,fun d m=>by cases m⟩ ?_ ?_
 ·rintro i σ H' hi ⟨w7,w8,w9,w10,w11,w12,w13,w14,ys,es,rfl,X,hly,iy,en,le,all⟩
  refine aED fun D1 hD1=>?_
  have SH:aL H H':=fun b o e=>X _ _ (T4 _ _ e) (fun z=>by rw [z,nl] at e;cases e)
  have ly:=iy.length
  obtain ⟨z,ez⟩:∃ z,zs[i]? = some z:=⟨_,List.getElem?_eq_getElem (by omega)⟩
  have nmz:=NM.nm z (List.mem_of_getElem? ez)
  have zi:(0:Int) + (i:Int) = (i:Int):=Int.zero_add _
  refine ⟨_,rfl,_,rfl,_,rfl,_,_,rfl,rfl,_,_,rfl,_,scr.same SH,rfl,by show 0 ≤ (ia:Int) + (0 + (i:Int));omega,fun mc hmc=>?_⟩
  have hls5:=X _ _ hls4 nls
  have psd:(0:Int) < (((sd.map V.str).length:Nat):Int):=by rw [List.length_map];omega
  have o0:0 ≤ mc % (((sd.map V.str).length:Nat):Int):=Int.emod_nonneg _ (by omega)
  have o1:mc % (((sd.map V.str).length:Nat):Int) < (((sd.map V.str).length:Nat):Int):=Int.emod_lt_of_pos _ psd
  obtain ⟨k1',hk1⟩:=Int.eq_ofNat_of_zero_le o0
  have lk1:k1' < sd.length:=by rw [hk1,List.length_map] at o1;omega
  obtain ⟨one,eone⟩:∃ z,sd[k1']? = some z:=⟨_,List.getElem?_eq_getElem lk1⟩
  refine ⟨_,rfl,_,rfl,_,rfl,ls,_,rfl,.inl (SqL.of hls5),_,_,rfl,rfl,psd,ls,_,_,.str one,rfl,rfl,SqL.of hls5,by rw [hk1];exact aQ (by rw [List.getElem?_map,eone];rfl),?_⟩
  refine ⟨_,rfl,ls,rfl,⟨_,SqL.of hls5⟩,?_⟩
  refine cL (F:=K) (xs:=sd.map V.str) (by rw [List.length_map];omega) (fun i ys Hx=>H' = Hx ∧ ys = ((sd.take i).filter fun y=>!decide (y = one)).map V.str ∧ ys.length ≤ i) ⟨rfl,rfl,Nat.le_refl _⟩ ?_ ?_ ?_
  ·rintro i ys Hx hi' ⟨rfl,rfl,hy⟩
   exact ⟨SqL.of hls5,hy⟩
  ·rintro i xv ys Hx K1 K2 hx ⟨rfl,rfl,hy⟩ k1 k2
   obtain ⟨y,ey⟩:∃ y,sd[i]? = some y:=by
    have:=(List.getElem?_eq_some_iff.mp hx).1
    rw [List.length_map] at this
    exact ⟨_,List.getElem?_eq_getElem this⟩
   rw [List.getElem?_map,ey] at hx
   cases hx
   refine ⟨_,rfl,_,rfl,rfl,_,rfl,?_⟩
   show if (!decide (V.str y = V.str one)) = true then _ else _
   rw [lJ]
   have et:((sd.take (i + 1)).filter fun y=>!decide (y = one)) = ((sd.take i).filter fun y=>!decide (y = one)) ++ (if (!decide (y = one)) = true then [y] else []):=by
    rw [List.take_add_one,ey,List.filter_append]
    cases hb:(!decide (y = one)) <;> simp_all
   cases hb:(!decide (y = one)) with
   | true =>
    rw [hb] at et
    refine eA ⟨_,rfl,k1 _ _ ⟨rfl,?_,by rw [List.length_append,List.length_singleton];omega⟩⟩
    rw [et,List.map_append]
    rfl
   | false =>
    rw [hb] at et
    refine bX (k2 _ ⟨rfl,?_,by omega⟩)
    rw [et]
    simp
  rintro ys' Hx ⟨rfl,rfl,hy⟩
  rw [List.length_map,List.take_of_length_le (Nat.le_refl _)]
  intro po hpo
  have A5:=aL.upd (o:=.lst ((sd.filter fun y=>!decide (y = one)).map V.str)) hpo
  have hpo5:upd H' po (.lst ((sd.filter fun y=>!decide (y = one)).map V.str)) po = some (.lst ((sd.filter fun y=>!decide (y = one)).map V.str)):=aF
  have lot:=vJ one sd snd
  have pot:(0:Int) < ((((sd.filter fun y=>!decide (y = one)).map V.str).length:Nat):Int):=by rw [List.length_map];omega
  generalize hot:(sd.filter fun y=>!decide (y = one)) = ot at *
  generalize upd H' po (.lst (ot.map V.str)) = H5 at A5 hpo5 ⊢
  have q0:0 ≤ mc / 16 % (((ot.map V.str).length:Nat):Int):=Int.emod_nonneg _ (by omega)
  have q1:mc / 16 % (((ot.map V.str).length:Nat):Int) < (((ot.map V.str).length:Nat):Int):=Int.emod_lt_of_pos _ pot
  obtain ⟨k2',hk2⟩:=Int.eq_ofNat_of_zero_le q0
  have lk2:k2' < ot.length:=by rw [hk2,List.length_map] at q1;omega
  obtain ⟨oth,eoth⟩:∃ z,ot[k2']? = some z:=⟨_,List.getElem?_eq_getElem lk2⟩
  have moth:=List.mem_of_getElem? eoth
  rw [← hot] at moth
  obtain ⟨moth1,moth2⟩:=List.mem_filter.mp moth
  have noth:one ≠ oth:=fun e=>by rw [e] at moth2;simp at moth2
  refine ⟨_,rfl,_,rfl,_,_,rfl,rfl,⟨by decide,by decide⟩,_,rfl,po,_,rfl,.inl (SqL.of hpo5),_,_,rfl,rfl,pot,po,_,_,.str oth,rfl,rfl,SqL.of hpo5,by rw [hk2];exact aQ (by rw [List.getElem?_map,eoth];rfl),?_⟩
  refine ⟨_,rfl,_,_,rfl,rfl,⟨by decide,by decide⟩,_,rfl,_,rfl,fun cr hcr=>?_⟩
  have hcr':=wY hcr
  have p6':(10:Int) ^ (6:Int).toNat = 1000000:=by decide
  have pm6:(0:Int) < 10 ^ (6:Int).toNat + 1:=by decide
  refine ⟨_,rfl,_,_,rfl,rfl,⟨by decide,by decide,by decide⟩,_,_,rfl,rfl,⟨by decide,by decide⟩,_,_,rfl,rfl,(fO rfl),_,_,rfl,rfl,_,rfl,_,_,rfl,rfl,⟨by decide,by decide,by decide⟩,_,_,rfl,rfl,⟨by decide,by decide⟩,_,_,rfl,rfl,⟨by decide,by decide,by decide⟩,_,_,rfl,rfl,_,_,rfl,rfl,pm6,aV rfl,fun p6 hp6=>?_⟩
  have A6:=aL.upd (o:=.lst [.int 0,.int 1,.int (1 + mc / 10 ^ (9:Int).toNat % 4),.int (mc / 10 ^ (9:Int).toNat % (10 ^ (6:Int).toNat + 1))]) hp6
  obtain ⟨rt,ert,hrt⟩:=at4 (a:=0) (b:=1) (c:=1 + mc / 10 ^ (9:Int).toNat % 4) (d:=mc / 10 ^ (9:Int).toNat % (10 ^ (6:Int).toNat + 1)) (i:=mc / 10 ^ (8:Int).toNat % 4) (Int.emod_nonneg _ (by decide)) (Int.emod_lt_of_pos _ (by decide))
  have rt01:0 ≤ rt ∧ rt ≤ 1000000:=by
   have b0:=Int.emod_nonneg (mc / 10 ^ (9:Int).toNat) (show (4:Int) ≠ 0 by decide)
   have b1:=Int.emod_lt_of_pos (mc / 10 ^ (9:Int).toNat) (show (0:Int) < 4 by decide)
   rw [p6'] at hrt
   have c0:=Int.emod_nonneg (mc / 10 ^ (9:Int).toNat) (show (1000000 + 1:Int) ≠ 0 by decide)
   have c1:=Int.emod_lt_of_pos (mc / 10 ^ (9:Int).toNat) (show (0:Int) < 1000000 + 1 by decide)
   rcases hrt with rfl | rfl | rfl | rfl <;> omega
  refine ⟨_,rfl,_,_,rfl,rfl,⟨by decide,by decide,by decide⟩,_,_,rfl,rfl,⟨by decide,by decide⟩,_,_,rfl,rfl,(fO rfl),p6,_,_,.int rt,rfl,rfl,SqL.of aF,ert,?_⟩
  generalize upd H5 p6 (.lst [.int 0,.int 1,.int (1 + mc / 10 ^ (9:Int).toNat % 4),.int (mc / 10 ^ (9:Int).toNat % (10 ^ (6:Int).toNat + 1))]) = H6 at A6 ⊢
  refine ⟨_,rfl,_,_,rfl,rfl,_,_,rfl,rfl,⟨by decide,by decide,by decide⟩,aV rfl,fun p7 hp7=>?_⟩
  have A7:=aL.upd (o:=.lst [.int 0,.int 1,.int 2,.int (10 ^ (5:Int).toNat)]) hp7
  obtain ⟨sx,esx,hsx⟩:=at4 (a:=0) (b:=1) (c:=2) (d:=10 ^ (5:Int).toNat) (i:=mc / 10 ^ (15:Int).toNat % 4) (Int.emod_nonneg _ (by decide)) (Int.emod_lt_of_pos _ (by decide))
  have sx0:0 ≤ sx:=by rcases hsx with rfl | rfl | rfl | rfl <;> decide
  refine ⟨_,rfl,_,_,rfl,rfl,⟨by decide,by decide,by decide⟩,_,_,rfl,rfl,⟨by decide,by decide⟩,_,_,rfl,rfl,(fO rfl),p7,_,_,.int sx,rfl,rfl,SqL.of aF,esx,_,_,rfl,rfl,?_⟩
  generalize upd H6 p7 (.lst [.int 0,.int 1,.int 2,.int (10 ^ (5:Int).toNat)]) = H7 at A7 ⊢
  have A57:=A5.trans (A6.trans A7)
  unfold lG
  dsimp only
  refine xK (fun σ' Hz=>Hz = H7 ∧ ∃ (sv:V) (sl:Dv),σ' = [some (.ref a),some (.int ia),some (.int im),some (.ref lf),some (.ref ln),some (.ref ls),some (.ref l),some (.int (0 + (i:Int))),some (.int mc),some (.str one),some (.ref po),some (.str oth),some (.int cr),some (.int rt),some sv] ∧ (∀ G:Hp,Is G sl sv) ∧ jK (.int cr) sl = true ∧ lF sl = true) (fun σ' Hz hR=>?_) (fun D' hD=>?_)
  rotate_left
  ·refine ⟨_,rfl,_,_,rfl,rfl,⟨by decide,by decide,by decide⟩,_,_,rfl,rfl,⟨by decide,by decide⟩,_,_,rfl,rfl,(fO rfl),rfl,_,rfl,?_⟩
   rw [kE]
   dsimp only
   refine aHZ ?_ (fun none' c1'=>?_)
   ·exact hD _ _ ⟨rfl,.non,.non,rfl,(fun _=>rfl),rfl,rfl⟩
   refine ⟨_,rfl,_,_,rfl,rfl,⟨by decide,by decide,by decide⟩,_,_,rfl,rfl,_,_,rfl,rfl,_,rfl,?_⟩
   refine jA (fun _=>none') (fun h2=>?_)
   have h2':¬ (cr - 1 - sx < 0 - 10 ^ (6:Int).toNat):=fun h=>h2 (decide_eq_true h)
   rw [p6'] at h2'
   refine hD _ _ ⟨rfl,.int (cr - 1 - sx),.int (cr - 1 - sx),rfl,(fun _=>rfl),?_,rfl⟩
   show (hgt _ && decide _) = true
   rw [vQ (by omega) (by omega),decide_eq_true (by omega)]
   rfl
  obtain ⟨rfl,sv,sl,rfl,isv,okS,hrdS⟩:=hR
  have hly7:=A57 _ _ hly
  refine ⟨_,rfl,.inl ⟨rfl,_,SqL.of hly7⟩,?_⟩
  refine ⟨_,rfl,_,rfl,ln,_,_,.str z,rfl,rfl,SqL.of (A57 _ _ (X _ _ hln4 nll)),(by rw [zi];exact aQ (by rw [List.getElem?_map,ez];rfl)),_,rfl,_,rfl,_,rfl,_,rfl,_,rfl,aV rfl,fun t ht=>?_⟩
  have A8:=aL.upd (o:=.tup [.str z,.str one,.str oth,.int cr,.int rt,sv]) ht
  have A58:=A57.trans A8
  refine ⟨l,_,_,rfl,rfl,A58 _ _ hly,by omega,?_⟩
  have ntl:t ≠ l:=fun e=>by rw [e,hly7] at ht;cases ht
  have kp:jS H' (upd (upd Hz t (.tup [.str z,.str one,.str oth,.int cr,.int rt,sv])) l (.lst (ys ++ [.ref t]))):=fun b xs e=>by
   rw [aJ (fun z=>by rw [z,hly] at e;cases e)]
   exact A58 _ _ e
  refine hD1 _ _ ⟨_,_,_,_,_,_,_,_,ys ++ [.ref t],es ++ [.tup [.str z,.str one,.str oth,.int cr,.int rt,sl]],rfl,(X.then A58).put,aF,IsL.snoc ?_ (IsL.keep kp _ _ (lE fun d m=>rJ (all d m)) iy),?_,by rw [List.length_append,le];rfl,?_⟩
  ·exact ⟨t,_,rfl,by rw [aJ ntl,aF],_,_,rfl,rfl,_,_,rfl,rfl,_,_,rfl,rfl,_,_,rfl,rfl,_,_,rfl,rfl,_,_,rfl,isv _,rfl⟩
  ·rw [List.map_append,en,List.take_add_one,ez]
   rfl
  ·intro d md
   rcases List.mem_append.mp md with md | md
   ·exact all d md
   ·rw [List.mem_singleton.mp md]
    exact aDG nmz (List.mem_of_getElem? eone) moth1 noth hcr (aFP rt01.1 rt01.2) okS
 ·rintro σ H' ⟨w7,w8,w9,w10,w11,w12,w13,w14,ys,es,rfl,X,hly,iy,en,le,all⟩
  have SH:aL H H':=fun b o e=>X _ _ (T4 _ _ e) (fun z=>by rw [z,nl] at e;cases e)
  refine ⟨_,rfl,q l ys es H' SH nl hly iy ⟨by omega,by omega,all,?_⟩ fun d m=>?_⟩
  ·rw [en]
   exact NM.nd.sublist (List.take_sublist _ _)
  ·have h:aU d ∈ es.map aU:=List.mem_map.mpr ⟨d,m,rfl⟩
   rw [en] at h
   exact NX _ (List.mem_of_mem_take h)
def aDX:Sp:=sp2 fun x y H Q=>∃ i j:Nat,x = .int i ∧ y = .int j ∧ Q (.int (Nat.gcd i j:Nat)) H
theorem aAV {a b:Nat} (h:b ≠ 0):((a:Int) % (b:Int)) = ((a % b:Nat):Int) ∧ Nat.gcd b (a % b) = Nat.gcd a b ∧ a % b < b :=
 ⟨(Int.natCast_emod a b).symm,by rw [Nat.gcd_comm b,← Nat.gcd_rec,Nat.gcd_comm],Nat.mod_lt _ (by omega)⟩
theorem wR (a b:Int):(!decide (V.int a = V.int b)) = !decide (a = b):=by
 by_cases h:a = b
 ·subst h;simp
 ·rw [decide_eq_false h,decide_eq_false (fun c=>h (by cases c;rfl))]
theorem iZ (T:Txt K mg C):Fc P w K mg base 1 "greatest_divisor" ["one","other"] aDX:=by
 refine T.d_p_greatest_divisor.fc cK kN (fun f cdv A outer s H vs Q E hr h=>?_)
 obtain ⟨x,y,rfl,i,j,rfl,rfl,q⟩:=h
 refine ⟨_,(aG (@zW _ _ _ _ _ _ PassesOwn.never (@cQ _ _ _ _ _ _ _ _ kI (pv 1) aB (@bT _ _ (by decide) (by decide))) (aG (@aW _ _ (2) _ _ _ _ cK.nd rfl (Or.inl rfl) (@aK _ _ _ _ _ _ _ _ bE (pv 0) (pv 1)) (by rfl) (by trivial)) (aG (@aW _ _ (0) _ _ _ _ cK.nd rfl (Or.inl rfl) (pv 1) (by rfl) (by trivial)) (aI (@aW _ _ (1) _ _ _ _ cK.nd rfl (Or.inl rfl) (pv 2) (by rfl) (by trivial)))))) (aI (@aT _ _ _ _ (pv 0)))),?_⟩
 refine yN (fun σ H'=>∃ (a b:Nat) (v:Option V),σ = [some (.int a),some (.int b),v] ∧ H' = H ∧ Nat.gcd a b = Nat.gcd i j) (fun σ _=>match σ with | [_,some (.int b),_]=>b.toNat | _=>0) ⟨i,j,_,rfl,rfl,rfl⟩ ?_ ?_
 ·rintro σ H' ⟨a,b,v,rfl,rfl,e⟩
  refine ⟨_,rfl,rfl,_,rfl,?_⟩
  rw [wR]
  by_cases hb:b = 0
  ·subst hb
   rw [Nat.gcd_zero_right] at e
   refine bX ⟨_,rfl,?_⟩
   rw [e]
   exact q
  ·obtain ⟨e1,e2,e3⟩:=aAV (a:=a) hb
   have hd:(!decide ((b:Int) = 0)) = true:=by
    rw [decide_eq_false (by omega)];rfl
   rw [hd]
   refine eA ⟨_,rfl,_,rfl,_,_,rfl,rfl,(by omega),_,rfl,_,rfl,⟨b,a % b,some (.int ((a:Int) % (b:Int))),?_,rfl,by rw [e2,e]⟩,?_⟩
   ·show [some (V.int b),some (V.int ((a:Int) % (b:Int))),some (V.int ((a:Int) % (b:Int)))] = _
    rw [e1]
   ·show ((a:Int) % (b:Int)).toNat < b
    rw [e1];exact e3
 ·intro σ H Q Q' h hc
  obtain ⟨v,e,hq,k,e2,q⟩:=hc
  exact ⟨v,e,hq,k,e2,h _ _ q⟩
theorem aDM (a:Int):(if a < 0 then -a else a) = ((a.natAbs:Nat):Int):=by split <;> omega
def wL:Sp:=sp2 fun x y H Q=>∃ a:Int,x = .int a ∧ y = .int 1 ∧ ∀ p,H p = none → Q (.ref p) (upd H p (.tup [.int a,.int 1]))
theorem gZ (T:Txt K mg C):Fc P w K mg base 2 "fraction" ["top","bottom"] wL:=by
 have G_p_greatest_divisor:Fc P w K mg base 1 "greatest_divisor" ["one","other"] aDX:=iZ T
 refine T.d_p_fraction.fc kG kN (fun f cdv A outer s H vs Q E hr h=>?_)
 obtain ⟨x,y,rfl,a,rfl,rfl,q⟩:=h
 refine ⟨_,(aG (@aW _ _ (2) _ _ _ _ kG.nd rfl (Or.inl rfl) (@bQ _ _ _ _ _ _ _ _ _ _ G_p_greatest_divisor (hr.mono (by decide)) (aA (@aO _ _ _ _ _ _ _ _ _ aBS rfl T.n_abs yK (aA (pv 0) aD) (by decide) (by decide) (by rfl) (by rfl)) (aA (pv 1) aD)) (by rfl) (by decide) (by rfl) (by rfl)) (by rfl) (by trivial)) (aI (@aT _ _ _ _ (@fT _ _ _ _ _ (aA (@aK _ _ _ _ _ _ _ _ bA (pv 0) (pv 2)) (aA (@aK _ _ _ _ _ _ _ _ bA (pv 1) (pv 2)) aD)))))),?_⟩
 refine ⟨_,rfl,_,rfl,_,rfl,_,_,rfl,a.natAbs,1,by rw [aDM],rfl,?_⟩
 rw [Nat.gcd_one_right]
 refine ⟨_,rfl,_,rfl,_,_,rfl,rfl,⟨by decide,by decide⟩,_,rfl,_,rfl,_,_,rfl,rfl,⟨by decide,by decide⟩,aV rfl,fun p hp=>?_⟩
 have e:upd H p (.tup [.int (a / ((1:Nat):Int)),.int (1 / ((1:Nat):Int))]) = upd H p (.tup [.int a,.int 1]):=by rw [show a / ((1:Nat):Int) = a from Int.ediv_one a];rfl
 show Q (.ref p) (upd H p (.tup [.int (a / ((1:Nat):Int)),.int (1 / ((1:Nat):Int))]))
 rw [e]
 exact q p hp
def aDW:Sp:=sp2 fun x y H Q=>∃ (l m:Addr) (a c:Int),x = .ref l ∧ H l = some (.tup [.int a,.int 1]) ∧ y = .ref m ∧ H m = some (.tup [.int c,.int 1]) ∧ 0 ≤ a ∧ a ≤ 10 ^ 14 ∧ 0 ≤ c ∧ c ≤ 10 ^ 14 ∧ ∀ p,H p = none → Q (.ref p) (upd H p (.tup [.int (a + c),.int 1]))
theorem xR (T:Txt K mg C):Fc P w K mg base 3 "plus" ["one","other"] aDW:=by
 have G_p_fraction:Fc P w K mg base 2 "fraction" ["top","bottom"] wL:=gZ T
 refine T.d_p_plus.fc xM kN (fun f cdv A outer s H vs Q E hr h=>?_)
 obtain ⟨x,y,rfl,l,m,a,c,rfl,el,rfl,em,a0,a1,c0,c1,q⟩:=h
 refine ⟨_,(aI (@aT _ _ _ _ (@bQ _ _ _ _ _ _ _ _ _ _ G_p_fraction (hr.mono (by decide)) (aA (@aK _ _ _ _ _ _ _ _ cV (@aK _ _ _ _ _ _ _ _ lR (@bD _ _ _ _ _ _ _ (@bF _ (K) rfl) (pv 0) aB (fun _ _=>rfl)) (@bD _ _ _ _ _ _ _ (@bF _ (K) rfl) (pv 1) aB (fun _ _=>rfl))) (@aK _ _ _ _ _ _ _ _ lR (@bD _ _ _ _ _ _ _ (@bF _ (K) rfl) (pv 1) aB (fun _ _=>rfl)) (@bD _ _ _ _ _ _ _ (@bF _ (K) rfl) (pv 0) aB (fun _ _=>rfl)))) (aA (@aK _ _ _ _ _ _ _ _ lR (@bD _ _ _ _ _ _ _ (@bF _ (K) rfl) (pv 0) aB (fun _ _=>rfl)) (@bD _ _ _ _ _ _ _ (@bF _ (K) rfl) (pv 1) aB (fun _ _=>rfl))) aD)) (by rfl) (by decide) (by rfl) (by rfl)))),?_⟩
 refine ⟨_,rfl,l,_,0,.int a,rfl,rfl,SqT.of el,aQ (j:=0) rfl,_,rfl,m,_,1,.int 1,rfl,rfl,SqT.of em,aQ (j:=1) rfl,_,_,rfl,rfl,?_⟩
 refine ⟨.inr ⟨by decide,by decide⟩,?_⟩
 refine ⟨_,rfl,m,_,0,.int c,rfl,rfl,SqT.of em,aQ (j:=0) rfl,_,rfl,l,_,1,.int 1,rfl,rfl,SqT.of el,aQ (j:=1) rfl,_,_,rfl,rfl,.inr ⟨by decide,by decide⟩,_,_,rfl,rfl,?_⟩
 refine ⟨_,rfl,l,_,1,.int 1,rfl,rfl,SqT.of el,aQ (j:=1) rfl,_,rfl,m,_,1,.int 1,rfl,rfl,SqT.of em,aQ (j:=1) rfl,_,_,rfl,rfl,.inr ⟨by decide,by decide⟩,?_⟩
 refine ⟨_,_,rfl,a * 1 + c * 1,rfl,rfl,fun p hp=>?_⟩
 rw [Int.mul_one,Int.mul_one]
 exact q p hp
def dR:Dv → Bool
 | .int i=>decide (0 ≤ i) && decide (i ≤ 1000000000000)
 | _=>false
def nH:Sp:=sp1 fun x H Q=>∃ d,Is H d x ∧ Q (.bl (dR d)) H
theorem gK (T:Txt K mg C):Fc P w K mg base 2 "are_coins" ["thing"] nH:=by
 have G_p_is_whole:Fc P w K mg base 1 "is_whole" ["thing"] nG:=gY T
 refine T.d_p_are_coins.fc oJ jJ (fun f cdv A outer s H vs Q E hr h=>?_)
 obtain ⟨x,rfl,d,hd,q⟩:=h
 refine ⟨_,(aI (@aT _ _ _ _ (@cE _ _ _ _ _ _ _ (@bQ _ _ _ _ _ _ _ _ _ _ G_p_is_whole (hr.mono (by decide)) (aA (pv 0) aD) (by rfl) (by decide) (by rfl) (by rfl)) (@dD _ _ _ _ _ (@kZ _ _ _ _ _ _ _ _ _ _ _ _ kJ kJ aB (pv 0) (@qF _ _ _ _ T.g_MOST_COINS (by rfl) (by decide)) (by with_unfolding_all rfl)))))),?_⟩
 refine ⟨_,rfl,_,rfl,d,hd,_,rfl,?_⟩
 cases d with
 | int i =>
  cases (show x = .int i from hd)
  refine eA ?_
  have q:Q (.bl (decide (0 ≤ i) && decide (i ≤ 1000000000000))) H:=q
  refine ⟨_,rfl,_,_,rfl,rfl,_,rfl,?_⟩
  refine jA (fun h1=>?_) (fun h1=>?_)
  ·refine ⟨_,_,rfl,rfl,?_⟩
   rw [decide_eq_true (show 0 ≤ i from of_decide_eq_true h1),Bool.true_and] at q
   exact q
  ·rw [show decide (0 ≤ i) = false from by simpa using h1,Bool.false_and] at q
   exact q
 | _=>exact bX q
def kD:Key → Dv
 | .inl i=>.int i
 | .inr z=>.str z
theorem aGT {H:Hp} (k:Key):Is H (kD k) (kV k):=by
 cases k with
 | inl i=>rfl
 | inr z=>rfl
def lO (zs:List Str) (ks:List Key) (ds:List Dv):Bool:=decide (ks.length = zs.length) && (List.zipWith (fun k d=>dG zs (kD k) && dR d) ks ds).all id
def pA:Dv → Bool
 | .dct _ _=>false
 | _=>true
theorem gσ {i:Nat} {v:V} {σ σ':L2.St} {H:Hp} {Q:L2.St → Hp → Prop} (e:σ.set i (some v) = σ') (h:Q σ' H):lG i v σ H Q:=by
 subst e
 exact h
theorem nxσ {f:L2.St → Hp → Prop} {σ σ':L2.St} {H:Hp} (e:σ = σ') (h:f σ' H):f σ H:=e ▸ h
theorem wA {α β:Type}:∀ {ks:List α} {vs:List β} {i:Nat} {k:α} {v:β},(ks.zip vs)[i]? = some (k,v) → ks[i]? = some k ∧ vs[i]? = some v
 | [],_,_,_,_,h=>by simp at h
 | _ :: _,[],_,_,_,h=>by simp at h
 | a :: ks,b :: vs,0,k,v,h=>by
  simp at h
  simp [h]
 | a :: ks,b :: vs,i + 1,k,v,h=>by
  simp only [List.zip_cons_cons,List.getElem?_cons_succ] at h ⊢
  exact wA h
theorem rF:∀ {ds:List Dv} {d:Dv},iF ds = true → d ∈ ds → lF d = true
 | e :: ds,d,h,m=>by
  have h:=Bool.and_eq_true_iff.mp h
  rcases List.mem_cons.mp m with rfl | m
  ·exact h.1
  ·exact rF h.2 m
theorem aFB (a b:Nat):(!decide ((a:Int) = (b:Int))) = !decide (a = b):=by
 by_cases h:a = b
 ·subst h;simp
 ·rw [decide_eq_false h,decide_eq_false (fun c=>h (by omega))]
theorem aFC (K:PySem.W.Frag) {H:Hp} {d:Dv} {x:V} (h:Is H d x) (n:pA d = true):∃ t,TyOf K H x t ∧ PySem.W.kitOne K t (.type "dict") = some false:=by
 cases d with
 | non=>cases (show x = .non from h);exact ⟨_,.non,rfl⟩
 | bl b=>cases (show x = .bl b from h);exact ⟨_,.bl b,rfl⟩
 | int i=>cases (show x = .int i from h);exact ⟨_,.int i,rfl⟩
 | str z=>cases (show x = .str z from h);exact ⟨_,.str z,rfl⟩
 | lst ds=>obtain ⟨a,vs,rfl,e,_⟩:=h;exact ⟨_,.lst e,rfl⟩
 | tup ds=>obtain ⟨a,vs,rfl,e,_⟩:=h;exact ⟨_,.tup e,rfl⟩
 | dct ks ds=>cases n
def nY (C:Addr):Sp:=sp2 fun x y H Q=>∃ (pl:Addr) (fs gs:List Dv),x = .ref pl ∧ LandAt C H pl fs gs ∧
  ((∃ d,Is H d y ∧ pA d = true ∧ ∀ H',aL H H' → Q (.bl false) H') ∨
   (∃ (a:Addr) (ks:List Key) (vs:List V) (ds:List Dv),y = .ref a ∧ H a = some (.dK (ks.zip vs)) ∧ vs.length = ks.length ∧ IsL H ds vs ∧ iF ds = true ∧ ks.length ≤ 100 ∧
     ∀ H',dB a H H' → (H' a = some (.dK (ks.zip vs)) ∨ ∃ o,H' a = some (.frz o (.dK (ks.zip vs)))) → Q (.bl (lO (fs.map aU) ks ds)) H'))
theorem iX (T:Txt K mg C):Fc P w K mg base 3 "are_purses" ["land","thing"] (nY C):=by
 have G_p_is_one_of:Fc P w K mg base 1 "is_one_of" ["thing","names"] (jT K):=dQ T
 have G_p_are_coins:Fc P w K mg base 2 "are_coins" ["thing"] nH:=gK T
 have G_land_p_field_names:Mc P w K mg base 1 C "field_names" ["self"] (kK C fun fs _=>fs.map aU):=bU T
 refine T.d_p_are_purses.fc iU kN (fun f cdv A outer s H vs Q E hr h=>?_)
 obtain ⟨x,y,rfl,pl,fs,gs,rfl,L,hh⟩:=h
 have big:=cX
 obtain ⟨dxl,e1,e2,hxl,_⟩:=L.ex
 refine ⟨_,(aG (@aW _ _ (2) _ _ _ _ iU.nd rfl (Or.inr rfl) (@jH _ _ _ _ _ _ _ _ _ _ _ T.cl_Land G_land_p_field_names (hr.mono (by decide)) (pv 0) (by rfl)) (by rfl) (by trivial)) (aG (@cN _ _ _ _ _ _ _ _ (@PW.pt _ _ _ (@iA _ _ _ _ _ _ _ (@cD _ _ _ _ (@bW _ _ _ (@aO _ _ _ _ _ _ _ _ _ (@bY _ (K) rfl) rfl T.n_isinstance aM (aA (pv 1) (aA (@gR _ _ _ _ T.n_dict dS (by rfl) (by decide) (by decide)) aD)) (by decide) (by decide) (by rfl) (by rfl)) (by intro _;rfl))) (@fS _ _ _ _ (@cQ _ _ _ _ _ _ _ _ kI (@aO _ _ _ _ _ _ _ _ _ mK rfl T.n_len bS (aA (pv 1) aD) (by decide) (by decide) (by rfl) (by rfl)) (@aO _ _ _ _ _ _ _ _ _ (@bL _ (K) rfl) rfl T.n_len bS (aA (pv 2) aD) (by decide) (by decide) (by rfl) (by rfl)) (@bT _ _ (by decide) (by decide)))))) (aI (@aT _ _ _ _ gS)) bM) (aI (@aT _ _ _ _ (@aO _ _ _ _ _ _ _ _ _ (@lK _ rfl) rfl T.n_all kF (aA (@dZ _ _ _ _ _ _ _ _ _ _ _ ["name","coins","names"] 2 [2] rfl (zY (@sF _ _ _ _ _ _ _ _ _ PySem.F.plainAttrs_dict PySem.F.slot_dict_items PySem.F.type_dict_items tX (pv 1) (by rfl) (by rfl))) (fun R=>@aCI _ _ _ _ _ (2) (K) rfl rfl (@jG _ _ _ _ _ (@bN _ _ (0) _ (show List.Nodup (["name","coins","names"]:List Str) by decide +kernel) rfl (Or.inl rfl) (by trivial)) (@jG _ _ _ _ _ (@bN _ _ (1) _ (show List.Nodup (["name","coins","names"]:List Str) by decide +kernel) rfl (Or.inl rfl) (by trivial)) wP (by rfl)) (by rfl)) (by rfl) (by rfl)) (@xY _ _ _ _ (@mT _ _ _ (by decide) (@mT _ _ _ (by decide) vR))) (fun R=>cT) (fun R=>(@cE _ _ _ _ _ _ _ (@bQ _ _ _ _ _ _ _ _ _ _ G_p_is_one_of (hr.mono (by decide)) (aA (pv 0) (aA (pv 2) aD)) (by rfl) (by decide) (by rfl) (by rfl)) (@dD _ _ _ _ _ (@bQ _ _ _ _ _ _ _ _ _ _ G_p_are_coins (hr.mono (by decide)) (aA (pv 1) aD) (by rfl) (by decide) (by rfl) (by rfl))))) (by rfl) (by rfl) (by rfl) (by rfl) (by rfl) (by rfl) (by rfl) (by intro _;rfl)) aD) (by decide) (by decide) (by rfl) (by rfl)))))),?_⟩
 refine ⟨_,rfl,pl,dxl,_,rfl,hxl,gM _ _ (by decide +kernel) (by decide +kernel),_,rfl,pl,fs,gs,rfl,L,fun ln H1 S1 nln hln=>?_⟩
 have hln:H1 ln = some (.lst ((fs.map aU).map V.str)):=hln
 refine gσ (σ':=[some (.ref pl),some y,some (.ref ln)]) rfl ?_
 rcases hh with ⟨d,hd,nd,q⟩ | ⟨a,ks,vs,ds,rfl,ha,lvs,iv,hv,lk,q⟩
 ·obtain ⟨t,ty,et⟩:=aFC K (Is.same S1 _ _ hd) nd
  exact ⟨_,rfl,_,_,_,_,_,rfl,rfl,ty,et,_,rfl,eA (q _ S1)⟩
 refine ⟨_,rfl,_,_,_,_,_,rfl,rfl,.dK (S1 _ _ ha),fP _ _,_,rfl,bX ?_⟩
 have lz:(ks.zip vs).length = ks.length:=by rw [List.length_zip];omega
 have na:ln ≠ a:=fun z=>by rw [z,ha] at nln;cases nln
 refine ⟨_,rfl,a,_,rfl,S1 _ _ ha,_,rfl,ln,_,rfl,.inl (SqL.of hln),rfl,_,rfl,?_⟩
 rw [lz,List.length_map,List.length_map,wR,aFB]
 have lds:=iv.length
 cases el:decide (ks.length = fs.length) with
 | false =>
  refine eA ?_
  have e0:lO (fs.map aU) ks ds = false:=by unfold lO;rw [List.length_map,el];rfl
  rw [e0] at q
  exact q _ (aL.x S1) (.inl (S1 _ _ ha))
 | true =>
  refine bX ?_
  have el:=of_decide_eq_true el
  refine ⟨_,rfl,.inr (.inr (.inl ⟨rfl,.inl ⟨_,S1 _ _ ha⟩⟩)),a,_,rfl,rfl,.inl (S1 _ _ ha),fun v hv'=>?_⟩
  have A1:=aL.upd (o:=fV v a) hv'
  refine ⟨v,a,_,rfl,aF,A1 _ _ (S1 _ _ ha),fun o=>?_⟩
  have X2:dB a H (upd (upd H1 v (fV v a)) a (.frz o (.dK (ks.zip vs)))):=(aL.x (S1.trans A1)).put
  have ln2:upd (upd H1 v (fV v a)) a (.frz o (.dK (ks.zip vs))) ln = some (.lst ((fs.map aU).map V.str)):=by rw [aJ na];exact A1 _ _ hln
  have a2:upd (upd H1 v (fV v a)) a (.frz o (.dK (ks.zip vs))) a = some (.frz o (.dK (ks.zip vs))):=aF
  generalize upd (upd H1 v (fV v a)) a (.frz o (.dK (ks.zip vs))) = H2 at X2 ln2 a2 ⊢
  refine vW (by omega) (fun i ys H'=>aL H2 H' ∧ ys = ((List.zipWith (fun k d=>dG (fs.map aU) (kD k) && dR d) ks ds).take i).map V.bl) ⟨aL.refl _,rfl⟩ ?_ ?_ ?_
  ·rintro i ys H' hi' ⟨S,rfl⟩
   exact ⟨S _ _ a2,by rw [List.length_map,List.length_take];omega⟩
  ·rintro i ⟨k,u⟩ ys H' p K1 K2 hx ⟨S,rfl⟩ hp k1 k2
   obtain ⟨ek,eu⟩:=wA hx
   obtain ⟨d,ed⟩:∃ d,ds[i]? = some d:=by
    have:=(List.getElem?_eq_some_iff.mp eu).1
    exact ⟨_,List.getElem?_eq_getElem (by omega)⟩
   obtain ⟨u',eu',iu⟩:=iv.get ed
   rw [eu] at eu'
   cases eu'
   have A3:=aL.upd (o:=.tup [kV k,u]) hp
   have kt:jS H (upd H' p (.tup [kV k,u])):=fun b xs e=>A3 _ _ (S _ _ (X2 _ _ e fun z=>by rw [z,ha] at e;cases e))
   have iu':=Is.keep kt _ _ (rF hv (List.mem_of_getElem? ed)) iu
   have ez:(List.zipWith (fun k d=>dG (fs.map aU) (kD k) && dR d) ks ds)[i]? = some (dG (fs.map aU) (kD k) && dR d):=by rw [List.getElem?_zipWith,ek,ed]
   have fin:∀ b,(dG (fs.map aU) (kD k) && dR d) = b → ((List.zipWith (fun k d=>dG (fs.map aU) (kD k) && dR d) ks ds).take i).map V.bl ++ [V.bl b] = ((List.zipWith (fun k d=>dG (fs.map aU) (kD k) && dR d) ks ds).take (i + 1)).map V.bl:=fun b e=>by rw [List.take_add_one,ez,List.map_append,e];rfl
   refine ⟨p,_,rfl,SqT.of aF,rfl,_,_,rfl,_,_,rfl,rfl,?_⟩
   refine ⟨_,rfl,_,rfl,_,_,rfl,kD k,ln,_,aGT k,rfl,SqL.of (A3 _ _ (S _ _ ln2)),_,rfl,?_⟩
   cases e1:dG (fs.map aU) (kD k) with
   | false =>
    refine bX (k1 _ _ ⟨S.trans A3,fin _ ?_⟩)
    rw [e1]
    rfl
   | true =>
    refine eA ⟨_,rfl,_,rfl,d,iu',k1 _ _ ⟨S.trans A3,fin _ ?_⟩⟩
    rw [e1]
    rfl
  ·rintro ys H' ⟨S,rfl⟩
   rw [List.take_of_length_le (by rw [List.length_zipWith,lz];omega)]
   intro p4 hp4
   have A4:=aL.upd (o:=.lst ((List.zipWith (fun k d=>dG (fs.map aU) (kD k) && dR d) ks ds).map V.bl)) hp4
   refine ⟨p4,_,rfl,SqL.of aF,?_⟩
   have e0:lO (fs.map aU) ks ds = (List.zipWith (fun k d=>dG (fs.map aU) (kD k) && dR d) ks ds).all id:=by
    unfold lO
    rw [List.length_map,decide_eq_true el,Bool.true_and]
   rw [e0] at q
   exact q _ (X2.then (S.trans A4)) (.inr ⟨o,A4 _ _ (S _ _ a2)⟩)
def aX (zs:List Str) (cnt:Str → Int):List (Key × V):=zs.map fun z=>(Sum.inr z,V.int (cnt z))
theorem iI {c:Str → Int}:∀ {zs:List Str} {g:Str},g ∈ zs → gQ (aX zs c) (Sum.inr g) = some (.int (c g))
 | [],_,m=>by cases m
 | z :: zs,g,m=>by
  unfold gQ aX
  by_cases e:z = g
  ·subst e
   simp
  ·have m':g ∈ zs:=by
    rcases List.mem_cons.mp m with h | h
    ·exact absurd h.symm e
    ·exact h
   have:=iI (c:=c) (zs:=zs) m'
   unfold gQ aX at this
   rw [List.map_cons,List.find?_cons_of_neg (by simp [e])]
   exact this
def del (p:Addr) (H:Hp):Hp:=fun b=>if b = p then none else H b
theorem uJ {p:Addr} {H:Hp}:aL (del p H) H:=fun b o e=>by
 unfold del at e
 split at e
 ·cases e
 ·exact e
theorem gU {p b:Addr} {H:Hp} {o:HO} (e:H b = some o) (n:b ≠ p):del p H b = some o:=by
 unfold del
 rw [if_neg n]
 exact e
theorem aBL {p:Addr} {H:Hp}:del p H p = none:=by unfold del;rw [if_pos rfl]
def aFD:List Str:=["land_now","purse_of","works_done"]
structure MootF (F:List (Str × V)) (pl dp lw:Addr):Prop where
 f1:F.lookup ("land_now":Str) = some (.ref pl)
 f2:F.lookup ("purse_of":Str) = some (.ref dp)
 f3:F.lookup ("works_done":Str) = some (.ref lw)
 no:∀ m:Str,¬ m ∈ aFD → F.lookup m = none
def frD (held:Str → Int) (z:Str):Dv:=.tup [.int (held z),.int 1]
def fC (H:Hp) (kvs:List (Key × V)) (zs:List Str) (held:Str → Int):Prop:=kvs.map (·.1) = zs.map (Sum.inr:Str → Key) ∧ IsL H (zs.map (frD held)) (kvs.map (·.2))
theorem Rd.same' {H H':Hp} {a:Addr} {u:HO} (S:aL H H') (h:Rd H a u):Rd H' a u:=by
 rcases h with h | ⟨o,h⟩
 ·exact .inl (S _ _ h)
 ·exact .inr ⟨o,S _ _ h⟩
theorem fC.len {H:Hp} {kvs:List (Key × V)} {zs:List Str} {held:Str → Int} (h:fC H kvs zs held):kvs.length = zs.length:=by
 have:=congrArg List.length h.1
 rw [List.length_map,List.length_map] at this
 exact this
theorem fC.same {H H':Hp} {kvs:List (Key × V)} {zs:List Str} {held:Str → Int} (S:aL H H') (h:fC H kvs zs held):fC H' kvs zs held:=⟨h.1,IsL.same S _ _ h.2⟩
theorem uF (held:Str → Int):∀ zs:List Str,iF (zs.map (frD held)) = true
 | []=>rfl
 | z :: zs=>uF held zs
theorem fC.keep {H H':Hp} {kvs:List (Key × V)} {zs:List Str} {held:Str → Int} (S:jS H H') (h:fC H kvs zs held):fC H' kvs zs held:=⟨h.1,IsL.keep S _ _ (uF _ _) h.2⟩
theorem aAY {H:Hp} {t:Addr} {i:Int} (h:H t = some (.tup [.int i,.int 1])):Is H (.tup [.int i,.int 1]) (.ref t):=⟨t,_,rfl,h,_,_,rfl,rfl,_,_,rfl,rfl,rfl⟩
theorem fC.snoc {H:Hp} {kvs:List (Key × V)} {zs:List Str} {held:Str → Int} {z:Str} {t:Addr} (h:fC H kvs zs held) (e:H t = some (.tup [.int (held z),.int 1])):fC H (kvs ++ [(Sum.inr z,.ref t)]) (zs ++ [z]) held:=by
 refine ⟨?_,?_⟩
 ·rw [List.map_append,List.map_append,h.1]
  rfl
 ·rw [List.map_append,List.map_append]
  exact IsL.snoc (aAY e) h.2
structure MootAt (CM C:Addr) (H:Hp) (p dp lw pl:Addr) (fs gs:List Dv) (held:Str → Int):Prop where
 ex:∃ dx F kvs,H p = some (.ins CM dx F) ∧ MootF F pl dp lw ∧ H dp = some (.dK kvs) ∧ fC H kvs (fs.map aU) held ∧ H lw = some (.lst [])
 land:∃ H0,aL H0 H ∧ H0 dp = none ∧ LandAt C H0 pl fs gs
theorem MootAt.same {CM C:Addr} {H H':Hp} {p dp lw pl:Addr} {fs gs:List Dv} {held:Str → Int} (S:aL H H') (M:MootAt CM C H p dp lw pl fs gs held):MootAt CM C H' p dp lw pl fs gs held:=by
 obtain ⟨⟨dx,F,kvs,h1,h2,h3,⟨h4,h5⟩,h6⟩,H0,s,n,L⟩:=M
 exact ⟨⟨dx,F,kvs,S _ _ h1,h2,S _ _ h3,⟨h4,IsL.same S _ _ h5⟩,S _ _ h6⟩,H0,s.trans S,n,L⟩
theorem MootAt.lnd {CM C:Addr} {H:Hp} {p dp lw pl:Addr} {fs gs:List Dv} {held:Str → Int} (M:MootAt CM C H p dp lw pl fs gs held):LandAt C H pl fs gs:=by
 obtain ⟨_,H0,s,_,L⟩:=M
 exact L.same s
theorem MootAt.put {CM C:Addr} {H H':Hp} {p dp lw pl:Addr} {fs gs:List Dv} {held held':Str → Int} {kvs':List (Key × V)} (M:MootAt CM C H p dp lw pl fs gs held) (X:dB dp H H') (e:H' dp = some (.dK kvs')) (f:fC H' kvs' (fs.map aU) held'):MootAt CM C H' p dp lw pl fs gs held':=by
 obtain ⟨⟨dx,F,kvs,h1,h2,h3,⟨h4,h5⟩,h6⟩,H0,s,n,L⟩:=M
 refine ⟨⟨dx,F,kvs',X _ _ h1 (fun z=>by rw [z,h3] at h1;cases h1),h2,e,f,X _ _ h6 (fun z=>by rw [z,h3] at h6;cases h6)⟩,H0,fun b o eb=>X _ _ (s _ _ eb) (fun z=>by rw [z,n] at eb;cases eb),n,L⟩
def mF1 (pl:Addr):List (Str × V):=eR "land_now" (.ref pl) []
def mF2 (pl dp:Addr):List (Str × V):=eR "purse_of" (.ref dp) (mF1 pl)
def mF3 (pl dp lw:Addr):List (Str × V):=eR "works_done" (.ref lw) (mF2 pl dp)
theorem vF (pl dp lw:Addr):MootF (mF3 pl dp lw) pl dp lw:=by
 unfold mF3 mF2 mF1
 have q:∀ (m f:Str) (v:V) (F:List (Str × V)),¬ m = f → (eR f v F).lookup m = F.lookup m:=fun m f v F h=>by rw [cM,if_neg h]
 have r:∀ (f:Str) (v:V) (F:List (Str × V)),(eR f v F).lookup f = some v:=fun f v F=>by rw [cM,if_pos rfl]
 refine ⟨?_,?_,?_,fun m hm=>?_⟩
 ·rw [q _ _ _ _ (by decide +kernel),q _ _ _ _ (by decide +kernel),r]
 ·rw [q _ _ _ _ (by decide +kernel),r]
 ·rw [r]
 ·unfold aFD at hm
  simp only [List.mem_cons,List.not_mem_nil,or_false,not_or] at hm
  obtain ⟨m1,m2,m3⟩:=hm
  rw [q _ _ _ _ m3,q _ _ _ _ m2,q _ _ _ _ m1]
  rfl
theorem nJ (f:Str) (v:V):∀ F:List (Str × V),(eR f v F).length ≤ F.length + 1
 | []=>Nat.le_refl _
 | (g,x) :: F=>by
  have ih:=nJ f v F
  unfold eR
  by_cases e:g = f
  ·subst e
   simp
  ·simp [e]
   exact ih
theorem aFE (pl dp lw:Addr):(mF1 pl).length ≤ 1 ∧ (mF2 pl dp).length ≤ 2 ∧ (mF3 pl dp lw).length ≤ 3:=by
 have h1:(mF1 pl).length ≤ 1:=nJ "land_now" (.ref pl) []
 have h2:=nJ "purse_of" (.ref dp) (mF1 pl)
 have h3:=nJ "works_done" (.ref lw) (mF2 pl dp)
 unfold mF3 mF2 at *
 omega
def sK (zs zs':List Str) (held:Str → Int):Prop:=zs'.length = zs.length ∧ (∀ z ∈ zs',z ∈ zs) ∧ (∀ z ∈ zs,z ∈ zs') ∧ ∀ z ∈ zs',0 ≤ held z ∧ held z ≤ 1000000000000
theorem sK.pur {zs zs':List Str} {held:Str → Int} (h:sK zs zs' held):lO zs (zs'.map Sum.inr) (zs'.map fun z=>Dv.int (held z)) = true:=by
 unfold lO
 rw [List.length_map,decide_eq_true h.1,Bool.true_and,List.all_eq_true]
 intro b m
 rw [List.zipWith_map,List.zipWith_self] at m
 obtain ⟨z,mz,rfl⟩:=List.mem_map.mp m
 obtain ⟨h1,h2⟩:=h.2.2.2 z mz
 show (decide (z ∈ zs) && (decide (0 ≤ held z) && decide (held z ≤ 1000000000000))) = true
 rw [decide_eq_true (h.2.1 z mz),decide_eq_true h1,decide_eq_true h2]
 rfl
theorem pJ {H:Hp} (f:Str → Int):∀ zs:List Str,IsL H (zs.map fun z=>Dv.int (f z)) (zs.map fun z=>V.int (f z))
 | []=>rfl
 | z :: zs=>⟨_,_,rfl,rfl,pJ f zs⟩
theorem mC (f:Str → Int):∀ zs:List Str,iF (zs.map fun z=>Dv.int (f z)) = true
 | []=>rfl
 | z :: zs=>mC f zs
def wI (CM C:Addr):Sp:=sp3 fun x y z H Q=>∃ (p dx pl a:Addr) (fs gs:List Dv) (zs:List Str) (held:Str → Int) (H0:Hp),x = .ref p ∧ H p = some (.ins CM dx []) ∧ y = .ref pl ∧ aL H0 H ∧ H0 p = none ∧ H0 a = none ∧ LandAt C H0 pl fs gs ∧ z = .ref a ∧ H a = some (.dK (aX zs held)) ∧ sK (fs.map aU) zs held ∧
 ∀ (dp lw:Addr) (Hm H':Hp),MootAt CM C Hm p dp lw pl fs gs held → aL Hm H' → Hm a = none → H dp = none → H lw = none → (∀ b o,H b = some o → b ≠ p → b ≠ a → H' b = some o) → Rd H' a (.dK (aX zs held)) → Q .non H'
theorem qH (T:Txt K mg C) {CM:Addr} (hCM:mg "Moot" = some (.ref CM)):Ic P w K mg base 4 CM ["self","land","purses"] (wI CM C):=by
 obtain ⟨C_Moot,cl_Moot,mg_Moot,na_land_now,na_purse_of,na_works_done,i_Moot,m_moot_p_move,m_moot_p_put,m_moot_p_land,m_moot_p_purses,m_moot_p_done⟩:=T.k_Moot
 rw [hCM] at mg_Moot
 cases mg_Moot
 have G_p_are_purses:Fc P w K mg base 3 "are_purses" ["land","thing"] (nY C):=iX T
 have G_p_fraction:Fc P w K mg base 2 "fraction" ["top","bottom"] wL:=gZ T
 have G_land_p_field_names:Mc P w K mg base 1 C "field_names" ["self"] (kK C fun fs _=>fs.map aU):=bU T
 refine i_Moot.ic kH aAJ (fun f cdv A outer s H vs Q E hr h=>?_)
 obtain ⟨x,y,z,rfl,p,dx,pl,a,fs,gs,zs,held,H0,rfl,hp,rfl,S0,n0p,n0a,L,rfl,ha,ok,q⟩:=h
 have big:=cX
 have gf:=(iD L).1
 have f2:=gf.l2
 have hu:=pK hr
 have lcn:(aX zs held).length = zs.length:=by unfold aX;rw [List.length_map]
 have ecn:aX zs held = (zs.map (Sum.inr:Str → Key)).zip (zs.map fun z=>V.int (held z)):=by
  unfold aX
  rw [List.zip_map,List.zip_eq_zipWith,List.zipWith_self,List.map_map]
  rfl
 have lzs:zs.length ≤ 12:=by have:=ok.1;rw [List.length_map] at this;omega
 have npa:p ≠ a:=fun z=>by rw [z,ha] at hp;cases hp
 refine ⟨_,(aG (@cN _ _ _ _ _ _ _ _ (@cD _ _ _ _ (@bW _ _ _ (@bQ _ _ _ _ _ _ _ _ _ _ G_p_are_purses (hr.mono (by decide)) (aA (pv 1) (aA (pv 2) aD)) (by rfl) (by decide) (by rfl) (by rfl)) (by intro _;rfl))) (aI jE) bM) (aG (@oO _ _ _ _ _ _ _ _ (pv 0) (pv 1) rfl) (aG (@oO _ _ _ _ _ _ _ _ (pv 0) (@bB _ _ _ _ _ _ _ _ _ (@fU _ rfl) rfl T.n_dict dS (aA (@dZ _ _ _ _ _ _ _ _ _ _ _ ["name","purses"] 1 [2] rfl (@dX _ (K) _ _ _ rfl (@dY _ _ _ _ (@jH _ _ _ _ _ _ _ _ _ _ _ T.cl_Land G_land_p_field_names (hr.mono (by decide)) (pv 1) (by rfl)))) (fun R=>@bN _ _ (0) _ (show List.Nodup (["name","purses"]:List Str) by decide +kernel) rfl (Or.inl rfl) (by trivial)) (@bR _ _ (by decide)) (fun R=>cT) (fun R=>(@fT _ _ _ _ _ (aA (pv 0) (aA (@bQ _ _ _ _ _ _ _ _ _ _ G_p_fraction (hr.mono (by decide)) (aA (@jX _ _ _ _ _ _ hu (pv 1) (pv 0) (fun _ _=>rfl)) (aA aB aD)) (by rfl) (by decide) (by rfl) (by rfl)) aD)))) (by rfl) (by rfl) (by rfl) (by rfl) (by rfl) (by rfl) (by rfl) (by intro _;rfl)) aD) (by decide) (by decide) (by rfl) (by rfl)) rfl) (aI (@oO _ _ _ _ _ _ _ _ (pv 0) (@cJ _ _ _ _ aD) rfl))))),?_⟩
 refine ⟨_,rfl,_,rfl,_,_,rfl,pl,fs,gs,rfl,L.same S0,.inr ⟨a,zs.map Sum.inr,zs.map fun z=>V.int (held z),zs.map fun z=>Dv.int (held z),rfl,by rw [← ecn];exact ha,by rw [List.length_map,List.length_map],pJ _ _,mC _ _,by rw [List.length_map];omega,fun H1 X1 h1=>?_⟩⟩
 rw [ok.pur,← ecn] at *
 refine ⟨_,rfl,bX ?_⟩
 refine ⟨_,rfl,_,rfl,p,CM,dx,[],rfl,X1 _ _ hp npa,cl_Moot,na_land_now,by decide,?_⟩
 have X2:∀ b o,H b = some o → b ≠ p → b ≠ a → upd H1 p (.ins CM dx (mF1 pl)) b = some o:=fun b o e n1 n2=>by rw [aJ n1];exact X1 _ _ e n2
 have hp2:upd H1 p (.ins CM dx (mF1 pl)) p = some (.ins CM dx (mF1 pl)):=aF
 have ha2:Rd (upd H1 p (.ins CM dx (mF1 pl))) a (.dK (aX zs held)):=by unfold Rd;rw [aJ npa.symm];exact h1
 change fY _ _ _ _ (upd H1 p (.ins CM dx (mF1 pl)))
 generalize upd H1 p (.ins CM dx (mF1 pl)) = H2 at X2 hp2 ha2
 have S02:aL H0 H2:=fun b o e=>X2 _ _ (S0 _ _ e) (aH e n0p) (aH e n0a)
 have L2':=L.same S02
 obtain ⟨dxl,e1,e2,hxl,_⟩:=L2'.ex
 refine ⟨_,rfl,pl,dxl,_,rfl,hxl,gM _ _ (by decide +kernel) (by decide +kernel),_,rfl,pl,fs,gs,rfl,L2',fun ln H3 S3 nln hln=>?_⟩
 have hln:H3 ln = some (.lst ((fs.map aU).map V.str)):=hln
 refine ⟨ln,rfl,⟨_,SqL.of hln⟩,?_⟩
 refine cL (F:=K) (xs:=(fs.map aU).map V.str) (by rw [List.length_map,List.length_map];omega) (fun i ys H'=>aL H3 H' ∧ ∃ kvs,cI H' ys kvs ∧ fC H' kvs ((fs.map aU).take i) held) ⟨aL.refl _,[],cI.nil _,rfl,rfl⟩ ?_ ?_ ?_
 ·rintro i ys H' hi' ⟨S,kvs,pr,fr⟩
  have:=fr.len
  rw [List.length_take] at this
  exact ⟨SqL.of (S _ _ hln),by have:=pr.len;omega⟩
 ·rintro i xv ys H' K1 K2 hxi ⟨S,kvs,pr,fr⟩ k1 k2
  obtain ⟨z,ez⟩:∃ z,(fs.map aU)[i]? = some z:=by
   have:=(List.getElem?_eq_some_iff.mp hxi).1
   rw [List.length_map] at this
   exact ⟨_,List.getElem?_eq_getElem this⟩
  rw [List.getElem?_map,ez] at hxi
  cases hxi
  have mz:z ∈ zs:=ok.2.2.1 z (List.mem_of_getElem? ez)
  refine ⟨_,rfl,_,rfl,_,rfl,a,_,rfl,?_,_,_,rfl,held z,rfl,rfl,fun t1 ht1=>?_⟩
  ·rw [← iI mz]
   exact .inl ⟨_,Sum.inr z,Rd.same' (S3.trans S) ha2,rfl,rfl⟩
  have A1:=aL.upd (o:=.tup [.int (held z),.int 1]) ht1
  refine ⟨aV rfl,fun t ht=>k1 _ _ ⟨S.trans (A1.trans (aL.upd ht)),kvs ++ [(Sum.inr z,.ref t1)],?_,?_⟩⟩
  ·exact (pr.same A1).snoc (k:=Sum.inr z) ht
  ·rw [List.take_add_one,ez]
   exact (fr.same (A1.trans (aL.upd ht))).snoc (aL.upd ht _ _ aF)
 rintro ys H4 ⟨S4,kvs,pr,fr⟩
 rw [List.take_of_length_le (by rw [List.length_map,List.length_map,List.length_map];exact Nat.le_refl _)] at fr
 have lkv:=fr.len
 rw [List.length_map] at lkv
 intro p4 hp4'
 have S5:=aL.upd (o:=.lst ys) hp4'
 refine ⟨p4,ys,kvs,rfl,SqL.of aF,pr.same S5,by omega,?_,fun dp hdp=>?_⟩
 ·rw [fr.1,lW]
  exact gf.nd
 have S6:=aL.upd (o:=.dK kvs) hdp
 have T6:=S3.trans (S4.trans (S5.trans S6))
 have fr6:=fr.same (S5.trans S6)
 have hdp6:upd (upd H4 p4 (.lst ys)) dp (.dK kvs) dp = some (.dK kvs):=aF
 have ndp2:H2 dp = none:=(S3.trans (S4.trans S5)).free hdp
 have hp6:=T6 _ _ hp2
 have ha6:=Rd.same' T6 ha2
 generalize upd (upd H4 p4 (.lst ys)) dp (.dK kvs) = H6 at T6 fr6 hdp6 hp6 ha6
 have ml:=aFE pl dp dp
 refine ⟨_,rfl,p,CM,dx,mF1 pl,rfl,hp6,cl_Moot,na_purse_of,by omega,?_⟩
 have ndpp:dp ≠ p:=fun z=>by rw [z,hp6] at hdp6;cases hdp6
 have X7:dB p H6 (upd H6 p (.ins CM dx (mF2 pl dp))):=(aL.x (aL.refl H6)).put
 have hp7:upd H6 p (.ins CM dx (mF2 pl dp)) p = some (.ins CM dx (mF2 pl dp)):=aF
 change Ends.nx _ _ (upd H6 p (.ins CM dx (mF2 pl dp)))
 generalize upd H6 p (.ins CM dx (mF2 pl dp)) = H7 at X7 hp7
 refine ⟨aV rfl,fun lw hlw=>?_⟩
 have S8:=aL.upd (o:=.lst []) hlw
 refine ⟨_,rfl,p,CM,dx,mF2 pl dp,rfl,S8 _ _ hp7,cl_Moot,na_works_done,by omega,?_⟩
 have nlwp:lw ≠ p:=fun z=>by rw [z,hp7] at hlw;cases hlw
 have X9:dB p H6 (upd (upd H7 lw (.lst [])) p (.ins CM dx (mF3 pl dp lw))):=(X7.then S8).put
 have hp9:upd (upd H7 lw (.lst [])) p (.ins CM dx (mF3 pl dp lw)) p = some (.ins CM dx (mF3 pl dp lw)):=aF
 have hlw9:upd (upd H7 lw (.lst [])) p (.ins CM dx (mF3 pl dp lw)) lw = some (.lst []):=by rw [aJ nlwp,aF]
 show Q .non (upd (upd H7 lw (.lst [])) p (.ins CM dx (mF3 pl dp lw)))
 generalize upd (upd H7 lw (.lst [])) p (.ins CM dx (mF3 pl dp lw)) = H9 at X9 hp9 hlw9 ⊢
 have nlw6:H6 lw = none:=by
  cases e:H6 lw with
  | none=>rfl
  | some o =>
   have:=X7 _ _ e nlwp
   rw [hlw] at this
   cases this
 have ndpa:dp ≠ a:=fun z=>by
  rw [z] at ndp2
  rcases ha2 with h | ⟨o,h⟩ <;> rw [ndp2] at h <;> cases h
 have nlwa:lw ≠ a:=fun z=>by
  rw [z] at nlw6
  rcases ha6 with h | ⟨o,h⟩ <;> rw [nlw6] at h <;> cases h
 have XF:∀ b o,H b = some o → b ≠ p → b ≠ a → H9 b = some o:=fun b o e n1 n2=>X9 _ _ (T6 _ _ (X2 _ _ e n1 n2)) n1
 have fre:∀ b,b ≠ p → b ≠ a → H2 b = none → H b = none:=fun b n1 n2 h=>by
  cases e:H b with
  | none=>rfl
  | some o =>
   have:=X2 _ _ e n1 n2
   rw [h] at this
   cases this
 have nlw2:H2 lw = none:=by
  cases e:H2 lw with
  | none=>rfl
  | some o =>
   have:=T6 _ _ e
   rw [nlw6] at this
   cases this
 have kt:jS H6 (del a H9):=fun b xs e=>by
  have n1:b ≠ p:=fun z=>by rw [z,hp6] at e;cases e
  have n2:b ≠ a:=fun z=>by
   rw [z] at e
   rcases ha6 with h | ⟨o,h⟩ <;> rw [e] at h <;> cases h
  exact gU (X9 _ _ e n1) n2
 have ndpH:=fre dp ndpp ndpa ndp2
 refine q dp lw (del a H9) H9 ⟨⟨dx,mF3 pl dp lw,kvs,gU hp9 npa,vF _ _ _,gU (X9 _ _ hdp6 ndpp) ndpa,fr6.keep kt,gU hlw9 nlwa⟩,H0,fun b o e=>gU (XF _ _ (S0 _ _ e) (aH e n0p) (aH e n0a)) (aH e n0a),S0.free ndpH,L⟩ uJ aBL ndpH (fre lw nlwp nlwa nlw2) XF ?_
 unfold Rd
 rcases ha6 with h | ⟨o,h⟩
 ·exact .inl (X9 _ _ h npa.symm)
 ·exact .inr ⟨o,X9 _ _ h npa.symm⟩
def tG (mg:Str → Option Value) (CM C:Addr):Sp:=fun vs H Q E=>∃ (x y z:V) (p dx pl:Addr) (fs gs:List Dv) (c:Addr),vs = [x,y,z] ∧ x = .ref p ∧ H p = some (.ins CM dx []) ∧ y = .ref pl ∧ LandAt C H pl fs gs ∧ mg "NoPurse" = some (.ref c) ∧
  ((∃ d,Is H d z ∧ pA d = true ∧ ∀ H',aL H H' → E (.ref c) none H') ∨
   (∃ (a:Addr) (ks:List Key) (vs:List V) (ds:List Dv),z = .ref a ∧ H a = some (.dK (ks.zip vs)) ∧ vs.length = ks.length ∧ IsL H ds vs ∧ iF ds = true ∧ ks.length ≤ 100 ∧ lO (fs.map aU) ks ds = false ∧
     ∀ H',dB a H H' → E (.ref c) none H'))
theorem oU (T:Txt K mg C) {CM:Addr} (hCM:mg "Moot" = some (.ref CM)):IcX P w K mg base 4 CM ["self","land","purses"] (tG mg CM C):=by
 obtain ⟨c_NoPurse,c_NoVoice,c_DykeError,c_Short,ex_NoPurse,ex_NoVoice,hm_NoPurse,hm_NoVoice,hm_DykeError,hm_Short,kx_NoPurse_DykeError,kx_NoPurse_NoPurse,kx_NoPurse_ValueError,kx_NoPurse_NoVoice,kx_NoPurse_Short,kx_NoVoice_DykeError,kx_NoVoice_NoPurse,kx_NoVoice_ValueError,kx_NoVoice_NoVoice,kx_NoVoice_Short,xc_NoPurse_DykeError,xc_NoVoice_DykeError⟩:=T.xs
 obtain ⟨C_Moot,cl_Moot,mg_Moot,na_land_now,na_purse_of,na_works_done,i_Moot,m_moot_p_move,m_moot_p_put,m_moot_p_land,m_moot_p_purses,m_moot_p_done⟩:=T.k_Moot
 rw [hCM] at mg_Moot
 cases mg_Moot
 have G_p_are_purses:Fc P w K mg base 3 "are_purses" ["land","thing"] (nY C):=iX T
 refine i_Moot.icX kH (fun vs H Q E h=>?_) (fun f cdv A outer s H vs Q E hr h=>?_)
 ·obtain ⟨x,y,z,p,dx,pl,fs,gs,c,rfl,_⟩:=h
  rfl
 obtain ⟨x,y,z,p,dx,pl,fs,gs,c,rfl,rfl,hp,rfl,L,hc,hh⟩:=h
 rw [hm_NoPurse] at hc
 cases hc
 refine ⟨_,(aG (@cN _ _ _ _ _ _ _ _ (@cD _ _ _ _ (@bW _ _ _ (@bQ _ _ _ _ _ _ _ _ _ _ G_p_are_purses (hr.mono (by decide)) (aA (pv 1) (aA (pv 2) aD)) (by rfl) (by decide) (by rfl) (by rfl)) (by intro _;rfl))) (aI (@kW _ _ _ _ _ _ _ _ _ _ hm_NoPurse ex_NoPurse.ex rfl jV (aA bI aD) (by rfl) (by decide) (by rfl) (by rfl))) bM) lP),?_⟩
 refine ⟨_,rfl,_,rfl,_,_,rfl,pl,fs,gs,rfl,L,?_⟩
 rcases hh with ⟨d,hd,nd,q⟩ | ⟨a,ks,vs,ds,rfl,ha,lvs,iv,hv,lk,bad,q⟩
 ·exact .inl ⟨d,hd,nd,fun H1 S1=>⟨_,rfl,eA ⟨aV rfl,q _ S1⟩⟩⟩
 ·refine .inr ⟨a,ks,vs,ds,rfl,ha,lvs,iv,hv,lk,fun H1 X1 _=>⟨_,rfl,?_⟩⟩
  rw [bad]
  exact eA ⟨aV rfl,q _ X1⟩
def qT (mg:Str → Option Value) (CM C:Addr):Sp:=fun vs H Q E=>∃ (x y z:V) (p dp lw pl:Addr) (fs gs:List Dv) (held:Str → Int) (d:Dv) (c:Addr),vs = [x,y,z] ∧ x = .ref p ∧ MootAt CM C H p dp lw pl fs gs held ∧ Is H d y ∧ dG (fs.map aU) d = false ∧ mg "NoVoice" = some (.ref c) ∧ ∀ H',aL H H' → E (.ref c) none H'
theorem oV (T:Txt K mg C) {CM:Addr} (hCM:mg "Moot" = some (.ref CM)):McX P w K mg base 4 CM "put" ["self","field","coins"] (qT mg CM C):=by
 obtain ⟨c_NoPurse,c_NoVoice,c_DykeError,c_Short,ex_NoPurse,ex_NoVoice,hm_NoPurse,hm_NoVoice,hm_DykeError,hm_Short,kx_NoPurse_DykeError,kx_NoPurse_NoPurse,kx_NoPurse_ValueError,kx_NoPurse_NoVoice,kx_NoPurse_Short,kx_NoVoice_DykeError,kx_NoVoice_NoPurse,kx_NoVoice_ValueError,kx_NoVoice_NoVoice,kx_NoVoice_Short,xc_NoPurse_DykeError,xc_NoVoice_DykeError⟩:=T.xs
 obtain ⟨C_Moot,cl_Moot,mg_Moot,na_land_now,na_purse_of,na_works_done,i_Moot,m_moot_p_move,m_moot_p_put,m_moot_p_land,m_moot_p_purses,m_moot_p_done⟩:=T.k_Moot
 rw [hCM] at mg_Moot
 cases mg_Moot
 have G_p_is_one_of:Fc P w K mg base 1 "is_one_of" ["thing","names"] (jT K):=dQ T
 have G_land_p_field_names:Mc P w K mg base 1 C "field_names" ["self"] (kK C fun fs _=>fs.map aU):=bU T
 refine m_moot_p_put.mcX gX (fun vs H Q E h=>?_) (fun f cdv A outer s H vs Q E hr h=>?_)
 ·obtain ⟨x,y,z,p,dp,lw,pl,fs,gs,held,d,c,rfl,_⟩:=h
  rfl
 obtain ⟨x,y,z,p,dp,lw,pl,fs,gs,held,d,c,rfl,rfl,M,hd,bad,hc,q⟩:=h
 rw [hm_NoVoice] at hc
 cases hc
 have L:=M.lnd
 obtain ⟨⟨dx,F,kvs,hp,mf,hdp,fr,hlw⟩,_⟩:=M
 obtain ⟨dxl,e1,e2,hxl,_⟩:=L.ex
 refine ⟨_,(aG (@cN _ _ _ _ _ _ _ _ (@cD _ _ _ _ (@bW _ _ _ (@bQ _ _ _ _ _ _ _ _ _ _ G_p_is_one_of (hr.mono (by decide)) (aA (pv 1) (aA (@jH _ _ _ _ _ _ _ _ _ _ _ T.cl_Land G_land_p_field_names (hr.mono (by decide)) (@gH _ _ _ _ _ (pv 0) rfl) (by rfl)) aD)) (by rfl) (by decide) (by rfl) (by rfl)) (by intro _;rfl))) (aI (@kW _ _ _ _ _ _ _ _ _ _ hm_NoVoice ex_NoVoice.ex rfl jV (aA bI aD) (by rfl) (by decide) (by rfl) (by rfl))) bM) lP),?_⟩
 refine ⟨_,rfl,_,rfl,p,CM,dx,F,_,rfl,hp,cl_Moot,na_land_now,mf.f1,pl,dxl,_,rfl,hxl,gM _ _ (by decide +kernel) (by decide +kernel),_,rfl,pl,fs,gs,rfl,L,fun ln H1 S1 nln hln=>?_⟩
 refine ⟨_,_,rfl,d,ln,_,Is.same S1 _ _ hd,rfl,SqL.of hln,_,rfl,?_⟩
 rw [bad]
 exact eA ⟨aV rfl,q _ S1⟩
def qU (mg:Str → Option Value) (CM C:Addr):Sp:=fun vs H Q E=>∃ (x y z:V) (p dp lw pl:Addr) (fs gs:List Dv) (held:Str → Int) (d e:Dv) (c:Addr),vs = [x,y,z] ∧ x = .ref p ∧ MootAt CM C H p dp lw pl fs gs held ∧ Is H d y ∧ dG (fs.map aU) d = true ∧ Is H e z ∧ dR e = false ∧ mg "NoPurse" = some (.ref c) ∧ ∀ H',aL H H' → E (.ref c) none H'
theorem oW (T:Txt K mg C) {CM:Addr} (hCM:mg "Moot" = some (.ref CM)):McX P w K mg base 4 CM "put" ["self","field","coins"] (qU mg CM C):=by
 obtain ⟨c_NoPurse,c_NoVoice,c_DykeError,c_Short,ex_NoPurse,ex_NoVoice,hm_NoPurse,hm_NoVoice,hm_DykeError,hm_Short,kx_NoPurse_DykeError,kx_NoPurse_NoPurse,kx_NoPurse_ValueError,kx_NoPurse_NoVoice,kx_NoPurse_Short,kx_NoVoice_DykeError,kx_NoVoice_NoPurse,kx_NoVoice_ValueError,kx_NoVoice_NoVoice,kx_NoVoice_Short,xc_NoPurse_DykeError,xc_NoVoice_DykeError⟩:=T.xs
 obtain ⟨C_Moot,cl_Moot,mg_Moot,na_land_now,na_purse_of,na_works_done,i_Moot,m_moot_p_move,m_moot_p_put,m_moot_p_land,m_moot_p_purses,m_moot_p_done⟩:=T.k_Moot
 rw [hCM] at mg_Moot
 cases mg_Moot
 have G_p_is_one_of:Fc P w K mg base 1 "is_one_of" ["thing","names"] (jT K):=dQ T
 have G_p_are_coins:Fc P w K mg base 2 "are_coins" ["thing"] nH:=gK T
 have G_land_p_field_names:Mc P w K mg base 1 C "field_names" ["self"] (kK C fun fs _=>fs.map aU):=bU T
 refine m_moot_p_put.mcX gX (fun vs H Q E h=>?_) (fun f cdv A outer s H vs Q E hr h=>?_)
 ·obtain ⟨x,y,z,p,dp,lw,pl,fs,gs,held,d,e,c,rfl,_⟩:=h
  rfl
 obtain ⟨x,y,z,p,dp,lw,pl,fs,gs,held,d,e,c,rfl,rfl,M,hd,good,he,bad,hc,q⟩:=h
 rw [hm_NoPurse] at hc
 cases hc
 have L:=M.lnd
 obtain ⟨⟨dx,F,kvs,hp,mf,hdp,fr,hlw⟩,_⟩:=M
 obtain ⟨dxl,e1,e2,hxl,_⟩:=L.ex
 refine ⟨_,(aG (@cN _ _ _ _ _ _ _ _ (@cD _ _ _ _ (@bW _ _ _ (@bQ _ _ _ _ _ _ _ _ _ _ G_p_is_one_of (hr.mono (by decide)) (aA (pv 1) (aA (@jH _ _ _ _ _ _ _ _ _ _ _ T.cl_Land G_land_p_field_names (hr.mono (by decide)) (@gH _ _ _ _ _ (pv 0) rfl) (by rfl)) aD)) (by rfl) (by decide) (by rfl) (by rfl)) (by intro _;rfl))) (aI (@kW _ _ _ _ _ _ _ _ _ _ hm_NoVoice ex_NoVoice.ex rfl jV (aA bI aD) (by rfl) (by decide) (by rfl) (by rfl))) bM) (aG (@cN _ _ _ _ _ _ _ _ (@cD _ _ _ _ (@bW _ _ _ (@bQ _ _ _ _ _ _ _ _ _ _ G_p_are_coins (hr.mono (by decide)) (aA (pv 2) aD) (by rfl) (by decide) (by rfl) (by rfl)) (by intro _;rfl))) (aI (@kW _ _ _ _ _ _ _ _ _ _ hm_NoPurse ex_NoPurse.ex rfl jV (aA bI aD) (by rfl) (by decide) (by rfl) (by rfl))) bM) lP)),?_⟩
 refine ⟨_,rfl,_,rfl,p,CM,dx,F,_,rfl,hp,cl_Moot,na_land_now,mf.f1,pl,dxl,_,rfl,hxl,gM _ _ (by decide +kernel) (by decide +kernel),_,rfl,pl,fs,gs,rfl,L,fun ln H1 S1 nln hln=>?_⟩
 refine ⟨_,_,rfl,d,ln,_,Is.same S1 _ _ hd,rfl,SqL.of hln,_,rfl,?_⟩
 rw [good]
 refine bX ⟨_,rfl,_,rfl,e,Is.same S1 _ _ he,_,rfl,?_⟩
 rw [bad]
 exact eA ⟨aV rfl,q _ S1⟩
theorem tN {H H':Hp} {z:Str} {b:Int} {t:Addr} {held:Str → Int} (KT:jS H H') (ht:H' t = some (.tup [.int b,.int 1])):∀ {zs:List Str} {kvs:List (Key × V)},kvs.map (·.1) = zs.map (Sum.inr:Str → Key) → IsL H (zs.map (frD held)) (kvs.map (·.2)) →
  ((kvs.map fun kv=>if kv.1 = Sum.inr z then (kv.1,V.ref t) else kv).map (·.1) = zs.map (Sum.inr:Str → Key)) ∧ IsL H' (zs.map (frD fun w=>if w = z then b else held w)) ((kvs.map fun kv=>if kv.1 = Sum.inr z then (kv.1,V.ref t) else kv).map (·.2))
 | [],[],_,_=>⟨rfl,rfl⟩
 | [],kv :: kvs,e,_=>by cases e
 | y :: zs,[],e,_=>by cases e
 | y :: zs,kv :: kvs,e,i=>by
  rw [List.map_cons,List.map_cons] at e
  obtain ⟨e1,e2⟩:=List.cons.inj e
  obtain ⟨v,r,ev,iv,ir⟩:=i
  rw [List.map_cons] at ev
  obtain ⟨rfl,rfl⟩:=List.cons.inj ev
  obtain ⟨h1,h2⟩:=tN (z:=z) KT ht e2 ir
  by_cases hy:y = z
  ·subst hy
   have c:kv.1 = Sum.inr y:=e1
   refine ⟨?_,?_⟩
   ·rw [List.map_cons,List.map_cons,List.map_cons,if_pos c,h1,← e1]
   ·rw [List.map_cons,List.map_cons,List.map_cons,if_pos c]
    refine ⟨_,_,rfl,?_,h2⟩
    have:frD (fun w=>if w = y then b else held w) y = .tup [.int b,.int 1]:=by unfold frD;simp only [if_true]
    rw [this]
    exact aAY ht
  ·have c:¬ kv.1 = Sum.inr z:=fun h=>hy (by rw [e1] at h;exact Sum.inr.inj h)
   refine ⟨?_,?_⟩
   ·rw [List.map_cons,List.map_cons,List.map_cons,if_neg c,h1,e1]
   ·rw [List.map_cons,List.map_cons,List.map_cons,if_neg c]
    refine ⟨_,_,rfl,?_,h2⟩
    have:frD (fun w=>if w = z then b else held w) y = frD held y:=by unfold frD;simp only [if_neg hy]
    rw [this]
    exact Is.keep KT _ _ rfl iv
theorem aDC {kvs:List (Key × V)} {zs:List Str} {z:Str} (e:kvs.map (·.1) = zs.map (Sum.inr:Str → Key)) (m:z ∈ zs):(kvs.any fun kv=>decide (kv.1 = Sum.inr z)) = true:=by
 rw [List.any_eq_true]
 have:(Sum.inr z:Key) ∈ kvs.map (·.1):=by rw [e];exact List.mem_map.mpr ⟨z,m,rfl⟩
 obtain ⟨kv,mk,ek⟩:=List.mem_map.mp this
 exact ⟨kv,mk,decide_eq_true ek⟩
theorem fC.put {H H':Hp} {z:Str} {b:Int} {t:Addr} {held:Str → Int} {zs:List Str} {kvs:List (Key × V)} (h:fC H kvs zs held) (m:z ∈ zs) (KT:jS H H') (ht:H' t = some (.tup [.int b,.int 1])):fC H' (eU kvs (Sum.inr z) (.ref t)) zs (fun w=>if w = z then b else held w):=by
 have e:eU kvs (Sum.inr z) (.ref t) = kvs.map fun kv=>if kv.1 = Sum.inr z then (kv.1,V.ref t) else kv:=by
  unfold eU
  rw [if_pos (aDC h.1 m)]
 rw [e]
 exact tN KT ht h.1 h.2
theorem sR {H:Hp} {z:Str} {held:Str → Int}:∀ {zs:List Str} {kvs:List (Key × V)},kvs.map (·.1) = zs.map (Sum.inr:Str → Key) → IsL H (zs.map (frD held)) (kvs.map (·.2)) → z ∈ zs → ∃ t,gQ kvs (Sum.inr z) = some (.ref t) ∧ H t = some (.tup [.int (held z),.int 1])
 | [],_,_,_,m=>by cases m
 | y :: zs,[],e,_,_=>by cases e
 | y :: zs,kv :: kvs,e,i,m=>by
  rw [List.map_cons,List.map_cons] at e
  obtain ⟨e1,e2⟩:=List.cons.inj e
  obtain ⟨v,r,ev,iv,ir⟩:=i
  rw [List.map_cons] at ev
  obtain ⟨rfl,rfl⟩:=List.cons.inj ev
  by_cases hy:y = z
  ·subst hy
   obtain ⟨t,us,et,o,_,_,rfl,rfl,_,_,rfl,rfl,rfl⟩:=iv
   refine ⟨t,?_,o⟩
   unfold gQ
   rw [List.find?_cons_of_pos (by simpa using e1),← et]
   rfl
  ·have m':z ∈ zs:=by
    rcases List.mem_cons.mp m with h | h
    ·exact absurd h.symm hy
    ·exact h
   obtain ⟨t,et,o⟩:=sR e2 ir m'
   refine ⟨t,?_,o⟩
   unfold gQ at et ⊢
   rw [List.find?_cons_of_neg (by rw [e1];simp [hy])]
   exact et
def aDV (CM C:Addr):Sp:=sp3 fun x y u H Q=>∃ (p dp lw pl:Addr) (fs gs:List Dv) (held:Str → Int) (z:Str) (c:Int),x = .ref p ∧ MootAt CM C H p dp lw pl fs gs held ∧ y = .str z ∧ z ∈ fs.map aU ∧ u = .int c ∧ 0 ≤ c ∧ c ≤ 1000000000000 ∧ 0 ≤ held z ∧ held z ≤ 10 ^ 14 ∧
 ∀ H',MootAt CM C H' p dp lw pl fs gs (fun w=>if w = z then held z + c else held w) → dB dp H H' → Q .non H'
theorem qI (T:Txt K mg C) {CM:Addr} (hCM:mg "Moot" = some (.ref CM)):Mc P w K mg base 4 CM "put" ["self","field","coins"] (aDV CM C):=by
 obtain ⟨C_Moot,cl_Moot,mg_Moot,na_land_now,na_purse_of,na_works_done,i_Moot,m_moot_p_move,m_moot_p_put,m_moot_p_land,m_moot_p_purses,m_moot_p_done⟩:=T.k_Moot
 rw [hCM] at mg_Moot
 cases mg_Moot
 have G_p_is_one_of:Fc P w K mg base 1 "is_one_of" ["thing","names"] (jT K):=dQ T
 have G_p_are_coins:Fc P w K mg base 2 "are_coins" ["thing"] nH:=gK T
 have G_p_fraction:Fc P w K mg base 2 "fraction" ["top","bottom"] wL:=gZ T
 have G_p_plus:Fc P w K mg base 3 "plus" ["one","other"] aDW:=xR T
 have G_land_p_field_names:Mc P w K mg base 1 C "field_names" ["self"] (kK C fun fs _=>fs.map aU):=bU T
 refine m_moot_p_put.mc gX aAJ (fun f cdv A outer s H vs Q E hr h=>?_)
 obtain ⟨x,y,u,rfl,p,dp,lw,pl,fs,gs,held,z,c,rfl,M,rfl,mz,rfl,c0,c1,h0,h1,q⟩:=h
 have big:=cX
 have hu:=pK hr
 have L:=M.lnd
 have gf:=(iD L).1
 have f2:=gf.l2
 obtain ⟨⟨dx,F,kvs,hp,mf,hdp,fr,hlw⟩,_⟩:=id M
 obtain ⟨dxl,e1,e2,hxl,_⟩:=L.ex
 have lkv:=fr.len
 rw [List.length_map] at lkv
 refine ⟨_,(aG (@cN _ _ _ _ _ _ _ _ (@cD _ _ _ _ (@bW _ _ _ (@bQ _ _ _ _ _ _ _ _ _ _ G_p_is_one_of (hr.mono (by decide)) (aA (pv 1) (aA (@jH _ _ _ _ _ _ _ _ _ _ _ T.cl_Land G_land_p_field_names (hr.mono (by decide)) (@gH _ _ _ _ _ (pv 0) rfl) (by rfl)) aD)) (by rfl) (by decide) (by rfl) (by rfl)) (by intro _;rfl))) (aI jE) bM) (aG (@cN _ _ _ _ _ _ _ _ (@cD _ _ _ _ (@bW _ _ _ (@bQ _ _ _ _ _ _ _ _ _ _ G_p_are_coins (hr.mono (by decide)) (aA (pv 2) aD) (by rfl) (by decide) (by rfl) (by rfl)) (by intro _;rfl))) (aI jE) bM) (aI (@kX _ _ _ _ _ _ _ _ _ hu (@gH _ _ _ _ _ (pv 0) rfl) (pv 1) (@bQ _ _ _ _ _ _ _ _ _ _ G_p_plus (hr.mono (by decide)) (aA (@jX _ _ _ _ _ _ hu (@gH _ _ _ _ _ (pv 0) rfl) (pv 1) (fun _ _=>rfl)) (aA (@bQ _ _ _ _ _ _ _ _ _ _ G_p_fraction (hr.mono (by decide)) (aA (pv 2) (aA aB aD)) (by rfl) (by decide) (by rfl) (by rfl)) aD)) (by rfl) (by decide) (by rfl) (by rfl)) rfl)))),?_⟩
 refine ⟨_,rfl,_,rfl,p,CM,dx,F,_,rfl,hp,cl_Moot,na_land_now,mf.f1,pl,dxl,_,rfl,hxl,gM _ _ (by decide +kernel) (by decide +kernel),_,rfl,pl,fs,gs,rfl,L,fun ln H1 S1 nln hln=>?_⟩
 refine ⟨_,_,rfl,.str z,ln,_,rfl,rfl,SqL.of hln,_,rfl,?_⟩
 rw [show dG ((fun fs _=>List.map aU fs) fs gs) (.str z) = true from decide_eq_true mz]
 refine bX ⟨_,rfl,_,rfl,.int c,rfl,_,rfl,?_⟩
 have gc:dR (.int c) = true:=by
  show (decide (0 ≤ c) && decide (c ≤ 1000000000000)) = true
  rw [decide_eq_true c0,decide_eq_true c1]
  rfl
 rw [gc]
 refine bX ?_
 obtain ⟨t,et,ot⟩:=sR fr.1 fr.2 mz
 refine ⟨_,rfl,p,CM,dx,F,_,rfl,S1 _ _ hp,cl_Moot,na_purse_of,mf.f2,_,rfl,dp,_,rfl,(by rw [← et];exact uS.k (k:=Sum.inr z) (S1 _ _ hdp)),?_⟩
 refine ⟨_,rfl,_,_,rfl,c,rfl,rfl,fun t2 ht2=>?_⟩
 have A2:=aL.upd (o:=.tup [.int c,.int 1]) ht2
 refine ⟨_,_,rfl,t,t2,held z,c,rfl,A2 _ _ (S1 _ _ ot),rfl,aF,h0,h1,c0,by omega,fun t3 ht3=>?_⟩
 have A3:=aL.upd (o:=.tup [.int (held z + c),.int 1]) ht3
 have B3:=S1.trans (A2.trans A3)
 have ot3:upd (upd H1 t2 (.tup [.int c,.int 1])) t3 (.tup [.int (held z + c),.int 1]) t3 = some (.tup [.int (held z + c),.int 1]):=aF
 generalize upd (upd H1 t2 (.tup [.int c,.int 1])) t3 (.tup [.int (held z + c),.int 1]) = H3 at B3 ot3 ⊢
 refine ⟨_,rfl,p,CM,dx,F,_,rfl,B3 _ _ hp,cl_Moot,na_purse_of,mf.f2,_,rfl,dp,_,rfl,tE.k (k:=Sum.inr z) (B3 _ _ hdp) (by omega),?_⟩
 have X4:dB dp H (upd H3 dp (.dK (eU kvs (Sum.inr z) (.ref t3)))):=(aL.x B3).put
 have n3:t3 ≠ dp:=fun e=>by rw [e,B3 _ _ hdp] at ot3;cases ot3
 refine q _ (M.put X4 aF (fr.put mz (fun b xs e=>?_) (by rw [aJ n3];exact ot3))) X4
 exact X4 _ _ e fun k=>by rw [k,hdp] at e;cases e
def zE (CM C:Addr):Sp:=sp1 fun x H Q=>∃ (p dp lw pl:Addr) (fs gs:List Dv) (held:Str → Int),x = .ref p ∧ MootAt CM C H p dp lw pl fs gs held ∧ ∀ (l:Addr) (kvs:List (Key × V)),H l = none → fC H kvs (fs.map aU) held → Q (.ref l) (upd H l (.dK kvs))
theorem lT (T:Txt K mg C) {CM:Addr} (hCM:mg "Moot" = some (.ref CM)):Mc P w K mg base 1 CM "purses" ["self"] (zE CM C):=by
 obtain ⟨C_Moot,cl_Moot,mg_Moot,na_land_now,na_purse_of,na_works_done,i_Moot,m_moot_p_move,m_moot_p_put,m_moot_p_land,m_moot_p_purses,m_moot_p_done⟩:=T.k_Moot
 rw [hCM] at mg_Moot
 cases mg_Moot
 refine m_moot_p_purses.mc lM jJ (fun f cdv A outer s H vs Q E hr h=>?_)
 obtain ⟨x,rfl,p,dp,lw,pl,fs,gs,held,rfl,M,q⟩:=h
 obtain ⟨⟨dx,F,kvs,hp,mf,hdp,fr,hlw⟩,_⟩:=id M
 refine ⟨_,(aI (@aT _ _ _ _ (@bB _ _ _ _ _ _ _ _ _ gO rfl T.n_dict dS (aA (@gH _ _ _ _ _ (pv 0) rfl) aD) (by decide) (by decide) (by rfl) (by rfl)))),?_⟩
 exact ⟨_,rfl,p,CM,dx,F,_,rfl,hp,cl_Moot,na_purse_of,mf.f2,dp,kvs,rfl,hdp,fun l hl=>q l kvs hl fr⟩
def wH (CM C:Addr):Sp:=sp1 fun x H Q=>∃ (p dp lw pl:Addr) (fs gs:List Dv) (held:Str → Int),x = .ref p ∧ MootAt CM C H p dp lw pl fs gs held ∧ Q (.ref pl) H
theorem oX (T:Txt K mg C) {CM:Addr} (hCM:mg "Moot" = some (.ref CM)):Mc P w K mg base 1 CM "land" ["self"] (wH CM C):=by
 obtain ⟨C_Moot,cl_Moot,mg_Moot,na_land_now,na_purse_of,na_works_done,i_Moot,m_moot_p_move,m_moot_p_put,m_moot_p_land,m_moot_p_purses,m_moot_p_done⟩:=T.k_Moot
 rw [hCM] at mg_Moot
 cases mg_Moot
 refine m_moot_p_land.mc oK jJ (fun f cdv A outer s H vs Q E hr h=>?_)
 obtain ⟨x,rfl,p,dp,lw,pl,fs,gs,held,rfl,M,q⟩:=h
 obtain ⟨⟨dx,F,kvs,hp,mf,hdp,fr,hlw⟩,_⟩:=id M
 refine ⟨_,(aI (@aT _ _ _ _ (@gH _ _ _ _ _ (pv 0) rfl))),?_⟩
 exact ⟨_,rfl,p,CM,dx,F,_,rfl,hp,cl_Moot,na_land_now,mf.f1,q⟩
def wJ (CM C:Addr):Sp:=sp1 fun x H Q=>∃ (p dp lw pl:Addr) (fs gs:List Dv) (held:Str → Int),x = .ref p ∧ MootAt CM C H p dp lw pl fs gs held ∧ ∀ l,H l = none → Q (.ref l) (upd H l (.lst []))
theorem oY (T:Txt K mg C) {CM:Addr} (hCM:mg "Moot" = some (.ref CM)):Mc P w K mg base 1 CM "done" ["self"] (wJ CM C):=by
 obtain ⟨C_Moot,cl_Moot,mg_Moot,na_land_now,na_purse_of,na_works_done,i_Moot,m_moot_p_move,m_moot_p_put,m_moot_p_land,m_moot_p_purses,m_moot_p_done⟩:=T.k_Moot
 rw [hCM] at mg_Moot
 cases mg_Moot
 refine m_moot_p_done.mc oM jJ (fun f cdv A outer s H vs Q E hr h=>?_)
 obtain ⟨x,rfl,p,dp,lw,pl,fs,gs,held,rfl,M,q⟩:=h
 obtain ⟨⟨dx,F,kvs,hp,mf,hdp,fr,hlw⟩,_⟩:=id M
 refine ⟨_,(aI (@aT _ _ _ _ (@dZ _ _ _ _ _ _ _ _ _ _ _ ["work"] 1 [] rfl (@dX _ (K) _ _ _ rfl (@dY _ _ _ _ (@gH _ _ _ _ _ (pv 0) rfl))) (fun R=>@bN _ _ (0) _ (show List.Nodup (["work"]:List Str) by decide +kernel) rfl (Or.inl rfl) (by trivial)) (@bR _ _ (by decide)) (fun R=>cT) (fun R=>(@fT _ _ _ _ _ (aA (@bB _ _ _ _ _ _ _ _ _ (@qP _ (K) rfl) rfl T.n_list eS (aA (@bD _ _ _ _ _ _ _ (@bF _ (K) rfl) (pv 0) aB (fun _ _=>rfl)) aD) (by decide) (by decide) (by rfl) (by rfl)) (aA (@bD _ _ _ _ _ _ _ (@bF _ (K) rfl) (pv 0) aB (fun _ _=>rfl)) (aA (@bD _ _ _ _ _ _ _ (@bF _ (K) rfl) (pv 0) aB (fun _ _=>rfl)) aD))))) (by rfl) (by rfl) (by rfl) (by rfl) (by rfl) (by rfl) (by rfl) (by intro _;rfl)))),?_⟩
 refine ⟨_,rfl,p,CM,dx,F,_,rfl,hp,cl_Moot,na_works_done,mf.f3,lw,rfl,⟨_,SqL.of hlw⟩,?_⟩
 refine cL (F:=K) (xs:=[]) (Nat.zero_le _) (fun i ys H'=>H = H' ∧ ys = []) ⟨rfl,rfl⟩ ?_ ?_ ?_
 ·rintro i ys H' hi' ⟨rfl,rfl⟩
  exact ⟨SqL.of hlw,Nat.zero_le _⟩
 ·rintro i xv ys H' K1 K2 hxi ⟨rfl,rfl⟩ k1 k2
  cases hxi
 ·rintro ys H' ⟨rfl,rfl⟩
  exact fun l hl=>q l hl
theorem uE {H:Hp}:∀ (k:Nat) {ds:List Dv} {vs:List V},IsL H ds vs → IsL H (ds.drop k) (vs.drop k)
 | 0,_,_,h=>h
 | k + 1,[],_,h=>by
  cases (show _ = [] from h)
  rfl
 | k + 1,d :: ds,_,⟨v,r,e,h,t⟩=>by
  subst e
  exact uE k t
theorem uD {H:Hp}:∀ (k:Nat) {ds:List Dv} {vs:List V},IsL H ds vs → IsL H (ds.take k) (vs.take k)
 | 0,_,_,h=>rfl
 | k + 1,[],_,h=>by
  cases (show _ = [] from h)
  rfl
 | k + 1,d :: ds,_,⟨v,r,e,h,t⟩=>by
  subst e
  exact ⟨v,_,rfl,h,uD k t⟩
theorem wW {H:Hp}:∀ {ds:List Dv} {vs:List V} {es:List Dv} {us:List V},IsL H ds vs → IsL H es us → IsL H (ds ++ es) (vs ++ us)
 | [],_,_,_,h,k=>by
  cases (show _ = [] from h)
  exact k
 | d :: ds,_,_,_,⟨v,r,e,h,t⟩,k=>by
  subst e
  exact ⟨v,_,rfl,h,wW t k⟩
theorem yH (xs:List V) (k:Nat):uL xs none (some (k:Int)) = xs.take k:=by
 unfold uL
 rw [HT.sIx_nat,HT.sIx_none,List.drop_zero,Nat.sub_zero]
 by_cases h:k ≤ xs.length
 ·rw [Nat.min_eq_left h]
 ·rw [Nat.min_eq_right (by omega),List.take_of_length_le (Nat.le_refl _),List.take_of_length_le (by omega)]
theorem pX {c:Str → Int}:∀ {zs:List Str} {g:Str},g ∉ zs → gQ (aX zs c) (Sum.inr g) = none
 | [],_,_=>rfl
 | z :: zs,g,m=>by
  have h1:¬ z = g:=fun e=>m (by rw [e];exact List.mem_cons_self)
  have:=pX (c:=c) (zs:=zs) (g:=g) (fun h=>m (List.mem_cons_of_mem _ h))
  unfold gQ aX at this ⊢
  rw [List.map_cons,List.find?_cons_of_neg (by simp [h1])]
  exact this
theorem aBQ {c c':Str → Int} {zs:List Str} (h:∀ z ∈ zs,c z = c' z):aX zs c = aX zs c':=by
 unfold aX
 exact List.map_congr_left fun z m=>by rw [h z m]
theorem rK {c:Str → Int} {zs:List Str} {g:Str} {b:Int} (m:g ∉ zs):eU (aX zs c) (Sum.inr g) (.int b) = aX (zs ++ [g]) fun z=>if z = g then b else c z:=by
 rw [zU _ (pX m),aBQ (c':=fun z=>if z = g then b else c z) (fun z mz=>by simp only [if_neg (show ¬ z = g from fun e=>m (e ▸ mz))])]
 unfold aX
 rw [List.map_append,List.map_singleton]
 simp only [if_true]
theorem tV {zs:List Str} {i:Nat} {z:Str} (nd:zs.Nodup) (e:zs[i]? = some z):z ∉ zs.take i:=by
 intro m
 obtain ⟨j,hj,ej⟩:=List.mem_take_iff_getElem.mp m
 obtain ⟨hi,ei⟩:=List.getElem?_eq_some_iff.mp e
 have:=(List.getElem_inj nd).mp (ej.trans ei.symm)
 omega
theorem p12:(10:Int) ^ (12:Int).toNat = 1000000000000:=by decide
def zH (K:PySem.W.Frag):Sp:=sp2 fun x y H Q=>∃ (lf:Addr) (vf:List V) (fs:List Dv),Scr K H x ∧ y = .ref lf ∧ H lf = some (.lst vf) ∧ IsL H fs vf ∧ Fds fs 12 ∧ ∀ (l:Addr) (zs:List Str) (held:Str → Int) (H':Hp),aL H H' → H l = none → H' l = some (.dK (aX zs held)) → sK (fs.map aU) zs held → zs.Nodup → Q (.ref l) H'
theorem tT (T:Txt K mg C):Fc P w K mg base 2 "_law_purses" ["_law_script","_law_fields_here"] (zH K):=by
 have G_l_mixed:Fc P w K mg base 1 "_law_mixed" ["_law_script","_law_k"] (zD K):=iP T
 refine T.d_l_purses.fc dJ kN (fun f cdv A outer s H vs Q E hr h=>?_)
 obtain ⟨x,y,rfl,lf,vf,fs,scr,rfl,hlf,ivf,gf,q⟩:=h
 have big:=cX
 have hu:=pK hr
 have lvf:=ivf.length
 have l1:=gf.l1
 have l2:=gf.l2
 refine ⟨_,(aG (@aW _ _ (2) _ _ _ _ dJ.nd rfl (Or.inl rfl) tQ (by rfl) (by trivial)) (aG (@aW _ _ (3) _ _ _ _ dJ.nd rfl (Or.inl rfl) (@aK _ _ _ _ _ _ _ _ bE (@bQ _ _ _ _ _ _ _ _ _ _ G_l_mixed (hr.mono (by decide)) (aA (pv 0) (@aA _ _ _ _ _ aB aD (by rfl))) (by rfl) (by decide) (by rfl) (by rfl)) (@aO _ _ _ _ _ _ _ _ _ (@bL _ (K) rfl) rfl T.n_len bS (aA (pv 1) aD) (by decide) (by decide) (by rfl) (by rfl))) (by rfl) (by trivial)) (aG (@lQ _ _ _ _ _ _ _ _ PassesOwn.never rfl (@dX _ (K) _ _ _ rfl (@dY _ _ _ _ (@aK _ _ _ _ _ _ _ _ vC (@kY _ _ _ _ _ _ _ _ _ _ (@tI _ (K) rfl) (pv 1) (@nL _ _ _ (pv 3)) nM) (@kY _ _ _ _ _ _ _ _ _ _ (@tI _ (K) rfl) (pv 1) nM (@nL _ _ _ (pv 3)))))) (@aEV _ (K) _ _ _ _ _ rfl 3 rfl (@zZ _ _ _ _ _ _ rfl (@jG _ _ _ _ _ (@bN _ _ (4) _ dJ.nd rfl (Or.inl rfl) (by trivial)) (@jG _ _ _ _ _ (@bN _ _ (5) _ dJ.nd rfl (Or.inl rfl) (by trivial)) (@jG _ _ _ _ _ (@bN _ _ (6) _ dJ.nd rfl (Or.inl rfl) (by trivial)) wP (by rfl)) (by rfl)) (by rfl)) (by rfl) (by rfl))) (aG (@aW _ _ (7) _ _ _ _ dJ.nd rfl (Or.inl rfl) (@bQ _ _ _ _ _ _ _ _ _ _ G_l_mixed (hr.mono (by decide)) (aA (pv 0) (aA (@aK _ _ _ _ _ _ _ _ cV aB (@aO _ _ _ _ _ _ _ _ _ mK rfl T.n_len bS (aA (pv 2) aD) (by decide) (by decide) (by rfl) (by rfl))) aD)) (by rfl) (by decide) (by rfl) (by rfl)) (by rfl) (by trivial)) (aI (@kX _ _ _ _ _ _ _ _ _ hu (pv 2) (pv 4) (@bD _ _ _ _ _ _ _ (@bP _ (K) rfl) (@cJ _ _ _ _ (aA aB (aA (@aK _ _ _ _ _ _ _ _ bE (@aK _ _ _ _ _ _ _ _ bA (pv 7) aB) aB) (aA (@aK _ _ _ _ _ _ _ _ bE (@aK _ _ _ _ _ _ _ _ bA (pv 7) aB) (@aK _ _ _ _ _ _ _ _ cV (@aK _ _ _ _ _ _ _ _ dE aB aB) aB)) (aA (@aK _ _ _ _ _ _ _ _ dE aB aB) aD))))) (@aK _ _ _ _ _ _ _ _ bE (pv 7) aB) (fun _ _=>rfl)) rfl))) (by intro _;rfl)) (aI (@aT _ _ _ _ (pv 2)))))),?_⟩
 intro ld hld
 have A1:=aL.upd (o:=.dK []) hld
 have hd1:upd H ld (.dK []) ld = some (.dK []):=aF
 generalize upd H ld (.dK []) = H1 at A1 hd1 ⊢
 refine ⟨_,rfl,_,_,rfl,3,scr.same A1,rfl,by decide,fun m0 hm0=>?_⟩
 refine ⟨_,rfl,lf,vf,rfl,.inl (SqL.of (A1 _ _ hlf)),_,_,rfl,rfl,by omega,?_⟩
 obtain ⟨k,hk⟩:=Int.eq_ofNat_of_zero_le (Int.emod_nonneg m0 (show (vf.length:Int) ≠ 0 by omega))
 have hk2:k < vf.length:=by have:=Int.emod_lt_of_pos m0 (show (0:Int) < (vf.length:Int) by omega);omega
 refine gσ (σ':=[some x,some (.ref lf),some (.ref ld),some (.int k),none,none,none,none]) (by show [some x,some (V.ref lf),some (V.ref ld),some (V.int (m0 % (vf.length:Int))),none,none,none,none] = _;rw [hk]) ?_
 refine ⟨_,rfl,_,rfl,_,rfl,lf,vf,rfl,SqL.of (A1 _ _ hlf),fun q1 hq1=>?_⟩
 rw [aBN]
 have A2:=aL.upd (o:=.lst (vf.drop k)) hq1
 refine ⟨_,rfl,_,rfl,_,rfl,lf,vf,rfl,SqL.of (A2 _ _ (A1 _ _ hlf)),fun q2 hq2=>?_⟩
 rw [yH]
 have A3:=aL.upd (o:=.lst (vf.take k)) hq2
 refine ⟨q1,q2,_,_,rfl,rfl,A3 _ _ aF,aF,by rw [List.length_drop,List.length_take];omega,fun q3 hq3=>?_⟩
 have A4:=aL.upd (o:=.lst (vf.drop k ++ vf.take k)) hq3
 have B4:=A2.trans (A3.trans A4)
 have h4:upd (upd (upd H1 q1 (.lst (vf.drop k))) q2 (.lst (vf.take k))) q3 (.lst (vf.drop k ++ vf.take k)) q3 = some (.lst (vf.drop k ++ vf.take k)):=aF
 generalize upd (upd (upd H1 q1 (.lst (vf.drop k))) q2 (.lst (vf.take k))) q3 (.lst (vf.drop k ++ vf.take k)) = H4 at B4 h4 ⊢
 have hd4:=B4 _ _ hd1
 have ir:IsL H (fs.drop k ++ fs.take k) (vf.drop k ++ vf.take k):=wW (uE k ivf) (uD k ivf)
 have pm:List.Perm (fs.drop k ++ fs.take k) fs:=by
  have:=List.perm_append_comm (l₁:=fs.drop k) (l₂:=fs.take k)
  rwa [List.take_append_drop] at this
 have nd:((fs.drop k ++ fs.take k).map aU).Nodup:=(pm.map aU).nodup_iff.mpr gf.nd
 have lr:=ir.length
 have lp:=pm.length_eq
 have gr:∀ d ∈ fs.drop k ++ fs.take k,bH d = true:=fun d m=>gf.all d (pm.mem_iff.mp m)
 generalize fs.drop k ++ fs.take k = rs at *
 generalize vf.drop k ++ vf.take k = vr at *
 have n3:q3 ≠ ld:=fun z=>by rw [z,hd4] at h4;cases h4
 refine ⟨q3,rfl,⟨_,SqL.of h4⟩,?_⟩
 refine aAZ (K:=K) (a:=q3) (xs:=vr) (fun i σ H'=>∃ (v4 v5 v6 v7:Option V) (held:Str → Int),σ = [some x,some (.ref lf),some (.ref ld),some (.int k),v4,v5,v6,v7] ∧ dB ld H4 H' ∧ H' ld = some (.dK (aX ((rs.map aU).take i) held)) ∧ ∀ z ∈ (rs.map aU).take i,0 ≤ held z ∧ held z ≤ 1000000000000) ⟨_,_,_,_,fun _=>0,rfl,aL.x (aL.refl _),hd4,fun z m=>by cases m⟩ ?_ ?_ ?_
 ·rintro i σ H' hi ⟨v4,v5,v6,v7,held,rfl,X,hd,hb⟩
  exact SqL.of (X _ _ h4 n3)
 ·rintro i xv σ H' hx ⟨v4,v5,v6,v7,held,rfl,X,hd,hb⟩
  have hil:i < vr.length:=(List.getElem?_eq_some_iff.mp hx).1
  obtain ⟨d,ed⟩:∃ d,rs[i]? = some d:=⟨_,List.getElem?_eq_getElem (by omega)⟩
  obtain ⟨v,ev,iv⟩:=ir.get ed
  rw [hx] at ev
  cases ev
  obtain ⟨z,g,e,rfl,_⟩:=bJ (gr d (List.mem_of_getElem? ed))
  obtain ⟨t,us,rfl,ot,_,_,rfl,rfl,_,_,rfl,rfl,_,_,rfl,rfl,rfl⟩:=iv
  have SH:aL H H':=fun b o eb=>X _ _ (B4 _ _ (A1 _ _ eb)) (aH eb hld)
  refine ⟨t,_,rfl,SqT.of (SH _ _ ot),rfl,_,_,rfl,_,_,rfl,_,_,rfl,rfl,?_⟩
  refine nxσ (σ':=[some x,some (.ref lf),some (.ref ld),some (.int k),some (.str z),some (.int g),some (.int e),v7]) rfl ?_
  have lcn:(aX ((rs.map aU).take i) held).length ≤ 12:=by unfold aX;rw [List.length_map,List.length_take,List.length_map];omega
  refine ⟨_,rfl,_,rfl,ld,_,rfl,hd,_,_,rfl,rfl,_,_,rfl,_,scr.same SH,rfl,by omega,fun m1 hm1=>?_⟩
  refine ⟨_,rfl,_,_,rfl,rfl,⟨by decide,by decide⟩,_,_,rfl,rfl,fO rfl,_,rfl,_,_,rfl,rfl,⟨by decide,by decide⟩,_,_,rfl,rfl,⟨by decide,by decide,by decide⟩,_,_,rfl,rfl,_,_,rfl,rfl,fO rfl,_,_,rfl,rfl,⟨by decide,by decide,by decide⟩,aV rfl,fun l5 hl5=>?_⟩
  have A5:=aL.upd (o:=.lst [.int 0,.int (m1 / 4 % 10),.int (m1 / 4 % (10 ^ (12:Int).toNat + 1)),.int (10 ^ (12:Int).toNat)]) hl5
  obtain ⟨b,eb,hbb⟩:=at4 (a:=0) (b:=m1 / 4 % 10) (c:=m1 / 4 % (10 ^ (12:Int).toNat + 1)) (d:=10 ^ (12:Int).toNat) (Int.emod_nonneg m1 (show (4:Int) ≠ 0 by decide)) (Int.emod_lt_of_pos m1 (show (0:Int) < 4 by decide))
  have b0:0 ≤ b ∧ b ≤ 1000000000000:=by
   rw [p12] at hbb
   have x1:=Int.emod_nonneg (m1 / 4) (show (10:Int) ≠ 0 by decide)
   have x2:=Int.emod_lt_of_pos (m1 / 4) (show (0:Int) < 10 by decide)
   have x3:=Int.emod_nonneg (m1 / 4) (show (1000000000000 + 1:Int) ≠ 0 by decide)
   have x4:=Int.emod_lt_of_pos (m1 / 4) (show (0:Int) < 1000000000000 + 1 by decide)
   rcases hbb with rfl | rfl | rfl | rfl <;> omega
  refine ⟨_,rfl,_,_,rfl,rfl,fO rfl,l5,_,_,_,rfl,rfl,SqL.of aF,eb,_,rfl,_,rfl,ld,_,rfl,tE.k (k:=Sum.inr z) (A5 _ _ hd) (by omega),?_⟩
  have ez:(rs.map aU)[i]? = some z:=by rw [List.getElem?_map,ed];rfl
  have zn:z ∉ (rs.map aU).take i:=tV nd ez
  refine ⟨_,_,_,_,fun w=>if w = z then b else held w,rfl,(X.then A5).put,?_,?_⟩
  ·rw [aF,List.take_add_one,ez,rK zn]
   rfl
  ·intro w mw
   by_cases hw:w = z
   ·simp only [if_pos hw]
    exact b0
   ·simp only [if_neg hw]
    rw [List.take_add_one,ez,List.mem_append] at mw
    rcases mw with mw | mw
    ·exact hb w mw
    ·exact absurd (by simpa using mw) hw
 ·rintro σ H' ⟨v4,v5,v6,v7,held,rfl,X,hd,hb⟩
  rw [List.take_of_length_le (by rw [List.length_map];omega)] at hd hb
  have SH:aL H H':=fun b o eb=>X _ _ (B4 _ _ (A1 _ _ eb)) (aH eb hld)
  refine ⟨_,rfl,q ld (rs.map aU) held H' SH hld hd ⟨by rw [List.length_map,List.length_map];exact lp,fun z m=>((pm.map aU).mem_iff.mp m),fun z m=>((pm.map aU).mem_iff.mpr m),hb⟩ nd⟩
open Mt46
theorem uM {c:Str → Int} {g:Str}:∀ {zs:List Str},pT (aX zs c) (Sum.inr g) = aX (zs.filter fun z=>decide (z ≠ g)) c
 | []=>rfl
 | z :: zs=>by
  have ih:=uM (c:=c) (g:=g) (zs:=zs)
  unfold pT aX at ih ⊢
  by_cases e:z = g
  ·subst e
   simp only [List.map_cons,List.filter_cons,ne_eq,not_true_eq_false,decide_false,Bool.false_eq_true,if_false]
   simpa using ih
  ·have e':¬ (Sum.inr z:Key) = Sum.inr g:=fun h=>e (Sum.inr.inj h)
   simp only [List.map_cons,List.filter_cons,ne_eq,e,e',not_false_eq_true,decide_true,if_true]
   simpa using ih
theorem xE {c:Str → Int} (zs:List Str):aX zs c = (zs.map (Sum.inr:Str → Key)).zip (zs.map fun z=>V.int (c z)):=by
 unfold aX
 rw [List.zip_map,List.zip_eq_zipWith,List.zipWith_self,List.map_map]
 rfl
theorem wO {c:Str → Int} {v:V} {g:Str} {zs:List Str} (m:g ∈ zs):eU (aX zs c) (Sum.inr g) v = (zs.map (Sum.inr:Str → Key)).zip (zs.map fun z=>if z = g then v else V.int (c z)):=by
 have e:eU (aX zs c) (Sum.inr g) v = (aX zs c).map fun kv=>if kv.1 = Sum.inr g then (kv.1,v) else kv:=by
  unfold eU
  rw [if_pos]
  rw [List.any_eq_true]
  exact ⟨_,List.mem_map.mpr ⟨g,m,rfl⟩,decide_eq_true rfl⟩
 rw [e,List.zip_map,List.zip_eq_zipWith,List.zipWith_self,List.map_map]
 unfold aX
 rw [List.map_map]
 refine List.map_congr_left fun z _=>?_
 show (if (Sum.inr z:Key) = Sum.inr g then ((Sum.inr z:Key),v) else (Sum.inr z,V.int (c z))) = ((Sum.inr z:Key),if z = g then v else V.int (c z))
 by_cases h:z = g
 ·rw [if_pos h,if_pos (by rw [h])]
 ·rw [if_neg h,if_neg (fun k=>h (Sum.inr.inj k))]
theorem wS {H:Hp} {v:V} {d:Dv} {g:Str} (h:Is H d v) (c:Str → Int):∀ zs:List Str,IsL H (zs.map fun z=>if z = g then d else Dv.int (c z)) (zs.map fun z=>if z = g then v else V.int (c z))
 | []=>rfl
 | z :: zs=>by
  refine ⟨_,_,rfl,?_,wS h c zs⟩
  show Is H (if z = g then d else Dv.int (c z)) (if z = g then v else V.int (c z))
  by_cases e:z = g
  ·rw [if_pos e,if_pos e];exact h
  ·rw [if_neg e,if_neg e];rfl
theorem tY {d:Dv} {g:Str} (h:lF d = true) (c:Str → Int):∀ zs:List Str,iF (zs.map fun z=>if z = g then d else Dv.int (c z)) = true
 | []=>rfl
 | z :: zs=>by
  show (lF (if z = g then d else Dv.int (c z)) && iF _) = true
  rw [tY h c zs,Bool.and_true]
  by_cases e:z = g
  ·rw [if_pos e];exact h
  ·rw [if_neg e];rfl
theorem aCQ {d:Dv} {g:Str} {zs nms:List Str} {c:Str → Int} (h:dR d = false) (m:g ∈ zs):lO nms (zs.map Sum.inr) (zs.map fun z=>if z = g then d else Dv.int (c z)) = false:=by
 unfold lO
 have:(List.zipWith (fun k d=>dG nms (kD k) && dR d) (zs.map Sum.inr) (zs.map fun z=>if z = g then d else Dv.int (c z))).all id = false:=by
  rw [List.all_eq_false]
  refine ⟨false,?_,by decide⟩
  rw [List.zipWith_map,List.zipWith_self]
  refine List.mem_map.mpr ⟨g,m,?_⟩
  rw [if_pos rfl,h,Bool.and_false]
 rw [this,Bool.and_false]
theorem aCS {ks:List Key} {nms:List Str} {ds:List Dv} (h:ks.length ≠ nms.length):lO nms ks ds = false:=by
 unfold lO
 rw [decide_eq_false h]
 rfl
theorem rH {zs:List Str} {g:Str} (m:g ∈ zs):(zs.filter fun z=>decide (z ≠ g)).length < zs.length:=by
 refine Nat.lt_of_le_of_ne (List.length_filter_le _ _) fun e=>?_
 have:=List.length_filter_eq_length_iff.mp e g m
 simp at this
def aFO (H:Hp) (nms:List Str) (w:V) (H':Hp):Prop:=aL H H' ∧ ((∃ d,Is H' d w ∧ pA d = true) ∨ (∃ (a:Addr) (ks:List Key) (vs:List V) (ds:List Dv),w = .ref a ∧ H a = none ∧ H' a = some (.dK (ks.zip vs)) ∧ vs.length = ks.length ∧ IsL H' ds vs ∧ iF ds = true ∧ ks.length ≤ 100 ∧ lO nms ks ds = false))
def zF:Sp:=sp2 fun x y H Q=>∃ (lh:Addr) (zs nms:List Str) (held:Str → Int) (n:Int),x = .ref lh ∧ H lh = some (.dK (aX zs held)) ∧ zs.length = nms.length ∧ 1 ≤ nms.length ∧ nms.length ≤ 12 ∧ noSuch ∉ zs ∧ y = .int n ∧ 0 ≤ n ∧ ∀ w H',aFO H nms w H' → Q w H'
theorem tS (T:Txt K mg C):Fc P w K mg base 1 "_law_spoilt" ["_law_purses_here","_law_cell"] zF:=by
 refine T.d_l_spoilt.fc jC kN (fun f cdv A outer s H vs Q E hr h=>?_)
 obtain ⟨x,y,rfl,lh,zs,nms,held,n,rfl,hlh,lz,l1,l2,nx,rfl,n0,q⟩:=h
 have hu:=pK hr
 have big:=cX
 have lcn:(aX zs held).length = zs.length:=by unfold aX;rw [List.length_map]
 refine ⟨_,(aG (@aW _ _ (2) _ _ _ _ jC.nd rfl (Or.inl rfl) (@bB _ _ _ _ _ _ _ _ _ gO rfl T.n_dict dS (aA (pv 0) aD) (by decide) (by decide) (by rfl) (by rfl)) (by rfl) (by trivial)) (aG (@aW _ _ (3) _ _ _ _ jC.nd rfl (Or.inl rfl) (@bD _ _ _ _ _ _ _ (@bP _ (K) rfl) (@bB _ _ _ _ _ _ _ _ _ (@jN _ rfl) rfl T.n_list eS (aA (pv 2) aD) (by decide) (by decide) (by rfl) (by rfl)) (@aK _ _ _ _ _ _ _ _ bE (@aK _ _ _ _ _ _ _ _ bA (pv 1) aB) (@aO _ _ _ _ _ _ _ _ _ mK rfl T.n_len bS (aA (pv 2) aD) (by decide) (by decide) (by rfl) (by rfl))) (fun _ _=>rfl)) (by rfl) (by trivial)) (aG (@cN _ _ _ _ _ _ _ _ (@cQ _ _ _ _ _ _ _ _ oQ (@aK _ _ _ _ _ _ _ _ bE (pv 1) aB) aB (@bT _ _ (by decide) (by decide))) (aI (@jW _ _ _ _ (@aAC _ _ _ _ _ _ _ (pv 2) (pv 3) ⟨rfl,rfl,rfl,rfl⟩) (by rfl))) (aI (@cN _ _ _ _ _ _ _ _ (@cQ _ _ _ _ _ _ _ _ oQ (@aK _ _ _ _ _ _ _ _ bE (pv 1) aB) aB (@bT _ _ (by decide) (by decide))) (aI (@kX _ _ _ _ _ _ _ _ _ hu (pv 2) bI aB rfl)) (aI (@cN _ _ _ _ _ _ _ _ (@cQ _ _ _ _ _ _ _ _ oQ (@aK _ _ _ _ _ _ _ _ bE (pv 1) aB) aB (@bT _ _ (by decide) (by decide))) (aI (@aT _ _ _ _ (@bD _ _ _ _ _ _ _ (@bP _ (K) rfl) (@cJ _ _ _ _ (aA gG (aA (@cJ _ _ _ _ aD) (aA aB (aA bI aD))))) (@aK _ _ _ _ _ _ _ _ bE (@aK _ _ _ _ _ _ _ _ bA (pv 1) aB) aB) (fun _ _=>rfl)))) (aI (@kX _ _ _ _ _ _ _ _ _ hu (pv 2) (pv 3) (@bD _ _ _ _ _ _ _ (@bP _ (K) rfl) (@cJ _ _ _ _ (@aA _ _ _ _ _ aB (@aA _ _ _ _ _ aB (@aA _ _ _ _ _ (@aK _ _ _ _ _ _ _ _ iN (@aK _ _ _ _ _ _ _ _ iN aB aB) (@aK _ _ _ _ _ _ _ _ bE (@aK _ _ _ _ _ _ _ _ bA (pv 1) aB) aB)) (@aA _ _ _ _ _ (@aK _ _ _ _ _ _ _ _ cV (@aK _ _ _ _ _ _ _ _ dE aB aB) aB) (@aA _ _ _ _ _ gS (@aA _ _ _ _ _ (@fT _ _ _ _ _ (@aA _ _ _ _ _ aB (@aA _ _ _ _ _ aB aD (by rfl)) (by rfl))) aD (by rfl)) (by rfl)) (by rfl)) (by rfl)) (by rfl)) (by rfl))) (@aK _ _ _ _ _ _ _ _ bE (pv 1) aB) (fun _ _=>rfl)) rfl))))))) (aI (@aT _ _ _ _ (pv 2)))))),?_⟩
 refine ⟨_,rfl,lh,_,rfl,hlh,fun ls hls=>?_⟩
 have A1:=aL.upd (o:=.dK (aX zs held)) hls
 have s1:upd H ls (.dK (aX zs held)) ls = some (.dK (aX zs held)):=aF
 generalize upd H ls (.dK (aX zs held)) = H1 at A1 s1 ⊢
 refine gσ (σ':=[some (.ref lh),some (.int n),some (.ref ls),none]) rfl ?_
 refine ⟨_,rfl,ls,_,rfl,.inl s1,fun l2' hl2'=>?_⟩
 have ek:(aX zs held).map (fun kv=>kV kv.1) = zs.map V.str:=by
  unfold aX
  rw [List.map_map]
  rfl
 rw [ek]
 have A2:=aL.upd (o:=.lst (zs.map V.str)) hl2'
 obtain ⟨k,hk⟩:=Int.eq_ofNat_of_zero_le (Int.emod_nonneg (n / 7) (show (zs.length:Int) ≠ 0 by omega))
 have hk2:k < zs.length:=by have:=Int.emod_lt_of_pos (n / 7) (show (0:Int) < (zs.length:Int) by omega);omega
 obtain ⟨z,ez⟩:∃ z,zs[k]? = some z:=⟨_,List.getElem?_eq_getElem hk2⟩
 have mz:=List.mem_of_getElem? ez
 refine ⟨_,rfl,_,_,rfl,rfl,⟨by decide,by decide⟩,_,rfl,ls,_,rfl,A2 _ _ s1,_,_,rfl,rfl,by rw [lcn];omega,l2',_,_,.str z,rfl,rfl,SqL.of aF,?_,?_⟩
 ·rw [lcn,hk]
  exact aQ (by rw [List.getElem?_map,ez];rfl)
 have s2:=A2 _ _ s1
 have B2:=A1.trans A2
 generalize upd H1 l2' (.lst (zs.map V.str)) = H2 at A2 s2 B2 ⊢
 refine gσ (σ':=[some (.ref lh),some (.int n),some (.ref ls),some (.str z)]) rfl ?_
 have XS:∀ {H3:Hp},dB ls H2 H3 → aL H H3:=fun {H3} X b o e=>X _ _ (B2 _ _ e) (aH e hls)
 obtain ⟨m,hm⟩:=Int.eq_ofNat_of_zero_le (Int.emod_nonneg n (show (7:Int) ≠ 0 by decide))
 have hm7:m < 7:=by have:=Int.emod_lt_of_pos n (show (0:Int) < 7 by decide);omega
 have fin1:∀ {H3:Hp} {zs':List Str} {c:Str → Int},dB ls H2 H3 → H3 ls = some (.dK (aX zs' c)) → zs'.length ≤ 100 → zs'.length ≠ nms.length → aFO H nms (.ref ls) H3:=fun {H3 zs' c} X e l ne =>
  ⟨XS X,.inr ⟨ls,zs'.map Sum.inr,zs'.map fun z=>V.int (c z),zs'.map fun z=>Dv.int (c z),rfl,hls,by rw [← xE];exact e,by rw [List.length_map,List.length_map],pJ _ _,mC _ _,by rw [List.length_map];exact l,aCS (by rw [List.length_map];exact ne)⟩⟩
 have X0:∀ {o:HO},dB ls H2 (upd H2 ls o):=(aL.x (aL.refl _)).put
 have nh:∀ {k:Int},¬ decide (V.int (n % 7) = V.int k) = true → n % 7 ≠ k:=fun {k} c e=>c (decide_eq_true (by rw [e]))
 refine ⟨_,rfl,_,_,rfl,rfl,fO rfl,rfl,_,rfl,jA (fun _=>?_) (fun c1=>?_)⟩
 ·refine ⟨_,rfl,ls,rfl,.inl ⟨_,.inl s2⟩,_,rfl,_,Sum.inr z,_,s2,rfl,iI mz,_,rfl,q _ _ (fin1 (zs':=zs.filter fun y=>decide (y ≠ z)) (c:=held) X0 (by rw [aF,uM]) ?_ ?_)⟩
  ·have:=rH mz
   omega
  ·have:=rH mz
   omega
 refine ⟨_,rfl,_,_,rfl,rfl,fO rfl,rfl,_,rfl,jA (fun _=>?_) (fun c2=>?_)⟩
 ·refine ⟨_,rfl,ls,_,rfl,tE.k (k:=Sum.inr noSuch) s2 (by rw [lcn];omega),_,rfl,q _ _ (fin1 (zs':=zs ++ [noSuch]) X0 (by rw [aF,rK nx]) ?_ ?_)⟩
  ·rw [List.length_append,List.length_singleton]
   omega
  ·rw [List.length_append,List.length_singleton]
   omega
 refine ⟨_,rfl,_,_,rfl,rfl,fO rfl,rfl,_,rfl,jA (fun _=>?_) (fun c3=>?_)⟩
 ·refine ⟨aV rfl,fun e1 he1=>?_⟩
  have A3:=aL.upd (o:=.lst []) he1
  refine ⟨aV rfl,fun e2 he2=>?_⟩
  have A4:=aL.upd (o:=.lst [.non,.ref e1,.int 5,.str "purses"]) he2
  obtain ⟨j,hj⟩:=Int.eq_ofNat_of_zero_le (Int.emod_nonneg (n / 7) (show (4:Int) ≠ 0 by decide))
  have hj4:j < 4:=by have:=Int.emod_lt_of_pos (n / 7) (show (0:Int) < 4 by decide);omega
  obtain ⟨v,d,ev,iv,nd⟩:∃ v d,([.non,.ref e1,.int 5,.str "purses"]:List V)[j]? = some v ∧ Is (upd (upd H2 e1 (.lst [])) e2 (.lst [.non,.ref e1,.int 5,.str "purses"])) d v ∧ pA d = true:=by
   match j,hj4 with
   | 0,_=>exact ⟨_,.non,rfl,rfl,rfl⟩
   | 1,_=>exact ⟨_,.lst [],rfl,⟨e1,[],rfl,A4 _ _ aF,rfl⟩,rfl⟩
   | 2,_=>exact ⟨_,.int 5,rfl,rfl,rfl⟩
   | 3,_=>exact ⟨_,.str "purses",rfl,rfl,rfl⟩
  refine ⟨_,rfl,_,_,rfl,rfl,⟨by decide,by decide⟩,_,_,rfl,rfl,fO rfl,e2,_,_,v,rfl,rfl,SqL.of aF,?_,q _ _ ⟨B2.trans (A3.trans A4),.inl ⟨d,iv,nd⟩⟩⟩
  rw [hj]
  exact aQ ev
 have m0:=nh c1
 have m1:=nh c2
 have m6:=nh c3
 refine ⟨_,_,rfl,rfl,_,rfl,_,_,rfl,rfl,⟨by decide,by decide⟩,_,_,rfl,rfl,fO rfl,_,_,rfl,rfl,_,_,rfl,rfl,⟨by decide,by decide,by decide⟩,_,_,rfl,rfl,aV rfl,fun t1 ht1=>?_⟩
 have A3:=aL.upd (o:=.tup [.int 1,.int 1]) ht1
 refine ⟨aV rfl,fun e2 he2=>?_⟩
 have A4:=aL.upd (o:=.lst [.int 0,.int 0,.int (0 - 1 - n / 70 % 5),.int (10 ^ (12:Int).toNat + 1),.bl true,.ref t1]) he2
 obtain ⟨v,d,ev,iv,hd,bd⟩:∃ v d,([.int 0,.int 0,.int (0 - 1 - n / 70 % 5),.int (10 ^ (12:Int).toNat + 1),.bl true,.ref t1]:List V)[m]? = some v ∧ Is (upd (upd H2 t1 (.tup [.int 1,.int 1])) e2 (.lst [.int 0,.int 0,.int (0 - 1 - n / 70 % 5),.int (10 ^ (12:Int).toNat + 1),.bl true,.ref t1])) d v ∧ lF d = true ∧ dR d = false:=by
  have x1:=Int.emod_nonneg (n / 70) (show (5:Int) ≠ 0 by decide)
  match m,hm7 with
  | 0,_=>exact absurd hm m0
  | 1,_=>exact absurd hm m1
  | 2,_ =>
   refine ⟨_,.int (0 - 1 - n / 70 % 5),rfl,rfl,rfl,?_⟩
   show (decide (0 ≤ 0 - 1 - n / 70 % 5) && _) = false
   rw [decide_eq_false (by omega)]
   rfl
  | 3,_=>exact ⟨_,.int (10 ^ (12:Int).toNat + 1),rfl,rfl,rfl,by decide +kernel⟩
  | 4,_=>exact ⟨_,.bl true,rfl,rfl,rfl,rfl⟩
  | 5,_=>exact ⟨_,.tup [.int 1,.int 1],rfl,⟨t1,_,rfl,A4 _ _ aF,_,_,rfl,rfl,_,_,rfl,rfl,rfl⟩,rfl,rfl⟩
  | 6,_=>exact absurd hm m6
 have B4:=A3.trans A4
 have e4:upd (upd H2 t1 (.tup [.int 1,.int 1])) e2 (.lst [.int 0,.int 0,.int (0 - 1 - n / 70 % 5),.int (10 ^ (12:Int).toNat + 1),.bl true,.ref t1]) e2 = some (.lst [.int 0,.int 0,.int (0 - 1 - n / 70 % 5),.int (10 ^ (12:Int).toNat + 1),.bl true,.ref t1]):=aF
 generalize upd (upd H2 t1 (.tup [.int 1,.int 1])) e2 (.lst [.int 0,.int 0,.int (0 - 1 - n / 70 % 5),.int (10 ^ (12:Int).toNat + 1),.bl true,.ref t1]) = H4 at B4 e4 iv ⊢
 refine ⟨_,rfl,_,_,rfl,rfl,fO rfl,e2,_,_,v,rfl,rfl,SqL.of e4,?_,_,rfl,_,rfl,ls,_,rfl,tE.k (k:=Sum.inr z) (B4 _ _ s2) (by rw [lcn];omega),?_⟩
 ·rw [hm]
  exact aQ ev
 have X5:dB ls H2 (upd H4 ls (.dK (eU (aX zs held) (Sum.inr z) v))):=(aL.x B4).put
 have kt:jS H4 (upd H4 ls (.dK (eU (aX zs held) (Sum.inr z) v))):=fun b xs e=>by rw [aJ (fun k=>by rw [k,B4 _ _ s2] at e;cases e)];exact e
 refine ⟨_,rfl,q _ _ ⟨XS X5,.inr ⟨ls,zs.map Sum.inr,zs.map fun y=>if y = z then v else V.int (held y),zs.map fun y=>if y = z then d else Dv.int (held y),rfl,hls,by rw [aF,wO mz],by rw [List.length_map,List.length_map],wS (Is.keep kt _ _ hd iv) _ _,tY hd _ _,by rw [List.length_map];omega,aCQ bd mz⟩⟩⟩
def wG (C:Addr):Sp:=sp2 fun x y H Q=>∃ (pl:Addr) (fs gs:List Dv) (H0:Hp),x = .ref pl ∧ LandAt C H0 pl fs gs ∧ aFO H0 (fs.map aU) y H ∧ ∀ H',aL H0 H' → Q (.bl true) H'
theorem sJ (T:Txt K mg C):Fc P w K mg base 6 "_law_refused" ["_law_land","_law_purses_here"] (wG C):=by
 obtain ⟨c_NoPurse,c_NoVoice,c_DykeError,c_Short,ex_NoPurse,ex_NoVoice,hm_NoPurse,hm_NoVoice,hm_DykeError,hm_Short,kx_NoPurse_DykeError,kx_NoPurse_NoPurse,kx_NoPurse_ValueError,kx_NoPurse_NoVoice,kx_NoPurse_Short,kx_NoVoice_DykeError,kx_NoVoice_NoPurse,kx_NoVoice_ValueError,kx_NoVoice_NoVoice,kx_NoVoice_Short,xc_NoPurse_DykeError,xc_NoVoice_DykeError⟩:=T.xs
 obtain ⟨C_Moot,cl_Moot,mg_Moot,na_land_now,na_purse_of,na_works_done,i_Moot,m_moot_p_move,m_moot_p_put,m_moot_p_land,m_moot_p_purses,m_moot_p_done⟩:=T.k_Moot
 have G_moot_pinit:IcX P w K mg base 4 C_Moot ["self","land","purses"] (tG mg C_Moot C):=oU T mg_Moot
 refine T.d_l_refused.fc kS kN (fun f cdv A outer s H vs Q E hr h=>?_)
 obtain ⟨x,y,rfl,pl,fs,gs,H0,rfl,L,⟨S0,hb⟩,q⟩:=h
 refine ⟨_,(aG (@nK _ _ _ _ _ _ _ _ _ _ _ _ (2) kS.nd rfl rfl hm_DykeError (@aCM _ _ _ _ (@aGK _ _ _ _ _ _ _ _ _ _ _ mg_Moot G_moot_pinit (hr.mono (by decide)) (aA (pv 0) (aA (pv 1) aD)) (by rfl) (by decide) (by rfl) (by rfl)) (by rfl)) (fun ea=>(aI (@aT _ _ _ _ (@cE _ _ _ _ _ _ _ (@aO _ _ _ _ _ _ _ _ _ (@bC _ (K) rfl) rfl T.n_isinstance aM (aA (pv 2) (aA (@eQ _ _ (.ref c_NoPurse) _ _ rfl hm_NoPurse rfl (by decide)) aD)) (by decide) (by decide) (by rfl) (by rfl)) (@cE _ _ _ _ _ _ _ (@aO _ _ _ _ _ _ _ _ _ (@bC _ (K) rfl) rfl T.n_isinstance aM (aA (pv 2) (aA (@gR _ _ _ _ T.n_ValueError PyProof.Rows.Boot.«ValueError» (by rfl) (by decide) (by decide)) aD)) (by decide) (by decide) (by rfl) (by rfl)) (@dD _ _ _ _ _ (@aAA _ _ _ _ (@aO _ _ _ _ _ _ _ _ _ (@bC _ (K) rfl) rfl T.n_isinstance aM (aA (pv 2) (aA (@eQ _ _ (.ref c_NoVoice) _ _ rfl hm_NoVoice rfl (by decide)) aD)) (by decide) (by decide) (by rfl) (by rfl))))))))) (by rfl) (by decide) (by rfl) (by rfl)) (aI (@aT _ _ _ _ gS))),?_⟩
 refine ⟨_,rfl,_,rfl,fun p dx np ndx nex=>?_⟩
 have S4:aL H (upd (upd H dx (.own p)) p (.ins C_Moot dx [])):=fun b o e=>by
  rw [aJ (aH e np),aJ (aH e ndx)]
  exact e
 have hp4:upd (upd H dx (.own p)) p (.ins C_Moot dx []) p = some (.ins C_Moot dx []):=aF
 generalize upd (upd H dx (.own p)) p (.ins C_Moot dx []) = H4 at S4 hp4 ⊢
 refine ⟨_,_,_,p,dx,pl,fs,gs,c_NoPurse,rfl,rfl,hp4,rfl,L.same (S0.trans S4),hm_NoPurse,?_⟩
 rcases hb with ⟨d,hd,nd⟩ | ⟨a,ks,vs,ds,rfl,na,ha,lvs,iv,hv,lk,bad⟩
 ·refine .inl ⟨d,Is.same S4 _ _ hd,nd,fun H5 S5=>⟨xc_NoPurse_DykeError,fun ea hea=>?_⟩⟩
  have S6:=aL.upd (o:=iH ea (.ref c_NoPurse)) hea
  have he:upd H5 ea (iH ea (.ref c_NoPurse)) ea = some (iH ea (.ref c_NoPurse)):=aF
  have T6:=S0.trans (S4.trans (S5.trans S6))
  generalize upd H5 ea (iH ea (.ref c_NoPurse)) = H6 at he T6 ⊢
  refine ⟨_,rfl,ea,_,_,c_NoPurse,true,rfl,rfl,he,ex_NoPurse,kx_NoPurse_NoPurse,_,rfl,eA ?_⟩
  refine ⟨_,rfl,ea,_,_,c_NoPurse,true,rfl,rfl,he,ex_NoPurse,kx_NoPurse_ValueError,_,rfl,eA ?_⟩
  refine ⟨_,rfl,ea,_,_,c_NoPurse,false,rfl,rfl,he,ex_NoPurse,kx_NoPurse_NoVoice,?_⟩
  exact ⟨_,rfl,q _ T6⟩
 ·refine .inr ⟨a,ks,vs,ds,rfl,S4 _ _ ha,lvs,IsL.same S4 _ _ iv,hv,lk,bad,fun H5 X5=>⟨xc_NoPurse_DykeError,fun ea hea=>?_⟩⟩
  have S6:=aL.upd (o:=iH ea (.ref c_NoPurse)) hea
  have he:upd H5 ea (iH ea (.ref c_NoPurse)) ea = some (iH ea (.ref c_NoPurse)):=aF
  have S5:aL H0 H5:=fun b o e=>X5 _ _ (S4 _ _ (S0 _ _ e)) (aH e na)
  have T6:=S5.trans S6
  generalize upd H5 ea (iH ea (.ref c_NoPurse)) = H6 at he T6 ⊢
  refine ⟨_,rfl,ea,_,_,c_NoPurse,true,rfl,rfl,he,ex_NoPurse,kx_NoPurse_NoPurse,_,rfl,eA ?_⟩
  refine ⟨_,rfl,ea,_,_,c_NoPurse,true,rfl,rfl,he,ex_NoPurse,kx_NoPurse_ValueError,_,rfl,eA ?_⟩
  refine ⟨_,rfl,ea,_,_,c_NoPurse,false,rfl,rfl,he,ex_NoPurse,kx_NoPurse_NoVoice,?_⟩
  exact ⟨_,rfl,q _ T6⟩
def zG (CM C:Addr):Sp:=sp3 fun x y z H Q=>∃ (p dp lw pl:Addr) (fs gs:List Dv) (held:Str → Int),x = .ref p ∧ MootAt CM C H p dp lw pl fs gs held ∧
  ((∃ (s:Str) (c:Int),y = .str s ∧ s ∈ fs.map aU ∧ z = .int c ∧ 0 ≤ c ∧ c ≤ 1000000000000 ∧ 0 ≤ held s ∧ held s ≤ 10 ^ 14 ∧ ∀ H',MootAt CM C H' p dp lw pl fs gs (fun w=>if w = s then held s + c else held w) → dB dp H H' → Q (.str "put") H') ∨
   (∃ d,Is H d y ∧ dG (fs.map aU) d = false ∧ ∀ H',aL H H' → Q (.str "voice") H') ∨
   (∃ d e,Is H d y ∧ dG (fs.map aU) d = true ∧ Is H e z ∧ dR e = false ∧ ∀ H',aL H H' → Q (.str "purse") H'))
theorem aAG (T:Txt K mg C) {CM:Addr} (hCM:mg "Moot" = some (.ref CM)):Fc P w K mg base 6 "_law_put" ["_law_moot","_law_field","_law_coins"] (zG CM C):=by
 obtain ⟨c_NoPurse,c_NoVoice,c_DykeError,c_Short,ex_NoPurse,ex_NoVoice,hm_NoPurse,hm_NoVoice,hm_DykeError,hm_Short,kx_NoPurse_DykeError,kx_NoPurse_NoPurse,kx_NoPurse_ValueError,kx_NoPurse_NoVoice,kx_NoPurse_Short,kx_NoVoice_DykeError,kx_NoVoice_NoPurse,kx_NoVoice_ValueError,kx_NoVoice_NoVoice,kx_NoVoice_Short,xc_NoPurse_DykeError,xc_NoVoice_DykeError⟩:=T.xs
 obtain ⟨C_Moot,cl_Moot,mg_Moot,na_land_now,na_purse_of,na_works_done,i_Moot,m_moot_p_move,m_moot_p_put,m_moot_p_land,m_moot_p_purses,m_moot_p_done⟩:=T.k_Moot
 rw [hCM] at mg_Moot
 cases mg_Moot
 refine T.d_l_put.fc eD aAJ (fun f cdv A outer s H vs Q E hr h=>?_)
 have hu:=pK hr
 obtain ⟨x,y,z,rfl,p,dp,lw,pl,fs,gs,held,rfl,M,hh⟩:=h
 obtain ⟨⟨dx,F,kvs,hp,mf,hdp,fr,hlw⟩,_⟩:=id M
 rcases hh with ⟨s,c,rfl,ms,rfl,c0,c1,h0,h1,q⟩ | ⟨d,hd,bad,q⟩ | ⟨d,e,hd,good,he',bad,q⟩
 ·have G_moot_p_put:McX P w K mg base 4 CM "put" ["self","field","coins"] (aDV CM C):=(qI T hCM).up
  refine ⟨_,(aG (@aW _ _ (3) _ _ _ _ eD.nd rfl (Or.inl rfl) gG (by rfl) (by trivial)) (aG (@nK _ _ _ _ _ _ _ _ _ _ _ _ (4) eD.nd rfl rfl hm_DykeError (@uY _ _ _ _ (3) _ _ eD.nd rfl (Or.inl rfl) (@aEU _ _ _ _ _ _ _ _ _ _ _ _ _ _ cl_Moot G_moot_p_put (hr.mono (by decide)) (pv 0) (aA (pv 1) (aA (pv 2) aD)) (by rfl) (by rfl) (by rfl)) (by rfl) (by trivial)) (fun ea=>(aG (@cN _ _ _ _ _ _ _ _ (@PW.pt _ _ _ (@iA _ _ _ _ _ _ _ (@cD _ _ _ _ (@bW _ _ _ (@aO _ _ _ _ _ _ _ _ _ (@bC _ (K) rfl) rfl T.n_isinstance aM (aA (pv 4) (aA (@gR _ _ _ _ T.n_ValueError PyProof.Rows.Boot.«ValueError» (by rfl) (by decide) (by decide)) aD)) (by decide) (by decide) (by rfl) (by rfl)) (by intro _;rfl))) (@fS _ _ _ _ (@bW _ _ _ (@aO _ _ _ _ _ _ _ _ _ (@bC _ (K) rfl) rfl T.n_isinstance aM (aA (pv 4) (aA (@eQ _ _ (.ref c_Short) _ _ rfl hm_Short rfl (by decide)) aD)) (by decide) (by decide) (by rfl) (by rfl)) (by intro _;rfl))))) (aI (@aT _ _ _ _ bI)) bM) (aI (@aT _ _ _ _ (@aK _ _ _ _ _ _ _ _ gI (@aK _ _ _ _ _ _ _ _ fE bI (@bB _ _ _ _ _ _ _ _ _ eB rfl T.n_int dC (aA (@aO _ _ _ _ _ _ _ _ _ (@bC _ (K) rfl) rfl T.n_isinstance aM (aA (pv 4) (aA (@eQ _ _ (.ref c_NoVoice) _ _ rfl hm_NoVoice rfl (by decide)) aD)) (by decide) (by decide) (by rfl) (by rfl)) aD) (by decide) (by decide) (by rfl) (by rfl))) (@aK _ _ _ _ _ _ _ _ fE bI (@bB _ _ _ _ _ _ _ _ _ eB rfl T.n_int dC (aA (@aO _ _ _ _ _ _ _ _ _ (@bC _ (K) rfl) rfl T.n_isinstance aM (aA (pv 4) (aA (@eQ _ _ (.ref c_NoPurse) _ _ rfl hm_NoPurse rfl (by decide)) aD)) (by decide) (by decide) (by rfl) (by rfl)) aD) (by decide) (by decide) (by rfl) (by rfl)))))))) (by rfl) (by decide) (by rfl) (by rfl)) (aI (@aT _ _ _ _ (@bD _ _ _ _ _ _ _ (@bP _ (K) rfl) (@cJ _ _ _ _ (aA bI (aA bI aD))) (@bB _ _ _ _ _ _ _ _ _ eB rfl T.n_int dC (aA (@dF _ _ _ _ _ _ _ _ sG (pv 3) gG (@bT _ _ (by decide) (by decide))) aD) (by decide) (by decide) (by rfl) (by rfl)) (fun _ _=>rfl)))))),?_⟩
  refine ⟨_,rfl,p,dx,F,rfl,hp,mf.no _ (by decide +kernel),_,rfl,_,rfl,_,_,_,rfl,p,dp,lw,pl,fs,gs,held,s,c,rfl,M,rfl,ms,rfl,c0,c1,h0,h1,fun H1 M1 X1=>?_⟩
  refine ⟨aV rfl,fun l1 hl1=>?_⟩
  have A1:=aL.upd (o:=.lst [.str "other",.str "put"]) hl1
  refine ⟨_,rfl,rfl,.inr ⟨true,rfl,l1,_,1,.str "put",rfl,rfl,SqL.of aF,aQ (j:=1) rfl,q _ (M1.same A1) (X1.then A1)⟩⟩
 ·have G_moot_p_put:McX P w K mg base 4 CM "put" ["self","field","coins"] (qT mg CM C):=oV T hCM
  refine ⟨_,(aG (@aW _ _ (3) _ _ _ _ eD.nd rfl (Or.inl rfl) gG (by rfl) (by trivial)) (aG (@nK _ _ _ _ _ _ _ _ _ _ _ _ (4) eD.nd rfl rfl hm_DykeError (@uY _ _ _ _ (3) _ _ eD.nd rfl (Or.inl rfl) (@aEU _ _ _ _ _ _ _ _ _ _ _ _ _ _ cl_Moot G_moot_p_put (hr.mono (by decide)) (pv 0) (aA (pv 1) (aA (pv 2) aD)) (by rfl) (by rfl) (by rfl)) (by rfl) (by trivial)) (fun ea=>(aG (@cN _ _ _ _ _ _ _ _ (@PW.pt _ _ _ (@iA _ _ _ _ _ _ _ (@cD _ _ _ _ (@bW _ _ _ (@aO _ _ _ _ _ _ _ _ _ (@bC _ (K) rfl) rfl T.n_isinstance aM (aA (pv 4) (aA (@gR _ _ _ _ T.n_ValueError PyProof.Rows.Boot.«ValueError» (by rfl) (by decide) (by decide)) aD)) (by decide) (by decide) (by rfl) (by rfl)) (by intro _;rfl))) (@fS _ _ _ _ (@bW _ _ _ (@aO _ _ _ _ _ _ _ _ _ (@bC _ (K) rfl) rfl T.n_isinstance aM (aA (pv 4) (aA (@eQ _ _ (.ref c_Short) _ _ rfl hm_Short rfl (by decide)) aD)) (by decide) (by decide) (by rfl) (by rfl)) (by intro _;rfl))))) (aI (@aT _ _ _ _ bI)) bM) (aI (@aT _ _ _ _ (@aK _ _ _ _ _ _ _ _ gI (@aK _ _ _ _ _ _ _ _ fE bI (@bB _ _ _ _ _ _ _ _ _ eB rfl T.n_int dC (aA (@aO _ _ _ _ _ _ _ _ _ (@bC _ (K) rfl) rfl T.n_isinstance aM (aA (pv 4) (aA (@eQ _ _ (.ref c_NoVoice) _ _ rfl hm_NoVoice rfl (by decide)) aD)) (by decide) (by decide) (by rfl) (by rfl)) aD) (by decide) (by decide) (by rfl) (by rfl))) (@aK _ _ _ _ _ _ _ _ fE bI (@bB _ _ _ _ _ _ _ _ _ eB rfl T.n_int dC (aA (@aO _ _ _ _ _ _ _ _ _ (@bC _ (K) rfl) rfl T.n_isinstance aM (aA (pv 4) (aA (@eQ _ _ (.ref c_NoPurse) _ _ rfl hm_NoPurse rfl (by decide)) aD)) (by decide) (by decide) (by rfl) (by rfl)) aD) (by decide) (by decide) (by rfl) (by rfl)))))))) (by rfl) (by decide) (by rfl) (by rfl)) (aI (@aT _ _ _ _ (@bD _ _ _ _ _ _ _ (@bP _ (K) rfl) (@cJ _ _ _ _ (aA bI (aA bI aD))) (@bB _ _ _ _ _ _ _ _ _ eB rfl T.n_int dC (aA (@dF _ _ _ _ _ _ _ _ sG (pv 3) gG (@bT _ _ (by decide) (by decide))) aD) (by decide) (by decide) (by rfl) (by rfl)) (fun _ _=>rfl)))))),?_⟩
  refine ⟨_,rfl,p,dx,F,rfl,hp,mf.no _ (by decide +kernel),_,rfl,_,rfl,_,_,_,p,dp,lw,pl,fs,gs,held,d,c_NoVoice,rfl,rfl,M,hd,bad,hm_NoVoice,fun H5 S5=>⟨xc_NoVoice_DykeError,fun ea hea=>?_⟩⟩
  have S6:=aL.upd (o:=iH ea (.ref c_NoVoice)) hea
  have he:upd H5 ea (iH ea (.ref c_NoVoice)) ea = some (iH ea (.ref c_NoVoice)):=aF
  have T6:=S5.trans S6
  generalize upd H5 ea (iH ea (.ref c_NoVoice)) = H6 at he T6 ⊢
  refine ⟨_,rfl,ea,_,_,c_NoVoice,true,rfl,rfl,he,ex_NoVoice,kx_NoVoice_ValueError,_,rfl,bX ?_⟩
  refine ⟨_,rfl,ea,_,_,c_NoVoice,false,rfl,rfl,he,ex_NoVoice,kx_NoVoice_Short,_,rfl,bX ?_⟩
  refine ⟨_,rfl,ea,_,_,c_NoVoice,true,rfl,rfl,he,ex_NoVoice,kx_NoVoice_NoVoice,.inr ⟨true,rfl,_,1,rfl,rfl,by decide +kernel,by decide,by decide,?_⟩⟩
  refine ⟨_,rfl,ea,_,_,c_NoVoice,false,rfl,rfl,he,ex_NoVoice,kx_NoVoice_NoPurse,.inr ⟨false,rfl,_,0,rfl,rfl,by decide +kernel,by decide,by decide,?_⟩⟩
  refine ⟨_,_,rfl,rfl,by decide +kernel,?_⟩
  have e:(Txt.mul ("voice":Str) 1 ++ Txt.mul ("purse":Str) 0:Str) = "voice":=by decide +kernel
  rw [e]
  exact q _ T6
 ·have G_moot_p_put:McX P w K mg base 4 CM "put" ["self","field","coins"] (qU mg CM C):=oW T hCM
  refine ⟨_,(aG (@aW _ _ (3) _ _ _ _ eD.nd rfl (Or.inl rfl) gG (by rfl) (by trivial)) (aG (@nK _ _ _ _ _ _ _ _ _ _ _ _ (4) eD.nd rfl rfl hm_DykeError (@uY _ _ _ _ (3) _ _ eD.nd rfl (Or.inl rfl) (@aEU _ _ _ _ _ _ _ _ _ _ _ _ _ _ cl_Moot G_moot_p_put (hr.mono (by decide)) (pv 0) (aA (pv 1) (aA (pv 2) aD)) (by rfl) (by rfl) (by rfl)) (by rfl) (by trivial)) (fun ea=>(aG (@cN _ _ _ _ _ _ _ _ (@PW.pt _ _ _ (@iA _ _ _ _ _ _ _ (@cD _ _ _ _ (@bW _ _ _ (@aO _ _ _ _ _ _ _ _ _ (@bC _ (K) rfl) rfl T.n_isinstance aM (aA (pv 4) (aA (@gR _ _ _ _ T.n_ValueError PyProof.Rows.Boot.«ValueError» (by rfl) (by decide) (by decide)) aD)) (by decide) (by decide) (by rfl) (by rfl)) (by intro _;rfl))) (@fS _ _ _ _ (@bW _ _ _ (@aO _ _ _ _ _ _ _ _ _ (@bC _ (K) rfl) rfl T.n_isinstance aM (aA (pv 4) (aA (@eQ _ _ (.ref c_Short) _ _ rfl hm_Short rfl (by decide)) aD)) (by decide) (by decide) (by rfl) (by rfl)) (by intro _;rfl))))) (aI (@aT _ _ _ _ bI)) bM) (aI (@aT _ _ _ _ (@aK _ _ _ _ _ _ _ _ gI (@aK _ _ _ _ _ _ _ _ fE bI (@bB _ _ _ _ _ _ _ _ _ eB rfl T.n_int dC (aA (@aO _ _ _ _ _ _ _ _ _ (@bC _ (K) rfl) rfl T.n_isinstance aM (aA (pv 4) (aA (@eQ _ _ (.ref c_NoVoice) _ _ rfl hm_NoVoice rfl (by decide)) aD)) (by decide) (by decide) (by rfl) (by rfl)) aD) (by decide) (by decide) (by rfl) (by rfl))) (@aK _ _ _ _ _ _ _ _ fE bI (@bB _ _ _ _ _ _ _ _ _ eB rfl T.n_int dC (aA (@aO _ _ _ _ _ _ _ _ _ (@bC _ (K) rfl) rfl T.n_isinstance aM (aA (pv 4) (aA (@eQ _ _ (.ref c_NoPurse) _ _ rfl hm_NoPurse rfl (by decide)) aD)) (by decide) (by decide) (by rfl) (by rfl)) aD) (by decide) (by decide) (by rfl) (by rfl)))))))) (by rfl) (by decide) (by rfl) (by rfl)) (aI (@aT _ _ _ _ (@bD _ _ _ _ _ _ _ (@bP _ (K) rfl) (@cJ _ _ _ _ (aA bI (aA bI aD))) (@bB _ _ _ _ _ _ _ _ _ eB rfl T.n_int dC (aA (@dF _ _ _ _ _ _ _ _ sG (pv 3) gG (@bT _ _ (by decide) (by decide))) aD) (by decide) (by decide) (by rfl) (by rfl)) (fun _ _=>rfl)))))),?_⟩
  refine ⟨_,rfl,p,dx,F,rfl,hp,mf.no _ (by decide +kernel),_,rfl,_,rfl,_,_,_,p,dp,lw,pl,fs,gs,held,d,e,c_NoPurse,rfl,rfl,M,hd,good,he',bad,hm_NoPurse,fun H5 S5=>⟨xc_NoPurse_DykeError,fun ea hea=>?_⟩⟩
  have S6:=aL.upd (o:=iH ea (.ref c_NoPurse)) hea
  have he:upd H5 ea (iH ea (.ref c_NoPurse)) ea = some (iH ea (.ref c_NoPurse)):=aF
  have T6:=S5.trans S6
  generalize upd H5 ea (iH ea (.ref c_NoPurse)) = H6 at he T6 ⊢
  refine ⟨_,rfl,ea,_,_,c_NoPurse,true,rfl,rfl,he,ex_NoPurse,kx_NoPurse_ValueError,_,rfl,bX ?_⟩
  refine ⟨_,rfl,ea,_,_,c_NoPurse,false,rfl,rfl,he,ex_NoPurse,kx_NoPurse_Short,_,rfl,bX ?_⟩
  refine ⟨_,rfl,ea,_,_,c_NoPurse,false,rfl,rfl,he,ex_NoPurse,kx_NoPurse_NoVoice,.inr ⟨false,rfl,_,0,rfl,rfl,by decide +kernel,by decide,by decide,?_⟩⟩
  refine ⟨_,rfl,ea,_,_,c_NoPurse,true,rfl,rfl,he,ex_NoPurse,kx_NoPurse_NoPurse,.inr ⟨true,rfl,_,1,rfl,rfl,by decide +kernel,by decide,by decide,?_⟩⟩
  refine ⟨_,_,rfl,rfl,by decide +kernel,?_⟩
  have e:(Txt.mul ("voice":Str) 0 ++ Txt.mul ("purse":Str) 1:Str) = "purse":=by decide +kernel
  rw [e]
  exact q _ T6
def frP (held:Str → Int) (z:Str):Dv:=.tup [.str z,frD held z]
theorem aAX (held:Str → Int) (zs:List Str):aR 30 (.lst (zs.map (frP held))) = true:=pM fun d m=>by
 obtain ⟨z,_,rfl⟩:=List.mem_map.mp m
 rfl
theorem rG {H:Hp} {held:Str → Int}:∀ {zs:List Str} {kvs:List (Key × V)} {as:List Addr},kvs.map (·.1) = zs.map (Sum.inr:Str → Key) → IsL H (zs.map (frD held)) (kvs.map (·.2)) → nP H as kvs → IsL H (zs.map (frP held)) (as.map V.ref)
 | [],[],[],_,_,_=>rfl
 | [],[],a :: as,_,_,⟨k,v,r,e,_,_⟩=>by cases e
 | [],kv :: kvs,_,e,_,_=>by cases e
 | y :: zs,[],_,e,_,_=>by cases e
 | y :: zs,kv :: kvs,[],_,_,h=>by cases h
 | y :: zs,kv :: kvs,a :: as,e,i,⟨k,v,r,ek,ha,t⟩=>by
  rw [List.map_cons,List.map_cons] at e
  obtain ⟨e1,e2⟩:=List.cons.inj e
  obtain ⟨v',r',ev,iv,ir⟩:=i
  rw [List.map_cons] at ev
  obtain ⟨rfl,rfl⟩:=List.cons.inj ev
  cases ek
  refine ⟨_,_,rfl,⟨a,_,rfl,ha,_,_,rfl,?_,_,_,rfl,iv,rfl⟩,rG e2 ir t⟩
  rw [show k = Sum.inr y from e1]
  rfl
theorem pP {d:Dv} {x y:V} {H:Hp} {Q:VK} (hx:Is H d x) (hy:Is H d y) (f:aR 30 d = true) (q:Q (.bl true) H):aCF false x y H Q:=⟨d,d,hx,hy,f,f,by rw [lI 30 d f];exact q⟩
def wD (CM C:Addr):Sp:=sp4 fun x y z u H Q=>∃ (p dp lw pl lf ld lh:Addr) (vf vd:List V) (fs gs:List Dv) (held hd:Str → Int) (zs:List Str),x = .ref p ∧ MootAt CM C H p dp lw pl fs gs held ∧ y = .ref lf ∧ H lf = some (.lst vf) ∧ IsL H fs vf ∧ z = .ref ld ∧ H ld = some (.lst vd) ∧ IsL H gs vd ∧ u = .ref lh ∧ H lh = some (.dK (aX zs hd)) ∧ (∀ w ∈ fs.map aU,w ∈ zs ∧ hd w = held w) ∧ ∀ H',aL H H' → Q (.bl true) H'
theorem vD (T:Txt K mg C) {CM:Addr} (hCM:mg "Moot" = some (.ref CM)):Fc P w K mg base 3 "_law_tells" ["_law_moot","_law_fields_here","_law_dykes_here","_law_held"] (wD CM C):=by
 obtain ⟨C_Moot,cl_Moot,mg_Moot,na_land_now,na_purse_of,na_works_done,i_Moot,m_moot_p_move,m_moot_p_put,m_moot_p_land,m_moot_p_purses,m_moot_p_done⟩:=T.k_Moot
 rw [hCM] at mg_Moot
 cases mg_Moot
 have G_moot_p_purses:Mc P w K mg base 1 CM "purses" ["self"] (zE CM C):=lT T hCM
 have G_moot_p_land:Mc P w K mg base 1 CM "land" ["self"] (wH CM C):=oX T hCM
 have G_moot_p_done:Mc P w K mg base 1 CM "done" ["self"] (wJ CM C):=oY T hCM
 have G_land_p_fields:Mc P w K mg base 1 C "fields" ["self"] (nX C fun fs _=>fs):=lU T
 have G_land_p_dykes:Mc P w K mg base 1 C "dykes" ["self"] (nX C fun _ ds=>ds):=nC T
 refine T.d_l_tells.fc iL aGR (fun f cdv A outer s H vs Q E hr h=>?_)
 obtain ⟨x,y,z,u,rfl,p,dp,lw,pl,lf,ld,lh,vf,vd,fs,gs,held,hd,zs,rfl,M,rfl,hlf,ivf,rfl,hld,ivd,rfl,hlh,agr,q⟩:=h
 have hu:=pK hr
 have big:=cX
 have L:=M.lnd
 have gf:=(iD L).1
 have f2:=gf.l2
 have lvf:=ivf.length
 obtain ⟨⟨dx,F,kvs0,hp,mf,hdp,fr0,hlw⟩,_⟩:=id M
 obtain ⟨dxl,e1,e2,hxl,_⟩:=L.ex
 have nmo:∀ {m:Str},¬ m ∈ aFD → F.lookup m = none:=fun h=>mf.no _ h
 refine ⟨_,(aG (@aW _ _ (4) _ _ _ _ iL.nd rfl (Or.inl rfl) (@jH _ _ _ _ _ _ _ _ _ _ _ cl_Moot G_moot_p_purses (hr.mono (by decide)) (pv 0) (by rfl)) (by rfl) (by trivial)) (aG (@oN _ (5) _ _ _ _ _ _ _ _ _ _ _ _ _ iL.nd rfl ["_law_field","_law_held"] 1 [3] rfl (@dX _ (K) _ _ _ rfl (@dY _ _ _ _ (pv 1))) (fun R=>@bN _ _ (0) _ (show List.Nodup (["_law_field","_law_held"]:List Str) by decide +kernel) rfl (Or.inl rfl) (by trivial)) (@bR _ _ (by decide)) (fun R=>cT) (fun R=>(@fT _ _ _ _ _ (aA (@bD _ _ _ _ _ _ _ (@bF _ (K) rfl) (pv 0) aB (fun _ _=>rfl)) (aA (@fT _ _ _ _ _ (aA (@jX _ _ _ _ _ _ hu (pv 1) (@bD _ _ _ _ _ _ _ (@bF _ (K) rfl) (pv 0) aB (fun _ _=>rfl)) (fun _ _=>rfl)) (@aA _ _ _ _ _ aB aD (by rfl)))) aD)))) (by exact Or.inl rfl) (by trivial) (by rfl) (by rfl) (by rfl) (by rfl) (by rfl) (by rfl) (by rfl) (by rfl) (by intro _;rfl)) (aG (@cN _ _ _ _ _ _ _ _ (@PW.pt _ _ _ (@iA _ _ _ _ _ _ _ (@cD _ _ _ _ (@bW _ _ _ (@aO _ _ _ _ _ _ _ _ _ (@bY _ (K) rfl) rfl T.n_isinstance aM (aA (pv 4) (aA (@gR _ _ _ _ T.n_dict dS (by rfl) (by decide) (by decide)) aD)) (by decide) (by decide) (by rfl) (by rfl)) (by intro _;rfl))) (@fS _ _ _ _ (@cQ _ _ _ _ _ _ _ _ (@aEY _ hr.units) (@bB _ _ _ _ _ _ _ _ _ (nF rfl) rfl T.n_list eS (aA (@sF _ _ _ _ _ _ _ _ _ PySem.F.plainAttrs_dict PySem.F.slot_dict_items PySem.F.type_dict_items tX (pv 4) (by rfl) (by rfl)) aD) (by decide) (by decide) (by rfl) (by rfl)) (pv 5) (@bT _ _ (by decide) (by decide)))))) (aI (@aT _ _ _ _ gS)) bM) (aG (@lQ _ _ _ _ _ _ _ _ PassesOwn.never rfl (@aCH _ _ _ _ (pv 4)) (@bN _ _ (6) _ iL.nd rfl (Or.inl rfl) (by trivial)) (aI (@cN _ _ _ _ _ _ _ _ (@PW.pt _ _ _ (@iA _ _ _ _ _ _ _ (@cD _ _ _ _ (@bW _ _ _ (@aO _ _ _ _ _ _ _ _ _ (@bY _ (K) rfl) rfl T.n_isinstance aM (aA (@jX _ _ _ _ _ _ hu (pv 4) (pv 6) (fun _ _=>rfl)) (aA (@gR _ _ _ _ T.n_tuple mV (by rfl) (by decide) (by decide)) aD)) (by decide) (by decide) (by rfl) (by rfl)) (by intro _;rfl))) (@fS _ _ _ _ (@bW _ _ _ (@aO _ _ _ _ _ _ _ _ _ (@bY _ (K) rfl) rfl T.n_isinstance aM (aA (@bD _ _ _ _ _ _ _ (@bF _ (K) rfl) (@jX _ _ _ _ _ _ hu (pv 4) (pv 6) (fun _ _=>rfl)) aB (fun _ _=>rfl)) (aA (@gR _ _ _ _ T.n_bool pZ (by rfl) (by decide) (by decide)) aD)) (by decide) (by decide) (by rfl) (by rfl)) (by intro _;rfl))))) (aI (@aT _ _ _ _ gS)) bM)) (by intro _;rfl)) (aG (@jW _ _ _ _ (aAD PySem.F.slot_dict_clear PySem.F.type_dict_clear qZ (pv 4)) (by rfl)) (aI (@aT _ _ _ _ (@cE _ _ _ _ _ _ _ (@dF _ _ _ _ _ _ _ _ (@vB _ hr.units) (@jH _ _ _ _ _ _ _ _ _ _ _ T.cl_Land G_land_p_fields (hr.mono (by decide)) (@jH _ _ _ _ _ _ _ _ _ _ _ cl_Moot G_moot_p_land (hr.mono (by decide)) (pv 0) (by rfl)) (by rfl)) (pv 1) (@bT _ _ (by decide) (by decide))) (@cE _ _ _ _ _ _ _ (@dF _ _ _ _ _ _ _ _ (@vB _ hr.units) (@jH _ _ _ _ _ _ _ _ _ _ _ T.cl_Land G_land_p_dykes (hr.mono (by decide)) (@jH _ _ _ _ _ _ _ _ _ _ _ cl_Moot G_moot_p_land (hr.mono (by decide)) (pv 0) (by rfl)) (by rfl)) (pv 2) (@bT _ _ (by decide) (by decide))) (@dD _ _ _ _ _ (@dF _ _ _ _ _ _ _ _ (@vB _ hr.units) (@jH _ _ _ _ _ _ _ _ _ _ _ cl_Moot G_moot_p_done (hr.mono (by decide)) (pv 0) (by rfl)) (@cJ _ _ _ _ aD) (@bT _ _ (by decide) (by decide))))))))))))),?_⟩
 refine tL fun u1 hu1=>?_
 refine ⟨_,rfl,p,dx,F,rfl,hp,mf.no _ (by decide +kernel),_,rfl,p,dp,lw,pl,fs,gs,held,rfl,M,fun d kvs hd0 fr=>?_⟩
 have A1:=aL.upd (o:=.dK kvs) hd0
 have hd1:upd H d (.dK kvs) d = some (.dK kvs):=aF
 generalize upd H d (.dK kvs) = H1 at A1 hd1 ⊢
 refine gσ (σ':=[some (.ref p),some (.ref lf),some (.ref ld),some (.ref lh),some (.ref d),none,none]) rfl ?_
 refine ⟨_,rfl,lf,rfl,⟨_,SqL.of (A1 _ _ hlf)⟩,?_⟩
 refine cL (F:=K) (xs:=vf) (by omega) (fun i ys H'=>aL H1 H' ∧ IsL H' (((fs.map aU).take i).map (frP held)) ys) ⟨aL.refl _,rfl⟩ ?_ ?_ ?_
 ·rintro i ys H' hi' ⟨S,iy⟩
  have:=iy.length
  rw [List.length_map,List.length_take,List.length_map] at this
  exact ⟨SqL.of (S _ _ (A1 _ _ hlf)),by omega⟩
 ·rintro i xv ys H' K1 K2 hxi ⟨S,iy⟩ k1 k2
  have hil:i < vf.length:=(List.getElem?_eq_some_iff.mp hxi).1
  obtain ⟨e,ed⟩:∃ e,fs[i]? = some e:=⟨_,List.getElem?_eq_getElem (by omega)⟩
  obtain ⟨v,ev,iv⟩:=ivf.get ed
  rw [hxi] at ev
  cases ev
  obtain ⟨w,g,e',rfl,_⟩:=bJ (gf.all e (List.mem_of_getElem? ed))
  obtain ⟨t,us,rfl,ot,_,_,rfl,rfl,_,_,rfl,rfl,_,_,rfl,rfl,rfl⟩:=iv
  have ez:(fs.map aU)[i]? = some w:=by rw [List.getElem?_map,ed];rfl
  obtain ⟨mw,ew⟩:=agr w (List.mem_of_getElem? ez)
  have SH:=A1.trans S
  refine ⟨_,rfl,t,_,0,.str w,rfl,rfl,SqT.of (SH _ _ ot),aQ (j:=0) rfl,?_⟩
  refine ⟨_,rfl,_,rfl,t,_,0,.str w,rfl,rfl,SqT.of (SH _ _ ot),aQ (j:=0) rfl,lh,_,rfl,(by rw [← iI mw];exact uS.k (k:=Sum.inr w) (SH _ _ hlh)),aV rfl,fun t1 ht1=>?_⟩
  have B1:=aL.upd (o:=.tup [.int (hd w),.int 1]) ht1
  refine ⟨aV rfl,fun t2 ht2=>?_⟩
  have B2:=aL.upd (o:=.tup [.str w,.ref t1]) ht2
  refine k1 _ _ ⟨S.trans (B1.trans B2),?_⟩
  rw [List.take_add_one,ez,List.map_append]
  have it:Is (upd (upd H' t1 (.tup [.int (hd w),.int 1])) t2 (.tup [.str w,.ref t1])) (frP held w) (.ref t2):=⟨t2,_,rfl,aF,_,_,rfl,rfl,_,_,rfl,(by unfold frD;rw [← ew];exact aAY (B2 _ _ aF)),rfl⟩
  exact IsL.snoc it (IsL.same (B1.trans B2) _ _ iy)
 rintro ys H2' ⟨S2',iy⟩
 rw [List.take_of_length_le (by rw [List.length_map];omega)] at iy
 intro l2 hl2
 have A2:=aL.upd (o:=.lst ys) hl2
 have S2:=S2'.trans A2
 have iy2:=IsL.same A2 _ _ iy
 have h2:upd H2' l2 (.lst ys) l2 = some (.lst ys):=aF
 generalize upd H2' l2 (.lst ys) = H2 at S2 A2 iy2 h2 ⊢
 refine gσ (σ':=[some (.ref p),some (.ref lf),some (.ref ld),some (.ref lh),some (.ref d),some (.ref l2),none]) rfl ?_
 refine hu1 _ _ _ ?_
 refine gB fun u3 hu3=>?_
 have hd2:=S2 _ _ hd1
 refine ⟨_,rfl,_,_,_,_,_,rfl,rfl,.dK hd2,fP _ _,_,rfl,bX ?_⟩
 refine ⟨_,rfl,.inr (.inr (.inl ⟨rfl,.inl ⟨_,hd2⟩⟩)),d,_,rfl,rfl,.inl hd2,fun v1 h1=>?_⟩
 have B1:=aL.upd (o:=fV v1 d) h1
 refine ⟨v1,d,_,rfl,aF,.inl (B1 _ _ hd2),fun l4 as4 H3 n4 S3 q4 P4=>?_⟩
 have T3:=B1.trans S3
 have fr3:=fr.same (A1.trans (S2.trans T3))
 refine ⟨_,rfl,aAI (d:=.lst ((fs.map aU).map (frP held))) ⟨l4,_,rfl,q4,rG fr3.1 fr3.2 P4⟩ ⟨l2,ys,rfl,T3 _ _ h2,IsL.same T3 _ _ iy2⟩ (aAX _ _) ⟨_,rfl,bX ?_⟩⟩
 have hd3:=T3 _ _ hd2
 have TH:=A1.trans (S2.trans T3)
 refine hu3 _ _ _ ?_
 refine gB fun u2 hu2=>?_
 refine ⟨_,rfl,d,_,rfl,hd3,fun ob=>?_⟩
 have SF:aL H (upd H3 d (.frz ob (.dK kvs))):=fun b o e=>by rw [aJ (aH e hd0)];exact TH _ _ e
 have hF:upd H3 d (.frz ob (.dK kvs)) d = some (.frz ob (.dK kvs)):=aF
 have frF:fC (upd H3 d (.frz ob (.dK kvs))) kvs (fs.map aU) held:=fr.same SF
 generalize upd H3 d (.frz ob (.dK kvs)) = HF at SF hF frF ⊢
 have lkv:=fr.len
 refine aBA (fun i σ H'=>∃ v6:Option V,σ = [some (.ref p),some (.ref lf),some (.ref ld),some (.ref lh),some (.ref d),some (.ref l2),v6] ∧ H' = HF) ⟨_,rfl,rfl⟩ (fun i σ H' _ ⟨_,_,e⟩=>by rw [e];exact hF) ?_ ?_
 ·rintro i kv σ H' hk ⟨v6,rfl,rfl⟩
  obtain ⟨w,ez⟩:∃ w,(fs.map aU)[i]? = some w:=⟨_,List.getElem?_eq_getElem (by have:=(List.getElem?_eq_some_iff.mp hk).1;omega)⟩
  have ekv:kv.1 = Sum.inr w:=by
   have:=congrArg (fun l=>l[i]?) fr.1
   simp only [List.getElem?_map,hk,Option.map_some] at this
   rw [List.getElem?_map] at ez
   rw [ez] at this
   exact Option.some.inj this
  obtain ⟨t,et,ot⟩:=sR frF.1 frF.2 (List.mem_of_getElem? ez)
  rw [ekv]
  refine gσ (σ':=[some (.ref p),some (.ref lf),some (.ref ld),some (.ref lh),some (.ref d),some (.ref l2),some (.str w)]) rfl ?_
  refine ⟨_,rfl,_,rfl,d,_,rfl,.inl ⟨_,Sum.inr w,.inr ⟨ob,hF⟩,rfl,et.symm⟩,_,_,_,_,_,rfl,rfl,.tup ot,fP _ _,_,rfl,bX ?_⟩
  obtain ⟨tk,ty,_,kb,_⟩:=mM K (show Is H' (.int (held w)) (.int (held w)) from rfl)
  refine ⟨_,rfl,_,rfl,d,_,rfl,.inl ⟨_,Sum.inr w,.inr ⟨ob,hF⟩,rfl,et.symm⟩,t,_,0,.int (held w),rfl,rfl,SqT.of ot,aQ (j:=0) rfl,_,_,_,tk,_,rfl,rfl,ty,kb,_,rfl,bX ⟨_,rfl,rfl⟩⟩
 ·rintro σ H' ⟨v6,rfl,rfl⟩
  refine hu2 _ _ _ ?_
  refine ⟨_,rfl,⟨d,_,rfl,.inr ⟨ob,hF⟩⟩,d,_,rfl,rfl,.inr ⟨ob,hF,hd0⟩,?_⟩
  have SG:aL H (upd H' d (.dK [])):=fun b o e=>by rw [aJ (aH e hd0)];exact SF _ _ e
  generalize upd H' d (.dK []) = H4 at SG ⊢
  refine ⟨_,rfl,p,dx,F,rfl,SG _ _ hp,mf.no _ (by decide +kernel),_,rfl,p,dp,lw,pl,fs,gs,held,rfl,M.same SG,?_⟩
  refine ⟨pl,dxl,_,rfl,SG _ _ hxl,gM _ _ (by decide +kernel) (by decide +kernel),_,rfl,pl,fs,gs,rfl,L.same SG,fun l5 v5 H5 S5 n5 h5 i5=>?_⟩
  have T5:=SG.trans S5
  refine ⟨_,rfl,pP (d:=.lst fs) ⟨l5,v5,rfl,h5,i5⟩ ⟨lf,vf,rfl,T5 _ _ hlf,IsL.same T5 _ _ ivf⟩ (aDE L) ⟨_,rfl,eA ?_⟩⟩
  refine ⟨_,rfl,p,dx,F,rfl,T5 _ _ hp,mf.no _ (by decide +kernel),_,rfl,p,dp,lw,pl,fs,gs,held,rfl,M.same T5,?_⟩
  refine ⟨pl,dxl,_,rfl,T5 _ _ hxl,gM _ _ (by decide +kernel) (by decide +kernel),_,rfl,pl,fs,gs,rfl,L.same T5,fun l6 v6' H6 S6 n6 h6 i6=>?_⟩
  have T6:=T5.trans S6
  refine ⟨_,rfl,pP (d:=.lst gs) ⟨l6,v6',rfl,h6,i6⟩ ⟨ld,vd,rfl,T6 _ _ hld,IsL.same T6 _ _ ivd⟩ (aDF L) ⟨_,rfl,eA ?_⟩⟩
  refine ⟨_,rfl,p,dx,F,rfl,T6 _ _ hp,mf.no _ (by decide +kernel),_,rfl,p,dp,lw,pl,fs,gs,held,rfl,M.same T6,fun l7 h7=>?_⟩
  have A7:=aL.upd (o:=.lst []) h7
  refine ⟨aV rfl,fun l8 h8=>?_⟩
  have A8:=aL.upd (o:=.lst []) h8
  exact pP (d:=.lst []) ⟨l7,[],rfl,A8 _ _ aF,rfl⟩ ⟨l8,[],rfl,aF,rfl⟩ rfl (q _ (T6.trans (A7.trans A8)))
open Mt46
theorem zQ {H:Hp} {q:Dv → Bool} (hq:∀ d,q d = true → ∃ r,d = .tup r):∀ {ds:List Dv} {kvs:List (Key × V)},IsL H ds (kvs.map (·.2)) → (∀ d ∈ ds,q d = true) → 1 ≤ ds.length → ∃ kv ∈ kvs,∃ a,kv.2 = V.ref a
 | [],_,_,_,h=>absurd h (by decide)
 | d :: ds,[],⟨v,r,e,_⟩,_,_=>by cases e
 | d :: ds,kv :: kvs,⟨v,r,e,h,_⟩,g,_=>by
  rw [List.map_cons] at e
  cases e
  obtain ⟨r,rfl⟩:=hq d (g d List.mem_cons_self)
  obtain ⟨a,vs,ea,_⟩:=h
  exact ⟨kv,List.mem_cons_self,a,ea⟩
theorem aAL {C pl lh:Addr} {H0 H:Hp} {fs ds:List Dv} {kvs:List (Key × V)} (S:aL H0 H) (hl:H lh = some (.dK kvs)) (hk:∀ kv ∈ kvs,∃ i,kv.2 = V.int i) (L:LandAt C H0 pl fs ds):LandAt C (del lh H0) pl fs ds:=by
 obtain ⟨dx,d1,d2,hx,t1,t2⟩:=L.ex
 obtain ⟨gf,gd⟩:=iD L
 have kt:jS H0 (del lh H0):=fun b xs e=>gU e fun z=>by rw [z] at e;rw [S _ _ e] at hl;cases hl
 have tb:∀ {d:Addr} {es:List Dv} {q:Dv → Bool},(∀ d,q d = true → ∃ r,d = .tup r) → qA H0 d es → (∀ d ∈ es,q d = true) → 1 ≤ es.length → (∀ d ∈ es,lF d = true) → qA (del lh H0) d es:=fun {d es q} hq ⟨ks,e,k,i⟩ g l h=>⟨ks,gU e (fun z=>by
  rw [z] at e
  rw [S _ _ e] at hl
  cases hl
  obtain ⟨kv,m,a,ea⟩:=zQ hq i g l
  obtain ⟨j,ej⟩:=hk kv m
  rw [ea] at ej
  cases ej),k,IsL.keep kt _ _ (lE h) i⟩
 refine ⟨⟨dx,d1,d2,gU hx (fun z=>by rw [z] at hx;rw [S _ _ hx] at hl;cases hl),?_,?_⟩,L.okf,L.okd⟩
 ·exact tb (q:=bH) (fun d h=>by obtain ⟨z,g,e,rfl,_⟩:=bJ h;exact ⟨_,rfl⟩) t1 gf.all gf.l1 fun d m=>pO (gf.all d m)
 ·exact tb (q:=cG ("sea" :: fs.map aU)) (fun d h=>by obtain ⟨n,a,b,c,r,s,rfl,_⟩:=fG h;exact ⟨_,rfl⟩) t2 gd.all gd.l1 fun d m=>rJ (gd.all d m)
theorem MootAt.x {CM C:Addr} {H H':Hp} {p dp lw pl lh:Addr} {fs gs:List Dv} {held:Str → Int} {kvs:List (Key × V)} (M:MootAt CM C H p dp lw pl fs gs held) (hl:H lh = some (.dK kvs)) (hk:∀ kv ∈ kvs,∃ i,kv.2 = V.int i) (n:dp ≠ lh) (X:dB lh H H'):MootAt CM C H' p dp lw pl fs gs held:=by
 obtain ⟨⟨dx,F,ks,h1,h2,h3,h4,h6⟩,H0,s,n0,L⟩:=M
 refine ⟨⟨dx,F,ks,X _ _ h1 (fun z=>by rw [z,hl] at h1;cases h1),h2,X _ _ h3 n,h4.keep (fun b xs e=>X _ _ e fun z=>by rw [z,hl] at e;cases e),X _ _ h6 (fun z=>by rw [z,hl] at h6;cases h6)⟩,del lh H0,fun b o e=>?_,?_,aAL s hl hk L⟩
 ·have nb:b ≠ lh:=fun z=>by rw [z,aBL] at e;cases e
  exact X _ _ (s _ _ (uJ _ _ e)) nb
 ·unfold del
  rw [n0]
  split <;> rfl
theorem vX {zs:List Str} {c:Str → Int}:∀ kv ∈ aX zs c,∃ i,kv.2 = V.int i:=fun kv m=>by
 obtain ⟨z,_,rfl⟩:=List.mem_map.mp m
 exact ⟨_,rfl⟩
theorem yI {zs:List Str} {c:Str → Int} {g:Str} {b:Int} (m:g ∈ zs):eU (aX zs c) (Sum.inr g) (.int b) = aX zs fun z=>if z = g then b else c z:=by
 rw [wO m,xE]
 congr 1
 refine List.map_congr_left fun z _=>?_
 by_cases h:z = g
 ·rw [if_pos h,if_pos h]
 ·rw [if_neg h,if_neg h]
theorem aCX {b:Bool} {A B:Prop} (h:b = false) (hB:B):if b = true then A else B:=by
 subst h
 exact bX hB
theorem aCY {H:Hp} {ds:List Dv} {vs:List V} (h:IsL H ds vs) {i:Int} (h0:0 ≤ i) (h1:i < ds.length):∃ d v,d ∈ ds ∧ atI vs i = some v ∧ Is H d v:=by
 obtain ⟨k,rfl⟩:=Int.eq_ofNat_of_zero_le h0
 obtain ⟨d,ed⟩:∃ d,ds[k]? = some d:=⟨_,List.getElem?_eq_getElem (by omega)⟩
 obtain ⟨v,ev,iv⟩:=h.get ed
 exact ⟨d,v,List.mem_of_getElem? ed,aQ ev,iv⟩
theorem at3 {a b c i:Int} (h0:0 ≤ i) (h1:i < 3):∃ m:Int,atI ([.int a,.int b,.int c]:List V) i = some (.int m) ∧ (m = a ∨ m = b ∨ m = c):=by
 obtain ⟨k,rfl⟩:=Int.eq_ofNat_of_zero_le h0
 have hk:k < 3:=by omega
 match k,hk with
 | 0,_=>exact ⟨a,aQ rfl,.inl rfl⟩
 | 1,_=>exact ⟨b,aQ rfl,.inr (.inl rfl)⟩
 | 2,_=>exact ⟨c,aQ rfl,.inr (.inr rfl)⟩
theorem aHW {H:Hp} {t:Addr} {i:Int} (h0:0 ≤ i) (h1:i < 6) (ht:H t = some (.tup [.int 1,.int 1])):∃ v d,atI ([.non,.bl true,.int (-1),.int (10 ^ (12:Int).toNat + 1),.ref t,.str "1"]:List V) i = some v ∧ Is H d v ∧ lF d = true ∧ dR d = false:=by
 obtain ⟨k,rfl⟩:=Int.eq_ofNat_of_zero_le h0
 have hk:k < 6:=by omega
 match k,hk with
 | 0,_=>exact ⟨_,.non,aQ rfl,rfl,rfl,rfl⟩
 | 1,_=>exact ⟨_,.bl true,aQ rfl,rfl,rfl,rfl⟩
 | 2,_=>exact ⟨_,.int (-1),aQ rfl,rfl,rfl,by decide +kernel⟩
 | 3,_=>exact ⟨_,.int (10 ^ (12:Int).toNat + 1),aQ rfl,rfl,rfl,by decide +kernel⟩
 | 4,_=>exact ⟨_,.tup [.int 1,.int 1],aQ rfl,⟨t,_,rfl,ht,_,_,rfl,rfl,_,_,rfl,rfl,rfl⟩,rfl,rfl⟩
 | 5,_=>exact ⟨_,.str "1",aQ rfl,rfl,rfl,rfl⟩
theorem yZ {zs:List Str} {s:Str} {a1 a2 a3 a4:Addr} {i:Int} (h0:0 ≤ i) (h1:i < 8) (n1:noSuch ∉ zs) (n2:("sea":Str) ∉ zs) (n3:("":Str) ∉ zs):∃ v d,atI ([.str "nosuchxx",.str "sea",.non,.int 5,.str "",.ref a1,.ref a2,.ref a4]:List V) i = some v ∧ dG zs d = false ∧ ∀ G:Hp,G a1 = some (.lst [.str s]) → G a2 = some (.dK []) → G a3 = some (.lst []) → G a4 = some (.tup [.str s,.ref a3]) → Is G d v:=by
 obtain ⟨k,rfl⟩:=Int.eq_ofNat_of_zero_le h0
 have hk:k < 8:=by omega
 match k,hk with
 | 0,_=>exact ⟨_,.str noSuch,aQ rfl,decide_eq_false n1,fun _ _ _ _ _=>rfl⟩
 | 1,_=>exact ⟨_,.str "sea",aQ rfl,decide_eq_false n2,fun _ _ _ _ _=>rfl⟩
 | 2,_=>exact ⟨_,.non,aQ rfl,rfl,fun _ _ _ _ _=>rfl⟩
 | 3,_=>exact ⟨_,.int 5,aQ rfl,rfl,fun _ _ _ _ _=>rfl⟩
 | 4,_=>exact ⟨_,.str "",aQ rfl,decide_eq_false n3,fun _ _ _ _ _=>rfl⟩
 | 5,_=>exact ⟨_,.lst [.str s],aQ rfl,rfl,fun G g1 _ _ _=>⟨a1,_,rfl,g1,_,_,rfl,rfl,rfl⟩⟩
 | 6,_=>exact ⟨_,.dct [] [],aQ rfl,rfl,fun G _ g2 _ _=>⟨a2,[],rfl,g2,rfl,rfl⟩⟩
 | 7,_=>exact ⟨_,.tup [.str s,.lst []],aQ rfl,rfl,fun G _ _ g3 g4=>⟨a4,_,rfl,g4,_,_,rfl,rfl,_,_,rfl,⟨a3,[],rfl,g3,rfl⟩,rfl⟩⟩
theorem aFA {f:Addr} {fd:FuncData} (T:Txt K mg C) (F:Fun K "law" "law" jU f fd):FnOk P w K mg base CX0 13 f fd ["_law_script"] (wK K):=by
 obtain ⟨C_Moot,cl_Moot,mg_Moot,na_land_now,na_purse_of,na_works_done,i_Moot,m_moot_p_move,m_moot_p_put,m_moot_p_land,m_moot_p_purses,m_moot_p_done⟩:=T.k_Moot
 have G_moot_pinit:Ic P w K mg base 4 C_Moot ["self","land","purses"] (wI C_Moot C):=qH T mg_Moot
 have G_l_fields:Fc P w K mg base 2 "_law_fields" ["_law_script","_law_most"] (aDY K):=tU T
 have G_l_dykes:Fc P w K mg base 2 "_law_dykes" ["_law_script","_law_at","_law_most","_law_fields_here"] (aDZ K):=vE T
 have G_l_mixed:Fc P w K mg base 1 "_law_mixed" ["_law_script","_law_k"] (zD K):=iP T
 have G_land_pinit:Ic P w K mg base 6 C ["self","fields","dykes"] (zI C):=qJ T
 have G_l_purses:Fc P w K mg base 2 "_law_purses" ["_law_script","_law_fields_here"] (zH K):=tT T
 have G_l_spoilt:Fc P w K mg base 1 "_law_spoilt" ["_law_purses_here","_law_cell"] zF:=tS T
 have G_l_refused:Fc P w K mg base 6 "_law_refused" ["_law_land","_law_purses_here"] (wG C):=sJ T
 have G_l_put:Fc P w K mg base 6 "_law_put" ["_law_moot","_law_field","_law_coins"] (zG C_Moot C):=aAG T mg_Moot
 have G_l_tells:Fc P w K mg base 3 "_law_tells" ["_law_moot","_law_fields_here","_law_dykes_here","_law_held"] (wD C_Moot C):=vD T mg_Moot
 refine F.ok cS jJ (fun cdv A outer s H vs Q E hr h=>?_)
 obtain ⟨x,rfl,a,ns,rfl,hS,hns,q⟩:=h
 have big:=cX
 have hu:=pK hr
 have scr:Scr K H (.ref a):=⟨a,ns,rfl,hS,hns⟩
 refine ⟨_,(aG (@aW _ _ (1) _ _ _ _ cS.nd rfl (Or.inl rfl) (@bQ _ _ _ _ _ _ _ _ _ _ G_l_fields (hr.mono (by decide)) (aA (pv 0) (@aA _ _ _ _ _ aB aD (by rfl))) (by rfl) (by decide) (by rfl) (by rfl)) (by rfl) (by trivial)) (aG (@aW _ _ (2) _ _ _ _ cS.nd rfl (Or.inl rfl) (@bQ _ _ _ _ _ _ _ _ _ _ G_l_dykes (hr.mono (by decide)) (aA (pv 0) (aA aB (aA aB (aA (pv 1) aD)))) (by rfl) (by decide) (by rfl) (by rfl)) (by rfl) (by trivial)) (aG (@aW _ _ (3) _ _ _ _ cS.nd rfl (Or.inl rfl) (@aEC _ _ _ _ _ _ _ _ _ _ _ T.mg_Land G_land_pinit (hr.mono (by decide)) (aA (pv 1) (aA (pv 2) aD)) (by rfl) (by decide) (by rfl) (by rfl)) (by rfl) (by trivial)) (aG (@aW _ _ (4) _ _ _ _ cS.nd rfl (Or.inl rfl) (@bQ _ _ _ _ _ _ _ _ _ _ G_l_purses (hr.mono (by decide)) (aA (pv 0) (aA (pv 1) aD)) (by rfl) (by decide) (by rfl) (by rfl)) (by rfl) (by trivial)) (aG (@aW _ _ (5) _ _ _ _ cS.nd rfl (Or.inl rfl) (@bB _ _ _ _ _ _ _ _ _ gO rfl T.n_dict dS (aA (pv 4) aD) (by decide) (by decide) (by rfl) (by rfl)) (by rfl) (by trivial)) (aG (@aW _ _ (6) _ _ _ _ cS.nd rfl (Or.inl rfl) (@aEC _ _ _ _ _ _ _ _ _ _ _ mg_Moot G_moot_pinit (hr.mono (by decide)) (aA (pv 3) (aA (pv 5) aD)) (by rfl) (by decide) (by rfl) (by rfl)) (by rfl) (by trivial)) (aG (@jW _ _ _ _ (aAD PySem.F.slot_dict_clear PySem.F.type_dict_clear qZ (pv 5)) (by rfl)) (aG (@cN _ _ _ _ _ _ _ _ (@cD _ _ _ _ (@bW _ _ _ (@bQ _ _ _ _ _ _ _ _ _ _ G_l_tells (hr.mono (by decide)) (aA (pv 6) (aA (pv 1) (aA (pv 2) (aA (pv 4) aD)))) (by rfl) (by decide) (by rfl) (by rfl)) (by intro _;rfl))) (aI (@aT _ _ _ _ gS)) bM) (aG (@lQ _ _ _ _ _ _ _ _ PassesOwn.never rfl (@iB _ _ _ _ _ _ rfl T.n_range (aA (@aO _ _ _ _ _ _ _ _ _ (@rM _ rfl) rfl T.n_max rP (aA aB (aA (@aO _ _ _ _ _ _ _ _ _ (@rL _ rfl) rfl T.n_min rO (aA aB (aA (@aK _ _ _ _ _ _ _ _ iN (@aO _ _ _ _ _ _ _ _ _ (@bL _ (K) rfl) rfl T.n_len bS (aA (pv 0) aD) (by decide) (by decide) (by rfl) (by rfl)) aB) aD)) (by decide) (by decide) (by rfl) (by rfl)) aD)) (by decide) (by decide) (by rfl) (by rfl)) aD) (by rfl)) (@bN _ _ (7) _ cS.nd rfl (Or.inl rfl) (by trivial)) (aG (@aW _ _ (8) _ _ _ _ cS.nd rfl (Or.inl rfl) (@bQ _ _ _ _ _ _ _ _ _ _ G_l_mixed (hr.mono (by decide)) (aA (pv 0) (aA (@aK _ _ _ _ _ _ _ _ cV aB (pv 7)) aD)) (by rfl) (by decide) (by rfl) (by rfl)) (by rfl) (by trivial)) (aG (@aW _ _ (9) _ _ _ _ cS.nd rfl (Or.inl rfl) (@bD _ _ _ _ _ _ _ (@bF _ (K) rfl) (@bD _ _ _ _ _ _ _ (@bP _ (K) rfl) (pv 1) (@aK _ _ _ _ _ _ _ _ bE (@aK _ _ _ _ _ _ _ _ bA (pv 8) aB) (@aO _ _ _ _ _ _ _ _ _ (@bL _ (K) rfl) rfl T.n_len bS (aA (pv 1) aD) (by decide) (by decide) (by rfl) (by rfl))) (fun _ _=>rfl)) aB (fun _ _=>rfl)) (by rfl) (by trivial)) (aG (@aW _ _ (10) _ _ _ _ cS.nd rfl (Or.inl rfl) (@bD _ _ _ _ _ _ _ (@bP _ (K) rfl) (@cJ _ _ _ _ (aA aB (aA aB (aA (@aK _ _ _ _ _ _ _ _ bE (@aK _ _ _ _ _ _ _ _ bA (pv 8) aB) (@aK _ _ _ _ _ _ _ _ cV (@aK _ _ _ _ _ _ _ _ dE aB aB) aB)) aD)))) (@aK _ _ _ _ _ _ _ _ bE (pv 8) aB) (fun _ _=>rfl)) (by rfl) (by trivial)) (aG (@aW _ _ (11) _ _ _ _ cS.nd rfl (Or.inl rfl) (@bD _ _ _ _ _ _ _ (@bP _ (K) rfl) (@cJ _ _ _ _ (@aA _ _ _ _ _ gG (@aA _ _ _ _ _ gS (@aA _ _ _ _ _ (@aEB _ _ _ _ _ _ yQ aB) (@aA _ _ _ _ _ (@aK _ _ _ _ _ _ _ _ cV (@aK _ _ _ _ _ _ _ _ dE aB aB) aB) (@aA _ _ _ _ _ (@fT _ _ _ _ _ (@aA _ _ _ _ _ aB (@aA _ _ _ _ _ aB aD (by rfl)) (by rfl))) (@aA _ _ _ _ _ bI aD (by rfl)) (by rfl)) (by rfl)) (by rfl)) (by rfl)) (by rfl))) (@aK _ _ _ _ _ _ _ _ bE (@aK _ _ _ _ _ _ _ _ bA (pv 8) aB) aB) (fun _ _=>rfl)) (by rfl) (by trivial)) (aG (@aW _ _ (12) _ _ _ _ cS.nd rfl (Or.inl rfl) (@bD _ _ _ _ _ _ _ (@bP _ (K) rfl) (@cJ _ _ _ _ (@aA _ _ _ _ _ bI (@aA _ _ _ _ _ bI (@aA _ _ _ _ _ gG (@aA _ _ _ _ _ aB (@aA _ _ _ _ _ bI (@aA _ _ _ _ _ (@cJ _ _ _ _ (aA (pv 9) aD)) (@aA _ _ _ _ _ tQ (@aA _ _ _ _ _ (@fT _ _ _ _ _ (aA (pv 9) (aA (@cJ _ _ _ _ aD) aD))) aD (by rfl)) (by rfl)) (by rfl)) (by rfl)) (by rfl)) (by rfl)) (by rfl)) (by rfl))) (@aK _ _ _ _ _ _ _ _ bE (@aK _ _ _ _ _ _ _ _ bA (pv 8) aB) aB) (fun _ _=>rfl)) (by rfl) (by trivial)) (aG (@cN _ _ _ _ _ _ _ _ (@PW.pt _ _ _ (@iA _ _ _ _ _ _ _ (@cD _ _ _ _ (@bW _ _ _ (@bQ _ _ _ _ _ _ _ _ _ _ G_l_refused (hr.mono (by decide)) (aA (pv 3) (aA (@bQ _ _ _ _ _ _ _ _ _ _ G_l_spoilt (hr.mono (by decide)) (aA (pv 4) (aA (pv 8) aD)) (by rfl) (by decide) (by rfl) (by rfl)) aD)) (by rfl) (by decide) (by rfl) (by rfl)) (by intro _;rfl))) (@fS _ _ _ _ (@cQ _ _ _ _ _ _ _ _ kI (@bQ _ _ _ _ _ _ _ _ _ _ G_l_put (hr.mono (by decide)) (aA (pv 6) (aA (pv 9) (aA (pv 10) aD))) (by rfl) (by decide) (by rfl) (by rfl)) bI (@bT _ _ (by decide) (by decide)))))) (aI (@aT _ _ _ _ gS)) bM) (aG (@kX _ _ _ _ _ _ _ _ _ hu (pv 4) (pv 9) (@aK _ _ _ _ _ _ _ _ cV (@jX _ _ _ _ _ _ hu (pv 4) (pv 9) (fun _ _=>rfl)) (pv 10)) rfl) (aG (@cN _ _ _ _ _ _ _ _ (@PW.pt _ _ _ (@iA _ _ _ _ _ _ _ (@cQ _ _ _ _ _ _ _ _ kI (@bQ _ _ _ _ _ _ _ _ _ _ G_l_put (hr.mono (by decide)) (aA (pv 6) (aA (pv 9) (aA (pv 11) aD))) (by rfl) (by decide) (by rfl) (by rfl)) bI (@bT _ _ (by decide) (by decide))) (@fS _ _ _ _ (@cQ _ _ _ _ _ _ _ _ kI (@bQ _ _ _ _ _ _ _ _ _ _ G_l_put (hr.mono (by decide)) (aA (pv 6) (aA (pv 12) (aA (pv 11) aD))) (by rfl) (by decide) (by rfl) (by rfl)) bI (@bT _ _ (by decide) (by decide)))))) (aI (@aT _ _ _ _ gS)) bM) (aI (@cN _ _ _ _ _ _ _ _ (@PW.pt _ _ _ (@iA _ _ _ _ _ _ _ (@cQ _ _ _ _ _ _ _ _ kI (@bQ _ _ _ _ _ _ _ _ _ _ G_l_put (hr.mono (by decide)) (aA (pv 6) (aA (pv 12) (aA (pv 10) aD))) (by rfl) (by decide) (by rfl) (by rfl)) bI (@bT _ _ (by decide) (by decide))) (@fS _ _ _ _ (@cD _ _ _ _ (@bW _ _ _ (@bQ _ _ _ _ _ _ _ _ _ _ G_l_tells (hr.mono (by decide)) (aA (pv 6) (aA (pv 1) (aA (pv 2) (aA (pv 4) aD)))) (by rfl) (by decide) (by rfl) (by rfl)) (by intro _;rfl)))))) (aI (@aT _ _ _ _ gS)) bM)))))))))) (by intro _;rfl)) (aI (@aT _ _ _ _ gS))))))))))),?_⟩
 refine zN fun u1 hu1=>?_
 refine ⟨_,rfl,_,_,rfl,6,scr,rfl,by decide,by decide,fun lf vf fs H1 S1 nlf hf0 hif0 gf nxf=>?_⟩
 refine ⟨_,rfl,_,rfl,_,_,_,_,rfl,8,10,lf,vf,fs,6,scr.same S1,rfl,by decide,rfl,by decide,by decide,rfl,hf0,hif0,gf,by decide,fun ld vd ds H2 S2 nld hd0 hid0 gd nxd=>?_⟩
 have okf:=yB gf (by decide)
 have okd:=aBG gd (by decide)
 have f1:=gf.l1
 have f2:=gf.l2
 have d1:=gd.l1
 have d2:=gd.l2
 have smf:eC (.lst fs) = true:=rB (fun d m=>uG (gf.all d m)) (by omega)
 have smd:eC (.lst ds) = true:=rB (fun d m=>vU gf.all (gd.all d m)) (by omega)
 have T2:=S1.trans S2
 have hf2:=S2 _ _ hf0
 have hif2:=IsL.same S2 _ _ hif0
 refine ⟨_,rfl,_,rfl,fun p dx np ndx nex=>?_⟩
 have S3':aL H2 (upd (upd H2 dx (.own p)) p (.ins C dx [])):=fun b o e=>by
  rw [aJ (aH e np),aJ (aH e ndx)]
  exact e
 refine ⟨_,_,_,rfl,p,dx,fs,ds,rfl,aF,⟨lf,vf,rfl,S3' _ _ hf2,IsL.same S3' _ _ hif2⟩,⟨ld,vd,rfl,S3' _ _ hd0,IsL.same S3' _ _ hid0⟩,smf,smd,okf,okd,fun H3 L3 fr=>⟨rfl,?_⟩⟩
 have S3:aL H2 H3:=fun b o e=>fr b o (S3' _ _ e) (aH e np)
 have T3:=T2.trans S3
 have hf3:=S3 _ _ hf2
 have hif3:=IsL.same S3 _ _ hif2
 have hd3:=S3 _ _ hd0
 have hid3:=IsL.same S3 _ _ hid0
 refine gσ (σ':=[some (.ref a),some (.ref lf),some (.ref ld),some (.ref p),none,none,none,none,none,none,none,none,none]) rfl ?_
 refine ⟨_,rfl,_,rfl,_,_,rfl,lf,vf,fs,scr.same T3,rfl,hf3,hif3,⟨f1,by omega,gf.all,gf.nd⟩,fun lh zs held H4 S4 nlh hlh okh ndz=>?_⟩
 refine gσ (σ':=[some (.ref a),some (.ref lf),some (.ref ld),some (.ref p),some (.ref lh),none,none,none,none,none,none,none,none]) rfl ?_
 refine hu1 _ _ _ ?_
 refine tK fun u2 hu2=>?_
 refine ⟨_,rfl,lh,_,rfl,hlh,fun la hla=>?_⟩
 have A5:=aL.upd (o:=.dK (aX zs held)) hla
 have hla5:upd H4 la (.dK (aX zs held)) la = some (.dK (aX zs held)):=aF
 generalize upd H4 la (.dK (aX zs held)) = H5 at A5 hla5 ⊢
 refine gσ (σ':=[some (.ref a),some (.ref lf),some (.ref ld),some (.ref p),some (.ref lh),some (.ref la),none,none,none,none,none,none,none]) rfl ?_
 refine ⟨_,rfl,_,rfl,fun pm dxm npm ndxm nexm=>?_⟩
 have S6:aL H5 (upd (upd H5 dxm (.own pm)) pm (.ins C_Moot dxm [])):=fun b o e=>by
  rw [aJ (aH e npm),aJ (aH e ndxm)]
  exact e
 have hp6:upd (upd H5 dxm (.own pm)) pm (.ins C_Moot dxm []) pm = some (.ins C_Moot dxm []):=aF
 generalize upd (upd H5 dxm (.own pm)) pm (.ins C_Moot dxm []) = H6 at S6 hp6 ⊢
 have n3a:H3 la = none:=S4.free hla
 have n3p:H3 pm = none:=(S4.trans A5).free npm
 refine ⟨_,_,_,rfl,pm,dxm,p,la,fs,ds,zs,held,H3,rfl,hp6,rfl,S4.trans (A5.trans S6),n3p,n3a,L3,rfl,S6 _ _ hla5,okh,fun dp lw Hm H7 Mm Sm nma ndp nlw X7 rd=>⟨rfl,?_⟩⟩
 refine gσ (σ':=[some (.ref a),some (.ref lf),some (.ref ld),some (.ref p),some (.ref lh),some (.ref la),some (.ref pm),none,none,none,none,none,none]) rfl ?_
 have nHa:H la = none:=T3.free n3a
 refine ⟨_,rfl,⟨la,_,rfl,rd⟩,la,aX zs held,rfl,rfl,?_,?_⟩
 ·rcases rd with h | ⟨o,h⟩
  ·exact .inl h
  ·exact .inr ⟨o,h,nHa⟩
 have lha:lh ≠ la:=aH hlh hla
 have lhp:lh ≠ pm:=aH (A5 _ _ hlh) npm
 have S8:aL H3 (upd H7 la (.dK [])):=fun b o e=>by
  rw [aJ (aH e n3a)]
  exact X7 _ _ (S6 _ _ (A5 _ _ (S4 _ _ e))) (aH e n3p) (aH e n3a)
 have lh8:upd H7 la (.dK []) lh = some (.dK (aX zs held)):=by
  rw [aJ lha]
  exact X7 _ _ (S6 _ _ (A5 _ _ hlh)) lhp lha
 have M8:MootAt C_Moot C (upd H7 la (.dK [])) pm dp lw p fs ds held:=Mm.same fun b o e=>by
  rw [aJ (aH e nma)]
  exact Sm _ _ e
 have ndl:dp ≠ lh:=fun z=>by rw [z,S6 _ _ (A5 _ _ hlh)] at ndp;cases ndp
 have ndp3:H3 dp = none:=(S4.trans (A5.trans S6)).free ndp
 generalize upd H7 la (.dK []) = H8 at S8 lh8 M8 ⊢
 clear Mm Sm nma X7 rd
 refine hu2 _ _ _ ?_
 have nmz:∀ w ∈ fs.map aU,w ∈ zs:=okh.2.2.1
 refine gB fun u3 hu3=>?_
 refine ⟨_,rfl,_,rfl,_,rfl,_,rfl,_,_,_,_,rfl,pm,dp,lw,p,lf,ld,lh,vf,vd,fs,ds,held,held,zs,rfl,M8,rfl,S8 _ _ hf3,IsL.same S8 _ _ hif3,rfl,S8 _ _ hd3,IsL.same S8 _ _ hid3,rfl,lh8,fun w mw=>⟨nmz w mw,rfl⟩,fun H9 S9=>⟨_,rfl,bX ?_⟩⟩
 refine hu3 _ _ _ ?_
 have SG:=S8.trans S9
 have lh9:=S9 _ _ lh8
 have M9:=M8.same S9
 clear S8 S9 lh8 M8
 refine gB fun u4 hu4=>?_
 refine ⟨_,rfl,a,_,rfl,.inl ((T3.trans SG).seq hS),_,_,rfl,rfl,_,_,rfl,_,_,rfl,?_⟩
 obtain ⟨cn2,hcn2,e1,e2⟩:∃ cnt:Nat,(if (if (((ns.map V.int).length:Nat):Int) - 4 < 12 then (((ns.map V.int).length:Nat):Int) - 4 else 12) > 2 then (if (((ns.map V.int).length:Nat):Int) - 4 < 12 then (((ns.map V.int).length:Nat):Int) - 4 else 12) else 2) = (cnt:Int) ∧ 1 ≤ cnt ∧ cnt ≤ 12:=by
  generalize (((ns.map V.int).length:Nat):Int) - 4 = w
  by_cases h1:w < 12
  ·rw [if_pos h1]
   by_cases h2:w > 2
   ·rw [if_pos h2]
    exact ⟨w.toNat,by omega,by omega,by omega⟩
   ·rw [if_neg h2]
    exact ⟨2,rfl,by omega,by omega⟩
  ·rw [if_neg h1]
   exact ⟨12,rfl,by omega,by omega⟩
 refine ⟨(cn2:Int),congrArg (fun x=>[V.int x]) hcn2,by omega,by omega,?_⟩
 rw [Int.toNat_natCast]
 have n3lh:H3 lh = none:=nlh
 refine kC (lo:=0) (n:=cn2) (fun i σ G=>∃ (v7 v8 v9 v10 v11 v12:Option V) (held:Str → Int),σ = [some (.ref a),some (.ref lf),some (.ref ld),some (.ref p),some (.ref lh),some (.ref la),some (.ref pm),v7,v8,v9,v10,v11,v12] ∧ aL H3 G ∧ MootAt C_Moot C G pm dp lw p fs ds held ∧ G lh = some (.dK (aX zs held)) ∧ ∀ w ∈ zs,0 ≤ held w ∧ held w ≤ 1000000000000 * (1 + (i:Int)))
  ⟨_,_,_,_,_,_,held,rfl,SG,M9,lh9,fun w m=>by have:=okh.2.2.2 w m;omega⟩ ?_ ?_
 ·rintro i σ G hi ⟨v7,v8,v9,v10,v11,v12,held,rfl,SG,M,hlG,bnd⟩
  clear lh9 M9
  refine aED fun D1 hD1=>?_
  have i12:(i:Int) ≤ 11:=by omega
  have TG:=T3.trans SG
  refine tK fun u5 hu5=>?_
  refine ⟨_,rfl,_,rfl,_,_,rfl,rfl,_,_,rfl,_,scr.same TG,rfl,by show 0 ≤ 4 + (0 + (i:Int));omega,fun m1 hm1=>?_⟩
  have hfG:=SG _ _ hf3
  have hifG:=IsL.same SG _ _ hif3
  have lvf:=hif3.length
  have pvf:(0:Int) < ((vf.length:Nat):Int):=by omega
  obtain ⟨d,v,md,ev,iv⟩:=aCY hifG (i:=m1 / 9 % ((vf.length:Nat):Int)) (Int.emod_nonneg _ (by omega)) (by have:=Int.emod_lt_of_pos (m1 / 9) pvf;omega)
  obtain ⟨s1,g1,e1',rfl,ns1,_⟩:=bJ (gf.all d md)
  obtain ⟨t,us,rfl,ot,_,_,rfl,rfl,_,_,rfl,rfl,_,_,rfl,rfl,rfl⟩:=iv
  have ms:s1 ∈ fs.map aU:=List.mem_map.mpr ⟨_,md,rfl⟩
  refine gσ (σ':=[some (.ref a),some (.ref lf),some (.ref ld),some (.ref p),some (.ref lh),some (.ref la),some (.ref pm),some (.int (0 + (i:Int))),some (.int m1),v9,v10,v11,v12]) rfl ?_
  refine ⟨_,rfl,_,rfl,_,_,rfl,rfl,⟨by decide,by decide⟩,_,rfl,lf,vf,rfl,.inl (SqL.of hfG),_,_,rfl,rfl,pvf,lf,_,_,_,rfl,rfl,SqL.of hfG,ev,t,_,0,.str s1,rfl,rfl,SqT.of ot,aQ (j:=0) rfl,?_⟩
  refine gσ (σ':=[some (.ref a),some (.ref lf),some (.ref ld),some (.ref p),some (.ref lh),some (.ref la),some (.ref pm),some (.int (0 + (i:Int))),some (.int m1),some (.str s1),v10,v11,v12]) rfl ?_
  obtain ⟨c,ec,hc⟩:=at3 (a:=0) (b:=1) (c:=m1 / 99 % (10 ^ (12:Int).toNat + 1)) (Int.emod_nonneg m1 (show (3:Int) ≠ 0 by decide)) (Int.emod_lt_of_pos m1 (show (0:Int) < 3 by decide))
  have c01:0 ≤ c ∧ c ≤ 1000000000000:=by
   rw [p12] at hc
   have x3:=Int.emod_nonneg (m1 / 99) (show (1000000000000 + 1:Int) ≠ 0 by decide)
   have x4:=Int.emod_lt_of_pos (m1 / 99) (show (0:Int) < 1000000000000 + 1 by decide)
   rcases hc with rfl | rfl | rfl <;> omega
  refine ⟨_,rfl,_,_,rfl,rfl,⟨by decide,by decide⟩,_,_,rfl,rfl,⟨by decide,by decide,by decide⟩,_,_,rfl,rfl,_,_,rfl,rfl,fO rfl,aV rfl,fun k1 hk1=>?_⟩
  have A1:=aL.upd (o:=.lst [.int 0,.int 1,.int (m1 / 99 % (10 ^ (12:Int).toNat + 1))]) hk1
  refine ⟨_,rfl,_,_,rfl,rfl,fO rfl,k1,_,_,_,rfl,rfl,SqL.of aF,ec,?_⟩
  generalize upd G k1 (.lst [.int 0,.int 1,.int (m1 / 99 % (10 ^ (12:Int).toNat + 1))]) = G1 at A1 ⊢
  refine gσ (σ':=[some (.ref a),some (.ref lf),some (.ref ld),some (.ref p),some (.ref lh),some (.ref la),some (.ref pm),some (.int (0 + (i:Int))),some (.int m1),some (.str s1),some (.int c),v11,v12]) rfl ?_
  refine hu5 _ _ _ ?_
  refine tL fun u6 hu6=>?_
  refine ⟨_,rfl,_,_,rfl,rfl,⟨by decide,by decide,by decide⟩,_,_,rfl,rfl,aV rfl,fun t1 ht1=>?_⟩
  have A2:=aL.upd (o:=.tup [.int 1,.int 1]) ht1
  refine ⟨aV rfl,fun k2 hk2=>?_⟩
  have A3:=aL.upd (o:=.lst [.non,.bl true,.int (-1),.int (10 ^ (12:Int).toNat + 1),.ref t1,.str "1"]) hk2
  obtain ⟨vo,eo,ao,io,ho,bo⟩:=aHW (i:=m1 / 9 % 6) (t:=t1) (H:=upd (upd G1 t1 (.tup [.int 1,.int 1])) k2 (.lst [.non,.bl true,.int (-1),.int (10 ^ (12:Int).toNat + 1),.ref t1,.str "1"])) (Int.emod_nonneg _ (by decide)) (Int.emod_lt_of_pos _ (by decide)) (A3 _ _ aF)
  refine ⟨_,rfl,_,_,rfl,rfl,⟨by decide,by decide⟩,_,_,rfl,rfl,fO rfl,k2,_,_,vo,rfl,rfl,SqL.of aF,ao,?_⟩
  have B2:=A1.trans (A2.trans A3)
  generalize upd (upd G1 t1 (.tup [.int 1,.int 1])) k2 (.lst [.non,.bl true,.int (-1),.int (10 ^ (12:Int).toNat + 1),.ref t1,.str "1"]) = G2 at A3 io B2 ⊢
  refine gσ (σ':=[some (.ref a),some (.ref lf),some (.ref ld),some (.ref p),some (.ref lh),some (.ref la),some (.ref pm),some (.int (0 + (i:Int))),some (.int m1),some (.str s1),some (.int c),some vo,v12]) rfl ?_
  refine ⟨_,rfl,aV rfl,fun a1 ha1=>?_⟩
  have C1:=aL.upd (o:=.lst [.str s1]) ha1
  intro a2 ha2
  have C2:=aL.upd (o:=.dK []) ha2
  refine ⟨_,rfl,aV rfl,fun a3 ha3=>?_⟩
  have C3:=aL.upd (o:=.lst []) ha3
  refine ⟨aV rfl,fun a4 ha4=>?_⟩
  have C4:=aL.upd (o:=.tup [.str s1,.ref a3]) ha4
  refine ⟨aV rfl,fun a5 ha5=>?_⟩
  have C5:=aL.upd (o:=.lst [.str "nosuchxx",.str "sea",.non,.int 5,.str "",.ref a1,.ref a2,.ref a4]) ha5
  have w1:=(C2.trans (C3.trans (C4.trans C5))) _ _ (aF (H:=G2) (a:=a1) (o:=.lst [.str s1]))
  have w2:=(C3.trans (C4.trans C5)) _ _ (aF (H:=upd G2 a1 (.lst [.str s1])) (a:=a2) (o:=.dK []))
  have w3:=(C4.trans C5) _ _ (aF (H:=upd (upd G2 a1 (.lst [.str s1])) a2 (.dK [])) (a:=a3) (o:=.lst []))
  have w4:=C5 _ _ (aF (H:=upd (upd (upd G2 a1 (.lst [.str s1])) a2 (.dK [])) a3 (.lst [])) (a:=a4) (o:=.tup [.str s1,.ref a3]))
  have g1':G2 a1 = none:=ha1
  have g2':G2 a2 = none:=C1.free ha2
  have g3':G2 a3 = none:=(C1.trans C2).free ha3
  have g4':G2 a4 = none:=(C1.trans (C2.trans C3)).free ha4
  have CC:=C1.trans (C2.trans (C3.trans (C4.trans C5)))
  have h5:upd (upd (upd (upd (upd G2 a1 (.lst [.str s1])) a2 (.dK [])) a3 (.lst [])) a4 (.tup [.str s1,.ref a3])) a5 (.lst [.str "nosuchxx",.str "sea",.non,.int 5,.str "",.ref a1,.ref a2,.ref a4]) a5 = some (.lst [.str "nosuchxx",.str "sea",.non,.int 5,.str "",.ref a1,.ref a2,.ref a4]):=aF
  generalize upd (upd (upd (upd (upd G2 a1 (.lst [.str s1])) a2 (.dK [])) a3 (.lst [])) a4 (.tup [.str s1,.ref a3])) a5 (.lst [.str "nosuchxx",.str "sea",.non,.int 5,.str "",.ref a1,.ref a2,.ref a4]) = G3 at w1 w2 w3 w4 CC h5 ⊢
  have nS:∀ z ∈ fs.map aU,dH z = true:=fun z m=>by
   obtain ⟨d,md,rfl⟩:=List.mem_map.mp m
   obtain ⟨z,g,e,rfl,hz,_⟩:=bJ (gf.all d md)
   exact hz
  obtain ⟨vs8,ds8,as8,os8,is8⟩:=yZ (zs:=fs.map aU) (s:=s1) (a1:=a1) (a2:=a2) (a3:=a3) (a4:=a4) (i:=m1 / 9 % 8) (Int.emod_nonneg _ (by decide)) (Int.emod_lt_of_pos _ (by decide)) (fun m=>by obtain ⟨d,md,e⟩:=List.mem_map.mp m;exact nxf d md e) (fun m=>by have:=nS _ m;revert this;decide +kernel) (fun m=>by have:=nS _ m;revert this;decide +kernel)
  refine ⟨_,rfl,_,_,rfl,rfl,⟨by decide,by decide⟩,_,_,rfl,rfl,fO rfl,a5,_,_,vs8,rfl,rfl,SqL.of h5,as8,?_⟩
  refine gσ (σ':=[some (.ref a),some (.ref lf),some (.ref ld),some (.ref p),some (.ref lh),some (.ref la),some (.ref pm),some (.int (0 + (i:Int))),some (.int m1),some (.str s1),some (.int c),some vo,some vs8]) rfl ?_
  refine hu6 _ _ _ ?_
  have BG:=B2.trans CC
  have M3:=M.same BG
  have lh3:=BG _ _ hlG
  have SG3:=SG.trans BG
  have io3:=Is.same CC _ _ io
  have hdp3:∃ kvs,G2 dp = some (.dK kvs):=by
   obtain ⟨⟨dx',F',kvs,_,_,h,_⟩,_⟩:=M.same B2
   exact ⟨kvs,h⟩
  obtain ⟨kvd,hdpG2⟩:=hdp3
  have lhG2:=B2 _ _ hlG
  have q1:a1 ≠ dp ∧ a1 ≠ lh:=⟨(fun z=>by rw [z,hdpG2] at g1';cases g1'),fun z=>by rw [z,lhG2] at g1';cases g1'⟩
  have q2:a2 ≠ dp ∧ a2 ≠ lh:=⟨(fun z=>by rw [z,hdpG2] at g2';cases g2'),fun z=>by rw [z,lhG2] at g2';cases g2'⟩
  have q3:a3 ≠ dp ∧ a3 ≠ lh:=⟨(fun z=>by rw [z,hdpG2] at g3';cases g3'),fun z=>by rw [z,lhG2] at g3';cases g3'⟩
  have q4:a4 ≠ dp ∧ a4 ≠ lh:=⟨(fun z=>by rw [z,hdpG2] at g4';cases g4'),fun z=>by rw [z,lhG2] at g4';cases g4'⟩
  have hdpG3:=CC _ _ hdpG2
  clear A1 A2 A3 B2 CC C1 C2 C3 C4 C5 h5 g1' g2' g3' g4' BG M hlG SG io hdpG2 lhG2 hfG hifG ev ot TG
  have szl:zs.length = (fs.map aU).length:=okh.1
  have lfs:(fs.map aU).length = fs.length:=List.length_map ..
  have nsz:noSuch ∉ zs:=fun m=>by
   obtain ⟨d,md,e⟩:=List.mem_map.mp (okh.2.1 _ m)
   exact nxf d md e
  refine gB fun u7 hu7=>?_
  refine ⟨_,rfl,_,rfl,_,rfl,_,_,rfl,lh,zs,fs.map aU,held,m1,rfl,lh3,szl,by omega,by omega,nsz,rfl,hm1,fun w6 G6 bp=>?_⟩
  refine ⟨_,_,rfl,p,fs,ds,G3,rfl,L3.same SG3,bp,fun G7 S7=>⟨_,rfl,bX ?_⟩⟩
  have M7:=M3.same S7
  have lh7:=S7 _ _ lh3
  have hb:=bnd s1 (nmz _ ms)
  refine ⟨_,rfl,_,rfl,_,rfl,_,_,_,rfl,pm,dp,lw,p,fs,ds,held,rfl,M7,.inl ⟨s1,c,rfl,ms,rfl,c01.1,c01.2,hb.1,by omega,fun G8 M8 X8=>?_⟩⟩
  refine ⟨rfl,_,rfl,aCX (by simp) ?_⟩
  refine hu7 _ _ _ ?_
  have lh8:=X8 _ _ lh7 ndl.symm
  refine gB fun u8 hu8=>?_
  refine ⟨_,rfl,_,rfl,lh,_,rfl,(by rw [← iI (nmz _ ms)];exact uS.k (k:=Sum.inr s1) lh8),_,rfl,_,_,rfl,rfl,_,rfl,_,rfl,lh,_,rfl,tE.k (k:=Sum.inr s1) lh8 (by unfold aX;rw [List.length_map];omega),?_⟩
  have X9:dB lh G8 (upd G8 lh (.dK (eU (aX zs held) (Sum.inr s1) (.int (held s1 + c))))):=(aL.x (aL.refl _)).put
  have lh9:upd G8 lh (.dK (eU (aX zs held) (Sum.inr s1) (.int (held s1 + c)))) lh = some (.dK (aX zs fun w=>if w = s1 then held s1 + c else held w)):=by rw [aF,yI (nmz _ ms)]
  have M9:=M8.x lh8 vX ndl X9
  have kp:∀ b o,G3 b = some o → b ≠ dp → b ≠ lh → upd G8 lh (.dK (eU (aX zs held) (Sum.inr s1) (.int (held s1 + c)))) b = some o:=fun b o e n1 n2=>X9 _ _ (X8 _ _ (S7 _ _ e) n1) n2
  refine hu8 _ _ _ ?_
  change fY _ _ _ _ (upd G8 lh (.dK (eU (aX zs held) (Sum.inr s1) (.int (held s1 + c)))))
  generalize upd G8 lh (.dK (eU (aX zs held) (Sum.inr s1) (.int (held s1 + c)))) = G9 at lh9 M9 kp
  have SG9:aL H3 G9:=fun b o e=>kp _ _ (SG3 _ _ e) (aH e ndp3) (aH e n3lh)
  have io9:Is G9 eo vo:=Is.keep (fun b xs e=>kp _ _ e (fun z=>by rw [z,hdpG3] at e;cases e) (fun z=>by rw [z,lh3] at e;cases e)) _ _ ho io3
  have is9:Is G9 ds8 vs8:=is8 G9 (kp _ _ w1 q1.1 q1.2) (kp _ _ w2 q2.1 q2.2) (kp _ _ w3 q3.1 q3.2) (kp _ _ w4 q4.1 q4.2)
  have bnd9:∀ w ∈ zs,0 ≤ (fun w=>if w = s1 then held s1 + c else held w) w ∧ (fun w=>if w = s1 then held s1 + c else held w) w ≤ 1000000000000 * (1 + ((i + 1:Nat):Int)):=fun w mw=>by
   have:=bnd w mw
   by_cases e:w = s1
   ·simp only [if_pos e]
    omega
   ·simp only [if_neg e]
    omega
  generalize (fun w=>if w = s1 then held s1 + c else held w) = held9 at lh9 M9 bnd9
  clear kp X9 X8 M8 lh8 M7 lh7 S7 bp hdpG3 q1 q2 q3 q4 w1 w2 w3 w4 is8 io3 SG3 M3 lh3
  refine gB fun u9 hu9=>?_
  refine ⟨_,rfl,_,rfl,_,rfl,_,_,_,rfl,pm,dp,lw,p,fs,ds,held9,rfl,M9,.inr (.inr ⟨.str s1,eo,rfl,decide_eq_true ms,io9,bo,fun Ga Sa=>?_⟩)⟩
  refine ⟨rfl,_,rfl,aCX (by simp) ?_⟩
  refine ⟨_,rfl,_,rfl,_,rfl,_,_,_,rfl,pm,dp,lw,p,fs,ds,held9,rfl,M9.same Sa,.inr (.inl ⟨ds8,Is.same Sa _ _ is9,os8,fun Gb Sb=>?_⟩)⟩
  refine ⟨rfl,_,rfl,aCX (by simp) ?_⟩
  refine hu9 _ _ _ ?_
  have Tb:=Sa.trans Sb
  refine ⟨_,rfl,_,rfl,_,rfl,_,_,_,rfl,pm,dp,lw,p,fs,ds,held9,rfl,M9.same Tb,.inr (.inl ⟨ds8,Is.same Tb _ _ is9,os8,fun Gc Sc=>?_⟩)⟩
  refine ⟨rfl,_,rfl,aCX (by simp) ?_⟩
  have Tc:=Tb.trans Sc
  have SGc:=SG9.trans Tc
  refine ⟨_,rfl,_,rfl,_,rfl,_,rfl,_,_,_,_,rfl,pm,dp,lw,p,lf,ld,lh,vf,vd,fs,ds,held9,held9,zs,rfl,M9.same Tc,rfl,SGc _ _ hf3,IsL.same SGc _ _ hif3,rfl,SGc _ _ hd3,IsL.same SGc _ _ hid3,rfl,Tc _ _ lh9,fun w mw=>⟨nmz w mw,rfl⟩,fun Gd Sd=>⟨_,rfl,bX ?_⟩⟩
  have Td:=Tc.trans Sd
  exact hD1 _ _ ⟨_,_,_,_,_,_,held9,rfl,SG9.trans Td,M9.same Td,Td _ _ lh9,bnd9⟩
 ·rintro σ G ⟨v7,v8,v9,v10,v11,v12,held,rfl,SG,M,hlG,bnd⟩
  refine hu4 _ _ _ ?_
  exact q _
theorem law_mk {fa:Addr} (hmg:mg "law" = some (.ref fa)) (T:Txt K mg C) :
  ∃ fd:FuncData,(∀ (s:Shared) (u:Value),BindsTo s fd ⟨[u],[]⟩ [("_law_script",u)]) ∧ ∀ base:Heap,K.In base → base.Ns mainGlobals mg → FnOk P w K mg base CX0 13 fa fd ["_law_script"] (wK K):=by
 obtain ⟨f,fd,F,b,m⟩:=T.d_p_law.ex
 rw [hmg] at m
 cases m
 refine ⟨fd,fun s u=>?_,fun base _ _=>aFA T F⟩
 obtain ⟨oc,od,kV,doc,pm,an,cdv,ct,osl,rfl,lk,hcd⟩:=F.ex
 exact .of_eq rfl
end
theorem txt_mk {K:PySem.W.Frag} {h:Heap} {mg:Str → Option Value} (X:K.In h) (G:h.Ns mainGlobals mg)
    {C:Addr}
    {fm15:Addr} {ocm15 kVm15 docm15 pmm15 cdm15 ctm15:Value} {odm15 anm15:Option Addr} {slm15:Array (Option Value)}
    {fm16:Addr} {ocm16 kVm16 docm16 pmm16 cdm16 ctm16:Value} {odm16 anm16:Option Addr} {slm16:Array (Option Value)}
    {fm17:Addr} {ocm17 kVm17 docm17 pmm17 cdm17 ctm17:Value} {odm17 anm17:Option Addr} {slm17:Array (Option Value)}
    {fm18:Addr} {ocm18 kVm18 docm18 pmm18 cdm18 ctm18:Value} {odm18 anm18:Option Addr} {slm18:Array (Option Value)}
    {fm19:Addr} {ocm19 kVm19 docm19 pmm19 cdm19 ctm19:Value} {odm19 anm19:Option Addr} {slm19:Array (Option Value)}
    {fm20:Addr} {ocm20 kVm20 docm20 pmm20 cdm20 ctm20:Value} {odm20 anm20:Option Addr} {slm20:Array (Option Value)}
    {fm21:Addr} {ocm21 kVm21 docm21 pmm21 cdm21 ctm21:Value} {odm21 anm21:Option Addr} {slm21:Array (Option Value)}
    {fm22:Addr} {ocm22 kVm22 docm22 pmm22 cdm22 ctm22:Value} {odm22 anm22:Option Addr} {slm22:Array (Option Value)}
    {fm23:Addr} {ocm23 kVm23 docm23 pmm23 cdm23 ctm23:Value} {odm23 anm23:Option Addr} {slm23:Array (Option Value)}
    {fm24:Addr} {ocm24 kVm24 docm24 pmm24 cdm24 ctm24:Value} {odm24 anm24:Option Addr} {slm24:Array (Option Value)}
    {C_Moot:Addr}
    {fm30:Addr} {ocm30 kVm30 docm30 pmm30 cdm30 ctm30:Value} {odm30 anm30:Option Addr} {slm30:Array (Option Value)}
    {fm31:Addr} {ocm31 kVm31 docm31 pmm31 cdm31 ctm31:Value} {odm31 anm31:Option Addr} {slm31:Array (Option Value)}
    {fm32:Addr} {ocm32 kVm32 docm32 pmm32 cdm32 ctm32:Value} {odm32 anm32:Option Addr} {slm32:Array (Option Value)}
    {fm33:Addr} {ocm33 kVm33 docm33 pmm33 cdm33 ctm33:Value} {odm33 anm33:Option Addr} {slm33:Array (Option Value)}
    {fm34:Addr} {ocm34 kVm34 docm34 pmm34 cdm34 ctm34:Value} {odm34 anm34:Option Addr} {slm34:Array (Option Value)}
    {fm35:Addr} {ocm35 kVm35 docm35 pmm35 cdm35 ctm35:Value} {odm35 anm35:Option Addr} {slm35:Array (Option Value)}
    {c_NoPurse c_NoVoice c_DykeError c_Short:Addr}
    {f0:Addr} {oc0 kV0 doc0 pm0 cd0 ct0:Value} {od0 an0:Option Addr} {sl0:Array (Option Value)}
    {f1:Addr} {oc1 kV1 doc1 pm1 cd1 ct1:Value} {od1 an1:Option Addr} {sl1:Array (Option Value)}
    {f2:Addr} {oc2 kV2 doc2 pm2 cd2 ct2:Value} {od2 an2:Option Addr} {sl2:Array (Option Value)}
    {f3:Addr} {oc3 kV3 doc3 pm3 cd3 ct3:Value} {od3 an3:Option Addr} {sl3:Array (Option Value)}
    {f4:Addr} {oc4 kV4 doc4 pm4 cd4 ct4:Value} {od4 an4:Option Addr} {sl4:Array (Option Value)}
    {f5:Addr} {oc5 kV5 doc5 pm5 cd5 ct5:Value} {od5 an5:Option Addr} {sl5:Array (Option Value)}
    {f6:Addr} {oc6 kV6 doc6 pm6 cd6 ct6:Value} {od6 an6:Option Addr} {sl6:Array (Option Value)}
    {f7:Addr} {oc7 kV7 doc7 pm7 cd7 ct7:Value} {od7 an7:Option Addr} {sl7:Array (Option Value)}
    {f8:Addr} {oc8 kV8 doc8 pm8 cd8 ct8:Value} {od8 an8:Option Addr} {sl8:Array (Option Value)}
    {f9:Addr} {oc9 kV9 doc9 pm9 cd9 ct9:Value} {od9 an9:Option Addr} {sl9:Array (Option Value)}
    {f10:Addr} {oc10 kV10 doc10 pm10 cd10 ct10:Value} {od10 an10:Option Addr} {sl10:Array (Option Value)}
    {f11:Addr} {oc11 kV11 doc11 pm11 cd11 ct11:Value} {od11 an11:Option Addr} {sl11:Array (Option Value)}
    {f12:Addr} {oc12 kV12 doc12 pm12 cd12 ct12:Value} {od12 an12:Option Addr} {sl12:Array (Option Value)}
    {f13:Addr} {oc13 kV13 doc13 pm13 cd13 ct13:Value} {od13 an13:Option Addr} {sl13:Array (Option Value)}
    {f14:Addr} {oc14 kV14 doc14 pm14 cd14 ct14:Value} {od14 an14:Option Addr} {sl14:Array (Option Value)}
    {f15:Addr} {oc15 kV15 doc15 pm15 cd15 ct15:Value} {od15 an15:Option Addr} {sl15:Array (Option Value)}
    {f16:Addr} {oc16 kV16 doc16 pm16 cd16 ct16:Value} {od16 an16:Option Addr} {sl16:Array (Option Value)}
    {f17:Addr} {oc17 kV17 doc17 pm17 cd17 ct17:Value} {od17 an17:Option Addr} {sl17:Array (Option Value)}
    {f18:Addr} {oc18 kV18 doc18 pm18 cd18 ct18:Value} {od18 an18:Option Addr} {sl18:Array (Option Value)}
    {f19:Addr} {oc19 kV19 doc19 pm19 cd19 ct19:Value} {od19 an19:Option Addr} {sl19:Array (Option Value)}
    {f20:Addr} {oc20 kV20 doc20 pm20 cd20 ct20:Value} {od20 an20:Option Addr} {sl20:Array (Option Value)}
    {f21:Addr} {oc21 kV21 doc21 pm21 cd21 ct21:Value} {od21 an21:Option Addr} {sl21:Array (Option Value)}
    {f22:Addr} {oc22 kV22 doc22 pm22 cd22 ct22:Value} {od22 an22:Option Addr} {sl22:Array (Option Value)}
    {f23:Addr} {oc23 kV23 doc23 pm23 cd23 ct23:Value} {od23 an23:Option Addr} {sl23:Array (Option Value)}
    {f24:Addr} {oc24 kV24 doc24 pm24 cd24 ct24:Value} {od24 an24:Option Addr} {sl24:Array (Option Value)}
    {f25:Addr} {oc25 kV25 doc25 pm25 cd25 ct25:Value} {od25 an25:Option Addr} {sl25:Array (Option Value)}
    {f26:Addr} {oc26 kV26 doc26 pm26 cd26 ct26:Value} {od26 an26:Option Addr} {sl26:Array (Option Value)}
    {f27:Addr} {oc27 kV27 doc27 pm27 cd27 ct27:Value} {od27 an27:Option Addr} {sl27:Array (Option Value)}
    {f28:Addr} {oc28 kV28 doc28 pm28 cd28 ct28:Value} {od28 an28:Option Addr} {sl28:Array (Option Value)}
    {f29:Addr} {oc29 kV29 doc29 pm29 cd29 ct29:Value} {od29 an29:Option Addr} {sl29:Array (Option Value)}
    {f30:Addr} {oc30 kV30 doc30 pm30 cd30 ct30:Value} {od30 an30:Option Addr} {sl30:Array (Option Value)}
    {u0:Value}
    {u1:Value}
    {u2:Value}
    {u3:Value}
    {u4:Value}
    {u5:Value}
    {u6:Value}
    {u7:Value}
    (aC:PySem.W.nsIn K mainGlobals "Land" = some (some (.ref C))) (pgC:PySem.W.plainGet K C Str.empty = true) (hdC:PySem.W.hasDictIn K C = true) (poC:PySem.W.plainOver K C = true) (saC:PySem.W.findIn K (.ref C) "__setattr__" = some (some (.builtin "object.__setattr__"))) (mkC:PySem.W.makesIn K C = true) (kpC:PySem.W.keepIn K (.ref C) = true)
    (n_field_rows:PySem.W.findIn K (.ref C) "field_rows" = some none)
    (n_dyke_rows:PySem.W.findIn K (.ref C) "dyke_rows" = some none)
    (ma15:PySem.W.findIn K (.ref C) "__init__" = some (some (.ref fm15))) (mi15:PySem.W.isFn K (.ref fm15) = true) (ml15:K.lookup fm15 = some ⟨ocm15,odm15,.func (PySem.W.fnOf "__init__" "Land.__init__" (aP fB) (aN fB) (aE fB) .none kVm15 docm15 pmm15 anm15 cdm15 ctm15),slm15⟩) (mc15:PySem.W.codeIn K cdm15 "Land.__init__" = true) (mk15:PySem.W.keepIn K (.ref fm15) = true)
    (ma16:PySem.W.findIn K (.ref C) "fields" = some (some (.ref fm16))) (mi16:PySem.W.isFn K (.ref fm16) = true) (ml16:K.lookup fm16 = some ⟨ocm16,odm16,.func (PySem.W.fnOf "fields" "Land.fields" (aP dA) (aN dA) (aE dA) .none kVm16 docm16 pmm16 anm16 cdm16 ctm16),slm16⟩) (mc16:PySem.W.codeIn K cdm16 "Land.fields" = true) (mk16:PySem.W.keepIn K (.ref fm16) = true)
    (ma17:PySem.W.findIn K (.ref C) "dykes" = some (some (.ref fm17))) (mi17:PySem.W.isFn K (.ref fm17) = true) (ml17:K.lookup fm17 = some ⟨ocm17,odm17,.func (PySem.W.fnOf "dykes" "Land.dykes" (aP dP) (aN dP) (aE dP) .none kVm17 docm17 pmm17 anm17 cdm17 ctm17),slm17⟩) (mc17:PySem.W.codeIn K cdm17 "Land.dykes" = true) (mk17:PySem.W.keepIn K (.ref fm17) = true)
    (ma18:PySem.W.findIn K (.ref C) "field_names" = some (some (.ref fm18))) (mi18:PySem.W.isFn K (.ref fm18) = true) (ml18:K.lookup fm18 = some ⟨ocm18,odm18,.func (PySem.W.fnOf "field_names" "Land.field_names" (aP cA) (aN cA) (aE cA) .none kVm18 docm18 pmm18 anm18 cdm18 ctm18),slm18⟩) (mc18:PySem.W.codeIn K cdm18 "Land.field_names" = true) (mk18:PySem.W.keepIn K (.ref fm18) = true)
    (ma19:PySem.W.findIn K (.ref C) "dyke_names" = some (some (.ref fm19))) (mi19:PySem.W.isFn K (.ref fm19) = true) (ml19:K.lookup fm19 = some ⟨ocm19,odm19,.func (PySem.W.fnOf "dyke_names" "Land.dyke_names" (aP cP) (aN cP) (aE cP) .none kVm19 docm19 pmm19 anm19 cdm19 ctm19),slm19⟩) (mc19:PySem.W.codeIn K cdm19 "Land.dyke_names" = true) (mk19:PySem.W.keepIn K (.ref fm19) = true)
    (ma20:PySem.W.findIn K (.ref C) "sluices" = some (some (.ref fm20))) (mi20:PySem.W.isFn K (.ref fm20) = true) (ml20:K.lookup fm20 = some ⟨ocm20,odm20,.func (PySem.W.fnOf "sluices" "Land.sluices" (aP dW) (aN dW) (aE dW) .none kVm20 docm20 pmm20 anm20 cdm20 ctm20),slm20⟩) (mc20:PySem.W.codeIn K cdm20 "Land.sluices" = true) (mk20:PySem.W.keepIn K (.ref fm20) = true)
    (ma21:PySem.W.findIn K (.ref C) "ground" = some (some (.ref fm21))) (mi21:PySem.W.isFn K (.ref fm21) = true) (ml21:K.lookup fm21 = some ⟨ocm21,odm21,.func (PySem.W.fnOf "ground" "Land.ground" (aP eP) (aN eP) (aE eP) .none kVm21 docm21 pmm21 anm21 cdm21 ctm21),slm21⟩) (mc21:PySem.W.codeIn K cdm21 "Land.ground" = true) (mk21:PySem.W.keepIn K (.ref fm21) = true)
    (ma22:PySem.W.findIn K (.ref C) "dues" = some (some (.ref fm22))) (mi22:PySem.W.isFn K (.ref fm22) = true) (ml22:K.lookup fm22 = some ⟨ocm22,odm22,.func (PySem.W.fnOf "dues" "Land.dues" (aP fJ) (aN fJ) (aE fJ) .none kVm22 docm22 pmm22 anm22 cdm22 ctm22),slm22⟩) (mc22:PySem.W.codeIn K cdm22 "Land.dues" = true) (mk22:PySem.W.keepIn K (.ref fm22) = true)
    (ma23:PySem.W.findIn K (.ref C) "dyke" = some (some (.ref fm23))) (mi23:PySem.W.isFn K (.ref fm23) = true) (ml23:K.lookup fm23 = some ⟨ocm23,odm23,.func (PySem.W.fnOf "dyke" "Land.dyke" (aP fI) (aN fI) (aE fI) .none kVm23 docm23 pmm23 anm23 cdm23 ctm23),slm23⟩) (mc23:PySem.W.codeIn K cdm23 "Land.dyke" = true) (mk23:PySem.W.keepIn K (.ref fm23) = true)
    (ma24:PySem.W.findIn K (.ref C) "raised" = some (some (.ref fm24))) (mi24:PySem.W.isFn K (.ref fm24) = true) (ml24:K.lookup fm24 = some ⟨ocm24,odm24,.func (PySem.W.fnOf "raised" "Land.raised" (aP eO) (aN eO) (aE eO) .none kVm24 docm24 pmm24 anm24 cdm24 ctm24),slm24⟩) (mc24:PySem.W.codeIn K cdm24 "Land.raised" = true) (mk24:PySem.W.keepIn K (.ref fm24) = true)
    (aCMoot:PySem.W.nsIn K mainGlobals "Moot" = some (some (.ref C_Moot))) (pgCMoot:PySem.W.plainGet K C_Moot Str.empty = true) (hdCMoot:PySem.W.hasDictIn K C_Moot = true) (poCMoot:PySem.W.plainOver K C_Moot = true) (saCMoot:PySem.W.findIn K (.ref C_Moot) "__setattr__" = some (some (.builtin "object.__setattr__"))) (mkCMoot:PySem.W.makesIn K C_Moot = true) (kpCMoot:PySem.W.keepIn K (.ref C_Moot) = true)
    (nMoot_land_now:PySem.W.findIn K (.ref C_Moot) "land_now" = some none)
    (nMoot_purse_of:PySem.W.findIn K (.ref C_Moot) "purse_of" = some none)
    (nMoot_works_done:PySem.W.findIn K (.ref C_Moot) "works_done" = some none)
    (ma30:PySem.W.findIn K (.ref C_Moot) "__init__" = some (some (.ref fm30))) (mi30:PySem.W.isFn K (.ref fm30) = true) (ml30:K.lookup fm30 = some ⟨ocm30,odm30,.func (PySem.W.fnOf "__init__" "Moot.__init__" (aP eZ) (aN eZ) (aE eZ) .none kVm30 docm30 pmm30 anm30 cdm30 ctm30),slm30⟩) (mc30:PySem.W.codeIn K cdm30 "Moot.__init__" = true) (mk30:PySem.W.keepIn K (.ref fm30) = true)
    (ma31:PySem.W.findIn K (.ref C_Moot) "move" = some (some (.ref fm31))) (mi31:PySem.W.isFn K (.ref fm31) = true) (ml31:K.lookup fm31 = some ⟨ocm31,odm31,.func (PySem.W.fnOf "move" "Moot.move" (aP fH) (aN fH) (aE fH) .none kVm31 docm31 pmm31 anm31 cdm31 ctm31),slm31⟩) (mc31:PySem.W.codeIn K cdm31 "Moot.move" = true) (mk31:PySem.W.keepIn K (.ref fm31) = true)
    (ma32:PySem.W.findIn K (.ref C_Moot) "put" = some (some (.ref fm32))) (mi32:PySem.W.isFn K (.ref fm32) = true) (ml32:K.lookup fm32 = some ⟨ocm32,odm32,.func (PySem.W.fnOf "put" "Moot.put" (aP fA) (aN fA) (aE fA) .none kVm32 docm32 pmm32 anm32 cdm32 ctm32),slm32⟩) (mc32:PySem.W.codeIn K cdm32 "Moot.put" = true) (mk32:PySem.W.keepIn K (.ref fm32) = true)
    (ma33:PySem.W.findIn K (.ref C_Moot) "land" = some (some (.ref fm33))) (mi33:PySem.W.isFn K (.ref fm33) = true) (ml33:K.lookup fm33 = some ⟨ocm33,odm33,.func (PySem.W.fnOf "land" "Moot.land" (aP eM) (aN eM) (aE eM) .none kVm33 docm33 pmm33 anm33 cdm33 ctm33),slm33⟩) (mc33:PySem.W.codeIn K cdm33 "Moot.land" = true) (mk33:PySem.W.keepIn K (.ref fm33) = true)
    (ma34:PySem.W.findIn K (.ref C_Moot) "purses" = some (some (.ref fm34))) (mi34:PySem.W.isFn K (.ref fm34) = true) (ml34:K.lookup fm34 = some ⟨ocm34,odm34,.func (PySem.W.fnOf "purses" "Moot.purses" (aP cZ) (aN cZ) (aE cZ) .none kVm34 docm34 pmm34 anm34 cdm34 ctm34),slm34⟩) (mc34:PySem.W.codeIn K cdm34 "Moot.purses" = true) (mk34:PySem.W.keepIn K (.ref fm34) = true)
    (ma35:PySem.W.findIn K (.ref C_Moot) "done" = some (some (.ref fm35))) (mi35:PySem.W.isFn K (.ref fm35) = true) (ml35:K.lookup fm35 = some ⟨ocm35,odm35,.func (PySem.W.fnOf "done" "Moot.done" (aP eN) (aN eN) (aE eN) .none kVm35 docm35 pmm35 anm35 cdm35 ctm35),slm35⟩) (mc35:PySem.W.codeIn K cdm35 "Moot.done" = true) (mk35:PySem.W.keepIn K (.ref fm35) = true)
    (xa_NoPurse:PySem.W.nsIn K mainGlobals "NoPurse" = some (some (.ref c_NoPurse))) (xa_NoVoice:PySem.W.nsIn K mainGlobals "NoVoice" = some (some (.ref c_NoVoice))) (xa_DykeError:PySem.W.nsIn K mainGlobals "DykeError" = some (some (.ref c_DykeError))) (xa_Short:PySem.W.nsIn K mainGlobals "Short" = some (some (.ref c_Short))) (xq_NoPurse:PySem.W.excIn K c_NoPurse [.type "ValueError",.type "Exception",.type "BaseException",.type "object"] "ValueError.__new__" = true) (xm_NoPurse:PySem.W.exmOne K (.ref c_NoPurse) (.ref c_NoPurse) = some true) (xp_NoPurse:PySem.W.findIn K (.ref c_NoPurse) "__getattribute__" = some (some (.builtin "BaseException.__getattribute__"))) (xg_NoPurse:PySem.W.findIn K (.ref c_NoPurse) "__getattr__" = some none) (xb_NoPurse:PySem.W.mroIn K c_NoPurse (.type "BaseException") = some true) (xh_NoPurse:PySem.W.findIn K (.ref c_NoPurse) "__class__" = some (some (.builtin "object.__class__"))) (xi_NoPurse:PySem.W.specialIn K (.builtin "object.__class__") "__get__" = some (some (.builtin "getset_descriptor.__get__"))) (xt_NoPurse:PySem.W.takesIn K (.builtin "object.__class__") = some true) (xo_NoPurse:PySem.W.mroIn K c_NoPurse (.type "object") = some true) (xq_NoVoice:PySem.W.excIn K c_NoVoice [.type "ValueError",.type "Exception",.type "BaseException",.type "object"] "ValueError.__new__" = true) (xm_NoVoice:PySem.W.exmOne K (.ref c_NoVoice) (.ref c_NoVoice) = some true) (xp_NoVoice:PySem.W.findIn K (.ref c_NoVoice) "__getattribute__" = some (some (.builtin "BaseException.__getattribute__"))) (xg_NoVoice:PySem.W.findIn K (.ref c_NoVoice) "__getattr__" = some none) (xb_NoVoice:PySem.W.mroIn K c_NoVoice (.type "BaseException") = some true) (xh_NoVoice:PySem.W.findIn K (.ref c_NoVoice) "__class__" = some (some (.builtin "object.__class__"))) (xi_NoVoice:PySem.W.specialIn K (.builtin "object.__class__") "__get__" = some (some (.builtin "getset_descriptor.__get__"))) (xt_NoVoice:PySem.W.takesIn K (.builtin "object.__class__") = some true) (xo_NoVoice:PySem.W.mroIn K c_NoVoice (.type "object") = some true)
    (xz0:PySem.W.kitOne K (.ref c_NoPurse) (.ref c_DykeError) = some true)
    (xz1:PySem.W.kitOne K (.ref c_NoPurse) (.ref c_NoPurse) = some true)
    (xz2:PySem.W.kitOne K (.ref c_NoPurse) (.type "ValueError") = some true)
    (xz3:PySem.W.kitOne K (.ref c_NoPurse) (.ref c_NoVoice) = some false)
    (xz4:PySem.W.kitOne K (.ref c_NoPurse) (.ref c_Short) = some false)
    (xz5:PySem.W.kitOne K (.ref c_NoVoice) (.ref c_DykeError) = some true)
    (xz6:PySem.W.kitOne K (.ref c_NoVoice) (.ref c_NoPurse) = some false)
    (xz7:PySem.W.kitOne K (.ref c_NoVoice) (.type "ValueError") = some true)
    (xz8:PySem.W.kitOne K (.ref c_NoVoice) (.ref c_NoVoice) = some true)
    (xz9:PySem.W.kitOne K (.ref c_NoVoice) (.ref c_Short) = some false)
    (xz10:PySem.W.exmOne K (.ref c_NoPurse) (.ref c_DykeError) = some true)
    (xz11:PySem.W.exmOne K (.ref c_NoVoice) (.ref c_DykeError) = some true)
    (a0:PySem.W.nsIn K mainGlobals "_wall" = some (some (.ref f0))) (l0:K.lookup f0 = some ⟨oc0,od0,.func (PySem.W.fnOf "_wall" "_wall" (aP kT) (aN kT) (aE kT) .none kV0 doc0 pm0 an0 cd0 ct0),sl0⟩) (c0:PySem.W.codeIn K cd0 "_wall" = true) (k0:PySem.W.keepIn K (.ref f0) = true)
    (a1:PySem.W.nsIn K mainGlobals "is_whole" = some (some (.ref f1))) (l1:K.lookup f1 = some ⟨oc1,od1,.func (PySem.W.fnOf "is_whole" "is_whole" (aP eW) (aN eW) (aE eW) .none kV1 doc1 pm1 an1 cd1 ct1),sl1⟩) (c1:PySem.W.codeIn K cd1 "is_whole" = true) (k1:PySem.W.keepIn K (.ref f1) = true)
    (a2:PySem.W.nsIn K mainGlobals "is_name" = some (some (.ref f2))) (l2:K.lookup f2 = some ⟨oc2,od2,.func (PySem.W.fnOf "is_name" "is_name" (aP fL) (aN fL) (aE fL) .none kV2 doc2 pm2 an2 cd2 ct2),sl2⟩) (c2:PySem.W.codeIn K cd2 "is_name" = true) (k2:PySem.W.keepIn K (.ref f2) = true)
    (a3:PySem.W.nsIn K mainGlobals "is_height" = some (some (.ref f3))) (l3:K.lookup f3 = some ⟨oc3,od3,.func (PySem.W.fnOf "is_height" "is_height" (aP eF) (aN eF) (aE eF) .none kV3 doc3 pm3 an3 cd3 ct3),sl3⟩) (c3:PySem.W.codeIn K cd3 "is_height" = true) (k3:PySem.W.keepIn K (.ref f3) = true)
    (a4:PySem.W.nsIn K mainGlobals "is_amount" = some (some (.ref f4))) (l4:K.lookup f4 = some ⟨oc4,od4,.func (PySem.W.fnOf "is_amount" "is_amount" (aP eG) (aN eG) (aE eG) .none kV4 doc4 pm4 an4 cd4 ct4),sl4⟩) (c4:PySem.W.codeIn K cd4 "is_amount" = true) (k4:PySem.W.keepIn K (.ref f4) = true)
    (a5:PySem.W.nsIn K mainGlobals "is_one_of" = some (some (.ref f5))) (l5:K.lookup f5 = some ⟨oc5,od5,.func (PySem.W.fnOf "is_one_of" "is_one_of" (aP eE) (aN eE) (aE eE) .none kV5 doc5 pm5 an5 cd5 ct5),sl5⟩) (c5:PySem.W.codeIn K cd5 "is_one_of" = true) (k5:PySem.W.keepIn K (.ref f5) = true)
    (a6:PySem.W.nsIn K mainGlobals "is_list_of" = some (some (.ref f6))) (l6:K.lookup f6 = some ⟨oc6,od6,.func (PySem.W.fnOf "is_list_of" "is_list_of" (aP dM) (aN dM) (aE dM) .none kV6 doc6 pm6 an6 cd6 ct6),sl6⟩) (c6:PySem.W.codeIn K cd6 "is_list_of" = true) (k6:PySem.W.keepIn K (.ref f6) = true)
    (a7:PySem.W.nsIn K mainGlobals "is_tuple_of" = some (some (.ref f7))) (l7:K.lookup f7 = some ⟨oc7,od7,.func (PySem.W.fnOf "is_tuple_of" "is_tuple_of" (aP cY) (aN cY) (aE cY) .none kV7 doc7 pm7 an7 cd7 ct7),sl7⟩) (c7:PySem.W.codeIn K cd7 "is_tuple_of" = true) (k7:PySem.W.keepIn K (.ref f7) = true)
    (a8:PySem.W.nsIn K mainGlobals "none_twice" = some (some (.ref f8))) (l8:K.lookup f8 = some ⟨oc8,od8,.func (PySem.W.fnOf "none_twice" "none_twice" (aP dL) (aN dL) (aE dL) .none kV8 doc8 pm8 an8 cd8 ct8),sl8⟩) (c8:PySem.W.codeIn K cd8 "none_twice" = true) (k8:PySem.W.keepIn K (.ref f8) = true)
    (a9:PySem.W.nsIn K mainGlobals "is_field" = some (some (.ref f9))) (l9:K.lookup f9 = some ⟨oc9,od9,.func (PySem.W.fnOf "is_field" "is_field" (aP eX) (aN eX) (aE eX) .none kV9 doc9 pm9 an9 cd9 ct9),sl9⟩) (c9:PySem.W.codeIn K cd9 "is_field" = true) (k9:PySem.W.keepIn K (.ref f9) = true)
    (a10:PySem.W.nsIn K mainGlobals "are_fields" = some (some (.ref f10))) (l10:K.lookup f10 = some ⟨oc10,od10,.func (PySem.W.fnOf "are_fields" "are_fields" (aP dO) (aN dO) (aE dO) .none kV10 doc10 pm10 an10 cd10 ct10),sl10⟩) (c10:PySem.W.codeIn K cd10 "are_fields" = true) (k10:PySem.W.keepIn K (.ref f10) = true)
    (a11:PySem.W.nsIn K mainGlobals "are_sides" = some (some (.ref f11))) (l11:K.lookup f11 = some ⟨oc11,od11,.func (PySem.W.fnOf "are_sides" "are_sides" (aP eI) (aN eI) (aE eI) .none kV11 doc11 pm11 an11 cd11 ct11),sl11⟩) (c11:PySem.W.codeIn K cd11 "are_sides" = true) (k11:PySem.W.keepIn K (.ref f11) = true)
    (a12:PySem.W.nsIn K mainGlobals "is_sill" = some (some (.ref f12))) (l12:K.lookup f12 = some ⟨oc12,od12,.func (PySem.W.fnOf "is_sill" "is_sill" (aP fK) (aN fK) (aE fK) .none kV12 doc12 pm12 an12 cd12 ct12),sl12⟩) (c12:PySem.W.codeIn K cd12 "is_sill" = true) (k12:PySem.W.keepIn K (.ref f12) = true)
    (a13:PySem.W.nsIn K mainGlobals "is_dyke" = some (some (.ref f13))) (l13:K.lookup f13 = some ⟨oc13,od13,.func (PySem.W.fnOf "is_dyke" "is_dyke" (aP fM) (aN fM) (aE fM) .none kV13 doc13 pm13 an13 cd13 ct13),sl13⟩) (c13:PySem.W.codeIn K cd13 "is_dyke" = true) (k13:PySem.W.keepIn K (.ref f13) = true)
    (a14:PySem.W.nsIn K mainGlobals "are_dykes" = some (some (.ref f14))) (l14:K.lookup f14 = some ⟨oc14,od14,.func (PySem.W.fnOf "are_dykes" "are_dykes" (aP eJ) (aN eJ) (aE eJ) .none kV14 doc14 pm14 an14 cd14 ct14),sl14⟩) (c14:PySem.W.codeIn K cd14 "are_dykes" = true) (k14:PySem.W.keepIn K (.ref f14) = true)
    (a15:PySem.W.nsIn K mainGlobals "greatest_divisor" = some (some (.ref f15))) (l15:K.lookup f15 = some ⟨oc15,od15,.func (PySem.W.fnOf "greatest_divisor" "greatest_divisor" (aP bZ) (aN bZ) (aE bZ) .none kV15 doc15 pm15 an15 cd15 ct15),sl15⟩) (c15:PySem.W.codeIn K cd15 "greatest_divisor" = true) (k15:PySem.W.keepIn K (.ref f15) = true)
    (a16:PySem.W.nsIn K mainGlobals "fraction" = some (some (.ref f16))) (l16:K.lookup f16 = some ⟨oc16,od16,.func (PySem.W.fnOf "fraction" "fraction" (aP eY) (aN eY) (aE eY) .none kV16 doc16 pm16 an16 cd16 ct16),sl16⟩) (c16:PySem.W.codeIn K cd16 "fraction" = true) (k16:PySem.W.keepIn K (.ref f16) = true)
    (a17:PySem.W.nsIn K mainGlobals "plus" = some (some (.ref f17))) (l17:K.lookup f17 = some ⟨oc17,od17,.func (PySem.W.fnOf "plus" "plus" (aP jD) (aN jD) (aE jD) .none kV17 doc17 pm17 an17 cd17 ct17),sl17⟩) (c17:PySem.W.codeIn K cd17 "plus" = true) (k17:PySem.W.keepIn K (.ref f17) = true)
    (a18:PySem.W.nsIn K mainGlobals "are_coins" = some (some (.ref f18))) (l18:K.lookup f18 = some ⟨oc18,od18,.func (PySem.W.fnOf "are_coins" "are_coins" (aP eL) (aN eL) (aE eL) .none kV18 doc18 pm18 an18 cd18 ct18),sl18⟩) (c18:PySem.W.codeIn K cd18 "are_coins" = true) (k18:PySem.W.keepIn K (.ref f18) = true)
    (a19:PySem.W.nsIn K mainGlobals "are_purses" = some (some (.ref f19))) (l19:K.lookup f19 = some ⟨oc19,od19,.func (PySem.W.fnOf "are_purses" "are_purses" (aP dN) (aN dN) (aE dN) .none kV19 doc19 pm19 an19 cd19 ct19),sl19⟩) (c19:PySem.W.codeIn K cd19 "are_purses" = true) (k19:PySem.W.keepIn K (.ref f19) = true)
    (a20:PySem.W.nsIn K mainGlobals "_law_mixed" = some (some (.ref f20))) (l20:K.lookup f20 = some ⟨oc20,od20,.func (PySem.W.fnOf "_law_mixed" "_law_mixed" (aP hV) (aN hV) (aE hV) .none kV20 doc20 pm20 an20 cd20 ct20),sl20⟩) (c20:PySem.W.codeIn K cd20 "_law_mixed" = true) (k20:PySem.W.keepIn K (.ref f20) = true)
    (a21:PySem.W.nsIn K mainGlobals "_law_names" = some (some (.ref f21))) (l21:K.lookup f21 = some ⟨oc21,od21,.func (PySem.W.fnOf "_law_names" "_law_names" (aP hU) (aN hU) (aE hU) .none kV21 doc21 pm21 an21 cd21 ct21),sl21⟩) (c21:PySem.W.codeIn K cd21 "_law_names" = true) (k21:PySem.W.keepIn K (.ref f21) = true)
    (a22:PySem.W.nsIn K mainGlobals "_law_height" = some (some (.ref f22))) (l22:K.lookup f22 = some ⟨oc22,od22,.func (PySem.W.fnOf "_law_height" "_law_height" (aP gE) (aN gE) (aE gE) .none kV22 doc22 pm22 an22 cd22 ct22),sl22⟩) (c22:PySem.W.codeIn K cd22 "_law_height" = true) (k22:PySem.W.keepIn K (.ref f22) = true)
    (a23:PySem.W.nsIn K mainGlobals "_law_fields" = some (some (.ref f23))) (l23:K.lookup f23 = some ⟨oc23,od23,.func (PySem.W.fnOf "_law_fields" "_law_fields" (aP gF) (aN gF) (aE gF) .none kV23 doc23 pm23 an23 cd23 ct23),sl23⟩) (c23:PySem.W.codeIn K cd23 "_law_fields" = true) (k23:PySem.W.keepIn K (.ref f23) = true)
    (a24:PySem.W.nsIn K mainGlobals "_law_dykes" = some (some (.ref f24))) (l24:K.lookup f24 = some ⟨oc24,od24,.func (PySem.W.fnOf "_law_dykes" "_law_dykes" (aP hW) (aN hW) (aE hW) .none kV24 doc24 pm24 an24 cd24 ct24),sl24⟩) (c24:PySem.W.codeIn K cd24 "_law_dykes" = true) (k24:PySem.W.keepIn K (.ref f24) = true)
    (a25:PySem.W.nsIn K mainGlobals "_law_purses" = some (some (.ref f25))) (l25:K.lookup f25 = some ⟨oc25,od25,.func (PySem.W.fnOf "_law_purses" "_law_purses" (aP gD) (aN gD) (aE gD) .none kV25 doc25 pm25 an25 cd25 ct25),sl25⟩) (c25:PySem.W.codeIn K cd25 "_law_purses" = true) (k25:PySem.W.keepIn K (.ref f25) = true)
    (a26:PySem.W.nsIn K mainGlobals "_law_spoilt" = some (some (.ref f26))) (l26:K.lookup f26 = some ⟨oc26,od26,.func (PySem.W.fnOf "_law_spoilt" "_law_spoilt" (aP gC) (aN gC) (aE gC) .none kV26 doc26 pm26 an26 cd26 ct26),sl26⟩) (c26:PySem.W.codeIn K cd26 "_law_spoilt" = true) (k26:PySem.W.keepIn K (.ref f26) = true)
    (a27:PySem.W.nsIn K mainGlobals "_law_refused" = some (some (.ref f27))) (l27:K.lookup f27 = some ⟨oc27,od27,.func (PySem.W.fnOf "_law_refused" "_law_refused" (aP fN) (aN fN) (aE fN) .none kV27 doc27 pm27 an27 cd27 ct27),sl27⟩) (c27:PySem.W.codeIn K cd27 "_law_refused" = true) (k27:PySem.W.keepIn K (.ref f27) = true)
    (a28:PySem.W.nsIn K mainGlobals "_law_put" = some (some (.ref f28))) (l28:K.lookup f28 = some ⟨oc28,od28,.func (PySem.W.fnOf "_law_put" "_law_put" (aP kU) (aN kU) (aE kU) .none kV28 doc28 pm28 an28 cd28 ct28),sl28⟩) (c28:PySem.W.codeIn K cd28 "_law_put" = true) (k28:PySem.W.keepIn K (.ref f28) = true)
    (a29:PySem.W.nsIn K mainGlobals "_law_tells" = some (some (.ref f29))) (l29:K.lookup f29 = some ⟨oc29,od29,.func (PySem.W.fnOf "_law_tells" "_law_tells" (aP hJ) (aN hJ) (aE hJ) .none kV29 doc29 pm29 an29 cd29 ct29),sl29⟩) (c29:PySem.W.codeIn K cd29 "_law_tells" = true) (k29:PySem.W.keepIn K (.ref f29) = true)
    (a30:PySem.W.nsIn K mainGlobals "law" = some (some (.ref f30))) (l30:K.lookup f30 = some ⟨oc30,od30,.func (PySem.W.fnOf "law" "law" (aP jU) (aN jU) (aE jU) .none kV30 doc30 pm30 an30 cd30 ct30),sl30⟩) (c30:PySem.W.codeIn K cd30 "law" = true) (k30:PySem.W.keepIn K (.ref f30) = true)
    (g0:PySem.W.nsIn K mainGlobals "SEA" = some (some u0)) (r0:aZ (.str "sea") u0)
    (g1:PySem.W.nsIn K mainGlobals "LETTERS" = some (some u1)) (r1:aZ (.str "abcdefghijklmnopqrstuvwxyz") u1)
    (g2:PySem.W.nsIn K mainGlobals "MOST_LETTERS" = some (some u2)) (r2:aZ (.int 8) u2)
    (g3:PySem.W.nsIn K mainGlobals "MOST_HEIGHT" = some (some u3)) (r3:aZ (.int 1000000) u3)
    (g4:PySem.W.nsIn K mainGlobals "MOST_AMOUNT" = some (some u4)) (r4:aZ (.int 1000000) u4)
    (g5:PySem.W.nsIn K mainGlobals "MOST_FIELDS" = some (some u5)) (r5:aZ (.int 12) u5)
    (g6:PySem.W.nsIn K mainGlobals "MOST_DYKES" = some (some u6)) (r6:aZ (.int 40) u6)
    (g7:PySem.W.nsIn K mainGlobals "MOST_COINS" = some (some u7)) (r7:aZ (.int 1000000000000) u7)
    (z0:PySem.W.nsIn K mainGlobals "ValueError" = some none)
    (z1:PySem.W.nsIn K mainGlobals "abs" = some none)
    (z2:PySem.W.nsIn K mainGlobals "all" = some none)
    (z3:PySem.W.nsIn K mainGlobals "bool" = some none)
    (z4:PySem.W.nsIn K mainGlobals "dict" = some none)
    (z5:PySem.W.nsIn K mainGlobals "int" = some none)
    (z6:PySem.W.nsIn K mainGlobals "isinstance" = some none)
    (z7:PySem.W.nsIn K mainGlobals "len" = some none)
    (z8:PySem.W.nsIn K mainGlobals "list" = some none)
    (z9:PySem.W.nsIn K mainGlobals "max" = some none)
    (z10:PySem.W.nsIn K mainGlobals "min" = some none)
    (z11:PySem.W.nsIn K mainGlobals "range" = some none)
    (z12:PySem.W.nsIn K mainGlobals "set" = some none)
    (z13:PySem.W.nsIn K mainGlobals "str" = some none)
    (z14:PySem.W.nsIn K mainGlobals "tuple" = some none)  :Txt K mg C :=
  ⟨⟨pgC,hdC,poC,saC⟩,
   PySem.W.mg_of X G aC,
   n_field_rows,
   n_dyke_rows,
   wX ma15 mi15 ml15 mc15 mk15 mkC kpC (fun _ _ _ _ _ _ us hl=>match us,hl with | [_,_,_],_=>rfl),
   dI ma16 mi16 ml16 mc16 mk16 (fun _ _ _ _ _ _ us hl=>match us,hl with | [_],_=>rfl),
   dI ma17 mi17 ml17 mc17 mk17 (fun _ _ _ _ _ _ us hl=>match us,hl with | [_],_=>rfl),
   dI ma18 mi18 ml18 mc18 mk18 (fun _ _ _ _ _ _ us hl=>match us,hl with | [_],_=>rfl),
   dI ma19 mi19 ml19 mc19 mk19 (fun _ _ _ _ _ _ us hl=>match us,hl with | [_],_=>rfl),
   dI ma20 mi20 ml20 mc20 mk20 (fun _ _ _ _ _ _ us hl=>match us,hl with | [_],_=>rfl),
   dI ma21 mi21 ml21 mc21 mk21 (fun _ _ _ _ _ _ us hl=>match us,hl with | [_,_],_=>rfl),
   dI ma22 mi22 ml22 mc22 mk22 (fun _ _ _ _ _ _ us hl=>match us,hl with | [_,_],_=>rfl),
   dI ma23 mi23 ml23 mc23 mk23 (fun _ _ _ _ _ _ us hl=>match us,hl with | [_,_],_=>rfl),
   dI ma24 mi24 ml24 mc24 mk24 (fun _ _ _ _ _ _ us hl=>match us,hl with | [_,_],_=>rfl),
   ⟨C_Moot,⟨pgCMoot,hdCMoot,poCMoot,saCMoot⟩,PySem.W.mg_of X G aCMoot,nMoot_land_now,nMoot_purse_of,nMoot_works_done,wX ma30 mi30 ml30 mc30 mk30 mkCMoot kpCMoot (fun _ _ _ _ _ _ us hl=>match us,hl with | [_,_,_],_=>rfl),dI ma31 mi31 ml31 mc31 mk31 (fun _ _ _ _ _ _ us hl=>match us,hl with | [_,_,_,_],_=>rfl),dI ma32 mi32 ml32 mc32 mk32 (fun _ _ _ _ _ _ us hl=>match us,hl with | [_,_,_],_=>rfl),dI ma33 mi33 ml33 mc33 mk33 (fun _ _ _ _ _ _ us hl=>match us,hl with | [_],_=>rfl),dI ma34 mi34 ml34 mc34 mk34 (fun _ _ _ _ _ _ us hl=>match us,hl with | [_],_=>rfl),dI ma35 mi35 ml35 mc35 mk35 (fun _ _ _ _ _ _ us hl=>match us,hl with | [_],_=>rfl)⟩,
   ⟨c_NoPurse,c_NoVoice,c_DykeError,c_Short,⟨⟨⟨xq_NoPurse⟩,xm_NoPurse⟩,xp_NoPurse,xg_NoPurse,xb_NoPurse,⟨xh_NoPurse,xi_NoPurse,xt_NoPurse,xo_NoPurse⟩⟩,⟨⟨⟨xq_NoVoice⟩,xm_NoVoice⟩,xp_NoVoice,xg_NoVoice,xb_NoVoice,⟨xh_NoVoice,xi_NoVoice,xt_NoVoice,xo_NoVoice⟩⟩,PySem.W.mg_of X G xa_NoPurse,PySem.W.mg_of X G xa_NoVoice,PySem.W.mg_of X G xa_DykeError,PySem.W.mg_of X G xa_Short,xz0,xz1,xz2,xz3,xz4,xz5,xz6,xz7,xz8,xz9,xz10,xz11⟩,
   bO X G a0 l0 c0 k0 (fun _ _ _ _ _ _ us hl=>match us,hl with | [_],_=>rfl),
   bO X G a1 l1 c1 k1 (fun _ _ _ _ _ _ us hl=>match us,hl with | [_],_=>rfl),
   bO X G a2 l2 c2 k2 (fun _ _ _ _ _ _ us hl=>match us,hl with | [_],_=>rfl),
   bO X G a3 l3 c3 k3 (fun _ _ _ _ _ _ us hl=>match us,hl with | [_],_=>rfl),
   bO X G a4 l4 c4 k4 (fun _ _ _ _ _ _ us hl=>match us,hl with | [_],_=>rfl),
   bO X G a5 l5 c5 k5 (fun _ _ _ _ _ _ us hl=>match us,hl with | [_,_],_=>rfl),
   bO X G a6 l6 c6 k6 (fun _ _ _ _ _ _ us hl=>match us,hl with | [_,_],_=>rfl),
   bO X G a7 l7 c7 k7 (fun _ _ _ _ _ _ us hl=>match us,hl with | [_,_],_=>rfl),
   bO X G a8 l8 c8 k8 (fun _ _ _ _ _ _ us hl=>match us,hl with | [_],_=>rfl),
   bO X G a9 l9 c9 k9 (fun _ _ _ _ _ _ us hl=>match us,hl with | [_],_=>rfl),
   bO X G a10 l10 c10 k10 (fun _ _ _ _ _ _ us hl=>match us,hl with | [_],_=>rfl),
   bO X G a11 l11 c11 k11 (fun _ _ _ _ _ _ us hl=>match us,hl with | [_,_,_],_=>rfl),
   bO X G a12 l12 c12 k12 (fun _ _ _ _ _ _ us hl=>match us,hl with | [_,_],_=>rfl),
   bO X G a13 l13 c13 k13 (fun _ _ _ _ _ _ us hl=>match us,hl with | [_,_],_=>rfl),
   bO X G a14 l14 c14 k14 (fun _ _ _ _ _ _ us hl=>match us,hl with | [_,_],_=>rfl),
   bO X G a15 l15 c15 k15 (fun _ _ _ _ _ _ us hl=>match us,hl with | [_,_],_=>rfl),
   bO X G a16 l16 c16 k16 (fun _ _ _ _ _ _ us hl=>match us,hl with | [_,_],_=>rfl),
   bO X G a17 l17 c17 k17 (fun _ _ _ _ _ _ us hl=>match us,hl with | [_,_],_=>rfl),
   bO X G a18 l18 c18 k18 (fun _ _ _ _ _ _ us hl=>match us,hl with | [_],_=>rfl),
   bO X G a19 l19 c19 k19 (fun _ _ _ _ _ _ us hl=>match us,hl with | [_,_],_=>rfl),
   bO X G a20 l20 c20 k20 (fun _ _ _ _ _ _ us hl=>match us,hl with | [_,_],_=>rfl),
   bO X G a21 l21 c21 k21 (fun _ _ _ _ _ _ us hl=>match us,hl with | [_],_=>rfl),
   bO X G a22 l22 c22 k22 (fun _ _ _ _ _ _ us hl=>match us,hl with | [_],_=>rfl),
   bO X G a23 l23 c23 k23 (fun _ _ _ _ _ _ us hl=>match us,hl with | [_,_],_=>rfl),
   bO X G a24 l24 c24 k24 (fun _ _ _ _ _ _ us hl=>match us,hl with | [_,_,_,_],_=>rfl),
   bO X G a25 l25 c25 k25 (fun _ _ _ _ _ _ us hl=>match us,hl with | [_,_],_=>rfl),
   bO X G a26 l26 c26 k26 (fun _ _ _ _ _ _ us hl=>match us,hl with | [_,_],_=>rfl),
   bO X G a27 l27 c27 k27 (fun _ _ _ _ _ _ us hl=>match us,hl with | [_,_],_=>rfl),
   bO X G a28 l28 c28 k28 (fun _ _ _ _ _ _ us hl=>match us,hl with | [_,_,_],_=>rfl),
   bO X G a29 l29 c29 k29 (fun _ _ _ _ _ _ us hl=>match us,hl with | [_,_,_,_],_=>rfl),
   bO X G a30 l30 c30 k30 (fun _ _ _ _ _ _ us hl=>match us,hl with | [_],_=>rfl),
   gT X G g0 r0,
   gT X G g1 r1,
   gT X G g2 r2,
   gT X G g3 r3,
   gT X G g4 r4,
   gT X G g5 r5,
   gT X G g6 r6,
   gT X G g7 r7,
   PySem.W.mg_none_of X G z0,
   PySem.W.mg_none_of X G z1,
   PySem.W.mg_none_of X G z2,
   PySem.W.mg_none_of X G z3,
   PySem.W.mg_none_of X G z4,
   PySem.W.mg_none_of X G z5,
   PySem.W.mg_none_of X G z6,
   PySem.W.mg_none_of X G z7,
   PySem.W.mg_none_of X G z8,
   PySem.W.mg_none_of X G z9,
   PySem.W.mg_none_of X G z10,
   PySem.W.mg_none_of X G z11,
   PySem.W.mg_none_of X G z12,
   PySem.W.mg_none_of X G z13,
   PySem.W.mg_none_of X G z14⟩
end K81
namespace PySem.W.Fast
def tw8255849167000796108 := 0
def tw402652000495563502 := 0
def tw13456272134273161575 := 0
def tw3443782673477435505 := 0
def tw386744931017661843 := 0
def tw6264455078374268156 := 0
def tw8494847589409499988 := 0
def tw9829421982010563248 := 0
def tw6779772899284113560 := 0
def tw14372850563268959143 := 0
def tw13354422822978103270 := 0
def tw1581926554817848560 := 0
def tw7450136476275912209 := 0
def tw14369544094035542610 := 0
def tw16083344677437012045 := 0
def tw4472038341787502090 := 0
def tw3401384344191831331 := 0
def tw2821587210944255102 := 0
def tw12919603336151990197 := 0
def tw16292566687401186741 := 0
def tw6684691726090852524 := 0
def tw5241911589917019355 := 0
def tw17102032932703397401 := 0
def tw9232093568564087367 := 0
def tw16638115992396259619 := 0
def tw8767950768076047323 := 0
def tw14967125003426483636 := 0
def tw15747734719465674429 := 0
def tw4127835756007725176 := 0
def tw16641498075120120345 := 0
def tw10059257092182807107 := 0
def tw18352056929699973619 := 0
def tw12333419386284366289 := 0
def tw10270982519736565745 := 0
def tw13025708843025517085 := 0
def tw14474794920718112385 := 0
def tw10628102930045257871 := 0
def tw8145910836791036626 := 0
def tw3639455670809174127 := 0
def tw11893842329312048029 := 0
def tw9358694337346237047 := 0
def tw17388846909420129418 := 0
def tw4971645994933587750 := 0
def tw11090905389874942026 := 0
def tw5355288428463110510 := 0
def tw11201775916667452954 := 0
def tw3764931412049704822 := 0
def tw1738491903558264846 := 0
def tw8103196052824115422 := 0
def tw13841639047409940421 := 0
def tw10053025245592591366 := 0
def tw8120676236483146058 := 0
def tw10607269992328503994 := 0
def tw6314563104278797902 := 0
def tw4449936949061602704 := 0
def tw12788472688501294025 := 0
def tw13880457875077698523 := 0
def tw1009285783864837995 := 0
def tw3584167819955702010 := 0
def tw13002203541321739001 := 0
def tw14748606402596630872 := 0
def tw10415568104841728587 := 0
def tw1047442648264888666 := 0
def tw699411773384295864 := 0
def tw16861285790040699779 := 0
def tw14372667207676187119 := 0
def tw12398288629276118910 := 0
def tw8025349663603201167 := 0
def tw5325302091117293514 := 0
def tw5143028109546994939 := 0
def tw10367458835325565533 := 0
def tw9059451615922826672 := 0
def tw7022735353651407029 := 0
def tw16600325331245943269 := 0
def tw17422638160902819787 := 0
def tw10004674505713911444 := 0
def tw7398827389136180552 := 0
def tw18242518320494953860 := 0
def tw6272580842241260265 := 0
def tw7585677582067227262 := 0
def tw897627286962885263 := 0
def tw12883546429416301848 := 0
def tw14659110688980826275 := 0
def tw5520339960845760892 := 0
end PySem.W.Fast
open PySem PySem.W PyProof.Rows
set_option maxRecDepth 100000 in
set_option maxHeartbeats 0 in
theorem PySem.Challenge.cw_dykemoot_k81_moots_opened_holds : PySem.Challenge.rw_dykemoot_k81_moots_opened.Holds := by
 w_on; o_law; k_head; (case hw => w_witness2)
 k_fill
 refine L2.walk_law (l := PySem.Challenge.rw_dykemoot_k81_moots_opened) 13 ⟨rfl, by decide, by decide⟩ rfl rfl (fun w h Y => PySem.W.kIn_of Y) ?F
 case F =>
  intro w mg fa h KX G hmg
  refine' K81.law_mk hmg (K81.txt_mk KX G ?xaC ?xpgC ?xhdC ?xpoC ?xsaC ?xmkC ?xkpC ?xn_field_rows ?xn_dyke_rows ?xma15 ?xmi15 ?xml15 ?xmc15 ?xmk15 ?xma16 ?xmi16 ?xml16 ?xmc16 ?xmk16 ?xma17 ?xmi17 ?xml17 ?xmc17 ?xmk17 ?xma18 ?xmi18 ?xml18 ?xmc18 ?xmk18 ?xma19 ?xmi19 ?xml19 ?xmc19 ?xmk19 ?xma20 ?xmi20 ?xml20 ?xmc20 ?xmk20 ?xma21 ?xmi21 ?xml21 ?xmc21 ?xmk21 ?xma22 ?xmi22 ?xml22 ?xmc22 ?xmk22 ?xma23 ?xmi23 ?xml23 ?xmc23 ?xmk23 ?xma24 ?xmi24 ?xml24 ?xmc24 ?xmk24 ?xaCMoot ?xpgCMoot ?xhdCMoot ?xpoCMoot ?xsaCMoot ?xmkCMoot ?xkpCMoot ?xnMoot_land_now ?xnMoot_purse_of ?xnMoot_works_done ?xma30 ?xmi30 ?xml30 ?xmc30 ?xmk30 ?xma31 ?xmi31 ?xml31 ?xmc31 ?xmk31 ?xma32 ?xmi32 ?xml32 ?xmc32 ?xmk32 ?xma33 ?xmi33 ?xml33 ?xmc33 ?xmk33 ?xma34 ?xmi34 ?xml34 ?xmc34 ?xmk34 ?xma35 ?xmi35 ?xml35 ?xmc35 ?xmk35 ?xxa_NoPurse ?xxa_NoVoice ?xxa_DykeError ?xxa_Short ?xxq_NoPurse ?xxm_NoPurse ?xxp_NoPurse ?xxg_NoPurse ?xxb_NoPurse ?xxh_NoPurse ?xxi_NoPurse ?xxt_NoPurse ?xxo_NoPurse ?xxq_NoVoice ?xxm_NoVoice ?xxp_NoVoice ?xxg_NoVoice ?xxb_NoVoice ?xxh_NoVoice ?xxi_NoVoice ?xxt_NoVoice ?xxo_NoVoice ?xxz0 ?xxz1 ?xxz2 ?xxz3 ?xxz4 ?xxz5 ?xxz6 ?xxz7 ?xxz8 ?xxz9 ?xxz10 ?xxz11 ?xa0 ?xl0 ?xc0 ?xk0 ?xa1 ?xl1 ?xc1 ?xk1 ?xa2 ?xl2 ?xc2 ?xk2 ?xa3 ?xl3 ?xc3 ?xk3 ?xa4 ?xl4 ?xc4 ?xk4 ?xa5 ?xl5 ?xc5 ?xk5 ?xa6 ?xl6 ?xc6 ?xk6 ?xa7 ?xl7 ?xc7 ?xk7 ?xa8 ?xl8 ?xc8 ?xk8 ?xa9 ?xl9 ?xc9 ?xk9 ?xa10 ?xl10 ?xc10 ?xk10 ?xa11 ?xl11 ?xc11 ?xk11 ?xa12 ?xl12 ?xc12 ?xk12 ?xa13 ?xl13 ?xc13 ?xk13 ?xa14 ?xl14 ?xc14 ?xk14 ?xa15 ?xl15 ?xc15 ?xk15 ?xa16 ?xl16 ?xc16 ?xk16 ?xa17 ?xl17 ?xc17 ?xk17 ?xa18 ?xl18 ?xc18 ?xk18 ?xa19 ?xl19 ?xc19 ?xk19 ?xa20 ?xl20 ?xc20 ?xk20 ?xa21 ?xl21 ?xc21 ?xk21 ?xa22 ?xl22 ?xc22 ?xk22 ?xa23 ?xl23 ?xc23 ?xk23 ?xa24 ?xl24 ?xc24 ?xk24 ?xa25 ?xl25 ?xc25 ?xk25 ?xa26 ?xl26 ?xc26 ?xk26 ?xa27 ?xl27 ?xc27 ?xk27 ?xa28 ?xl28 ?xc28 ?xk28 ?xa29 ?xl29 ?xc29 ?xk29 ?xa30 ?xl30 ?xc30 ?xk30 ?xg0 ?xr0 ?xg1 ?xr1 ?xg2 ?xr2 ?xg3 ?xr3 ?xg4 ?xr4 ?xg5 ?xr5 ?xg6 ?xr6 ?xg7 ?xr7 ?xz0 ?xz1 ?xz2 ?xz3 ?xz4 ?xz5 ?xz6 ?xz7 ?xz8 ?xz9 ?xz10 ?xz11 ?xz12 ?xz13 ?xz14)
  (case xaC => k_is)
  (case xpgC => k_is)
  (case xhdC => k_is)
  (case xpoC => k_is)
  (case xsaC => k_is)
  (case xmkC => k_is)
  (case xkpC => k_is)
  (case xn_field_rows => k_is)
  (case xn_dyke_rows => k_is)
  (case xma15 => k_is)
  (case xmi15 => k_is)
  (case xml15 => k_is)
  (case xmc15 => k_is)
  (case xmk15 => k_is)
  (case xma16 => k_is)
  (case xmi16 => k_is)
  (case xml16 => k_is)
  (case xmc16 => k_is)
  (case xmk16 => k_is)
  (case xma17 => k_is)
  (case xmi17 => k_is)
  (case xml17 => k_is)
  (case xmc17 => k_is)
  (case xmk17 => k_is)
  (case xma18 => k_is)
  (case xmi18 => k_is)
  (case xml18 => k_is)
  (case xmc18 => k_is)
  (case xmk18 => k_is)
  (case xma19 => k_is)
  (case xmi19 => k_is)
  (case xml19 => k_is)
  (case xmc19 => k_is)
  (case xmk19 => k_is)
  (case xma20 => k_is)
  (case xmi20 => k_is)
  (case xml20 => k_is)
  (case xmc20 => k_is)
  (case xmk20 => k_is)
  (case xma21 => k_is)
  (case xmi21 => k_is)
  (case xml21 => k_is)
  (case xmc21 => k_is)
  (case xmk21 => k_is)
  (case xma22 => k_is)
  (case xmi22 => k_is)
  (case xml22 => k_is)
  (case xmc22 => k_is)
  (case xmk22 => k_is)
  (case xma23 => k_is)
  (case xmi23 => k_is)
  (case xml23 => k_is)
  (case xmc23 => k_is)
  (case xmk23 => k_is)
  (case xma24 => k_is)
  (case xmi24 => k_is)
  (case xml24 => k_is)
  (case xmc24 => k_is)
  (case xmk24 => k_is)
  (case xaCMoot => k_is)
  (case xpgCMoot => k_is)
  (case xhdCMoot => k_is)
  (case xpoCMoot => k_is)
  (case xsaCMoot => k_is)
  (case xmkCMoot => k_is)
  (case xkpCMoot => k_is)
  (case xnMoot_land_now => k_is)
  (case xnMoot_purse_of => k_is)
  (case xnMoot_works_done => k_is)
  (case xma30 => k_is)
  (case xmi30 => k_is)
  (case xml30 => k_is)
  (case xmc30 => k_is)
  (case xmk30 => k_is)
  (case xma31 => k_is)
  (case xmi31 => k_is)
  (case xml31 => k_is)
  (case xmc31 => k_is)
  (case xmk31 => k_is)
  (case xma32 => k_is)
  (case xmi32 => k_is)
  (case xml32 => k_is)
  (case xmc32 => k_is)
  (case xmk32 => k_is)
  (case xma33 => k_is)
  (case xmi33 => k_is)
  (case xml33 => k_is)
  (case xmc33 => k_is)
  (case xmk33 => k_is)
  (case xma34 => k_is)
  (case xmi34 => k_is)
  (case xml34 => k_is)
  (case xmc34 => k_is)
  (case xmk34 => k_is)
  (case xma35 => k_is)
  (case xmi35 => k_is)
  (case xml35 => k_is)
  (case xmc35 => k_is)
  (case xmk35 => k_is)
  (case xxa_NoPurse => k_is)
  (case xxa_NoVoice => k_is)
  (case xxa_DykeError => k_is)
  (case xxa_Short => k_is)
  (case xxq_NoPurse => k_exc)
  (case xxm_NoPurse => kts_exm)
  (case xxp_NoPurse => k_is)
  (case xxg_NoPurse => k_is)
  (case xxb_NoPurse => k_is)
  (case xxh_NoPurse => k_is)
  (case xxi_NoPurse => k_is)
  (case xxt_NoPurse => k_is)
  (case xxo_NoPurse => k_is)
  (case xxq_NoVoice => k_exc)
  (case xxm_NoVoice => kts_exm)
  (case xxp_NoVoice => k_is)
  (case xxg_NoVoice => k_is)
  (case xxb_NoVoice => k_is)
  (case xxh_NoVoice => k_is)
  (case xxi_NoVoice => k_is)
  (case xxt_NoVoice => k_is)
  (case xxo_NoVoice => k_is)
  (case xxz0 => kit_is)
  (case xxz1 => kit_is)
  (case xxz2 => kit_is)
  (case xxz3 => kit_is)
  (case xxz4 => kit_is)
  (case xxz5 => kit_is)
  (case xxz6 => kit_is)
  (case xxz7 => kit_is)
  (case xxz8 => kit_is)
  (case xxz9 => kit_is)
  (case xxz10 => kts_exm)
  (case xxz11 => kts_exm)
  (case xa0 => k_is)
  (case xl0 => k_is)
  (case xc0 => k_is)
  (case xk0 => k_is)
  (case xa1 => k_is)
  (case xl1 => k_is)
  (case xc1 => k_is)
  (case xk1 => k_is)
  (case xa2 => k_is)
  (case xl2 => k_is)
  (case xc2 => k_is)
  (case xk2 => k_is)
  (case xa3 => k_is)
  (case xl3 => k_is)
  (case xc3 => k_is)
  (case xk3 => k_is)
  (case xa4 => k_is)
  (case xl4 => k_is)
  (case xc4 => k_is)
  (case xk4 => k_is)
  (case xa5 => k_is)
  (case xl5 => k_is)
  (case xc5 => k_is)
  (case xk5 => k_is)
  (case xa6 => k_is)
  (case xl6 => k_is)
  (case xc6 => k_is)
  (case xk6 => k_is)
  (case xa7 => k_is)
  (case xl7 => k_is)
  (case xc7 => k_is)
  (case xk7 => k_is)
  (case xa8 => k_is)
  (case xl8 => k_is)
  (case xc8 => k_is)
  (case xk8 => k_is)
  (case xa9 => k_is)
  (case xl9 => k_is)
  (case xc9 => k_is)
  (case xk9 => k_is)
  (case xa10 => k_is)
  (case xl10 => k_is)
  (case xc10 => k_is)
  (case xk10 => k_is)
  (case xa11 => k_is)
  (case xl11 => k_is)
  (case xc11 => k_is)
  (case xk11 => k_is)
  (case xa12 => k_is)
  (case xl12 => k_is)
  (case xc12 => k_is)
  (case xk12 => k_is)
  (case xa13 => k_is)
  (case xl13 => k_is)
  (case xc13 => k_is)
  (case xk13 => k_is)
  (case xa14 => k_is)
  (case xl14 => k_is)
  (case xc14 => k_is)
  (case xk14 => k_is)
  (case xa15 => k_is)
  (case xl15 => k_is)
  (case xc15 => k_is)
  (case xk15 => k_is)
  (case xa16 => k_is)
  (case xl16 => k_is)
  (case xc16 => k_is)
  (case xk16 => k_is)
  (case xa17 => k_is)
  (case xl17 => k_is)
  (case xc17 => k_is)
  (case xk17 => k_is)
  (case xa18 => k_is)
  (case xl18 => k_is)
  (case xc18 => k_is)
  (case xk18 => k_is)
  (case xa19 => k_is)
  (case xl19 => k_is)
  (case xc19 => k_is)
  (case xk19 => k_is)
  (case xa20 => k_is)
  (case xl20 => k_is)
  (case xc20 => k_is)
  (case xk20 => k_is)
  (case xa21 => k_is)
  (case xl21 => k_is)
  (case xc21 => k_is)
  (case xk21 => k_is)
  (case xa22 => k_is)
  (case xl22 => k_is)
  (case xc22 => k_is)
  (case xk22 => k_is)
  (case xa23 => k_is)
  (case xl23 => k_is)
  (case xc23 => k_is)
  (case xk23 => k_is)
  (case xa24 => k_is)
  (case xl24 => k_is)
  (case xc24 => k_is)
  (case xk24 => k_is)
  (case xa25 => k_is)
  (case xl25 => k_is)
  (case xc25 => k_is)
  (case xk25 => k_is)
  (case xa26 => k_is)
  (case xl26 => k_is)
  (case xc26 => k_is)
  (case xk26 => k_is)
  (case xa27 => k_is)
  (case xl27 => k_is)
  (case xc27 => k_is)
  (case xk27 => k_is)
  (case xa28 => k_is)
  (case xl28 => k_is)
  (case xc28 => k_is)
  (case xk28 => k_is)
  (case xa29 => k_is)
  (case xl29 => k_is)
  (case xc29 => k_is)
  (case xk29 => k_is)
  (case xa30 => k_is)
  (case xl30 => k_is)
  (case xc30 => k_is)
  (case xk30 => k_is)
  (case xg0 => k_is)
  (case xr0 => exact ⟨_, rfl⟩)
  (case xg1 => k_is)
  (case xr1 => exact ⟨_, rfl⟩)
  (case xg2 => k_is)
  (case xr2 => exact ⟨_, rfl⟩)
  (case xg3 => k_is)
  (case xr3 => exact ⟨_, rfl⟩)
  (case xg4 => k_is)
  (case xr4 => exact ⟨_, rfl⟩)
  (case xg5 => k_is)
  (case xr5 => exact ⟨_, rfl⟩)
  (case xg6 => k_is)
  (case xr6 => exact ⟨_, rfl⟩)
  (case xg7 => k_is)
  (case xr7 => exact ⟨_, rfl⟩)
  (case xz0 => k_is)
  (case xz1 => k_is)
  (case xz2 => k_is)
  (case xz3 => k_is)
  (case xz4 => k_is)
  (case xz5 => k_is)
  (case xz6 => k_is)
  (case xz7 => k_is)
  (case xz8 => k_is)
  (case xz9 => k_is)
  (case xz10 => k_is)
  (case xz11 => k_is)
  (case xz12 => k_is)
  (case xz13 => k_is)
  (case xz14 => k_is)
