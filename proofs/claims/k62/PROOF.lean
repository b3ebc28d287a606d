import PyProof.Rows.All
import Wide.All
import OpenK.AllK
import Wide.FinOn
import Lean
import PyProof.EqAt
import PyProof.EqKinds
import PyProof.TupleCall
import PyProof.StrBlockI
import PyProof.SliceList
import PyProof.StrLawsIn
import PyProof.StrLaws
import PySem.Challenge.RW_dykemoot_k62_what_they_save
set_option Elab.async false
set_option linter.all false
set_option maxRecDepth 100000
namespace L2
open PySem PySem.Spec PyProof.Rows
abbrev Key := Sum Int Str
def tQ : Key → Value → Bool
 | .inl k, v => Value.isInt k v
 | .inr x, v => Value.isStrOf x v
def aOH (w : World) : Key → Int
 | .inl k => hashInt k
 | .inr x => hashStr w x
theorem cS : ∀ {k : Key} {v : Value}, tQ k v = true → (∃ i t, k = Sum.inl i ∧ v = Value.int i t) ∨ (∃ x t, k = Sum.inr x ∧ v = Value.str x t)
 | .inl i, v, h => by
  obtain ⟨t, e⟩ := Value.isInt_shape (k := i) (v := v) h
  exact .inl ⟨i, t, rfl, e⟩
 | .inr x, v, h => by
  obtain ⟨t, e⟩ := Value.isStrOf_shape (x := x) (v := v) h
  exact .inr ⟨x, t, rfl, e⟩
theorem qA (i : Int) (t : Tok) : tQ (.inl i) (.int i t) = true := by simp [tQ, Value.isInt]
theorem pZ (x : Str) (t : Tok) : tQ (.inr x) (.str x t) = true := by simp [tQ, Value.isStrOf]
theorem aLH (a b : Int) : decide ((Sum.inl a : Key) = Sum.inl b) = (a == b) := by
 by_cases e : a = b
 ·subst e; simp
 ·have h : ¬ (Sum.inl a : Key) = Sum.inl b := fun q => e (Sum.inl.inj q)
  rw [decide_eq_false h]
  exact (beq_eq_false_iff_ne.mpr e).symm
theorem aLE (a b : Str) : decide ((Sum.inr a : Key) = Sum.inr b) = decide (a = b) := by
 by_cases e : a = b
 ·subst e; simp
 ·have h : ¬ (Sum.inr a : Key) = Sum.inr b := fun q => e (Sum.inr.inj q)
  rw [decide_eq_false h, decide_eq_false e]
theorem aLG (a : Int) (b : Str) : decide ((Sum.inl a : Key) = Sum.inr b) = false := decide_eq_false (fun q => nomatch q)
theorem aLF (a : Str) (b : Int) : decide ((Sum.inr a : Key) = Sum.inl b) = false := decide_eq_false (fun q => nomatch q)
def bB (prog : Program) (w : World) : PySem.KeyKind prog w Key where
 is := tQ
 hash := aOH w
 inj := fun v a b ha hb => by
  rcases cS ha with ⟨i, t, rfl, rfl⟩ | ⟨x, t, rfl, rfl⟩
  ·rcases cS hb with ⟨j, u, rfl, e⟩ | ⟨y, u, rfl, e⟩
   ·injection e with e1 _; rw [e1]
   ·exact nomatch e
  ·rcases cS hb with ⟨j, u, rfl, e⟩ | ⟨y, u, rfl, e⟩
   ·exact nomatch e
   ·injection e with e1 _; rw [e1]
 byValue := fun k v h => by
  rcases cS h with ⟨i, t, rfl, rfl⟩ | ⟨x, t, rfl, rfl⟩ <;> rfl
 pyHash := fun hv h => by
  rcases cS hv with ⟨i, t, rfl, rfl⟩ | ⟨x, t, rfl, rfl⟩
  ·exact wpAny_pyHash_int h
  ·exact wpAny_pyHash_str h
 eqBool := fun hu hv h => by
  rcases cS hu with ⟨i, t, rfl, rfl⟩ | ⟨x, t, rfl, rfl⟩
  ·rcases cS hv with ⟨j, u, rfl, rfl⟩ | ⟨y, u, rfl, rfl⟩
   ·rw [aLH] at h; exact wpAny_eqBool_int h
   ·rw [aLG] at h; exact SeqAt.EqAt.int_str i t y u _ _ _ _ h
  ·rcases cS hv with ⟨j, u, rfl, rfl⟩ | ⟨y, u, rfl, rfl⟩
   ·rw [aLF] at h; exact SeqAt.EqAt.str_int x t j u _ _ _ _ h
   ·rw [aLE] at h; exact wpAny_eqBool_str h
 «strs» := fun k x t v h => by
  rcases cS h with ⟨i, u, rfl, e⟩ | ⟨y, u, rfl, e⟩
  ·exact nomatch e
  ·injection e with e1 _
   subst e1
   cases v <;> rfl
theorem zO (prog : Program) (w : World) (i : Int) (t : Tok) : (bB prog w).is (.inl i) (.int i t) = true := qA i t
theorem zN (prog : Program) (w : World) (x : Str) (t : Tok) : (bB prog w).is (.inr x) (.str x t) = true := pZ x t
end L2
namespace L2
open PySem PySem.Spec PyProof.Rows
inductive V where
 | non | bl (b : Bool) | int (i : Int) | str (x : Str) | byt (b : Array UInt8) | flt (b : UInt64) | ref (a : Addr) | ty (n : String)
 deriving DecidableEq
def bK : V → Value → Prop
 | .non, u => u = Value.none
 | .bl b, u => u = Value.bool b
 | .int i, u => ∃ t, u = Value.int i t
 | .str x, u => ∃ t, u = Value.str x t
 | .byt b, u => ∃ t, u = Value.bytes b t
 | .flt b, u => ∃ t, u = Value.float b t
 | .ref a, u => u = Value.ref a
 | .ty n, u => u = Value.type n
abbrev bL : List V → List Value → Prop := Paired bK
theorem bL.length {xs : List V} {us : List Value} (r : bL xs us) : xs.length = us.length := Paired.length r
theorem bL.get : ∀ {xs : List V} {us : List Value} {i : Nat} {x : V}, bL xs us → xs[i]? = some x → ∃ u, us[i]? = some u ∧ bK x u
 | _, _, _, _, .nil, e => by simp at e
 | _, _, 0, _, .cons r _, e => by simp at e; subst e; exact ⟨_, rfl, r⟩
 | _, _, i + 1, x, .cons _ t, e => by
  obtain ⟨u, h1, h2⟩ := bL.get (i := i) (x := x) t (by simpa using e)
  exact ⟨u, by simpa using h1, h2⟩
theorem bL.append : ∀ {xs ys : List V} {us ws : List Value}, bL xs us → bL ys ws → bL (xs ++ ys) (us ++ ws)
 | _, _, _, _, .nil, s => s
 | _, _, _, _, .cons r t, s => .cons r (bL.append t s)
def nX : Option V → Option Value → Prop
 | some v, some u => bK v u
 | none, none => True
 | _, _ => False
def KV {κ : Type} : List (κ × V) → List (κ × Value) → Prop := Paired fun (p : κ × V) (q : κ × Value) => p.1 = q.1 ∧ bK p.2 q.2
def kV : Key → V
 | .inl i => .int i
 | .inr x => .str x
inductive HO where
 /-- a list -/
 | lst (xs : List V)
 /-- a tuple (never changes) -/
 | tup (xs : List V)
 /-- a dict whose keys are ints and texts; one whose keys are tuples of ints and texts (the empty one is both) -/
 | dK (kvs : List (Key × V)) | dT (kvs : List (List Key × V))
 /-- a set of ints: its members, its size -/
 | set (S : Int → Bool) (n : Nat)
 /-- an instance of the class at C, its dict at dx, its attributes -/
 | ins (C dx : Addr) (fs : List (Str × V))
 /-- the dict of the instance at x -/
 | own (x : Addr)
 /-- the dict of an exception -/
 | xd (fs : List (Str × V))
 /-- a bound method, f of x -/
 | met (f x : Addr)
 /-- a range object lo, lo + 1, .. below hi -/
 | rng (lo hi : Int)
 /-- a thing that is known to the object (the script; a dict while a loop walks it): read, never written while it is so -/
 | frz (o : Obj) (u : HO)
 /-- a aNL object's table -/
 | tbl (ps : Array Value)
 /-- any other thing, by what is true of its one object (a def of one's own: aFG a S n := HO.ext fun h => ..) -/
 | ext (φ : Heap → Prop)
abbrev Hp := Addr → Option HO
def upd (H : Hp) (a : Addr) (o : HO) : Hp := fun b => if b = a then some o else H b
theorem aE {H : Hp} {a : Addr} {o : HO} : upd H a o a = some o := by unfold upd; rw [if_pos rfl]
theorem aQ {H : Hp} {a b : Addr} {o : HO} (h : b ≠ a) : upd H a o b = H b := by unfold upd; rw [if_neg h]
theorem vP {H : Hp} {a b : Addr} {o u : HO} (h : H a = some o) (h' : H b = some u) (d : o ≠ u) : a ≠ b := by
 intro e; subst e; rw [h] at h'; exact d (Option.some.inj h')
theorem aV {H : Hp} {a b : Addr} {o : HO} (h : H a = some o) (h' : H b = none) : a ≠ b := by
 intro e; subst e; rw [h] at h'; cases h'
def aCA (h : Heap) (a : Addr) (its : Array Value) : Prop := ∃ o, h.get? a = some o ∧ o.cls = .type "tuple" ∧ ∃ n, o.data = .seq its n ∧ o.dict = none
theorem aCA.tup {h : Heap} {a : Addr} {its : Array Value} (x : aCA h a its) : IsTup h a its := by
 obtain ⟨o, e, c, n, d, _⟩ := x
 exact ⟨o, e, c, n, d⟩
section
variable (P : Program) (w : World)
def cJ (H : Hp) (h : Heap) (a : Addr) : HO → Prop
 | .lst xs => xs.length ≤ sizeLine ∧ ∃ (its : List Value) (n : Nat), bL xs its ∧ h.get? a = some { cls := .type "list", data := .seq its.toArray n }
 | .tup xs => xs.length ≤ sizeLine ∧ ∃ its : List Value, bL xs its ∧ aCA h a its.toArray
 | .dK kvs => kvs.length ≤ sizeLine ∧ (a == sysModules) = false ∧ ∃ vs, KV kvs vs ∧ h.DictOf (bB P w) a vs
 | .dT kvs => kvs.length ≤ sizeLine ∧ (a == sysModules) = false ∧ ∃ xs : List (List Key × Addr × Value),
   Paired (fun (p : List Key × V) (q : List Key × Addr × Value) => p.1 = q.1 ∧ H q.2.1 = some (.tup (p.1.map kV)) ∧ bK p.2 q.2.2) kvs xs ∧
   ∃ o es ep, h.get? a = some o ∧ o.ExactDict ∧ o.data = .dict es ep ∧ es.toList = xs.map (entryOfKey (tupleKind (bB P w))) ∧ (xs.map (·.1)).Nodup
 | .set S n => h.SetOf (intKind P w) a S n
 | .ins C dx fs => H dx = some (.own a) ∧ fs.length ≤ 1000 ∧ dx ≠ a ∧ h.get? a = some (PySem.W.instObj C dx) ∧
   ∃ mA, h.Ns1 dx mA ∧ (∀ f, nX (fs.lookup f) (mA f)) ∧ PySem.Within mA (fs.map (·.1))
 | .own _ => ∃ o, h.get? a = some o
 | .xd fs => ∃ mA, h.Ns1 a mA ∧ ∀ f, nX (fs.lookup f) (mA f)
 | .rng lo hi => ∃ t u v, h.get? a = some { cls := .type "range", data := .fields #[.int lo t, .int hi u, .int 1 v] }
 | .frz o u => h.get? a = some o ∧ cJ H h a u
 | .tbl ps => h.get? a = some { cls := .none, data := .fields ps }
 | .met f x => h.get? a = some (PySem.W.methodObj (.ref f) (.ref x))
 | .ext φ => φ h ∧ (∃ o, h.get? a = some o) ∧ ∀ h1 h2 : Heap, φ h1 → (∀ o, h1.get? a = some o → h2.get? a = some o) → φ h2
def HOk (H : Hp) (h : Heap) : Prop := ∀ a o, H a = some o → cJ P w H h a o
end
section
variable {P : Program} {w : World} {H H' : Hp} {h h' : Heap} {a : Addr} {o : HO}
theorem cJ.lt (x : cJ P w H h a o) : a < h.objs.size := by
 cases o with
 | lst xs => obtain ⟨_, _, _, _, e⟩ := x; exact Heap.lt_size e
 | tup xs => obtain ⟨_, _, _, _, e, _⟩ := x; exact Heap.lt_size e
 | dK kvs => obtain ⟨_, _, _, _, o, _, _, e, _⟩ := x; exact Heap.lt_size e
 | dT kvs => obtain ⟨_, _, _, _, o, _, _, e, _⟩ := x; exact Heap.lt_size e
 | set S n => obtain ⟨o, _, _, _, e, _⟩ := x; exact Heap.lt_size e
 | ins C dx fs => obtain ⟨_, _, _, e, _⟩ := x; exact Heap.lt_size e
 | own y => obtain ⟨_, e⟩ := x; exact Heap.lt_size e
 | xd fs => obtain ⟨_, ⟨_, _, _, e, _⟩, _⟩ := x; exact Heap.lt_size e
 | rng lo hi => obtain ⟨_, _, _, e⟩ := x; exact Heap.lt_size e
 | frz ob u => obtain ⟨e, _⟩ := x; exact Heap.lt_size e
 | tbl ps => exact Heap.lt_size (show h.get? a = some _ from x)
 | met f y => exact Heap.lt_size (show h.get? a = some _ from x)
 | ext φ => obtain ⟨_, ⟨_, e⟩, _⟩ := x; exact Heap.lt_size e
theorem Paired.mapP {α β : Type} {F G : α → β → Prop} : ∀ {l₁ : List α} {l₂ : List β}, Paired F l₁ l₂ → (∀ a b, F a b → G a b) → Paired G l₁ l₂
 | _, _, .nil, _ => .nil
 | _, _, .cons r t, f => .cons (f _ _ r) (Paired.mapP t f)
theorem cJ.stay (x : cJ P w H h a o) (k : ∀ b u, (b = a ∨ H b = some (.own a)) → h.get? b = some u → h'.get? b = some u)
  (ho : ∀ b, H b = some (.own a) → H' b = some (.own a)) (ht : ∀ b xs, H b = some (.tup xs) → H' b = some (.tup xs)) : cJ P w H' h' a o := by
 induction o with
 | lst xs => obtain ⟨z, its, n, r, e⟩ := x; exact ⟨z, its, n, r, k _ _ (.inl rfl) e⟩
 | tup xs => obtain ⟨z, its, r, ob, e, c⟩ := x; exact ⟨z, its, r, ob, k _ _ (.inl rfl) e, c⟩
 | dK kvs => obtain ⟨z, y, vs, r, ob, es, ep, e, c⟩ := x; exact ⟨z, y, vs, r, ob, es, ep, k _ _ (.inl rfl) e, c⟩
 | dT kvs =>
  obtain ⟨z, y, xs, r, ob, es, ep, e, c⟩ := x
  exact ⟨z, y, xs, Paired.mapP r fun p q z => ⟨z.1, ht _ _ z.2.1, z.2.2⟩, ob, es, ep, k _ _ (.inl rfl) e, c⟩
 | set S n => obtain ⟨ob, es, ep, t, e, c⟩ := x; exact ⟨ob, es, ep, t, k _ _ (.inl rfl) e, c⟩
 | ins C dx fs =>
  obtain ⟨d, z, ne, e, mA, ⟨od, es, ep, e2, c⟩, r⟩ := x
  exact ⟨ho _ d, z, ne, k _ _ (.inl rfl) e, mA, ⟨od, es, ep, k _ _ (.inr d) e2, c⟩, r⟩
 | own y => obtain ⟨ob, e⟩ := x; exact ⟨ob, k _ _ (.inl rfl) e⟩
 | xd fs => obtain ⟨mA, ⟨od, es, ep, e, c⟩, r⟩ := x; exact ⟨mA, ⟨od, es, ep, k _ _ (.inl rfl) e, c⟩, r⟩
 | rng lo hi => obtain ⟨t, u, v, e⟩ := x; exact ⟨t, u, v, k _ _ (.inl rfl) e⟩
 | frz ob u ih => obtain ⟨e, q⟩ := x; exact ⟨k _ _ (.inl rfl) e, ih q⟩
 | tbl ps =>
  have e : h.get? a = some { cls := .none, data := .fields ps } := x
  show h'.get? a = some { cls := .none, data := .fields ps }
  exact k a _ (.inl rfl) e
 | met f y =>
  have e : h.get? a = some (PySem.W.methodObj (.ref f) (.ref y)) := x
  show h'.get? a = some (PySem.W.methodObj (.ref f) (.ref y))
  exact k a _ (.inl rfl) e
 | ext φ => obtain ⟨p, ⟨o, e⟩, st⟩ := x; exact ⟨st _ _ p fun o q => k _ _ (.inl rfl) q, ⟨o, k _ _ (.inl rfl) e⟩, st⟩
theorem HOk.lt (x : HOk P w H h) (e : H a = some o) : a < h.objs.size := (x a o e).lt
theorem HOk.fresh (x : HOk P w H h) (e : h.objs.size ≤ a) : H a = none := by
 cases q : H a with
 | none => rfl
 | some u => exact absurd (Nat.lt_of_lt_of_le (x.lt q) e) (Nat.lt_irrefl _)
theorem HOk.kept (x : HOk P w H h) (k : ∀ b u, h.get? b = some u → h'.get? b = some u) : HOk P w H h' := fun a o e =>
 (x a o e).stay (fun b u _ q => k b u q) (fun _ q => q) fun _ _ q => q
theorem HOk.laid (x : HOk P w H h) (k : ∀ b u, h.get? b = some u → h'.get? b = some u) (hp : h.objs.size ≤ a) (new : cJ P w (upd H a o) h' a o) : HOk P w (upd H a o) h' := fun b u e => by
 have hn := x.fresh hp
 by_cases hb : b = a
 ·subst hb; rw [aE] at e; cases e; exact new
 ·rw [aQ hb] at e
  exact (x b u e).stay (fun c v _ q => k c v q) (fun c q => by rw [aQ (aV q hn)]; exact q) fun c xs q => by rw [aQ (aV q hn)]; exact q
end
def Rd (H : Hp) (a : Addr) (u : HO) : Prop := H a = some u ∨ ∃ o, H a = some (.frz o u)
theorem Rd.ok {P : Program} {w : World} {H : Hp} {h : Heap} {a : Addr} {u : HO} (r : Rd H a u) (x : HOk P w H h) : cJ P w H h a u := by
 rcases r with r | ⟨o, r⟩
 ·exact x a u r
 ·obtain ⟨_, q⟩ := x a _ r
  exact q
def Mut : Option HO → Prop
 | some (.lst _) => True
 | some (.dK _) => True
 | some (.dT _) => True
 | some (.set _ _) => True
 | some (.ins _ _ _) => True
 | some (.ext _) => True
 | _ => False
section
variable {P : Program} {w : World} {H : Hp} {h h' : Heap} {x e : Addr} {o' : HO}
theorem HOk.write (ok : HOk P w H h) (mu : Mut (H x)) (he : e = x ∨ H e = some (.own x)) (k : ∀ b u, b ≠ e → h.get? b = some u → h'.get? b = some u) (heo : ∃ u, h'.get? e = some u)
  (new : cJ P w (upd H x o') h' x o') : HOk P w (upd H x o') h' := fun b u q => by
 have nown : ∀ c y, H c = some (.own y) → c ≠ x := fun c y r z => by subst z; rw [r] at mu; exact mu
 have ntup : ∀ c xs, H c = some (.tup xs) → c ≠ x := fun c xs r z => by subst z; rw [r] at mu; exact mu
 by_cases hb : b = x
 ·subst hb; rw [aE] at q; cases q; exact new
 ·rw [aQ hb] at q
  by_cases hbe : b = e
  ·have q' : H b = some (.own x) := by
    rcases he with z | z
    ·exact absurd (hbe.trans z) hb
    ·rw [hbe]; exact z
   rw [q] at q'; cases q'
   obtain ⟨v, hv⟩ := heo
   exact ⟨v, by rw [hbe]; exact hv⟩
  ·refine (ok b u q).stay (fun c v hc r => k c v ?_ r) (fun c r => by rw [aQ (nown c b r)]; exact r) fun c xs r => by rw [aQ (ntup c xs r)]; exact r
   rcases hc with rfl | hc
   ·exact hbe
   ·rintro rfl
    rcases he with z | z
    ·exact nown c b hc z
    ·rw [hc] at z; cases z; exact hb rfl
end
structure Un (fs ex : List Addr) (H H' : Hp) (h h' : Heap) : Prop where
 keep : ∀ b o, h.get? b = some o → H b = none → b ∉ fs → b ∉ ex → h'.get? b = some o
 slot : ∀ b o, h.get? b = some o → H b = none → b ∈ fs → b ∉ ex → ∃ sl, h'.get? b = some { o with slots := sl }
 free : ∀ b o, h.get? b = some o → H b = none → b ∉ ex → H' b = none
 there : ∀ b o, h.get? b = some o → b ∉ ex → ∃ o', h'.get? b = some o'
 tups : ∀ b xs, H b = some (.tup xs) → H' b = some (.tup xs)
 frzs : ∀ b o u, H b = some (.frz o u) → H' b = some (.frz o u)
 tbls : ∀ b ps, H b = some (.tbl ps) → ∃ more, H' b = some (.tbl (ps ++ more))
section
variable {fs fs' ex ex' : List Addr} {H H1 H2 : Hp} {h h1 h2 h' : Heap} {a x e : Addr} {o : HO}
theorem Un.any (u : Un fs ex H H1 h h1) {b : Addr} {ob : Obj} (q : h.get? b = some ob) (n : H b = none) (hx : b ∉ ex) : ∃ sl, h1.get? b = some { ob with slots := sl } := by
 by_cases hb : b ∈ fs
 ·exact u.slot b ob q n hb hx
 ·exact ⟨ob.slots, u.keep b ob q n hb hx⟩
theorem Un.kept (k : ∀ b u, h.get? b = some u → h'.get? b = some u) : Un fs ex H H h h' :=
 ⟨fun b ob q _ _ _ => k b ob q, fun b ob q _ _ _ => ⟨ob.slots, k b ob q⟩, fun _ _ _ n _ => n, fun b ob q _ => ⟨ob, k b ob q⟩, fun _ _ q => q, fun _ _ _ q => q, fun _ ps q => ⟨#[], by rw [q]; simp⟩⟩
theorem Un.refl : Un fs ex H H h h := Un.kept fun _ _ q => q
theorem Un.laid (k : ∀ b u, h.get? b = some u → h'.get? b = some u) (hp : h.objs.size ≤ a) (hn : H a = none) : Un fs ex H (upd H a o) h h' where
 keep := fun b u q _ _ _ => k b u q
 slot := fun b u q _ _ _ => ⟨u.slots, k b u q⟩
 free := fun b u q n _ => by rw [aQ (Nat.ne_of_lt (Nat.lt_of_lt_of_le (Heap.lt_size q) hp))]; exact n
 there := fun b u q _ => ⟨u, k b u q⟩
 tups := fun b xs q => by rw [aQ (aV q hn)]; exact q
 frzs := fun b u xs q => by rw [aQ (aV q hn)]; exact q
 tbls := fun b ps q => ⟨#[], by rw [aQ (aV q hn), q]; simp⟩
theorem Un.write (mu : Mut (H x)) (he : e = x ∨ H e = some (.own x)) (k : ∀ b u, b ≠ e → h.get? b = some u → h'.get? b = some u) (heo : ∃ u, h'.get? e = some u) : Un fs ex H (upd H x o) h h' := by
 have hx : ∀ b, H b = none → b ≠ x := fun b n z => by subst z; rw [n] at mu; exact mu
 have hb : ∀ b, H b = none → b ≠ e := fun b n z => by
  subst z
  rcases he with r | r
  ·exact hx b n r
  ·rw [n] at r; cases r
 have hm : ∀ b u, H b = some u → ¬ Mut (some u) → b ≠ x := fun b u q nm z => by subst z; rw [q] at mu; exact nm mu
 refine ⟨fun b u q n _ _ => k b u (hb b n) q, fun b u q n _ _ => ⟨u.slots, k b u (hb b n) q⟩, fun b u q n _ => by rw [aQ (hx b n)]; exact n, fun b u q _ => ?_,
  fun b xs q => by rw [aQ (hm b _ q fun z => z)]; exact q, fun b u xs q => by rw [aQ (hm b _ q fun z => z)]; exact q, fun b ps q => ⟨#[], by rw [aQ (hm b _ q fun z => z), q]; simp⟩⟩
 by_cases hbe : b = e
 ·subst hbe; exact heo
 ·exact ⟨u, k b u hbe q⟩
end
def trk (h : Heap) (H : Hp) : List Addr := (List.range h.objs.size).filter fun a => (H a).isSome
def xZ (h : Heap) (H : Hp) : Heap := PySem.W.hideAll h (trk h H)
theorem aES (h : Heap) (H : Hp) : (xZ h H).objs.size = h.objs.size := PySem.W.hideAll_size _ _
theorem aHM {h : Heap} {H : Hp} {b : Addr} {o : Obj} (e : h.get? b = some o) (n : H b = none) : (xZ h H).get? b = some o :=
 PySem.W.hideAll_get _ e fun hm => by
  have q : (H b).isSome = true := (List.mem_filter.mp hm).2
  rw [n] at q; simp at q
theorem aJC {h : Heap} {H : Hp} {b : Addr} {o : Obj} (e : (xZ h H).get? b = some o) : h.get? b = some o ∧ H b = none := by
 have e' : h.get? b = some o := PySem.W.of_hideAll (trk h H) e
 refine ⟨e', ?_⟩
 cases q : H b with
 | none => rfl
 | some x =>
  have hm : b ∈ trk h H := List.mem_filter.mpr ⟨List.mem_range.mpr (Heap.lt_size e'), by simp [q]⟩
  have z : (xZ h H).get? b = none := PySem.W.hideAll_none (trk h H) hm
  rw [z] at e; cases e
def aJU (g h : Heap) (L : Addr) : List (Addr × Obj) := (List.range h.objs.size).filterMap fun a => if a = L ∨ (g.get? a).isSome = true then none else (h.get? a).map fun o => (a, o)
def qZ (g h : Heap) (L d : Addr) : List (Addr × Obj) := (aJU g h L).filter fun p => decide (p.1 ≠ d)
end L2
namespace L2
open PySem PySem.Spec PyProof.Rows
structure Mod (K : PySem.W.Frag) (mg : Str → Option Value) (base : Heap) : Prop where
 kin : K.In base
 glob : base.Ns mainGlobals mg
 blt : ∃ mb, base.Ns builtinsNs mb ∧ ∀ x : Str, x ≠ "__name__" → mb x = bootBuiltins x
 nolimit : base.NoLimit
structure Cx where
 prog : Program
 w : World
 K : PySem.W.Frag
 mg : Str → Option Value
 base : Heap
 A : Around
 N : List Str
 s₀ : Shared
 H₀ : Hp
 env : Env
 outer : List Env
 stack : List Env
 ex : List Addr
 fn : Str → Bool
 calm : Bool
 pn : List (Addr × Obj)
 xe : Value → Shared → Prop
def frs (l : List Env) : List Addr := l.filterMap (·.frame)
abbrev Cx.fs (X : Cx) : List Addr := frs X.outer
def Vis (sc : Scope) (x : Str) : Prop := sc.names.lookup x = some .local ∨ sc.names.lookup x = some .cell ∨ sc.names.lookup x = some .free
def Loc (sc : Scope) (x : Str) : Prop := sc.names.lookup x = some .local ∨ sc.names.lookup x = some .cell
def aON (env : Env) (h : Heap) (m : Str → Option Value) (x : Str) (u : Value) : Prop :=
 (env.kindOf x = some .local ∧ m x = some u) ∨ ((env.kindOf x = some .cell ∨ env.kindOf x = some .free) ∧ ∃ c, env.cells.lookup x = some c ∧ h.IsCell c (some u))
structure Cx.Ok (X : Cx) : Prop where
 mod : Mod X.K X.mg X.base
 kind : X.env.scope.kind = .function
 glob : X.env.globals = mainGlobals
 blt : X.env.builtins = builtinsNs
 above : X.s₀.heap.objs.size ≤ X.env.locals
 inj : ∀ x y c, X.env.cells.lookup x = some c → X.env.cells.lookup y = some c → x = y
 has : ∀ x, (X.env.kindOf x = some .cell ∨ X.env.kindOf x = some .free) → ∃ c, X.env.cells.lookup x = some c
 cab : ∀ x c, X.fn x = true → X.env.cells.lookup x = some c → X.s₀.heap.objs.size ≤ c
 hd : X.calm = true → X.A.handled = none
 frames : X.A.frames = some X.stack
 stk : X.stack = X.outer ∨ (X.stack = X.env :: X.outer ∧ X.env.frame = some X.env.locals)
 exf : ∀ b ∈ X.ex, b ≠ X.env.locals ∧ ∀ x c, X.env.cells.lookup x = some c → c ≠ b
 bs : ∀ b o, X.base.get? b = some o → X.s₀.heap.get? b = some o ∧ X.H₀ b = none
 bsz : X.base.objs.size ≤ X.s₀.heap.objs.size
 noex : ∀ b o, X.base.get? b = some o → b ∉ X.ex
 exfs : ∀ b ∈ X.ex, b ∉ X.fs
 funs : X.s₀.heap.FunFrames X.base X.outer
 frf : ∀ b ∈ X.fs, X.H₀ b = none
structure Inv (X : Cx) (pins : List (Addr × Obj)) (σ : List (Option V)) (H : Hp) (s : Shared) : Prop where
 ok : X.Ok
 os : s.os = X.s₀.os
 bare : AllBare s.gens
 base : Un X.fs X.ex X.H₀ H X.s₀.heap s.heap
 loc : ∃ m, s.heap.Ns X.env.locals m ∧ ∀ (i : Nat) (x : Str) (v : V), X.N[i]? = some x → σ[i]? = some (some v) → Vis X.env.scope x → ∃ u, bK v u ∧ aON X.env s.heap m x u
 cell : ∀ x c, X.env.cells.lookup x = some c → ∃ v, s.heap.IsCell c v
 free : H X.env.locals = none
 freeC : ∀ x c, X.env.cells.lookup x = some c → H c = none
 pin : ∀ p ∈ X.pn ++ pins, s.heap.get? p.1 = some p.2 ∧ H p.1 = none ∧ p.1 ≠ X.env.locals ∧ p.1 ∉ X.fs ∧ ∀ v, p.2.data ≠ .cell v
 hok : HOk X.prog X.w H s.heap
 len : σ.length = X.N.length
section
variable {X : Cx} {pins : List (Addr × Obj)} {σ : List (Option V)} {H H' : Hp} {s : Shared} {h' : Heap}
theorem Cx.Ok.nofr (ok : X.Ok) {b : Addr} {o : Obj} (e : X.base.get? b = some o) : b ∉ X.fs := fun hb => by
 have := (ok.funs.mem hb).1
 rw [e] at this; cases this
theorem Inv.bs (I : Inv X pins σ H s) : ∀ b o, X.base.get? b = some o → s.heap.get? b = some o ∧ H b = none := fun b o e =>
 ⟨I.base.keep b o (I.ok.bs b o e).1 (I.ok.bs b o e).2 (I.ok.nofr e) (I.ok.noex b o e), I.base.free b o (I.ok.bs b o e).1 (I.ok.bs b o e).2 (I.ok.noex b o e)⟩
theorem Inv.bk (I : Inv X pins σ H s) : ∀ b o, X.base.get? b = some o → s.heap.get? b = some o := fun b o e => (I.bs b o e).1
theorem Inv.mod (I : Inv X pins σ H s) : Mod X.K X.mg X.base := I.ok.mod
theorem Inv.kIn (I : Inv X pins σ H s) : X.K.In s.heap := I.ok.mod.kin.keeps I.bk
theorem Inv.fr (I : Inv X pins σ H s) : ∃ m, Fr X.base X.env.locals s.heap m :=
 let ⟨m, hn, _⟩ := I.loc
 ⟨m, hn, I.bk, Nat.le_trans I.ok.bsz I.ok.above⟩
theorem Inv.lt (I : Inv X pins σ H s) : X.env.locals < s.heap.objs.size := let ⟨_, hn, _⟩ := I.loc; hn.lt
theorem Inv.sz (I : Inv X pins σ H s) : X.s₀.heap.objs.size ≤ s.heap.objs.size := Nat.le_trans I.ok.above (Nat.le_of_lt I.lt)
theorem Inv.nofs (I : Inv X pins σ H s) {a : Addr} (h : s.heap.objs.size ≤ a) : a ∉ X.fs := fun hb => by
 obtain ⟨_, o, ho, _⟩ := I.ok.funs.mem hb
 exact absurd (Nat.lt_of_lt_of_le (Heap.lt_size ho) (Nat.le_trans I.sz h)) (Nat.lt_irrefl _)
theorem Inv.cne (I : Inv X pins σ H s) : ∀ x c, X.env.cells.lookup x = some c → c ≠ X.env.locals := fun x c e z => by
 obtain ⟨v, o, ho, hd⟩ := I.cell x c e
 obtain ⟨m, ⟨o', es, ep, ho', hd', _⟩, _⟩ := I.loc
 rw [z, ho'] at ho; cases ho; rw [hd'] at hd; cases hd
theorem Inv.funs (I : Inv X pins σ H s) : s.heap.FunFrames X.base X.outer := by
 have all : ∀ (l : List Env), (∀ b ∈ frs l, b ∈ X.fs) → X.s₀.heap.FunFrames X.base l → s.heap.FunFrames X.base l := by
  intro l
  induction l with
  | nil => intro _ _; trivial
  | cons env r ih =>
   intro hs hl
   obtain ⟨hk, ⟨L, o, hf, hn, ho, hd⟩, hr⟩ := hl
   have hL : L ∈ X.fs := hs L (by unfold frs; rw [List.filterMap_cons, hf]; exact List.mem_cons_self)
   obtain ⟨sl, e⟩ := I.base.slot L o ho (I.ok.frf L hL) hL fun z => I.ok.exfs L z hL
   exact ⟨hk, ⟨L, _, hf, hn, e, hd⟩, ih (fun b hb => hs b (by unfold frs; rw [List.filterMap_cons, hf]; exact List.mem_cons_of_mem _ hb)) hr⟩
 exact all X.outer (fun _ hb => hb) I.ok.funs
theorem Inv.stack (I : Inv X pins σ H s) : s.heap.FunFrames X.base X.stack := by
 rcases I.ok.stk with e | ⟨e, hf⟩
 ·rw [e]; exact I.funs
 ·rw [e]
  obtain ⟨m, hn, _⟩ := I.loc
  refine .cons (by rw [I.ok.kind]; decide) hf hn ?_ I.funs
  exact Heap.get?_none_of_le (Nat.le_trans I.ok.bsz I.ok.above)
theorem Inv.stkSub (I : Inv X pins σ H s) : ∀ b ∈ frs X.stack, b ∈ X.env.locals :: X.fs := fun b hb => by
 rcases I.ok.stk with e | ⟨e, hf⟩
 ·rw [e] at hb; exact List.mem_cons_of_mem _ hb
 ·rw [e] at hb
  unfold frs at hb
  rw [List.filterMap_cons, hf] at hb
  exact hb
theorem Inv.stkFree (I : Inv X pins σ H s) : ∀ b ∈ frs X.stack, H b = none := fun b hb => by
 rcases List.mem_cons.mp (I.stkSub b hb) with e | hb
 ·rw [e]; exact I.free
 ·obtain ⟨_, o, ho, _⟩ := I.ok.funs.mem hb
  exact I.base.free b o ho (I.ok.frf b hb) fun z => I.ok.exfs b z hb
theorem Inv.step {g' : Array GenState} {t' : Nat} {d' : Drawn} {ch : List Addr} (I : Inv X pins σ H s)
  (hch : ∀ b ∈ ch, (b ∈ X.ex ∨ X.s₀.heap.objs.size ≤ b) ∧ b ≠ X.env.locals ∧ (∀ x c, X.env.cells.lookup x = some c → c ≠ b) ∧ ∀ p ∈ X.pn ++ pins, p.1 ≠ b)
  (keep : ∀ b o, b ≠ X.env.locals → b ∉ X.fs → b ∉ ch → s.heap.get? b = some o → H b = none → h'.get? b = some o)
  (slot : ∀ b o, b ≠ X.env.locals → b ∈ X.fs → b ∉ ch → s.heap.get? b = some o → H b = none → ∃ sl, h'.get? b = some { o with slots := sl }) (free : ∀ b o, b ∉ ch → s.heap.get? b = some o → H b = none → H' b = none)
  (there : ∀ b o, b ∉ ch → s.heap.get? b = some o → ∃ o', h'.get? b = some o')
  (tups : ∀ b xs, H b = some (.tup xs) → H' b = some (.tup xs)) (frzs : ∀ b o u, H b = some (.frz o u) → H' b = some (.frz o u)) (tbls : ∀ b ps, H b = some (.tbl ps) → ∃ more, H' b = some (.tbl (ps ++ more)))
  (ns : ∀ m, s.heap.Ns X.env.locals m → h'.Ns X.env.locals m) (hok : HOk X.prog X.w H' h') (hg : AllBare g') :
  Inv X pins σ H' { s with heap := h', gens := g', drawn := d', toks := t' } := by
 have neL : ∀ b o, X.s₀.heap.get? b = some o → b ≠ X.env.locals := fun b o e => Nat.ne_of_lt (Nat.lt_of_lt_of_le (Heap.lt_size e) I.ok.above)
 have neC : ∀ b o, X.s₀.heap.get? b = some o → b ∉ X.ex → b ∉ ch := fun b o e hx hb => by
  rcases (hch b hb).1 with z | z
  ·exact hx z
  ·exact absurd (Nat.lt_of_lt_of_le (Heap.lt_size e) z) (Nat.lt_irrefl _)
 have cellK : ∀ x c, X.env.cells.lookup x = some c → ∀ v, s.heap.IsCell c v → h'.IsCell c v := fun x c e v ⟨o, ho, hd⟩ => by
  have nch : c ∉ ch := fun z => (hch c z).2.2.1 x c e rfl
  by_cases hc : c ∈ X.fs
  ·obtain ⟨sl, q⟩ := slot c o (I.cne x c e) hc nch ho (I.freeC x c e)
   exact ⟨_, q, hd⟩
  ·exact ⟨o, keep c o (I.cne x c e) hc nch ho (I.freeC x c e), hd⟩
 refine ⟨I.ok, I.os, hg, ⟨fun b o e n hb hx => ?_, fun b o e n hb hx => ?_, fun b o e n hx => ?_, fun b o e hx => ?_, fun b xs e => tups b xs (I.base.tups b xs e), fun b o xs e => frzs b o xs (I.base.frzs b o xs e), fun b ps e => ?_⟩, ?_, fun x c e => ?_, ?_, fun x c e => ?_, fun p hp => ?_, hok, I.len⟩
 ·exact keep b o (neL b o e) hb (neC b o e hx) (I.base.keep b o e n hb hx) (I.base.free b o e n hx)
 ·obtain ⟨sl, e1⟩ := I.base.slot b o e n hb hx
  obtain ⟨sl', e2⟩ := slot b _ (neL b o e) hb (neC b o e hx) e1 (I.base.free b o e n hx)
  exact ⟨sl', e2⟩
 ·obtain ⟨o', e1⟩ := I.base.there b o e hx
  exact free b o' (neC b o e hx) e1 (I.base.free b o e n hx)
 ·obtain ⟨o', e1⟩ := I.base.there b o e hx
  exact there b o' (neC b o e hx) e1
 ·obtain ⟨m1, e1⟩ := I.base.tbls b ps e
  obtain ⟨m2, e2⟩ := tbls b _ e1
  exact ⟨m1 ++ m2, by rw [e2, Array.append_assoc]⟩
 ·obtain ⟨m, hn, hl⟩ := I.loc
  refine ⟨m, ns m hn, fun i x v e1 e2 e3 => ?_⟩
  obtain ⟨u, r, l⟩ := hl i x v e1 e2 e3
  refine ⟨u, r, ?_⟩
  rcases l with l | ⟨k, c, e, z⟩
  ·exact .inl l
  ·exact .inr ⟨k, c, e, cellK x c e _ z⟩
 ·obtain ⟨v, z⟩ := I.cell x c e
  exact ⟨v, cellK x c e v z⟩
 ·obtain ⟨m, ⟨o, _, _, ho, _⟩, _⟩ := I.loc
  exact free _ o (fun z => (hch _ z).2.1 rfl) ho I.free
 ·obtain ⟨v, o, ho, hd⟩ := I.cell x c e
  exact free c o (fun z => (hch c z).2.2.1 x c e rfl) ho (I.freeC x c e)
 ·obtain ⟨e, n, ne, nf, d⟩ := I.pin p hp
  have nch : p.1 ∉ ch := fun z => (hch p.1 z).2.2.2 p hp rfl
  exact ⟨keep p.1 p.2 ne nf nch e n, free p.1 p.2 nch e n, ne, nf, d⟩
theorem Inv.un {t' : Nat} (I : Inv X pins σ H s) (u : Un X.fs [] H H' s.heap h') (hok : HOk X.prog X.w H' h') : Inv X pins σ H' { s with heap := h', toks := t' } := by
 obtain ⟨m, ⟨o, es, ep, ho, r⟩, _⟩ := id I.loc
 obtain ⟨sl, hL⟩ := u.any ho I.free (by simp)
 exact I.step (g' := s.gens) (d' := s.drawn) (ch := []) (fun _ z => nomatch z) (fun b o _ hb _ e n => u.keep b o e n hb (by simp)) (fun b o _ hb _ e n => u.slot b o e n hb (by simp)) (fun b o _ e n => u.free b o e n (by simp)) (fun b o _ e => u.there b o e (by simp)) u.tups u.frzs u.tbls (fun m' hm => by
  obtain ⟨o', es', ep', ho', r'⟩ := hm
  rw [ho] at ho'; cases ho'
  exact ⟨_, es', ep', hL, r'⟩) hok I.bare
theorem Inv.call {g' : Array GenState} {t' : Nat} {d' : Drawn} {ch : List Addr} (I : Inv X pins σ H s) (u : Un (frs X.stack) ch H H' s.heap h') (hok : HOk X.prog X.w H' h') (hg : AllBare g')
  (hch : ∀ b ∈ ch, (b ∈ X.ex ∨ X.s₀.heap.objs.size ≤ b) ∧ b ≠ X.env.locals ∧ (∀ x c, X.env.cells.lookup x = some c → c ≠ b) ∧ ∀ p ∈ X.pn ++ pins, p.1 ≠ b) :
  Inv X pins σ H' { s with heap := h', gens := g', drawn := d', toks := t' } := by
 obtain ⟨m, ⟨o, es, ep, ho, r⟩, _⟩ := id I.loc
 obtain ⟨sl, hL⟩ := u.any ho I.free fun z => (hch _ z).2.1 rfl
 exact I.step (ch := ch) hch (fun b o hL hb hc e n => u.keep b o e n (fun z => (List.mem_cons.mp (I.stkSub b z)).elim hL hb) hc) (fun b o _ _ hc e n => u.any e n hc) (fun b o hc e n => u.free b o e n hc) (fun b o hc e => u.there b o e hc) u.tups u.frzs u.tbls (fun m' hm => by
  obtain ⟨o', es', ep', ho', r'⟩ := hm
  rw [ho] at ho'; cases ho'
  exact ⟨_, es', ep', hL, r'⟩) hok hg
theorem Inv.turned {t' : Nat} {it : Addr} (I : Inv X pins σ H s) (k : ∀ b o, b ≠ it → s.heap.get? b = some o → h'.get? b = some o) (hn : H it = none) (hL : it ≠ X.env.locals)
  (h1 : it ∈ X.ex ∨ X.s₀.heap.objs.size ≤ it) (h2 : ∀ x c, X.env.cells.lookup x = some c → c ≠ it) (h3 : ∀ p ∈ X.pn ++ pins, p.1 ≠ it) : Inv X pins σ H { s with heap := h', toks := t' } := by
 have nit : ∀ b u, H b = some u → b ≠ it := fun b u e z => by rw [z, hn] at e; cases e
 refine I.step (g' := s.gens) (d' := s.drawn) (ch := [it]) (fun b hb => ?_) (fun b o _ _ hc e _ => k b o (fun z => hc (by simp [z])) e) (fun b o _ _ hc e _ => ⟨o.slots, k b o (fun z => hc (by simp [z])) e⟩) (fun _ _ _ _ n => n)
  (fun b o hc e => ⟨o, k b o (fun z => hc (by simp [z])) e⟩) (fun _ _ e => e) (fun _ _ _ e => e) (fun b ps e => ⟨#[], by rw [e]; simp⟩) (fun m hm => ?_) (fun b u e => ?_) I.bare
 ·have e : b = it := by simpa using hb
  subst e
  exact ⟨h1, hL, h2, h3⟩
 ·obtain ⟨o, es, ep, ho, r⟩ := hm
  exact ⟨o, es, ep, k _ o (Ne.symm hL) ho, r⟩
 ·refine (I.hok b u e).stay (fun c v hc q => k c v ?_ q) (fun _ q => q) fun _ _ q => q
  rcases hc with z | z
  ·rw [z]; exact nit b u e
  ·exact nit c _ z
theorem Inv.tok (I : Inv X pins σ H s) (t : Nat) : Inv X pins σ H { s with toks := t } := I.un (h' := s.heap) (t' := t) Un.refl I.hok
theorem Inv.kept {t' : Nat} (I : Inv X pins σ H s) (k : ∀ b u, s.heap.get? b = some u → h'.get? b = some u) : Inv X pins σ H { s with heap := h', toks := t' } := I.un (Un.kept k) (I.hok.kept k)
theorem Inv.laid {a : Addr} {o : HO} {t' : Nat} (I : Inv X pins σ H s) (k : ∀ b u, s.heap.get? b = some u → h'.get? b = some u) (hp : s.heap.objs.size ≤ a) (new : cJ X.prog X.w (upd H a o) h' a o) :
  Inv X pins σ (upd H a o) { s with heap := h', toks := t' } := I.un (Un.laid k hp (I.hok.fresh hp)) (I.hok.laid k hp new)
theorem Inv.write {x e : Addr} {o : HO} {t' : Nat} (I : Inv X pins σ H s) (mu : Mut (H x)) (he : e = x ∨ H e = some (.own x)) (k : ∀ b u, b ≠ e → s.heap.get? b = some u → h'.get? b = some u) (heo : ∃ u, h'.get? e = some u)
  (new : cJ X.prog X.w (upd H x o) h' x o) : Inv X pins σ (upd H x o) { s with heap := h', toks := t' } := I.un (Un.write mu he k heo) (I.hok.write mu he k heo new)
theorem Inv.weak {σ' : List (Option V)} (I : Inv X pins σ H s) (hl : σ'.length = σ.length) (w : ∀ (i : Nat) v, σ'[i]? = some (some v) → σ[i]? = some (some v)) : Inv X pins σ' H s :=
 ⟨I.ok, I.os, I.bare, I.base, let ⟨m, hn, hl'⟩ := I.loc; ⟨m, hn, fun i x v e1 e2 e3 => hl' i x v e1 (w i v e2) e3⟩, I.cell, I.free, I.freeC, I.pin, I.hok, hl.trans I.len⟩
theorem Inv.pins_of {pins' : List (Addr × Obj)} (I : Inv X pins σ H s) (h : ∀ p ∈ pins', s.heap.get? p.1 = some p.2 ∧ H p.1 = none ∧ p.1 ≠ X.env.locals ∧ p.1 ∉ X.fs ∧ ∀ v, p.2.data ≠ .cell v) : Inv X pins' σ H s :=
 ⟨I.ok, I.os, I.bare, I.base, I.loc, I.cell, I.free, I.freeC, fun p hp => (List.mem_append.mp hp).elim (fun z => I.pin p (List.mem_append_left _ z)) (h p), I.hok, I.len⟩
theorem tH {N : List Str} (hN : N.Nodup) {i j : Nat} {x : Str} (a : N[i]? = some x) (b : N[j]? = some x) : i = j := by
 obtain ⟨h1, e1⟩ := List.getElem?_eq_some_iff.mp a
 obtain ⟨h2, e2⟩ := List.getElem?_eq_some_iff.mp b
 exact (List.getElem_inj hN).mp (e1.trans e2.symm)
theorem aDZ {M : Model} {A : Around} {E : Value → Shared → Prop} {i : Nat} {x : Str} {v : V} {u : Value} {Q : Unit → Shared → Prop} (I : Inv X pins σ H s) (hN : X.N.Nodup) (hi : X.N[i]? = some x) (hx : Loc X.env.scope x) (r : bK v u)
  (h : ∀ s', Inv X pins (σ.set i (some v)) H s' → (∃ a, Heap.SameBut a s.heap s'.heap ∧ (a = X.env.locals ∨ X.env.cells.lookup x = some a)) → Q () s') (hf : X.fn x = true ∨ X.env.scope.names.lookup x = some .local := by first | exact .inl rfl | exact .inr rfl | assumption) : wpAny M A (storeName X.env x u) Q E s := by
 obtain ⟨m, hn, hl⟩ := id I.loc
 have hcls : (X.env.scope.kind == .class || (X.env.scope.kind == .module && X.env.locals != X.env.globals)) = false := by rw [I.ok.kind]; rfl
 have hiσ : i < σ.length := by rw [I.len]; exact (List.getElem?_eq_some_iff.mp hi).1
 have cne := I.cne
 have tracked : ∀ {a : Addr} {h' : Heap}, (∃ o, s.heap.get? a = some o ∧ H a = none) → Heap.SameBut a s.heap h' → HOk X.prog X.w H h' := fun {a h'} ha hs b ob e => by
  obtain ⟨_, _, hfree⟩ := ha
  refine (I.hok b ob e).stay (fun c w' hc q => (hs.2 c ?_).trans q) (fun _ q => q) fun _ _ q => q
  rintro rfl
  rcases hc with rfl | hc
  ·rw [hfree] at e; cases e
  ·rw [hfree] at hc; cases hc
 rcases hx with hk | hk
 ·refine wpAny_storeName_local hk hn (fun h' hn' hs => ?_) hcls
  obtain ⟨oL, _, _, hoL, _⟩ := id hn
  refine h _ ⟨I.ok, I.os, I.bare, ⟨fun b o e n hb hx => ?_, fun b o e n hb hx => ?_, I.base.free, fun b o e hx => ?_, I.base.tups, I.base.frzs, I.base.tbls⟩, ⟨_, hn', fun j y v' e1 e2 e3 => ?_⟩, fun y c e => ?_, I.free, I.freeC, fun p hp => ?_, tracked ⟨oL, hoL, I.free⟩ hs, by simpa using I.len⟩ ⟨_, hs, .inl rfl⟩
  ·exact (hs.2 b (Nat.ne_of_lt (Nat.lt_of_lt_of_le (Heap.lt_size e) I.ok.above))).trans (I.base.keep b o e n hb hx)
  ·obtain ⟨sl, e1⟩ := I.base.slot b o e n hb hx
   exact ⟨sl, (hs.2 b (Nat.ne_of_lt (Nat.lt_of_lt_of_le (Heap.lt_size e) I.ok.above))).trans e1⟩
  ·obtain ⟨o', e1⟩ := I.base.there b o e hx
   exact ⟨o', (hs.2 b (Nat.ne_of_lt (Nat.lt_of_lt_of_le (Heap.lt_size e) I.ok.above))).trans e1⟩
  ·by_cases hj : j = i
   ·subst hj
    rw [hi] at e1; cases e1
    rw [List.getElem?_set_self hiσ] at e2
    cases e2
    exact ⟨u, r, .inl ⟨hk, by simp⟩⟩
   ·rw [List.getElem?_set_ne (Ne.symm hj)] at e2
    obtain ⟨u', r', q⟩ := hl j y v' e1 e2 e3
    refine ⟨u', r', ?_⟩
    rcases q with ⟨k, e⟩ | ⟨k, c, e, z⟩
    ·refine .inl ⟨k, ?_⟩
     have : y ≠ x := fun e => hj (tH hN e1 (e ▸ hi))
     simp [this, e]
    ·exact .inr ⟨k, c, e, z.sameBut hs (cne y c e)⟩
  ·obtain ⟨w', z⟩ := I.cell y c e
   exact ⟨w', z.sameBut hs (cne y c e)⟩
  ·obtain ⟨e, n, ne, nf, d⟩ := I.pin p hp
   exact ⟨(hs.2 p.1 ne).trans e, n, ne, nf, d⟩
 ·have hfn : X.fn x = true := by
   rcases hf with z | z
   ·exact z
   ·rw [z] at hk; cases hk
  obtain ⟨c, hc⟩ := I.ok.has x (.inl hk)
  obtain ⟨w', z⟩ := I.cell x c hc
  refine wpAny_storeName_cell I.ok.kind hk hc z (fun h' hc' hs => ?_)
  obtain ⟨oc, hoc, hocd⟩ := id z
  refine h { s with heap := h' } ⟨I.ok, I.os, I.bare, ⟨fun b o e n hb hx => ?_, fun b o e n hb hx => ?_, I.base.free, fun b o e hx => ?_, I.base.tups, I.base.frzs, I.base.tbls⟩, ⟨m, hn.sameBut hs (Ne.symm (cne x c hc)), fun j y v' e1 e2 e3 => ?_⟩, fun y c' e => ?_, I.free, I.freeC, fun p hp => ?_, tracked ⟨oc, hoc, I.freeC x c hc⟩ hs, by simpa using I.len⟩ ⟨c, hs, .inr hc⟩
  ·exact (hs.2 b (Nat.ne_of_lt (Nat.lt_of_lt_of_le (Heap.lt_size e) (I.ok.cab x c hfn hc)))).trans (I.base.keep b o e n hb hx)
  ·obtain ⟨sl, e1⟩ := I.base.slot b o e n hb hx
   exact ⟨sl, (hs.2 b (Nat.ne_of_lt (Nat.lt_of_lt_of_le (Heap.lt_size e) (I.ok.cab x c hfn hc)))).trans e1⟩
  ·obtain ⟨o', e1⟩ := I.base.there b o e hx
   exact ⟨o', (hs.2 b (Nat.ne_of_lt (Nat.lt_of_lt_of_le (Heap.lt_size e) (I.ok.cab x c hfn hc)))).trans e1⟩
  ·by_cases hj : j = i
   ·subst hj
    rw [hi] at e1; cases e1
    rw [List.getElem?_set_self hiσ] at e2
    cases e2
    exact ⟨u, r, .inr ⟨.inl hk, c, hc, hc'⟩⟩
   ·rw [List.getElem?_set_ne (Ne.symm hj)] at e2
    obtain ⟨u', r', q⟩ := hl j y v' e1 e2 e3
    refine ⟨u', r', ?_⟩
    rcases q with q | ⟨k, c', e, z'⟩
    ·exact .inl q
    ·refine .inr ⟨k, c', e, z'.sameBut hs ?_⟩
     rintro rfl
     exact hj (tH hN e1 (I.ok.inj _ _ _ e hc ▸ hi))
  ·by_cases hcc : c' = c
   ·subst hcc; exact ⟨_, hc'⟩
   ·obtain ⟨w2, z2⟩ := I.cell y c' e
    exact ⟨w2, z2.sameBut hs hcc⟩
  ·obtain ⟨e, n, ne, nf, d⟩ := I.pin p hp
   refine ⟨(hs.2 p.1 ?_).trans e, n, ne, nf, d⟩
   intro q
   rw [q, hoc] at e
   have q' : oc = p.2 := Option.some.inj e
   exact d w' (by rw [← q']; exact hocd)
theorem rX {M : Model} {A : Around} {E : Value → Shared → Prop} {i : Nat} {x : Str} {v : V} {u : Value} {Q : Unit → Shared → Prop} (I : Inv X pins σ H s) (hN : X.N.Nodup) (hi : X.N[i]? = some x) (hx : Loc X.env.scope x) (r : bK v u)
  (h : ∀ s', Inv X pins (σ.set i (some v)) H s' → Q () s') (hf : X.fn x = true ∨ X.env.scope.names.lookup x = some .local := by first | exact .inl rfl | exact .inr rfl | assumption) : wpAny M A (storeName X.env x u) Q E s :=
 aDZ I hN hi hx r (fun s' I' _ => h s' I') hf
theorem Inv.call' {s' : Shared} {ch : List Addr} (I : Inv X pins σ H s) (ho : s'.os = s.os) (u : Un (frs X.stack) ch H H' s.heap s'.heap) (hok : HOk X.prog X.w H' s'.heap) (hg : AllBare s'.gens)
  (hch : ∀ b ∈ ch, (b ∈ X.ex ∨ X.s₀.heap.objs.size ≤ b) ∧ b ≠ X.env.locals ∧ (∀ x c, X.env.cells.lookup x = some c → c ≠ b) ∧ ∀ p ∈ X.pn ++ pins, p.1 ≠ b) : Inv X pins σ H' s' := by
 obtain ⟨h', g', d', t', o'⟩ := s'
 have e : o' = s.os := ho
 subst e
 exact I.call (g' := g') (t' := t') (d' := d') u hok hg hch
end
abbrev XK := Value → Option Addr → Hp → Prop
abbrev St := List (Option V)
abbrev VK := V → Hp → Prop
abbrev TE := St → Hp → VK → Prop
abbrev TT := St → Hp → (Bool → Hp → Prop) → Prop
abbrev TA := St → Hp → (List V → Hp → Prop) → Prop
structure Ends where
 nx : St → Hp → Prop
 rt : VK
 bk : St → Hp → Prop := fun _ _ => False
 ct : St → Hp → Prop := fun _ _ => False
abbrev TS := Ends → St → Hp → Prop
def EP (X : Cx) (pins : List (Addr × Obj)) (σ : St) (Q : VK) (u : Value) (s' : Shared) : Prop := ∃ v H', Inv X pins σ H' s' ∧ bK v u ∧ Q v H'
def TP (X : Cx) (pins : List (Addr × Obj)) (σ : St) (Q : Bool → Hp → Prop) (b : Bool) (s' : Shared) : Prop := ∃ H', Inv X pins σ H' s' ∧ Q b H'
def AP (X : Cx) (pins : List (Addr × Obj)) (σ : St) (Q : List V → Hp → Prop) (us : List Value) (s' : Shared) : Prop := ∃ vs H', Inv X pins σ H' s' ∧ bL vs us ∧ Q vs H'
def SP (X : Cx) (pins : List (Addr × Obj)) (D : Ends) (f : Flow) (s' : Shared) : Prop :=
 match f with
 | .next => ∃ σ' H', Inv X pins σ' H' s' ∧ D.nx σ' H'
 | .brk => ∃ σ' H', Inv X pins σ' H' s' ∧ D.bk σ' H'
 | .cont => ∃ σ' H', Inv X pins σ' H' s' ∧ D.ct σ' H'
 | .ret u => ∃ v σ' H', Inv X pins σ' H' s' ∧ bK v u ∧ D.rt v H'
def PE (X : Cx) (e : Expr) (t : TE) : Prop :=
 ∀ (pins : List (Addr × Obj)) (s : Shared) (σ : St) (H : Hp) (Q : VK), Inv X pins σ H s → t σ H Q → wpAny (model X.prog X.w) X.A (eval e X.env) (EP X pins σ Q) X.xe s
def PT (X : Cx) (e : Expr) (t : TT) : Prop :=
 ∀ (pins : List (Addr × Obj)) (s : Shared) (σ : St) (H : Hp) (Q : Bool → Hp → Prop), Inv X pins σ H s → t σ H Q → wpAny (model X.prog X.w) X.A (isTrue e X.env (eval e X.env)) (TP X pins σ Q) X.xe s
def PW (X : Cx) (e : Expr) (t : TT) : Prop :=
 ∀ (whole : Sem Value) (pins : List (Addr × Obj)) (s : Shared) (σ : St) (H : Hp) (Q : Bool → Hp → Prop), Inv X pins σ H s → t σ H Q → wpAny (model X.prog X.w) X.A (isTrue e X.env whole) (TP X pins σ Q) X.xe s
theorem PW.pt {X : Cx} {e : Expr} {t : TT} (h : PW X e t) : PT X e t := h _
def PA (X : Cx) (es : List Expr) (t : TA) : Prop :=
 ∀ (pos : Pos) (pins : List (Addr × Obj)) (s : Shared) (σ : St) (H : Hp) (Q : List V → Hp → Prop), Inv X pins σ H s → t σ H Q → wpAny (model X.prog X.w) X.A (spliced (backTo pos (starEach es X.env))) (AP X pins σ Q) X.xe s
def PS (X : Cx) (st : Stmt) (t : TS) : Prop :=
 ∀ (pins : List (Addr × Obj)) (s : Shared) (σ : St) (H : Hp) (D : Ends), Inv X pins σ H s → t D σ H → wpAny (model X.prog X.w) X.A (exec st X.env) (SP X pins D) X.xe s
def PSs (X : Cx) (st : List Stmt) (t : TS) : Prop :=
 ∀ (pins : List (Addr × Obj)) (s : Shared) (σ : St) (H : Hp) (D : Ends), Inv X pins σ H s → t D σ H → wpAny (model X.prog X.w) X.A (execs st X.env) (SP X pins D) X.xe s
theorem thn {α : Type} {t : Sem α} {Q Q' : α → Shared → Prop} {M : Model} {A : Around} {E : Value → Shared → Prop} {s : Shared} (h : wpAny M A t Q E s) (hQ : ∀ a s, Q a s → Q' a s) : wpAny M A t Q' E s := wpAny_mono h hQ fun _ _ x => x
end L2
namespace L2
open PySem PySem.Spec PyProof.Rows
section
variable {X : Cx}
def aFO (i : Nat) : TE := fun σ H Q => ∃ v, σ[i]? = some (some v) ∧ Q v H
def tC (v : V) : TE := fun _ H Q => Q v H
theorem aKW {i : Nat} {x : Str} {pos : Pos} (hN : X.N[i]? = some x) (hv : Vis X.env.scope x) (hd : (x == ("__debug__" : Str)) = false := by decide) (hcd : (x == ("__classdict__" : Str)) = false := by decide) : PE X (.Name x pos) (aFO i) := by
 intro pins s σ H Q I h
 obtain ⟨v, e, h⟩ := h
 obtain ⟨m, hn, hl⟩ := I.loc
 obtain ⟨u, r, l⟩ := hl i x v hN e hv
 have fin : EP X pins σ Q u s := ⟨v, H, I, r, h⟩
 rcases l with ⟨hk, hm⟩ | ⟨hk, c, hc, hcell⟩
 ·exact wpAny_Name (wpAny_loadName_local I.ok.kind hk hn hm fin) hd
 ·rcases hk with hk | hk
  ·exact wpAny_Name (wpAny_loadName_cell I.ok.kind hk hc hcell fin) hd
  ·exact wpAny_Name (wpAny_loadName_free I.ok.kind hk hc hcell fin hcd) hd
theorem aF {i j pos} : PE X (.Constant (.int i) j pos) (tC (.int i)) := fun _ _ _ H _ I h => wpAny_Constant_int ⟨.int i, H, I.tok _, ⟨_, rfl⟩, h⟩
theorem kS {b j pos} : PE X (.Constant (.bool b) j pos) (tC (.bl b)) := fun _ _ _ H _ I h => Constant_bool ⟨.bl b, H, I, rfl, h⟩
theorem jJ {j pos} : PE X (.Constant .none j pos) (tC .non) := fun _ _ _ H _ I h => Constant_none ⟨.non, H, I, rfl, h⟩
theorem kC {x j pos} : PE X (.Constant (.str x) j pos) (tC (.str x)) := fun _ _ _ H _ I h => Calls.Constant_str ⟨.str x, H, I.tok _, ⟨_, rfl⟩, h⟩
def Gl (X : Cx) (x : Str) : Prop := X.env.kindOf x = some .globalImplicit
theorem nN {E : Value → Shared → Prop} {pins : List (Addr × Obj)} {s : Shared} {σ : St} {H : Hp} {x : Str} {u : Value} {pos : Pos} {Q : Value → Shared → Prop} (I : Inv X pins σ H s) (hg : Gl X x) (hm : X.mg x = some u) (h : Q u s)
  (hd : (x == ("__debug__" : Str)) = false := by decide) : wpAny (model X.prog X.w) X.A (eval (.Name x pos) X.env) Q E s :=
 Calls.Name_function_global I.ok.kind hg (Calls.loadGlobal_global (by rw [I.ok.glob]; exact I.mod.glob.keeps I.bk) hm h) hd
theorem pX {E : Value → Shared → Prop} {pins : List (Addr × Obj)} {s : Shared} {σ : St} {H : Hp} {x : Str} {u : Value} {pos : Pos} {Q : Value → Shared → Prop} (I : Inv X pins σ H s) (hg : Gl X x) (hm : X.mg x = none) (hv : bootBuiltins x = some u) (h : Q u s)
  (hn : x ≠ "__name__" := by decide) (hd : (x == ("__debug__" : Str)) = false := by decide) : wpAny (model X.prog X.w) X.A (eval (.Name x pos) X.env) Q E s := by
 obtain ⟨mb, h1, h2⟩ := I.mod.blt
 exact Calls.Name_function_global I.ok.kind hg (Calls.loadGlobal_builtin (by rw [I.ok.glob]; exact I.mod.glob.keeps I.bk) hm (by rw [I.ok.blt]; exact h1.keeps I.bk) ((h2 x hn).trans hv) h) hd
theorem oW {x : Str} {v : V} {u : Value} {pos : Pos} (hg : Gl X x) (hm : X.mg x = some u) (r : bK v u) (hd : (x == ("__debug__" : Str)) = false := by decide) : PE X (.Name x pos) (tC v) :=
 fun _ _ _ H _ I h => nN I hg hm ⟨v, H, I, r, h⟩ hd
theorem aJA {x : Str} {v : V} {u : Value} {pos : Pos} (hg : Gl X x) (hm : X.mg x = none) (hv : bootBuiltins x = some u) (r : bK v u) (hn : x ≠ "__name__" := by decide) (hd : (x == ("__debug__" : Str)) = false := by decide) : PE X (.Name x pos) (tC v) :=
 fun _ _ _ H _ I h => pX I hg hm hv ⟨v, H, I, r, h⟩ hn hd
def t2I (ta tb : TE) (k : Int → Int → Hp → Prop) : St → Hp → Prop := fun σ H => ta σ H fun x H1 => tb σ H1 fun y H2 => ∃ i j, x = .int i ∧ y = .int j ∧ k i j H2
variable {a b : Expr} {ta tb : TE} {pos : Pos}
def PC (X : Cx) (op : CmpOp) (a b : Expr) (t : TE) : Prop :=
 ∀ (pins : List (Addr × Obj)) (s : Shared) (σ : St) (H : Hp) (Q : VK), Inv X pins σ H s → t σ H Q →
  wpAny (model X.prog X.w) X.A (eval a X.env) (fun v s₁ => wpAny (model X.prog X.w) X.A (eval b X.env) (fun u s₂ => wpAny (model X.prog X.w) X.A (compareOp op v u) (EP X pins σ Q) X.xe s₂) X.xe s₁) X.xe s
def tCmp (p : Int → Int → Bool) (ta tb : TE) : TE := fun σ H Q => t2I ta tb (fun i j H2 => Q (.bl (p i j)) H2) σ H
def tB (t : TE) : TT := fun σ H Q => t σ H fun x H1 => ∃ c, x = .bl c ∧ Q c H1
theorem xG {op : CmpOp} {t : TE} (h : PC X op a b t) (h1 : behindInMarks op b = false := by first | exact nobehind _ (by decide) (by decide) | rfl) : PT X (.Compare a [op] [b] pos) (tB t) := by
 intro pins s σ H Q I hw
 refine wpAny_isTrue_Compare1 (thn (h pins s σ H _ I hw) fun v s1 h1 => thn h1 fun u s2 h2 => thn h2 fun c s3 ⟨x, H1, I1, r1, q1⟩ => ?_) h1
 obtain ⟨d, rfl, q⟩ := q1
 cases r1
 exact wpAny_truthy_bool ⟨H1, I1, q⟩
theorem cB {e : Expr} {t : TE} (h : PE X e t) (he : ∀ whole, isTrue e X.env whole = (do let v ← whole; standAt e.pos; holding [v] (truthy v)) := by intro _; rfl) : PT X e (tB t) := by
 intro pins s σ H Q I hw
 refine isTrue_plain (thn (h pins s σ H _ I hw) fun v s1 ⟨x, H1, I1, r1, q1⟩ => ?_) (he _)
 obtain ⟨d, rfl, q⟩ := q1
 cases r1
 exact wpAny_truthy_bool ⟨H1, I1, q⟩
variable {tA tB' : TT} {qZ : List Expr}
def aNZ (t u : TT) : TT := fun σ H Q => t σ H fun c H1 => if c = true then u σ H1 Q else Q false H1
def tOr (t u : TT) : TT := fun σ H Q => t σ H fun c H1 => if c = true then Q true H1 else u σ H1 Q
def aNT (t : TT) : TT := fun σ H Q => t σ H fun c H1 => Q (!c) H1
theorem iT (ha : PT X a tA) : PW X (.BoolOp .And [a] pos) tA := by
 intro wh pins s σ H Q I h
 refine isTrue_and (thn (ha pins s σ H Q I h) fun c s1 e => ?_)
 cases c with
 | true => exact isTrue_and_nil e
 | false => exact e
theorem gW (ha : PT X a tA) : PW X (.BoolOp .Or [a] pos) tA := by
 intro wh pins s σ H Q I h
 refine isTrue_or (thn (ha pins s σ H Q I h) fun c s1 e => ?_)
 cases c with
 | false => exact isTrue_or_nil e
 | true => exact e
theorem kB (ha : PT X a tA) (hb : PW X (.BoolOp .And (b :: qZ) pos) tB') : PW X (.BoolOp .And (a :: b :: qZ) pos) (aNZ tA tB') := by
 intro wh pins s σ H Q I h
 refine isTrue_and (thn (ha pins s σ H _ I h) fun c s1 ⟨H1, I1, q1⟩ => ?_)
 cases c with
 | true => exact hb wh pins s1 σ H1 Q I1 q1
 | false => exact ⟨H1, I1, q1⟩
theorem iK (ha : PT X a tA) (hb : PW X (.BoolOp .Or (b :: qZ) pos) tB') : PW X (.BoolOp .Or (a :: b :: qZ) pos) (tOr tA tB') := by
 intro wh pins s σ H Q I h
 refine isTrue_or (thn (ha pins s σ H _ I h) fun c s1 ⟨H1, I1, q1⟩ => ?_)
 cases c with
 | true => exact ⟨H1, I1, q1⟩
 | false => exact hb wh pins s1 σ H1 Q I1 q1
theorem cY (ha : PT X a tA) : PT X (.UnaryOp .Not a pos) (aNT tA) := by
 intro pins s σ H Q I h
 exact isTrue_not (ha pins s σ H (fun c H1 => Q (!c) H1) I h)
def aME (ta tb : TE) : TE := fun σ H Q => ta σ H fun x H1 => ∃ c, x = .bl c ∧ if c = true then tb σ H1 Q else Q (.bl false) H1
def aNS (ta tb : TE) : TE := fun σ H Q => ta σ H fun x H1 => ∃ c, x = .bl c ∧ if c = true then Q (.bl true) H1 else tb σ H1 Q
def aLZ (ta : TE) : TE := fun σ H Q => ta σ H fun x H1 => ∃ c, x = .bl c ∧ Q (.bl (!c)) H1
theorem dS {op} {t : TE} (h : PE X a t) : PE X (.BoolOp op [a] pos) t := fun pins s σ H Q I hw => BoolOp_one (h pins s σ H Q I hw)
theorem cZ (ha : PE X a ta) (hb : PE X (.BoolOp .And (b :: qZ) pos) tb) : PE X (.BoolOp .And (a :: b :: qZ) pos) (aME ta tb) := by
 intro pins s σ H Q I h
 refine BoolOp_and (thn (ha pins s σ H _ I h) fun v s1 ⟨x, H1, I1, r1, q1⟩ => ?_)
 obtain ⟨c, rfl, q1⟩ := q1
 cases r1
 refine wpAny_truthy_bool ?_
 cases c with
 | true => exact hb pins s1 σ H1 Q I1 q1
 | false => exact ⟨.bl false, H1, I1, rfl, q1⟩
theorem aKF (ha : PE X a ta) (hb : PE X (.BoolOp .Or (b :: qZ) pos) tb) : PE X (.BoolOp .Or (a :: b :: qZ) pos) (aNS ta tb) := by
 intro pins s σ H Q I h
 refine BoolOp_or (thn (ha pins s σ H _ I h) fun v s1 ⟨x, H1, I1, r1, q1⟩ => ?_)
 obtain ⟨c, rfl, q1⟩ := q1
 cases r1
 refine wpAny_truthy_bool ?_
 cases c with
 | false => exact hb pins s1 σ H1 Q I1 q1
 | true => exact ⟨.bl true, H1, I1, rfl, q1⟩
theorem aKX (ha : PE X a ta) : PE X (.UnaryOp .Not a pos) (aLZ ta) := by
 intro pins s σ H Q I h
 refine UnaryOp_ (thn (ha pins s σ H _ I h) fun v s1 ⟨x, H1, I1, r1, q1⟩ => ?_)
 obtain ⟨c, rfl, q1⟩ := q1
 cases r1
 exact not_of (wpAny_truthy_bool ⟨.bl (!c), H1, I1, rfl, q1⟩)
def tIf (t : TT) (ta tb : TE) : TE := fun σ H Q => t σ H fun c H1 => if c = true then ta σ H1 Q else tb σ H1 Q
theorem aGT {c : Expr} (hc : PT X c tA) (ha : PE X a ta) (hb : PE X b tb) : PE X (.IfExp c a b pos) (tIf tA ta tb) := by
 intro pins s σ H Q I h
 refine wpAny_IfExp (thn (hc pins s σ H _ I h) fun d s1 ⟨H1, I1, q1⟩ => ?_)
 cases d with
 | true => exact ha pins s1 σ H1 Q I1 q1
 | false => exact hb pins s1 σ H1 Q I1 q1
end
end L2
namespace L2
open PySem PySem.Spec PyProof.Rows
def SqL (K : PySem.W.Frag) (H : Hp) (a : Addr) (xs : List V) : Prop :=
 Rd H a (.lst xs) ∨
  ∃ (o : Obj) (its : Array Value) (n : Nat), K.lookup a = some o ∧ o.cls = .type "list" ∧ o.dict = none ∧ o.data = .seq its n ∧ its.size ≤ sizeLine ∧ bL xs its.toList
def SqT (K : PySem.W.Frag) (H : Hp) (a : Addr) (xs : List V) : Prop :=
 Rd H a (.tup xs) ∨
  ∃ (o : Obj) (its : Array Value) (n : Nat), K.lookup a = some o ∧ o.cls = .type "tuple" ∧ o.data = .seq its n ∧ its.size ≤ sizeLine ∧ bL xs its.toList
def aOM : Value → Option V
 | .none => some .non
 | .bool b => some (.bl b)
 | .int i _ => some (.int i)
 | .str x _ => some (.str x)
 | .bytes b _ => some (.byt b)
 | .float b _ => some (.flt b)
 | .ref a => some (.ref a)
 | .type n => some (.ty n)
 | _ => none
theorem bK.abs {x : V} {u : Value} (r : bK x u) : aOM u = some x := by
 cases x with
 | non => cases r; rfl
 | bl _ => cases r; rfl
 | int _ => obtain ⟨t, rfl⟩ := r; rfl
 | str _ => obtain ⟨t, rfl⟩ := r; rfl
 | byt _ => obtain ⟨t, rfl⟩ := r; rfl
 | flt _ => obtain ⟨t, rfl⟩ := r; rfl
 | ref _ => cases r; rfl
 | ty _ => cases r; rfl
theorem bK.inj {x y : V} {u : Value} (r : bK x u) (q : bK y u) : x = y := Option.some.inj (r.abs.symm.trans q.abs)
theorem bL.inj : ∀ {xs ys : List V} {us : List Value}, bL xs us → bL ys us → xs = ys
 | _, _, _, .nil, .nil => rfl
 | _, _, _, .cons r t, .cons r' t' => by rw [r.inj r', bL.inj t t']
section
variable {X : Cx} {pins : List (Addr × Obj)} {σ : St} {H : Hp} {s : Shared} {a : Addr} {xs ys : List V}
theorem SqL.of {K : PySem.W.Frag} (h : H a = some (.lst xs)) : SqL K H a xs := .inl (.inl h)
theorem SqT.of {K : PySem.W.Frag} (h : H a = some (.tup xs)) : SqT K H a xs := .inl (.inl h)
theorem Inv.list (I : Inv X pins σ H s) (h : SqL X.K H a xs) : ∃ its : List Value, bL xs its ∧ PlainL s.heap a its.toArray ∧ xs.length ≤ sizeLine := by
 rcases h with h | ⟨o, its, n, hk, hc, hd, hs, hz, r⟩
 ·obtain ⟨z, its, n, r, e⟩ := h.ok I.hok
  exact ⟨its, r, ⟨_, n, e, rfl, rfl, rfl⟩, z⟩
 ·refine ⟨its.toList, r, ⟨o, n, I.kIn a o hk, hc, hd, by simpa using hs⟩, ?_⟩
  have e := r.length
  simp only [Array.length_toList] at e
  omega
theorem Inv.tuple (I : Inv X pins σ H s) (h : SqT X.K H a xs) : ∃ its : List Value, bL xs its ∧ IsTup s.heap a its.toArray ∧ xs.length ≤ sizeLine := by
 rcases h with h | ⟨o, its, n, hk, hc, hs, hz, r⟩
 ·obtain ⟨z, its, r, p⟩ := h.ok I.hok
  exact ⟨its, r, p.tup, z⟩
 ·refine ⟨its.toList, r, ⟨o, I.kIn a o hk, hc, n, by simpa using hs⟩, ?_⟩
  have e := r.length
  simp only [Array.length_toList] at e
  omega
theorem Inv.list_inj (I : Inv X pins σ H s) (h : SqL X.K H a xs) (h' : SqL X.K H a ys) : xs = ys := by
 obtain ⟨its, r, ⟨o, n, e, _, _, d⟩, _⟩ := I.list h
 obtain ⟨its', r', ⟨o', n', e', _, _, d'⟩, _⟩ := I.list h'
 rw [e] at e'; cases e'
 rw [d] at d'
 injection d' with d1 _
 have : its = its' := by simpa using congrArg Array.toList d1
 subst this
 exact r.inj r'
end
abbrev Cx.wish (X : Cx) (E : Value → Shared → Prop) : Cx := { X with xe := E }
abbrev Cx.nox (X : Cx) : Cx := X.wish fun _ _ => False
theorem Cx.Ok.wish {X : Cx} (ok : X.Ok) (E : Value → Shared → Prop) : (X.wish E).Ok :=
 ⟨ok.mod, ok.kind, ok.glob, ok.blt, ok.above, ok.inj, ok.has, ok.cab, ok.hd, ok.frames, ok.stk, ok.exf, ok.bs, ok.bsz, ok.noex, ok.exfs, ok.funs, ok.frf⟩
theorem Cx.Ok.unwish {X : Cx} {E : Value → Shared → Prop} (ok : (X.wish E).Ok) : X.Ok :=
 ⟨ok.mod, ok.kind, ok.glob, ok.blt, ok.above, ok.inj, ok.has, ok.cab, ok.hd, ok.frames, ok.stk, ok.exf, ok.bs, ok.bsz, ok.noex, ok.exfs, ok.funs, ok.frf⟩
section
variable {X : Cx} {pins : List (Addr × Obj)} {σ : St} {H : Hp} {s : Shared} {E : Value → Shared → Prop}
theorem Inv.wish (I : Inv X pins σ H s) (E : Value → Shared → Prop) : Inv (X.wish E) pins σ H s := ⟨I.ok.wish E, I.os, I.bare, I.base, I.loc, I.cell, I.free, I.freeC, I.pin, I.hok, I.len⟩
theorem Inv.unwish (I : Inv (X.wish E) pins σ H s) : Inv X pins σ H s := ⟨I.ok.unwish, I.os, I.bare, I.base, I.loc, I.cell, I.free, I.freeC, I.pin, I.hok, I.len⟩
theorem SP.unwish {D : Ends} {f : Flow} {s' : Shared} (h : SP (X.wish E) pins D f s') : SP X pins D f s' := by
 cases f with
 | next => obtain ⟨σ', H', I, q⟩ := h; exact ⟨σ', H', I.unwish, q⟩
 | brk => obtain ⟨σ', H', I, q⟩ := h; exact ⟨σ', H', I.unwish, q⟩
 | cont => obtain ⟨σ', H', I, q⟩ := h; exact ⟨σ', H', I.unwish, q⟩
 | ret u => obtain ⟨v, σ', H', I, r, q⟩ := h; exact ⟨v, σ', H', I.unwish, r, q⟩
theorem PSs.nox {st : List Stmt} {t : TS} (h : PSs X.nox st t) : PSs X st t := fun pins s σ H D I hw =>
 wpAny_mono (h pins s σ H D (I.wish _) hw) (fun _ _ q => q.unwish) fun _ _ z => False.elim z
end
section
variable {X : Cx} {st : Stmt} {qZ : List Stmt} {t u : TS} {e : Expr} {te : TE} {pos : Pos}
def aMA : TS := fun D σ H => D.nx σ H
def aNQ (t u : TS) : TS := fun D σ H => t { D with nx := u D } σ H
theorem bQ : PSs X [] aMA := fun _ _ σ H _ I h => wpAny_execs_nil ⟨σ, H, I, h⟩
theorem aG (h1 : PS X st t) (h2 : PSs X qZ u) : PSs X (st :: qZ) (aNQ t u) := by
 intro pins s σ H D I h
 refine wpAny_execs_cons (thn (h1 pins s σ H { D with nx := u D } I h) fun f s1 q => ?_)
 cases f with
 | next =>
  obtain ⟨σ', H', I', q⟩ := q
  exact h2 pins s1 σ' H' D I' q
 | ret v => exact q
 | brk => exact q
 | cont => exact q
theorem aH (h1 : PS X st t) : PSs X [st] t := by
 intro pins s σ H D I h
 refine wpAny_execs_cons (thn (h1 pins s σ H D I h) fun f s1 q => ?_)
 cases f with
 | next => exact wpAny_execs_nil q
 | ret v => exact q
 | brk => exact q
 | cont => exact q
theorem Inv.quiet {pins : List (Addr × Obj)} {σ : St} {H : Hp} {s : Shared} (I : Inv X pins σ H s) : interactive X.env = false := by simp [interactive, I.ok.kind]
def aJZ (te : TE) : TS := fun D σ H => te σ H fun _ H1 => D.nx σ H1
theorem fQ (he : PE X e te) (hs : swapsWith e none pos.line X.env = pure false := by rfl) : PS X (.Expr e pos) (aJZ te) := by
 intro pins s σ H D I h
 exact wpAny_Expr_any (thn (he pins s σ H _ I h) fun v s1 ⟨x, H1, I1, r1, q1⟩ => ⟨σ, H1, I1, q1⟩) I.quiet hs
def aNR (te : TE) : TS := fun D σ H => te σ H D.rt
theorem aS (he : PE X e te) : PS X (.Return (some e) pos) (aNR te) := by
 intro pins s σ H D I h
 exact wpAny_Return_some (thn (he pins s σ H _ I h) fun v s1 ⟨x, H1, I1, r1, q1⟩ => ⟨x, σ, H1, I1, r1, q1⟩)
def aMB (c : TT) (t u : TS) : TS := fun D σ H => c σ H fun b H1 => if b = true then t D σ H1 else u D σ H1
theorem dL {c : Expr} {a b : List Stmt} {tc : TT} (hc : PT X c tc) (ha : PSs X a t) (hb : PSs X b u) : PS X (.If c a b pos) (aMB tc t u) := by
 intro pins s σ H D I h
 refine wpAny_If (thn (hc pins s σ H _ I h) fun d s1 ⟨H1, I1, q1⟩ => ?_)
 cases d with
 | true => exact ha pins s1 σ H1 D I1 q1
 | false => exact hb pins s1 σ H1 D I1 q1
def aFP : TS := fun _ _ _ => False
theorem mJ : PS X st aFP := fun _ _ _ _ _ _ h => h.elim
theorem iY {sts : List Stmt} : PSs X sts aFP := fun _ _ _ _ _ _ h => h.elim
end
abbrev TG := V → St → Hp → (St → Hp → Prop) → Prop
abbrev TGs := List V → St → Hp → (St → Hp → Prop) → Prop
def PG (X : Cx) (target : Expr) (t : TG) : Prop :=
 ∀ (pins : List (Addr × Obj)) (s : Shared) (σ : St) (H : Hp) (v : V) (u : Value) (Q : St → Hp → Prop), Inv X pins σ H s → bK v u → t v σ H Q →
  wpAny (model X.prog X.w) X.A (assign target X.env u) (fun _ s' => ∃ σ' H', Inv X pins σ' H' s' ∧ Q σ' H') X.xe s
def PGs (X : Cx) (ts : List Expr) (t : TGs) : Prop :=
 ∀ (pins : List (Addr × Obj)) (s : Shared) (σ : St) (H : Hp) (vs : List V) (us : List Value) (Q : St → Hp → Prop), Inv X pins σ H s → bL vs us → t vs σ H Q →
  wpAny (model X.prog X.w) X.A (assignInOrder ((assignEach ts X.env).map (·.2)) us) (fun _ s' => ∃ σ' H', Inv X pins σ' H' s' ∧ Q σ' H') X.xe s
abbrev TSet := V → V → V → Hp → (Hp → Prop) → Prop
abbrev TIp := V → V → Hp → VK → Prop
section
variable {X : Cx} {pos : Pos}
def zU (i : Nat) : TG := fun v σ H Q => Q (σ.set i (some v)) H
theorem aP {i : Nat} {x : Str} (hN : X.N.Nodup) (hi : X.N[i]? = some x) (hx : Loc X.env.scope x) (hf : X.fn x = true ∨ X.env.scope.names.lookup x = some .local := by first | exact .inl rfl | exact .inr rfl | assumption) : PG X (.Name x pos) (zU i) := by
 intro pins s σ H v u Q I r h
 exact wpAny_assign_Name (rX I hN hi hx r (fun s' I' => ⟨_, H, I', h⟩) hf)
def aNG : TGs := fun vs σ H Q => vs = [] ∧ Q σ H
def aKH (t : TG) (u : TGs) : TGs := fun vs σ H Q => ∃ v r, vs = v :: r ∧ t v σ H fun σ' H' => u r σ' H' Q
theorem lD : PGs X [] aNG := by
 intro pins s σ H vs us Q I r h
 obtain ⟨e, h⟩ := h
 subst e
 cases r
 exact assignInOrder_nil ⟨σ, H, I, h⟩
theorem cF {e : Expr} {es : List Expr} {t : TG} {u : TGs} (h1 : PG X e t) (h2 : PGs X es u)
  (hs : (assignEach (e :: es) X.env).map (·.2) = assign e X.env :: (assignEach es X.env).map (·.2) := by rfl) : PGs X (e :: es) (aKH t u) := by
 intro pins s σ H vs us Q I r h
 obtain ⟨v, vr, e1, h⟩ := h
 subst e1
 cases r with
 | cons r rr =>
  rw [hs]
  refine assignInOrder_cons (thn (h1 pins s σ H _ _ _ I r h) fun _ s1 ⟨σ1, H1, I1, q1⟩ => ?_)
  exact h2 pins s1 σ1 H1 _ _ Q I1 rr q1
def aLM (K : PySem.W.Frag) (n : Nat) (t : TGs) : TG := fun v σ H Q => ∃ a xs, v = .ref a ∧ SqT K H a xs ∧ xs.length = n ∧ t xs σ H Q
theorem pN {es : List Expr} {k : Nat} {t : TGs} {n : Nat} (hc : X.calm = true) (h : PGs X es t)
  (hn : (assignEach es X.env).length = n := by rfl) (hst : (assignEach es X.env).findIdx? (·.1) = none := by rfl) : PG X (.Tuple es k pos) (aLM X.K n t) := by
 intro pins s σ H v u Q I r hw
 obtain ⟨a, xs, e1, hq, hl, hw⟩ := hw
 subst e1
 cases r
 obtain ⟨its, rv, ht, hz⟩ := I.tuple hq
 refine assign_Tuple_tuple (I.ok.hd hc) ht (by simp [hn, ← hl, rv.length]) hst fun h' hx => ?_
 have I1 : Inv X pins σ H { s with heap := h' } := I.kept (t' := s.toks) fun b o e => hx b o (Nat.ne_of_lt (Heap.lt_size e)) e
 exact h pins _ σ H xs _ Q I1 (by simpa using rv) hw
def aKQ (te : TE) (g : TG) : TS := fun D σ H => te σ H fun x H1 => g x σ H1 D.nx
theorem xH {tg e : Expr} {te : TE} {g : TG} (he : PE X e te) (hg : PG X tg g) (hs : swapsWithSole [tg] e pos.line X.env = pure false := by rfl) (hw : swappedStores [tg] e X.env = pure none := by rfl)
  (h1 : (assignEach [tg] X.env).map (·.2) = [assign tg X.env] := by rfl) : PS X (.Assign [tg] e pos) (aKQ te g) := by
 intro pins s σ H D I h
 refine wpAny_Assign_stores (thn (he pins s σ H _ I h) fun v s1 ⟨x, H1, I1, r1, q1⟩ => ?_) hs hw
 rw [h1]
 exact thn (hg pins s1 σ H1 x v _ I1 r1 q1) fun _ s2 q => q
theorem aY {i : Nat} {x : Str} {e : Expr} {te : TE} {pos' : Pos} (hN : X.N.Nodup) (hi : X.N[i]? = some x) (hx : Loc X.env.scope x) (he : PE X e te) (hs : swapsWith e (some (.Name x pos')) pos.line X.env = pure false := by rfl) (hf : X.fn x = true ∨ X.env.scope.names.lookup x = some .local := by first | exact .inl rfl | exact .inr rfl | assumption) :
  PS X (.Assign [.Name x pos'] e pos) (aKQ te (zU i)) := by
 intro pins s σ H D I h
 refine wpAny_Assign_Name (thn (he pins s σ H _ I h) fun v s1 ⟨y, H1, I1, r1, q1⟩ => ?_) hs
 exact rX I1 hN hi hx r1 (fun s2 I2 => ⟨_, H1, I2, q1⟩) hf
end
section
variable {X : Cx} {pos : Pos}
def aFN (c : TT) (tb : TS) : TS := fun D σ H => ∃ W : Nat → St → Hp → Prop, (∃ m, W m σ H) ∧ ∀ m σ H, W m σ H →
 c σ H fun b H1 => if b = true then ∃ N : St → Hp → Prop, (∀ σ' H', N σ' H' → ∃ m', m' < m ∧ W m' σ' H') ∧ tb { D with nx := N, ct := N, bk := D.nx } σ H1 else D.nx σ H1
theorem sP {c : Expr} {body : List Stmt} {tc : TT} {tb : TS} (hp : PassesOwn (model X.prog X.w) X.A X.env X.xe) (hc : PT X c tc) (hb : PSs X body tb) : PS X (.While c body [] pos) (aFN tc tb) := by
 intro pins s σ H D I h
 obtain ⟨W, ⟨m0, w0⟩, turn⟩ := h
 refine wpAny_While (codeAny_whileLoop (fun n s' => ∃ σ' H', Inv X pins σ' H' s' ∧ W n σ' H') ?_ m0 ⟨σ, H, I, w0⟩)
 rintro n s1 ⟨σ1, H1, I1, w1⟩
 refine wpAny_passesOwn hp (thn (hc pins s1 σ1 H1 _ I1 (turn n σ1 H1 w1)) fun b s2 ⟨H2, I2, q2⟩ => ?_)
 cases b with
 | true =>
  obtain ⟨N, hN, q2⟩ := q2
  rw [if_pos rfl]
  refine wpAny_passesOwn hp (thn (hb pins s2 σ1 H2 _ I2 q2) fun f s3 q3 => ?_)
  cases f with
  | next =>
   obtain ⟨σ3, H3, I3, n3⟩ := q3
   obtain ⟨m', hm, w3⟩ := hN σ3 H3 n3
   exact ⟨m', hm, σ3, H3, I3, w3⟩
  | cont =>
   obtain ⟨σ3, H3, I3, n3⟩ := q3
   obtain ⟨m', hm, w3⟩ := hN σ3 H3 n3
   exact ⟨m', hm, σ3, H3, I3, w3⟩
  | brk => exact q3
  | ret v => exact q3
 | false =>
  rw [if_neg Bool.false_ne_true]
  exact wpAny_execs_nil ⟨σ1, H2, I2, q2⟩
end
structure It where
 go : Nat → Hp → Prop
 yld : Nat → Hp → V → Hp → Prop
 stop : Nat → Hp → Prop
def yK (X : Cx) (pins : List (Addr × Obj)) (H : Hp) (b : Addr) : Prop :=
 H b = none ∧ b ≠ X.env.locals ∧ b ∉ X.fs ∧ (b ∈ X.ex ∨ X.s₀.heap.objs.size ≤ b) ∧ (∀ x c, X.env.cells.lookup x = some c → c ≠ b) ∧ ∀ p ∈ X.pn ++ pins, p.1 ≠ b
theorem Inv.fpOk {X : Cx} {pins : List (Addr × Obj)} {σ : St} {H H' : Hp} {s : Shared} {b : Addr} (I : Inv X pins σ H s) (hb : s.heap.objs.size ≤ b) (hn : H' b = none) : yK X pins H' b := by
 refine ⟨hn, Nat.ne_of_gt (Nat.lt_of_lt_of_le I.lt hb), I.nofs hb, .inr (Nat.le_trans I.sz hb), fun x c e z => ?_, fun p hp z => ?_⟩
 ·obtain ⟨v, q⟩ := I.cell x c e
  exact absurd (Nat.lt_of_lt_of_le q.lt (by rw [z]; exact hb)) (Nat.lt_irrefl _)
 ·exact absurd (Nat.lt_of_lt_of_le (Heap.lt_size (I.pin p hp).1) (by rw [z]; exact hb)) (Nat.lt_irrefl _)
structure Turn (P : Program) (w : World) (K : PySem.W.Frag) (tg : Expr) (J : It) (fp : List Addr) (it : Addr) (tn : Nat → Heap → Prop) : Prop where
 mem : it ∈ fp
 obj : ∀ i h, tn i h → ∀ b ∈ fp, ∃ o, h.get? b = some o ∧ ∀ v, o.data ≠ .cell v
 keep : ∀ i h h', tn i h → (∀ b ∈ fp, ∀ o, h.get? b = some o → h'.get? b = some o) → tn i h'
 item : ∀ (X : Cx), X.prog = P → X.w = w → X.K = K → X.calm = true → ∀ (i : Nat) (pins : List (Addr × Obj)) (s : Shared) (σ : St) (H : Hp) (E : Value → Shared → Prop), Inv X pins σ H s → (∀ b ∈ fp, yK X pins H b) → tn i s.heap → J.go i H →
  wpAny (model P w) X.A (pyNext (.ref it)) (fun r s1 => ∃ u, r = some u ∧
   wpAny (model P w) X.A (letOwnedTupleGo tg (.ref it) u) (fun _ s2 => ∃ x H', Inv X pins σ H' s2 ∧ bK x u ∧ J.yld i H x H' ∧ tn (i + 1) s2.heap ∧ ∀ b ∈ fp, H' b = none) E s1) E s
 done : ∀ (X : Cx), X.prog = P → X.w = w → X.K = K → X.calm = true → ∀ (i : Nat) (pins : List (Addr × Obj)) (s : Shared) (σ : St) (H : Hp) (E : Value → Shared → Prop), Inv X pins σ H s → (∀ b ∈ fp, yK X pins H b) → tn i s.heap → J.stop i H →
  wpAny (model P w) X.A (pyNext (.ref it)) (fun r s1 => r = none ∧ Inv X pins σ H s1) E s
 self : ∀ (A : Around) (i : Nat) (s : Shared) (Q : Value → Shared → Prop) (E : Value → Shared → Prop), tn i s.heap → Q (.ref it) s → wpAny (model P w) A (pyIter (.ref it)) Q E s
abbrev TI := St → Hp → (It → Hp → Prop) → Prop
def PIE (X : Cx) (pins : List (Addr × Obj)) (σ : St) (tg : Expr) (R : It → Hp → Prop) (itv : Value) (s2 : Shared) : Prop :=
 ∃ (it : Addr) (fp : List Addr) (tn : Nat → Heap → Prop) (J : It) (H' : Hp), itv = .ref it ∧ Inv X pins σ H' s2 ∧ Turn X.prog X.w X.K tg J fp it tn ∧ tn 0 s2.heap ∧ (∀ b ∈ fp, yK X pins H' b) ∧ R J H'
def PI (X : Cx) (tg iter : Expr) (wi : TI) : Prop :=
 ∀ (pins : List (Addr × Obj)) (s : Shared) (σ : St) (H : Hp) (R : It → Hp → Prop), Inv X pins σ H s → wi σ H R →
  wpAny (model X.prog X.w) X.A (eval iter X.env) (fun v s1 => wpAny (model X.prog X.w) X.A (pyIter v) (PIE X pins σ tg R) X.xe s1) X.xe s
theorem aDL {M : Model} {A : Around} {E : Value → Shared → Prop} {s : Shared} {tg : Expr} {it : Addr} {u : Value} {o : Obj} {n : String} {vs : Array Value} {Q : Unit → Shared → Prop} (ho : s.heap.get? it = some o) (hc : o.cls = .type n) (hd : o.data = .fields vs)
    (hn : ["enumerate", "zip", "dict_itemiterator", "dict_reverseitemiterator", "odict_iterator", "itertools.zip_longest", "itertools.pairwise"].contains n = false) (hQ : Q () s) : wpAny M A (letOwnedTupleGo tg (.ref it) u) Q E s := by
  unfold letOwnedTupleGo
  cases tg <;> first
    | exact wpAny_pure hQ
    | (cases u <;> first
        | exact wpAny_pure hQ
        | (refine wpAny_bind (wpAny_load ho ?_)
           rw [hc, hd]
           show wpAny M A (if (["enumerate", "zip", "dict_itemiterator", "dict_reverseitemiterator", "odict_iterator", "itertools.zip_longest", "itertools.pairwise"].contains n && vs[0]? == some (rawInt _)) = true then _ else _) Q E s
           rw [if_neg (by intro h; rw [hn, Bool.false_and] at h; cases h)]
           exact wpAny_pure hQ))
def Itl (K : PySem.W.Frag) (a : Addr) : It :=
 ⟨fun i H => ∃ xs x, SqL K H a xs ∧ xs[i]? = some x, fun i H x H' => H' = H ∧ ∀ xs, SqL K H a xs → xs[i]? = some x, fun i H => ∃ xs, SqL K H a xs ∧ xs.length ≤ i⟩
def Itt (K : PySem.W.Frag) (a : Addr) : It :=
 ⟨fun i H => ∃ xs x, SqT K H a xs ∧ xs[i]? = some x, fun i H x H' => H' = H ∧ ∀ xs, SqT K H a xs → xs[i]? = some x, fun i H => ∃ xs, SqT K H a xs ∧ xs.length ≤ i⟩
def Itr (lo : Int) (n : Nat) : It := ⟨fun i _ => i < n, fun i H x H' => H' = H ∧ x = .int (lo + i), fun i _ => n ≤ i⟩
theorem aDX {P : Program} {w : World} {K : PySem.W.Frag} {tg : Expr} (a it : Addr) : Turn P w K tg (Itl K a) [it] it (fun i h => h.IsListIter it a i) where
 mem := by simp
 obj := fun i h st b hb => by
  have e : b = it := by simpa using hb
  subst e
  obtain ⟨o, e, c, d⟩ := st
  exact ⟨o, e, fun v z => by rw [d] at z; cases z⟩
 keep := fun i h h' st k => st.at fun o e => k it (by simp) o e
 item := by
  intro X hP hw hK hc i pins s σ H E I hf st hg
  subst hP hw hK
  obtain ⟨xs, x, hq, hx⟩ := hg
  obtain ⟨its, rv, p, hz⟩ := I.list hq
  obtain ⟨u, hu, ru⟩ := rv.get hx
  obtain ⟨f0, f1, f2, f3, f4, f5⟩ := hf it (by simp)
  refine wpAny_pyNext_list_item st p.isList (x := u) (by simpa using hu) fun h' st' sb => ?_
  have I1 : Inv X pins σ H { s with heap := h' } := I.turned (t' := s.toks) (fun b o hb e => (sb.2 b hb).trans e) f0 f1 f3 f4 f5
  obtain ⟨o, e, c, d⟩ := id st'
  exact ⟨u, rfl, aDL (s := { s with heap := h' }) e c d (by decide) ⟨x, H, I1, ru, ⟨rfl, fun ys hy => by rw [I.list_inj hy hq]; exact hx⟩, st', fun b hb => (hf b hb).1⟩⟩
 done := by
  intro X hP hw hK hc i pins s σ H E I hf st hg
  subst hP hw hK
  obtain ⟨xs, hq, hx⟩ := hg
  obtain ⟨its, rv, p, hz⟩ := I.list hq
  obtain ⟨f0, f1, f2, f3, f4, f5⟩ := hf it (by simp)
  have hl := rv.length
  exact wpAny_pyNext_list_end (I.ok.hd hc) st p.isList (by simp; omega) fun h' eb => ⟨rfl, I.turned (t' := s.toks) (fun b o hb e => eb b o hb e) f0 f1 f3 f4 f5⟩
 self := fun _ _ _ _ _ st h => wpAny_pyIter_listiter st h
theorem aAQ {P : Program} {w : World} {K : PySem.W.Frag} {tg : Expr} (it : Addr) (lo : Int) (n : Nat) : Turn P w K tg (Itr lo n) [it] it (fun i h => IsRangeIter h it (lo + (i : Nat) * 1) ((n : Int) - (i : Nat)) 1) where
 mem := by simp
 obj := fun i h st b hb => by
  have e : b = it := by simpa using hb
  subst e
  exact ⟨_, st, fun v z => by
   have z' : Data.fields _ = Data.cell v := z
   cases z'⟩
 keep := fun i h h' st k => k it (by simp) _ st
 item := by
  intro X hP hw hK hc i pins s σ H E I hf st hg
  subst hP hw hK
  obtain ⟨f0, f1, f2, f3, f4, f5⟩ := hf it (by simp)
  have W := Walks.range (prog := X.prog) (w := X.w) (I.ok.hd hc) it lo 1 n
  refine W.item i s _ _ hg st fun v h' tk hv st' kk => ?_
  obtain ⟨t, rfl⟩ := hv
  have I1 : Inv X pins σ H { s with heap := h', toks := tk } := I.turned (fun b o hb e => kk b o (by simpa using hb) e) f0 f1 f3 f4 f5
  refine ⟨_, rfl, aDL (s := { s with heap := h', toks := tk }) (n := "range_iterator") st' rfl rfl (by decide) ⟨.int (lo + i), H, I1, ⟨t, ?_⟩, ⟨rfl, rfl⟩, st', fun b hb => (hf b hb).1⟩⟩
  rw [Int.mul_one]
 done := by
  intro X hP hw hK hc i pins s σ H E I hf st hg
  subst hP hw hK
  obtain ⟨f0, f1, f2, f3, f4, f5⟩ := hf it (by simp)
  exact wpAny_pyNext_range_end (I.ok.hd hc) st (by have : n ≤ i := hg; omega) fun h' eb => ⟨rfl, I.turned (t' := s.toks) (fun b o hb e => eb b o hb e) f0 f1 f3 f4 f5⟩
 self := fun _ _ _ _ _ st h => wpAny_pyIter_rangeiter st h
end L2
namespace L2
open PySem PySem.Spec PyProof.Rows
section
variable {X : Cx} {tg : Expr}
def aNE (K : PySem.W.Frag) (tl : TE) : TI := fun σ H R => tl σ H fun x H1 => ∃ a, x = .ref a ∧ (∃ xs, SqL K H1 a xs) ∧ R (Itl K a) H1
theorem bM {l : Expr} {tl : TE} (hl : PE X l tl) : PI X tg l (aNE X.K tl) := by
 intro pins s σ H R I h
 refine thn (hl pins s σ H _ I h) fun v s1 ⟨x, H1, I1, r1, q1⟩ => ?_
 obtain ⟨a, e, ⟨xs, hq⟩, q⟩ := q1
 subst e
 cases r1
 obtain ⟨its, rv, p, hz⟩ := I1.list hq
 refine wpAny_pyIter_list p.isList ?_
 refine ⟨s1.heap.objs.size, [s1.heap.objs.size], _, _, H1, rfl, I1.kept (t' := s1.toks) fun b o e => Heap.get?_push_of_some _ e, aDX a _, ⟨_, Heap.get?_push_size _ rfl, rfl, rfl⟩, fun b hb => ?_, q⟩
 have e : b = s1.heap.objs.size := by simpa using hb
 subst e
 exact I1.fpOk (Nat.le_refl _) (I1.hok.fresh (Nat.le_refl _))
theorem aGM {pins : List (Addr × Obj)} {σ : St} {H : Hp} {s : Shared} {R : It → Hp → Prop} {E : Value → Shared → Prop} {lo hi : Int} {t u v : Tok} {tk : Nat} (I : Inv X pins σ H s) (h1 : -(2 ^ 62) ≤ lo) (h2 : lo < 2 ^ 62) (h3 : -(2 ^ 62) ≤ hi) (h4 : hi < 2 ^ 62)
  (q : R (Itr lo (hi - lo).toNat) H) : wpAny (model X.prog X.w) X.A (pyIter (.ref s.heap.objs.size)) (PIE X pins σ tg R) E { s with heap := s.heap.push { cls := .type "range", data := .fields #[.int lo t, .int hi u, .int 1 v] }, toks := tk } := by
 refine wpAny_pyIter_range (IsRange.new ..) (small_one h1 h2 h3 h4) ?_
 have I1 : Inv X pins σ H { s with heap := s.heap.push { cls := .type "range", data := .fields #[.int lo t, .int hi u, .int 1 v] }, toks := tk } := I.kept fun b o e => Heap.get?_push_of_some _ e
 refine ⟨(s.heap.push { cls := .type "range", data := .fields #[.int lo t, .int hi u, .int 1 v] }).objs.size, [(s.heap.push { cls := .type "range", data := .fields #[.int lo t, .int hi u, .int 1 v] }).objs.size], _, _, H, rfl,
  I1.kept (t' := tk) fun b o e => Heap.get?_push_of_some _ e, aAQ _ lo (hi - lo).toNat, ?_, fun b hb => ?_, q⟩
 ·have e1 : lo + ((0 : Nat) : Int) * 1 = lo := by simp
  have e2 : (((hi - lo).toNat : Nat) : Int) - ((0 : Nat) : Int) = Builtin.Range.rangeSize lo hi 1 := by rw [rangeSize_one]; split <;> omega
  show IsRangeIter _ _ (lo + ((0 : Nat) : Int) * 1) ((((hi - lo).toNat : Nat) : Int) - ((0 : Nat) : Int)) 1
  rw [e1, e2]
  exact Heap.get?_push_size _ rfl
 ·have e : b = (s.heap.push { cls := .type "range", data := .fields #[.int lo t, .int hi u, .int 1 v] }).objs.size := by simpa using hb
  subst e
  exact I1.fpOk (Nat.le_refl _) (I1.hok.fresh (Nat.le_refl _))
def aND (ta : TA) : TI := fun σ H R => ta σ H fun vs H1 => ∃ j : Int, vs = [.int j] ∧ -(2 ^ 62) ≤ j ∧ j < 2 ^ 62 ∧ R (Itr 0 j.toNat) H1
theorem gX {a : Expr} {ta : TA} {p pos : Pos} (hg : Gl X "range") (hm : X.mg "range" = none) (ha : PA X [a] ta) (hs : starEach [a] X.env = [(false, eval a X.env)] := by rfl) : PI X tg (.Call (.Name "range" p) [a] [] pos) (aND ta) := by
 intro pins s σ H R I h
 refine Call_ (pX I hg hm boot_range (PyProof.Rows.callWith_type1 (thn (ha pos pins s σ H _ I h) fun us s1 ⟨vs, H1, I1, r1, q1⟩ => ?_) hs rfl))
 obtain ⟨j, e, q1, q2, q⟩ := q1
 subst e
 cases r1 with
 | cons r rr =>
  cases rr
  obtain ⟨t, rfl⟩ := r
  exact call_range_1 (aGM I1 (by omega) (by omega) q1 q2 (by simpa using q))
def aNV (wi : TI) (g : TG) (tb : TS) : TS := fun D σ H => wi σ H fun J H1 => ∃ W : Nat → Nat → St → Hp → Prop, (∃ m, W 0 m σ H1) ∧ ∀ i m σ H, W i m σ H →
 (J.stop i H ∧ D.nx σ H) ∨ (J.go i H ∧ ∃ N : St → Hp → Prop, (∀ σ' H', N σ' H' → ∃ m', m' < m ∧ W (i + 1) m' σ' H') ∧ ∀ x H', J.yld i H x H' → g x σ H' fun σ2 H2 => tb { D with nx := N, ct := N, bk := D.nx } σ2 H2)
def mK (fp : List Addr) (h : Heap) : List (Addr × Obj) := fp.filterMap fun b => (h.get? b).map fun o => (b, o)
theorem lG {fp : List Addr} {h : Heap} {b : Addr} {o : Obj} (hb : b ∈ fp) (e : h.get? b = some o) : (b, o) ∈ mK fp h := List.mem_filterMap.mpr ⟨b, hb, by rw [e]; rfl⟩
theorem vO {fp : List Addr} {h : Heap} {p : Addr × Obj} (hp : p ∈ mK fp h) : p.1 ∈ fp ∧ h.get? p.1 = some p.2 := by
 obtain ⟨b, hb, e⟩ := List.mem_filterMap.mp hp
 cases q : h.get? b with
 | none => rw [q] at e; cases e
 | some o =>
  rw [q] at e
  have e' : (b, o) = p := Option.some.inj e
  subst e'
  exact ⟨hb, q⟩
theorem Inv.pinned {pins : List (Addr × Obj)} {σ : St} {H : Hp} {s : Shared} {fp : List Addr} (I : Inv X pins σ H s) (hf : ∀ b ∈ fp, yK X pins H b) (ho : ∀ b ∈ fp, ∃ o, s.heap.get? b = some o ∧ ∀ v, o.data ≠ .cell v) : Inv X (pins ++ mK fp s.heap) σ H s :=
 I.pins_of fun p hp => (List.mem_append.mp hp).elim (fun z => I.pin p (List.mem_append_right _ z)) fun z => by
  obtain ⟨hb, e⟩ := vO z
  obtain ⟨f0, f1, f2, _⟩ := hf p.1 hb
  obtain ⟨o, e', d⟩ := ho p.1 hb
  rw [e] at e'; cases e'
  exact ⟨e, f0, f1, f2, d⟩
theorem Inv.unpinned {pins pl : List (Addr × Obj)} {σ : St} {H : Hp} {s : Shared} (I : Inv X (pins ++ pl) σ H s) : Inv X pins σ H s := I.pins_of fun p hp => I.pin p (List.mem_append_right _ (List.mem_append_left _ hp))
theorem iN {iter : Expr} {body : List Stmt} {wi : TI} {g : TG} {tb : TS} {pos : Pos} (hp : PassesOwn (model X.prog X.w) X.A X.env X.xe) (hc : X.calm = true) (hi : PI X tg iter wi) (hg : PG X tg g) (hb : PSs X body tb)
  (hs : ∀ x, foldedSetIterable iter X.env x = pure x := by intro _; rfl) : PS X (.For tg iter body [] pos) (aNV wi g tb) := by
 intro pins s σ H D I h
 refine wpAny_For (thn (hi pins s σ H _ I h) fun v s1 h1 => thn h1 fun itv s2 h2 => ?_) hs
 obtain ⟨it, fp, tn, J, H2, e, I2, T, st2, f2, W, ⟨m0, w0⟩, turn⟩ := h2
 subst e
 have stat : ∀ {H' : Hp}, (∀ b ∈ fp, H' b = none) → ∀ b ∈ fp, yK X pins H' b := fun hn b hb => ⟨hn b hb, (f2 b hb).2⟩
 refine codeAny_forLoop_any (fun n s' => ∃ i σ' H', Inv X pins σ' H' s' ∧ tn i s'.heap ∧ (∀ b ∈ fp, H' b = none) ∧ W i n σ' H') ?_ m0 ⟨0, σ, H2, I2, st2, fun b hb => (f2 b hb).1, w0⟩
 rintro n s3 ⟨i, σ3, H3, I3, st3, fr3, w3⟩
 rcases turn i n σ3 H3 w3 with ⟨stop, qn⟩ | ⟨go, N, hN, step⟩
 ·refine wpAny_passesOwn hp (thn (T.done X rfl rfl rfl hc i pins s3 σ3 H3 X.xe I3 (stat fr3) st3 stop) fun r s4 ⟨hr, I4⟩ => ?_)
  subst hr
  exact wpAny_execs_nil ⟨σ3, H3, I4, qn⟩
 ·refine wpAny_passesOwn hp (thn (T.item X rfl rfl rfl hc i pins s3 σ3 H3 X.xe I3 (stat fr3) st3 go) fun r s4 ⟨u, hr, h4⟩ => ?_)
  subst hr
  refine wpAny_passesOwn hp (thn h4 fun _ s5 ⟨x, H5, I5, r5, y5, st5, fr5⟩ => ?_)
  have I5' := I5.pinned (stat fr5) (T.obj _ _ st5)
  refine wpAny_passesOwn hp (thn (hg _ s5 σ3 H5 x u _ I5' r5 (step x H5 y5)) fun _ s6 ⟨σ6, H6, I6, q6⟩ => ?_)
  refine wpAny_passesOwn hp (thn (hb _ s6 σ6 H6 _ I6 q6) fun f s7 q7 => ?_)
  have again : ∀ {σ7 : St} {H7 : Hp}, Inv X (pins ++ mK fp s5.heap) σ7 H7 s7 → N σ7 H7 → ∃ m, m < n ∧ ∃ i σ' H', Inv X pins σ' H' s7 ∧ tn i s7.heap ∧ (∀ b ∈ fp, H' b = none) ∧ W i m σ' H' := fun {σ7 H7} I7 n7 => by
   obtain ⟨m', hm, w7⟩ := hN σ7 H7 n7
   refine ⟨m', hm, i + 1, σ7, H7, I7.unpinned, T.keep _ _ _ st5 fun b hb o e => (I7.pin (b, o) (List.mem_append_right _ (List.mem_append_right _ (lG hb e)))).1, fun b hb => ?_, w7⟩
   obtain ⟨o, e, d⟩ := T.obj _ _ st5 b hb
   exact (I7.pin (b, o) (List.mem_append_right _ (List.mem_append_right _ (lG hb e)))).2.1
  cases f with
  | next => obtain ⟨σ7, H7, I7, n7⟩ := q7; exact again I7 n7
  | cont => obtain ⟨σ7, H7, I7, n7⟩ := q7; exact again I7 n7
  | brk => obtain ⟨σ7, H7, I7, q7⟩ := q7; exact ⟨σ7, H7, I7.unpinned, q7⟩
  | ret v => obtain ⟨x7, σ7, H7, I7, r7, q7⟩ := q7; exact ⟨x7, σ7, H7, I7.unpinned, r7, q7⟩
end
theorem kZ {K : PySem.W.Frag} {a : Addr} {xs : List V} {g : TG} {tb : TS} {D : Ends} {σ : St} {H : Hp} (Pv : Nat → St → Hp → Prop) (h0 : Pv 0 σ H) (hl : ∀ i σ H, i ≤ xs.length → Pv i σ H → SqL K H a xs)
  (hs : ∀ i x σ H, xs[i]? = some x → Pv i σ H → g x σ H fun σ2 H2 => tb { D with nx := Pv (i + 1), ct := Pv (i + 1), bk := D.nx } σ2 H2) (hd : ∀ σ H, Pv xs.length σ H → D.nx σ H) :
  ∃ W : Nat → Nat → St → Hp → Prop, (∃ m, W 0 m σ H) ∧ ∀ i m σ H, W i m σ H →
   ((Itl K a).stop i H ∧ D.nx σ H) ∨ ((Itl K a).go i H ∧ ∃ N : St → Hp → Prop, (∀ σ' H', N σ' H' → ∃ m', m' < m ∧ W (i + 1) m' σ' H') ∧ ∀ x H', (Itl K a).yld i H x H' → g x σ H' fun σ2 H2 => tb { D with nx := N, ct := N, bk := D.nx } σ2 H2) := by
 refine ⟨fun i m σ H => m = xs.length - i ∧ i ≤ xs.length ∧ Pv i σ H, ⟨xs.length, by simp, Nat.zero_le _, h0⟩, ?_⟩
 rintro i m σ H ⟨rfl, hi, p⟩
 have q := hl i σ H hi p
 by_cases hlt : i < xs.length
 ·refine .inr ⟨⟨xs, xs[i], q, by simp [hlt]⟩, Pv (i + 1), fun σ' H' p' => ⟨xs.length - (i + 1), by omega, rfl, hlt, p'⟩, fun x H' y => ?_⟩
  obtain ⟨e, y⟩ := y
  subst e
  exact hs i x σ _ (y xs q) p
 ·have e : i = xs.length := by omega
  subst e
  exact .inl ⟨⟨xs, q, Nat.le_refl _⟩, hd σ H p⟩
theorem kY {lo : Int} {n : Nat} {g : TG} {tb : TS} {D : Ends} {σ : St} {H : Hp} (Pv : Nat → St → Hp → Prop) (h0 : Pv 0 σ H)
  (hs : ∀ i σ H, i < n → Pv i σ H → g (.int (lo + i)) σ H fun σ2 H2 => tb { D with nx := Pv (i + 1), ct := Pv (i + 1), bk := D.nx } σ2 H2) (hd : ∀ σ H, Pv n σ H → D.nx σ H) :
  ∃ W : Nat → Nat → St → Hp → Prop, (∃ m, W 0 m σ H) ∧ ∀ i m σ H, W i m σ H →
   ((Itr lo n).stop i H ∧ D.nx σ H) ∨ ((Itr lo n).go i H ∧ ∃ N : St → Hp → Prop, (∀ σ' H', N σ' H' → ∃ m', m' < m ∧ W (i + 1) m' σ' H') ∧ ∀ x H', (Itr lo n).yld i H x H' → g x σ H' fun σ2 H2 => tb { D with nx := N, ct := N, bk := D.nx } σ2 H2) := by
 refine ⟨fun i m σ H => m = n - i ∧ i ≤ n ∧ Pv i σ H, ⟨n, by simp, Nat.zero_le _, h0⟩, ?_⟩
 rintro i m σ H ⟨rfl, hi, p⟩
 by_cases hlt : i < n
 ·refine .inr ⟨hlt, Pv (i + 1), fun σ' H' p' => ⟨n - (i + 1), by omega, rfl, hlt, p'⟩, fun x H' y => ?_⟩
  obtain ⟨e, y⟩ := y
  subst e y
  exact hs i σ _ hlt p
 ·have e : i = n := by omega
  subst e
  exact .inl ⟨Nat.le_refl _, hd σ H p⟩
theorem rS {c : TT} {tb : TS} {D : Ends} {σ : St} {H : Hp} (Pv : St → Hp → Prop) (μ : St → Hp → Nat) (h0 : Pv σ H)
  (hs : ∀ σ H, Pv σ H → c σ H fun b H1 => if b = true then tb { D with nx := fun σ' H' => Pv σ' H' ∧ μ σ' H' < μ σ H, ct := fun σ' H' => Pv σ' H' ∧ μ σ' H' < μ σ H, bk := D.nx } σ H1 else D.nx σ H1)
  (mono : ∀ σ H Q Q', (∀ b H1, Q b H1 → Q' b H1) → c σ H Q → c σ H Q') : aFN c tb D σ H := by
 refine ⟨fun m σ H => m = μ σ H ∧ Pv σ H, ⟨_, rfl, h0⟩, ?_⟩
 rintro m σ H ⟨rfl, p⟩
 refine mono σ H _ _ (fun b H1 q => ?_) (hs σ H p)
 cases b with
 | true => exact ⟨_, fun σ' H' ⟨p', l⟩ => ⟨_, l, rfl, p'⟩, q⟩
 | false => exact q
end L2
namespace L2
open PySem PySem.Spec PyProof.Rows
abbrev R2 := V → V → Hp → VK → Prop
def OpR (X : Cx) (f : Value → Value → Sem Value) (r : R2) : Prop :=
 ∀ (pins : List (Addr × Obj)) (s : Shared) (σ : St) (H : Hp) (x y : V) (v u : Value) (Q : VK), Inv X pins σ H s → bK x v → bK y u → r x y H Q →
  wpAny (model X.prog X.w) X.A (f v u) (EP X pins σ Q) X.xe s
def UnR (X : Cx) (f : Value → Sem Value) (r : V → Hp → VK → Prop) : Prop :=
 ∀ (pins : List (Addr × Obj)) (s : Shared) (σ : St) (H : Hp) (x : V) (v : Value) (Q : VK), Inv X pins σ H s → bK x v → r x H Q →
  wpAny (model X.prog X.w) X.A (f v) (EP X pins σ Q) X.xe s
def gO (X : Cx) (f : Value) (r : List V → Hp → VK → Prop) : Prop :=
 ∀ (pins : List (Addr × Obj)) (s : Shared) (σ : St) (H : Hp) (xs : List V) (us : List Value) (Q : VK), Inv X pins σ H s → bL xs us → r xs H Q →
  wpAny (model X.prog X.w) X.A (call f us) (EP X pins σ Q) X.xe s
def tOp (r : R2) (ta tb : TE) : TE := fun σ H Q => ta σ H fun x H1 => tb σ H1 fun y H2 => r x y H2 Q
def tUn (r : V → Hp → VK → Prop) (ta : TE) : TE := fun σ H Q => ta σ H fun x H1 => r x H1 Q
def rI (C : Int → Int → Prop) (g : Int → Int → V) : R2 := fun x y H Q => ∃ i j, x = .int i ∧ y = .int j ∧ C i j ∧ Q (g i j) H
def rI0 (g : Int → Int → V) : R2 := fun x y H Q => ∃ i j, x = .int i ∧ y = .int j ∧ Q (g i j) H
def rU (g : Int → V) : V → Hp → VK → Prop := fun x H Q => ∃ i, x = .int i ∧ Q (g i) H
section
variable {X : Cx} {a b c : Expr} {ta tb tc : TE} {pos : Pos}
theorem aLO (ha : PE X a ta) (hb : PE X b tb) {pins : List (Addr × Obj)} {s : Shared} {σ : St} {H : Hp} {R : V → V → Hp → Prop} (I : Inv X pins σ H s)
  (h : ta σ H fun x H1 => tb σ H1 fun y H2 => R x y H2) {Q : Value → Shared → Prop} {f : Value → Value → Sem Value}
  (hf : ∀ v u s2 x y H2, Inv X pins σ H2 s2 → bK x v → bK y u → R x y H2 → wpAny (model X.prog X.w) X.A (f v u) Q X.xe s2) :
  wpAny (model X.prog X.w) X.A (eval a X.env) (fun v s₁ => wpAny (model X.prog X.w) X.A (eval b X.env) (fun u s₂ => wpAny (model X.prog X.w) X.A (f v u) Q X.xe s₂) X.xe s₁) X.xe s := by
 refine thn (ha pins s σ H _ I h) fun v s1 ⟨x, H1, I1, r1, q1⟩ => ?_
 refine thn (hb pins s1 σ H1 _ I1 q1) fun u s2 ⟨y, H2, I2, r2, q2⟩ => ?_
 exact hf v u s2 x y H2 I2 r1 r2 q2
theorem aK {op : Operator} {r : R2} (ho : OpR X (binaryOp op) r) (ha : PE X a ta) (hb : PE X b tb) : PE X (.BinOp a op b pos) (tOp r ta tb) := by
 intro pins s σ H Q I h
 exact wpAny_BinOp (aLO ha hb I h fun v u s2 x y H2 I2 rx ry q => ho pins s2 σ H2 x y v u Q I2 rx ry q)
theorem aGR {op : UnaryOp} {r : V → Hp → VK → Prop} (ho : UnR X (unaryOp op) r) (ha : PE X a ta) : PE X (.UnaryOp op a pos) (tUn r ta) := by
 intro pins s σ H Q I h
 exact UnaryOp_ (thn (ha pins s σ H _ I h) fun v s1 ⟨x, H1, I1, r1, q1⟩ => ho pins s1 σ H1 x v Q I1 r1 q1)
theorem opI {f : Value → Value → Sem Value} {C : Int → Int → Prop} {g : Int → Int → Int}
  (rule : ∀ (i j : Int) (t u : Tok) (s : Shared) (Q : Value → Shared → Prop) (E : Value → Shared → Prop), C i j → Q (.int (g i j) s.toks) { s with toks := s.toks + 1 } → wpAny (model X.prog X.w) X.A (f (.int i t) (.int j u)) Q E s) :
  OpR X f (rI C fun i j => .int (g i j)) := by
 intro pins s σ H x y v u Q I rx ry h
 obtain ⟨i, j, rfl, rfl, hc, q⟩ := h
 obtain ⟨t, rfl⟩ := rx
 obtain ⟨t', rfl⟩ := ry
 exact rule i j t t' s _ _ hc ⟨.int (g i j), H, I.tok _, ⟨_, rfl⟩, q⟩
theorem aMR {f : Value → Value → Sem Value} {g : Int → Int → Int}
  (rule : ∀ (i j : Int) (t u : Tok) (s : Shared) (Q : Value → Shared → Prop) (E : Value → Shared → Prop), Q (.int (g i j) s.toks) { s with toks := s.toks + 1 } → wpAny (model X.prog X.w) X.A (f (.int i t) (.int j u)) Q E s) :
  OpR X f (rI0 fun i j => .int (g i j)) := by
 intro pins s σ H x y v u Q I rx ry h
 obtain ⟨i, j, rfl, rfl, q⟩ := h
 obtain ⟨t, rfl⟩ := rx
 obtain ⟨t', rfl⟩ := ry
 exact rule i j t t' s _ _ ⟨.int (g i j), H, I.tok _, ⟨_, rfl⟩, q⟩
theorem aJB {f : Value → Value → Sem Value} {g : Int → Int → Bool}
  (rule : ∀ (i j : Int) (t u : Tok) (s : Shared) (Q : Value → Shared → Prop) (E : Value → Shared → Prop), Q (.bool (g i j)) s → wpAny (model X.prog X.w) X.A (f (.int i t) (.int j u)) Q E s) :
  OpR X f (rI0 fun i j => .bl (g i j)) := by
 intro pins s σ H x y v u Q I rx ry h
 obtain ⟨i, j, rfl, rfl, q⟩ := h
 obtain ⟨t, rfl⟩ := rx
 obtain ⟨t', rfl⟩ := ry
 exact rule i j t t' s _ _ ⟨.bl (g i j), H, I, rfl, q⟩
def aOO (i j : Int) : Prop := 0 ≤ j ∧ j ≤ 1000000 ∧ i.natAbs < 2 ^ 64
def aLU (i j : Int) : Prop := (-(2 ^ 64) < i ∧ i < 2 ^ 64) ∨ (-(2 ^ 64) < j ∧ j < 2 ^ 64)
theorem aLU.ok {i j : Int} (h : aLU i j) : IntMulOk i j := by
 rcases h with ⟨h1, h2⟩ | ⟨h1, h2⟩
 ·exact .of_left (intBits_le_64 h1 h2)
 ·exact .of_right (intBits_le_64 h1 h2)
theorem cP : OpR X (binaryOp .Add) (rI0 fun i j => .int (i + j)) := aMR fun _ _ _ _ _ _ _ q => add_int q
theorem gF : OpR X (binaryOp .Sub) (rI0 fun i j => .int (i - j)) := aMR fun _ _ _ _ _ _ _ q => sub_int q
theorem gG : OpR X (binaryOp .Mult) (rI aLU fun i j => .int (i * j)) := opI fun _ _ _ _ _ _ _ hc q => mul_int q hc.ok
theorem cM : OpR X (binaryOp .Mod) (rI (fun _ j => 0 < j) fun i j => .int (i % j)) := opI fun i j _ _ _ _ _ hc q => by
 have h1 : (0 : Int) < j := hc
 exact mod_int' (by omega) (by rw [Int.fmod_eq_emod_of_nonneg i (by omega)]; exact q)
theorem kD : OpR X (binaryOp .Pow) (rI aOO fun i j => .int (i ^ j.toNat)) := opI fun _ _ _ _ _ _ _ hc q => pow_int_small hc.1 hc.2.1 hc.2.2 q
theorem unI {f : Value → Sem Value} {g : Int → Int}
  (rule : ∀ (i : Int) (t : Tok) (s : Shared) (Q : Value → Shared → Prop) (E : Value → Shared → Prop), Q (.int (g i) s.toks) { s with toks := s.toks + 1 } → wpAny (model X.prog X.w) X.A (f (.int i t)) Q E s) :
  UnR X f (rU fun i => .int (g i)) := by
 intro pins s σ H x v Q I rx h
 obtain ⟨i, rfl, q⟩ := h
 obtain ⟨t, rfl⟩ := rx
 exact rule i t s _ _ ⟨.int (g i), H, I.tok _, ⟨_, rfl⟩, q⟩
theorem aAP : UnR X (unaryOp .USub) (rU fun i => .int (-i)) := unI fun _ _ _ _ _ q => neg_int q
end
def aMF : V → V → Bool
 | .non, .non => true | .non, .int _ => true | .int _, .non => true | .non, .bl _ => true | .bl _, .non => true | .non, .str _ => true | .str _, .non => true
 | .int _, .int _ => true | .bl _, .bl _ => true | .str _, .str _ => true | .byt _, .byt _ => true
 | .int _, .str _ => true | .str _, .int _ => true | .bl _, .str _ => true | .str _, .bl _ => true
 | _, _ => false
def rEq : R2 := fun x y H Q => aMF x y = true ∧ Q (.bl (decide (x = y))) H
def rNe : R2 := fun x y H Q => aMF x y = true ∧ Q (.bl (!decide (x = y))) H
theorem jY {i j : Int} : decide (V.int i = V.int j) = (i == j) := by
 rw [Bool.eq_iff_iff]
 simp
theorem aHZ {i j : Bool} : decide (V.bl i = V.bl j) = (i == j) := by
 rw [Bool.eq_iff_iff]
 simp
theorem pF {i j : Str} : decide (V.str i = V.str j) = (i == j) := by
 rw [Bool.eq_iff_iff]
 simp
theorem aDS {i j : Array UInt8} : decide (V.byt i = V.byt j) = (i.toList == j.toList) := by
 rw [Bool.eq_iff_iff]
 cases i
 cases j
 simp
section
variable {X : Cx} {a b c : Expr} {ta tb tc : TE} {pos : Pos}
theorem bW {pins : List (Addr × Obj)} {σ : St} {H : Hp} {s : Shared} {Q : VK} {k k' : Bool} (I : Inv X pins σ H s) (q : Q (.bl k) H) (e : k = k') : EP X pins σ Q (.bool k') s := by
 subst e
 exact ⟨.bl k, H, I, rfl, q⟩
theorem jK : OpR X (compareOp .Eq) rEq := by
 intro pins s σ H x y v u Q I rx ry h
 obtain ⟨hs, q⟩ := h
 cases x with
 | non =>
  cases rx
  cases y with
  | non => cases ry; exact PySem.EqNone.eq_none_none (bW I q (by simp))
  | bl j => cases ry; exact PySem.EqNone.eq_none_bool (bW I q (by simp))
  | int j => obtain ⟨t', rfl⟩ := ry; exact PySem.EqNone.eq_none_int (bW I q (by simp))
  | str j => obtain ⟨t', rfl⟩ := ry; exact PySem.EqNone.eq_none_str (bW I q (by simp))
  | _ => exact absurd (show false = true from hs) Bool.false_ne_true
 | bl i =>
  cases rx
  cases y with
  | non => cases ry; exact PySem.EqNone.eq_bool_none (bW I q (by simp))
  | bl j => cases ry; exact eq_bool (bW I q aHZ)
  | str j => obtain ⟨t', rfl⟩ := ry; exact PySem.EqMixed.eq_bool_str (bW I q (by simp))
  | _ => exact absurd (show false = true from hs) Bool.false_ne_true
 | int i =>
  obtain ⟨t, rfl⟩ := rx
  cases y with
  | non => cases ry; exact PySem.EqNone.eq_int_none (bW I q (by simp))
  | int j => obtain ⟨t', rfl⟩ := ry; exact eq_int (bW I q jY)
  | str j => obtain ⟨t', rfl⟩ := ry; exact PySem.EqMixed.eq_int_str (bW I q (by simp))
  | _ => exact absurd (show false = true from hs) Bool.false_ne_true
 | str i =>
  obtain ⟨t, rfl⟩ := rx
  cases y with
  | non => cases ry; exact PySem.EqNone.eq_str_none (bW I q (by simp))
  | bl j => cases ry; exact PySem.EqMixed.eq_str_bool (bW I q (by simp))
  | int j => obtain ⟨t', rfl⟩ := ry; exact PySem.EqMixed.eq_str_int (bW I q (by simp))
  | str j => obtain ⟨t', rfl⟩ := ry; exact eq_str (bW I q pF)
  | _ => exact absurd (show false = true from hs) Bool.false_ne_true
 | byt i =>
  obtain ⟨t, rfl⟩ := rx
  cases y with
  | byt j => obtain ⟨t', rfl⟩ := ry; exact PySem.W.eq_bytes (bW I q aDS)
  | _ => exact absurd (show false = true from hs) Bool.false_ne_true
 | _ => cases y <;> exact absurd (show false = true from hs) Bool.false_ne_true
theorem vL : OpR X (compareOp .NotEq) rNe := by
 intro pins s σ H x y v u Q I rx ry h
 obtain ⟨hs, q⟩ := h
 cases x with
 | non =>
  cases rx
  cases y with
  | non => cases ry; exact PySem.EqNone.ne_none_none (bW I q (by simp))
  | bl j => cases ry; exact PySem.EqNone.ne_none_bool (bW I q (by simp))
  | int j => obtain ⟨t', rfl⟩ := ry; exact PySem.EqNone.ne_none_int (bW I q (by simp))
  | str j => obtain ⟨t', rfl⟩ := ry; exact PySem.EqNone.ne_none_str (bW I q (by simp))
  | _ => exact absurd (show false = true from hs) Bool.false_ne_true
 | bl i =>
  cases rx
  cases y with
  | non => cases ry; exact PySem.EqNone.ne_bool_none (bW I q (by simp))
  | bl j => cases ry; exact ne_bool (bW I q (congrArg not aHZ))
  | str j => obtain ⟨t', rfl⟩ := ry; exact PySem.EqMixed.ne_bool_str (bW I q (by simp))
  | _ => exact absurd (show false = true from hs) Bool.false_ne_true
 | int i =>
  obtain ⟨t, rfl⟩ := rx
  cases y with
  | non => cases ry; exact PySem.EqNone.ne_int_none (bW I q (by simp))
  | int j => obtain ⟨t', rfl⟩ := ry; exact ne_int (bW I q (congrArg not jY))
  | str j => obtain ⟨t', rfl⟩ := ry; exact PySem.EqMixed.ne_int_str (bW I q (by simp))
  | _ => exact absurd (show false = true from hs) Bool.false_ne_true
 | str i =>
  obtain ⟨t, rfl⟩ := rx
  cases y with
  | non => cases ry; exact PySem.EqNone.ne_str_none (bW I q (by simp))
  | bl j => cases ry; exact PySem.EqMixed.ne_str_bool (bW I q (by simp))
  | int j => obtain ⟨t', rfl⟩ := ry; exact PySem.EqMixed.ne_str_int (bW I q (by simp))
  | str j => obtain ⟨t', rfl⟩ := ry; exact ne_str (bW I q (congrArg not pF))
  | _ => exact absurd (show false = true from hs) Bool.false_ne_true
 | byt i =>
  obtain ⟨t, rfl⟩ := rx
  cases y with
  | byt j => obtain ⟨t', rfl⟩ := ry; exact PySem.W.ne_bytes (bW I q (congrArg not aDS))
  | _ => exact absurd (show false = true from hs) Bool.false_ne_true
 | _ => cases y <;> exact absurd (show false = true from hs) Bool.false_ne_true
theorem oZ : OpR X (compareOp .Lt) (rI0 fun i j => .bl (decide (i < j))) := aJB fun _ _ _ _ _ _ _ q => lt_int q
theorem qM : OpR X (compareOp .LtE) (rI0 fun i j => .bl (decide (i ≤ j))) := aJB fun _ _ _ _ _ _ _ q => le_int q
theorem aGY : OpR X (compareOp .Gt) (rI0 fun i j => .bl (decide (j < i))) := aJB fun _ _ _ _ _ _ _ q => gt_int q
theorem aMQ : OpR X (compareOp .GtE) (rI0 fun i j => .bl (decide (j ≤ i))) := aJB fun _ _ _ _ _ _ _ q => ge_int q
theorem aEJ : OpR X (compareOp .In) (fun x y H Q => ∃ i j, x = .str i ∧ y = .str j ∧ Q (.bl (!(Builtin.Str.occurrences j i 0 j.length 1).isEmpty)) H) := by
 intro pins s σ H x y v u Q I rx ry h
 obtain ⟨i, j, rfl, rfl, q⟩ := h
 obtain ⟨t, rfl⟩ := rx
 obtain ⟨t', rfl⟩ := ry
 exact in_str (bW I q rfl)
theorem aGX : OpR X (compareOp .Is) (fun x y H Q => y = .non ∧ Q (.bl (decide (x = .non))) H) := by
 intro pins s σ H x y v u Q I rx ry h
 obtain ⟨rfl, q⟩ := h
 cases ry
 refine is_none_gen (bW I q ?_)
 cases x <;> first
  | (cases rx; rfl)
  | (obtain ⟨t, rfl⟩ := rx; rfl)
theorem aDF : OpR X (compareOp .IsNot) (fun x y H Q => y = .non ∧ Q (.bl (!decide (x = .non))) H) := by
 intro pins s σ H x y v u Q I rx ry h
 obtain ⟨rfl, q⟩ := h
 cases ry
 refine isnot_none_gen (bW I q ?_)
 cases x <;> first
  | (cases rx; rfl)
  | (obtain ⟨t, rfl⟩ := rx; rfl)
theorem bO (b : Expr) {op : CmpOp} (h : op ≠ .In := by decide) (h2 : op ≠ .NotIn := by decide) : behindInMarks op b = false := by
 have e1 : (op == CmpOp.In) = false := by cases op <;> first | rfl | exact absurd rfl h
 have e2 : (op == CmpOp.NotIn) = false := by cases op <;> first | rfl | exact absurd rfl h2
 cases b <;> simp [behindInMarks, e1, e2]
theorem dQ {op : CmpOp} {r : R2} (ho : OpR X (compareOp op) r) (ha : PE X a ta) (hb : PE X b tb) (hm : behindInMarks op b = false) : PE X (.Compare a [op] [b] pos) (tOp r ta tb) := by
 intro pins s σ H Q I h
 exact wpAny_Compare1 (aLO ha hb I h fun v u s2 x y H2 I2 rx ry q => ho pins s2 σ H2 x y v u Q I2 rx ry q) hm
def aCG (t : TE) : TT := fun σ H Q => t σ H fun x H' => ∃ k, x = .bl k ∧ Q k H'
theorem bI {op : CmpOp} {r : R2} (ho : OpR X (compareOp op) r) (ha : PE X a ta) (hb : PE X b tb) (hm : behindInMarks op b = false) : PT X (.Compare a [op] [b] pos) (aCG (tOp r ta tb)) := by
 intro pins s σ H Q I h
 refine wpAny_isTrue_Compare1 (thn (ha pins s σ H _ I h) fun v s1 ⟨x, H1, I1, r1, q1⟩ => thn (hb pins s1 σ H1 _ I1 q1) fun u s2 ⟨y, H2, I2, r2, q2⟩ =>
  thn (ho pins s2 σ H2 x y v u _ I2 r1 r2 q2) fun c s3 ⟨z, H3, I3, r3, k, e, q3⟩ => ?_) hm
 subst e
 cases r3
 exact wpAny_truthy_bool ⟨H3, I3, q3⟩
def aFQ (r r' : R2) (ta tb tc : TE) : TE := fun σ H Q => ta σ H fun x H1 => tb σ H1 fun y H2 => r x y H2 fun z H3 => ∃ k, z = .bl k ∧
 (if k = true then tc σ H3 fun w' H4 => r' y w' H4 Q else Q (.bl false) H3)
theorem sT {op op' : CmpOp} {r r' : R2} (ho : OpR X (compareOp op) r) (ho' : OpR X (compareOp op') r') (ha : PE X a ta) (hb : PE X b tb) (hc : PE X c tc)
  (hm : lastMarks [op, op'] [b, c] = false := by with_unfolding_all rfl) : PE X (.Compare a [op, op'] [b, c] pos) (aFQ r r' ta tb tc) := by
 intro pins s σ H Q I h
 refine Compare_chain (thn (ha pins s σ H _ I h) fun v s1 ⟨x, H1, I1, r1, q1⟩ => chain_link (thn (hb pins s1 σ H1 _ I1 q1) fun u s2 ⟨y, H2, I2, r2, q2⟩ =>
  thn (ho pins s2 σ H2 x y v u _ I2 r1 r2 q2) fun d s3 ⟨z, H3, I3, r3, k, e, q3⟩ => ?_)) hm
 subst e
 cases r3
 refine wpAny_truthy_bool ?_
 cases k with
 | false => exact ite_ff ⟨.bl false, H3, I3, rfl, q3⟩
 | true => exact ite_tt (chain_last (thn (hc pins s3 σ H3 _ I3 q3) fun w' s4 ⟨z', H4, I4, r4, q4⟩ => ho' pins s4 σ H4 y z' u w' Q I4 r2 r4 q4))
theorem aGO {op op' : CmpOp} {r r' : R2} (ho : OpR X (compareOp op) r) (ho' : OpR X (compareOp op') r') (ha : PE X a ta) (hb : PE X b tb) (hc : PE X c tc)
  (hm : lastMarks [op, op'] [b, c] = false := by with_unfolding_all rfl) : PT X (.Compare a [op, op'] [b, c] pos) (aCG (aFQ r r' ta tb tc)) := by
 intro pins s σ H Q I h
 refine isTrue_chain (thn (ha pins s σ H _ I h) fun v s1 ⟨x, H1, I1, r1, q1⟩ => test_link (thn (hb pins s1 σ H1 _ I1 q1) fun u s2 ⟨y, H2, I2, r2, q2⟩ =>
  thn (ho pins s2 σ H2 x y v u _ I2 r1 r2 q2) fun d s3 ⟨z, H3, I3, r3, k, e, q3⟩ => ?_)) hm
 subst e
 cases r3
 refine wpAny_truthy_bool ?_
 cases k with
 | false =>
  obtain ⟨k', e', q'⟩ := q3
  cases e'
  exact ite_ff ⟨H3, I3, q'⟩
 | true =>
  refine ite_tt (test_last (thn (hc pins s3 σ H3 _ I3 q3) fun w' s4 ⟨z', H4, I4, r4, q4⟩ => thn (ho' pins s4 σ H4 y z' u w' _ I4 r2 r4 q4) fun d' s5 ⟨z2, H5, I5, r5, k2, e2, q5⟩ => ?_))
  subst e2
  cases r5
  exact wpAny_truthy_bool ⟨H5, I5, q5⟩
theorem tK : (sizeLine : Nat) < 2 ^ 63 := by rw [sizeLine_eq]; decide
theorem oH : OpR X (binaryOp .Add) (fun x y H Q => ∃ i j, x = .str i ∧ y = .str j ∧ i.length + j.length ≤ sizeLine ∧ Q (.str (i ++ j)) H) := by
 intro pins s σ H x y v u Q I rx ry h
 obtain ⟨i, j, rfl, rfl, hz, q⟩ := h
 obtain ⟨t, rfl⟩ := rx
 obtain ⟨t', rfl⟩ := ry
 exact add_str (fun t' tk => ⟨.str (i ++ j), H, I.tok _, ⟨_, rfl⟩, q⟩) hz
theorem aFI {x : V} {us : List Value} (r : bL [x] us) : ∃ u, us = [u] ∧ bK x u := by
 cases r with
 | cons r1 r2 => cases r2; exact ⟨_, rfl, r1⟩
theorem aLV {x y : V} {us : List Value} (r : bL [x, y] us) : ∃ u w', us = [u, w'] ∧ bK x u ∧ bK y w' := by
 cases r with
 | cons r1 r2 =>
  cases r2 with
  | cons r3 r4 => cases r4; exact ⟨_, _, rfl, r1, r3⟩
theorem aFD (hc : X.calm = true) : gO X (.builtin "max") (fun xs H Q => ∃ i j, xs = [.int i, .int j] ∧ Q (.int (if j > i then j else i)) H) := by
 intro pins s σ H xs us Q I r h
 obtain ⟨i, j, rfl, q⟩ := h
 obtain ⟨u, w', rfl, ⟨t, rfl⟩, ⟨t', rfl⟩⟩ := aLV r
 refine max_two_ints (I.ok.hd hc) fun h' tk k => ⟨_, H, I.kept k, ?_, q⟩
 by_cases hj : j > i
 ·rw [if_pos hj, if_pos hj]; exact ⟨_, rfl⟩
 ·rw [if_neg hj, if_neg hj]; exact ⟨_, rfl⟩
end
end L2
namespace L2
open PySem PySem.Spec PyProof.Rows
structure ObjM (h : Heap) (x dx C : Addr) (mA : Str → Option Value) : Prop where
 obj : h.get? x = some (PySem.W.instObj C dx)
 ns : h.Ns1 dx mA
 ne : dx ≠ x
theorem aEO {h : Heap} {dx : Addr} {mA : Str → Option Value} (n : h.Ns1 dx mA) : ∃ od, h.get? dx = some od ∧ ∀ name, PySem.W.lookIn name od = some (mA name) := by
 obtain ⟨o, es, ep, ho, hd, hk, _, hm⟩ := n
 refine ⟨o, ho, fun name => ?_⟩
 have e := hm name
 unfold nsFind findBy at e
 rw [← Array.find?_toList] at e
 unfold PySem.W.lookIn
 rw [hd]
 dsimp only
 split
 ·rename_i y q
  rw [q] at e
  exact congrArg some e
 ·rename_i q
  rw [q] at e
  have a : es.toList.any (·.refKey) = false := by
   rw [List.any_eq_false]
   intro y hy
   obtain ⟨z, t, hkey⟩ := hk y (Array.mem_toList_iff.mp hy)
   simp [DictEntry.refKey, hkey]
  have a' : ¬ es.toList.any (·.refKey) = true := by rw [a]; exact Bool.false_ne_true
  rw [if_neg a']
  exact congrArg some e
theorem ObjM.look {h : Heap} {x dx C : Addr} {mA : Str → Option Value} (I : ObjM h x dx C mA) : ∃ od, PySem.W.InstAt h x (PySem.W.instObj C dx) C (some od) ∧ ∀ name, PySem.W.lookIn name od = some (mA name) :=
 let ⟨od, ho, hl⟩ := aEO I.ns
 ⟨od, ⟨I.obj, rfl, rfl, ho⟩, hl⟩
section
variable {prog : Program} {w : World} {A : Around} {E : Value → Shared → Prop} {s : Shared} {K : PySem.W.Frag} {x dx C f : Addr} {mA : Str → Option Value} {name : Str} {v : Value}
theorem aJL {expr : Bool} {Q : Value → Shared → Prop} (X : K.In s.heap) (I : ObjM s.heap x dx C mA) (hg : PySem.W.plainGet K C name = true) (hh : PySem.W.hasDictIn K C = true)
  (ha : PySem.W.findIn K (.ref C) name = some none) (hv : mA name = some v) (hv' : PySem.W.handedIn v = true) (h : Q v { s with toks := s.toks + 1 }) :
  wpAny (model prog w) A (getAttr (.ref x) name expr) Q E s := by
 obtain ⟨od, J, hl⟩ := I.look
 exact PySem.W.get_value X J (PySem.W.plainGet_of hg).1 (PySem.W.findObj_own hh ha rfl (by rw [hl, hv])) hv' h
theorem aHN {pl : Sem Bool} {Q : Value × List Value → Shared → Prop} (X : K.In s.heap) (I : ObjM s.heap x dx C mA) (hg : PySem.W.plainGet K C name = true)
  (hf : PySem.W.findIn K (.ref C) name = some (some (.ref f))) (ht : PySem.W.isFn K (.ref f) = true) (hv : mA name = none) (h : Q (.ref f, [.ref x]) s) :
  wpAny (model prog w) A (getMethod (.ref x) name pl) Q E s := by
 obtain ⟨od, J, hl⟩ := I.look
 exact PySem.W.method_fn X J (PySem.W.plainGet_of hg).1 (PySem.W.plainGet_of hg).2 hf (beq_iff_eq.mp ht) (by show (PySem.W.lookIn name od).map (·.isSome) = some false; rw [hl, hv]; rfl) h
theorem aIP {ns : List Str} {Q : Unit → Shared → Prop} (X : K.In s.heap) (I : ObjM s.heap x dx C mA)
  (hs : PySem.W.findIn K (.ref C) "__setattr__" = some (some (.builtin "object.__setattr__"))) (hp : PySem.W.plainOver K C = true) (ht : PySem.W.takerIn K C name = some none) (hh : PySem.W.hasDictIn K C = true)
  (hw : PySem.Within mA ns) (hsz : ns.length ≤ sizeLine)
  (h : ∀ h', ObjM h' x dx C (fun y => if y = name then some v else mA y) → Heap.SameBut dx s.heap h' → Q () { s with heap := h', toks := s.toks + 2 }) :
  wpAny (model prog w) A (setAttr (.ref x) name v) Q E s := by
 obtain ⟨od, J, hl⟩ := I.look
 refine PySem.W.set_plain X J hs (PySem.W.osa_open (s := { s with toks := s.toks + 1 }) (r := none) X J hp ht fun b => ?_)
 obtain ⟨cd, hc, hd'⟩ := PySem.W.any_some hh
 have hx : s.heap.get? x = some ⟨.ref C, some dx, .plain, #[]⟩ := I.obj
 refine wpAny_bind (wpAny_pure (wpAny_bind (wpAny_bind (wpAny_loadPart hx (wpAny_bind (PySem.W.Looks.here (s := { s with toks := s.toks + 1 }) (PySem.W.looks_clsIn X hc) ?_))))))
 rw [hd']
 refine wpAny_pure (a := some dx) (wpAny_bind (wpAny_pure (wpAny_bind ?_)))
 refine wpAny_nsSet1 (s := { s with toks := s.toks + 1 }) I.ns fun h' hn2 hs2 => ?_
 obtain ⟨oD, esD, epD, hoD, hdD, hcD⟩ := hn2.count (PySem.Within.cons name v hw)
 refine wpAny_bind (wpAny_lookBehind hoD (by rw [hdD]; exact pastItsLine_dict (Nat.le_trans hcD (by rw [List.length_cons]; omega))) ?_)
 exact wpAny_pure (h _ ⟨(hs2.2 _ (Ne.symm I.ne)).trans I.obj, hn2, I.ne⟩ hs2)
theorem aHA {R : Result → Shared → Prop} {vs : List Value} {kw : List (Str × Value)} (X : K.In s.heap) (hm : PySem.W.makesIn K C = true)
  (hi : PySem.W.findIn K (.ref C) "__init__" = some (some (.ref f))) (hf : PySem.W.typeIn K (.ref f) = some (.type "function"))
  (h : codeAny (model prog w) (A.under (.builtin "type.__call__" ⟨.ref C :: vs, kw⟩)) (.call (.ref f) ⟨.ref (s.heap.objs.size + 1) :: vs, kw⟩) (PySem.W.InitBack (s.heap.objs.size + 1) R)
   { s with heap := (s.heap.push PySem.W.emptyDict).push (PySem.W.instObj C s.heap.objs.size) }) :
  codeAny (model prog w) A (.call (.ref C) ⟨vs, kw⟩) R s := by
 obtain ⟨hh, g, d, t, os⟩ := s
 exact PySem.W.make_core (PySem.W.makes_of X hm) (PySem.W.looks_findIn X hi) (fun self => PySem.W.bind_fn X self hf) (.inl rfl) h
end
def iU (f : Str) (v : V) : List (Str × V) → List (Str × V)
 | [] => [(f, v)]
 | (g, x) :: r => if g = f then (g, v) :: r else (g, x) :: iU f v r
theorem eZ (f g : Str) (v : V) : ∀ fs : List (Str × V), (iU f v fs).lookup g = if g = f then some v else fs.lookup g
 | [] => by
  show List.lookup g [(f, v)] = _
  by_cases h : g = f
  ·have hb : (g == f) = true := beq_iff_eq.mpr h
   simp only [List.lookup, hb, if_pos h]
  ·have hb : (g == f) = false := beq_eq_false_iff_ne.mpr h
   simp only [List.lookup, hb, if_neg h]
 | (k, x) :: r => by
  have ih := eZ f g v r
  rw [show iU f v ((k, x) :: r) = (if k = f then (k, v) :: r else (k, x) :: iU f v r) from rfl]
  by_cases hk : k = f
  ·rw [if_pos hk]
   by_cases h : g = k
   ·have hb : (g == k) = true := beq_iff_eq.mpr h
    simp only [List.lookup, hb, if_pos (h.trans hk)]
   ·have hb : (g == k) = false := beq_eq_false_iff_ne.mpr h
    simp only [List.lookup, hb, if_neg (fun e : g = f => h (e.trans hk.symm))]
  ·rw [if_neg hk]
   by_cases h : g = k
   ·have hb : (g == k) = true := beq_iff_eq.mpr h
    simp only [List.lookup, hb, if_neg (fun e : g = f => hk (h.symm.trans e))]
   ·have hb : (g == k) = false := beq_eq_false_iff_ne.mpr h
    simp only [List.lookup, hb]
    exact ih
theorem pY (f : Str) (v : V) : ∀ fs : List (Str × V), f ∈ (iU f v fs).map (·.1) ∧ ∀ g, g ∈ fs.map (·.1) → g ∈ (iU f v fs).map (·.1)
 | [] => ⟨by simp [iU], fun g h => by simp at h⟩
 | (k, x) :: r => by
  obtain ⟨i1, i2⟩ := pY f v r
  rw [show iU f v ((k, x) :: r) = (if k = f then (k, v) :: r else (k, x) :: iU f v r) from rfl]
  by_cases hk : k = f
  ·rw [if_pos hk]
   subst hk
   exact ⟨by simp, fun g h => by simpa using h⟩
  ·rw [if_neg hk]
   refine ⟨?_, fun g h => ?_⟩
   ·rw [List.map_cons]
    exact List.mem_cons_of_mem _ i1
   ·rw [List.map_cons] at h ⊢
    rcases List.mem_cons.mp h with e | e
    ·exact List.mem_cons.mpr (.inl e)
    ·exact List.mem_cons_of_mem _ (i2 g e)
theorem qR (f : Str) (v : V) : ∀ fs : List (Str × V), (iU f v fs).length ≤ fs.length + 1
 | [] => by simp [iU]
 | (k, x) :: r => by
  have ih := qR f v r
  rw [show iU f v ((k, x) :: r) = (if k = f then (k, v) :: r else (k, x) :: iU f v r) from rfl]
  by_cases hk : k = f
  ·rw [if_pos hk, List.length_cons, List.length_cons]; omega
  ·rw [if_neg hk, List.length_cons, List.length_cons]; omega
theorem nX.some_of {v : V} {o : Option Value} (r : nX (some v) o) : ∃ u, o = some u ∧ bK v u := by
 cases o with
 | none => exact (show False from r).elim
 | some u => exact ⟨u, rfl, r⟩
theorem nX.none_of {o : Option Value} (r : nX none o) : o = none := by
 cases o with
 | none => rfl
 | some u => exact (show False from r).elim
theorem aET {v : V} {u : Value} (r : bK v u) : PySem.W.handedIn u = true := by
 cases v with
 | non => cases (show u = Value.none from r); rfl
 | bl b => cases (show u = Value.bool b from r); rfl
 | int i => obtain ⟨t, e⟩ := (show ∃ t, u = Value.int i t from r); cases e; rfl
 | str x => obtain ⟨t, e⟩ := (show ∃ t, u = Value.str x t from r); cases e; rfl
 | byt b => obtain ⟨t, e⟩ := (show ∃ t, u = Value.bytes b t from r); cases e; rfl
 | flt b => obtain ⟨t, e⟩ := (show ∃ t, u = Value.float b t from r); cases e; rfl
 | ref a => cases (show u = Value.ref a from r); rfl
 | ty n => cases (show u = Value.type n from r); rfl
section
variable {P : Program} {w : World} {H H' : Hp} {h h' : Heap} {a C dx : Addr} {fs fs' : List (Str × V)}
theorem rR (hok : HOk P w H h) (e : H a = some (.ins C dx fs)) : ∃ mA, ObjM h a dx C mA ∧ (∀ f, nX (fs.lookup f) (mA f)) ∧ PySem.Within mA (fs.map (·.1)) ∧ fs.length ≤ 1000 ∧ H dx = some (.own a) := by
 obtain ⟨d, z, ne, ob, mA, n, r, q⟩ := (show cJ P w H h a (.ins C dx fs) from hok a _ e)
 exact ⟨mA, ⟨ob, n, ne⟩, r, q, z, d⟩
end
structure Cls (K : PySem.W.Frag) (C : Addr) : Prop where
 pg : PySem.W.plainGet K C Str.empty = true
 hd : PySem.W.hasDictIn K C = true
 po : PySem.W.plainOver K C = true
 sa : PySem.W.findIn K (.ref C) "__setattr__" = some (some (.builtin "object.__setattr__"))
theorem Cls.get {K : PySem.W.Frag} {C : Addr} (c : Cls K C) (f : Str) : PySem.W.plainGet K C f = true := c.pg
def nG (K : PySem.W.Frag) (C : Addr) (f : Str) : Prop := PySem.W.findIn K (.ref C) f = some none
theorem nG.taker {K : PySem.W.Frag} {C : Addr} {f : Str} (n : nG K C f) : PySem.W.takerIn K C f = some none := by
 unfold PySem.W.takerIn
 rw [show PySem.W.findIn K (.ref C) f = some none from n]
 rfl
structure Con (K : PySem.W.Frag) (C : Addr) (f : Str) (v : V) (u : Value) : Prop where
 at_ : PySem.W.findIn K (.ref C) f = some (some u)
 rel : bK v u
 get : PySem.W.specialIn K u "__get__" = some none
 cp : PySem.W.copiedNames.contains f = false
structure Meth (K : PySem.W.Frag) (C : Addr) (m : Str) (f : Addr) : Prop where
 at_ : PySem.W.findIn K (.ref C) m = some (some (.ref f))
 fn : PySem.W.isFn K (.ref f) = true
 kp : PySem.W.keepIn K (.ref f) = true
section
variable {X : Cx} {pins : List (Addr × Obj)} {σ : St} {H : Hp} {s : Shared} {a C dx : Addr} {fs : List (Str × V)} {f : Str} {v : V} {A : Around} {E : Value → Shared → Prop}
theorem aBQ {b : Bool} {Q : Value → Shared → Prop} (I : Inv X pins σ H s) (e : H a = some (.ins C dx fs)) (c : Cls X.K C) (n : nG X.K C f) (l : fs.lookup f = some v)
  (h : ∀ u s', Inv X pins σ H s' → bK v u → Q u s') : wpAny (model X.prog X.w) A (getAttr (.ref a) f b) Q E s := by
 obtain ⟨mA, O, r, _, _, _⟩ := rR I.hok e
 obtain ⟨u, hu, ru⟩ := nX.some_of (v := v) (o := mA f) (by rw [← l]; exact r f)
 exact aJL I.kIn O (c.get f) c.hd n hu (aET ru) (h u _ (I.tok _) ru)
theorem tU {m : Str} {g : Addr} {pl : Sem Bool} {Q : Value × List Value → Shared → Prop} (I : Inv X pins σ H s) (e : H a = some (.ins C dx fs)) (c : Cls X.K C) (k : Meth X.K C m g) (l : fs.lookup m = none)
  (h : Q (.ref g, [.ref a]) s) : wpAny (model X.prog X.w) A (getMethod (.ref a) m pl) Q E s := by
 obtain ⟨mA, O, r, _, _, _⟩ := rR I.hok e
 have hn : mA m = none := nX.none_of (by rw [← l]; exact r m)
 exact aHN I.kIn O (c.get m) k.at_ k.fn hn h
theorem aAX {y : V} {u : Value} {Q : Unit → Shared → Prop} (I : Inv X pins σ H s) (e : H a = some (.ins C dx fs)) (c : Cls X.K C) (n : nG X.K C f) (hl : fs.length < 1000) (ry : bK y u)
  (h : ∀ s', Inv X pins σ (upd H a (.ins C dx (iU f y fs))) s' → Q () s') : wpAny (model X.prog X.w) A (setAttr (.ref a) f u) Q E s := by
 obtain ⟨mA, O, r, wi, _, ho⟩ := rR I.hok e
 have hz : (fs.map (·.1)).length ≤ sizeLine := by rw [List.length_map, sizeLine_eq]; omega
 refine aIP I.kIn O c.sa c.po n.taker c.hd wi hz fun h' O' sb => h _ ?_
 have hd : ∃ o, h'.get? dx = some o := let ⟨o, _, _, e', _⟩ := O'.ns; ⟨o, e'⟩
 refine I.write (x := a) (e := dx) (by rw [e]; exact True.intro) (.inr ho) (fun b q hb z => (sb.2 b hb).trans z) hd ?_
 refine ⟨by rw [aQ O.ne]; exact ho, ?_, O.ne, O'.obj, _, O'.ns, fun g => ?_, fun g hg => ?_⟩
 ·have := qR f y fs; omega
 ·show nX ((iU f y fs).lookup g) (if g = f then some u else mA g)
  rw [eZ]
  by_cases q : g = f
  ·rw [if_pos q, if_pos q]; exact ry
  ·rw [if_neg q, if_neg q]; exact r g
 ·by_cases q : g = f
  ·rw [q]; exact (pY f y fs).1
  ·refine (pY f y fs).2 g (wi g fun z => hg ?_)
   show (if g = f then some u else mA g) = none
   rw [if_neg q]; exact z
theorem Inv.made (I : Inv X pins σ H s) : Inv X pins σ (upd (upd H s.heap.objs.size (.own (s.heap.objs.size + 1))) (s.heap.objs.size + 1) (.ins C s.heap.objs.size []))
  { s with heap := (s.heap.push PySem.W.emptyDict).push (PySem.W.instObj C s.heap.objs.size) } := by
 have e1 : (s.heap.push PySem.W.emptyDict).get? s.heap.objs.size = some PySem.W.emptyDict := Heap.get?_push_size s.heap rfl
 have e2 : ((s.heap.push PySem.W.emptyDict).push (PySem.W.instObj C s.heap.objs.size)).get? (s.heap.objs.size + 1) = some (PySem.W.instObj C s.heap.objs.size) := by
  have := Heap.get?_push_size (s.heap.push PySem.W.emptyDict) (o := PySem.W.instObj C s.heap.objs.size) rfl
  rwa [Heap.size_push] at this
 have e3 : (s.heap.push PySem.W.emptyDict).Ns s.heap.objs.size (fun _ => none) := ⟨PySem.W.emptyDict, #[], _, e1, rfl, (fun e he => absurd he (by simp)), fun _ => rfl⟩
 have I1 := I.laid (a := s.heap.objs.size) (o := .own (s.heap.objs.size + 1)) (h' := s.heap.push PySem.W.emptyDict) (t' := s.toks) (fun b u q => Heap.get?_push_of_some _ q) (Nat.le_refl _) ⟨_, e1⟩
 refine I1.laid (a := s.heap.objs.size + 1) (o := .ins C s.heap.objs.size []) (t' := s.toks) (fun b u q => Heap.get?_push_of_some _ q) (Nat.le_of_eq (Heap.size_push _ _)) ?_
 have ne : s.heap.objs.size ≠ s.heap.objs.size + 1 := Nat.ne_of_lt (Nat.lt_succ_self _)
 refine ⟨by rw [aQ ne, aE], Nat.zero_le _, ne, e2, fun _ => none, (Heap.Ns1.of_empty e3).at fun o q => Heap.get?_push_of_some _ q, fun _ => True.intro, fun y hy => absurd rfl hy⟩
theorem aJT {prog : Program} {w : World} {env : Env} {e : Expr} {f : Str} {pos : Pos} {s : Shared} {Q : Value → Shared → Prop} (hb : attributeBase e f env (eval e env) = eval e env)
  (h : wpAny (model prog w) A (eval e env) (fun o s₁ => wpAny (model prog w) A (getAttr o f true) Q E s₁) E s) : wpAny (model prog w) A (eval (.Attribute e f pos) env) Q E s :=
 Attribute_any_ h (by rw [arm_eval_Attribute, hb])
end
def aNW (K : PySem.W.Frag) (ta : TE) (f : Str) : TE := fun σ H Q => ta σ H fun x H1 => ∃ a C dx fs v, x = .ref a ∧ H1 a = some (.ins C dx fs) ∧ Cls K C ∧ nG K C f ∧ fs.lookup f = some v ∧ Q v H1
def aOA (K : PySem.W.Frag) (ta tv : TE) (f : Str) : TS := fun D σ H => tv σ H fun y H1 => ta σ H1 fun x H2 => ∃ a C dx fs, x = .ref a ∧ H2 a = some (.ins C dx fs) ∧ Cls K C ∧ nG K C f ∧ fs.length < 1000 ∧
 D.nx σ (upd H2 a (.ins C dx (iU f y fs)))
def aNN (X : Cx) (op : Operator) (rd : V → V → Hp → VK → Prop) : Prop :=
 ∀ (pins : List (Addr × Obj)) (s : Shared) (σ : St) (H : Hp) (x y : V) (u v : Value) (Q : VK), Inv X pins σ H s → bK x u → bK y v → rd x y H Q → wpAny (model X.prog X.w) X.A (inplaceOp op u v) (EP X pins σ Q) X.xe s
section
variable {X : Cx} {o e value : Expr} {f : Str} {pos pos' tpos : Pos} {ta tv : TE}
theorem sS (he : PE X e ta) (hb : attributeBase e f X.env (eval e X.env) = eval e X.env) : PE X (.Attribute e f pos) (aNW X.K ta f) := by
 intro pins s σ H Q I h
 refine aJT hb (thn (he pins s σ H _ I h) fun u s1 ⟨x, H1, I1, rx, a, C, dx, fs, v, ex, ea, c, n, l, q⟩ => ?_)
 subst ex
 obtain rfl : u = Value.ref a := rx
 exact aBQ I1 ea c n l fun u' s2 I2 ru => ⟨v, H1, I2, ru, q⟩
theorem aGP (ha : PE X o ta) (hv : PE X value tv) (hs : swapsWith value (some (.Attribute o f pos')) pos.line X.env = pure false) : PS X (.Assign [.Attribute o f pos'] value pos) (aOA X.K ta tv f) := by
 intro pins s σ H D I h
 refine plainObj_wpAny_Assign_Attribute (thn (hv pins s σ H _ I h) fun u s1 ⟨y, H1, I1, ry, q⟩ => thn (ha pins s1 σ H1 _ I1 q) fun ov s2 ⟨x, H2, I2, rx, a, C, dx, fs, ex, ea, c, n, l, q2⟩ => ?_) hs
 subst ex
 obtain rfl : ov = Value.ref a := rx
 exact aAX I2 ea c n l ry fun s3 I3 => ⟨σ, _, I3, q2⟩
def aOE : V → V → Hp → VK → Prop := fun x y H Q => ∃ i j, x = .int i ∧ y = .int j ∧ Q (.int (i + j)) H
theorem aLK : aNN X .Add aOE := by
 rintro pins s σ H x y u v Q I rx ry ⟨i, j, rfl, rfl, q⟩
 obtain ⟨t, rfl⟩ := (show ∃ t, u = Value.int i t from rx)
 obtain ⟨t', rfl⟩ := (show ∃ t', v = Value.int j t' from ry)
 exact PyProof.Rows.iadd_int ⟨.int (i + j), H, I.tok _, ⟨_, rfl⟩, q⟩
end
section
variable {X : Cx} {pins : List (Addr × Obj)} {σ : St} {H : Hp} {s : Shared} {A : Around} {E : Value → Shared → Prop} {Q : Value → Shared → Prop} {c : Value} {b : Bool}
inductive TyOf (K : PySem.W.Frag) (H : Hp) : V → Value → Prop where
 | non : TyOf K H .non (.type "NoneType")
 | bl (x : Bool) : TyOf K H (.bl x) (.type "bool")
 | int (i : Int) : TyOf K H (.int i) (.type "int")
 | str (x : Str) : TyOf K H (.str x) (.type "str")
 | flt (x : UInt64) : TyOf K H (.flt x) (.type "float")
 | lst {a : Addr} {xs : List V} (e : H a = some (.lst xs)) : TyOf K H (.ref a) (.type "list")
 | frz {a : Addr} {o : Obj} {xs : List V} (e : H a = some (.frz o (.lst xs))) : TyOf K H (.ref a) (.type "list")
 | tup {a : Addr} {xs : List V} (e : H a = some (.tup xs)) : TyOf K H (.ref a) (.type "tuple")
 | dK {a : Addr} {kvs : List (Key × V)} (e : H a = some (.dK kvs)) : TyOf K H (.ref a) (.type "dict")
 | dT {a : Addr} {kvs : List (List Key × V)} (e : H a = some (.dT kvs)) : TyOf K H (.ref a) (.type "dict")
 | ins {a C dx : Addr} {fs : List (Str × V)} (e : H a = some (.ins C dx fs)) (cl : Cls K C) (ha : PySem.W.findIn K (.ref C) "__class__" = some (some (.builtin "object.__class__")))
   (hn : PySem.W.specialIn K (.builtin "object.__class__") "__get__" = some (some (.builtin "getset_descriptor.__get__"))) (htk : PySem.W.takesIn K (.builtin "object.__class__") = some true)
   (hm : PySem.W.mroIn K C (.type "object") = some true) : TyOf K H (.ref a) (.ref C)
theorem aEP {x : V} {u t : Value} (I : Inv X pins σ H s) (rx : bK x u) (ty : TyOf X.K H x t) (e : PySem.W.kitOne X.K t c = some b) (h : ∀ tk, Q (.bool b) { s with toks := tk }) :
  wpAny (model X.prog X.w) A (call (.builtin "isinstance") [u, c]) Q E s := by
 cases ty with
 | non => cases (show u = Value.none from rx); exact PySem.W.kia_one PySem.W.kitx_none I.kIn True.intro e (fun z => nomatch z) h
 | bl y => cases (show u = Value.bool y from rx); exact PySem.W.kia_one PySem.W.kitx_bool I.kIn True.intro e (fun z => nomatch z) h
 | int i => obtain ⟨t, q⟩ := (show ∃ t, u = Value.int i t from rx); cases q; exact PySem.W.kia_one PySem.W.kitx_int I.kIn True.intro e (fun z => nomatch z) h
 | str y => obtain ⟨t, q⟩ := (show ∃ t, u = Value.str y t from rx); cases q; exact PySem.W.kia_one PySem.W.kitx_str I.kIn True.intro e (fun z => nomatch z) h
 | flt y => obtain ⟨t, q⟩ := (show ∃ t, u = Value.float y t from rx); cases q; exact PySem.W.kia_one PySem.W.kitx_float I.kIn True.intro e (fun z => nomatch z) h
 | @lst a xs ea =>
  cases (show u = Value.ref a from rx)
  obtain ⟨_, _, n, _, h1⟩ := (show cJ X.prog X.w H s.heap a (.lst xs) from I.hok a _ ea)
  exact PySem.W.kia_one PySem.W.kitx_list I.kIn ⟨_, h1, rfl⟩ e (fun z => nomatch z) h
 | @frz a ob xs ea =>
  cases (show u = Value.ref a from rx)
  obtain ⟨_, _, _, n, _, h1⟩ := (show cJ X.prog X.w H s.heap a (.frz ob (.lst xs)) from I.hok a _ ea)
  exact PySem.W.kia_one PySem.W.kitx_list I.kIn ⟨_, h1, rfl⟩ e (fun z => nomatch z) h
 | @tup a xs ea =>
  cases (show u = Value.ref a from rx)
  obtain ⟨_, _, _, p⟩ := (show cJ X.prog X.w H s.heap a (.tup xs) from I.hok a _ ea)
  obtain ⟨o, h1, h2, _⟩ := p
  exact PySem.W.kia_one PySem.W.kitx_tuple I.kIn ⟨o, h1, h2⟩ e (fun z => nomatch z) h
 | @dK a kvs ea =>
  cases (show u = Value.ref a from rx)
  obtain ⟨_, _, vs, _, p⟩ := (show cJ X.prog X.w H s.heap a (.dK kvs) from I.hok a _ ea)
  obtain ⟨o, es, ep, h1, h2, _⟩ := p
  exact PySem.W.kia_one PySem.W.kitx_dict I.kIn ⟨o, h1, h2.1⟩ e (fun z => nomatch z) h
 | @dT a kvs ea =>
  cases (show u = Value.ref a from rx)
  obtain ⟨_, _, xs, _, o, es, ep, h1, h2, _⟩ := (show cJ X.prog X.w H s.heap a (.dT kvs) from I.hok a _ ea)
  exact PySem.W.kia_one PySem.W.kitx_dict I.kIn ⟨o, h1, h2.1⟩ e (fun z => nomatch z) h
 | @ins a C dx fs ea cl ha hn htk hm =>
  cases (show u = Value.ref a from rx)
  obtain ⟨mA, O, _⟩ := rR I.hok ea
  obtain ⟨od, J, _⟩ := O.look
  exact PySem.W.kia_one (PySem.W.kitx_own (cl.get _) cl.hd ha hn htk hm) I.kIn J e (fun z => nomatch z) h
end
end L2
namespace L2
open PySem PySem.Spec PyProof.Rows
structure Room (k : Nat) (A : Around) : Prop where
 hd : A.handled = none
 dp : A.depth + 3 * k + 5 < recursionLimit
 un : A.units + 16 * k + 200 < cLine
theorem Room.mono {j k : Nat} {A : Around} (r : Room k A) (h : j ≤ k) : Room j A := ⟨r.hd, by have := r.dp; omega, by have := r.un; omega⟩
theorem Room.deeper {k : Nat} {A : Around} (r : Room (k + 1) A) (env : Env) : Room k (A.deeper env) :=
 ⟨r.hd, by have := r.dp; show A.depth + 1 + 3 * k + 5 < _; omega, by have := r.un; show A.units + 3 + 16 * k + 200 < _; omega⟩
theorem aBJ {A : Around} {C : Addr} {us : List Value} {kw : List (Str × Value)} : (A.under (.builtin "type.__call__" ⟨.ref C :: us, kw⟩)).depth = A.depth + 1 := by
 first | rfl | simp [Around.under, Code.weight, Code.isCreation, Code.isGuard, Code.isCaller, Code.frames, Code.isFrame, guardIds]
theorem aBI {A : Around} {C : Addr} {us : List Value} {kw : List (Str × Value)} : (A.under (.builtin "type.__call__" ⟨.ref C :: us, kw⟩)).units = A.units + 1 := by
 first | rfl | simp [Around.under, Code.cUnits, Code.frames, Code.isFrame]
theorem Room.make {k : Nat} {A : Around} (r : Room (k + 1) A) (C : Addr) (us : List Value) (kw : List (Str × Value)) : Room k (A.under (.builtin "type.__call__" ⟨.ref C :: us, kw⟩)) :=
 ⟨r.hd, by have := r.dp; rw [aBJ]; omega, by have := r.un; rw [aBI]; omega⟩
theorem Room.depth {k : Nat} {A : Around} (r : Room k A) : A.depth < recursionLimit := by have := r.dp; omega
theorem Room.units {k : Nat} {A : Around} (r : Room k A) : A.units + 64 < cLine := by have := r.un; omega
def aKP : TA := fun _ H Q => Q [] H
def aMD (ta : TE) (tr : TA) : TA := fun σ H Q => ta σ H fun x H1 => tr σ H1 fun xs H2 => Q (x :: xs) H2
section
variable {X : Cx} {e : Expr} {es : List Expr} {te : TE} {t : TA} {pos : Pos}
theorem aB : PA X [] aKP := fun _ _ _ _ H Q I h => Calls.spliced_nil ⟨[], H, I, .nil, h⟩
theorem aA (ha : PE X e te) (hr : PA X es t) (hs : starEach (e :: es) X.env = (false, eval e X.env) :: starEach es X.env := by rfl) : PA X (e :: es) (aMD te t) := by
 intro pos pins s σ H Q I h
 rw [hs]
 show wpAny _ _ (spliced ((false, eval e X.env) :: backTo pos (starEach es X.env))) _ _ s
 refine Calls.spliced_cons (thn (ha pins s σ H _ I h) fun u s1 ⟨x, H1, I1, r1, q1⟩ => ?_)
 exact thn (hr pos pins s1 σ H1 _ I1 q1) fun us s2 ⟨xs, H2, I2, r2, q2⟩ => ⟨x :: xs, H2, I2, .cons r1 r2, q2⟩
def aNP (t : TA) : TE := fun σ H Q => t σ H fun xs H1 => xs.length ≤ sizeLine ∧ ∀ p, H1 p = none → Q (.ref p) (upd H1 p (.tup xs))
def aNU (t : TA) : TE := fun σ H Q => t σ H fun xs H1 => xs.length ≤ sizeLine ∧ ∀ p, H1 p = none → Q (.ref p) (upd H1 p (.lst xs))
theorem dY {x1} (h : PA X es t) : PE X (.Tuple es x1 pos) (aNP t) := by
 intro pins s σ H Q I hq
 refine wpAny_Tuple_spliced (thn (h pos pins s σ H _ I hq) fun us s1 ⟨xs, H1, I1, r, z, q⟩ => ⟨by rw [← r.length]; exact z, ?_⟩)
 have hf : H1 s1.heap.objs.size = none := I1.hok.fresh (Nat.le_refl _)
 refine ⟨.ref s1.heap.objs.size, upd H1 s1.heap.objs.size (.tup xs), I1.laid (t' := s1.toks) (fun b u e => Heap.get?_push_of_some _ e) (Nat.le_refl _) ?_, rfl, q _ hf⟩
 exact ⟨z, us, r, ⟨_, Heap.get?_push_size _ rfl, rfl, _, rfl, rfl⟩⟩
theorem cG (h : PA X es t) : PE X (.List es pos) (aNU t) := by
 intro pins s σ H Q I hq
 refine wpAny_List_spliced (thn (h pos pins s σ H _ I hq) fun us s1 ⟨xs, H1, I1, r, z, q⟩ => ⟨by rw [← r.length]; exact z, ?_⟩)
 have hf : H1 s1.heap.objs.size = none := I1.hok.fresh (Nat.le_refl _)
 refine ⟨.ref s1.heap.objs.size, upd H1 s1.heap.objs.size (.lst xs), I1.laid (t' := s1.toks) (fun b u e => Heap.get?_push_of_some _ e) (Nat.le_refl _) ?_, rfl, q _ hf⟩
 exact ⟨z, us, 0, r, Heap.get?_push_size _ rfl⟩
end
abbrev Sp := List V → Hp → VK → XK → Prop
abbrev CXT := List Env → Hp → Shared → XK → Value → Shared → Prop
structure Env0 (P : Program) (w : World) (K : PySem.W.Frag) (mg : Str → Option Value) (base : Heap) (A : Around) (outer : List Env) (s : Shared) (H : Hp) : Prop where
 frames : A.frames = some outer
 mod : Mod K mg base
 bs : ∀ b o, base.get? b = some o → s.heap.get? b = some o ∧ H b = none
 bsz : base.objs.size ≤ s.heap.objs.size
 funs : s.heap.FunFrames base outer
 frf : ∀ b ∈ frs outer, H b = none
 hok : HOk P w H s.heap
 bare : AllBare s.gens
def CE (outer : List Env) (P : Program) (w : World) (H : Hp) (s : Shared) (Q : VK) (u : Value) (s' : Shared) : Prop :=
 ∃ v H', s'.os = s.os ∧ AllBare s'.gens ∧ Un (frs outer) [] H H' s.heap s'.heap ∧ HOk P w H' s'.heap ∧ bK v u ∧ Q v H'
def CR (CX : CXT) (outer : List Env) (P : Program) (w : World) (H : Hp) (s : Shared) (Q : VK) (E : XK) (r : Result) (s' : Shared) : Prop :=
 match r with
 | .ok (.ret u) => CE outer P w H s Q u s'
 | .ok _ => False
 | .error e => CX outer H s E e s'
structure FnOk (P : Program) (w : World) (K : PySem.W.Frag) (mg : Str → Option Value) (base : Heap) (CX : CXT) (k : Nat) (f : Addr) (fd : FuncData) (ps : List Str) (sp : Sp) : Prop where
 len : ∀ vs H Q E, sp vs H Q E → vs.length = ps.length
 run : ∀ (A : Around) (outer : List Env) (s : Shared) (H : Hp) (args : Args) (us : List Value) (vs : List V) (Q : VK) (E : XK), Room k A → Env0 P w K mg base A outer s H → BindsTo s fd args (ps.zip us) → bL vs us → sp vs H Q E →
  codeAny (model P w) A (.call (.ref f) args) (CR CX outer P w H s Q E) s
theorem FnOk.imp {P : Program} {w : World} {K : PySem.W.Frag} {mg : Str → Option Value} {base : Heap} {CX : CXT} {k : Nat} {f : Addr} {fd : FuncData} {ps : List Str} {sp sp' : Sp} (F : FnOk P w K mg base CX k f fd ps sp)
  (h : ∀ vs H Q E, sp' vs H Q E → sp vs H Q E) : FnOk P w K mg base CX k f fd ps sp' :=
 ⟨fun vs H Q E q => F.len vs H Q E (h _ _ _ _ q), fun A outer s H args us vs Q E hr he hb hv hs => F.run A outer s H args us vs Q E hr he hb hv (h _ _ _ _ hs)⟩
theorem Env0.make {P : Program} {w : World} {K : PySem.W.Frag} {mg : Str → Option Value} {base : Heap} {A : Around} {outer : List Env} {s : Shared} {H : Hp} (e : Env0 P w K mg base A outer s H) (C : Addr) (us : List Value) (kw : List (Str × Value)) :
  Env0 P w K mg base (A.under (.builtin "type.__call__" ⟨.ref C :: us, kw⟩)) outer s H := ⟨by first | exact e.frames | (simpa [Around.under, Code.envs, Code.isFrame, pushEnvs] using e.frames), e.mod, e.bs, e.bsz, e.funs, e.frf, e.hok, e.bare⟩
section
variable {X : Cx} {pins : List (Addr × Obj)} {σ : St} {H : Hp} {s s' : Shared}
theorem Inv.env0 (I : Inv X pins σ H s) : Env0 X.prog X.w X.K X.mg X.base X.A X.stack s H :=
 ⟨I.ok.frames, I.ok.mod, I.bs, Nat.le_trans I.ok.bsz I.sz, I.stack, I.stkFree, I.hok, I.bare⟩
theorem Inv.after {Q : VK} {u : Value} (I : Inv X pins σ H s) (h : CE X.stack X.prog X.w H s Q u s') : EP X pins σ Q u s' := by
 obtain ⟨v, H', os, bare, un, hok, r, q⟩ := h
 obtain ⟨hh, g, d, t, os'⟩ := s'
 obtain rfl : os' = s.os := os
 exact ⟨v, H', I.call (h' := hh) (g' := g) (d' := d) (t' := t) (ch := []) un hok bare (fun b z => absurd z (by simp)), r, q⟩
end
def aCI (sp : Sp) (dvs : List V) (E : XK) (t : TA) : TE := fun σ H Q => t σ H fun vs H1 => sp (vs ++ dvs) H1 Q E
def aCH (C : Addr) (m : Str) (sp : Sp) (dvs : List V) (E : XK) (ta : TE) (t : TA) : TE := fun σ H Q => ta σ H fun x H1 => ∃ a dx fs, x = .ref a ∧ H1 a = some (.ins C dx fs) ∧ fs.lookup m = none ∧
 t σ H1 fun vs H2 => sp (x :: (vs ++ dvs)) H2 Q E
def aJY (C : Addr) (sp : Sp) (dvs : List V) (E : XK) (t : TA) : TE := fun σ H Q => t σ H fun vs H1 => ∀ x dx, H1 x = none → H1 dx = none → dx ≠ x →
 sp (.ref x :: (vs ++ dvs)) (upd (upd H1 dx (.own x)) x (.ins C dx [])) (fun v H2 => v = .non ∧ Q (.ref x) H2) E
def gP (K : PySem.W.Frag) (fd : FuncData) (ps : List Str) (ds : List Value) : Prop :=
 ∀ (s : Shared) (us : List Value), K.In s.heap → (us ++ ds).length = ps.length → BindsTo s fd ⟨us, []⟩ (ps.zip (us ++ ds))
theorem gP.all {K : PySem.W.Frag} {fd : FuncData} {ps : List Str} (h : ∀ us : List Value, us.length = ps.length → bindArgs fd ⟨us, []⟩ = pure (ps.zip us)) : gP K fd ps [] := fun s us _ hl => by
 rw [List.append_nil] at hl ⊢
 exact .of_eq (h us hl)
def lN (CX : CXT) (X : Cx) (E : XK) : Prop := ∀ (pins : List (Addr × Obj)) (σ : St) (H : Hp) (s : Shared) (e : Value) (s' : Shared), Inv X pins σ H s → CX X.stack H s E e s' → X.xe e s'
section
variable {X : Cx} {CX : CXT} {k : Nat} {f C : Addr} {fd : FuncData} {ps : List Str} {sp : Sp} {dvs : List V} {ds : List Value} {E : XK} {x m : Str} {p pos apos : Pos} {e o : Expr} {es : List Expr} {ta : TE} {t : TA}
theorem aAZ {pins : List (Addr × Obj)} {σ : St} {H : Hp} {s : Shared} {Q : VK} {us : List Value} {vs : List V} (F : FnOk X.prog X.w X.K X.mg X.base CX k f fd ps sp) (hr : Room k X.A) (hb : gP X.K fd ps ds) (hd : bL dvs ds) (hx : lN CX X E)
  (I : Inv X pins σ H s) (r : bL vs us) (h : sp (vs ++ dvs) H Q E) : wpAny (model X.prog X.w) X.A (call (.ref f) us) (EP X pins σ Q) X.xe s := by
 have r2 : bL (vs ++ dvs) (us ++ ds) := r.append hd
 have hl : (us ++ ds).length = ps.length := by rw [← r2.length]; exact F.len _ _ _ _ h
 refine wpAny_call (codeAny_mono (F.run X.A X.stack s H ⟨us, []⟩ (us ++ ds) (vs ++ dvs) Q E hr I.env0 (hb s us I.kIn hl) r2 h) fun r s' hq => ?_)
 cases r with
 | error e => exact hx pins σ H s e s' I hq
 | ok fl =>
  cases fl with
  | ret u => exact I.after hq
  | next => exact False.elim hq
  | brk => exact False.elim hq
  | cont => exact False.elim hq
theorem aDC (F : FnOk X.prog X.w X.K X.mg X.base CX k f fd ps sp) (hr : Room k X.A) (hg : Gl X x) (hm : X.mg x = some (.ref f)) (hk : PySem.W.keepIn X.K (.ref f) = true) (hb : gP X.K fd ps ds) (hd : bL dvs ds) (hx : lN CX X E)
  (ha : PA X (e :: es) t) (hdb : (x == ("__debug__" : Str)) = false := by decide) (he : starEach (e :: es) X.env = (false, eval e X.env) :: starEach es X.env := by rfl) (hpl : (backTo pos (starEach es X.env)).any (·.1) = false := by rfl) :
  PE X (.Call (.Name x p) (e :: es) [] pos) (aCI sp dvs E t) := by
 intro pins s σ H Q I h
 refine wpAny_Call_Name_kw (nN I hg hm ?_ hdb)
 refine PySem.W.callWith_K (h₀ := X.base) I.ok.mod.kin hk (thn (ha pos pins s σ H _ I h) fun us s1 ⟨vs, H1, I1, r, q⟩ => ⟨I1.kIn, ?_⟩) he hpl
 exact aAZ F hr hb hd hx I1 r q
theorem aIX {pl : Sem Bool} (he : PE X o ta) (c : Cls X.K C) (hm : Meth X.K C m f) (F : FnOk X.prog X.w X.K X.mg X.base CX k f fd ps sp) (hr : Room k X.A) (hb : gP X.K fd ps ds) (hd : bL dvs ds) (hx : lN CX X E) (ha : PA X (e :: es) t)
  (hst : starEach (e :: es) X.env = (false, eval e X.env) :: starEach es X.env := by rfl) (hpl : (backTo pos (starEach es X.env)).any (·.1) = false := by rfl)
  (ht : eval (.Call (.Attribute o m apos) (e :: es) [] pos) X.env = (do
   let ov ← eval o X.env
   standAt apos.atName
   let (f, first) ← holding [ov] (getMethod ov m pl)
   callWith pos f first (backTo pos (starEach (e :: es) X.env)) (backToKw pos (keywordEach [] X.env))) := by rfl) :
  PE X (.Call (.Attribute o m apos) (e :: es) [] pos) (aCH C m sp dvs E ta t) := by
 intro pins s σ H Q I h
 refine PySem.W.methodCall_KW (pl := pl) (thn (he pins s σ H _ I h) fun u s1 ⟨x, H1, I1, rx, a, dx, fs, ex, ea, l, q⟩ => ?_) ht
 subst ex
 obtain rfl : u = Value.ref a := rx
 refine tU I1 ea c hm l ?_
 refine PySem.W.callWith_K (first := [.ref a]) (h₀ := X.base) I.ok.mod.kin hm.kp (thn (ha pos pins s1 σ H1 _ I1 q) fun us s2 ⟨vs, H2, I2, r, q2⟩ => ⟨I2.kIn, ?_⟩) hst hpl
 exact aAZ (us := .ref a :: us) (vs := .ref a :: vs) F hr hb hd hx I2 (.cons rfl r) q2
theorem aGS {pl : Sem Bool} (he : PE X o ta) (c : Cls X.K C) (hm : Meth X.K C m f) (F : FnOk X.prog X.w X.K X.mg X.base CX k f fd ps sp) (hr : Room k X.A) (hb : gP X.K fd ps ds) (hd : bL dvs ds) (hx : lN CX X E)
  (ht : eval (.Call (.Attribute o m apos) [] [] pos) X.env = (do
   let ov ← eval o X.env
   standAt apos.atName
   let (f, first) ← holding [ov] (getMethod ov m pl)
   callWith pos f first (backTo pos (starEach [] X.env)) (backToKw pos (keywordEach [] X.env))) := by rfl) :
  PE X (.Call (.Attribute o m apos) [] [] pos) (aCH C m sp dvs E ta aKP) := by
 intro pins s σ H Q I h
 refine PySem.W.methodCall_KW (pl := pl) (thn (he pins s σ H _ I h) fun u s1 ⟨x, H1, I1, rx, a, dx, fs, ex, ea, l, q⟩ => ?_) ht
 subst ex
 obtain rfl : u = Value.ref a := rx
 refine tU I1 ea c hm l ?_
 exact PySem.W.callWith_K0 (first := [.ref a]) I1.kIn hm.kp (aAZ (us := [.ref a]) (vs := [.ref a]) F hr hb hd hx I1 (.cons rfl .nil) q)
structure Mk (K : PySem.W.Frag) (C f : Addr) : Prop where
 makes : PySem.W.makesIn K C = true
 init : PySem.W.findIn K (.ref C) "__init__" = some (some (.ref f))
 fn : PySem.W.isFn K (.ref f) = true
 kp : PySem.W.keepIn K (.ref C) = true
theorem aGH {pins : List (Addr × Obj)} {σ : St} {H : Hp} {s : Shared} {Q : VK} {us : List Value} {vs : List V} (M : Mk X.K C f) (F : FnOk X.prog X.w X.K X.mg X.base CX k f fd ps sp) (hr : Room (k + 1) X.A) (hb : gP X.K fd ps ds) (hd : bL dvs ds)
  (hx : lN CX X E) (I : Inv X pins σ H s) (r : bL vs us)
  (h : ∀ x dx, H x = none → H dx = none → dx ≠ x → sp (.ref x :: (vs ++ dvs)) (upd (upd H dx (.own x)) x (.ins C dx [])) (fun v H2 => v = .non ∧ Q (.ref x) H2) E) :
  wpAny (model X.prog X.w) X.A (call (.ref C) us) (EP X pins σ Q) X.xe s := by
 have hq := h (s.heap.objs.size + 1) s.heap.objs.size (I.hok.fresh (Nat.le_succ _)) (I.hok.fresh (Nat.le_refl _)) (Nat.ne_of_lt (Nat.lt_succ_self _))
 have I2 := Inv.made (C := C) I
 have r2 : bL (V.ref (s.heap.objs.size + 1) :: (vs ++ dvs)) (Value.ref (s.heap.objs.size + 1) :: (us ++ ds)) := .cons rfl (r.append hd)
 have hl : (Value.ref (s.heap.objs.size + 1) :: us ++ ds).length = ps.length := by
  have e := r2.length
  rw [F.len _ _ _ _ hq] at e
  exact e.symm
 refine wpAny_call (aHA (f := f) I.kIn M.makes M.init (beq_iff_eq.mp M.fn) (codeAny_mono (F.run _ X.stack _ _ ⟨Value.ref (s.heap.objs.size + 1) :: us, []⟩ (Value.ref (s.heap.objs.size + 1) :: (us ++ ds)) _ _ E (hr.make C us [])
  (I2.env0.make C us []) (hb _ (Value.ref (s.heap.objs.size + 1) :: us) I2.kIn hl) r2 hq) fun r s' hq' => ?_))
 cases r with
 | error e => exact hx pins σ _ _ e s' I2 hq'
 | ok fl =>
  cases fl with
  | ret u =>
   obtain ⟨v, H', I3, rv, ev, q3⟩ := I2.after hq'
   subst ev
   exact ⟨rv, ⟨V.ref (s.heap.objs.size + 1), H', I3, rfl, q3⟩⟩
  | next => exact False.elim hq'
  | brk => exact False.elim hq'
  | cont => exact False.elim hq'
theorem aIY (M : Mk X.K C f) (F : FnOk X.prog X.w X.K X.mg X.base CX k f fd ps sp) (hr : Room (k + 1) X.A) (hg : Gl X x) (hm : X.mg x = some (.ref C)) (hb : gP X.K fd ps ds) (hd : bL dvs ds) (hx : lN CX X E)
  (ha : PA X (e :: es) t) (hdb : (x == ("__debug__" : Str)) = false := by decide) (he : starEach (e :: es) X.env = (false, eval e X.env) :: starEach es X.env := by rfl) (hpl : (backTo pos (starEach es X.env)).any (·.1) = false := by rfl) :
  PE X (.Call (.Name x p) (e :: es) [] pos) (aJY C sp dvs E t) := by
 intro pins s σ H Q I h
 refine wpAny_Call_Name_kw (nN I hg hm ?_ hdb)
 refine PySem.W.callWith_K (h₀ := X.base) I.ok.mod.kin M.kp (thn (ha pos pins s σ H _ I h) fun us s1 ⟨vs, H1, I1, r, q⟩ => ⟨I1.kIn, ?_⟩) he hpl
 exact aGH M F hr hb hd hx I1 r q
end
section
variable {X : Cx} {CX : CXT} {k : Nat} {f C : Addr} {fd : FuncData} {ps ks : List Str} {sp : Sp} {E : XK} {x m : Str} {p pos apos kpos : Pos} {e o : Expr} {es : List Expr} {kws : List Keyword} {te ta : TE} {t tk : TA} {nm : Option Str}
structure KBinds (K : PySem.W.Frag) (fd : FuncData) (ps ks : List Str) (g : List Value → List Value → List Value) (gV : List V → List V → List V) : Prop where
 to : ∀ (s : Shared) (us ws : List Value), K.In s.heap → (g us ws).length = ps.length → BindsTo s fd ⟨us, ks.zip ws⟩ (ps.zip (g us ws))
 rel : ∀ {vs : List V} {us : List Value} {zs : List V} {ws : List Value}, bL vs us → bL zs ws → bL (gV vs zs) (g us ws)
variable {g : List Value → List Value → List Value} {gV : List V → List V → List V}
end
structure FnScope (N P : List Str) (sc : Scope) : Prop where
 kind : sc.kind = .function
 co : sc.isCoroutine = false
 gen : sc.isGenerator = false
 nd : N.Nodup
 pre : N.take P.length = P
 par : ∀ x ∈ P, sc.names.lookup x = some .local ∨ sc.names.lookup x = some .cell
 nofree : ∀ y ∈ sc.names, y.2 ≠ .free
theorem wI {kindOf : Str → Option NameKind} {x : Str} : ∀ {binds : List (Str × Value)} {m : Str → Option Value}, (∀ v, (x, v) ∉ binds) → bindL kindOf binds m x = m x
 | [], _, _ => rfl
 | (n, v) :: r, m, h => by
  unfold bindL
  rw [wI fun w hw => h w (List.mem_cons_of_mem _ hw)]
  split
  ·have : x ≠ n := by rintro rfl; exact h v List.mem_cons_self
   simp [this]
  ·rfl
theorem wK {kindOf : Str → Option NameKind} {x : Str} : ∀ {binds : List (Str × Value)} {m : Str → Option Value}, (∀ v, (x, v) ∉ binds) → bindC kindOf binds m x = m x
 | [], _, _ => rfl
 | (n, v) :: r, m, h => by
  unfold bindC
  rw [wK fun w hw => h w (List.mem_cons_of_mem _ hw)]
  split
  ·rfl
  ·have : x ≠ n := by rintro rfl; exact h v List.mem_cons_self
   simp [this]
theorem wJ {kindOf : Str → Option NameKind} {x : Str} {v : Value} : ∀ {P : List Str} {vs : List Value} {i : Nat} {m : Str → Option Value}, P.Nodup → P[i]? = some x → vs[i]? = some v → kindOf x = some .local →
  bindL kindOf (P.zip vs) m x = some v
 | [], _, _, _, _, h, _, _ => by simp at h
 | _ :: _, [], _, _, _, _, h, _ => by simp at h
 | p :: P, w :: vs, 0, m, nd, h1, h2, hk => by
  simp at h1 h2; subst h1; subst h2
  show bindL kindOf ((p, w) :: P.zip vs) m p = _
  unfold bindL
  rw [wI fun v hv => (List.nodup_cons.mp nd).1 (List.of_mem_zip hv).1, if_pos hk]
  simp
 | p :: P, w :: vs, i + 1, m, nd, h1, h2, hk => by
  show bindL kindOf ((p, w) :: P.zip vs) m x = _
  unfold bindL
  exact wJ (i := i) (List.nodup_cons.mp nd).2 (by simpa using h1) (by simpa using h2) hk
theorem wL {kindOf : Str → Option NameKind} {x : Str} {v : Value} : ∀ {P : List Str} {vs : List Value} {i : Nat} {m : Str → Option Value}, P.Nodup → P[i]? = some x → vs[i]? = some v → kindOf x ≠ some .local →
  bindC kindOf (P.zip vs) m x = some v
 | [], _, _, _, _, h, _, _ => by simp at h
 | _ :: _, [], _, _, _, _, h, _ => by simp at h
 | p :: P, w :: vs, 0, m, nd, h1, h2, hk => by
  simp at h1 h2; subst h1; subst h2
  show bindC kindOf ((p, w) :: P.zip vs) m p = _
  unfold bindC
  rw [wK fun v hv => (List.nodup_cons.mp nd).1 (List.of_mem_zip hv).1, if_neg hk]
  simp
 | p :: P, w :: vs, i + 1, m, nd, h1, h2, hk => by
  show bindC kindOf ((p, w) :: P.zip vs) m x = _
  unfold bindC
  exact wL (i := i) (List.nodup_cons.mp nd).2 (by simpa using h1) (by simpa using h2) hk
def start (N : List Str) (vs : List V) : St := vs.map some ++ List.replicate (N.length - vs.length) none
def lA (CX : CXT) (P : Program) (w : World) (K : PySem.W.Frag) (mg : Str → Option Value) (base : Heap) (N : List Str) (qual : Str) (scope : Scope) (f : Addr) (cd : Value) (A : Around) (outer : List Env) (s : Shared) (H : Hp) (E : XK) : Cx where
 prog := P
 w := w
 K := K
 mg := mg
 base := base
 A := A.deeper (envOfC qual scope s.heap.objs.size f cd)
 N := N
 s₀ := s
 H₀ := H
 env := envOfC qual scope s.heap.objs.size f cd
 outer := outer
 stack := envOfC qual scope s.heap.objs.size f cd :: outer
 ex := []
 calm := true
 fn := fun _ => true
 pn := []
 xe := fun e s' => wpAny (model P w) (A.deeper (envOfC qual scope s.heap.objs.size f cd)) (leaving (envOfC qual scope s.heap.objs.size f cd) e) (fun _ s'' => CX outer H s E e s'') (fun e' s'' => CX outer H s E e' s'') s'
theorem aAE {sc : Scope} {n : Nat} {x : Str} (h : sc.names.lookup x = some .cell) : ∃ c, (cellsFrom n sc.names []).lookup x = some c := by
 have q := PySem.W.cellsFrom_some sc.names n [] (.inl h)
 exact Option.isSome_iff_exists.mp q
theorem aEQ {CX : CXT} {P : Program} {w : World} {K : PySem.W.Frag} {mg : Str → Option Value} {base : Heap} {N ps : List Str} {qual : Str} {scope : Scope} {f : Addr} {cd : Value} {A : Around} {outer : List Env} {s s1 : Shared} {H : Hp} {E : XK} {us : List Value} {vs : List V}
  (S : FnScope N ps scope) (hd : A.handled = none) (e0 : Env0 P w K mg base A outer s H) (hl : vs.length = ps.length) (r : bL vs us)
  (x : InCallC s s.heap.objs.size (bindL (envOfC qual scope s.heap.objs.size f cd).kindOf (ps.zip us) fun _ => none) (cellsFrom (s.heap.objs.size + 1) scope.names []) (bindC (envOfC qual scope s.heap.objs.size f cd).kindOf (ps.zip us) fun _ => none) s1) :
  Inv (lA CX P w K mg base N qual scope f cd A outer s H E) [] (start N vs) H s1 := by
 have hpl : ps.length ≤ N.length := by have := congrArg List.length S.pre; rw [List.length_take] at this; omega
 obtain ⟨h1, tk, rfl, hk⟩ := x.done
 have noA : ∀ b : Addr, b ∉ (lA CX P w K mg base N qual scope f cd A outer s H E).ex := fun b z => absurd (show b ∈ ([] : List Addr) from z) (by simp)
 refine ⟨⟨e0.mod, S.kind, rfl, rfl, Nat.le_refl _, fun y z c h1 h2 => ?_, fun y hy => ?_, fun y c _ h => ?_, fun _ => hd, Around.frames_deeper e0.frames, .inr ⟨rfl, rfl⟩, fun b z => absurd z (noA b), e0.bs, e0.bsz, fun b _ _ => noA b, fun b z => absurd z (noA b), e0.funs, e0.frf⟩,
  rfl, e0.bare, Un.kept hk, ⟨_, x.toInCall.ns, fun i y v h1 h2 h3 => ?_⟩, fun y c h => ⟨_, x.cell y c h⟩, e0.hok.fresh (Nat.le_refl _), fun y c h => ?_, fun p hp => absurd (show p ∈ ([] : List (Addr × Obj)) from hp) (by simp), e0.hok.kept hk, ?_⟩
 ·exact name_of_addr x.apart (PySem.mem_of_lookup h1) (PySem.mem_of_lookup h2)
 ·have hy : scope.names.lookup y = some .cell ∨ scope.names.lookup y = some .free := hy
  rcases hy with hy | hy
  ·exact aAE hy
  ·exact absurd rfl (S.nofree _ (PySem.mem_of_lookup hy))
 ·exact Nat.le_of_lt (x.above y c (PySem.mem_of_lookup h))
 ·have hi : i < vs.length := by
   unfold start at h2
   by_cases hi : i < vs.length
   ·exact hi
   ·rw [List.getElem?_append_right (by simpa using hi)] at h2
    rw [List.getElem?_replicate] at h2
    split at h2 <;> cases h2
  have ha : vs[i]? = some v := by
   unfold start at h2
   rw [List.getElem?_append_left (by simpa using hi), List.getElem?_map] at h2
   cases e : vs[i]? with
   | none => rw [e] at h2; cases h2
   | some a => rw [e] at h2; cases h2; rfl
  obtain ⟨u, hu, rv⟩ := r.get ha
  have hp : ps[i]? = some y := by
   rw [← S.pre, List.getElem?_take_of_lt (by omega)]; exact h1
  have ndP : ps.Nodup := by rw [← S.pre]; exact S.nd.sublist (List.take_sublist _ _)
  refine ⟨u, rv, ?_⟩
  rcases S.par y (List.mem_of_getElem? hp) with k | k
  ·exact .inl ⟨k, wJ ndP hp hu k⟩
  ·obtain ⟨c, e⟩ := aAE (n := s.heap.objs.size + 1) k
   refine .inr ⟨.inl k, c, e, ?_⟩
   have q := x.cell y c e
   rw [wL ndP hp hu (by show scope.names.lookup y ≠ _; rw [k]; decide)] at q
   exact q
 ·exact e0.hok.fresh (Nat.le_of_lt (x.above y c (PySem.mem_of_lookup h)))
 ·unfold start
  show _ = N.length
  rw [List.length_append, List.length_map, List.length_replicate]
  omega
theorem aKI {CX : CXT} {P : Program} {w : World} {K : PySem.W.Frag} {mg : Str → Option Value} {base : Heap} {k : Nat} {f : Addr} {name qual : Str} {params : Arguments} {body : List Stmt} {scope : Scope} {dV kV doc pm cdv ct oc : Value} {an od : Option Addr}
  {osl : Array (Option Value)} {N ps : List Str} {sp : Sp} (lk : K.lookup f = some ⟨oc, od, .func (PySem.W.fnOf name qual params body scope dV kV doc pm an cdv ct), osl⟩) (hcd : PySem.W.codeIn K cdv qual = true) (S : FnScope N ps scope)
  (len : ∀ vs H Q E, sp vs H Q E → vs.length = ps.length)
  (hbody : ∀ (A : Around) (outer : List Env) (s : Shared) (H : Hp) (vs : List V) (Q : VK) (E : XK), Room k (A.deeper (envOfC qual scope s.heap.objs.size f cdv)) → sp vs H Q E →
   ∃ t, PSs (lA CX P w K mg base N qual scope f cdv A outer s H E) body t ∧ t { nx := fun _ H' => Q .non H', rt := Q } (start N vs) H) :
  FnOk P w K mg base CX (k + 1) f (PySem.W.fnOf name qual params body scope dV kV doc pm an cdv ct) ps sp := by
 refine ⟨len, fun A outer s H args us vs Q E hr e0 hb r hsp => ?_⟩
 have hl := len _ _ _ _ hsp
 have KX : K.In s.heap := e0.mod.kin.keeps fun b o e => (e0.bs b o e).1
 have lim : s.heap.NoLimit := e0.mod.nolimit.keeps fun b o e => (e0.bs b o e).1
 have hkind : ∀ y ∈ ps.zip us, scope.names.lookup y.1 = some .local ∨ (scope.names.lookup y.1 = some .cell ∧ ((cellsFrom (s.heap.objs.size + 1) scope.names []).lookup y.1).isSome = true) := fun ⟨n, v⟩ hy => by
  rcases S.par n (List.of_mem_zip hy).1 with q | q
  ·exact .inl q
  ·exact .inr ⟨q, PySem.W.cellsFrom_some _ _ _ (.inl q)⟩
 refine codeAny_call_function hr.depth (KX _ _ lk) rfl S.co S.gen rfl (PySem.W.codeRec_of KX hcd) (hb _ _ _ _ ?_)
 refine wpAny_newFunctionEnv_cells S.kind hkind fun env he s1 x => ?_
 subst he
 refine ⟨lim.keeps x.toInCall.keep, codeAny_func ?_⟩
 obtain ⟨t, ht, hq⟩ := hbody A outer s H vs Q E (hr.deeper _) hsp
 have I : Inv (lA CX P w K mg base N qual scope f cdv A outer s H E) [] (start N vs) H s1 := aEQ S hr.hd e0 hl r x
 refine wpAny_mono (ht [] s1 (start N vs) H _ I hq) (fun fl s' hs => ?_) fun e s' hs => hs
 have fin : ∀ {σ' : St} {H' : Hp} {v : V} {u : Value}, Inv (lA CX P w K mg base N qual scope f cdv A outer s H E) [] σ' H' s' → bK v u → Q v H' → CE outer P w H s Q u s' :=
  fun {σ' H' v u} J rv q => ⟨v, H', J.os, J.bare, J.base, J.hok, rv, q⟩
 cases fl with
 | ret u =>
  obtain ⟨v, σ', H', J, rv, q⟩ := hs
  exact fin J rv q
 | next =>
  obtain ⟨σ', H', J, q⟩ := hs
  exact fin (v := V.non) (u := Value.none) J rfl q
 | brk =>
  obtain ⟨_, _, _, q⟩ := hs
  exact False.elim q
 | cont =>
  obtain ⟨_, _, _, q⟩ := hs
  exact False.elim q
end L2
namespace L2
open PySem PySem.Spec PyProof.Rows
section
variable {X : Cx} {x : Str} {p pos : Pos} {e : Expr} {es : List Expr} {t : TA} {id T : String} {r : List V → Hp → VK → Prop}
def tCB (r : List V → Hp → VK → Prop) (t : TA) : TE := fun σ H Q => t σ H fun vs H1 => r vs H1 Q
theorem aT (hc : gO X (.builtin id) r) (hg : Gl X x) (hm : X.mg x = none) (hv : bootBuiltins x = some (.builtin id)) (ha : PA X (e :: es) t) (hn : x ≠ "__name__" := by decide) (hdb : (x == ("__debug__" : Str)) = false := by decide)
  (he : starEach (e :: es) X.env = (false, eval e X.env) :: starEach es X.env := by rfl) (hpl : (backTo pos (starEach es X.env)).any (·.1) = false := by rfl) : PE X (.Call (.Name x p) (e :: es) [] pos) (tCB r t) := by
 intro pins s σ H Q I h
 refine wpAny_Call_Name_kw (pX I hg hm hv ?_ hn hdb)
 exact PyProof.Rows.callWith_builtin1 (thn (ha pos pins s σ H _ I h) fun us s1 ⟨vs, H1, I1, r1, q1⟩ => hc pins s1 σ H1 vs us Q I1 r1 q1) he hpl
theorem cW (hc : gO X (.type T) r) (hg : Gl X x) (hm : X.mg x = none) (hv : bootBuiltins x = some (.type T)) (ha : PA X (e :: es) t) (hn : x ≠ "__name__" := by decide) (hdb : (x == ("__debug__" : Str)) = false := by decide)
  (he : starEach (e :: es) X.env = (false, eval e X.env) :: starEach es X.env := by rfl) (hpl : (backTo pos (starEach es X.env)).any (·.1) = false := by rfl) : PE X (.Call (.Name x p) (e :: es) [] pos) (tCB r t) := by
 intro pins s σ H Q I h
 refine wpAny_Call_Name_kw (pX I hg hm hv ?_ hn hdb)
 exact PyProof.Rows.callWith_type1 (thn (ha pos pins s σ H _ I h) fun us s1 ⟨vs, H1, I1, r1, q1⟩ => hc pins s1 σ H1 vs us Q I1 r1 q1) he hpl
end
end L2
namespace L2
open PySem PySem.Spec PyProof.Rows
section
variable {κ : Type} [DecidableEq κ]
def fS (kvs : List (κ × V)) (k : κ) : Option V := (kvs.find? fun kv => decide (kv.1 = k)).map (·.2)
def nU (kvs : List (κ × V)) (k : κ) (v : V) : List (κ × V) :=
 if (kvs.any fun kv => decide (kv.1 = k)) = true then kvs.map (fun kv => if kv.1 = k then (kv.1, v) else kv) else kvs ++ [(k, v)]
def dropK (kvs : List (κ × V)) (k : κ) : List (κ × V) := kvs.filter fun kv => decide (kv.1 ≠ k)
theorem lX {p : κ × V} {r : List (κ × V)} {k : κ} (e : p.1 = k) : fS (p :: r) k = some p.2 := by simp [fS, List.find?_cons, e]
theorem lY {p : κ × V} {r : List (κ × V)} {k : κ} (e : ¬ p.1 = k) : fS (p :: r) k = fS r k := by simp [fS, List.find?_cons, e]
theorem lZ (k : κ) : ∀ kvs : List (κ × V), (kvs.any fun kv => decide (kv.1 = k)) = (fS kvs k).isSome
 | [] => rfl
 | p :: r => by
  rw [List.any_cons]
  by_cases e : p.1 = k
  ·simp only [lX e, decide_eq_true e, Bool.true_or, Option.isSome_some]
  ·rw [lY e, decide_eq_false e, Bool.false_or]; exact lZ k r
theorem qQ (kvs : List (κ × V)) (k : κ) (v : V) : (nU kvs k v).length ≤ kvs.length + 1 := by
 unfold nU
 split
 ·rw [List.length_map]; omega
 ·rw [List.length_append, List.length_cons, List.length_nil]; omega
theorem aGN {kvs : List (κ × V)} {k : κ} (v : V) (h : fS kvs k = none) : nU kvs k v = kvs ++ [(k, v)] := by
 unfold nU
 rw [lZ, h]
 exact if_neg (by decide)
theorem nX.isSome_eq {o : Option V} {u : Option Value} (r : nX o u) : o.isSome = u.isSome := by
 cases o with
 | none => cases u with
  | none => rfl
  | some _ => exact (show False from r).elim
 | some _ => cases u with
  | none => exact (show False from r).elim
  | some _ => rfl
theorem KV.val {kvs : List (κ × V)} {vs : List (κ × Value)} (r : KV kvs vs) (k : κ) : nX (fS kvs k) (valueAt vs k) := by
 unfold KV at r
 induction r with
 | nil => exact True.intro
 | @cons p q ps qs h t ih =>
  obtain ⟨h1, h2⟩ := h
  by_cases e : p.1 = k
  ·have e' : q.1 = k := h1.symm.trans e
   have b : valueAt (q :: qs) k = some q.2 := by simp [valueAt, List.find?_cons, e']
   rw [lX e, b]; exact h2
  ·have e' : ¬ q.1 = k := fun z => e (h1.trans z)
   have b : valueAt (q :: qs) k = valueAt qs k := by simp [valueAt, List.find?_cons, e']
   rw [lY e, b]; exact ih
theorem KV.any {kvs : List (κ × V)} {vs : List (κ × Value)} (r : KV kvs vs) (k : κ) : (kvs.any fun kv => decide (kv.1 = k)) = vs.any fun kv => decide (kv.1 = k) := by
 unfold KV at r
 induction r with
 | nil => rfl
 | cons h t ih => rw [List.any_cons, List.any_cons, ih, h.1]
theorem KV.repl {kvs : List (κ × V)} {vs : List (κ × Value)} (r : KV kvs vs) (k : κ) {y : V} {u : Value} (ry : bK y u) :
  KV (kvs.map fun kv => if kv.1 = k then (kv.1, y) else kv) (vs.map fun kv => if kv.1 = k then (kv.1, u) else kv) := by
 unfold KV at r ⊢
 induction r with
 | nil => exact .nil
 | @cons p q ps qs h t ih =>
  rw [List.map_cons, List.map_cons]
  refine .cons ?_ ih
  obtain ⟨h1, h2⟩ := h
  by_cases e : p.1 = k
  ·rw [if_pos e, if_pos (h1.symm.trans e)]; exact ⟨h1, ry⟩
  ·rw [if_neg e, if_neg (fun z => e (h1.trans z))]; exact ⟨h1, h2⟩
theorem KV.put {kvs : List (κ × V)} {vs : List (κ × Value)} (r : KV kvs vs) (k : κ) {y : V} {u : Value} (ry : bK y u) : KV (nU kvs k y) (stored vs k u) := by
 unfold nU stored
 rw [r.any k]
 by_cases e : (vs.any fun kv => decide (kv.1 = k)) = true
 ·rw [if_pos e, if_pos e]; exact r.repl k ry
 ·rw [if_neg e, if_neg e]; exact Paired.snoc r ⟨rfl, ry⟩
theorem KV.keys {kvs : List (κ × V)} {vs : List (κ × Value)} (r : KV kvs vs) : kvs.map (·.1) = vs.map (·.1) := by
 unfold KV at r
 induction r with
 | nil => rfl
 | cons h t ih => rw [List.map_cons, List.map_cons, ih, h.1]
theorem KV.length {kvs : List (κ × V)} {vs : List (κ × Value)} (r : KV kvs vs) : kvs.length = vs.length := Paired.length r
end
theorem zS {P : Program} {w : World} {k : Key} {u : Value} (r : bK (kV k) u) : (bB P w).is k u = true := by
 cases k with
 | inl i => obtain ⟨t, e⟩ := (show ∃ t, u = Value.int i t from r); subst e; exact zO P w i t
 | inr x => obtain ⟨t, e⟩ := (show ∃ t, u = Value.str x t from r); subst e; exact zN P w x t
theorem vW {P : Program} {w : World} : ∀ {ks : List Key} {us : List Value}, bL (ks.map kV) us → ItemsAre (bB P w) ks us
 | [], _, r => by rw [List.map_nil] at r; cases r; exact .nil
 | k :: ks, _, r => by
  rw [List.map_cons] at r
  cases r with
  | cons h t => exact .cons (zS h) (vW t)
abbrev KT (H : Hp) : List (List Key × V) → List (List Key × Addr × Value) → Prop := Paired fun p q => p.1 = q.1 ∧ H q.2.1 = some (.tup (p.1.map kV)) ∧ bK p.2 q.2.2
theorem KT.val {H : Hp} {kvs : List (List Key × V)} {xs : List (List Key × Addr × Value)} (r : KT H kvs xs) (k : List Key) : nX (fS kvs k) ((atKey xs k).map (·.2)) := by
 induction r with
 | nil => exact True.intro
 | @cons p q ps qs h t ih =>
  obtain ⟨h1, _, h2⟩ := h
  by_cases e : p.1 = k
  ·have e' : q.1 = k := h1.symm.trans e
   have b : atKey (q :: qs) k = some q.2 := by simp [atKey, List.find?_cons, e']
   rw [lX e, b]; exact h2
  ·have e' : ¬ q.1 = k := fun z => e (h1.trans z)
   have b : atKey (q :: qs) k = atKey qs k := by simp [atKey, List.find?_cons, e']
   rw [lY e, b]; exact ih
theorem KT.repl {H : Hp} {kvs : List (List Key × V)} {xs : List (List Key × Addr × Value)} (r : KT H kvs xs) (k : List Key) {y : V} {u : Value} (ry : bK y u) :
  KT H (kvs.map fun kv => if kv.1 = k then (kv.1, y) else kv) (xs.map (putAt k u)) := by
 induction r with
 | nil => exact .nil
 | @cons p q ps qs h t ih =>
  rw [List.map_cons, List.map_cons]
  refine .cons ?_ ih
  obtain ⟨h1, h2, h3⟩ := h
  unfold putAt
  by_cases e : p.1 = k
  ·rw [if_pos e, if_pos (h1.symm.trans e)]; exact ⟨h1, h2, ry⟩
  ·rw [if_neg e, if_neg (fun z => e (h1.trans z))]; exact ⟨h1, h2, h3⟩
theorem KT.put {H : Hp} {kvs : List (List Key × V)} {xs : List (List Key × Addr × Value)} (r : KT H kvs xs) (k : List Key) {b : Addr} {y : V} {u : Value} (hb : H b = some (.tup (k.map kV))) (ry : bK y u) :
  KT H (nU kvs k y) (storedH xs k b u) := by
 have e : (kvs.any fun kv => decide (kv.1 = k)) = (atKey xs k).isSome := by
  rw [lZ, (r.val k).isSome_eq, Option.isSome_map]
 unfold nU storedH
 rw [e]
 by_cases q : (atKey xs k).isSome = true
 ·rw [if_pos q, if_pos q]; exact r.repl k ry
 ·rw [if_neg q, if_neg q]; exact Paired.snoc r ⟨rfl, hb, ry⟩
theorem KT.keeps {H H' : Hp} {kvs : List (List Key × V)} {xs : List (List Key × Addr × Value)} (r : KT H kvs xs) (ht : ∀ b ys, H b = some (.tup ys) → H' b = some (.tup ys)) : KT H' kvs xs :=
 Paired.mapP r fun _ _ z => ⟨z.1, ht _ _ z.2.1, z.2.2⟩
section
variable {P : Program} {w : World} {H : Hp} {h : Heap} {a : Addr}
theorem aKD {u : HO} (ok : HOk P w H h) (e : Rd H a u) : cJ P w H h a u := e.ok ok
theorem zX {kvs : List (Key × V)} (ok : HOk P w H h) (e : Rd H a (.dK kvs)) : kvs.length ≤ sizeLine ∧ (a == sysModules) = false ∧ ∃ vs, KV kvs vs ∧ h.DictOf (bB P w) a vs :=
 show cJ P w H h a (.dK kvs) from aKD ok e
theorem aNK {kvs : List (Key × V)} (ok : HOk P w H h) (e : H a = some (.dK kvs)) : kvs.length ≤ sizeLine ∧ (a == sysModules) = false ∧ ∃ vs, KV kvs vs ∧ h.DictOf (bB P w) a vs := zX ok (.inl e)
theorem tP {ks : List Key} (ok : HOk P w H h) (e : H a = some (.tup (ks.map kV))) : (tupleKind (bB P w)).is h ks a := by
 obtain ⟨_, its, r, o, h1, h2, n, h3, _⟩ := (show cJ P w H h a (.tup (ks.map kV)) from ok a _ e)
 exact ⟨o, its.toArray, n, h1, h2, h3, by simpa using vW r⟩
theorem zW {kvs : List (List Key × V)} (ok : HOk P w H h) (e : Rd H a (.dT kvs)) : kvs.length ≤ sizeLine ∧ (a == sysModules) = false ∧
  ∃ xs, KT H kvs xs ∧ h.DictOfH (tupleKind (bB P w)) a xs := by
 obtain ⟨z, y, xs, r, o, es, ep, h1, h2, h3, h4, h5⟩ := (show cJ P w H h a (.dT kvs) from aKD ok e)
 refine ⟨z, y, xs, r, o, es, ep, h1, h2, h3, h4, fun x hx => ?_, h5⟩
 have all : ∀ {l : List (List Key × V)} {m : List (List Key × Addr × Value)}, KT H l m → ∀ x ∈ m, (tupleKind (bB P w)).is h x.1 x.2.1 := by
  intro l m q
  induction q with
  | nil => intro x hx; exact nomatch hx
  | @cons p q ps qs hq t ih =>
   intro x hx
   rcases List.mem_cons.mp hx with e | hx
   ·subst e
    exact tP ok (by rw [← hq.1]; exact hq.2.1)
   ·exact ih x hx
 exact all r x hx
theorem aNJ {kvs : List (List Key × V)} (ok : HOk P w H h) (e : H a = some (.dT kvs)) : kvs.length ≤ sizeLine ∧ (a == sysModules) = false ∧
  ∃ xs, KT H kvs xs ∧ h.DictOfH (tupleKind (bB P w)) a xs := zW ok (.inl e)
end
def rJ (H : Hp) (a : Addr) (y : V) (r : Option V) : Prop :=
 (∃ kvs k, Rd H a (.dK kvs) ∧ y = kV k ∧ r = fS kvs k) ∨ ∃ kvs k b, Rd H a (.dT kvs) ∧ y = .ref b ∧ H b = some (.tup (k.map kV)) ∧ r = fS kvs k
def aLT (H : Hp) (a : Addr) (y v : V) (H' : Hp) : Prop :=
 (∃ kvs k, H a = some (.dK kvs) ∧ y = kV k ∧ kvs.length < sizeLine ∧ H' = upd H a (.dK (nU kvs k v))) ∨
 ∃ kvs k b, H a = some (.dT kvs) ∧ y = .ref b ∧ H b = some (.tup (k.map kV)) ∧ kvs.length < sizeLine ∧ H' = upd H a (.dT (nU kvs k v))
theorem rJ.k {H : Hp} {a : Addr} {kvs : List (Key × V)} {k : Key} (e : H a = some (.dK kvs)) : rJ H a (kV k) (fS kvs k) := .inl ⟨kvs, k, .inl e, rfl, rfl⟩
section
variable {X : Cx} {pins : List (Addr × Obj)} {σ : St} {H : Hp} {s : Shared} {a : Addr} {y v : V} {u r : Value} {o : Option V} {A : Around} {E : Value → Shared → Prop}
theorem Inv.big (I : Inv X pins σ H s) : sysModules < s.heap.objs.size := by
 have h : mainGlobals < s.heap.objs.size := (I.mod.glob.keeps I.bk).lt
 exact Nat.lt_trans (by decide) h
theorem wA {Q : Value → Shared → Prop} (hu : A.units + 1 < cLine) (I : Inv X pins σ H s) (g : rJ H a y (some v)) (ry : bK y u) (h : ∀ w' s', Inv X pins σ H s' → bK v w' → Q w' s') :
  wpAny (model X.prog X.w) A (getItem (.ref a) u) Q E s := by
 rcases g with ⟨kvs, k, e, ey, l⟩ | ⟨kvs, k, b, e, ey, eb, l⟩
 ·subst ey
  obtain ⟨z, hd, vs, rel, dd⟩ := zX I.hok e
  obtain ⟨w', hw, rw'⟩ := nX.some_of (v := v) (o := valueAt vs k) (by rw [l]; exact rel.val k)
  exact wpAny_getItem_of (zS ry) dd.mapOf hw (h w' _ (I.tok _) rw')
 ·subst ey
  cases (show u = Value.ref b from ry)
  obtain ⟨z, hd, xs, rel, dd⟩ := zW I.hok e
  obtain ⟨w', hw, rw'⟩ := nX.some_of (v := v) (o := (atKey xs k).map (·.2)) (by rw [l]; exact rel.val k)
  obtain ⟨p, hp, hp2⟩ := Option.map_eq_some_iff.mp hw
  refine wpAny_getItem_heap (tupleKind_room_in1 hu) (tP I.hok eb) dd hp ?_
  rw [hp2]
  exact h w' _ (I.tok _) rw'
theorem aOK {Q : Value → Shared → Prop} (hu : A.units + 1 < cLine) (I : Inv X pins σ H s) (g : rJ H a y o) (ry : bK y u) (h : ∀ s', Inv X pins σ H s' → Q (.bool o.isSome) s') :
  wpAny (model X.prog X.w) A (compareOp .In u (.ref a)) Q E s := by
 rcases g with ⟨kvs, k, e, ey, l⟩ | ⟨kvs, k, b, e, ey, eb, l⟩
 ·subst ey
  obtain ⟨z, hd, vs, rel, dd⟩ := zX I.hok e
  refine wpAny_in_of (zS ry) hd dd.mapOf ?_
  rw [← (rel.val k).isSome_eq, ← l]
  exact h _ (I.tok _)
 ·subst ey
  cases (show u = Value.ref b from ry)
  obtain ⟨z, hd, xs, rel, dd⟩ := zW I.hok e
  refine wpAny_in_heap (tupleKind_room_in1 hu) (tP I.hok eb) hd dd ?_
  have q := (rel.val k).isSome_eq
  rw [Option.isSome_map] at q
  rw [← q, ← l]
  exact h _ (I.tok _)
theorem aJQ {Q : Value → Shared → Prop} (hu : A.units + 1 < cLine) (I : Inv X pins σ H s) (g : rJ H a y o) (ry : bK y u) (h : ∀ s', Inv X pins σ H s' → Q (.bool (!o.isSome)) s') :
  wpAny (model X.prog X.w) A (compareOp .NotIn u (.ref a)) Q E s := by
 rcases g with ⟨kvs, k, e, ey, l⟩ | ⟨kvs, k, b, e, ey, eb, l⟩
 ·subst ey
  obtain ⟨z, hd, vs, rel, dd⟩ := zX I.hok e
  refine wpAny_notIn_of (zS ry) hd dd.mapOf ?_
  rw [← (rel.val k).isSome_eq, ← l]
  exact h _ (I.tok _)
 ·subst ey
  cases (show u = Value.ref b from ry)
  obtain ⟨z, hd, xs, rel, dd⟩ := zW I.hok e
  refine wpAny_notIn_heap (tupleKind_room_in1 hu) (tP I.hok eb) hd dd ?_
  have q := (rel.val k).isSome_eq
  rw [Option.isSome_map] at q
  rw [← q, ← l]
  exact h _ (I.tok _)
theorem aDT {h' : Heap} {t' : Nat} {ob : HO} (I : Inv X pins σ H s) (mu : Mut (H a)) (hs : Heap.SameBut a s.heap h') (he : ∃ q, h'.get? a = some q) (new : cJ X.prog X.w (upd H a ob) h' a ob) :
  Inv X pins σ (upd H a ob) { s with heap := h', toks := t' } :=
 I.write (x := a) (e := a) mu (.inl rfl) (fun b q hb z => (hs.2 b hb).trans z) he new
theorem aLN {P : Program} {w : World} {H' : Hp} {h' : Heap} {kvs : List (Key × V)} {vs : List (Key × Value)} (z : kvs.length ≤ sizeLine) (hd : (a == sysModules) = false) (rel : KV kvs vs) (dd : h'.DictOf (bB P w) a vs) :
  cJ P w H' h' a (.dK kvs) := ⟨z, hd, vs, rel, dd⟩
theorem vZ {H' : Hp} {Q : Unit → Shared → Prop} (hu : A.units + 1 < cLine) (I : Inv X pins σ H s) (g : aLT H a y v H') (ry : bK y u) (rv : bK v r) (h : ∀ s', Inv X pins σ H' s' → Q () s') :
  wpAny (model X.prog X.w) A (setItem (.ref a) u r) Q E s := by
 rcases g with ⟨kvs, k, e, ey, l, eH⟩ | ⟨kvs, k, b, e, ey, eb, l, eH⟩
 ·subst ey eH
  obtain ⟨z, hd, vs, rel, dd⟩ := aNK I.hok e
  have hz : vs.length ≤ sizeLine := by rw [← rel.length]; exact z
  have hl : (nU kvs k v).length ≤ sizeLine := by have := qQ kvs k v; omega
  refine wpAny_setItem_pairs (hsz := hz) (zS ry) dd fun h' dd' hs => h _ ?_
  have he : ∃ q, h'.get? a = some q := let ⟨q, _, _, hq, _⟩ := dd'; ⟨q, hq⟩
  exact aDT I (by rw [e]; exact True.intro) hs he (aLN hl hd (rel.put k rv) dd')
 ·subst ey eH
  cases (show u = Value.ref b from ry)
  obtain ⟨z, hd, xs, rel, dd⟩ := aNJ I.hok e
  have hz : xs.length ≤ sizeLine := by rw [← Paired.length rel]; exact z
  have hl : (nU kvs k v).length ≤ sizeLine := by have := qQ kvs k v; omega
  refine wpAny_setItem_heap (hsz := hz) (tupleKind_room_in1 hu) (tP I.hok eb) dd fun h' dd' hs => h _ ?_
  obtain ⟨q, es, ep, hq, h2, h3, h4, _, h5⟩ := dd'
  refine aDT I (by rw [e]; exact True.intro) hs ⟨q, hq⟩ ⟨hl, hd, _, (rel.put k eb rv).keeps fun c ys ec => ?_, q, es, ep, hq, h2, h3, h4, h5⟩
  rw [aQ (vP ec e (fun z => nomatch z))]
  exact ec
end
section
variable {X : Cx} {pins : List (Addr × Obj)} {σ : St} {H : Hp} {s : Shared} {a : Addr} {kvs : List (Key × V)} {k : Key} {u : Value} {A : Around} {E : Value → Shared → Prop}
end
def aNM (i : Expr) : Prop := ∀ ov iv, subscripted i false ov iv = operate [ov, iv] (getItem ov iv)
theorem aIM {prog : Program} {w : World} {A : Around} {E : Value → Shared → Prop} {s : Shared} {env : Env} {value slice : Expr} {pos : Pos} {T id : String} {Q : Value → Shared → Prop}
  (hl : typeLookup (.type T) "__getitem__" = pure (some (.builtin id))) (hs : aNM slice)
  (h : wpAny (model prog w) A (eval value env) (fun o s₁ => wpAny (model prog w) A (eval slice env) (fun i s₂ => s₂.TypeIs o T ∧ wpAny (model prog w) A (getItem o i) Q E s₂) E s₁) E s) :
  wpAny (model prog w) A (eval (.Subscript value slice pos) env) Q E s := by
 refine Subscript_ (wpAny_mono h (fun o s₁ h₁ => wpAny_mono h₁ (fun i s₂ h₂ => ?_) fun _ _ x => x) fun _ _ x => x)
 obtain ⟨hT, h₂⟩ := h₂
 unfold subscriptTail
 refine wpAny_bind ?_
 rw [getitemInPython_of_ne hT.not_modules]
 refine wpAny_bind (wpAny_specialOf hT hl ?_)
 have fin : wpAny (model prog w) A (subscripted slice false o i) (fun r s₃ => wpAny (model prog w) A (letTemporaryGo value o r >>= fun _ => pure r) Q E s₃) E s₂ := by
  rw [hs o i]
  exact wpAny_operating (wpAny_mono h₂ (fun r s₃ h₃ => wpAny_bind (wpAny_letTemporaryGo (wpAny_pure h₃))) fun _ _ x => x)
 first
  | exact wpAny_pure (wpAny_bind fin)
  | exact wpAny_bind (wpAny_pure (wpAny_bind fin))
  | exact wpAny_bind fin
theorem zY {X : Cx} {pins : List (Addr × Obj)} {σ : St} {H : Hp} {s : Shared} {a : Addr} {y : V} {o : Option V} (I : Inv X pins σ H s) (g : rJ H a y o) : s.TypeIs (.ref a) "dict" := by
 rcases g with ⟨kvs, k, e, _, _⟩ | ⟨kvs, k, b, e, _, _, _⟩
 ·obtain ⟨_, _, vs, _, dd⟩ := zX I.hok e
  exact dd.typeIs
 ·obtain ⟨_, _, xs, _, dd⟩ := zW I.hok e
  exact dd.typeIs
def aMC (td ty : TE) : TE := fun σ H Q => td σ H fun x H1 => ty σ H1 fun y H2 => ∃ a v, x = .ref a ∧ rJ H2 a y (some v) ∧ Q v H2
def aNX (ty td : TE) : TE := fun σ H Q => ty σ H fun y H1 => td σ H1 fun x H2 => ∃ a o, x = .ref a ∧ rJ H2 a y o ∧ Q (.bl o.isSome) H2
def aIL (ty td : TE) : TE := fun σ H Q => ty σ H fun y H1 => td σ H1 fun x H2 => ∃ a o, x = .ref a ∧ rJ H2 a y o ∧ Q (.bl (!o.isSome)) H2
def aMG (td ty tv : TE) : TS := fun D σ H => tv σ H fun v H1 => td σ H1 fun x H2 => ty σ H2 fun y H3 => ∃ a H4, x = .ref a ∧ aLT H3 a y v H4 ∧ D.nx σ H4
def aMH (td ty tv : TE) (rd : V → V → Hp → VK → Prop) : TS := fun D σ H => td σ H fun x H1 => ty σ H1 fun y H2 => ∃ a v, x = .ref a ∧ rJ H2 a y (some v) ∧
 tv σ H2 fun y2 H3 => rd v y2 H3 fun z H4 => ∃ H5, aLT H4 a y z H5 ∧ D.nx σ H5
section
variable {X : Cx} {o i e value : Expr} {pos pos' tpos : Pos} {td ty tv : TE}
theorem jW (hu : X.A.units + 1 < cLine) (ho : PE X o td) (hi : PE X i ty) (hs : aNM i) : PE X (.Subscript o i pos) (aMC td ty) := by
 intro pins s σ H Q I h
 refine aIM PySem.F.slot_dict_getitem.lookup hs (thn (ho pins s σ H _ I h) fun u s1 ⟨x, H1, I1, rx, q1⟩ => thn (hi pins s1 σ H1 _ I1 q1) fun iv s2 ⟨y, H2, I2, ry, a, v, ex, g, q2⟩ => ?_)
 subst ex
 obtain rfl : u = Value.ref a := rx
 exact ⟨zY I2 g, wA hu I2 g ry fun w' s3 I3 rw' => ⟨v, H2, I3, rw', q2⟩⟩
theorem aGU (hu : X.A.units + 1 < cLine) (hi : PE X i ty) (ho : PE X o td) : PC X .In i o (aNX ty td) := by
 intro pins s σ H Q I h
 refine thn (hi pins s σ H _ I h) fun iv s1 ⟨y, H1, I1, ry, q1⟩ => thn (ho pins s1 σ H1 _ I1 q1) fun u s2 ⟨x, H2, I2, rx, a, ov, ex, g, q2⟩ => ?_
 subst ex
 obtain rfl : u = Value.ref a := rx
 exact aOK hu I2 g ry fun s3 I3 => ⟨.bl ov.isSome, H2, I3, rfl, q2⟩
theorem vK (hu : X.A.units + 1 < cLine) (hi : PE X i ty) (ho : PE X o td) : PC X .NotIn i o (aIL ty td) := by
 intro pins s σ H Q I h
 refine thn (hi pins s σ H _ I h) fun iv s1 ⟨y, H1, I1, ry, q1⟩ => thn (ho pins s1 σ H1 _ I1 q1) fun u s2 ⟨x, H2, I2, rx, a, ov, ex, g, q2⟩ => ?_
 subst ex
 obtain rfl : u = Value.ref a := rx
 exact aJQ hu I2 g ry fun s3 I3 => ⟨.bl (!ov.isSome), H2, I3, rfl, q2⟩
theorem aIV (hu : X.A.units + 1 < cLine) (ho : PE X o td) (hi : PE X i ty) (hv : PE X value tv) (hs : swapsWith value (some (.Subscript o i pos')) pos.line X.env = pure false) :
  PS X (.Assign [.Subscript o i pos'] value pos) (aMG td ty tv) := by
 intro pins s σ H D I h
 refine wpAny_Assign_Subscript (thn (hv pins s σ H _ I h) fun r s1 ⟨v, H1, I1, rv, q1⟩ => thn (ho pins s1 σ H1 _ I1 q1) fun u s2 ⟨x, H2, I2, rx, q2⟩ => thn (hi pins s2 σ H2 _ I2 q2) fun iv s3 ⟨y, H3, I3, ry, a, H4, ex, g, q3⟩ => ?_) hs
 subst ex
 obtain rfl : u = Value.ref a := rx
 exact vZ hu I3 g ry rv fun s4 I4 => ⟨σ, H4, I4, q3⟩
theorem aIW {op : Operator} {rd : V → V → Hp → VK → Prop} (hu : X.A.units + 1 < cLine) (ho : PE X o td) (hi : PE X i ty) (hv : PE X value tv) (hop : aNN X op rd)
  (ha : ∀ ov iv new, augStore i ov iv new = (do holding [new, ov, iv] (setItem ov iv new); release [new, ov, iv] []; pure .next)) : PS X (.AugAssign (.Subscript o i tpos) op value pos) (aMH td ty tv rd) := by
 intro pins s σ H D I h
 refine wpAny_AugAssign_SubscriptAny (thn (ho pins s σ H _ I h) fun u s1 ⟨x, H1, I1, rx, q1⟩ => thn (hi pins s1 σ H1 _ I1 q1) fun iv s2 ⟨y, H2, I2, ry, a, v, ex, g, q2⟩ => ?_) ha
 subst ex
 obtain rfl : u = Value.ref a := rx
 refine wA hu I2 g ry fun w' s3 I3 rw' => thn (hv pins s3 σ H2 _ I3 q2) fun w2 s4 ⟨y2, H3, I4, ry2, q3⟩ => thn (hop pins s4 σ H3 v y2 w' w2 _ I4 rw' ry2 q3) fun w3 s5 ⟨z, H4, I5, rz, H5, g5, q4⟩ => ?_
 exact vZ hu I5 g5 ry rz fun s6 I6 => ⟨σ, H5, I6, q4⟩
end
section
variable {X : Cx} {pos : Pos}
end
def aKO : List (TE × TE) → St → Hp → (List (V × V) → Hp → Prop) → Prop
 | [], _, H, Q => Q [] H
 | (tk, tv) :: r, σ, H, Q => tk σ H fun x H1 => tv σ H1 fun y H2 => aKO r σ H2 fun ps H3 => Q ((x, y) :: ps) H3
abbrev VV : List (V × V) → List (Value × Value) → Prop := Paired fun p q => bK p.1 q.1 ∧ bK p.2 q.2
def mergeK (kvs more : List (Key × V)) : List (Key × V) := more.foldl (fun acc kv => nU acc kv.1 kv.2) kvs
structure M1 (X : Cx) (o : Expr) (m : Str) (apos : Pos) (e : Expr) (cpos : Pos) : Prop where
 base : attributeBase o m X.env (eval o X.env) = eval o X.env
 few : ((backTo cpos (starEach [e] X.env)).all (fun x => !x.1) && (backToKw cpos (keywordEach [] X.env)).all (fun x => x.1.isSome)
  && decide (([e] : List Expr).length + ([] : List Keyword).length + (if ([] : List Keyword).isEmpty then 0 else 1) < 30)) = true
 line : (apos.endLine == cpos.line) = true
 trees : backTo cpos (starEach [e] X.env) = [(false, eval e X.env)]
structure M2 (X : Cx) (o : Expr) (m : Str) (apos : Pos) (e f : Expr) (cpos : Pos) : Prop where
 base : attributeBase o m X.env (eval o X.env) = eval o X.env
 few : ((backTo cpos (starEach [e, f] X.env)).all (fun x => !x.1) && (backToKw cpos (keywordEach [] X.env)).all (fun x => x.1.isSome)
  && decide (([e, f] : List Expr).length + ([] : List Keyword).length + (if ([] : List Keyword).isEmpty then 0 else 1) < 30)) = true
 line : (apos.endLine == cpos.line) = true
 trees : backTo cpos (starEach [e, f] X.env) = [(false, eval e X.env), (false, eval f X.env)]
def IsD (H : Hp) (a : Addr) : Prop := (∃ kvs, Rd H a (.dK kvs)) ∨ ∃ kvs, Rd H a (.dT kvs)
section
variable {X : Cx} {pins : List (Addr × Obj)} {σ : St} {H : Hp} {s : Shared} {a : Addr} {y d : V} {u r : Value} {o : Option V} {A : Around} {E : Value → Shared → Prop}
end
section
variable {X : Cx} {o e f : Expr} {apos cpos : Pos} {td ty tx : TE}
end
section
variable {X : Cx} {pins : List (Addr × Obj)} {σ : St} {H : Hp} {s : Shared} {a : Addr} {kvs : List (Key × V)} {A : Around} {E : Value → Shared → Prop}
end
section
variable {X : Cx} {pins : List (Addr × Obj)} {σ : St} {H : Hp} {s : Shared} {a : Addr} {y : V} {u : Value} {A : Around} {E : Value → Shared → Prop}
end
end L2
namespace HT
open PySem PyProof.Rows
def aMV : List Int → List Int → Bool
 | [], [] => false
 | [], _ :: _ => true
 | _ :: _, [] => false
 | x :: xs, y :: ys => if x = y then aMV xs ys else decide (x < y)
section
open PySem.SeqAt
open PySem.AutoSeq1 (wpAny_loadPart')
open PySem.MeetsSeq PySem.MeetsSeq2 PySem.MeetsSeq3
end
section
variable {prog : Program} {w : World} {A : Around} {E : Value → Shared → Prop} {s : Shared}
def sIx (n d : Nat) : Option Int → Nat
 | none => d
 | some v => if v < 0 then (v + (n : Int)).toNat else min v.toNat n
end
end HT
namespace L2
open PySem PySem.Spec PyProof.Rows
abbrev TO := St → Hp → (Option Int → Hp → Prop) → Prop
def PO (X : Cx) (e : Option Expr) (t : TO) : Prop :=
 ∀ (pins : List (Addr × Obj)) (s : Shared) (σ : St) (H : Hp) (Q : Option Int → Hp → Prop), Inv X pins σ H s → t σ H Q →
  wpAny (model X.prog X.w) X.A (evalPart e X.env) (fun u s' => ∃ o H', Inv X pins σ H' s' ∧ IsPart u o ∧ Q o H') X.xe s
def aIK : TO := fun _ H Q => Q none H
def aLY (t : TE) : TO := fun σ H Q => t σ H fun x H1 => ∃ i, x = .int i ∧ Q (some i) H1
theorem tS {ns : List Int} : ∀ {us : List Value}, bL (ns.map V.int) us → IntsAre us ns := by
 induction ns with
 | nil => intro us r; rw [List.map_nil] at r; cases r; exact .nil
 | cons n ns ih =>
  intro us r
  rw [List.map_cons] at r
  cases r with
  | cons r1 r2 =>
   obtain ⟨t, e⟩ := r1
   subst e
   exact .cons n t (ih r2)
section
variable {X : Cx} {e : Expr} {te : TE} {lo hi : Option Expr} {tl th : TO} {pos p2 : Pos}
theorem aCZ : PO X none aIK := by
 intro pins s σ H Q I h
 rw [evalPart_none]
 exact wpAny_pure ⟨none, H, I, .none, h⟩
theorem aCY (h : PE X e te) : PO X (some e) (aLY te) := by
 intro pins s σ H Q I hw
 rw [evalPart_some]
 refine thn (h pins s σ H _ I hw) fun u s1 ⟨x, H1, I1, r1, q1⟩ => ?_
 obtain ⟨i, rfl, q⟩ := q1
 obtain ⟨t, rfl⟩ := r1
 exact ⟨some i, H1, I1, .int i t, q⟩
def SlR (X : Cx) (r : V → Option Int → Option Int → Hp → VK → Prop) : Prop :=
 ∀ (pins : List (Addr × Obj)) (s : Shared) (σ : St) (H : Hp) (x : V) (v vl vu : Value) (lo hi : Option Int) (sl : Addr) (Q : VK), Inv X pins σ H s → bK x v → s.heap.IsSliceOf sl vl vu .none → IsPart vl lo → IsPart vu hi → r x lo hi H Q →
  ∃ T id, typeLookup (.type T) "__getitem__" = pure (some (.builtin id)) ∧ s.TypeIs v T ∧ wpAny (model X.prog X.w) X.A (getItem v (.ref sl)) (EP X pins σ Q) X.xe s
def tSl (r : V → Option Int → Option Int → Hp → VK → Prop) (te : TE) (tl th : TO) : TE := fun σ H Q => te σ H fun x H1 => tl σ H1 fun l H2 => th σ H2 fun u H3 => r x l u H3 Q
theorem zF {r : V → Option Int → Option Int → Hp → VK → Prop} (hr : SlR X r) (he : PE X e te) (hl : PO X lo tl) (hu : PO X hi th) : PE X (.Subscript e (.Slice lo hi none p2) pos) (tSl r te tl th) := by
 intro pins s σ H Q I h
 refine Subscript_ (thn (he pins s σ H _ I h) fun v s1 ⟨x, H1, I1, r1, q1⟩ => ?_)
 refine wpAny_Slice (thn (hl pins s1 σ H1 _ I1 q1) fun vl s2 ⟨l, H2, I2, pl, q2⟩ => thn (hu pins s2 σ H2 _ I2 q2) fun vu s3 ⟨u, H3, I3, pu, q3⟩ => ?_)
 rw [evalPart_none]
 refine wpAny_pure ?_
 have I4 : Inv X pins σ H3 { s3 with heap := s3.heap.push { cls := .type "slice", data := .fields #[vl, vu, .none] } } := I3.kept (t' := s3.toks) fun b ob q => Heap.get?_push_of_some _ q
 obtain ⟨T, id, hT, ht, hg⟩ := hr pins { s3 with heap := s3.heap.push { cls := .type "slice", data := .fields #[vl, vu, .none] } } σ H3 x v vl vu l u s3.heap.objs.size Q I4 r1 (Heap.IsSliceOf.new ..) pl pu q3
 show wpAny (model X.prog X.w) X.A (subscriptTail e (.Slice lo hi none p2) v (.ref s3.heap.objs.size)) (EP X pins σ Q) X.xe { s3 with heap := s3.heap.push { cls := .type "slice", data := .fields #[vl, vu, .none] } }
 exact tail_any (ops := [.ref s3.heap.objs.size, v]) ht hT hg (by with_unfolding_all rfl)
def cutV (xs : List V) (lo hi : Option Int) : List V := (xs.drop (HT.sIx xs.length 0 lo)).take (HT.sIx xs.length xs.length hi - HT.sIx xs.length 0 lo)
end
end L2
namespace L2
open PySem PySem.Spec PyProof.Rows
def ixN (n : Nat) (i : Int) : Option Nat := if 0 ≤ i then (if i < n then some i.toNat else none) else if -(n : Int) ≤ i then some (i + n).toNat else none
def atI {α : Type} (xs : List α) (i : Int) : Option α := (ixN xs.length i).bind fun j => xs[j]?
theorem aJI {n : Nat} {i : Int} {j : Nat} (h : ixN n i = some j) : seqIndex? i n = some j ∧ j < n ∧ -(n : Int) ≤ i ∧ i < n := by
 unfold ixN at h
 by_cases h0 : 0 ≤ i
 ·rw [if_pos h0] at h
  by_cases h1 : i < n
  ·rw [if_pos h1] at h
   have e : i.toNat = j := Option.some.inj h
   exact ⟨by rw [seqIndex_of h0 h1, e], by omega, by omega, h1⟩
  ·rw [if_neg h1] at h; cases h
 ·rw [if_neg h0] at h
  by_cases h1 : -(n : Int) ≤ i
  ·rw [if_pos h1] at h
   have e : (i + n).toNat = j := Option.some.inj h
   exact ⟨by rw [seqIndex_neg (by omega) h1, e], by omega, h1, by omega⟩
  ·rw [if_neg h1] at h; cases h
theorem yI {α : Type} {xs : List α} {i : Int} {v : α} (h : atI xs i = some v) : ∃ j, seqIndex? i xs.length = some j ∧ xs[j]? = some v ∧ j < xs.length ∧ -(xs.length : Int) ≤ i ∧ i < xs.length := by
 unfold atI at h
 cases e : ixN xs.length i with
 | none => rw [e] at h; cases h
 | some j =>
  rw [e] at h
  obtain ⟨h1, h2, h3, h4⟩ := aJI e
  exact ⟨j, h1, h, h2, h3, h4⟩
theorem aO {α : Type} {xs : List α} {j : Nat} {v : α} (h : xs[j]? = some v) : atI xs (j : Int) = some v := by
 have hj : j < xs.length := (List.getElem?_eq_some_iff.mp h).1
 have e : ixN xs.length (j : Int) = some j := by
  unfold ixN
  rw [if_pos (by omega), if_pos (by omega)]; simp
 unfold atI; rw [e]; exact h
def aJW (b : Expr) : Prop := ∀ o i, subscripted b false o i = operate [o, i] (getItem o i)
def IxR (X : Cx) (r : R2) : Prop :=
 ∀ (value slice : Expr) (pins : List (Addr × Obj)) (s : Shared) (σ : St) (H : Hp) (x y : V) (v u : Value) (Q : VK), Inv X pins σ H s → bK x v → bK y u → r x y H Q →
  subscripted slice false v u = operate [v, u] (getItem v u) → wpAny (model X.prog X.w) X.A (subscriptTail value slice v u) (EP X pins σ Q) X.xe s
def MtR (X : Cx) (id : String) (r : V → List V → Hp → VK → Prop) : Prop :=
 ∀ (pins : List (Addr × Obj)) (s : Shared) (σ : St) (H : Hp) (x : V) (xs : List V) (v : Value) (us : List Value) (Q : VK), Inv X pins σ H s → bK x v → bL xs us → r x xs H Q →
  wpAny (model X.prog X.w) X.A (call (.builtin id) (v :: us)) (EP X pins σ Q) X.xe s
section
variable {X : Cx} {a b : Expr} {ta tb : TE} {pos : Pos}
theorem bC {r : R2} (hr : IxR X r) (ha : PE X a ta) (hb : PE X b tb) (hs : aJW b) : PE X (.Subscript a b pos) (tOp r ta tb) := by
 intro pins s σ H Q I h
 exact Subscript_ (aLO ha hb I h fun v u s2 x y H2 I2 rx ry q => hr a b pins s2 σ H2 x y v u Q I2 rx ry q (hs _ _))
def aMM (K : PySem.W.Frag) : R2 := fun x y H Q => ∃ p xs i v, x = .ref p ∧ y = .int i ∧ SqL K H p xs ∧ atI xs i = some v ∧ Q v H
def aML (K : PySem.W.Frag) : R2 := fun x y H Q => ∃ p xs i v, x = .ref p ∧ y = .int i ∧ SqT K H p xs ∧ atI xs i = some v ∧ Q v H
def aOB : R2 := fun x y H Q => ∃ z i c, x = .str z ∧ y = .int i ∧ z.length ≤ sizeLine ∧ atI z.cps.toList i = some c ∧ Q (.str ⟨#[c]⟩) H
theorem aJH : IxR X (aMM X.K) := by
 intro value slice pins s σ H x y v u Q I rx ry h hs
 obtain ⟨p, xs, i, z, rfl, rfl, hq, he, q⟩ := h
 cases rx
 obtain ⟨t, rfl⟩ := ry
 obtain ⟨its, r, pl, hz⟩ := I.list hq
 obtain ⟨j, h1, h2, h3, h4, h5⟩ := yI he
 obtain ⟨w, ew, rw'⟩ := r.get h2
 have hl := r.length
 have hn := tK
 have fin : EP X pins σ Q w s := ⟨z, H, I, rw', q⟩
 by_cases h0 : 0 ≤ i
 ·have hj : i.toNat = j := by
   rw [seqIndex_of h0 h5] at h1
   exact Option.some.inj h1
  exact item_listR pl.isList h0 (by omega) (by rw [hj]; simpa using ew) fin hs
 ·have hj : (i + (its.toArray.size : Int)).toNat = j := by
   rw [seqIndex_neg (by omega) h4] at h1
   rw [List.size_toArray, ← hl]
   exact Option.some.inj h1
  exact subscriptTail_builtinR (x := w) pl.isList.typeIs slot_list_getitem.lookup
   (wpAny_getItem_list_neg (Q := fun r s' => r = w ∧ EP X pins σ Q r s') pl.isList (by omega) (by rw [List.size_toArray] <;> omega) (by omega) (by rw [hj]; simpa using ew) ⟨rfl, fin⟩) hs
theorem aLI : IxR X (aML X.K) := by
 intro value slice pins s σ H x y v u Q I rx ry h hs
 obtain ⟨p, xs, i, z, rfl, rfl, hq, he, q⟩ := h
 cases rx
 obtain ⟨t, rfl⟩ := ry
 obtain ⟨its, r, pl, hz⟩ := I.tuple hq
 obtain ⟨j, h1, h2, h3, h4, h5⟩ := yI he
 obtain ⟨w, ew, rw'⟩ := r.get h2
 have hl := r.length
 have hn := tK
 have fin : EP X pins σ Q w s := ⟨z, H, I, rw', q⟩
 exact subscriptTail_builtinR (x := w) pl.typeIs slot_tuple_getitem.lookup
  (getItem_tuple (j := j) (Q := fun r s' => r = w ∧ EP X pins σ Q r s') pl (by omega) (by omega) (by rw [List.size_toArray, ← hl]; exact h1) (by simpa using ew) ⟨rfl, fin⟩) hs
theorem xX : IxR X aOB := by
 intro value slice pins s σ H x y v u Q I rx ry h hs
 obtain ⟨z, i, c, rfl, rfl, hz, he, q⟩ := h
 obtain ⟨t, rfl⟩ := rx
 obtain ⟨t', rfl⟩ := ry
 obtain ⟨j, h1, h2, h3, h4, h5⟩ := yI he
 have hl : z.cps.toList.length = z.length := by simp [Str.length]
 rw [hl] at h1 h4 h5
 have hn := tK
 exact tail_any (typeIs_str s z t) slot_str_getitem.lookup (getItem_str (c := c) (by
  have e1 : decide (i < -(2 ^ 63 : Int)) = false := decide_eq_false (by omega)
  have e2 : decide (i ≥ 2 ^ 63) = false := decide_eq_false (by omega)
  rw [e1, e2, Bool.or_false]) (by rw [h1]; simpa using h2) ⟨.str ⟨#[c]⟩, H, I.tok _, ⟨_, rfl⟩, q⟩) hs
def pE : V → Bool
 | .non => true
 | .bl _ => true
 | .int _ => true
 | .str _ => true
 | _ => false
def eqV : V → V → Bool
 | .non, .non => true
 | .bl a, .bl b => a == b
 | .bl a, .int b => (if a then 1 else 0) == b
 | .int a, .bl b => a == (if b then 1 else 0)
 | .int a, .int b => a == b
 | .str a, .str b => a == b
 | _, _ => false
theorem lM {A : Around} {s : Shared} {y x : V} {u v : Value} (ry : bK y u) (rx : bK x v) (fy : pE y = true) (fx : pE x = true) : SeqAt.EqAt A s u v (eqV y x) := by
 cases y with
 | non =>
  cases ry
  cases x with
  | non => cases rx; exact SeqAt.EqAt.same _
  | bl b => cases rx; exact SeqAt.EqAt.none_bool b
  | int b => obtain ⟨t, rfl⟩ := rx; exact SeqAt.EqAt.none_int b t
  | str b => obtain ⟨t, rfl⟩ := rx; exact SeqAt.EqAt.none_str b t
  | _ => exact absurd (show false = true from fx) Bool.false_ne_true
 | bl a =>
  cases ry
  cases x with
  | non => cases rx; exact SeqAt.EqAt.bool_none a
  | bl b => cases rx; exact SeqAt.EqAt.bool_bool a b
  | int b => obtain ⟨t, rfl⟩ := rx; exact SeqAt.EqAt.bool_int a b t
  | str b => obtain ⟨t, rfl⟩ := rx; exact SeqAt.EqAt.bool_str a b t
  | _ => exact absurd (show false = true from fx) Bool.false_ne_true
 | int a =>
  obtain ⟨t', rfl⟩ := ry
  cases x with
  | non => cases rx; exact SeqAt.EqAt.int_none a t'
  | bl b => cases rx; exact SeqAt.EqAt.int_bool a t' b
  | int b => obtain ⟨t, rfl⟩ := rx; exact SeqAt.EqAt.int_int a t' b t
  | str b => obtain ⟨t, rfl⟩ := rx; exact SeqAt.EqAt.int_str a t' b t
  | _ => exact absurd (show false = true from fx) Bool.false_ne_true
 | str a =>
  obtain ⟨t', rfl⟩ := ry
  cases x with
  | non => cases rx; exact SeqAt.EqAt.str_none a t'
  | bl b => cases rx; exact SeqAt.EqAt.str_bool a t' b
  | int b => obtain ⟨t, rfl⟩ := rx; exact SeqAt.EqAt.str_int a t' b t
  | str b => obtain ⟨t, rfl⟩ := rx; exact SeqAt.EqAt.str_str a t' b t
  | _ => exact absurd (show false = true from fx) Bool.false_ne_true
 | _ => exact absurd (show false = true from fy) Bool.false_ne_true
def eqU (x : V) (u : Value) : Bool := match u with
 | .none => eqV .non x
 | .bool b => eqV (.bl b) x
 | .int i _ => eqV (.int i) x
 | .str z _ => eqV (.str z) x
 | _ => false
theorem aHX {x y : V} {u : Value} (r : bK y u) (f : pE y = true) : eqU x u = eqV y x := by
 cases y with
 | non => cases r; rfl
 | bl b => cases r; rfl
 | int i => obtain ⟨t, rfl⟩ := r; rfl
 | str z => obtain ⟨t, rfl⟩ := r; rfl
 | _ => exact absurd (show false = true from f) Bool.false_ne_true
theorem pH {x : V} : ∀ {xs : List V} {us : List Value}, bL xs us → xs.all pE = true → us.any (eqU x) = xs.any fun y => eqV y x
 | _, _, .nil, _ => rfl
 | y :: xs, u :: us, .cons r t, f => by
  rw [List.all_cons, Bool.and_eq_true] at f
  rw [List.any_cons, List.any_cons, aHX r f.1, pH t f.2]
theorem mQ {A : Around} {s : Shared} {x : V} {v : Value} (rx : bK x v) (fx : pE x = true) : ∀ {xs : List V} {us : List Value}, bL xs us → xs.all pE = true → ∀ u ∈ us, SeqAt.EqAt A s u v (eqU x u)
 | _, _, .nil, _ => fun u hu => by cases hu
 | y :: xs, u :: us, .cons r t, f => fun u' hu => by
  rw [List.all_cons, Bool.and_eq_true] at f
  rcases List.mem_cons.mp hu with rfl | hu
  ·rw [aHX r f.1]; exact lM r rx f.1 fx
  ·exact mQ rx fx t f.2 u' hu
def inV (x : V) (xs : List V) : Bool := xs.any fun y => eqV y x
def rIn (K : PySem.W.Frag) (neg : Bool) : R2 := fun x y H Q => ∃ p xs, y = .ref p ∧ (SqL K H p xs ∨ SqT K H p xs) ∧ pE x = true ∧ xs.all pE = true ∧ Q (.bl (if neg then !inV x xs else inV x xs)) H
theorem aEK : OpR X (compareOp .In) (rIn X.K false) := by
 intro pins s σ H x y v u Q I rx ry h
 obtain ⟨p, xs, rfl, hq, fx, fs, q⟩ := h
 cases ry
 rcases hq with hq | hq
 ·obtain ⟨its, r, pl, hz⟩ := I.list hq
  refine SeqAt.in_listAt (eqU x) pl.isList (fun w hw => mQ rx fx r fs w (by simpa using hw)) ⟨.bl _, H, I, rfl, ?_⟩
  rw [show its.toArray.any (eqU x) = its.any (eqU x) by simp, pH r fs]
  exact q
 ·obtain ⟨its, r, pl, hz⟩ := I.tuple hq
  refine SeqAt.in_tupleAt (eqU x) pl (fun w hw => mQ rx fx r fs w (by simpa using hw)) ⟨.bl _, H, I, rfl, ?_⟩
  rw [show its.toArray.any (eqU x) = its.any (eqU x) by simp, pH r fs]
  exact q
theorem xJ : OpR X (compareOp .NotIn) (rIn X.K true) := by
 intro pins s σ H x y v u Q I rx ry h
 obtain ⟨p, xs, rfl, hq, fx, fs, q⟩ := h
 cases ry
 rcases hq with hq | hq
 ·obtain ⟨its, r, pl, hz⟩ := I.list hq
  refine SeqAt.notIn_listAt (eqU x) pl.isList (fun w hw => mQ rx fx r fs w (by simpa using hw)) ⟨.bl _, H, I, rfl, ?_⟩
  rw [show its.toArray.any (eqU x) = its.any (eqU x) by simp, pH r fs]
  exact q
 ·obtain ⟨its, r, pl, hz⟩ := I.tuple hq
  refine SeqAt.notIn_tupleAt (eqU x) pl (fun w hw => mQ rx fx r fs w (by simpa using hw)) ⟨.bl _, H, I, rfl, ?_⟩
  rw [show its.toArray.any (eqU x) = its.any (eqU x) by simp, pH r fs]
  exact q
theorem yH : gO X (.builtin "len") (fun xs H Q => ∃ p ys, xs = [.ref p] ∧ (SqL X.K H p ys ∨ SqT X.K H p ys) ∧ Q (.int ys.length) H) := by
 intro pins s σ H xs us Q I r h
 obtain ⟨p, ys, rfl, hq, q⟩ := h
 obtain ⟨u, rfl, rx⟩ := aFI r
 cases rx
 have hn := tK
 rcases hq with hq | hq
 ·obtain ⟨its, r', pl, hz⟩ := I.list hq
  have hlen := r'.length
  exact Calls.call_len_list pl.isList (by simp only [List.size_toArray] <;> omega) ⟨.int ys.length, H, I.tok _, ⟨s.toks + 1, by rw [List.size_toArray, hlen]⟩, q⟩
 ·obtain ⟨its, r', pl, hz⟩ := I.tuple hq
  have hlen := r'.length
  exact len_tuple pl (by simp only [List.size_toArray] <;> omega) ⟨.int ys.length, H, I.tok _, ⟨s.toks + 1, by rw [List.size_toArray, hlen]⟩, q⟩
theorem yG : gO X (.builtin "len") (fun xs H Q => ∃ z, xs = [.str z] ∧ z.length ≤ sizeLine ∧ Q (.int z.length) H) := by
 intro pins s σ H xs us Q I r h
 obtain ⟨z, rfl, hz, q⟩ := h
 obtain ⟨u, rfl, t, rfl⟩ := aFI r
 have hn := tK
 exact len_str (by omega) ⟨.int z.length, H, I.tok _, ⟨_, rfl⟩, q⟩
theorem yF : gO X (.type "list") (fun xs H Q => ∃ p ys, xs = [.ref p] ∧ (SqL X.K H p ys ∨ SqT X.K H p ys) ∧ ∀ l, H l = none → Q (.ref l) (upd H l (.lst ys))) := by
 intro pins s σ H xs us Q I r h
 obtain ⟨p, ys, rfl, hq, q⟩ := h
 obtain ⟨u, rfl, rx⟩ := aFI r
 cases rx
 have fin : ∀ (its : List Value), bL ys its → ys.length ≤ sizeLine → ∀ (h' : Heap) (c' : Nat), (∀ b o', s.heap.get? b = some o' → h'.get? b = some o') →
   h'.get? s.heap.objs.size = some { cls := .type "list", dict := none, data := .seq its.toArray c', slots := #[] } → EP X pins σ Q (.ref s.heap.objs.size) { s with heap := h' } := fun its r' hz h' c' kp e =>
  ⟨.ref s.heap.objs.size, _, I.laid (t' := s.toks) kp (Nat.le_refl _) (show cJ X.prog X.w _ h' _ (.lst ys) from ⟨hz, its, c', r', e⟩), rfl, q _ (I.hok.fresh (Nat.le_refl _))⟩
 rcases hq with hq | hq
 ·obtain ⟨its, r', pl, hz⟩ := I.list hq
  have hlen := r'.length
  obtain ⟨o, ho, hc, n, hd⟩ := pl.isList
  exact call_list_seq p (.inl rfl) ho hc hd (fun h' c' kp e => fin its r' hz h' c' kp e) (by simp only [List.size_toArray] <;> omega)
 ·obtain ⟨its, r', pl, hz⟩ := I.tuple hq
  have hlen := r'.length
  obtain ⟨o, ho, hc, n, hd⟩ := pl
  exact call_list_seq p (.inr rfl) ho hc hd (fun h' c' kp e => fin its r' hz h' c' kp e) (by simp only [List.size_toArray] <;> omega)
def tyV (K : PySem.W.Frag) (T : String) (x : V) (H : Hp) : Prop := match x with
 | .str _ => T = "str"
 | .int _ => T = "int"
 | .ref p => (T = "list" ∧ ∃ xs, SqL K H p xs) ∨ (T = "tuple" ∧ ∃ o, K.lookup p = some o ∧ o.cls = .type "tuple" ∧ o.dict = none) ∨
   (T = "dict" ∧ ((∃ kvs, H p = some (.dK kvs)) ∨ ∃ kvs, H p = some (.dT kvs))) ∨ (T = "set" ∧ ∃ S n, H p = some (.set S n)) ∨ (T = "tuple" ∧ ∃ xs, H p = some (.tup xs))
 | _ => False
theorem aFK {pins : List (Addr × Obj)} {σ : St} {H : Hp} {s : Shared} {T : String} {x : V} {v : Value} (I : Inv X pins σ H s) (r : bK x v) (ty : tyV X.K T x H) :
  s.TypeIs v T ∧ ∀ a, v = .ref a → ∃ ob, s.heap.get? a = some ob ∧ ob.dict = none := by
 cases x with
 | str z =>
  obtain ⟨t, rfl⟩ := r
  cases (show T = "str" from ty)
  exact ⟨typeIs_str s z t, fun _ e => nomatch e⟩
 | int i =>
  obtain ⟨t, rfl⟩ := r
  cases (show T = "int" from ty)
  exact ⟨typeIs_int s i t, fun _ e => nomatch e⟩
 | ref p =>
  cases r
  rcases ty with ⟨rfl, xs, hq⟩ | ⟨rfl, o, hk, hc, hd⟩ | ⟨rfl, hk⟩ | ⟨rfl, S, n, hk⟩ | ⟨rfl, xs, hk⟩
  ·obtain ⟨its, _, pl, _⟩ := I.list hq
   refine ⟨pl.isList.typeIs, fun a e => ?_⟩
   cases e
   obtain ⟨o, n, e, c, hd, _⟩ := pl
   exact ⟨o, e, hd⟩
  ·refine ⟨⟨o, I.kIn p o hk, hc⟩, fun a e => ?_⟩
   cases e
   exact ⟨o, I.kIn _ o hk, hd⟩
  ·have z : ∃ o, s.heap.get? p = some o ∧ o.ExactDict := by
    rcases hk with ⟨kvs, hk⟩ | ⟨kvs, hk⟩
    ·obtain ⟨_, _, _, _, o, _, _, e, ex, _⟩ := I.hok p _ hk
     exact ⟨o, e, ex⟩
    ·obtain ⟨_, _, _, _, o, _, _, e, ex, _⟩ := I.hok p _ hk
     exact ⟨o, e, ex⟩
   obtain ⟨o, e, ex⟩ := z
   refine ⟨⟨o, e, ex.1⟩, fun a e2 => ?_⟩
   cases e2
   exact ⟨o, e, ex.2.1⟩
  ·obtain ⟨o, _, _, _, e, ex, _⟩ := I.hok p _ hk
   refine ⟨⟨o, e, ex.1⟩, fun a e2 => ?_⟩
   cases e2
   exact ⟨o, e, ex.2.1⟩
  ·obtain ⟨_, _, _, o, e, hc, _, _, hd⟩ := (show cJ X.prog X.w H s.heap p (.tup xs) from I.hok p _ hk)
   refine ⟨⟨o, e, hc⟩, fun a e2 => ?_⟩
   cases e2
   exact ⟨o, e, hd⟩
 | _ => exact False.elim ty
def aNY (K : PySem.W.Frag) (T : String) (r : V → List V → Hp → VK → Prop) (to : TE) : TE := fun σ H Q => to σ H fun x H1 => tyV K T x H1 ∧ r x [] H1 Q
def tBM (K : PySem.W.Frag) (T : String) (r : V → List V → Hp → VK → Prop) (to : TE) (t : TA) : TE := fun σ H Q => to σ H fun x H1 => tyV K T x H1 ∧ t σ H1 fun xs H2 => r x xs H2 Q
variable {o e : Expr} {es : List Expr} {to : TE} {t : TA} {name : Str} {apos cpos : Pos} {T id : String} {r : V → List V → Hp → VK → Prop}
theorem aKY (pa : PlainAttrs T) (slot : Slot T name id) (hty : typeOf (.builtin id) = pure (.type "method_descriptor")) (hm : MtR X id r) (ho : PE X o to)
  (hbase : attributeBase o name X.env (eval o X.env) = eval o X.env := by rfl) (hline : (apos.endLine == cpos.line) = true := by rfl) : PE X (.Call (.Attribute o name apos) [] [] cpos) (aNY X.K T r to) := by
 intro pins s σ H Q I h
 refine wpAny_Call_method0_late hbase hline (thn (ho pins s σ H _ I h) fun v s1 ⟨x, H1, I1, r1, ty, q1⟩ => ?_)
 obtain ⟨h1, h2⟩ := aFK I1 r1 ty
 exact ⟨T, id, pa, slot, hty, h1, h2, Calls.callWith_builtin rfl (PySem.evalArgs_none (hm pins s1 σ H1 x [] v [] Q I1 r1 .nil q1))⟩
theorem lQ (pa : PlainAttrs T) (slot : Slot T name id) (hty : typeOf (.builtin id) = pure (.type "method_descriptor")) (hm : MtR X id r) (ho : PE X o to) (ha : PA X (e :: es) t)
  (hbase : attributeBase o name X.env (eval o X.env) = eval o X.env := by rfl)
  (hfew : ((backTo cpos (starEach (e :: es) X.env)).all (fun x => !x.1) && (backToKw cpos (keywordEach [] X.env)).all (fun x => x.1.isSome)
   && decide ((e :: es).length + ([] : List Keyword).length + (if ([] : List Keyword).isEmpty then 0 else 1) < 30)) = true := by rfl)
  (hline : (apos.endLine == cpos.line) = true := by rfl) (hs : starEach (e :: es) X.env = (false, eval e X.env) :: starEach es X.env := by rfl) (hplain : (backTo cpos (starEach es X.env)).any (·.1) = false := by rfl) :
  PE X (.Call (.Attribute o name apos) (e :: es) [] cpos) (tBM X.K T r to t) := by
 intro pins s σ H Q I h
 refine wpAny_Call_method_late hbase hfew hline rfl (thn (ho pins s σ H _ I h) fun v s1 ⟨x, H1, I1, r1, ty, q1⟩ => ?_)
 obtain ⟨h1, h2⟩ := aFK I1 r1 ty
 refine ⟨T, id, pa, slot, hty, h1, h2, ?_⟩
 have hA := ha cpos pins s1 σ H1 _ I1 q1
 rw [hs] at hA ⊢
 refine Calls.callWith_builtin (by show (false || (backTo cpos (starEach es X.env)).any (·.1)) = false; rw [hplain] <;> rfl) (Calls.evalArgs_plain ?_)
 exact thn hA fun us s2 ⟨vs, H2, I2, r2, q2⟩ => hm pins s2 σ H2 x vs v us Q I2 r1 r2 q2
end
end L2
namespace L2
open PySem PySem.Spec PyProof.Rows
def MtM (X : Cx) (id : String) (r : V → List V → Hp → VK → Prop) : Prop :=
 ∀ (pins : List (Addr × Obj)) (s : Shared) (σ : St) (H : Hp) (x : V) (xs : List V) (v : Value) (us : List Value) (Q : VK), Inv X pins σ H s → bK x v → bL xs us → r x xs H Q →
  wpAny (model X.prog X.w) X.A (call (.builtin id) (v :: us)) (EP X pins σ Q) X.xe s
theorem bL.one : ∀ {x : V} {us : List Value}, bL [x] us → ∃ u, us = [u] ∧ bK x u
 | _, _, .cons r .nil => ⟨_, rfl, r⟩
theorem bL.two : ∀ {x y : V} {us : List Value}, bL [x, y] us → ∃ u v, us = [u, v] ∧ bK x u ∧ bK y v
 | _, _, _, .cons r (.cons q .nil) => ⟨_, _, rfl, r, q⟩
theorem bL.zero : ∀ {us : List Value}, bL [] us → us = []
 | _, .nil => rfl
theorem bL.eraseIdx : ∀ {xs : List V} {us : List Value} (i : Nat), bL xs us → bL (xs.eraseIdx i) (us.eraseIdx i)
 | _, _, _, .nil => .nil
 | _, _, 0, .cons _ t => t
 | _, _, i + 1, .cons r t => .cons r (bL.eraseIdx i t)
theorem vS {α : Type} : ∀ (l : List α) (i : Nat), (l.eraseIdx i).length ≤ l.length
 | [], _ => Nat.le_refl _
 | _ :: _, 0 => Nat.le_succ _
 | _ :: r, i + 1 => Nat.succ_le_succ (vS r i)
section
variable {X : Cx} {pins : List (Addr × Obj)} {σ : St} {H : Hp} {s : Shared} {l b : Addr} {xs ys zs : List V}
theorem Inv.lset {its its' : List Value} {n : Nat} {f : Array Value → Array Value} {t' : Nat} (I : Inv X pins σ H s) (hH : H l = some (.lst xs))
  (e : s.heap.get? l = some { cls := .type "list", data := .seq its.toArray n }) (hf : f its.toArray = its'.toArray) (hv : bL ys its') (hz : ys.length ≤ sizeLine) :
  Inv X pins σ (upd H l (.lst ys)) { s with heap := s.heap.update l (Obj.mapSeq f), toks := t' } := by
 have q := PySem.IsL.update e f
 rw [hf] at q
 refine I.write (x := l) (e := l) (by rw [hH]; exact trivial) (.inl rfl) (fun b' u hb hu => (Heap.get?_update_other s.heap (Obj.mapSeq f) (Ne.symm hb)).trans hu) ⟨_, q⟩ ?_
 exact ⟨hz, its', _, hv, q⟩
theorem Inv.lnew {its : List Value} {t' : Nat} (I : Inv X pins σ H s) (hv : bL ys its) (hz : ys.length ≤ sizeLine) :
  Inv X pins σ (upd H s.heap.objs.size (.lst ys)) { s with heap := s.heap.push { cls := .type "list", data := .seq its.toArray }, toks := t' } :=
 I.laid (fun _ _ q => Heap.get?_push_of_some _ q) (Nat.le_refl _) ⟨hz, its, 0, hv, Heap.get?_push_size _ rfl⟩
theorem Inv.fresh (I : Inv X pins σ H s) : H s.heap.objs.size = none := I.hok.fresh (Nat.le_refl _)
theorem Inv.lstM (I : Inv X pins σ H s) (hH : H l = some (.lst xs)) : xs.length ≤ sizeLine ∧ ∃ (its : List Value) (n : Nat), bL xs its ∧ xs.length = its.length ∧ s.heap.get? l = some { cls := .type "list", data := .seq its.toArray n } := by
 obtain ⟨z, its, n, r, e⟩ := I.hok l _ hH
 exact ⟨z, its, n, r, r.length, e⟩
end
section
variable {X : Cx}
def aIT : V → List V → Hp → VK → Prop := fun x vs H Q => ∃ l xs y, x = .ref l ∧ vs = [y] ∧ H l = some (.lst xs) ∧ xs.length < sizeLine ∧ Q .non (upd H l (.lst (xs ++ [y])))
theorem eM : MtM X "list.append" aIT := by
 intro pins s σ H x vs v us Q I rx rv h
 obtain ⟨l, xs, y, rfl, rfl, hH, hz, q⟩ := h
 cases rx
 obtain ⟨u, rfl, ru⟩ := rv.one
 obtain ⟨z, its, n, r, hl, e⟩ := I.lstM hH
 refine call_meets F.slot_list_append ⟨_, e, rfl⟩ F.entry_list_append (F.args_list_append_2 _ _) (PySem.list_append l its.toArray n u (by rw [List.size_toArray]; omega)) ⟨e, ?_⟩
 refine ⟨.non, _, I.lset (its' := its ++ [u]) hH e (by simp) (r.append (.cons ru .nil)) ?_, rfl, q⟩
 rw [List.length_append, List.length_singleton]
 omega
def aKU : V → List V → Hp → VK → Prop := fun x vs H Q => ∃ l xs i k y, x = .ref l ∧ vs = [.int i] ∧ H l = some (.lst xs) ∧ -(2 ^ 63) ≤ i ∧ i < 2 ^ 63 ∧ seqIndex? i xs.length = some k ∧ xs[k]? = some y ∧ Q y (upd H l (.lst (xs.eraseIdx k)))
theorem aGZ : MtM X "list.pop" aKU := by
 intro pins s σ H x vs v us Q I rx rv h
 obtain ⟨l, xs, i, k, y, rfl, rfl, hH, h1, h2, hk, hy, q⟩ := h
 cases rx
 obtain ⟨u, rfl, ru⟩ := rv.one
 obtain ⟨t, rfl⟩ := ru
 obtain ⟨z, its, n, r, hl, e⟩ := I.lstM hH
 obtain ⟨w, hw, rw'⟩ := r.get hy
 refine call_meets F.slot_list_pop ⟨_, e, rfl⟩ F.entry_list_pop (F.args_list_pop_2 _ _)
  (MeetsSeq.list_pop_at l its.toArray n i t k w (fitsIndex_both h1 h2) (by rw [List.size_toArray, ← hl]; exact hk) (by rw [← Array.getElem?_toList]; exact hw) (by rw [List.size_toArray]; omega)) ⟨e, ?_⟩
 refine ⟨y, _, I.lset (its' := its.eraseIdx k) hH e ?_ (r.eraseIdx k) ?_, rw', q⟩
 ·show its.toArray.eraseIdxIfInBounds k = (its.eraseIdx k).toArray
  rw [List.eraseIdxIfInBounds_toArray]
 ·have := vS xs k
  omega
def aOD : R2 := fun x y H Q => ∃ l b xs zs, x = .ref l ∧ y = .ref b ∧ H l = some (.lst xs) ∧ H b = some (.lst zs) ∧ xs.length + zs.length ≤ sizeLine ∧ ∀ p, H p = none → Q (.ref p) (upd H p (.lst (xs ++ zs)))
theorem pO : OpR X (binaryOp .Add) aOD := by
 intro pins s σ H x y v u Q I rx ry h
 obtain ⟨l, b, xs, zs, rfl, rfl, hH, hB, hz, q⟩ := h
 cases rx
 cases ry
 obtain ⟨z, its, n, r, hl, e⟩ := I.lstM hH
 obtain ⟨z2, its2, n2, r2, hl2, e2⟩ := I.lstM hB
 refine PySem.P.add_list e e2 ?_ (by rw [List.size_toArray, List.size_toArray]; omega)
 have ea : its.toArray ++ its2.toArray = (its ++ its2).toArray := by simp
 rw [ea]
 exact ⟨.ref _, _, I.lnew (t' := s.toks) (r.append r2) (by rw [List.length_append]; omega), rfl, q _ I.fresh⟩
end
section
variable {prog : Program} {w : World} {A : Around} {E : Value → Shared → Prop} {s : Shared}
end
section
variable {X : Cx}
end
end L2
namespace Att
open PySem PySem.W PySem.Calls PyProof.Rows
theorem rE {P : Params} {h : Heap} : ∀ (ns : List Int) (vs : List Value), WellAll P h vs (ns.map WData.int) → IntsAre vs ns := by
 intro ns
 induction ns with
 | nil =>
  intro vs w
  rw [List.map_nil] at w
  cases w
  exact .nil
 | cons n ns ih =>
  intro vs w
  rw [List.map_cons] at w
  cases w with
  | cons a b =>
   cases a
   exact .cons _ _ (ih _ b)
theorem aEC {l : OpenLaw} {n : Nat} (hn : l.most = some n) {P : Params} {h : Heap} {args : List WData} {vals : List Value}
  (hpre : l.row.toRowW.claim.pre args = true) (hwl : WellAll P h vals args) :
  ∃ a vs ns, vals = [Value.ref a] ∧ args = [WData.list (ns.map WData.int)] ∧ h.get? a = some { cls := .type "list", data := .seq vs.toArray } ∧ IntsAre vs ns ∧ ns.length ≤ n := by
 have hsh : WShape.hasAll [] args [.list .int] = true := (pre_splitW hpre).1
 have hc : l.pre.holds [] { args := args } = true := (pre_splitW hpre).2
 obtain ⟨d, r, rfl, h1, h2⟩ := hasAllW_cons hsh
 obtain rfl := hasAllW_nil h2
 obtain ⟨xs, rfl, h3⟩ := hasW_list h1
 obtain ⟨ns, rfl⟩ := items_int h3
 have hlen : ns.length ≤ n := by
  unfold OpenLaw.pre at hc
  have h4 : (WTm.not (.lt (.lit (.int (n : Int))) (.len (.arg 0)))).holds [] { args := [.list (ns.map .int)] } = true := by
   have h4 := (holds_andW hc).1
   rw [hn] at h4
   exact h4
  have h5 := condW_of h4 (w_not (w_lt w_lit (w_len_list (w_arg rfl))))
  rw [List.length_map] at h5
  refine Nat.le_of_not_lt fun q => ?_
  have q' : (n : Int) < ((ns.length : Nat) : Int) := by omega
  first
   | (rw [decide_eq_true q'] at h5; exact absurd h5 (by decide))
   | (simp at h5; omega)
 cases hwl with
 | cons w1 w2 =>
  cases w2
  cases w1 with
  | list ho hall => exact ⟨_, _, ns, rfl, rfl, ho, rE ns _ hall, hlen⟩
theorem aEH (l : OpenLaw) (args : List WData) : l.row.toRowW.claim.post args (.bool true) args = true :=
 postW_of (r := l.row.toRowW) (X := (true == true))
  (show WShape.has [] (.bool true) .bool = true by first | rfl | decide | simp [WShape.has, WShape.arms, WShape.armsAll])
  (show (WTm.eq .res (.lit (.bool true))).value [] { args := args, res := some (.bool true), after := args } = some (.bool (true == true)) from w_eq_bool (w_res rfl) w_lit) rfl
theorem attach_call {l : OpenLaw} {n : Nat} {q : Program} {loose : List Str} {XP : (Str → Option Value) → Heap → Prop} {YP : World → Heap → Prop} {d : DefRec}
  (hn : l.most = some n) (hdf : d.params.defaults = [])
  (call : ∀ (w : World) (s₀ s₁ : Shared) (mg mb : Str → Option Value) (fa : Addr) (o : Obj) (pm cd doc : Value) (a : Addr) (vs : List Value) (ns : List Int),
   Ground q loose [] XP w s₀ mg mb s₁.heap → YP w s₁.heap →
   s₁.heap.get? fa = some o → o.data = .func (docDef d.name d.params d.body d.scope pm cd doc) → s₁.heap.CodeRec cd d.name → mg d.name = some (.ref fa) →
   s₁.heap.get? a = some { cls := .type "list", data := .seq vs.toArray } → IntsAre vs ns → ns.length ≤ n → s₁.gens = #[] →
   codeAny (model l.prog w) callerA (.call (.ref fa) ⟨[.ref a], []⟩) (fun r s' => r = .ok (.ret (.bool true)) ∧ OldK s₁.heap s'.heap ∧ s'.os = s₁.os ∧ AllBare s'.gens) s₁) :
  WalkO q loose XP YP l.row.toRowW d [] (fun f vs => PySem.call f vs) := by
 intro w s₀ s₁ mg mb G Y fa o pm cd doc dV kV ho hd hcd hD hmg hg args vals as hpre hlay hrd hwl hlo
 obtain rfl : dV = .none := Dflts.none hD hdf
 obtain rfl : kV = .none := Dflts.noKw hD
 obtain ⟨a, vs, ns, rfl, rfl, hobj, hints, hlen⟩ := aEC hn hpre hwl
 refine enter_call (codeAny_mono (call w s₀ s₁ mg mb fa o pm cd doc a vs ns G Y ho (fd_plain hd) hcd hmg hobj hints hlen hg) fun r s' hq => ?_)
 obtain ⟨rfl, h2, h3, h4⟩ := hq
 exact ⟨.inl ⟨.bool true, .bool true, [], rfl, fun _ => rfl, .bool true, aEH l _, fun _ => ⟨List.Pairwise.nil, fun _ hm => (nomatch hm)⟩⟩, h2, h3, h4⟩
section
variable {prog : Program} {w : World} {A : Around} {E : Value → Shared → Prop} {s : Shared} {K : Frag}
def noObjs (h : Heap) : Heap := { h with objs := #[] }
def ledger (h : Heap) (L d : Addr) : List (Addr × Obj) := (List.range h.objs.size).filterMap fun a => if a = L ∨ a = d then none else (h.get? a).map fun o => (a, o)
end
end Att
namespace L2
open PySem PySem.Spec PyProof.Rows
theorem uV : ∀ {vs : List Value} {ns : List Int}, IntsAre vs ns → bL (ns.map V.int) vs
 | _, _, .nil => .nil
 | _, _, .cons n t h => .cons ⟨t, rfl⟩ (uV h)
def aLS (H : Hp) : Prop := ∀ b, H b = none ∨ ∃ o xs, H b = some (.frz o (.lst xs))
theorem aHD {P : Program} {w : World} {K : PySem.W.Frag} {mg mb : Str → Option Value} {CX : CXT} {k : Nat} {fa a : Addr} {fd : FuncData} {x : Str} {sp : Sp} {s₁ : Shared} {vs : List Value} {ns : List Int}
  (KX : K.In s₁.heap) (hns : s₁.heap.Ns mainGlobals mg) (hb : s₁.heap.Ns builtinsNs mb) (hbb : ∀ x : Str, x ≠ "__name__" → mb x = bootBuiltins x) (hlim : s₁.heap.NoLimit) (hg : s₁.gens = #[])
  (ha : s₁.heap.get? a = some { cls := .type "list", data := .seq vs.toArray }) (hi : IntsAre vs ns) (hl : ns.length ≤ sizeLine) (hr : Room k callerA)
  (F : ∀ base : Heap, K.In base → base.Ns mainGlobals mg → FnOk P w K mg base CX k fa fd [x] sp) (hbind : ∀ (s : Shared) (u : Value), BindsTo s fd ⟨[u], []⟩ [(x, u)])
  (hsp : ∀ H : Hp, aLS H → SqL K H a (ns.map V.int) → sp [.ref a] H (fun v _ => v = .bl true) fun _ _ _ => False)
  (hCX : ∀ H e s', CX [] H s₁ (fun _ _ _ => False) e s' → False) :
  codeAny (model P w) callerA (.call (.ref fa) ⟨[.ref a], []⟩) (fun r s' => r = .ok (.ret (.bool true)) ∧ OldK s₁.heap s'.heap ∧ s'.os = s₁.os ∧ AllBare s'.gens) s₁ := by
 have rv := uV hi
 have lenV := hi.length
 have core : ∀ H : Hp, aLS H → SqL K H a (ns.map V.int) → HOk P w H s₁.heap → (∀ b, H b ≠ none → b = a) → (H a ≠ none → K.lookup a = none) →
   codeAny (model P w) callerA (.call (.ref fa) ⟨[.ref a], []⟩) (fun r s' => r = .ok (.ret (.bool true)) ∧ OldK s₁.heap s'.heap ∧ s'.os = s₁.os ∧ AllBare s'.gens) s₁ := by
  intro H hO hS hok hA hK
  have base_of : ∀ {b : Addr} {o : Obj}, s₁.heap.get? b = some o → H b = none → (xZ s₁.heap H).get? b = some o := fun e n => aHM e n
  have noA : ∀ {b : Addr} {o : Obj} {es : Array DictEntry} {ep : Nat}, s₁.heap.get? b = some o → o.data = .dict es ep → H b = none := fun {b o es ep} e d => by
   cases q : H b with
   | none => rfl
   | some u =>
    have e' : b = a := hA b (by rw [q]; simp)
    subst e'
    rw [ha] at e; cases e
    have d' : Data.seq vs.toArray _ = Data.dict es ep := d
    cases d'
  have nsK : ∀ {b : Addr} {m : Str → Option Value}, s₁.heap.Ns b m → (xZ s₁.heap H).Ns b m := fun {b m} ⟨o, es, ep, e, d, r⟩ => ⟨o, es, ep, base_of e (noA e d), d, r⟩
  have hKb : K.In (xZ s₁.heap H) := fun b o e => base_of (KX b o e) (by
   cases q : H b with
   | none => rfl
   | some u =>
    have e' : b = a := hA b (by rw [q]; simp)
    subst e'
    rw [hK (by rw [q]; simp)] at e; cases e)
  have hM : Mod K mg (xZ s₁.heap H) := ⟨hKb, nsK hns, ⟨mb, nsK hb, hbb⟩, let ⟨mc, h1, h2⟩ := hlim; ⟨mc, nsK h1, h2⟩⟩
  have e0 : Env0 P w K mg (xZ s₁.heap H) callerA [] s₁ H := ⟨rfl, hM, fun b o e => aJC e, Nat.le_of_eq (aES _ _), trivial, fun b hb => absurd (show b ∈ ([] : List Addr) from hb) (by simp), hok, .of_eq hg⟩
  refine codeAny_mono ((F _ hKb (nsK hns)).run callerA [] s₁ H ⟨[.ref a], []⟩ [.ref a] [.ref a] _ _ hr e0 (hbind s₁ (.ref a)) (.cons rfl .nil) (hsp H hO hS)) fun r s' h => ?_
  cases r with
  | error e => exact (hCX H e s' h).elim
  | ok fl =>
   cases fl with
   | next => exact False.elim h
   | brk => exact False.elim h
   | cont => exact False.elim h
   | ret u =>
    obtain ⟨v, H', os, bare, un, hok', r', q⟩ := h
    have q' : v = .bl true := q
    subst q'
    obtain rfl : u = Value.bool true := r'
    refine ⟨rfl, OldK.of_keep fun b o e => ?_, os, bare⟩
    cases q : H b with
    | none => exact un.keep b o e q (by intro z; exact absurd (show b ∈ ([] : List Addr) from z) (by simp)) (by simp)
    | some u =>
     rcases hO b with z | ⟨ob, xs, z⟩
     ·rw [q] at z; cases z
     ·have z2 := un.frzs b ob _ z
      obtain ⟨e1, _⟩ := hok b _ z
      obtain ⟨e2, _⟩ := hok' b _ z2
      rw [e] at e1; cases e1
      exact e2
 cases hk : K.lookup a with
 | some o =>
  have e := KX a o hk
  rw [ha] at e
  cases e
  refine core (fun _ => none) (fun _ => .inl rfl) (.inr ⟨_, vs.toArray, _, hk, rfl, rfl, rfl, by rw [List.size_toArray, lenV]; exact hl, by simpa using rv⟩) (fun b u z => by have z' : (none : Option HO) = some u := z; cases z') (fun b z => absurd rfl z) fun z => absurd rfl z
 | none =>
  refine core (fun b => if b = a then some (.frz { cls := .type "list", data := .seq vs.toArray } (.lst (ns.map V.int))) else none) (fun b => ?_) (.inl (.inr ⟨{ cls := .type "list", data := .seq vs.toArray }, if_pos rfl⟩)) (fun b u z => ?_) (fun b z => ?_) fun _ => hk
  ·by_cases hb : b = a
   ·exact .inr ⟨_, _, if_pos hb⟩
   ·exact .inl (if_neg hb)
  ·by_cases hb : b = a
   ·have z' := (if_pos hb).symm.trans z
    cases z'
    subst hb
    exact ⟨ha, by rw [List.length_map]; exact hl, vs, _, rv, ha⟩
   ·have z' := (if_neg hb).symm.trans z
    cases z'
  ·by_cases hb : b = a
   ·exact hb
   ·exact absurd (if_neg hb) z
end L2
namespace L2
open PySem PySem.Spec PyProof.Rows
theorem walk_of {l : PySem.W.OpenLaw} {n k : Nat} {q : Program} {loose : List Str} {XP : (Str → Option Value) → Heap → Prop} {YP : World → Heap → Prop} {d : DefRec} {K : Params → PySem.W.Frag} {CX : World → CXT} {sp : World → Sp} {x : Str}
  (hn : l.most = some n) (hn2 : n ≤ sizeLine) (hdf : d.params.defaults = []) (hr : Room k callerA)
  (hY : ∀ (w : World) (h : Heap), YP w h → (K w.params).In h)
  (F : ∀ (w : World) (mg : Str → Option Value) (fa : Addr) (h : Heap), (K w.params).In h → h.Ns mainGlobals mg → mg d.name = some (.ref fa) →
   ∃ fd : FuncData, (∀ (s : Shared) (u : Value), BindsTo s fd ⟨[u], []⟩ [(x, u)]) ∧
    ∀ base : Heap, (K w.params).In base → base.Ns mainGlobals mg → FnOk l.prog w (K w.params) mg base (CX w) k fa fd [x] (sp w))
  (hsp : ∀ (w : World) (H : Hp) (a : Addr) (ns : List Int), ns.length ≤ n → aLS H → SqL (K w.params) H a (ns.map V.int) → sp w [.ref a] H (fun v _ => v = .bl true) fun _ _ _ => False)
  (hCX : ∀ (w : World) (H : Hp) (s : Shared) (e : Value) (s' : Shared), CX w [] H s (fun _ _ _ => False) e s' → False) :
  PySem.W.WalkO q loose XP YP l.row.toRowW d [] (fun f vs => PySem.call f vs) := by
 refine Att.attach_call hn hdf fun w s₀ s₁ mg mb fa o pm cd doc a vs ns G Y ho hd hcd hmg hobj hints hlen hg => ?_
 have KX := hY w _ Y
 obtain ⟨fd, hb, hF⟩ := F w mg fa _ KX G.T.g hmg
 exact aHD KX G.T.g G.T.b G.T.builtins G.T.nolimit hg hobj hints (Nat.le_trans hlen hn2) hr hF hb (fun H hO hS => hsp w H a ns hlen hO hS) fun H e s' => hCX w H s₁ e s'
end L2
namespace L2
open PySem PySem.Spec PyProof.Rows
def hV (s : Stmt) (j : Nat) : Stmt := match s with
 | .ClassDef _ _ _ body _ _ _ _ _ _ _ => body.getD j (.Pass ⟨0, 0, 0, 0⟩)
 | _ => .Pass ⟨0, 0, 0, 0⟩
def aM (s : Stmt) : Arguments := match s with
 | .FunctionDef _ a _ _ _ _ _ _ _ _ => a
 | _ => { posonlyargs := [], args := [], vararg := none, kwonlyargs := [], kw_defaults := [], kwarg := none, defaults := [] }
def aJ (s : Stmt) : List Stmt := match s with
 | .FunctionDef _ _ b _ _ _ _ _ _ _ => b
 | _ => []
def aD (s : Stmt) : Scope := match s with
 | .FunctionDef _ _ _ _ _ _ sc _ _ _ => sc
 | _ => { kind := .function, names := [], isGenerator := false, isCoroutine := false }
abbrev CX0 : CXT := fun _ _ _ _ _ _ => False
abbrev E0 : XK := fun _ _ _ => False
theorem aDE {X : Cx} : lN CX0 X E0 := fun _ _ _ _ _ _ _ h => h.elim
structure Fun (K : PySem.W.Frag) (x qual : Str) (st : Stmt) (f : Addr) (fd : FuncData) : Prop where
 ex : ∃ (oc : Value) (od : Option Addr) (kV doc pm : Value) (an : Option Addr) (cdv ct : Value) (osl : Array (Option Value)),
  fd = PySem.W.fnOf x qual (aM st) (aJ st) (aD st) .none kV doc pm an cdv ct ∧ K.lookup f = some ⟨oc, od, .func fd, osl⟩ ∧ PySem.W.codeIn K cdv qual = true
 kp : PySem.W.keepIn K (.ref f) = true
section
variable {P : Program} {w : World} {K : PySem.W.Frag} {mg : Str → Option Value} {base : Heap}
theorem Fun.ok {x qual : Str} {st : Stmt} {f : Addr} {fd : FuncData} {N ps : List Str} {k : Nat} {sp : Sp} (F : Fun K x qual st f fd) (S : FnScope N ps (aD st)) (len : ∀ vs H Q E, sp vs H Q E → vs.length = ps.length)
  (hbody : ∀ (cdv : Value) (A : Around) (outer : List Env) (s : Shared) (H : Hp) (vs : List V) (Q : VK) (E : XK), Room k (A.deeper (envOfC qual (aD st) s.heap.objs.size f cdv)) → sp vs H Q E →
   ∃ t, PSs (lA CX0 P w K mg base N qual (aD st) f cdv A outer s H E).nox (aJ st) t ∧ t { nx := fun _ H' => Q .non H', rt := Q } (start N vs) H) : FnOk P w K mg base CX0 (k + 1) f fd ps sp := by
 obtain ⟨oc, od, kV, doc, pm, an, cdv, ct, osl, rfl, lk, hcd⟩ := F.ex
 refine aKI lk hcd S len fun A outer s H vs Q E hr hsp => ?_
 obtain ⟨t, h, q⟩ := hbody cdv A outer s H vs Q E hr hsp
 exact ⟨t, h.nox, q⟩
theorem Fun.binds {x qual : Str} {st : Stmt} {f : Addr} {fd : FuncData} {ps : List Str} (F : Fun K x qual st f fd)
  (h : ∀ (kV doc pm : Value) (an : Option Addr) (cdv ct : Value) (us : List Value), us.length = ps.length → bindArgs (PySem.W.fnOf x qual (aM st) (aJ st) (aD st) .none kV doc pm an cdv ct) ⟨us, []⟩ = pure (ps.zip us)) : gP K fd ps [] := by
 obtain ⟨oc, od, kV, doc, pm, an, cdv, ct, osl, rfl, lk, hcd⟩ := F.ex
 exact .all (h kV doc pm an cdv ct)
theorem qD {x qual : Str} {st : Stmt} {f : Addr} {oc : Value} {od an : Option Addr} {osl : Array (Option Value)} {kV doc pm cdv ct : Value} (l : K.lookup f = some ⟨oc, od, .func (PySem.W.fnOf x qual (aM st) (aJ st) (aD st) .none kV doc pm an cdv ct), osl⟩)
  (c : PySem.W.codeIn K cdv qual = true) (k : PySem.W.keepIn K (.ref f) = true) : Fun K x qual st f (PySem.W.fnOf x qual (aM st) (aJ st) (aD st) .none kV doc pm an cdv ct) := ⟨⟨oc, od, kV, doc, pm, an, cdv, ct, osl, rfl, l, c⟩, k⟩
end
theorem oA {A : Around} {k : Nat} (hr : Room k A) : A.units + 1 < cLine := Nat.lt_of_le_of_lt (Nat.add_le_add_left (by decide : 1 ≤ 64) _) hr.units
section
variable {X : Cx}
theorem pv (i : Nat) {x : Str} {pos : Pos} (hN : X.N[i]? = some x := by rfl) (hv : Vis X.env.scope x := by first | exact Or.inl rfl | exact Or.inr (Or.inl rfl) | exact Or.inr (Or.inr rfl)) (hd : (x == ("__debug__" : Str)) = false := by decide)
  (hcd : (x == ("__classdict__" : Str)) = false := by decide) : PE X (.Name x pos) (aFO i) := aKW hN hv hd hcd
end
theorem bG {A B : Prop} (h : B) : if false = true then A else B := by
 rw [if_neg Bool.false_ne_true]
 exact h
theorem cA {A B : Prop} (h : A) : if true = true then A else B := by
 rw [if_pos rfl]
 exact h
theorem jR {c A B : Prop} [Decidable c] (h1 : c → A) (h2 : ¬ c → B) : if c then A else B := by
 by_cases h : c
 ·rw [if_pos h]
  exact h1 h
 ·rw [if_neg h]
  exact h2 h
def aI (H H' : Hp) : Prop := ∀ b o, H b = some o → H' b = some o
theorem aI.refl (H : Hp) : aI H H := fun _ _ h => h
theorem aI.trans {H H1 H2 : Hp} (a : aI H H1) (b : aI H1 H2) : aI H H2 := fun c o h => b c o (a c o h)
theorem aI.free {H H' : Hp} (e : aI H H') {l : Addr} (h : H' l = Option.none) : H l = Option.none := by
 cases q : H l with
 | none => rfl
 | some o =>
  rw [e l o q] at h
  cases h
theorem aI.seq {K : PySem.W.Frag} {H H' : Hp} {a : Addr} {xs : List V} (e : aI H H') (h : SqL K H a xs) : SqL K H' a xs := by
 rcases h with (h | ⟨o, h⟩) | h
 ·exact .inl (.inl (e _ _ h))
 ·exact .inl (.inr ⟨o, e _ _ h⟩)
 ·exact .inr h
end L2
namespace L2
open PySem PySem.Spec PyProof.Rows
section
variable {X : Cx}
end
section
variable {κ : Type} [DecidableEq κ]
theorem aFJ {kvs : List (κ × V)} {k : κ} (h : fS kvs k = none) : ¬ k ∈ kvs.map (·.1) := by
 intro m
 obtain ⟨p, hp, e⟩ := List.mem_map.mp m
 have q : (kvs.any fun kv => decide (kv.1 = k)) = true := List.any_eq_true.mpr ⟨p, hp, decide_eq_true e⟩
 rw [lZ, h] at q
 exact absurd q (by simp)
theorem aIJ {kvs : List (κ × V)} {k : κ} {v : V} (h : fS kvs k = some v) : k ∈ kvs.map (·.1) := by
 have q : (kvs.any fun kv => decide (kv.1 = k)) = true := by
  rw [lZ, h]
  all_goals rfl
 obtain ⟨p, hp, e⟩ := List.any_eq_true.mp q
 exact List.mem_map.mpr ⟨p, hp, of_decide_eq_true e⟩
end
end L2
namespace Tx
open PySem PySem.Builtin PySem.Builtin.Str
def cl (n d : Nat) : Option Int → Nat
 | none => d
 | some i => (max 0 (min (if i < 0 then i + n else i) n)).toNat
theorem cl_nat (n d k : Nat) : cl n d (some (k : Int)) = min k n := by
 show (max 0 (min (if (k : Int) < 0 then (k : Int) + n else (k : Int)) n)).toNat = min k n
 rw [if_neg (by omega)]
 omega
theorem aKJ (n d : Nat) (hd : d ≤ n) : ∀ o, cl n d o ≤ n
 | none => hd
 | some i => by
  show (max 0 (min (if i < 0 then i + n else i) n)).toNat ≤ n
  omega
theorem aBN (lo hi : Option Int) (n : Nat) : strSliceIndices lo hi 1 n = (List.range (cl n n hi - cl n 0 lo)).map (cl n 0 lo + ·) := by
 have h1 : ∀ (v : Option Int) (d : Nat), d ≤ n → (match v with | none => (d : Int) | some i => if (1 : Int) > 0 then max 0 (min (if i < 0 then i + n else i) n) else max (-1) (min (if i < 0 then i + n else i) (n - 1))) = ((cl n d v : Nat) : Int) := by
  intro v d hd
  cases v with
  | none => rfl
  | some i =>
   show (if (1 : Int) > 0 then max 0 (min (if i < 0 then i + n else i) n) else max (-1) (min (if i < 0 then i + n else i) (n - 1))) = (((max 0 (min (if i < 0 then i + n else i) n)).toNat : Nat) : Int)
   rw [if_pos (by decide)]
   omega
 rw [← sliceRange_one]
 unfold strSliceIndices
 have a := h1 lo 0 (Nat.zero_le _)
 have b := h1 hi n (Nat.le_refl _)
 simp only [show (1 : Int) > 0 by decide, if_true] at a b ⊢
 congr 1
theorem slice_codes (x : Str) (lo hi : Option Int) : (Txt.slice x lo hi).cps.toList = (x.cps.toList.drop (cl x.length 0 lo)).take (cl x.length x.length hi - cl x.length 0 lo) := by
 unfold Txt.slice
 rw [aBN]
 split
 ·rename_i h
  have h' : cl x.length x.length hi - cl x.length 0 lo = x.length := by
   have := (Bool.and_eq_true_iff.mp h).2
   have := beq_iff_eq.mp this
   simpa using this
  have h2 := aKJ x.length x.length (Nat.le_refl _) hi
  have h4 := aKJ x.length 0 (Nat.zero_le _) lo
  have h3 : cl x.length 0 lo = 0 := by omega
  rw [h', h3, List.drop_zero, List.take_of_length_le]
  show x.cps.toList.length ≤ x.cps.size
  simp
 ·rw [pick_run]
theorem app_codes (a b : Str) : (a ++ b).cps.toList = a.cps.toList ++ b.cps.toList := by
 simp [Str.cps_append]
theorem app_len (a b : Str) : (a ++ b).length = a.length + b.length := Str.length_append a b
end Tx
set_option maxHeartbeats 4000000
namespace L2
open PySem PySem.Spec PyProof.Rows
theorem mW {env : Env} {f : (Str × NameKind) → List (Str × Addr) → Sem (ForInStep (List (Str × Addr)))}
  (hf : ∀ n k cs, f (n, k) cs = if (k == NameKind.free) = true then (cellOf env n >>= fun c => pure (ForInStep.yield ((n, c) :: cs))) else pure (ForInStep.yield cs)) :
  ∀ (names : List (Str × NameKind)) (acc : List (Str × Addr)),
  (∀ y ∈ names, y.2 = .free → ∃ c, env.cells.lookup y.1 = some c) →
  (∀ x c, acc.lookup x = some c → env.cells.lookup x = some c) →
  ∃ cl, forIn names acc f = (pure cl : Sem _) ∧ (∀ x c, cl.lookup x = some c → env.cells.lookup x = some c) ∧ (∀ x c, acc.lookup x = some c → ∃ d, cl.lookup x = some d) ∧
   ∀ x, (x, NameKind.free) ∈ names → ∃ c, cl.lookup x = some c
 | [], acc, _, ha => ⟨acc, rfl, ha, fun x c e => ⟨c, e⟩, fun x m => absurd m (by simp)⟩
 | (n, k) :: r, acc, hn, ha => by
  have hr : ∀ y ∈ r, y.2 = .free → ∃ c, env.cells.lookup y.1 = some c := fun y hy => hn y (List.mem_cons_of_mem _ hy)
  by_cases hk : k = .free
  ·subst hk
   obtain ⟨c, hc⟩ := hn (n, .free) List.mem_cons_self rfl
   have hcell : cellOf env n = pure c := by
    have hc' : env.cells.lookup n = some c := hc
    unfold cellOf
    rw [hc']
   have ha' : ∀ x d, List.lookup x ((n, c) :: acc) = some d → env.cells.lookup x = some d := fun x d e => by
    by_cases hx : (x == n) = true
    ·rw [List.lookup_cons, hx] at e
     obtain rfl := beq_iff_eq.mp hx
     cases e
     exact hc
    ·have hx' : (x == n) = false := by simpa using hx
     rw [List.lookup_cons, hx'] at e
     exact ha x d e
   obtain ⟨cl, e1, e2, e3, e4⟩ := mW hf r ((n, c) :: acc) hr ha'
   refine ⟨cl, ?_, e2, fun x d e => ?_, fun x m => ?_⟩
   ·rw [List.forIn_cons, hf, if_pos (beq_self_eq_true _), hcell, pure_bind, pure_bind]
    exact e1
   ·by_cases hx : (x == n) = true
    ·exact e3 x c (by rw [List.lookup_cons, hx])
    ·have hx' : (x == n) = false := by simpa using hx
     exact e3 x d (by rw [List.lookup_cons, hx']; exact e)
   ·rcases List.mem_cons.mp m with q | q
    ·have q' : x = n := congrArg Prod.fst q
     subst q'
     exact e3 x c (by rw [List.lookup_cons, beq_self_eq_true])
    ·exact e4 x q
  ·have hk' : (k == NameKind.free) = false := by simpa using hk
   obtain ⟨cl, e1, e2, e3, e4⟩ := mW hf r acc hr ha
   refine ⟨cl, ?_, e2, e3, fun x m => ?_⟩
   ·rw [List.forIn_cons, hf, hk', if_neg Bool.false_ne_true, pure_bind]
    exact e1
   ·rcases List.mem_cons.mp m with q | q
    ·exact absurd (congrArg Prod.snd q).symm hk
    ·exact e4 x q
theorem uG {scope : Scope} {env : Env} (h : ∀ y ∈ scope.names, y.2 = .free → ∃ c, env.cells.lookup y.1 = some c) :
  ∃ cl, closureFor scope env = pure cl ∧ (∀ x c, cl.lookup x = some c → env.cells.lookup x = some c) ∧ ∀ x, (x, NameKind.free) ∈ scope.names → ∃ c, cl.lookup x = some c := by
 obtain ⟨cl, e1, e2, _, e4⟩ := mW (env := env) (f := fun (x : Str × NameKind) cs => match x with | (name, kind) => if (kind == NameKind.free) = true then (cellOf env name >>= fun c => pure (ForInStep.yield ((name, c) :: cs))) else pure (ForInStep.yield cs)) (fun n k cs => rfl) scope.names [] h (fun x c e => by cases e)
 refine ⟨cl, ?_, e2, e4⟩
 have : closureFor scope env = (forIn scope.names [] (fun (x : Str × NameKind) cs => match x with | (name, kind) => if (kind == NameKind.free) = true then (cellOf env name >>= fun c => pure (ForInStep.yield ((name, c) :: cs))) else pure (ForInStep.yield cs)) >>= fun cs => pure cs) := by
  first | rfl | (unfold closureFor; rfl) | (unfold closureFor; simp only [pure_bind, bind_pure])
 rw [this, e1, pure_bind]
theorem iQ {env : Env} : ∀ {names : List (Str × NameKind)} {x : Str}, names.lookup x = some .free →
  (names.map fun (n, k) => if (k == NameKind.free && env.scope.kind == .function && env.kindOf n == some .cell) then (n, NameKind.cell) else (n, k)).lookup x = some .cell ∨
  (names.map fun (n, k) => if (k == NameKind.free && env.scope.kind == .function && env.kindOf n == some .cell) then (n, NameKind.cell) else (n, k)).lookup x = some .free
 | [], _, h => by simp at h
 | (n, k) :: r, x, h => by
  have ih := @iQ env r x
  show List.lookup x ((if (k == NameKind.free && env.scope.kind == .function && env.kindOf n == some .cell) = true then (n, NameKind.cell) else (n, k)) :: _) = _ ∨ List.lookup x ((if (k == NameKind.free && env.scope.kind == .function && env.kindOf n == some .cell) = true then (n, NameKind.cell) else (n, k)) :: _) = _
  cases hx : x == n with
  | true =>
   simp only [List.lookup_cons, hx] at h
   cases h
   by_cases hc : (NameKind.free == NameKind.free && env.scope.kind == .function && env.kindOf n == some .cell) = true
   ·rw [if_pos hc]; left; simp only [List.lookup_cons, hx]
   ·rw [if_neg hc]; right; simp only [List.lookup_cons, hx]
  | false =>
   simp only [List.lookup_cons, hx] at h
   by_cases hc : (k == NameKind.free && env.scope.kind == .function && env.kindOf n == some .cell) = true
   ·rw [if_pos hc]; simp only [List.lookup_cons, hx]; exact ih h
   ·rw [if_neg hc]; simp only [List.lookup_cons, hx]; exact ih h
theorem kQ {env : Env} : ∀ {names : List (Str × NameKind)} {x : Str}, (∀ y ∈ names, y.2 ≠ .cell) →
  ((names.map fun (n, k) => if (k == NameKind.free && env.scope.kind == .function && env.kindOf n == some .cell) then (n, NameKind.cell) else (n, k)).lookup x = some .cell ∨
  (names.map fun (n, k) => if (k == NameKind.free && env.scope.kind == .function && env.kindOf n == some .cell) then (n, NameKind.cell) else (n, k)).lookup x = some .free) → (x, NameKind.free) ∈ names
 | [], _, _, h => by rcases h with h | h <;> simp at h
 | (n, k) :: r, x, hn, h => by
  have ih := @kQ env r x (fun y hy => hn y (List.mem_cons_of_mem _ hy))
  have h' : List.lookup x ((if (k == NameKind.free && env.scope.kind == .function && env.kindOf n == some .cell) = true then (n, NameKind.cell) else (n, k)) :: (r.map fun (n, k) => if (k == NameKind.free && env.scope.kind == .function && env.kindOf n == some .cell) then (n, NameKind.cell) else (n, k))) = some .cell ∨
   List.lookup x ((if (k == NameKind.free && env.scope.kind == .function && env.kindOf n == some .cell) = true then (n, NameKind.cell) else (n, k)) :: (r.map fun (n, k) => if (k == NameKind.free && env.scope.kind == .function && env.kindOf n == some .cell) then (n, NameKind.cell) else (n, k))) = some .free := h
  cases hx : x == n with
  | true =>
   obtain rfl := beq_iff_eq.mp hx
   have hk : k = .free := by
    by_cases hc : (k == NameKind.free && env.scope.kind == .function && env.kindOf x == some .cell) = true
    ·have := (Bool.and_eq_true_iff.mp (Bool.and_eq_true_iff.mp hc).1).1
     exact beq_iff_eq.mp this
    ·rw [if_neg hc] at h'
     simp only [List.lookup_cons, hx] at h'
     rcases h' with e | e
     ·cases e; exact absurd rfl (hn (x, .cell) List.mem_cons_self)
     ·cases e; rfl
   subst hk
   exact List.mem_cons_self
  | false =>
   refine List.mem_cons_of_mem _ (ih ?_)
   by_cases hc : (k == NameKind.free && env.scope.kind == .function && env.kindOf n == some .cell) = true
   ·rw [if_pos hc] at h'; simp only [List.lookup_cons, hx] at h'; exact h'
   ·rw [if_neg hc] at h'; simp only [List.lookup_cons, hx] at h'; exact h'
structure BlkR where
 cl : List (Str × Addr)
 C : Addr
 s₀ : Shared
 H₀ : Hp
 ex : List Addr
abbrev blk (X : Cx) (scope : Scope) (N' : List Str) (R : BlkR) : Cx :=
 { prog := X.prog, w := X.w, K := X.K, mg := X.mg, base := X.base, A := X.A, N := N', s₀ := R.s₀, H₀ := R.H₀, env := compEnvC scope R.cl R.C X.env, outer := X.stack, stack := X.stack, ex := R.ex, fn := fun _ => false, calm := X.calm, pn := [], xe := fun _ _ => False }
def aIH (X : Cx) (ifs : List Expr) (t : TT) : Prop :=
 ∀ (pins : List (Addr × Obj)) (s : Shared) (σ : St) (H : Hp) (Q : Bool → Hp → Prop), Inv X pins σ H s → t σ H Q →
  wpAny (model X.prog X.w) X.A (forIn ifs true fun c r => if r = true then do let ok ← isTrue c X.env (eval c X.env); pure (ForInStep.yield ok) else pure (ForInStep.yield r)) (TP X pins σ Q) X.xe s
def aLX : TT := fun _ H Q => Q true H
theorem cI {X : Cx} : aIH X [] aLX := fun pins s σ H Q I h => wpAny_tests_nil ⟨H, I, h⟩
theorem dO {X : Cx} {c : Expr} {t : TT} (h : PT X c t) : aIH X [c] t := fun pins s σ H Q I hw => wpAny_tests_one (h pins s σ H Q I hw)
def aAM (nt : Nat) (g : TG) : Prop := ∀ x σ H Q, g x σ H Q → g x σ H fun σ2 H2 => Q σ2 H2 ∧ σ2.length = σ.length ∧ ∀ i, nt ≤ i → σ2[i]? = σ[i]?
theorem aX {nt i : Nat} (h : i < nt) : aAM nt (zU i) := fun x σ H Q q =>
 ⟨q, by simp, fun j hj => List.getElem?_set_ne (by omega)⟩
def nC (nt : Nat) (cap : List Nat) (σ : St) : St := List.replicate nt none ++ cap.map fun j => (σ[j]?).join
theorem aFF {nt : Nat} {cap : List Nat} {σ : St} : (nC nt cap σ).length = nt + cap.length := by simp [nC]
theorem wH {nt : Nat} {cap : List Nat} {σ : St} {i : Nat} {v : V} (h : (nC nt cap σ)[i]? = some (some v)) : ∃ j, nt ≤ i ∧ cap[i - nt]? = some j ∧ σ[j]? = some (some v) := by
 unfold nC at h
 by_cases hi : i < nt
 ·rw [List.getElem?_append_left (by simpa using hi), List.getElem?_replicate] at h
  rw [if_pos hi] at h
  cases h
 ·rw [List.getElem?_append_right (by simp; omega), List.length_replicate, List.getElem?_map] at h
  cases e : cap[i - nt]? with
  | none => rw [e] at h; cases h
  | some j =>
   rw [e] at h
   refine ⟨j, by omega, rfl, ?_⟩
   have h' : (σ[j]?).join = some v := by simpa using h
   cases q : σ[j]? with
   | none => rw [q] at h'; cases h'
   | some o => rw [q] at h'; cases o with
    | none => cases h'
    | some z => cases h'; rfl
theorem uF {prog : Program} {w : World} {A : Around} {R : Result → Shared → Prop} {s : Shared} {elt target iter : Expr} {ifs : List Expr} {scope : Scope} {pos : Pos} {it acc : Value} {env : Env} (I : Nat → Shared → Prop)
  (turn : ∀ n s, I n s → wpAny (model prog w) A (pyNext it) (fun r s₁ => match r with
   | none => R (.ok .next) s₁
   | some v => wpAny (model prog w) A (letOwnedTupleGo target it v) (fun _ s₁ => wpAny (model prog w) A (assign target env v) (fun _ s₂ =>
     wpAny (model prog w) A (forIn ifs true fun c r => if r = true then do let ok ← isTrue c env (eval c env); pure (ForInStep.yield ok) else pure (ForInStep.yield r)) (fun ok s₃ =>
      if ok = true then wpAny (model prog w) A (eval elt env) (fun x s₄ =>
       wpAny (model prog w) A (call (.builtin "list.append") [acc, x]) (fun _ s₅ => ∃ m, m < n ∧ I m s₅) (notedBy (model prog w) A env fun e s' => R (.error e) s') s₄) (notedBy (model prog w) A env fun e s' => R (.error e) s') s₃
      else ∃ m, m < n ∧ I m s₃) (notedBy (model prog w) A env fun e s' => R (.error e) s') s₂) (notedBy (model prog w) A env fun e s' => R (.error e) s') s₁) (notedBy (model prog w) A env fun e s' => R (.error e) s') s₁) (notedBy (model prog w) A env fun e s' => R (.error e) s') s)
  (n : Nat) (h : I n s) :
  codeAny (model prog w) A (.compLoop (.ListComp elt [⟨target, iter, ifs, 0⟩] scope pos) 0 it acc env) R s := by
 refine codeAny_loop rfl I (fun n s hI => ?_) n h
 show wpAny _ A ((compTurn (.ListComp elt [⟨target, iter, ifs, 0⟩] scope pos) 0 it acc env).onRaise (fun x => do noteFrame x env; theTreesLotGoes x)) _ _ s
 refine wpAny_noted ?_
 rw [compTurn_list]
 refine wpAny_bind (wpAny_standAt (wpAny_bind (wpAny_mono (turn n s hI) (fun r s₁ h₁ => ?_) fun _ _ h' => h')))
 cases r with
 | none => exact wpAny_pure h₁
 | some v =>
  refine wpAny_bind (wpAny_mono h₁ (fun _ s₁' h₁' => ?_) fun _ _ h' => h')
  refine wpAny_bind (wpAny_mono h₁' (fun _ s₂ h₂ => wpAny_bind (wpAny_mono h₂ (fun ok s₃ h₃ => ?_) fun _ _ h' => h')) fun _ _ h' => h')
  cases ok with
  | false => exact wpAny_pure ⟨rfl, h₃⟩
  | true =>
   exact wpAny_bind (wpAny_bind (wpAny_mono h₃ (fun x s₄ h₄ => wpAny_bind (wpAny_mono h₄ (fun _ s₅ h₅ => wpAny_pure (wpAny_pure ⟨rfl, h₅⟩)) fun _ _ h' => h')) fun _ _ h' => h'))
abbrev CW := Nat → Nat → List V → Hp → Prop
def uY (σb : St) (J : It) (g : TG) (tt : TT) (te : TE) (W : CW) (fin : List V → Hp → Prop) (i m : Nat) (ys : List V) (H : Hp) : Prop :=
 (J.stop i H ∧ fin ys H) ∨
 (J.go i H ∧ ys.length < sizeLine ∧ ∀ x H', J.yld i H x H' → g x σb H' fun σ2 H2 => tt σ2 H2 fun b H3 =>
  if b = true then te σ2 H3 fun y H4 => ∃ m', m' < m ∧ W (i + 1) m' (ys ++ [y]) H4 else ∃ m', m' < m ∧ W (i + 1) m' ys H3)
structure BlkEnd (X : Cx) (pins : List (Addr × Obj)) (H : Hp) (C : Addr) (s : Shared) : Prop where
 ns : ∃ m, s.heap.Ns C m
 fr : H C = none
 ne : C ≠ X.env.locals
 ab : X.s₀.heap.objs.size ≤ C
 cl : ∀ x c, X.env.cells.lookup x = some c → c ≠ C
 pn : ∀ p ∈ X.pn ++ pins, p.1 ≠ C
theorem uE {X : Cx} {pins : List (Addr × Obj)} {σ : St} {s₂ : Shared} {H₂ : Hp} {elt iter tg : Expr} {ifs : List Expr} {scope : Scope} {pos : Pos} {N' : List Str} {nt : Nat} {cap : List Nat} {g : TG} {tt : TT} {te : TE} {cl : List (Str × Addr)}
  {it : Addr} {fp : List Addr} {tn : Nat → Heap → Prop} {J : It} {Q : List V → Hp → Prop} {E : Value → Shared → Prop}
  (hc : X.calm = true) (I₂ : Inv X pins σ H₂ s₂) (T : Turn X.prog X.w X.K tg J fp it tn) (st : tn 0 s₂.heap) (hf : ∀ b ∈ fp, yK X pins H₂ b)
  (hclk : ∀ x c, cl.lookup x = some c → X.env.cells.lookup x = some c) (hclh : ∀ x, (x, NameKind.free) ∈ scope.names → ∃ c, cl.lookup x = some c)
  (hcell : ∀ y ∈ scope.names, y.2 ≠ .cell) (hkind : scope.kind = .function)
  (hfr : ∀ y ∈ scope.names, y.2 = .free → (X.env.kindOf y.1 = some .cell ∨ X.env.kindOf y.1 = some .free))
  (hN : N'.length = nt + cap.length) (hcapN : ∀ (k j : Nat), cap[k]? = some j → N'[nt + k]? = X.N[j]?) (hcapF : ∀ x ∈ N'.drop nt, scope.names.lookup x = some .free)
  (hg : ∀ R, PG (blk X scope N' R) tg g) (hgk : aAM nt g) (ht : ∀ R, aIH (blk X scope N' R) ifs tt) (he : ∀ R, PE (blk X scope N' R) elt te)
  (h : ∃ W : CW, (∃ m, W 0 m [] H₂) ∧ ∀ i m ys H, W i m ys H → uY (nC nt cap σ) J g tt te W Q i m ys H)
  {RR : Value → Addr → Result → Shared → Prop}
  (hRR : ∀ D C s' H' ys, H' D = none → Q ys H' → Inv X pins σ (upd H' D (.lst ys)) s' → BlkEnd X pins (upd H' D (.lst ys)) C s' → RR (.ref D) C (.ok .next) s') :
  wpAny (model X.prog X.w) X.A (newList []) (fun acc s₃ => wpAny (model X.prog X.w) X.A (newFunctionEnv scope X.env.globals cl [] X.env.qual none .none (some X.env)) (fun cenv s₄ =>
   codeAny (model X.prog X.w) X.A (.compStart (.ListComp elt [⟨tg, iter, ifs, 0⟩] scope pos) 0 (.ref it) acc { cenv with scope := relabel scope X.env }) (RR acc cenv.locals) s₄) E s₃) E s₂ := by
 obtain ⟨W, ⟨m0, w0⟩, turn⟩ := h
 refine wpAny_newObj_type (wpAny_newFunctionEnv hcell (by intro y hy; simp at hy) (fun h₁ hns₁ hsb₁ => ?_) hkind)
 dsimp only at hns₁ hsb₁ ⊢
 generalize hH2 : s₂.heap.push { cls := .type "list", dict := none, data := .seq ([] : List Value).toArray } = Hx at hns₁ hsb₁ ⊢
 have hC : Hx.objs.size = s₂.heap.objs.size + 1 := by rw [← hH2, Heap.size_push]
 generalize hD : s₂.heap.objs.size = D at hC ⊢
 generalize hCC : Hx.objs.size = C at hns₁ hsb₁ hC ⊢
 have hDC : D ≠ C := by omega
 have below : ∀ b, b < s₂.heap.objs.size → b ≠ C ∧ b ≠ D := fun b hb => by omega
 have old : ∀ b o, s₂.heap.get? b = some o → h₁.get? b = some o := fun b o e => hsb₁.extBut b o (below b (Heap.lt_size e)).1 (Heap.get?_push_of_some _ (hH2 ▸ Heap.get?_push_of_some _ e))
 have hacc : h₁.get? D = some { cls := .type "list", data := .seq ([] : List Value).toArray } := hsb₁.extBut _ _ hDC (Heap.get?_push_of_some _ (by rw [← hH2, ← hD]; exact Heap.get?_push_size _ rfl))
 have freshD : H₂ D = none := I₂.hok.fresh (by omega)
 have freshC : H₂ C = none := I₂.hok.fresh (by omega)
 have fpo : ∀ b ∈ fp, ∃ o, s₂.heap.get? b = some o ∧ ∀ v, o.data ≠ .cell v := T.obj 0 _ st
 have fplt : ∀ b ∈ fp, b < s₂.heap.objs.size := fun b hb => let ⟨o, e, _⟩ := fpo b hb; Heap.lt_size e
 have celllt : ∀ x c, X.env.cells.lookup x = some c → c < s₂.heap.objs.size := fun x c e => let ⟨v, z⟩ := I₂.cell x c e; z.lt
 have pinlt : ∀ p ∈ X.pn ++ pins, p.1 < s₂.heap.objs.size := fun p hp => Heap.lt_size (I₂.pin p hp).1
 let R : BlkR := ⟨cl, C, s₂, H₂, fp⟩
 have okb : (blk X scope N' R).Ok := {
  mod := I₂.mod
  kind := hkind
  glob := I₂.ok.glob
  blt := I₂.ok.blt
  above := (by show s₂.heap.objs.size ≤ C; omega)
  inj := fun x y c e1 e2 => I₂.ok.inj x y c (hclk x c e1) (hclk y c e2)
  has := fun x hx => hclh x (kQ hcell hx)
  cab := fun x c hx _ => by cases hx
  hd := I₂.ok.hd
  frames := I₂.ok.frames
  stk := .inl rfl
  exf := fun b hb => ⟨(below b (fplt b hb)).1, fun x c e => (hf b hb).2.2.2.2.1 x c (hclk x c e)⟩
  bs := I₂.bs
  bsz := Nat.le_trans I₂.ok.bsz I₂.sz
  noex := fun b o e hb => by
   rcases (hf b hb).2.2.2.1 with z | z
   ·exact I₂.ok.noex b o e z
   ·exact absurd (Nat.lt_of_lt_of_le (Heap.lt_size e) (Nat.le_trans I₂.ok.bsz z)) (Nat.lt_irrefl _)
  exfs := fun b hb z => by
   rcases List.mem_cons.mp (I₂.stkSub b z) with q | q
   ·exact (hf b hb).2.1 q
   ·exact (hf b hb).2.2.1 q
  funs := I₂.stack
  frf := I₂.stkFree }
 have nofs : ∀ a, s₂.heap.objs.size ≤ a → a ∉ frs X.stack := fun a ha z => by
  rcases List.mem_cons.mp (I₂.stkSub a z) with q | q
  ·exact absurd (Nat.lt_of_lt_of_le I₂.lt ha) (by rw [q]; exact Nat.lt_irrefl _)
  ·exact I₂.nofs ha q
 have hDle : s₂.heap.objs.size ≤ D := by omega
 have hCle : s₂.heap.objs.size ≤ C := by omega
 have stat : ∀ {H' : Hp} {ob : Obj}, (∀ b ∈ fp, H' b = none) → ∀ b ∈ fp, yK (blk X scope N' R) [(D, ob)] H' b := fun {H' ob} hn b hb =>
  ⟨hn b hb, (below b (fplt b hb)).1, okb.exfs b hb, .inl hb, fun x c e => (hf b hb).2.2.2.2.1 x c (hclk x c e), fun p hp => by
   have e : p = (D, ob) := by simpa using hp
   rw [e]
   exact Ne.symm (below b (fplt b hb)).2⟩
 have entry : ∀ tk, Inv (blk X scope N' R) [(D, { cls := .type "list", data := .seq ([] : List Value).toArray })] (nC nt cap σ) H₂ { s₂ with heap := h₁, toks := tk } := fun tk => {
  ok := okb
  os := rfl
  bare := I₂.bare
  base := Un.kept old
  loc := by
   refine ⟨_, hns₁, fun i x v e1 e2 e3 => ?_⟩
   obtain ⟨j, hi, hj, hv⟩ := wH e2
   have hx : X.N[j]? = some x := by
    rw [← hcapN _ _ hj, show nt + (i - nt) = i by omega]
    exact e1
   have hxm : x ∈ N'.drop nt := by
    refine List.mem_of_getElem? (i := i - nt) ?_
    rw [List.getElem?_drop, show nt + (i - nt) = i by omega]
    exact e1
   have hfree := hcapF x hxm
   have hmem : (x, NameKind.free) ∈ scope.names := by
    have : ∀ (l : List (Str × NameKind)), l.lookup x = some .free → (x, NameKind.free) ∈ l := by
     intro l
     induction l with
     | nil => intro q; cases q
     | cons a r ih =>
      intro q
      obtain ⟨n, k⟩ := a
      cases hxn : x == n with
      | true =>
       rw [List.lookup_cons, hxn] at q
       obtain rfl := beq_iff_eq.mp hxn
       cases q
       exact List.mem_cons_self
      | false =>
       rw [List.lookup_cons, hxn] at q
       exact List.mem_cons_of_mem _ (ih q)
    exact this _ hfree
   have hk := hfr (x, .free) hmem rfl
   obtain ⟨m, hn, hl⟩ := I₂.loc
   have vis : Vis X.env.scope x := by
    rcases hk with k | k
    ·exact .inr (.inl k)
    ·exact .inr (.inr k)
   obtain ⟨u, ru, lk⟩ := hl j x v hx hv vis
   refine ⟨u, ru, ?_⟩
   rcases lk with ⟨k, _⟩ | ⟨k, c, hc1, hc2⟩
   ·exfalso
    rcases hk with z | z
    ·rw [z] at k; cases k
    ·rw [z] at k; cases k
   ·obtain ⟨d, hd⟩ := hclh x hmem
    have hd' := hclk x d hd
    rw [hc1] at hd'
    cases hd'
    refine .inr ⟨iQ hfree, c, hd, ?_⟩
    obtain ⟨o, ho, hdat⟩ := hc2
    exact ⟨o, old c o ho, hdat⟩
  cell := fun x c e => by
   obtain ⟨v, o, ho, hdat⟩ := I₂.cell x c (hclk x c e)
   exact ⟨v, o, old c o ho, hdat⟩
  free := freshC
  freeC := fun x c e => I₂.freeC x c (hclk x c e)
  pin := fun p hp => by
   have e : p = (D, { cls := .type "list", data := .seq ([] : List Value).toArray }) := by simpa using hp
   subst e
   exact ⟨hacc, freshD, hDC, nofs D hDle, fun v z => by cases z⟩
  hok := I₂.hok.kept old
  len := by rw [aFF, hN] }
 have loop : ∀ tk, codeAny (model X.prog X.w) X.A (.compLoop (.ListComp elt [⟨tg, iter, ifs, 0⟩] scope pos) 0 (.ref it) (.ref D) (compEnvC scope cl C X.env)) (RR (.ref D) C) { s₂ with heap := h₁, toks := tk } := by
  intro tk
  refine uF (fun n s' => ∃ i ys H' its k, Inv (blk X scope N' R) [(D, { cls := .type "list", data := .seq its.toArray k })] (nC nt cap σ) H' s' ∧ tn i s'.heap ∧ (∀ b ∈ fp, H' b = none) ∧ bL ys its ∧ ys.length ≤ sizeLine ∧ W i n ys H') ?_ m0
   ⟨0, [], H₂, [], 0, entry tk, T.keep _ _ _ st fun b hb o e => old b o e, fun b hb => (hf b hb).1, .nil, Nat.zero_le _, w0⟩
  rintro n s3 ⟨i, ys, H3, its, k, I3, st3, fr3, rv, hz, w3⟩
  have pD := I3.pin (D, { cls := .type "list", data := .seq its.toArray k }) (by simp)
  rcases turn i n ys H3 w3 with ⟨stop, qn⟩ | ⟨go, hlt, step⟩
  ·-- the end
   refine wpAny_mono (T.done (blk X scope N' R) rfl rfl rfl hc i _ s3 _ H3 (fun _ _ => False) I3 (stat fr3) st3 stop) (fun r s4 ⟨hr, I4⟩ => ?_) fun _ _ z => z.elim
   subst hr
   have pD4 := I4.pin (D, { cls := .type "list", data := .seq its.toArray k }) (by simp)
   have b4 : Un (frs X.stack) fp H₂ H3 s₂.heap s4.heap := I4.base
   have u4 : Un (frs X.stack) fp H₂ (upd H3 D (.lst ys)) s₂.heap s4.heap := {
    keep := b4.keep
    slot := b4.slot
    free := fun b o e n hx => by
     rw [aQ (below b (Heap.lt_size e)).2]
     exact b4.free b o e n hx
    there := b4.there
    tups := fun b xs e => by
     have z := b4.tups b xs e
     rw [aQ (aV z pD4.2.1)]
     exact z
    frzs := fun b o u e => by
     have z := b4.frzs b o u e
     rw [aQ (aV z pD4.2.1)]
     exact z
    tbls := fun b ps e => by
     obtain ⟨more, z⟩ := b4.tbls b ps e
     exact ⟨more, by rw [aQ (aV z pD4.2.1)]; exact z⟩ }
   have hok4 : HOk X.prog X.w (upd H3 D (.lst ys)) s4.heap := fun b u e => by
    by_cases hb : b = D
    ·subst hb
     rw [aE] at e
     cases e
     exact ⟨hz, its, k, rv, pD4.1⟩
    ·rw [aQ hb] at e
     exact (I4.hok b u e).stay (fun c v _ q => q) (fun c q => by rw [aQ (aV q pD4.2.1)]; exact q) fun c xs q => by rw [aQ (aV q pD4.2.1)]; exact q
   have I5 : Inv X pins σ (upd H3 D (.lst ys)) s4 := I₂.call' I4.os u4 hok4 I4.bare fun b hb => ⟨(hf b hb).2.2.2.1, (hf b hb).2.1, (hf b hb).2.2.2.2.1, (hf b hb).2.2.2.2.2⟩
   refine hRR D C s4 H3 ys pD4.2.1 qn I5 ?_
   obtain ⟨m, hn, _⟩ := I4.loc
   exact ⟨⟨m, hn⟩, by rw [aQ (Ne.symm hDC)]; exact I4.free, fun z => absurd I₂.lt (by rw [← z]; exact Nat.not_lt.mpr hCle), Nat.le_trans I₂.sz hCle, fun x c e => Nat.ne_of_lt (Nat.lt_of_lt_of_le (celllt x c e) hCle), fun p hp => Nat.ne_of_lt (Nat.lt_of_lt_of_le (pinlt p hp) hCle)⟩
  ·-- a turn
   refine wpAny_mono (T.item (blk X scope N' R) rfl rfl rfl hc i _ s3 _ H3 (fun _ _ => False) I3 (stat fr3) st3 go) (fun r s4 ⟨u, hr, h4⟩ => ?_) fun _ _ z => z.elim
   subst hr
   refine wpAny_mono h4 (fun _ s5 ⟨x, H5, I5, r5, y5, st5, fr5⟩ => ?_) fun _ _ z => z.elim
   have I5' := I5.pinned (stat fr5) (T.obj _ _ st5)
   refine wpAny_mono (hg R _ s5 _ H5 x u _ I5' r5 (hgk _ _ _ _ (step x H5 y5))) (fun _ s6 ⟨σ6, H6, I6, q6, l6, k6⟩ => ?_) fun _ _ z => z.elim
   refine wpAny_mono (ht R _ s6 σ6 H6 _ I6 q6) (fun ok s7 ⟨H7, I7, q7⟩ => ?_) fun _ _ z => z.elim
   have weak : ∀ {H8 : Hp} {s8 : Shared} {ps : List (Addr × Obj)}, Inv (blk X scope N' R) ps σ6 H8 s8 → Inv (blk X scope N' R) ps (nC nt cap σ) H8 s8 := fun I8 => I8.weak (by rw [l6]) fun j v e => by
    obtain ⟨_, hj, _, _⟩ := wH e
    rw [k6 j hj]
    exact e
   have tnK : ∀ {H8 : Hp} {s8 : Shared} {σ8 : St}, Inv (blk X scope N' R) ([(D, { cls := .type "list", data := .seq its.toArray k })] ++ mK fp s5.heap) σ8 H8 s8 → tn (i + 1) s8.heap ∧ ∀ b ∈ fp, H8 b = none := fun {H8 s8 σ8} I8 =>
    ⟨T.keep _ _ _ st5 fun b hb o e => (I8.pin (b, o) (List.mem_append_right _ (List.mem_append_right _ (lG hb e)))).1, fun b hb => by
     obtain ⟨o, e, _⟩ := T.obj _ _ st5 b hb
     exact (I8.pin (b, o) (List.mem_append_right _ (List.mem_append_right _ (lG hb e)))).2.1⟩
   cases ok with
   | false =>
    rw [if_neg Bool.false_ne_true] at q7 ⊢
    obtain ⟨m', hm, w7⟩ := q7
    exact ⟨m', hm, i + 1, ys, H7, its, k, weak I7.unpinned, (tnK I7).1, (tnK I7).2, rv, hz, w7⟩
   | true =>
    rw [if_pos rfl] at q7 ⊢
    refine wpAny_mono (he R _ s7 σ6 H7 _ I7 q7) (fun xv s8 ⟨y, H8, I8, ry, q8⟩ => ?_) fun _ _ z => z.elim
    obtain ⟨m', hm, w8⟩ := q8
    have pD8 := I8.pin (D, { cls := .type "list", data := .seq its.toArray k }) (by simp)
    have hsz : its.toArray.size ≤ sizeLine := by rw [List.size_toArray, ← rv.length]; omega
    refine wpAny_list_append_plain (hsz := hsz) ⟨k, pD8.1⟩ fun h9 hl9 hs9 => ?_
    obtain ⟨k9, hl9⟩ := hl9
    have tn8 := tnK I8
    have I8' : Inv (blk X scope N' R) (mK fp s5.heap) (nC nt cap σ) H8 s8 := (weak I8).pins_of fun p hp => I8.pin p (List.mem_append_right _ (List.mem_append_right _ hp))
    have I9 : Inv (blk X scope N' R) (mK fp s5.heap) (nC nt cap σ) H8 { s8 with heap := h9 } := I8'.turned (it := D) (t' := s8.toks) (fun b o hb e => hs9.extBut b o hb e) pD8.2.1 pD8.2.2.1 (.inr hDle)
     (fun x c e => Nat.ne_of_lt (Nat.lt_of_lt_of_le (celllt x c (hclk x c e)) hDle)) fun p hp => by
      have hp' : p ∈ mK fp s5.heap := by simpa using hp
      exact Nat.ne_of_lt (Nat.lt_of_lt_of_le (fplt p.1 (vO hp').1) hDle)
    have e9 : h9.get? D = some { cls := .type "list", data := .seq (its ++ [xv]).toArray k9 } := by
     rw [hl9]
     simp
    refine ⟨m', hm, i + 1, ys ++ [y], H8, its ++ [xv], k9, I9.pins_of fun p hp => ?_, T.keep _ _ _ tn8.1 fun b hb o e => hs9.extBut b o (Nat.ne_of_lt (Nat.lt_of_lt_of_le (fplt b hb) hDle)) e, tn8.2, rv.append (.cons ry .nil), by rw [List.length_append]; exact hlt, w8⟩
    have e : p = (D, { cls := .type "list", data := .seq (its ++ [xv]).toArray k9 }) := by simpa using hp
    subst e
    exact ⟨e9, pD8.2.1, pD8.2.2.1, pD8.2.2.2.1, fun v z => by cases z⟩
 exact codeAny_compStart_list (loop _) (T.self _ 0 _ _ _ (T.keep _ _ _ st fun b hb o e => old b o e) (loop _))
def aKA (nt : Nat) (cap : List Nat) (wi : TI) (g : TG) (tt : TT) (te : TE) : TE := fun σ H Q => wi σ H fun J H1 => ∃ W : CW, (∃ m, W 0 m [] H1) ∧ ∀ i m ys H, W i m ys H → uY (nC nt cap σ) J g tt te W (fun ys H' => ∀ p, H' p = none → Q (.ref p) (upd H' p (.lst ys))) i m ys H
theorem jZ {α : Type} {l : List α} {p : α → Bool} (h : l.all p = true) : ∀ x ∈ l, p x = true := fun x hx => List.all_eq_true.mp h x hx
theorem bX {X : Cx} {elt iter tg : Expr} {ifs : List Expr} {scope : Scope} {pos : Pos} {wi : TI} {g : TG} {tt : TT} {te : TE} (N' : List Str) (nt : Nat) (cap : List Nat)
  (hc : X.calm = true) (hi : PI X tg iter wi) (hg : ∀ R, PG (blk X scope N' R) tg g) (hgk : aAM nt g) (ht : ∀ R, aIH (blk X scope N' R) ifs tt) (he : ∀ R, PE (blk X scope N' R) elt te)
  (hcell : (scope.names.all fun y => !(y.2 == .cell)) = true := by rfl) (hkind : scope.kind = .function := by rfl)
  (hnames : (scope.names.all fun y => !(y.2 == .local) || (scope.names.lookup y.1 == some .local)) = true := by rfl)
  (hfr : (scope.names.all fun y => !(y.2 == .free) || (X.env.kindOf y.1 == some .cell || X.env.kindOf y.1 == some .free)) = true := by rfl)
  (hN : N'.length = nt + cap.length := by rfl) (hcapN : (cap.map fun j => X.N[j]?) = (N'.drop nt).map some := by rfl) (hcapF : ((N'.drop nt).all fun x => scope.names.lookup x == some .free) = true := by rfl)
  (hs : ∀ x, foldedSetIterable iter X.env x = pure x := by intro _; rfl) :
  PE X (.ListComp elt [⟨tg, iter, ifs, 0⟩] scope pos) (aKA nt cap wi g tt te) := by
 intro pins s σ H Q I h
 have hfr' : ∀ y ∈ scope.names, y.2 = .free → (X.env.kindOf y.1 = some .cell ∨ X.env.kindOf y.1 = some .free) := fun y hy e => by
  have z := jZ hfr y hy
  rw [e] at z
  have z' : (X.env.kindOf y.1 == some .cell || X.env.kindOf y.1 == some .free) = true := z
  rcases Bool.or_eq_true_iff.mp z' with q | q
  ·exact .inl (beq_iff_eq.mp q)
  ·exact .inr (beq_iff_eq.mp q)
 have hcell' : ∀ y ∈ scope.names, y.2 ≠ .cell := fun y hy e => by
  have z := jZ hcell y hy
  rw [e] at z
  cases z
 obtain ⟨cl, hcl, hclk, hclh⟩ := uG (scope := scope) (env := X.env) fun y hy e => I.ok.has y.1 (hfr' y hy e)
 have hnames' : ∀ y ∈ scope.names, y.2 = .local → scope.names.lookup y.1 = some .local := fun y hy e => by
  have z := jZ hnames y hy
  rw [e] at z
  exact beq_iff_eq.mp z
 have hcapN' : ∀ (k j : Nat), cap[k]? = some j → N'[nt + k]? = X.N[j]? := fun k j e => by
  have z := congrArg (fun l : List (Option Str) => l[k]?) hcapN
  simp only [List.getElem?_map, e, Option.map_some, List.getElem?_drop] at z
  cases q : N'[nt + k]? with
  | none => rw [q] at z; cases z
  | some x => rw [q] at z; exact (Option.some.inj z).symm
 rw [eval_ListComp]
 refine wpAny_comprehension_free (use := none) rfl hs hcl hkind hnames' (thn (hi pins s σ H _ I h) fun v s1 h1 => thn h1 fun itv s2 h2 => ?_)
 obtain ⟨it, fp, tn, J, H2, e, I2, T, st2, f2, hw⟩ := h2
 subst e
 refine uE (RR := fun acc C => compPost (model X.prog X.w) X.A X.xe none (EP X pins σ Q) acc C) hc I2 T st2 f2 hclk hclh hcell' hkind hfr' hN hcapN' (fun x hx => beq_iff_eq.mp (jZ hcapF x hx)) hg hgk ht he hw ?_
 intro D C s' H' ys hD q I' B
 obtain ⟨m, hn⟩ := B.ns
 refine ⟨m, hn, fun h' hs' => ⟨.ref D, _, I'.turned (it := C) (t' := s'.toks) (fun b o hb e => hs'.extBut b o hb e) B.fr B.ne (.inr B.ab) B.cl B.pn, rfl, q D hD⟩⟩
end L2
namespace L2
open PySem PySem.Spec PyProof.Rows
section
variable {X : Cx}
def aJR : V → Option Value
 | .ty n => some (.type n)
 | .ref a => some (.ref a)
 | _ => none
theorem aAC {y : V} {c u : Value} (h : aJR y = some c) (r : bK y u) : u = c := by
 cases y with
 | ty n => cases h; exact r
 | ref a => cases h; exact r
 | non => cases h
 | bl b => cases h
 | int i => cases h
 | str x => cases h
 | byt b => cases h
 | flt b => cases h
theorem aAG : gO X (.builtin "isinstance") (fun xs H Q => ∃ x y c t b, xs = [x, y] ∧ aJR y = some c ∧ TyOf X.K H x t ∧ PySem.W.kitOne X.K t c = some b ∧ Q (.bl b) H) := by
 intro pins s σ H xs us Q I r h
 obtain ⟨x, y, c, t, b, rfl, hc, ty, e, q⟩ := h
 obtain ⟨u, v, rfl, ru, rv⟩ := bL.two r
 obtain rfl := aAC hc rv
 exact aEP I ru ty e fun tk => ⟨.bl b, H, I.tok tk, rfl, q⟩
theorem qU : ∀ {bs : List Bool} {us : List Value}, bL (bs.map V.bl) us → LSm.BoolsAre us bs
 | [], us, r => by
  rw [List.map_nil] at r
  cases r
  exact .nil
 | b :: bs, us, r => by
  rw [List.map_cons] at r
  cases r with
  | cons r1 r2 =>
   cases r1
   exact .cons b (qU r2)
theorem lB (hc : X.calm = true) : gO X (.builtin "all") (fun xs H Q => ∃ (p : Addr) (bs : List Bool), xs = [.ref p] ∧ SqL X.K H p (bs.map V.bl) ∧ Q (.bl (bs.all id)) H) := by
 intro pins s σ H xs us Q I r h
 obtain ⟨p, bs, rfl, hq, q⟩ := h
 obtain ⟨u, rfl, ru⟩ := bL.one r
 cases ru
 obtain ⟨its, rv, pl, hz⟩ := I.list hq
 obtain ⟨m, F⟩ := I.fr
 have hb := qU rv
 have hl := pl.isList
 have hlt : p < s.heap.objs.size := by obtain ⟨_, e, _⟩ := hl; exact Heap.lt_size e
 refine call_all_walk (wpAny_pyIter_list hl ?_)
 refine ⟨s.heap.objs.size, [s.heap.objs.size, p], [s.heap.objs.size], its.toArray.size, _, _, fun i => (bs[i]?).getD true, rfl, Walks.list (A := X.A.in1) (I.ok.hd hc) _ p (Nat.ne_of_lt hlt) its.toArray,
  ⟨⟨_, Heap.get?_push_size _ rfl, rfl, rfl⟩, hl.push _⟩, fun i v s' Q' E' hP hQ => ?_, fun h' tk hk => ?_⟩
 ·obtain ⟨b, e, rfl⟩ := hb.get i v (by simpa using hP)
  simp only [e, Option.getD_some] at hQ
  exact wpAny_truthy_bool hQ
 ·have e : ((List.range its.toArray.size).all fun i => (bs[i]?).getD true) = bs.all id := by
   rw [List.size_toArray, hb.length]; exact LSm.range_all bs
  rw [e]
  exact ⟨.bl _, H, I.kept (LSm.kept_iter hk), rfl, q⟩
theorem aGE : SlR X (fun x lo hi H Q => ∃ z, x = .str z ∧ z.length ≤ sizeLine ∧ Q (.str (Txt.slice z lo hi)) H) := by
 intro pins s σ H x v vl vu lo hi sl Q I rx hs pl pu h
 obtain ⟨z, rfl, hz, q⟩ := h
 obtain ⟨t, rfl⟩ := rx
 refine ⟨"str", _, F.slot_str_getitem.lookup, typeIs_str _ _ _, ?_⟩
 have fin : ∀ (t' : Tok) (k : Nat), EP X pins σ Q (.str (Txt.slice z lo hi) t') { s with toks := k } := fun t' k => ⟨.str _, H, I.tok k, ⟨t', rfl⟩, q⟩
 cases pl with
 | none =>
  cases pu with
  | none => exact wpAny_getItem_str_slice (l := none) (u := none) (st := none) hs rfl (post_val_or_str ⟨Nat.le_trans (Txt.slice_le z _ _) hz, fun t' k => fin t' k⟩)
  | int j uj => exact wpAny_getItem_str_slice (l := none) (u := some (j, uj)) (st := none) hs rfl (post_val_or_str ⟨Nat.le_trans (Txt.slice_le z _ _) hz, fun t' k => fin t' k⟩)
 | int i ui =>
  cases pu with
  | none => exact wpAny_getItem_str_slice (l := some (i, ui)) (u := none) (st := none) hs rfl (post_val_or_str ⟨Nat.le_trans (Txt.slice_le z _ _) hz, fun t' k => fin t' k⟩)
  | int j uj => exact wpAny_getItem_str_slice (l := some (i, ui)) (u := some (j, uj)) (st := none) hs rfl (post_val_or_str ⟨Nat.le_trans (Txt.slice_le z _ _) hz, fun t' k => fin t' k⟩)
theorem bN : OpR X (binaryOp .FloorDiv) (rI (fun _ j => 0 < j ∧ j.natAbs.log2 < 9000) fun i j => .int (i / j)) := opI fun i j _ _ _ _ _ hc q => by
 have h1 : (0 : Int) < j := hc.1
 exact floordiv_int (by omega) (by rw [Int.fdiv_eq_ediv_of_nonneg i (by omega)]; exact q) (.inl (PyProof.noPylong_of_log2 hc.2))
def Its (x : Str) : It where
 go := fun i _ => i < x.cps.size
 yld := fun i H v H' => H' = H ∧ ∃ c, x.cps[i]? = some c ∧ v = .str ⟨#[c]⟩
 stop := fun i _ => i = x.cps.size
theorem yO {P : Program} {w : World} {K : PySem.W.Frag} {tg : Expr} (it : Addr) (x : Str) (t : Tok) (ty : String)
  (W : ∀ A : Around, A.handled = none → Walks P w A it [it] [it] x.cps.size (SignAt x) (fun i h => h.IsStrIter it ty x t i))
  (hn : ["enumerate", "zip", "dict_itemiterator", "dict_reverseitemiterator", "odict_iterator", "itertools.zip_longest", "itertools.pairwise"].contains ty = false)
  (self : ∀ (A : Around) (i : Nat) (s : Shared) (Q : Value → Shared → Prop) (E : Value → Shared → Prop), s.heap.IsStrIter it ty x t i → Q (.ref it) s → wpAny (model P w) A (pyIter (.ref it)) Q E s) :
  Turn P w K tg (Its x) [it] it (fun i h => h.IsStrIter it ty x t i) where
 mem := by simp
 obj := fun i h st b hb => by
  have e : b = it := by simpa using hb
  subst e
  obtain ⟨o, e, c, d⟩ := st
  exact ⟨o, e, fun v z => by rw [d] at z; cases z⟩
 keep := fun i h h' st k => let ⟨o, ho, r⟩ := st; ⟨o, k it (by simp) o ho, r⟩
 item := by
  intro X hP hw hK hc i pins s σ H E I hf st hg
  subst hP hw hK
  obtain ⟨f0, f1, f2, f3, f4, f5⟩ := hf it (by simp)
  refine (W X.A (I.ok.hd hc)).item i s _ _ hg st fun v h' tk hv st' kk => ?_
  obtain ⟨c, u, hx, rfl⟩ := hv
  have I1 : Inv X pins σ H { s with heap := h', toks := tk } := I.turned (fun b o hb e => kk b o (by simpa using hb) e) f0 f1 f3 f4 f5
  obtain ⟨o, e, cc, d⟩ := id st'
  exact ⟨_, rfl, aDL (s := { s with heap := h', toks := tk }) e cc d hn ⟨.str ⟨#[c]⟩, H, I1, ⟨u, rfl⟩, ⟨rfl, c, hx, rfl⟩, st', fun b hb => (hf b hb).1⟩⟩
 done := by
  intro X hP hw hK hc i pins s σ H E I hf st hg
  subst hP hw hK
  obtain ⟨f0, f1, f2, f3, f4, f5⟩ := hf it (by simp)
  have hg' : i = x.cps.size := hg
  subst hg'
  exact (W X.A (I.ok.hd hc)).done s _ _ st fun h' tk kk => ⟨rfl, I.turned (fun b o hb e => kk b o (by simpa using hb) e) f0 f1 f3 f4 f5⟩
 self := self
def aOJ (tl : TE) : TI := fun σ H R => tl σ H fun x H1 => ∃ z, x = .str z ∧ R (Its z) H1
theorem aKV {tg l : Expr} {tl : TE} (hl : PE X l tl) : PI X tg l (aOJ tl) := by
 intro pins s σ H R I h
 refine thn (hl pins s σ H _ I h) fun v s1 ⟨x, H1, I1, r1, q1⟩ => ?_
 obtain ⟨z, e, q⟩ := q1
 subst e
 obtain ⟨t, rfl⟩ := r1
 have fp : ∀ b ∈ [s1.heap.objs.size], yK X pins H1 b := fun b hb => by
  have e : b = s1.heap.objs.size := by simpa using hb
  subst e
  exact I1.fpOk (Nat.le_refl _) (I1.hok.fresh (Nat.le_refl _))
 cases ha : z.cps.all (· < 128)
 ·refine wpAny_pyIter_wide ha ?_
  exact ⟨s1.heap.objs.size, [s1.heap.objs.size], _, _, H1, rfl, I1.kept (t' := s1.toks) fun b o e => Heap.get?_push_of_some _ e, yO _ z t "str_iterator" (fun A hA => Walks.strWide hA _ z t) (by decide) (fun A i s Q E st h => wpAny_pyIter_striter_wide st h),
   ⟨_, Heap.get?_push_size _ rfl, rfl, rfl⟩, fp, q⟩
 ·refine wpAny_pyIter_ascii ha ?_
  exact ⟨s1.heap.objs.size, [s1.heap.objs.size], _, _, H1, rfl, I1.kept (t' := s1.toks) fun b o e => Heap.get?_push_of_some _ e, yO _ z t "str_ascii_iterator" (fun A hA => Walks.strAscii hA _ z t) (by decide) (fun A i s Q E st h => wpAny_pyIter_striter_ascii st h),
   ⟨_, Heap.get?_push_size _ rfl, rfl, rfl⟩, fp, q⟩
end
theorem aIA {σb : St} {x : Str} {g : TG} {tt : TT} {te : TE} {fin : List V → Hp → Prop} {H : Hp} (hz : x.cps.size ≤ sizeLine) (Pv : Nat → List V → Hp → Prop) (h0 : Pv 0 [] H) (hl : ∀ i ys H, Pv i ys H → ys.length ≤ i)
  (hs : ∀ i c ys H (K : VK) (K' : Hp → Prop), x.cps[i]? = some c → Pv i ys H → (∀ y H4, Pv (i + 1) (ys ++ [y]) H4 → K y H4) → (∀ H3, Pv (i + 1) ys H3 → K' H3) →
   g (.str ⟨#[c]⟩) σb H fun σ2 H2 => tt σ2 H2 fun b H3 => if b = true then te σ2 H3 K else K' H3)
  (hd : ∀ ys H, Pv x.cps.size ys H → fin ys H) : ∃ W : CW, (∃ m, W 0 m [] H) ∧ ∀ i m ys H, W i m ys H → uY σb (Its x) g tt te W fin i m ys H := by
 refine ⟨fun i m ys H => m = x.cps.size - i ∧ i ≤ x.cps.size ∧ Pv i ys H, ⟨x.cps.size, by simp, Nat.zero_le _, h0⟩, ?_⟩
 rintro i m ys H ⟨rfl, hi, p⟩
 by_cases hlt : i < x.cps.size
 ·refine .inr ⟨hlt, ?_, fun v H' y => ?_⟩
  ·have := hl i ys H p; omega
  ·obtain ⟨e, c, hx, rfl⟩ := y
   subst e
   exact hs i c ys _ _ _ hx p (fun y H4 q => ⟨x.cps.size - (i + 1), by omega, rfl, hlt, q⟩) fun H3 q => ⟨x.cps.size - (i + 1), by omega, rfl, hlt, q⟩
 ·have e : i = x.cps.size := by omega
  subst e
  exact .inl ⟨rfl, hd ys H p⟩
theorem bF {F : PySem.W.Frag} {a : Addr} {xs : List V} {σb : St} {g : TG} {tt : TT} {te : TE} {fin : List V → Hp → Prop} {H : Hp} (hz : xs.length ≤ sizeLine) (Pv : Nat → List V → Hp → Prop) (h0 : Pv 0 [] H)
  (hl : ∀ i ys H, i ≤ xs.length → Pv i ys H → SqL F H a xs ∧ ys.length ≤ i)
  (hs : ∀ i x ys H (K : VK) (K' : Hp → Prop), xs[i]? = some x → Pv i ys H → (∀ y H4, Pv (i + 1) (ys ++ [y]) H4 → K y H4) → (∀ H3, Pv (i + 1) ys H3 → K' H3) →
   g x σb H fun σ2 H2 => tt σ2 H2 fun b H3 => if b = true then te σ2 H3 K else K' H3)
  (hd : ∀ ys H, Pv xs.length ys H → fin ys H) : ∃ W : CW, (∃ m, W 0 m [] H) ∧ ∀ i m ys H, W i m ys H → uY σb (Itl F a) g tt te W fin i m ys H := by
 refine ⟨fun i m ys H => m = xs.length - i ∧ i ≤ xs.length ∧ Pv i ys H, ⟨xs.length, by simp, Nat.zero_le _, h0⟩, ?_⟩
 rintro i m ys H ⟨rfl, hi, p⟩
 obtain ⟨q, ql⟩ := hl i ys H hi p
 by_cases hlt : i < xs.length
 ·refine .inr ⟨⟨xs, xs[i], q, by simp [hlt]⟩, by omega, fun x H' y => ?_⟩
  obtain ⟨e, y⟩ := y
  subst e
  exact hs i x ys _ _ _ (y xs q) p (fun y H4 q => ⟨xs.length - (i + 1), by omega, rfl, hlt, q⟩) fun H3 q => ⟨xs.length - (i + 1), by omega, rfl, hlt, q⟩
 ·have e : i = xs.length := by omega
  subst e
  exact .inl ⟨⟨xs, q, Nat.le_refl _⟩, hd ys H p⟩
theorem uD {lo : Int} {n : Nat} {σb : St} {g : TG} {tt : TT} {te : TE} {fin : List V → Hp → Prop} {H : Hp} (hz : n ≤ sizeLine) (Pv : Nat → List V → Hp → Prop) (h0 : Pv 0 [] H) (hl : ∀ i ys H, Pv i ys H → ys.length ≤ i)
  (hs : ∀ i ys H (K : VK) (K' : Hp → Prop), i < n → Pv i ys H → (∀ y H4, Pv (i + 1) (ys ++ [y]) H4 → K y H4) → (∀ H3, Pv (i + 1) ys H3 → K' H3) →
   g (.int (lo + i)) σb H fun σ2 H2 => tt σ2 H2 fun b H3 => if b = true then te σ2 H3 K else K' H3)
  (hd : ∀ ys H, Pv n ys H → fin ys H) : ∃ W : CW, (∃ m, W 0 m [] H) ∧ ∀ i m ys H, W i m ys H → uY σb (Itr lo n) g tt te W fin i m ys H := by
 refine ⟨fun i m ys H => m = n - i ∧ i ≤ n ∧ Pv i ys H, ⟨n, by simp, Nat.zero_le _, h0⟩, ?_⟩
 rintro i m ys H ⟨rfl, hi, p⟩
 by_cases hlt : i < n
 ·refine .inr ⟨hlt, ?_, fun v H' y => ?_⟩
  ·have := hl i ys H p; omega
  ·obtain ⟨e, y⟩ := y
   subst e y
   exact hs i ys _ _ _ hlt p (fun y H4 q => ⟨n - (i + 1), by omega, rfl, hlt, q⟩) fun H3 q => ⟨n - (i + 1), by omega, rfl, hlt, q⟩
 ·have e : i = n := by omega
  subst e
  exact .inl ⟨Nat.le_refl _, hd ys H p⟩
end L2
namespace L2
open PySem PySem.Spec PyProof.Rows
structure DefAt (K : PySem.W.Frag) (mg : Str → Option Value) (x : Str) (st : Stmt) (ps : List Str) : Prop where
 ex : ∃ (f : Addr) (fd : FuncData), Fun K x x st f fd ∧ gP K fd ps [] ∧ mg x = some (.ref f)
structure Fc (P : Program) (w : World) (K : PySem.W.Frag) (mg : Str → Option Value) (base : Heap) (k : Nat) (x : Str) (ps : List Str) (sp : Sp) : Prop where
 ex : ∃ (f : Addr) (fd : FuncData), FnOk P w K mg base CX0 k f fd ps sp ∧ gP K fd ps [] ∧ mg x = some (.ref f) ∧ PySem.W.keepIn K (.ref f) = true
section
variable {P : Program} {w : World} {K : PySem.W.Frag} {mg : Str → Option Value} {base : Heap}
theorem DefAt.fc {x : Str} {st : Stmt} {N ps : List Str} {k : Nat} {sp : Sp} (D : DefAt K mg x st ps) (S : FnScope N ps (aD st)) (len : ∀ vs H Q E, sp vs H Q E → vs.length = ps.length)
  (hbody : ∀ (f : Addr) (cdv : Value) (A : Around) (outer : List Env) (s : Shared) (H : Hp) (vs : List V) (Q : VK) (E : XK), Room k (A.deeper (envOfC x (aD st) s.heap.objs.size f cdv)) → sp vs H Q E →
   ∃ t, PSs (lA CX0 P w K mg base N x (aD st) f cdv A outer s H E).nox (aJ st) t ∧ t { nx := fun _ H' => Q .non H', rt := Q } (start N vs) H) : Fc P w K mg base (k + 1) x ps sp := by
 obtain ⟨f, fd, F, b, m⟩ := D.ex
 exact ⟨f, fd, F.ok S len fun cdv A outer s H vs Q E hr h => hbody f cdv A outer s H vs Q E hr h, b, m, F.kp⟩
theorem bE {h : Heap} {x : Str} {st : Stmt} {ps : List Str} {f : Addr} {oc : Value} {od an : Option Addr} {osl : Array (Option Value)} {kV doc pm cdv ct : Value} (X : K.In h) (G : h.Ns mainGlobals mg)
  (a : PySem.W.nsIn K mainGlobals x = some (some (.ref f))) (l : K.lookup f = some ⟨oc, od, .func (PySem.W.fnOf x x (aM st) (aJ st) (aD st) .none kV doc pm an cdv ct), osl⟩)
  (c : PySem.W.codeIn K cdv x = true) (k : PySem.W.keepIn K (.ref f) = true)
  (hb : ∀ (kV doc pm : Value) (an : Option Addr) (cdv ct : Value) (us : List Value), us.length = ps.length → bindArgs (PySem.W.fnOf x x (aM st) (aJ st) (aD st) .none kV doc pm an cdv ct) ⟨us, []⟩ = pure (ps.zip us)) : DefAt K mg x st ps :=
 ⟨f, _, qD l c k, (qD l c k).binds hb, PySem.W.mg_of X G a⟩
end
section
variable {X : Cx} {k : Nat} {ps : List Str} {sp : Sp} {x : Str} {p pos : Pos} {e : Expr} {es : List Expr} {t : TA}
theorem bD (F : Fc X.prog X.w X.K X.mg X.base k x ps sp) (hr : Room k X.A) (ha : PA X (e :: es) t) (hg : Gl X x := by rfl) (hdb : (x == ("__debug__" : Str)) = false := by decide)
  (he : starEach (e :: es) X.env = (false, eval e X.env) :: starEach es X.env := by rfl) (hpl : (backTo pos (starEach es X.env)).any (·.1) = false := by rfl) :
  PE X (.Call (.Name x p) (e :: es) [] pos) (aCI sp [] E0 t) := by
 obtain ⟨f, fd, G, b, m, kp⟩ := F.ex
 exact aDC G hr hg m kp b .nil aDE ha hdb he hpl
end
def sp1 (f : V → Hp → VK → Prop) : Sp := fun vs H Q _ => ∃ x, vs = [x] ∧ f x H Q
def sp2 (f : V → V → Hp → VK → Prop) : Sp := fun vs H Q _ => ∃ x y, vs = [x, y] ∧ f x y H Q
def sp3 (f : V → V → V → Hp → VK → Prop) : Sp := fun vs H Q _ => ∃ x y z, vs = [x, y, z] ∧ f x y z H Q
theorem oK {f : V → Hp → VK → Prop} : ∀ vs H Q E, sp1 f vs H Q E → vs.length = 1 := fun vs H Q E ⟨x, e, _⟩ => by rw [e]; rfl
theorem jM {f : V → V → Hp → VK → Prop} : ∀ vs H Q E, sp2 f vs H Q E → vs.length = 2 := fun vs H Q E ⟨x, y, e, _⟩ => by rw [e]; rfl
theorem pW {f : V → V → V → Hp → VK → Prop} : ∀ vs H Q E, sp3 f vs H Q E → vs.length = 3 := fun vs H Q E ⟨x, y, z, e, _⟩ => by rw [e]; rfl
theorem bA : bootBuiltins "isinstance" = some (.builtin "isinstance") := by decide +kernel
theorem jB : bootBuiltins "all" = some (.builtin "all") := by decide +kernel
theorem bT : bootBuiltins "len" = some (.builtin "len") := by decide +kernel
theorem aFE : bootBuiltins "max" = some (.builtin "max") := by decide +kernel
theorem wF : bootBuiltins "min" = some (.builtin "min") := by decide +kernel
theorem wE : bootBuiltins "str" = some (.type "str") := by decide +kernel
theorem wG : bootBuiltins "int" = some (.type "int") := by decide +kernel
theorem uI : bootBuiltins "bool" = some (.type "bool") := by decide +kernel
theorem dA : bootBuiltins "list" = some (.type "list") := by decide +kernel
theorem aAH : bootBuiltins "tuple" = some (.type "tuple") := by decide +kernel
theorem jQ : bootBuiltins "dict" = some (.type "dict") := by decide +kernel
theorem qJ : bootBuiltins "set" = some (.type "set") := by decide +kernel
inductive Pl (K : PySem.W.Frag) (H : Hp) : V → Prop where
 | non : Pl K H .non
 | bl (b : Bool) : Pl K H (.bl b)
 | int (i : Int) : Pl K H (.int i)
 | str (x : Str) : Pl K H (.str x)
 | lst {a : Addr} {xs : List V} (e : H a = some (.lst xs)) : Pl K H (.ref a)
 | frz {a : Addr} {o : Obj} {xs : List V} (e : H a = some (.frz o (.lst xs))) : Pl K H (.ref a)
 | tup {a : Addr} {xs : List V} (e : H a = some (.tup xs)) : Pl K H (.ref a)
 | dK {a : Addr} {kvs : List (Key × V)} (e : H a = some (.dK kvs)) : Pl K H (.ref a)
theorem iM (K : PySem.W.Frag) (n : String) : PySem.W.kitOne K (.type n) (.type n) = some true := by
 unfold PySem.W.kitOne
 rw [if_pos (by simp)]
end L2
namespace L2
open PySem PySem.Spec PyProof.Rows
def lO (mg : Str → Option Value) (x : Str) (v : V) : Prop := ∃ u, mg x = some u ∧ bK v u
theorem sR {X : Cx} {x : Str} {v : V} {pos : Pos} (h : lO X.mg x v) (hg : Gl X x := by rfl) (hd : (x == ("__debug__" : Str)) = false := by decide) : PE X (.Name x pos) (tC v) := by
 obtain ⟨u, hm, r⟩ := h
 exact oW hg hm r hd
theorem lL {K : PySem.W.Frag} {mg : Str → Option Value} {h : Heap} {x : Str} {v : V} {u : Value} (X : K.In h) (G : h.Ns mainGlobals mg) (a : PySem.W.nsIn K mainGlobals x = some (some u)) (r : bK v u) : lO mg x v := ⟨u, PySem.W.mg_of X G a, r⟩
end L2
namespace L2
open PySem PySem.Spec PyProof.Rows
def qE : HO → Bool
 | .lst _ => true
 | .dK _ => true
 | .set _ _ => true
 | .ext _ => true
 | .rng _ _ => true
 | _ => false
def gN (H' H'' : Hp) : Prop := ∀ b, H'' b = H' b ∨ (H'' b = none ∧ ∃ o, H' b = some o ∧ qE o = true)
theorem gN.refl (H : Hp) : gN H H := fun _ => .inl rfl
theorem gN.trans {H1 H2 H3 : Hp} (a : gN H1 H2) (b : gN H2 H3) : gN H1 H3 := fun c => by
 rcases b c with e | ⟨e, o, q, d⟩
 ·rcases a c with e' | ⟨e', o, q, d⟩
  ·exact .inl (e.trans e')
  ·exact .inr ⟨e.trans e', o, q, d⟩
 ·rcases a c with e' | ⟨e', _⟩
  ·exact .inr ⟨e, o, e' ▸ q, d⟩
  ·rw [e'] at q; cases q
theorem gN.new {H : Hp} {p : Addr} {o : HO} (h : H p = none) (d : qE o = true) : gN (upd H p o) H := fun b => by
 by_cases hb : b = p
 ·subst hb
  exact .inr ⟨h, o, aE, d⟩
 ·exact .inl (aQ hb).symm
theorem gN.lst {H : Hp} {p : Addr} {xs : List V} (h : H p = none) : gN (upd H p (.lst xs)) H := gN.new h rfl
def cV (Q : VK) : VK := fun v H' => ∃ H'', gN H' H'' ∧ Q v H''
theorem cV.of {Q : VK} {v : V} {H H' : Hp} (d : gN H' H) (q : Q v H) : cV Q v H' := ⟨H, d, q⟩
theorem HOk.drop {P : Program} {w : World} {H' H'' : Hp} {h : Heap} (d : gN H' H'') (ok : HOk P w H' h) : HOk P w H'' h := fun b o e => by
 have e' : H' b = some o := by
  rcases d b with z | ⟨z, _⟩
  ·exact z.symm.trans e
  ·rw [z] at e; cases e
 refine (ok b o e').stay (fun _ _ _ q => q) (fun c q => ?_) fun c xs q => ?_
 ·rcases d c with z | ⟨_, o', z', dr⟩
  ·exact z.trans q
  ·rw [q] at z'; cases z'; cases dr
 ·rcases d c with z | ⟨_, o', z', dr⟩
  ·exact z.trans q
  ·rw [q] at z'; cases z'; cases dr
theorem Un.drop {fs ex : List Addr} {H H' H'' : Hp} {h h' : Heap} (d : gN H' H'') (u : Un fs ex H H' h h') : Un fs ex H H'' h h' where
 keep := u.keep
 slot := u.slot
 free := fun b o e n hx => by
  rcases d b with z | ⟨z, _⟩
  ·exact z.trans (u.free b o e n hx)
  ·exact z
 there := u.there
 tups := fun b xs e => by
  have q := u.tups b xs e
  rcases d b with z | ⟨_, o', z', dr⟩
  ·exact z.trans q
  ·rw [q] at z'; cases z'; cases dr
 frzs := fun b o v e => by
  have q := u.frzs b o v e
  rcases d b with z | ⟨_, o', z', dr⟩
  ·exact z.trans q
  ·rw [q] at z'; cases z'; cases dr
 tbls := fun b ps e => by
  obtain ⟨m, q⟩ := u.tbls b ps e
  rcases d b with z | ⟨_, o', z', dr⟩
  ·exact ⟨m, z.trans q⟩
  ·rw [q] at z'; cases z'; cases dr
theorem FnOk.drop {P : Program} {w : World} {K : PySem.W.Frag} {mg : Str → Option Value} {base : Heap} {k : Nat} {f : Addr} {fd : FuncData} {ps : List Str} {sp : Sp} (len : ∀ vs H Q E, sp vs H Q E → vs.length = ps.length)
  (F : FnOk P w K mg base CX0 k f fd ps (fun vs H Qd E => ∃ Q, sp vs H Q E ∧ Qd = cV Q)) : FnOk P w K mg base CX0 k f fd ps sp := by
 refine ⟨len, fun A outer s H args us vs Q E hr he hb hv hs => codeAny_mono (F.run A outer s H args us vs (cV Q) E hr he hb hv ⟨Q, hs, rfl⟩) fun r s' h => ?_⟩
 cases r with
 | error e => exact h
 | ok fl =>
  cases fl with
  | ret u =>
   obtain ⟨v, H', os, bare, un, hok, rv, H'', d, q⟩ := h
   exact ⟨v, H'', os, bare, un.drop d, hok.drop d, rv, q⟩
  | next => exact h
  | brk => exact h
  | cont => exact h
theorem DefAt.fcD {P : Program} {w : World} {K : PySem.W.Frag} {mg : Str → Option Value} {base : Heap} {x : Str} {st : Stmt} {N ps : List Str} {k : Nat} {sp : Sp} (D : DefAt K mg x st ps) (S : FnScope N ps (aD st)) (len : ∀ vs H Q E, sp vs H Q E → vs.length = ps.length)
  (hbody : ∀ (f : Addr) (cdv : Value) (A : Around) (outer : List Env) (s : Shared) (H : Hp) (vs : List V) (Q : VK) (E : XK), Room k (A.deeper (envOfC x (aD st) s.heap.objs.size f cdv)) → sp vs H Q E →
   ∃ t, PSs (lA CX0 P w K mg base N x (aD st) f cdv A outer s H E).nox (aJ st) t ∧ t { nx := fun _ H' => cV Q .non H', rt := cV Q } (start N vs) H) : Fc P w K mg base (k + 1) x ps sp := by
 obtain ⟨f, fd, F, b, m⟩ := D.ex
 refine ⟨f, fd, FnOk.drop len (F.ok S (fun vs H Q E ⟨Q', h, _⟩ => len vs H Q' E h) fun cdv A outer s H vs Q E hr ⟨Q', h, e⟩ => ?_), b, m, F.kp⟩
 subst e
 exact hbody f cdv A outer s H vs Q' E hr h
end L2
namespace L2
open PySem PySem.Spec PyProof.Rows
theorem aI.upd {H : Hp} {p : Addr} {o : HO} (h : H p = none) : aI H (upd H p o) := fun b u e => by
 rw [aQ (aV e h)]
 exact e
def aCQ (K : PySem.W.Frag) : Sp := sp1 fun x H Q => ∃ (a : Addr) (ns : List Int), x = .ref a ∧ SqL K H a (ns.map V.int) ∧ ns.length ≤ 63 ∧ ∀ H', Q (.bl true) H'
theorem walk_law {l : PySem.W.OpenLaw} {q : Program} {loose : List Str} {XP : (Str → Option Value) → Heap → Prop} {YP : World → Heap → Prop} {d : DefRec} {K : Params → PySem.W.Frag} (k : Nat) (hr : Room k callerA) (hn : l.most = some 63) (hdf : d.params.defaults = [])
  (hY : ∀ (w : World) (h : Heap), YP w h → (K w.params).In h)
  (F : ∀ (w : World) (mg : Str → Option Value) (fa : Addr) (h : Heap), (K w.params).In h → h.Ns mainGlobals mg → mg d.name = some (.ref fa) →
   ∃ fd : FuncData, (∀ (s : Shared) (u : Value), BindsTo s fd ⟨[u], []⟩ [("_law_script", u)]) ∧ ∀ base : Heap, (K w.params).In base → base.Ns mainGlobals mg → FnOk l.prog w (K w.params) mg base CX0 k fa fd ["_law_script"] (aCQ (K w.params))) :
  PySem.W.WalkO q loose XP YP l.row.toRowW d [] (fun f vs => PySem.call f vs) :=
 L2.walk_of (n := 63) (k := k) (x := "_law_script") (CX := fun _ => CX0) (sp := fun w => aCQ (K w.params)) hn (by decide) hdf hr hY F (fun _ _ a ns hl _ hS => ⟨_, rfl, a, ns, rfl, hS, hl, fun _ => rfl⟩) fun _ _ _ _ _ z => z
end L2
namespace L2
open PySem PySem.Spec PyProof.Rows
theorem kR {X : Cx} {x : Str} {n : String} {pos : Pos} (hm : X.mg x = none) (hv : bootBuiltins x = some (.type n)) (hg : Gl X x := by rfl) (hn : x ≠ "__name__" := by decide) (hd : (x == ("__debug__" : Str)) = false := by decide) : PE X (.Name x pos) (tC (.ty n)) :=
 aJA hg hm hv rfl hn hd
end L2
namespace L2
theorem aN {n : Nat} (h : Nat.ble n 1000 = true) : n ≤ PySem.sizeLine := Nat.le_trans (Nat.le_of_ble_eq_true h) (by decide)
end L2
namespace L2
open PySem PySem.Spec PyProof.Rows
def Ite (K : PySem.W.Frag) (a : Addr) : It where
 go := fun i H => ∃ xs x, SqL K H a xs ∧ xs[i]? = some x
 yld := fun i H v H' => ∃ p x, H p = none ∧ v = .ref p ∧ H' = upd H p (.tup [.int i, x]) ∧ ∀ ys, SqL K H a ys → ys[i]? = some x
 stop := fun i H => ∃ xs, SqL K H a xs ∧ xs.length ≤ i
end L2
namespace L2
open PySem PySem.Spec PyProof.Rows
inductive Dv where
 | non | bl (b : Bool) | int (i : Int) | str (x : Str) | lst (ds : List Dv) | tup (ds : List Dv) | dct (ks : List Key) (ds : List Dv)
mutual
def Is (H : Hp) : Dv → V → Prop
 | .non, v => v = .non
 | .bl b, v => v = .bl b
 | .int i, v => v = .int i
 | .str x, v => v = .str x
 | .lst ds, v => ∃ a vs, v = .ref a ∧ H a = some (.lst vs) ∧ IsL H ds vs
 | .tup ds, v => ∃ a vs, v = .ref a ∧ H a = some (.tup vs) ∧ IsL H ds vs
 | .dct ks ds, v => ∃ a vs, v = .ref a ∧ H a = some (.dK (ks.zip vs)) ∧ vs.length = ks.length ∧ IsL H ds vs
def IsL (H : Hp) : List Dv → List V → Prop
 | [], vs => vs = []
 | d :: ds, vs => ∃ v r, vs = v :: r ∧ Is H d v ∧ IsL H ds r
end
def aLJ : HO → Bool
 | .lst _ => true
 | .tup _ => true
 | .dK _ => true
 | _ => false
def aDV (H H' : Hp) : Prop := ∀ b o, H b = some o → aLJ o = true → H' b = some o
mutual
theorem Is.sameD {H H' : Hp} (S : aDV H H') : ∀ (d : Dv) (v : V), Is H d v → Is H' d v
 | .non, _, h => h
 | .bl _, _, h => h
 | .int _, _, h => h
 | .str _, _, h => h
 | .lst ds, _, ⟨a, vs, e, o, h⟩ => ⟨a, vs, e, S _ _ o rfl, IsL.sameD S ds vs h⟩
 | .tup ds, _, ⟨a, vs, e, o, h⟩ => ⟨a, vs, e, S _ _ o rfl, IsL.sameD S ds vs h⟩
 | .dct ks ds, _, ⟨a, vs, e, o, l, h⟩ => ⟨a, vs, e, S _ _ o rfl, l, IsL.sameD S ds vs h⟩
theorem IsL.sameD {H H' : Hp} (S : aDV H H') : ∀ (ds : List Dv) (vs : List V), IsL H ds vs → IsL H' ds vs
 | [], _, h => h
 | d :: ds, _, ⟨v, r, e, h, t⟩ => ⟨v, r, e, Is.sameD S d v h, IsL.sameD S ds r t⟩
end
theorem Is.same {H H' : Hp} (S : aI H H') (d : Dv) (v : V) (h : Is H d v) : Is H' d v := Is.sameD (fun b o e _ => S b o e) d v h
theorem IsL.same {H H' : Hp} (S : aI H H') (ds : List Dv) (vs : List V) (h : IsL H ds vs) : IsL H' ds vs := IsL.sameD (fun b o e _ => S b o e) ds vs h
mutual
def yA : Dv → Bool
 | .lst _ => false
 | .dct _ _ => false
 | .tup ds => vX ds
 | _ => true
def vX : List Dv → Bool
 | [] => true
 | d :: ds => yA d && vX ds
end
def gR (H H' : Hp) : Prop := ∀ a xs, H a = some (.tup xs) → H' a = some (.tup xs)
mutual
theorem Is.keep {H H' : Hp} (S : gR H H') : ∀ (d : Dv) (v : V), yA d = true → Is H d v → Is H' d v
 | .non, _, _, h => h
 | .bl _, _, _, h => h
 | .int _, _, _, h => h
 | .str _, _, _, h => h
 | .lst ds, _, f, _ => by cases f
 | .tup ds, _, f, ⟨a, vs, e, o, h⟩ => ⟨a, vs, e, S _ _ o, IsL.keep S ds vs f h⟩
 | .dct ks ds, _, f, _ => by cases f
theorem IsL.keep {H H' : Hp} (S : gR H H') : ∀ (ds : List Dv) (vs : List V), vX ds = true → IsL H ds vs → IsL H' ds vs
 | [], _, _, h => h
 | d :: ds, _, f, ⟨v, r, e, h, t⟩ => ⟨v, r, e, Is.keep S d v (Bool.and_eq_true_iff.mp f).1 h, IsL.keep S ds r (Bool.and_eq_true_iff.mp f).2 t⟩
end
mutual
def deq : Dv → Dv → Bool
 | .non, .non => true
 | .bl a, .bl b => a == b
 | .bl a, .int b => (if a then 1 else 0) == b
 | .int a, .bl b => a == (if b then 1 else 0)
 | .int a, .int b => a == b
 | .str a, .str b => a == b
 | .lst a, .lst b => uU a b
 | .tup a, .tup b => uU a b
 | _, _ => false
def uU : List Dv → List Dv → Bool
 | [], [] => true
 | a :: r, b :: q => deq a b && uU r q
 | _, _ => false
end
mutual
def aZ : Nat → Dv → Bool
 | _, .dct _ _ => false
 | 0, .lst _ => false
 | 0, .tup _ => false
 | n + 1, .lst ds => cX n ds
 | n + 1, .tup ds => cX n ds
 | _, _ => true
def cX : Nat → List Dv → Bool
 | _, [] => true
 | n, d :: ds => aZ n d && cX n ds
end
mutual
theorem uA : ∀ (n : Nat) (d : Dv), aZ n d = true → deq d d = true
 | _, .non, _ => rfl
 | _, .bl b, _ => beq_self_eq_true b
 | _, .int i, _ => beq_self_eq_true i
 | _, .str x, _ => beq_self_eq_true x
 | 0, .lst ds, f => by simp [aZ] at f
 | 0, .tup ds, f => by simp [aZ] at f
 | n + 1, .lst ds, f => qF n ds (by simpa [aZ] using f)
 | n + 1, .tup ds, f => qF n ds (by simpa [aZ] using f)
 | n, .dct ks ds, f => by simp [aZ] at f
theorem qF : ∀ (n : Nat) (ds : List Dv), cX n ds = true → uU ds ds = true
 | _, [], _ => rfl
 | n, d :: ds, f => by
  rw [cX, Bool.and_eq_true] at f
  show (deq d d && uU ds ds) = true
  rw [uA n d f.1, qF n ds f.2]; rfl
end
theorem IsL.length {H : Hp} : ∀ {ds : List Dv} {vs : List V}, IsL H ds vs → vs.length = ds.length
 | [], _, h => by rw [show _ = [] from h]; rfl
 | d :: ds, _, ⟨v, r, e, _, t⟩ => by rw [e, List.length_cons, List.length_cons, IsL.length t]
mutual
theorem Is.inj {H : Hp} : ∀ (d e : Dv) (v : V), Is H d v → Is H e v → (∃ n, aZ n d = true) → (∃ n, aZ n e = true) → d = e
 | .non, e, v, h, h', _, _ => by
  cases e <;> simp_all [Is]
 | .bl b, e, v, h, h', _, _ => by
  cases e <;> simp_all [Is]
 | .int b, e, v, h, h', _, _ => by
  cases e <;> simp_all [Is]
 | .str b, e, v, h, h', _, _ => by
  cases e <;> simp_all [Is]
 | .lst ds, e, v, ⟨a, vs, q, o, h⟩, h', ⟨n, f⟩, ⟨m, g⟩ => by
  subst q
  cases e with
  | lst es =>
   obtain ⟨a', vs', q', o', h'⟩ := h'
   cases q'
   rw [o] at o'
   cases o'
   cases n with
   | zero => simp [aZ] at f
   | succ n =>
    cases m with
    | zero => simp [aZ] at g
    | succ m => rw [IsL.inj ds es vs h h' ⟨n, by simpa [aZ] using f⟩ ⟨m, by simpa [aZ] using g⟩]
  | tup es =>
   obtain ⟨a', vs', q', o', h'⟩ := h'
   cases q'
   rw [o] at o'
   cases o'
  | dct ks es => simp [aZ] at g
  | _ => simp_all [Is]
 | .tup ds, e, v, ⟨a, vs, q, o, h⟩, h', ⟨n, f⟩, ⟨m, g⟩ => by
  subst q
  cases e with
  | tup es =>
   obtain ⟨a', vs', q', o', h'⟩ := h'
   cases q'
   rw [o] at o'
   cases o'
   cases n with
   | zero => simp [aZ] at f
   | succ n =>
    cases m with
    | zero => simp [aZ] at g
    | succ m => rw [IsL.inj ds es vs h h' ⟨n, by simpa [aZ] using f⟩ ⟨m, by simpa [aZ] using g⟩]
  | lst es =>
   obtain ⟨a', vs', q', o', h'⟩ := h'
   cases q'
   rw [o] at o'
   cases o'
  | dct ks es => simp [aZ] at g
  | _ => simp_all [Is]
 | .dct ks ds, e, v, _, h', ⟨n, f⟩, _ => by simp [aZ] at f
theorem IsL.inj {H : Hp} : ∀ (ds es : List Dv) (vs : List V), IsL H ds vs → IsL H es vs → (∃ n, cX n ds = true) → (∃ n, cX n es = true) → ds = es
 | [], es, vs, h, h', _, _ => by
  rw [show vs = [] from h] at h'
  cases es with
  | nil => rfl
  | cons e es => obtain ⟨v, r, q, _⟩ := h'; cases q
 | d :: ds, es, vs, ⟨v, r, q, h, t⟩, h', ⟨n, f⟩, ⟨m, g⟩ => by
  subst q
  cases es with
  | nil => cases (show v :: r = [] from h')
  | cons e es =>
   obtain ⟨v', r', q', h', t'⟩ := h'
   cases q'
   rw [cX, Bool.and_eq_true] at f g
   rw [Is.inj d e v h h' ⟨n, f.1⟩ ⟨m, g.1⟩, IsL.inj ds es r t t' ⟨n, f.2⟩ ⟨m, g.2⟩]
end
theorem IsL.get {H : Hp} : ∀ {ds : List Dv} {vs : List V} {i : Nat} {d : Dv}, IsL H ds vs → ds[i]? = some d → ∃ v, vs[i]? = some v ∧ Is H d v
 | [], _, _, _, _, e => by simp at e
 | d :: ds, _, 0, d', ⟨v, r, e, h, t⟩, q => by
  simp at q
  subst q e
  exact ⟨v, rfl, h⟩
 | d :: ds, _, i + 1, d', ⟨v, r, e, h, t⟩, q => by
  subst e
  obtain ⟨u, h1, h2⟩ := IsL.get (i := i) t (by simpa using q)
  exact ⟨u, by simpa using h1, h2⟩
theorem oN : ∀ (ds es : List Dv), ds.length = es.length → (List.range ds.length).all (fun j => deq (ds.getD j .non) (es.getD j .non)) = uU ds es
 | [], [], _ => rfl
 | d :: ds, e :: es, h => by
  have ih := oN ds es (by simpa using h)
  rw [List.length_cons, List.range_succ_eq_map, List.all_cons, List.all_map]
  show (deq d e && (List.range ds.length).all (fun j => deq (ds.getD j .non) (es.getD j .non))) = (deq d e && uU ds es)
  rw [ih]
 | [], _ :: _, h => by simp at h
 | _ :: _, [], h => by simp at h
theorem uB : ∀ (ds es : List Dv), ds.length ≠ es.length → uU ds es = false
 | [], [], h => absurd rfl h
 | d :: ds, e :: es, h => by
  show (deq d e && uU ds es) = false
  rw [uB ds es (fun q => h (by simp [q]))]
  simp
 | [], _ :: _, _ => rfl
 | _ :: _, [], _ => rfl
theorem mX : ∀ {n : Nat} {ds : List Dv} {i : Nat} {d : Dv}, cX n ds = true → ds[i]? = some d → aZ n d = true
 | n, [], _, _, _, e => by simp at e
 | n, d :: ds, 0, d', f, e => by
  simp at e
  subst e
  rw [cX, Bool.and_eq_true] at f
  exact f.1
 | n, d :: ds, i + 1, d', f, e => by
  rw [cX, Bool.and_eq_true] at f
  exact mX (i := i) f.2 (by simpa using e)
theorem IsL.snoc {H : Hp} {d : Dv} {v : V} (h : Is H d v) : ∀ {ds : List Dv} {vs : List V}, IsL H ds vs → IsL H (ds ++ [d]) (vs ++ [v])
 | [], _, e => by
  rw [show _ = [] from e]
  exact ⟨v, [], rfl, h, rfl⟩
 | d' :: ds, _, ⟨v', r, e, h', t⟩ => by
  subst e
  exact ⟨v', r ++ [v], rfl, h', IsL.snoc h t⟩
theorem IsL.rev {H : Hp} : ∀ {ds : List Dv} {vs : List V}, IsL H ds vs → IsL H ds.reverse vs.reverse
 | [], _, e => by rw [show _ = [] from e]; exact rfl
 | d :: ds, _, ⟨v, r, e, h, t⟩ => by
  subst e
  rw [List.reverse_cons, List.reverse_cons]
  exact IsL.snoc h (IsL.rev t)
theorem IsL.app {H : Hp} {es : List Dv} {us : List V} (h : IsL H es us) : ∀ {ds : List Dv} {vs : List V}, IsL H ds vs → IsL H (ds ++ es) (vs ++ us)
 | [], _, e => by rw [show _ = [] from e]; exact h
 | d :: ds, _, ⟨v, r, e, h', t⟩ => by
  subst e
  exact ⟨v, r ++ us, rfl, h', IsL.app h t⟩
theorem IsL.strs (H : Hp) : ∀ zs : List Str, IsL H (zs.map Dv.str) (zs.map V.str)
 | [] => rfl
 | z :: zs => ⟨.str z, zs.map V.str, rfl, rfl, IsL.strs H zs⟩
theorem fA : ∀ {ds : List Dv}, (∀ d ∈ ds, yA d = true) → vX ds = true
 | [], _ => rfl
 | d :: ds, h => by
  rw [vX, h d List.mem_cons_self, fA fun e m => h e (List.mem_cons_of_mem _ m)]
  rfl
theorem gR.lst {H : Hp} {l : Addr} {xs : List V} {o : HO} (h : H l = some (.lst xs)) : gR H (upd H l o) := fun a ys e => by
 have : a ≠ l := vP e h (by intro z; cases z)
 rw [aQ this]
 exact e
theorem aI.over {H H' : Hp} {l : Addr} {o : HO} (S : aI H H') (hl : H l = none) : aI H (L2.upd H' l o) := fun b u e => by
 rw [aQ (aV e hl)]
 exact S b u e
theorem tX {n : Nat} : ∀ {ds : List Dv}, (∀ d ∈ ds, aZ n d = true) → cX n ds = true
 | [], _ => by rw [cX]
 | d :: ds, h => by
  rw [cX, h d List.mem_cons_self, tX fun e m => h e (List.mem_cons_of_mem _ m)]
  rfl
inductive View (s : Shared) (H : Hp) : Dv → Value → Prop where
 | non : View s H .non .none
 | bl (b : Bool) : View s H (.bl b) (.bool b)
 | int (i : Int) (t : Tok) : View s H (.int i) (.int i t)
 | str (x : Str) (t : Tok) : View s H (.str x) (.str x t)
 | lst {ds : List Dv} {l : Addr} {its : List Value} {vs : List V} (hl : s.heap.IsList l its.toArray) (r : bL vs its) (h : IsL H ds vs) : View s H (.lst ds) (.ref l)
 | tup {ds : List Dv} {l : Addr} {its : List Value} {vs : List V} (hl : s.heap.IsTuple l its.toArray) (r : bL vs its) (h : IsL H ds vs) : View s H (.tup ds) (.ref l)
section
variable {X : Cx} {pins : List (Addr × Obj)} {σ : St} {H : Hp} {s : Shared}
theorem Is.view (I : Inv X pins σ H s) {n : Nat} {d : Dv} {v : V} {u : Value} (f : aZ n d = true) (h : Is H d v) (r : bK v u) : View s H d u := by
 cases d with
 | non => cases (show v = .non from h); cases r; exact .non
 | bl b => cases (show v = .bl b from h); cases r; exact .bl b
 | int b => cases (show v = .int b from h); obtain ⟨t, rfl⟩ := r; exact .int b t
 | str b => cases (show v = .str b from h); obtain ⟨t, rfl⟩ := r; exact .str b t
 | lst ds =>
  obtain ⟨a, vs, rfl, o, h⟩ := h
  cases r
  obtain ⟨its, rv, pl, hz⟩ := I.list (SqL.of o)
  exact .lst pl.isList rv h
 | tup ds =>
  obtain ⟨a, vs, rfl, o, h⟩ := h
  cases r
  obtain ⟨its, rv, pl, hz⟩ := I.tuple (SqT.of o)
  exact .tup pl rv h
 | dct ks ds => simp [aZ] at f
open PySem.SeqAt in
theorem lH {n : Nat} {A : Around} (hu : A.units + n < cLine)
  (ih : ∀ (d e : Dv) (v v' : V) (u u' : Value) (A : Around), A.units + n < cLine → aZ n d = true → aZ n e = true → Is H d v → Is H e v' → bK v u → bK v' u' → EqAt A s u u' (deq d e))
  {ds es : List Dv} {vs vs' : List V} {its its' : List Value} (f : cX n ds = true) (g : cX n es = true) (h : IsL H ds vs) (h' : IsL H es vs') (r : bL vs its) (r' : bL vs' its')
  (j : Nat) (h1 : j < its.toArray.size) (h2 : j < its'.toArray.size) : EqAt A s its.toArray[j] its'.toArray[j] (deq (ds.getD j .non) (es.getD j .non)) := by
 have l1 := r.length
 have l2 := r'.length
 have l3 := h.length
 have l4 := h'.length
 rw [List.size_toArray] at h1 h2
 have e1 : ds[j]? = some (ds.getD j .non) := by
  rw [List.getD_eq_getElem?_getD, List.getElem?_eq_getElem (by omega)]; rfl
 have e2 : es[j]? = some (es.getD j .non) := by
  rw [List.getD_eq_getElem?_getD, List.getElem?_eq_getElem (by omega)]; rfl
 obtain ⟨v, q1, i1⟩ := h.get e1
 obtain ⟨v', q2, i2⟩ := h'.get e2
 obtain ⟨u, p1, k1⟩ := r.get q1
 obtain ⟨u', p2, k2⟩ := r'.get q2
 have z1 : its.toArray[j] = u := by
  have := List.getElem?_eq_some_iff.mp p1
  obtain ⟨_, e⟩ := this
  simpa using e
 have z2 : its'.toArray[j] = u' := by
  have := List.getElem?_eq_some_iff.mp p2
  obtain ⟨_, e⟩ := this
  simpa using e
 rw [z1, z2]
 exact ih _ _ v v' u u' A hu (mX f e1) (mX g e2) i1 i2 k1 k2
open PySem.SeqAt in
theorem aKE (I : Inv X pins σ H s) {n : Nat}
  (ih : ∀ (d e : Dv) (v v' : V) (u u' : Value) (A : Around), A.units + n < cLine → aZ n d = true → aZ n e = true → Is H d v → Is H e v' → bK v u → bK v' u' → EqAt A s u u' (deq d e))
  (d e : Dv) (v v' : V) (u u' : Value) (A : Around) (hu : A.units + (n + 1) < cLine) (f : aZ (n + 1) d = true) (g : aZ (n + 1) e = true) (h : Is H d v) (h' : Is H e v') (r : bK v u) (r' : bK v' u') :
  RcAt A s u u' (deq d e) ∧ RcNeAt A s u u' (!deq d e) := by
 have hu0 : A.units < cLine := by omega
 have hu1 : A.in1.units + n < cLine := by show A.units + 1 + n < cLine; omega
 have w := Is.view I f h r
 have w' := Is.view I g h' r'
 cases w with
 | non =>
  cases w' with
  | non => exact ⟨RcAt.none_none, RcNeAt.none_none⟩
  | bl b => exact ⟨RcAt.none_bool _, RcNeAt.none_bool _⟩
  | int b t => exact ⟨RcAt.none_int _ _, RcNeAt.none_int _ _⟩
  | str b t => exact ⟨RcAt.none_str _ _, RcNeAt.none_str _ _⟩
  | lst hl _ _ => exact ⟨RcAt.none_list hl hu0, RcNeAt.none_list hl hu0⟩
  | tup hl _ _ => exact ⟨RcAt.none_tuple hl hu0, RcNeAt.none_tuple hl hu0⟩
 | bl a =>
  cases w' with
  | non => exact ⟨RcAt.bool_none _, RcNeAt.bool_none _⟩
  | bl b => exact ⟨RcAt.bool_bool _ _, RcNeAt.bool_bool _ _⟩
  | int b t => exact ⟨RcAt.bool_int _ _ _, RcNeAt.bool_int _ _ _⟩
  | str b t => exact ⟨RcAt.bool_str _ _ _, RcNeAt.bool_str _ _ _⟩
  | lst hl _ _ => exact ⟨RcAt.bool_list _ hl hu0, RcNeAt.bool_list _ hl hu0⟩
  | tup hl _ _ => exact ⟨RcAt.bool_tuple _ hl hu0, RcNeAt.bool_tuple _ hl hu0⟩
 | int a t =>
  cases w' with
  | non => exact ⟨RcAt.int_none _ _, RcNeAt.int_none _ _⟩
  | bl b => exact ⟨RcAt.int_bool _ _ _, RcNeAt.int_bool _ _ _⟩
  | int b t => exact ⟨RcAt.int_int _ _ _ _, RcNeAt.int_int _ _ _ _⟩
  | str b t => exact ⟨RcAt.int_str _ _ _ _, RcNeAt.int_str _ _ _ _⟩
  | lst hl _ _ => exact ⟨RcAt.int_list _ _ hl hu0, RcNeAt.int_list _ _ hl hu0⟩
  | tup hl _ _ => exact ⟨RcAt.int_tuple _ _ hl hu0, RcNeAt.int_tuple _ _ hl hu0⟩
 | str a t =>
  cases w' with
  | non => exact ⟨RcAt.str_none _ _, RcNeAt.str_none _ _⟩
  | bl b => exact ⟨RcAt.str_bool _ _ _, RcNeAt.str_bool _ _ _⟩
  | int b t => exact ⟨RcAt.str_int _ _ _ _, RcNeAt.str_int _ _ _ _⟩
  | str b t => exact ⟨RcAt.str_str _ _ _ _, RcNeAt.str_str _ _ _ _⟩
  | lst hl _ _ => exact ⟨RcAt.str_list _ _ hl hu0, RcNeAt.str_list _ _ hl hu0⟩
  | tup hl _ _ => exact ⟨RcAt.str_tuple _ _ hl hu0, RcNeAt.str_tuple _ _ hl hu0⟩
 | @lst ds l its vs hl rv hi =>
  cases w' with
  | non => exact ⟨RcAt.list_none hl hu0, RcNeAt.list_none hl hu0⟩
  | bl b => exact ⟨RcAt.list_bool _ hl hu0, RcNeAt.list_bool _ hl hu0⟩
  | int b t => exact ⟨RcAt.list_int _ _ hl hu0, RcNeAt.list_int _ _ hl hu0⟩
  | str b t => exact ⟨RcAt.list_str _ _ hl hu0, RcNeAt.list_str _ _ hl hu0⟩
  | @lst es l' its' vs' hl' rv' hi' =>
   have f' : cX n ds = true := by simpa [aZ] using f
   have g' : cX n es = true := by simpa [aZ] using g
   have l1 := rv.length
   have l2 := rv'.length
   have l3 := hi.length
   have l4 := hi'.length
   by_cases hq : ds.length = es.length
   ·have hsz : its.toArray.size = its'.toArray.size := by rw [List.size_toArray, List.size_toArray]; omega
    have key : (List.range its.toArray.size).all (fun j => deq (ds.getD j .non) (es.getD j .non)) = deq (.lst ds) (.lst es) := by
     rw [List.size_toArray, show its.length = ds.length by omega]
     exact oN ds es hq
    rw [← key]
    exact ⟨RcAt.lists hl hl' hsz hu0 (lH hu1 ih f' g' hi hi' rv rv'), RcNeAt.lists hl hl' hsz hu0 (lH hu1 ih f' g' hi hi' rv rv')⟩
   ·have key : deq (.lst ds) (.lst es) = false := uB ds es hq
    have hsz : (its.toArray.size != its'.toArray.size) = true := by
     rw [List.size_toArray, List.size_toArray, bne_iff_ne]; omega
    rw [key]
    exact ⟨RcAt.lists_lengths hl hl' hsz hu0, RcNeAt.lists_lengths hl hl' hsz hu0⟩
  | tup hl' _ _ => exact ⟨RcAt.list_tuple hl hl' hu0, RcNeAt.list_tuple hl hl' hu0⟩
 | @tup ds l its vs hl rv hi =>
  cases w' with
  | non => exact ⟨RcAt.tuple_none hl hu0, RcNeAt.tuple_none hl hu0⟩
  | bl b => exact ⟨RcAt.tuple_bool _ hl hu0, RcNeAt.tuple_bool _ hl hu0⟩
  | int b t => exact ⟨RcAt.tuple_int _ _ hl hu0, RcNeAt.tuple_int _ _ hl hu0⟩
  | str b t => exact ⟨RcAt.tuple_str _ _ hl hu0, RcNeAt.tuple_str _ _ hl hu0⟩
  | lst hl' _ _ => exact ⟨RcAt.tuple_list hl hl' hu0, RcNeAt.tuple_list hl hl' hu0⟩
  | @tup es l' its' vs' hl' rv' hi' =>
   have f' : cX n ds = true := by simpa [aZ] using f
   have g' : cX n es = true := by simpa [aZ] using g
   have l1 := rv.length
   have l2 := rv'.length
   have l3 := hi.length
   have l4 := hi'.length
   have key : ((List.range (min its.toArray.size its'.toArray.size)).all (fun j => deq (ds.getD j .non) (es.getD j .non)) && its.toArray.size == its'.toArray.size) = deq (.tup ds) (.tup es) := by
    rw [List.size_toArray, List.size_toArray, show its.length = ds.length by omega, show its'.length = es.length by omega]
    show _ = uU ds es
    by_cases hq : ds.length = es.length
    ·rw [← hq, Nat.min_self, oN ds es hq]
     simp
    ·rw [uB ds es hq, beq_eq_false_iff_ne.mpr hq]
     simp
   rw [← key]
   exact ⟨RcAt.tuples hl hl' hu0 (lH hu1 ih f' g' hi hi' rv rv'), RcNeAt.tuples hl hl' hu0 (lH hu1 ih f' g' hi hi' rv rv')⟩
open PySem.SeqAt in
theorem Is.eqAt (I : Inv X pins σ H s) : ∀ (n : Nat) (d e : Dv) (v v' : V) (u u' : Value) (A : Around), A.units + n < cLine → aZ n d = true → aZ n e = true → Is H d v → Is H e v' → bK v u → bK v' u' → EqAt A s u u' (deq d e) := by
 intro n
 induction n with
 | zero =>
  intro d e v v' u u' A hu f g h h' r r'
  cases d with
  | lst _ => simp [aZ] at f
  | tup _ => simp [aZ] at f
  | dct _ _ => simp [aZ] at f
  | non =>
   cases e with
   | lst _ => simp [aZ] at g
   | tup _ => simp [aZ] at g
   | dct _ _ => simp [aZ] at g
   | _ => cases h; cases h'; exact lM r r' rfl rfl
  | bl b =>
   cases e with
   | lst _ => simp [aZ] at g
   | tup _ => simp [aZ] at g
   | dct _ _ => simp [aZ] at g
   | _ => cases h; cases h'; exact lM r r' rfl rfl
  | int b =>
   cases e with
   | lst _ => simp [aZ] at g
   | tup _ => simp [aZ] at g
   | dct _ _ => simp [aZ] at g
   | _ => cases h; cases h'; exact lM r r' rfl rfl
  | str b =>
   cases e with
   | lst _ => simp [aZ] at g
   | tup _ => simp [aZ] at g
   | dct _ _ => simp [aZ] at g
   | _ => cases h; cases h'; exact lM r r' rfl rfl
 | succ n ih =>
  intro d e v v' u u' A hu f g h h' r r'
  have rc := (aKE I ih d e v v' u u' A hu f g h h' r r').1
  have w := Is.view I f h r
  have w' := Is.view I g h' r'
  have fin : ∀ (l l' : Addr), u = .ref l → u' = .ref l' → EqAt A s u u' (deq d e) := by
   rintro l l' rfl rfl
   by_cases hq : l = l'
   ·subst hq
    have e1 : v = .ref l := r.inj (show bK (.ref l) (.ref l) from rfl)
    have e2 : v' = .ref l := r'.inj (show bK (.ref l) (.ref l) from rfl)
    subst e1 e2
    have e3 := Is.inj d e _ h h' ⟨_, f⟩ ⟨_, g⟩
    subst e3
    rw [uA _ d f]
    exact EqAt.same _
   ·exact EqAt.of_refs hq rc
  cases w with
  | lst hl _ _ =>
   cases w' with
   | lst hl' _ _ => exact fin _ _ rfl rfl
   | tup hl' _ _ => exact fin _ _ rfl rfl
   | non => exact EqAt.list_none hl (by omega)
   | bl b => exact EqAt.list_bool _ hl (by omega)
   | int b t => exact EqAt.list_int _ _ hl (by omega)
   | str b t => exact EqAt.list_str _ _ hl (by omega)
  | tup hl _ _ =>
   cases w' with
   | lst hl' _ _ => exact fin _ _ rfl rfl
   | tup hl' _ _ => exact fin _ _ rfl rfl
   | non => exact EqAt.tuple_none hl (by omega)
   | bl b => exact EqAt.tuple_bool _ hl (by omega)
   | int b t => exact EqAt.tuple_int _ _ hl (by omega)
   | str b t => exact EqAt.tuple_str _ _ hl (by omega)
  | non =>
   cases w' with
   | lst hl' _ _ => exact EqAt.none_list hl' (by omega)
   | tup hl' _ _ => exact EqAt.none_tuple hl' (by omega)
   | _ => cases h; cases h'; exact lM r r' rfl rfl
  | bl b =>
   cases w' with
   | lst hl' _ _ => exact EqAt.bool_list _ hl' (by omega)
   | tup hl' _ _ => exact EqAt.bool_tuple _ hl' (by omega)
   | _ => cases h; cases h'; exact lM r r' rfl rfl
  | int b t =>
   cases w' with
   | lst hl' _ _ => exact EqAt.int_list _ _ hl' (by omega)
   | tup hl' _ _ => exact EqAt.int_tuple _ _ hl' (by omega)
   | _ => cases h; cases h'; exact lM r r' rfl rfl
  | str b t =>
   cases w' with
   | lst hl' _ _ => exact EqAt.str_list _ _ hl' (by omega)
   | tup hl' _ _ => exact EqAt.str_tuple _ _ hl' (by omega)
   | _ => cases h; cases h'; exact lM r r' rfl rfl
end
def aOC (neg : Bool) : R2 := fun x y H Q => ∃ d e, Is H d x ∧ Is H e y ∧ aZ 30 d = true ∧ aZ 30 e = true ∧ Q (.bl (if neg then !deq d e else deq d e)) H
theorem aKZ {X : Cx} (hu : X.A.units + 64 < cLine) : OpR X (compareOp .NotEq) (aOC true) := by
 intro pins s σ H x y v u Q I rx ry h
 obtain ⟨d, e, h, h', f, g, q⟩ := h
 exact (aKE (n := 29) I (Is.eqAt I 29) d e x y v u X.A (by omega) f g h h' rx ry).2 _ _ _ _ ⟨.bl _, H, I, rfl, q⟩
end L2
namespace L2
open PySem PySem.Spec PyProof.Rows
instance keyMem (k : Key) (l : List Key) : Decidable (k ∈ l) := decidable_of_iff (l.any (fun x => decide (x = k)) = true) (by simp)
def eB (key : Nat → Key) : Nat → List Key
 | 0 => []
 | i + 1 => if key i ∈ eB key i then eB key i else eB key i ++ [key i]
theorem rQ (key : Nat → Key) : ∀ i, (eB key i).length ≤ i
 | 0 => Nat.le_refl _
 | i + 1 => by
  have ih := rQ key i
  show (if key i ∈ eB key i then eB key i else eB key i ++ [key i]).length ≤ i + 1
  split
  ·omega
  ·rw [List.length_append, List.length_singleton]; omega
theorem zP (key : Nat → Key) (k : Key) : ∀ i, k ∈ eB key i ↔ ∃ j, j < i ∧ key j = k
 | 0 => by
  constructor
  ·intro h; cases h
  ·rintro ⟨j, h, _⟩; omega
 | i + 1 => by
  have ih := zP key k i
  show k ∈ (if key i ∈ eB key i then eB key i else eB key i ++ [key i]) ↔ _
  have step : (k ∈ eB key i ∨ k = key i) ↔ ∃ j, j < i + 1 ∧ key j = k := by
   rw [ih]
   constructor
   ·rintro (⟨j, h, e⟩ | e)
    ·exact ⟨j, by omega, e⟩
    ·exact ⟨i, by omega, e.symm⟩
   ·rintro ⟨j, h, e⟩
    by_cases hj : j = i
    ·subst hj; exact .inr e.symm
    ·exact .inl ⟨j, by omega, e⟩
  rw [← step]
  split
  ·rename_i h
   constructor
   ·exact .inl
   ·rintro (h' | rfl)
    ·exact h'
    ·exact h
  ·rw [List.mem_append, List.mem_singleton]
theorem vQ (key : Nat → Key) : ∀ n, (eB key n).length = n ↔ ∀ i j, i < j → j < n → key i ≠ key j
 | 0 => ⟨fun _ i j _ h => absurd h (Nat.not_lt_zero _), fun _ => rfl⟩
 | n + 1 => by
  have ih := vQ key n
  have le := rQ key n
  have mm := zP key (key n) n
  show (if key n ∈ eB key n then eB key n else eB key n ++ [key n]).length = n + 1 ↔ _
  split
  ·rename_i h
   constructor
   ·intro e; omega
   ·intro e
    obtain ⟨j, hj, q⟩ := mm.mp h
    exact absurd q (e j n hj (Nat.lt_succ_self n))
  ·rename_i h
   rw [List.length_append, List.length_singleton, Nat.add_right_cancel_iff, ih]
   constructor
   ·intro e i j hi hj
    by_cases q : j = n
    ·subst q
     exact fun z => h (mm.mpr ⟨i, hi, z⟩)
    ·exact e i j hi (by omega)
   ·intro e i j hi hj
    exact e i j hi (by omega)
def rG (ks : List Key) : List Key := eB (fun i => ks.getD i (.inl 0)) ks.length
theorem qG (ks : List Key) : (rG ks).length = ks.length ↔ ks.Nodup := by
 unfold rG
 rw [vQ, List.nodup_iff_pairwise_ne, List.pairwise_iff_getElem]
 constructor
 ·intro h i j hi hj hij
  have := h i j hij hj
  simpa [List.getD_eq_getElem?_getD, hi, hj] using this
 ·intro h i j hij hj
  have hi : i < ks.length := by omega
  have := h i j hi hj hij
  simpa [List.getD_eq_getElem?_getD, hi, hj] using this
theorem yB (ks : List Key) : (rG ks).length ≤ ks.length := rQ _ _
def aFG (P : Program) (w : World) (a : Addr) (S : Key → Bool) (n : Nat) : HO := .ext fun h => h.SetOf (bB P w) a S n
theorem aFG.ok {P : Program} {w : World} {H : Hp} {h : Heap} {a : Addr} {S : Key → Bool} {n : Nat} (x : h.SetOf (bB P w) a S n) : cJ P w H h a (aFG P w a S n) :=
 ⟨x, let ⟨o, _, _, _, ho, _⟩ := x; ⟨o, ho⟩, fun _ _ ⟨o, es, ep, t, ho, r⟩ k => ⟨o, es, ep, t, k o ho, r⟩⟩
theorem aHG {P : Program} {w : World} {k : Key} {v : Value} (h : (bB P w).is k v = true) : v.scannable = true := by
 rcases cS h with ⟨i, t, rfl, rfl⟩ | ⟨x, t, rfl, rfl⟩ <;> rfl
section
variable {P : Program} {w : World} {A : Around} {R : Result → Shared → Prop} {I : Addr} {fp wr : List Addr} {G : Array GenState → Array GenState → Prop} {n : Nat} {Pv : Nat → Value → Prop} {Stt : Nat → Shared → Prop}
theorem aAY {h : Heap} {a : Addr} {S S' : Key → Bool} {n n' : Nat} (x : h.SetOf (bB P w) a S n) (e : ∀ k, S k = S' k) (q : n = n') : h.SetOf (bB P w) a S' n' := by
 obtain rfl : S = S' := funext e
 subst q
 exact x
theorem aGG (W : WalksS P w A.in1 I fp wr G n Pv Stt) (D : Addr) (hD : D ∉ fp) (key : Nat → Key) (hv : ∀ i v, Pv i v → (bB P w).is (key i) v = true) (hb : n + 1 < scanBound) (fin : ∀ s s', Moved (D :: wr) G s s' → s'.heap.SetOf (bB P w) D (fun k => decide (k ∈ eB key n)) (eB key n).length → True) :
  ∀ (m i : Nat) (s : Shared), n - i = m → i ≤ n → Stt i s → s.heap.SetOf (bB P w) D (fun k => decide (k ∈ eB key i)) (eB key i).length →
   (∀ s', Moved (D :: wr) G s s' → s'.heap.SetOf (bB P w) D (fun k => decide (k ∈ eB key n)) (eB key n).length → R (.ok (.ret .none)) s') →
   codeAny (model P w) A (.builtin "set.update.loop" ⟨[.ref D, .ref I], []⟩) R s := by
 have hDw : D ∉ wr := fun z => hD (W.sub _ z)
 have sub : ∀ b ∈ wr, b ∈ D :: wr := fun b z => List.mem_cons_of_mem _ z
 have moved : ∀ {s s' : Shared} {S : Key → Bool} {c : Nat}, Moved wr G s s' → s.heap.SetOf (bB P w) D S c → s'.heap.SetOf (bB P w) D S c := fun mv ⟨o, es, ep, t, ho, r⟩ => ⟨o, es, ep, t, mv.heap D _ hDw ho, r⟩
 intro m
 induction m with
 | zero =>
  intro i s e1 e2 st hS hR
  obtain rfl : i = n := by omega
  refine codeAny_builtin PyProof.Rows.F.entry_set_update_loop ?_
  rw [Around.under_plainId PyProof.Rows.F.plain_set_update_loop _]
  show wpAny _ A.in1 (pyNext (.ref I) >>= _) _ _ s
  refine wpAny_bind (W.done s _ _ st fun s' mv => ?_)
  exact wpAny_pure (hR s' (mv.mono sub) (moved mv hS))
 | succ m ih =>
  intro i s e1 e2 st hS hR
  have lt : i < n := by omega
  refine codeAny_builtin PyProof.Rows.F.entry_set_update_loop ?_
  rw [Around.under_plainId PyProof.Rows.F.plain_set_update_loop _]
  show wpAny _ A.in1 (pyNext (.ref I) >>= _) _ _ s
  refine wpAny_bind (W.item i s _ _ lt st fun v s' pv st' mv => ?_)
  have hk := hv i v pv
  have hS1 := moved mv hS
  show wpAny _ A.in1 (holding [v] (setAdd D v) >>= _) _ _ s'
  refine wpAny_bind (wpAny_holding ?_)
  unfold setAdd
  refine wpAny_holding (wpAny_bind ((bB P w).pyHash (k := key i) hk ?_))
  have room : (eB key i).length + 1 < scanBound := by have := rQ key i; omega
  refine wpAny_setAddHashed_of (knd := bB P w) (s := { s' with toks := s'.toks + 1 }) hk (aHG hk) hS1 room fun h' sb hS2 => ?_
  have hS3 : h'.SetOf (bB P w) D (fun k => decide (k ∈ eB key (i + 1))) (eB key (i + 1)).length := by
   refine aAY hS2 (fun k => ?_) ?_
   ·show (decide (k ∈ eB key i) || decide (k = key i)) = decide (k ∈ if key i ∈ eB key i then eB key i else eB key i ++ [key i])
    by_cases z : key i ∈ eB key i
    ·rw [if_pos z]
     by_cases y : k = key i
     ·subst y; simp [z]
     ·simp [y]
    ·rw [if_neg z]
     simp
   ·show (if decide (key i ∈ eB key i) = true then (eB key i).length else (eB key i).length + 1) = (if key i ∈ eB key i then eB key i else eB key i ++ [key i]).length
    by_cases z : key i ∈ eB key i
    ·rw [if_pos z, if_pos (decide_eq_true z)]
    ·rw [if_neg z, if_neg (by simpa using z)]
     simp
  refine wpAny_pure ⟨plainId_quiet PyProof.Rows.F.plain_set_update_loop _, ih (i + 1) _ (by omega) lt (W.frame _ s' _ _ st' (Nat.le_succ _) fun b hb o e => ?_) hS3 fun s2 mv2 hS4 => ?_⟩
  ·rw [sb.2 b (fun z : b = D => hD (by rw [← z]; exact hb))]
   exact e
  ·refine hR s2 (Moved.trans W.gtrans ((mv.mono sub).then_heap (Nat.le_succ _) fun b o hb e => ?_) mv2) hS4
   rw [sb.2 b (fun z : b = D => hb (by rw [z]; exact List.mem_cons_self))]
   exact e
end
section
variable {P : Program} {w : World} {A : Around} {E : Value → Shared → Prop} {s : Shared}
abbrev tI (led : Bool) : Obj := { cls := .type "set", dict := none, data := .set #[] 0 (.fresh 0 0 led) }
set_option maxHeartbeats 8000000 in
theorem zA {l : Addr} {its : List Value} {ks : List Key} {Q : Value → Shared → Prop} (hh : A.handled = none) (hl : s.heap.IsList l its.toArray) (hk : ∀ i v, its[i]? = some v → (bB P w).is (ks.getD i (.inl 0)) v = true) (hn : its.length = ks.length) (hb : its.length + 1 < scanBound)
  (h : ∀ (h' : Heap) (tk : Nat), h'.SetOf (bB P w) s.heap.objs.size (fun k => decide (k ∈ rG ks)) (rG ks).length → (∀ b o, s.heap.get? b = some o → h'.get? b = some o) → Q (.ref s.heap.objs.size) { s with heap := h', toks := tk }) :
  wpAny (model P w) A (call (.type "set") [.ref l]) Q E s := by
 obtain ⟨c, tl, hmro⟩ := PySem.F.called_set.mro
 have m1 := PySem.F.called_set.made
 have m2 := PySem.F.called_set.sub
 refine wpAny_call (codeAny_of_tree ?_)
 show wpAny _ _ (callAny (.type "set") _) _ _ _
 refine wpAny_pure ⟨Code.quiet_builtin _ (by decide +kernel), codeAny_builtin PySem.F.entry_type_call ?_⟩
 rw [Around.under_plain (weight_type_call_type "set" [.ref l] []) rfl]
 have m3 := PySem.F.called_set.notType
 have m4 := PySem.F.called_set.canCreate
 have m5 := PySem.F.typeCall_set_1 (.ref l)
 repeat (any_goals (first | assumption | wp_step))
 refine codeAny_mono (code_set_new_1 (.ref l) (E := E) (Q₁ := fun ob s1 => ∃ led : Bool, ob = .ref s.heap.objs.size ∧ s1 = { s with heap := s.heap.push (tI led) }) fun led => ⟨led, rfl, rfl⟩) fun r s1 hr => ?_
 cases r with
 | error e => exact hr
 | ok fl =>
  cases fl with
  | ret ob =>
   obtain ⟨led, rfl, rfl⟩ := hr
   have hS : (s.heap.push (tI led)).get? s.heap.objs.size = some (tI led) := Heap.get?_push_size _ rfl
   have hT : Shared.TypeIs { s with heap := s.heap.push (tI led) } (.ref s.heap.objs.size) "set" := ⟨_, hS, rfl⟩
   have m6 := PySem.F.called_set.init.lookup
   have m7 := PySem.F.called_set.init.bind (.ref s.heap.objs.size)
   repeat (any_goals (first | assumption | wp_step))
   refine codeAny_mono (codeAny_call_builtin (R := wants (fun r s2 => r = .none ∧ ∃ h' tk, s2 = { s with heap := h', toks := tk } ∧ h'.SetOf (bB P w) s.heap.objs.size (fun k => decide (k ∈ rG ks)) (rG ks).length ∧ (∀ b o, s.heap.get? b = some o → h'.get? b = some o)) E)
    PySem.F.called_set.init.plain PySem.F.entry_set_init (check_set_init_1 hT ?_)) fun r2 s2 hr2 => ?_
   ·obtain ⟨⟨oc, od, oda, osl⟩, hol, hcl, nl, hdl⟩ := hl
    simp only at hcl hdl
    subst hcl hdl
    have hol1 : (s.heap.push (tI led)).get? l = some { cls := .type "list", dict := od, data := .seq its.toArray nl, slots := osl } := Heap.get?_push_of_some _ hol
    have m8 := PySem.F.sub_list_set
    have m9 := PySem.F.sub_list_frozenset
    have m10 : (Value.type "list" == Value.type "dict") = false := by decide
    have hl1 : (s.heap.push (tI led)).IsList l its.toArray := ⟨_, hol1, rfl, nl, rfl⟩
    have lS : l < s.heap.objs.size := Heap.lt_size hol
    unfold Builtin.«set.__init__» noKeywords Builtin.Frozenset.updateFrom
    generalize hPI : pyIter = PI
    wp_walk
    subst hPI
    refine wpAny_pyIter_list hl1 (wpAny_bind (wpAny_runValue ?_))
    have hh3 : A.in1.in1.in1.handled = none := by simp [hh]
    have nI : l ≠ (s.heap.push (tI led)).objs.size := by rw [Heap.size_push]; exact Nat.ne_of_lt (Nat.lt_succ_of_lt lS)
    have nS : s.heap.objs.size ∉ [(s.heap.push (tI led)).objs.size, l] := by
     rw [Heap.size_push]
     simp only [List.mem_cons, List.mem_singleton, List.not_mem_nil, or_false, not_or]
     exact ⟨Nat.ne_of_lt (Nat.lt_succ_self _), Nat.ne_of_gt lS⟩
    have sz : its.toArray.size = ks.length := by rw [List.size_toArray, hn]
    refine aGG ((Walks.list hh3 _ l nI its.toArray).toS) s.heap.objs.size nS (fun i => ks.getD i (.inl 0)) (fun i v pv => hk i v (by simpa using pv)) (by rw [List.size_toArray]; exact hb) (fun _ _ _ _ => trivial) (its.toArray.size - 0) 0 _ (by omega) (Nat.zero_le _)
     ⟨⟨_, Heap.get?_push_size _ rfl, rfl, rfl⟩, (hl1.push _)⟩ ?_ ?_
    ·have g : ((s.heap.push (tI led)).push { cls := .type "list_iterator", data := .fields #[.ref l, .int 0 0] }).get? s.heap.objs.size = some (tI led) := Heap.get?_push_of_some _ hS
     exact ⟨_, #[], 0, _, g, ⟨rfl, rfl, rfl⟩, rfl, fun e he => by simp at he, fun k => by simp [eB], by decide, by rfl, rfl⟩
    ·intro s3 mv hS3
     obtain ⟨h3, g3, d3, t3, o3⟩ := s3
     have e1 : g3 = s.gens := mv.gens
     have e2 : d3 = s.drawn := mv.drawn
     have e3 : o3 = s.os := mv.os
     subst e1 e2 e3
     rw [sz] at hS3
     show wpAny _ _ _ _ _ _
     refine wpAny_pure ?_
     show wpAny _ _ (ret Value.none) _ _ _
     refine wpAny_pure ⟨rfl, h3, t3, rfl, hS3, fun b o e => ?_⟩
     have lb := Heap.lt_size e
     have b1 : b ≠ s.heap.objs.size := Nat.ne_of_lt lb
     have b2 : b ≠ (s.heap.push (tI led)).objs.size := by rw [Heap.size_push]; exact Nat.ne_of_lt (Nat.lt_succ_of_lt lb)
     exact mv.heap b o (by simp only [List.mem_cons, List.mem_singleton, List.not_mem_nil, or_false, not_or]; exact ⟨b1, b2⟩) (Heap.get?_push_of_some _ (Heap.get?_push_of_some _ e))
   ·cases r2 with
    | error e => exact hr2
    | ok f2 =>
     cases f2 with
     | ret r =>
      obtain ⟨rfl, h', tk, rfl, hS2, hk2⟩ := hr2
      repeat (any_goals (first | assumption | wp_step))
      exact h _ _ hS2 hk2
     | _ => exact hr2.elim
  | _ => exact hr.elim
end
section
variable {X : Cx}
theorem aDK {P : Program} {w : World} : ∀ {ks : List Key} {us : List Value}, bL (ks.map kV) us → ∀ i v, us[i]? = some v → (bB P w).is (ks.getD i (.inl 0)) v = true
 | [], us, r, i, v, e => by
  rw [List.map_nil] at r
  cases r
  simp at e
 | k :: ks, us, r, i, v, e => by
  rw [List.map_cons] at r
  cases r with
  | cons r1 r2 =>
   cases i with
   | zero =>
    simp at e
    subst e
    cases k with
    | inl z => obtain ⟨t, rfl⟩ := r1; exact qA z t
    | inr z => obtain ⟨t, rfl⟩ := r1; exact pZ z t
   | succ i =>
    have := aDK (P := P) (w := w) r2 i v (by simpa using e)
    simpa using this
theorem kG (hc : X.calm = true) : gO X (.type "set") (fun xs H Q => ∃ (p : Addr) (ks : List Key), xs = [.ref p] ∧ SqL X.K H p (ks.map kV) ∧ ks.length ≤ 1000 ∧
  ∀ l, H l = none → Q (.ref l) (upd H l (aFG X.prog X.w l (fun k => decide (k ∈ rG ks)) (rG ks).length))) := by
 intro pins s σ H xs us Q I r h
 obtain ⟨p, ks, rfl, hq, hn, q⟩ := h
 obtain ⟨u, rfl, ru⟩ := bL.one r
 cases ru
 obtain ⟨its, rv, pl, hz⟩ := I.list hq
 have hlen := rv.length
 rw [List.length_map] at hlen
 refine zA (ks := ks) (I.ok.hd hc) pl.isList (aDK rv) hlen.symm (by unfold scanBound; omega) fun h' tk hS hk => ?_
 exact ⟨.ref s.heap.objs.size, _, I.laid (t' := tk) hk (Nat.le_refl _) (aFG.ok hS), rfl, q _ (I.hok.fresh (Nat.le_refl _))⟩
theorem call_len_set : gO X (.builtin "len") (fun xs H Q => ∃ l S n, xs = [.ref l] ∧ H l = some (aFG X.prog X.w l S n) ∧ n ≤ 1000 ∧ Q (.int n) H) := by
 intro pins s σ H xs us Q I r h
 obtain ⟨l, S, n, rfl, e, hn, q⟩ := h
 obtain ⟨u, rfl, ru⟩ := bL.one r
 cases ru
 obtain ⟨⟨o, es, ep, t, ho, hex, hd, hel, hmem, hb, hf, hes⟩, _⟩ := I.hok l _ e
 refine PySem.call_len_set ho hex hd hf (by rw [hes]; omega) ⟨.int n, H, I.tok _, ⟨s.toks + 1, by rw [hes]⟩, q⟩
end
end L2
namespace L2
open PySem PySem.Spec PyProof.Rows
section
variable {X : Cx}
theorem vV {k : Key} {v : Value} (h : tQ k v = true) : bK (kV k) v := by
 rcases cS h with ⟨i, t, rfl, rfl⟩ | ⟨x, t, rfl, rfl⟩
 ·exact ⟨t, rfl⟩
 ·exact ⟨t, rfl⟩
theorem rK : ∀ {xs : List V} {us : List Value}, us.length = xs.length → (∀ (j : Nat) (u : Value) (x : V), us[j]? = some u → xs[j]? = some x → bK x u) → bL xs us
 | [], [], _, _ => .nil
 | x :: xs, u :: us, hl, h => .cons (h 0 u x rfl rfl) (rK (by simpa using hl) fun j v y e1 e2 => h (j + 1) v y (by simpa using e1) (by simpa using e2))
 | [], _ :: _, hl, _ => by simp at hl
 | _ :: _, [], hl, _ => by simp at hl
theorem KV.get : ∀ {kvs : List (Key × V)} {vs : List (Key × Value)} {i : Nat} {p : Key × Value}, KV kvs vs → vs[i]? = some p → ∃ q, kvs[i]? = some q ∧ q.1 = p.1 ∧ bK q.2 p.2
 | _, _, _, _, .nil, e => by simp at e
 | _, _, 0, _, .cons r _, e => by simp at e; subst e; exact ⟨_, rfl, r.1, r.2⟩
 | _, _, i + 1, p, .cons _ t, e => by
  obtain ⟨q, h1, h2⟩ := KV.get (i := i) (p := p) t (by simpa using e)
  exact ⟨q, by simpa using h1, h2⟩
theorem nA (hc : X.calm = true) : gO X (.type "list") (fun xs H Q => ∃ p kvs, xs = [.ref p] ∧ Rd H p (.dK kvs) ∧ ∀ l, H l = none → Q (.ref l) (upd H l (.lst (kvs.map fun kv => kV kv.1)))) := by
 intro pins s σ H xs us Q I r h
 obtain ⟨p, kvs, rfl, hq, q⟩ := h
 obtain ⟨u, rfl, ru⟩ := bL.one r
 cases ru
 obtain ⟨hz, lo, vs, kv, hD⟩ := hq.ok I.hok
 obtain ⟨ep, hat⟩ := hD.dictAt
 have hl := KV.length kv
 refine PySem.W.kdl_call (PySem.W.kdl_dict (knd := bB X.prog X.w) (kvs := vs) (ep := ep) lo) (I.ok.hd hc) hat (by omega) fun h' tk acc c hk hg hi => ?_
 refine ⟨.ref s.heap.objs.size, _, I.laid (t' := tk) hk (Nat.le_refl _) (show cJ X.prog X.w _ h' _ (.lst (kvs.map fun kv => kV kv.1)) from ⟨by rw [List.length_map]; exact hz, acc.toList, c, ?_, by simpa using hg⟩), rfl, q _ (I.hok.fresh (Nat.le_refl _))⟩
 refine rK (by rw [List.length_map, Array.length_toList, hi.1, hl]) fun j u x e1 e2 => ?_
 obtain ⟨k, y, e3, e4⟩ := hi.2 j u (by rw [← Array.getElem?_toList]; exact e1)
 obtain ⟨z, e5, e6, _⟩ := KV.get kv e3
 rw [List.getElem?_map, e5] at e2
 have e2' : kV z.1 = x := by simpa using e2
 subst e2'
 rw [show z.1 = k from e6]
 exact vV e4
def aAL (v d : Addr) : HO := .ext fun h => h.IsValuesView v d
theorem aAL.ok {P : Program} {w : World} {H : Hp} {h : Heap} {v d : Addr} (x : h.IsValuesView v d) : cJ P w H h v (aAL v d) :=
 ⟨x, let ⟨o, ho, _⟩ := x; ⟨o, ho⟩, fun _ _ ⟨o, ho, r⟩ k => ⟨o, k o ho, r⟩⟩
theorem aEM : MtR X "dict.values" (fun x vs H Q => ∃ d kvs, x = .ref d ∧ vs = [] ∧ Rd H d (.dK kvs) ∧ ∀ v, H v = none → Q (.ref v) (upd H v (aAL v d))) := by
 intro pins s σ H x vs v us Q I rx rv h
 obtain ⟨d, kvs, rfl, rfl, hq, q⟩ := h
 cases rx
 have hus := rv.zero
 subst hus
 obtain ⟨hz, lo, ws, kv, hD⟩ := hq.ok I.hok
 refine call_meetsIn PySem.F.slot_dict_values hD.typeIs PySem.F.entry_dict_values (PySem.F.args_dict_values_1 _) (meets_dict_values (bB X.prog X.w) d lo) ⟨⟨ws, hD⟩, ?_⟩
 exact ⟨.ref s.heap.objs.size, _, I.laid (t' := s.toks) (fun b ob e => Heap.get?_push_of_some _ e) (Nat.le_refl _) (aAL.ok ⟨_, Heap.get?_push_size _ rfl, rfl, rfl⟩), rfl, q _ (I.hok.fresh (Nat.le_refl _))⟩
theorem qI (hc : X.calm = true) : gO X (.type "list") (fun xs H Q => ∃ v d kvs, xs = [.ref v] ∧ H v = some (aAL v d) ∧ Rd H d (.dK kvs) ∧ ∀ l, H l = none → Q (.ref l) (upd H l (.lst (kvs.map (·.2))))) := by
 intro pins s σ H xs us Q I r h
 obtain ⟨v, d, kvs, rfl, ev, hq, q⟩ := h
 obtain ⟨u, rfl, ru⟩ := bL.one r
 cases ru
 obtain ⟨hz, lo, vs, kv, hD⟩ := hq.ok I.hok
 obtain ⟨hv, _⟩ := I.hok v _ ev
 obtain ⟨ep, hat⟩ := hD.dictAt
 have hl := KV.length kv
 refine PySem.W.kdl_call (PySem.W.kdl_values (knd := bB X.prog X.w) (kvs := vs) (ep := ep)) (I.ok.hd hc) ⟨hv, hat⟩ (by omega) fun h' tk acc c hk hg hi => ?_
 refine ⟨.ref s.heap.objs.size, _, I.laid (t' := tk) hk (Nat.le_refl _) (show cJ X.prog X.w _ h' _ (.lst (kvs.map (·.2))) from ⟨by rw [List.length_map]; exact hz, acc.toList, c, ?_, by simpa using hg⟩), rfl, q _ (I.hok.fresh (Nat.le_refl _))⟩
 refine rK (by rw [List.length_map, Array.length_toList, hi.1, hl]) fun j u x e1 e2 => ?_
 obtain ⟨k, e3⟩ := hi.2 j u (by rw [← Array.getElem?_toList]; exact e1)
 obtain ⟨z, e5, _, e6⟩ := KV.get kv e3
 rw [List.getElem?_map, e5] at e2
 have e2' : z.2 = x := by simpa using e2
 subst e2'
 exact e6
end
section
variable {X : Cx} {e se : Expr} {te ts : TE} {p2 pos : Pos}
end
end L2
namespace L2
open PySem PySem.Spec PyProof.Rows
theorem tJ : typeLookup (.type "list") "keys" = pure none := by rw [typeLookup_type, builtinLookup_eq_fast]; kernel_rfl
section
variable {P : Program} {w : World} {A : Around} {E : Value → Shared → Prop} {s : Shared}
theorem xU {a : Addr} {xs : Array Value} {k : Nat} {sl : Array (Option Value)} {Q : Option Value → Shared → Prop} (hA : A.handled = none) (hx : s.heap.get? a = some { cls := .type "list", dict := none, data := .seq xs k, slots := sl })
  (h : ∀ h' tk, (∀ b o, s.heap.get? b = some o → h'.get? b = some o) → Q none { s with heap := h', toks := tk }) : wpAny (model P w) A (getAttr? (.ref a) "keys") Q E s := by
 obtain ⟨hp, g, d, tk, os⟩ := s
 have hT : ∀ tk', (⟨hp, g, d, tk', os⟩ : Shared).TypeIs (.ref a) "list" := fun _ => ⟨_, hx, rfl⟩
 have f1 := sub_AttributeError
 have f3 := F.slot_list_getattribute.lookup
 have f4 := F.slot_list_getattribute.bind (.ref a)
 have f5 := am_list_getattr_none
 unfold getAttr? getAttrBy? getAttrBy
 repeat (any_goals (first | assumption | exact hT _ | ((with_reducible show wpAny _ _ (call (Value.builtin "list.__getattribute__") _ _) _ _ _); refine call_meets F.slot_list_getattribute (hT _) am_entry_list_getattribute (F.args_list_getattribute_2 _ _) (meets_getattribute_miss_list a xs k sl "keys" _ tJ (by decide +kernel)) ⟨hx, hA, fun h' tk' e hx' => ?_⟩) | wp_step))
 obtain ⟨t', u', he⟩ := hx'.there
 show wpAny _ _ (getattributeRaised _ _ _ _ _ _ _) _ _ _
 unfold getattributeRaised
 repeat (any_goals (first | assumption | wp_step))
 exact h _ _ hx'.keeps
end
theorem mB : entryFor table "dict.update.loop" = some Builtin.«dict.update.loop» := entryFor_of_tree (by kernel_rfl)
theorem fY : plainId "dict.update.loop" = true := by decide +kernel
section
variable {P : Program} {w : World} {A : Around} {R : Result → Shared → Prop} {I : Addr} {fp wr : List Addr} {G : Array GenState → Array GenState → Prop} {n : Nat} {Pv : Nat → Value → Prop} {Stt : Nat → Shared → Prop}
theorem aFA (W : WalksS P w A.in1 I fp wr G n Pv Stt) (D : Addr) (hD : D ∉ fp) (res : Value) (kvs : List (Key × Value)) (hn : kvs.length = n) (hz : n ≤ sizeLine) (s₀ : Shared)
  (hv : ∀ (i : Nat) (v : Value), Pv i v → ∃ (a : Addr) (k : Key) (kv x : Value) (ob : Obj) (c : Nat), v = .ref a ∧ a ∉ D :: wr ∧ s₀.heap.get? a = some ob ∧ ob.cls = .type "tuple" ∧ ob.data = .seq #[kv, x] c ∧ kvs[i]? = some (k, x) ∧ (bB P w).is k kv = true) :
  ∀ (m i : Nat) (s : Shared), n - i = m → i ≤ n → Stt i s → (∀ b o, b ∉ D :: wr → s₀.heap.get? b = some o → s.heap.get? b = some o) → s.heap.DictOf (bB P w) D (merged [] (kvs.take i)) →
   (∀ s', Moved (D :: wr) G s s' → s'.heap.DictOf (bB P w) D (merged [] kvs) → R (.ok (.ret res)) s') →
   codeAny (model P w) A (.builtin "dict.update.loop" ⟨[.ref D, .ref I, rawInt i, res], []⟩) R s := by
 have hDw : D ∉ wr := fun z => hD (W.sub _ z)
 have sub : ∀ b ∈ wr, b ∈ D :: wr := fun b z => List.mem_cons_of_mem _ z
 have moved : ∀ {s s' : Shared} {l : List (Key × Value)}, Moved wr G s s' → s.heap.DictOf (bB P w) D l → s'.heap.DictOf (bB P w) D l := fun mv ⟨o, es, ep, ho, r⟩ => ⟨o, es, ep, mv.heap D _ hDw ho, r⟩
 intro m
 induction m with
 | zero =>
  intro i s e1 e2 st kp hS hR
  obtain rfl : i = n := by omega
  rw [List.take_of_length_le (by omega)] at hS
  refine codeAny_builtin mB ?_
  rw [Around.under_plainId fY _]
  show wpAny _ A.in1 (pyNext (.ref I) >>= _) _ _ s
  refine wpAny_bind (W.done s _ _ st fun s' mv => ?_)
  show wpAny _ A.in1 (Builtin.Dict.addKeywords D [] >>= _) _ _ s'
  refine wpAny_bind (wpAny_pure ?_)
  exact wpAny_pure (hR s' (mv.mono sub) (moved mv hS))
 | succ m ih =>
  intro i s e1 e2 st kp hS hR
  have lt : i < n := by omega
  refine codeAny_builtin mB ?_
  rw [Around.under_plainId fY _]
  show wpAny _ A.in1 (pyNext (.ref I) >>= _) _ _ s
  refine wpAny_bind (W.item i s _ _ lt st fun v s' pv st' mv => ?_)
  obtain ⟨a, k, kv, x, ob, c, rfl, ha, hg, hc, hd, hi, hk⟩ := hv i v pv
  have hS1 := moved mv hS
  have hg1 : s'.heap.get? a = some ob := mv.heap a ob (fun z => ha (sub a z)) (kp a ob ha hg)
  have hT : s'.TypeIs (.ref a) "tuple" := ⟨ob, hg1, hc⟩
  refine wpAny_bind (wpAny_holding (wpAny_bind (wpAny_tryCatch ?_)))
  unfold Builtin.Dict.pairItems
  refine wpAny_bind (wpAny_typeOf hT ?_)
  rw [if_pos (by decide)]
  refine wpAny_bind (wpAny_seqItems hg1 hd (wpAny_pure ?_))
  show wpAny _ _ (holding [kv, x] (dictSet D kv x)) _ _ s'
  refine wpAny_holding (wpAny_dictSet_pairs hk hS1 (fun h' hS2 sb => ?_) ?_)
  ·have e : merged [] (kvs.take (i + 1)) = stored (merged [] (kvs.take i)) k x := merged_take_succ [] kvs i (k, x) hi
   rw [← e] at hS2
   refine wpAny_pure ⟨plainId_quiet fY _, ih (i + 1) _ (by omega) lt (W.frame _ s' _ _ st' (Nat.le_succ _) fun b hb o e => ?_) (fun b o hb e => ?_) hS2 fun s2 mv2 hS4 => ?_⟩
   ·rw [sb.2 b (fun z : b = D => hD (by rw [← z]; exact hb))]
    exact e
   ·rw [sb.2 b (fun z : b = D => hb (by rw [z]; exact List.mem_cons_self))]
    exact mv.heap b o (fun z => hb (sub b z)) (kp b o hb e)
   ·refine hR s2 (Moved.trans W.gtrans ((mv.mono sub).then_heap (Nat.le_succ _) fun b o hb e => ?_) mv2) hS4
    rw [sb.2 b (fun z : b = D => hb (by rw [z]; exact List.mem_cons_self))]
    exact e
  ·have := merged_length_le ([] : List (Key × Value)) (kvs.take i)
   rw [List.length_take] at this
   simp only [List.length_nil] at this
   omega
end
section
variable {P : Program} {w : World} {A : Around} {E : Value → Shared → Prop} {s : Shared}
theorem uT {l : Addr} {its : List Value} {kvs : List (Key × Value)} {Q : Value → Shared → Prop} (hh : A.handled = none) (hl : PlainL s.heap l its.toArray) (hn : its.length = kvs.length) (hz : its.length ≤ sizeLine)
  (hv : ∀ (i : Nat) (v : Value), its[i]? = some v → ∃ (a : Addr) (k : Key) (kv x : Value) (ob : Obj) (c : Nat), v = .ref a ∧ s.heap.get? a = some ob ∧ ob.cls = .type "tuple" ∧ ob.data = .seq #[kv, x] c ∧ kvs[i]? = some (k, x) ∧ (bB P w).is k kv = true)
  (h : ∀ (h' : Heap) (tk : Nat), h'.DictOf (bB P w) s.heap.objs.size (merged [] kvs) → (∀ b o, s.heap.get? b = some o → h'.get? b = some o) → Q (.ref s.heap.objs.size) { s with heap := h', toks := tk }) :
  wpAny (model P w) A (call (.type "dict") [.ref l]) Q E s := by
 refine callType_codes (Q₁ := fun (obj : Value) (s₁ : Shared) => obj = Value.ref s.heap.objs.size ∧ s₁ = { s with heap := s.heap.push { cls := .type "dict", data := .dict #[] } }) F.kt_called_dict (F.kt_typeCall_dict_1 _) F.entry_dict_init (kt_code_dict_new _ ⟨rfl, rfl⟩) ?_
 rintro obj s₁ ⟨rfl, rfl⟩
 have hnew : (s.heap.push { cls := .type "dict", data := .dict #[] }).DictOf (bB P w) s.heap.objs.size [] := Heap.DictOf.new s.heap
 obtain ⟨⟨oc, od, oda, osl⟩, nl, hol, hcl, hod, hdl⟩ := id hl
 simp only at hcl hod hdl
 subst hcl hod hdl
 have lS : l < s.heap.objs.size := Heap.lt_size hol
 have hol1 := Heap.get?_push_of_some (h := s.heap) { cls := .type "dict", data := .dict #[] } hol
 refine ⟨hnew.typeIs, F.args_dict_init_2 _ _, ?_⟩
 unfold Builtin.«dict.__init__»
 refine wpAny_bind ?_
 unfold Builtin.Dict.selfAndRest
 refine wpAny_bind (wpAny_notOrdered_dict hnew.typeIs ?_)
 show wpAny _ _ (pure (s.heap.objs.size, [Value.ref l])) _ _ _
 refine wpAny_pure ?_
 show wpAny _ _ (Builtin.Dict.updateFrom "dict.__init__" s.heap.objs.size (.ref l) [] .none) _ _ _
 unfold Builtin.Dict.updateFrom
 refine wpAny_bind (wpAny_typeOf (T := "list") ⟨_, hol1, rfl⟩ ?_)
 rw [if_pos (by decide)]
 refine wpAny_bind (xU (by simp [hh]) hol1 fun h1 t1 k1 => ?_)
 show wpAny _ _ (rule _ >>= _) _ _ _
 refine wpAny_bind (wpAny_rule ?_)
 have hol2 := k1 _ _ hol1
 have hl2 : h1.IsList l its.toArray := ⟨_, hol2, rfl, nl, rfl⟩
 refine wpAny_bind (wpAny_pyIter_list (s := { s with heap := h1, toks := t1 }) hl2 ?_)
 have sz1 : s.heap.objs.size < h1.objs.size := by
  obtain ⟨o, es, ep, ho, _⟩ := hnew
  exact Heap.lt_size (k1 _ _ ho)
 have nI : l ≠ h1.objs.size := Nat.ne_of_lt (Heap.lt_size hol2)
 have nD : s.heap.objs.size ∉ [h1.objs.size, l] := by
  simp only [List.mem_cons, List.mem_singleton, List.not_mem_nil, or_false, not_or]
  exact ⟨Nat.ne_of_lt sz1, Nat.ne_of_gt lS⟩
 refine wpAny_pure ⟨plainId_quiet fY _, ?_⟩
 have hh2 : A.in1.in1.handled = none := by simp [hh]
 refine aFA ((Walks.list hh2 _ l nI its.toArray).toS) s.heap.objs.size nD .none kvs (by rw [List.size_toArray, hn]) (by rw [List.size_toArray]; exact hz) { s with heap := h1.push { cls := .type "list_iterator", data := .fields #[.ref l, .int 0 0] }, toks := t1 } (fun i v pv => ?_) (its.toArray.size - 0) 0 _ (by omega) (Nat.zero_le _)
  ⟨⟨_, Heap.get?_push_size _ rfl, rfl, rfl⟩, (hl2.push _)⟩ (fun _ _ _ e => e) ?_ ?_
 ·obtain ⟨a, k, kv, x, ob, c, rfl, hg, hc, hd, hi, hk⟩ := hv i v (by simpa using pv)
  have la := Heap.lt_size hg
  refine ⟨a, k, kv, x, ob, c, rfl, ?_, Heap.get?_push_of_some _ (k1 _ _ (Heap.get?_push_of_some _ hg)), hc, hd, hi, hk⟩
  simp only [List.mem_cons, List.mem_singleton, List.not_mem_nil, or_false, not_or]
  exact ⟨Nat.ne_of_lt la, Nat.ne_of_lt (Nat.lt_trans la sz1)⟩
 ·obtain ⟨o, es, ep, ho, r⟩ := hnew
  exact ⟨o, es, ep, Heap.get?_push_of_some _ (k1 _ _ ho), r⟩
 ·intro s3 mv hS3
  obtain ⟨h3, g3, d3, t3, o3⟩ := s3
  have e1 : g3 = s.gens := mv.gens
  have e2 : d3 = s.drawn := mv.drawn
  have e3 : o3 = s.os := mv.os
  subst e1 e2 e3
  refine ⟨rfl, h h3 t3 hS3 fun b o e => ?_⟩
  have lb := Heap.lt_size e
  refine mv.heap b o ?_ (Heap.get?_push_of_some _ (k1 _ _ (Heap.get?_push_of_some _ e)))
  simp only [List.mem_cons, List.mem_singleton, List.not_mem_nil, or_false, not_or]
  exact ⟨Nat.ne_of_lt lb, Nat.ne_of_lt (Nat.lt_trans lb sz1)⟩
end
def bZ (H : Hp) (ys : List V) (kvs : List (Key × V)) : Prop := Paired (fun (y : V) (kv : Key × V) => ∃ a, y = .ref a ∧ H a = some (.tup [kV kv.1, kv.2])) ys kvs
theorem bZ.nil (H : Hp) : bZ H [] [] := Paired.nil
theorem bZ.len {H : Hp} {ys : List V} {kvs : List (Key × V)} (h : bZ H ys kvs) : ys.length = kvs.length := Paired.length h
theorem bZ.same {H H' : Hp} (S : aI H H') : ∀ {ys : List V} {kvs : List (Key × V)}, bZ H ys kvs → bZ H' ys kvs
 | _, _, Paired.nil => Paired.nil
 | _, _, Paired.cons ⟨a, e, o⟩ t => Paired.cons ⟨a, e, S _ _ o⟩ (bZ.same S t)
theorem bZ.snoc {H : Hp} {ys : List V} {kvs : List (Key × V)} {p : Addr} {k : Key} {v : V} (h : bZ H ys kvs) (hp : H p = none) : bZ (upd H p (.tup [kV k, v])) (ys ++ [.ref p]) (kvs ++ [(k, v)]) :=
 Paired.snoc (h.same (aI.upd hp)) ⟨p, rfl, aE⟩
section
variable {X : Cx}
theorem aIR {P : Program} {w : World} {k : Key} {u : Value} (r : bK (kV k) u) : (bB P w).is k u = true := by
 cases k with
 | inl z => obtain ⟨t, rfl⟩ := r; exact qA z t
 | inr z => obtain ⟨t, rfl⟩ := r; exact pZ z t
theorem oY {pins : List (Addr × Obj)} {σ : St} {H : Hp} {s : Shared} (I : Inv X pins σ H s) : ∀ {ys : List V} {kvs : List (Key × V)} {its : List Value}, bZ H ys kvs → bL ys its →
  ∃ vk : List (Key × Value), KV kvs vk ∧ its.length = vk.length ∧ ∀ (i : Nat) (v : Value), its[i]? = some v → ∃ (a : Addr) (k : Key) (kv x : Value) (ob : Obj) (c : Nat), v = .ref a ∧ s.heap.get? a = some ob ∧ ob.cls = .type "tuple" ∧ ob.data = .seq #[kv, x] c ∧ vk[i]? = some (k, x) ∧ (bB X.prog X.w).is k kv = true
 | _, _, _, Paired.nil, Paired.nil => ⟨[], Paired.nil, rfl, fun i v e => by simp at e⟩
 | _, (k, v0) :: kvs, u :: its, Paired.cons ⟨a, e, o⟩ t, Paired.cons r rs => by
  obtain ⟨vk, h1, h2, h3⟩ := oY I t rs
  subst e
  cases r
  obtain ⟨tis, rt, ⟨ob, g, hc, c, hd⟩, _⟩ := I.tuple (SqT.of o)
  obtain ⟨ku, xu, rfl, rk, rx⟩ := bL.two rt
  refine ⟨(k, xu) :: vk, Paired.cons ⟨rfl, rx⟩ h1, by simp [h2], fun i v e => ?_⟩
  cases i with
  | zero =>
   simp at e
   subst e
   exact ⟨a, k, ku, xu, ob, c, rfl, g, hc, hd, rfl, aIR rk⟩
  | succ i =>
   obtain ⟨a', k', kv', x', ob', c', q⟩ := h3 i v (by simpa using e)
   exact ⟨a', k', kv', x', ob', c', by simpa using q⟩
theorem eJ (hc : X.calm = true) : gO X (.type "dict") (fun xs H Q => ∃ (p : Addr) (ys : List V) (kvs : List (Key × V)), xs = [.ref p] ∧ SqL X.K H p ys ∧ bZ H ys kvs ∧ kvs.length ≤ 1000 ∧ (kvs.map (·.1)).Nodup ∧ ∀ l, H l = none → Q (.ref l) (upd H l (.dK kvs))) := by
 intro pins s σ H xs us Q I r h
 obtain ⟨p, ys, kvs, rfl, hq, hp, hn, nd, q⟩ := h
 obtain ⟨u, rfl, ru⟩ := bL.one r
 cases ru
 obtain ⟨its, rv, pl, hz⟩ := I.list hq
 obtain ⟨vk, kv, el, hv⟩ := oY I hp rv
 have big : (1000 : Nat) ≤ sizeLine := by decide
 have l1 := KV.length kv
 have ek : vk.map (·.1) = kvs.map (·.1) := (KV.keys kv).symm
 refine uT (kvs := vk) (I.ok.hd hc) pl el (by omega) hv fun h' tk hD hk => ?_
 rw [merged_nil_of_nodup vk (by rw [ek]; exact nd)] at hD
 refine ⟨.ref s.heap.objs.size, _, I.laid (t' := tk) hk (Nat.le_refl _) (show cJ X.prog X.w _ h' _ (.dK kvs) from ⟨by omega, ?_, vk, kv, hD⟩), rfl, q _ (I.hok.fresh (Nat.le_refl _))⟩
 have b := I.big
 exact beq_eq_false_iff_ne.mpr (Nat.ne_of_gt b)
end
end L2
namespace L2
open PySem PySem.Spec PyProof.Rows
structure MethAt (K : PySem.W.Frag) (C : Addr) (m qual : Str) (st : Stmt) (ps : List Str) : Prop where
 ex : ∃ (f : Addr) (fd : FuncData), Fun K m qual st f fd ∧ gP K fd ps [] ∧ Meth K C m f
structure InitAt (K : PySem.W.Frag) (C : Addr) (qual : Str) (st : Stmt) (ps : List Str) : Prop where
 ex : ∃ (f : Addr) (fd : FuncData), Fun K "__init__" qual st f fd ∧ gP K fd ps [] ∧ Mk K C f
structure Mc (P : Program) (w : World) (K : PySem.W.Frag) (mg : Str → Option Value) (base : Heap) (k : Nat) (C : Addr) (m : Str) (ps : List Str) (sp : Sp) : Prop where
 ex : ∃ (f : Addr) (fd : FuncData), FnOk P w K mg base CX0 k f fd ps sp ∧ gP K fd ps [] ∧ Meth K C m f
structure Ic (P : Program) (w : World) (K : PySem.W.Frag) (mg : Str → Option Value) (base : Heap) (k : Nat) (C : Addr) (ps : List Str) (sp : Sp) : Prop where
 ex : ∃ (f : Addr) (fd : FuncData), FnOk P w K mg base CX0 k f fd ps sp ∧ gP K fd ps [] ∧ Mk K C f
section
variable {P : Program} {w : World} {K : PySem.W.Frag} {mg : Str → Option Value} {base : Heap} {C : Addr} {m qual : Str} {st : Stmt} {N ps : List Str} {k : Nat} {sp : Sp}
theorem MethAt.mc (D : MethAt K C m qual st ps) (S : FnScope N ps (aD st)) (len : ∀ vs H Q E, sp vs H Q E → vs.length = ps.length)
  (hbody : ∀ (f : Addr) (cdv : Value) (A : Around) (outer : List Env) (s : Shared) (H : Hp) (vs : List V) (Q : VK) (E : XK), Room k (A.deeper (envOfC qual (aD st) s.heap.objs.size f cdv)) → sp vs H Q E →
   ∃ t, PSs (lA CX0 P w K mg base N qual (aD st) f cdv A outer s H E).nox (aJ st) t ∧ t { nx := fun _ H' => Q .non H', rt := Q } (start N vs) H) : Mc P w K mg base (k + 1) C m ps sp := by
 obtain ⟨f, fd, F, b, mm⟩ := D.ex
 exact ⟨f, fd, F.ok S len fun cdv A outer s H vs Q E hr h => hbody f cdv A outer s H vs Q E hr h, b, mm⟩
theorem InitAt.ic (D : InitAt K C qual st ps) (S : FnScope N ps (aD st)) (len : ∀ vs H Q E, sp vs H Q E → vs.length = ps.length)
  (hbody : ∀ (f : Addr) (cdv : Value) (A : Around) (outer : List Env) (s : Shared) (H : Hp) (vs : List V) (Q : VK) (E : XK), Room k (A.deeper (envOfC qual (aD st) s.heap.objs.size f cdv)) → sp vs H Q E →
   ∃ t, PSs (lA CX0 P w K mg base N qual (aD st) f cdv A outer s H E).nox (aJ st) t ∧ t { nx := fun _ H' => Q .non H', rt := Q } (start N vs) H) : Ic P w K mg base (k + 1) C ps sp := by
 obtain ⟨f, fd, F, b, mm⟩ := D.ex
 exact ⟨f, fd, F.ok S len fun cdv A outer s H vs Q E hr h => hbody f cdv A outer s H vs Q E hr h, b, mm⟩
theorem Mc.imp {sp' : Sp} (F : Mc P w K mg base k C m ps sp) (h : ∀ vs H Q E, sp' vs H Q E → sp vs H Q E) : Mc P w K mg base k C m ps sp' := by
 obtain ⟨f, fd, G, b, mm⟩ := F.ex
 exact ⟨f, fd, G.imp h, b, mm⟩
theorem iW {f : Addr} {oc : Value} {od an : Option Addr} {osl : Array (Option Value)} {kV doc pm cdv ct : Value} (a : PySem.W.findIn K (.ref C) m = some (some (.ref f))) (i : PySem.W.isFn K (.ref f) = true)
  (l : K.lookup f = some ⟨oc, od, .func (PySem.W.fnOf m qual (aM st) (aJ st) (aD st) .none kV doc pm an cdv ct), osl⟩) (c : PySem.W.codeIn K cdv qual = true) (kp : PySem.W.keepIn K (.ref f) = true)
  (hb : ∀ (kV doc pm : Value) (an : Option Addr) (cdv ct : Value) (us : List Value), us.length = ps.length → bindArgs (PySem.W.fnOf m qual (aM st) (aJ st) (aD st) .none kV doc pm an cdv ct) ⟨us, []⟩ = pure (ps.zip us)) : MethAt K C m qual st ps :=
 ⟨f, _, qD l c kp, (qD l c kp).binds hb, ⟨a, i, kp⟩⟩
theorem aJK {f : Addr} {oc : Value} {od an : Option Addr} {osl : Array (Option Value)} {kV doc pm cdv ct : Value} (a : PySem.W.findIn K (.ref C) "__init__" = some (some (.ref f))) (i : PySem.W.isFn K (.ref f) = true)
  (l : K.lookup f = some ⟨oc, od, .func (PySem.W.fnOf "__init__" qual (aM st) (aJ st) (aD st) .none kV doc pm an cdv ct), osl⟩) (c : PySem.W.codeIn K cdv qual = true) (kp : PySem.W.keepIn K (.ref f) = true)
  (mk : PySem.W.makesIn K C = true) (kc : PySem.W.keepIn K (.ref C) = true)
  (hb : ∀ (kV doc pm : Value) (an : Option Addr) (cdv ct : Value) (us : List Value), us.length = ps.length → bindArgs (PySem.W.fnOf "__init__" qual (aM st) (aJ st) (aD st) .none kV doc pm an cdv ct) ⟨us, []⟩ = pure (ps.zip us)) : InitAt K C qual st ps :=
 ⟨f, _, qD l c kp, (qD l c kp).binds hb, ⟨mk, a, i, kc⟩⟩
end
section
variable {X : Cx} {k : Nat} {ps : List Str} {sp : Sp} {x m : Str} {p pos apos : Pos} {o e : Expr} {es : List Expr} {ta : TE} {t : TA} {C : Addr}
theorem aIZ {pl : Sem Bool} (c : Cls X.K C) (F : Mc X.prog X.w X.K X.mg X.base k C m ps sp) (hr : Room k X.A) (ho : PE X o ta) (ha : PA X (e :: es) t)
  (hst : starEach (e :: es) X.env = (false, eval e X.env) :: starEach es X.env := by rfl) (hpl : (backTo pos (starEach es X.env)).any (·.1) = false := by rfl)
  (ht : eval (.Call (.Attribute o m apos) (e :: es) [] pos) X.env = (do
   let ov ← eval o X.env
   standAt apos.atName
   let (f, first) ← holding [ov] (getMethod ov m pl)
   callWith pos f first (backTo pos (starEach (e :: es) X.env)) (backToKw pos (keywordEach [] X.env))) := by rfl) :
  PE X (.Call (.Attribute o m apos) (e :: es) [] pos) (aCH C m sp [] E0 ta t) := by
 obtain ⟨f, fd, G, b, mm⟩ := F.ex
 exact aIX (pl := pl) ho c mm G hr b .nil aDE ha hst hpl ht
theorem aDB {pl : Sem Bool} (c : Cls X.K C) (F : Mc X.prog X.w X.K X.mg X.base k C m ps sp) (hr : Room k X.A) (ho : PE X o ta)
  (ht : eval (.Call (.Attribute o m apos) [] [] pos) X.env = (do
   let ov ← eval o X.env
   standAt apos.atName
   let (f, first) ← holding [ov] (getMethod ov m pl)
   callWith pos f first (backTo pos (starEach [] X.env)) (backToKw pos (keywordEach [] X.env))) := by rfl) :
  PE X (.Call (.Attribute o m apos) [] [] pos) (aCH C m sp [] E0 ta aKP) := by
 obtain ⟨f, fd, G, b, mm⟩ := F.ex
 exact aGS (pl := pl) ho c mm G hr b .nil aDE ht
theorem aMO (hm : X.mg x = some (.ref C)) (F : Ic X.prog X.w X.K X.mg X.base k C ps sp) (hr : Room (k + 1) X.A) (ha : PA X (e :: es) t) (hg : Gl X x := by rfl) (hdb : (x == ("__debug__" : Str)) = false := by decide)
  (he : starEach (e :: es) X.env = (false, eval e X.env) :: starEach es X.env := by rfl) (hpl : (backTo pos (starEach es X.env)).any (·.1) = false := by rfl) :
  PE X (.Call (.Name x p) (e :: es) [] pos) (aJY C sp [] E0 t) := by
 obtain ⟨f, fd, G, b, mm⟩ := F.ex
 exact aIY mm G hr hg hm b .nil aDE ha hdb he hpl
end
section
variable {X : Cx} {K : PySem.W.Frag}
theorem aW (e : X.K = K) : IxR X (aML K) := by subst e; exact aLI
theorem cO (e : X.K = K) : IxR X (aMM K) := by subst e; exact aJH
theorem dZ (e : X.K = K) : OpR X (compareOp .In) (rIn K false) := by subst e; exact aEK
theorem kE (e : X.K = K) : OpR X (compareOp .NotIn) (rIn K true) := by subst e; exact xJ
theorem bH (e : X.K = K) : gO X (.builtin "len") (fun xs H Q => ∃ p ys, xs = [.ref p] ∧ (SqL K H p ys ∨ SqT K H p ys) ∧ Q (.int ys.length) H) := by subst e; exact yH
theorem cD (e : X.K = K) : gO X (.builtin "isinstance") (fun xs H Q => ∃ x y c t b, xs = [x, y] ∧ aJR y = some c ∧ TyOf K H x t ∧ PySem.W.kitOne K t c = some b ∧ Q (.bl b) H) := by subst e; exact aAG
theorem kH (e : X.K = K) : gO X (.type "list") (fun xs H Q => ∃ p ys, xs = [.ref p] ∧ (SqL K H p ys ∨ SqT K H p ys) ∧ ∀ l, H l = none → Q (.ref l) (upd H l (.lst ys))) := by subst e; exact yF
end
theorem iO {j : Int} (h : decide (0 < j) = true) : 0 < j := of_decide_eq_true h
end L2
namespace L2
open PySem PySem.Spec PyProof.Rows
theorem fT {X : Cx} {i : Nat} {x : Str} {elt iter tg : Expr} {ifs : List Expr} {scope : Scope} {pos pos' cpos : Pos} {wi : TI} {g : TG} {tt : TT} {te : TE} (hXN : X.N.Nodup) (hix : X.N[i]? = some x) (N' : List Str) (nt : Nat) (cap : List Nat)
  (hc : X.calm = true) (hi : PI X tg iter wi) (hg : ∀ R, PG (blk X scope N' R) tg g) (hgk : aAM nt g) (ht : ∀ R, aIH (blk X scope N' R) ifs tt) (he : ∀ R, PE (blk X scope N' R) elt te)
  (hx : Loc X.env.scope x := by exact Or.inl rfl) (hfn : X.fn x = true ∨ X.env.scope.names.lookup x = some .local := by first | exact .inl rfl | exact .inr rfl | assumption)
  (hsw : swapsWith (.ListComp elt [⟨tg, iter, ifs, 0⟩] scope cpos) (some (.Name x pos')) pos.line X.env = pure true := by rfl)
  (hcell : (scope.names.all fun y => !(y.2 == .cell)) = true := by rfl) (hkind : scope.kind = .function := by rfl)
  (hnames : (scope.names.all fun y => !(y.2 == .local) || (scope.names.lookup y.1 == some .local)) = true := by rfl)
  (hfr : (scope.names.all fun y => !(y.2 == .free) || (X.env.kindOf y.1 == some .cell || X.env.kindOf y.1 == some .free)) = true := by rfl)
  (hN : N'.length = nt + cap.length := by rfl) (hcapN : (cap.map fun j => X.N[j]?) = (N'.drop nt).map some := by rfl) (hcapF : ((N'.drop nt).all fun x => scope.names.lookup x == some .free) = true := by rfl)
  (hs : ∀ x, foldedSetIterable iter X.env x = pure x := by intro _; rfl) :
  PS X (.Assign [.Name x pos'] (.ListComp elt [⟨tg, iter, ifs, 0⟩] scope cpos) pos) (aKQ (aKA nt cap wi g tt te) (zU i)) := by
 intro pins s σ H Ds I h
 have hfr' : ∀ y ∈ scope.names, y.2 = .free → (X.env.kindOf y.1 = some .cell ∨ X.env.kindOf y.1 = some .free) := fun y hy e => by
  have z := jZ hfr y hy
  rw [e] at z
  have z' : (X.env.kindOf y.1 == some .cell || X.env.kindOf y.1 == some .free) = true := z
  rcases Bool.or_eq_true_iff.mp z' with q | q
  ·exact .inl (beq_iff_eq.mp q)
  ·exact .inr (beq_iff_eq.mp q)
 have hcell' : ∀ y ∈ scope.names, y.2 ≠ .cell := fun y hy e => by
  have z := jZ hcell y hy
  rw [e] at z
  cases z
 obtain ⟨cl, hcl, hclk, hclh⟩ := uG (scope := scope) (env := X.env) fun y hy e => I.ok.has y.1 (hfr' y hy e)
 have hnames' : ∀ y ∈ scope.names, y.2 = .local → scope.names.lookup y.1 = some .local := fun y hy e => by
  have z := jZ hnames y hy
  rw [e] at z
  exact beq_iff_eq.mp z
 have hcapN' : ∀ (k j : Nat), cap[k]? = some j → N'[nt + k]? = X.N[j]? := fun k j e => by
  have z := congrArg (fun l : List (Option Str) => l[k]?) hcapN
  simp only [List.getElem?_map, e, Option.map_some, List.getElem?_drop] at z
  cases q : N'[nt + k]? with
  | none => rw [q] at z; cases z
  | some x => rw [q] at z; exact (Option.some.inj z).symm
 rw [exec_Assign_Name_used _ _ _ _ hsw]
 refine wpAny_bind (wpAny_standAt (wpAny_bind ?_))
 show wpAny _ X.A (do let _ ← comprehension (.ListComp elt [⟨tg, iter, ifs, 0⟩] scope cpos) scope X.env _ (newList []) false (eval iter X.env) (some (assign (.Name x pos') X.env))) _ _ s
 refine wpAny_bind (wpAny_mono (wpAny_comprehension_free (use := some (assign (.Name x pos') X.env)) (Q := fun _ s' => SP X pins Ds .next s') rfl hs hcl hkind hnames'
  (thn (hi pins s σ H _ I h) fun v s1 h1 => thn h1 fun itv s2 h2 => ?_)) (fun _ s' hq => wpAny_pure (wpAny_pure hq)) fun _ _ e => e)
 obtain ⟨it, fp, tn, J, H2, e, I2, T, st2, f2, hw⟩ := h2
 subst e
 refine uE (RR := fun acc C => compPost (model X.prog X.w) X.A X.xe (some (assign (.Name x pos') X.env)) (fun _ s' => SP X pins Ds .next s') acc C) hc I2 T st2 f2 hclk hclh hcell' hkind hfr' hN hcapN' (fun x hx => beq_iff_eq.mp (jZ hcapF x hx)) hg hgk ht he hw ?_
 intro D C s' H' ys hD q I' B
 obtain ⟨m, hn⟩ := B.ns
 obtain ⟨oC, es, ep, hoC, hdC, hrest⟩ := id hn
 have nofs : C ∉ X.fs := fun hb => by
  obtain ⟨_, o, ho, _⟩ := I'.ok.funs.mem hb
  exact absurd (Nat.lt_of_lt_of_le (Heap.lt_size ho) B.ab) (Nat.lt_irrefl _)
 have IC : Inv X ((C, oC) :: pins) σ (upd H' D (.lst ys)) s' := I'.pins_of fun p hp => by
  rcases List.mem_cons.mp hp with rfl | hp
  ·exact ⟨hoC, B.fr, B.ne, nofs, fun v z => by rw [hdC] at z; cases z⟩
  ·exact I'.pin p (List.mem_append_right _ hp)
 show wpAny _ X.A (assign (.Name x pos') X.env (.ref D)) _ _ _
 refine thn (aP hXN hix hx hfn ((C, oC) :: pins) s' σ (upd H' D (.lst ys)) (.ref D) (.ref D) Ds.nx IC rfl (q D hD)) fun _ s'' h'' => ?_
 obtain ⟨σ2, H3, I3, q3⟩ := h''
 have pC := I3.pin (C, oC) (List.mem_append_right _ List.mem_cons_self)
 refine ⟨m, hn.at' (fun o e => ?_), fun h4 hs4 => ⟨σ2, H3, ?_, q3⟩⟩
 ·rw [hoC] at e
  cases e
  exact pC.1
 ·have I4 : Inv X pins σ2 H3 s'' := I3.pins_of fun p hp => I3.pin p (List.mem_append_right _ (List.mem_cons_of_mem _ hp))
  exact I4.turned (it := C) (t' := s''.toks) (fun b o hb e => hs4.extBut b o hb e) pC.2.1 B.ne (.inr B.ab) B.cl B.pn
end L2
namespace L2
open PySem PySem.Spec PyProof.Rows
section
variable {X : Cx}
end
structure InstC (K : PySem.W.Frag) (C : Addr) : Prop where
 ha : PySem.W.findIn K (.ref C) "__class__" = some (some (.builtin "object.__class__"))
 hn : PySem.W.specialIn K (.builtin "object.__class__") "__get__" = some (some (.builtin "getset_descriptor.__get__"))
 htk : PySem.W.takesIn K (.builtin "object.__class__") = some true
 hm : PySem.W.mroIn K C (.type "object") = some true
theorem MethAt.mcD {P : Program} {w : World} {K : PySem.W.Frag} {mg : Str → Option Value} {base : Heap} {C : Addr} {m qual : Str} {st : Stmt} {N ps : List Str} {k : Nat} {sp : Sp} (D : MethAt K C m qual st ps) (S : FnScope N ps (aD st)) (len : ∀ vs H Q E, sp vs H Q E → vs.length = ps.length)
  (hbody : ∀ (f : Addr) (cdv : Value) (A : Around) (outer : List Env) (s : Shared) (H : Hp) (vs : List V) (Q : VK) (E : XK), Room k (A.deeper (envOfC qual (aD st) s.heap.objs.size f cdv)) → sp vs H Q E →
   ∃ t, PSs (lA CX0 P w K mg base N qual (aD st) f cdv A outer s H E).nox (aJ st) t ∧ t { nx := fun _ H' => cV Q .non H', rt := cV Q } (start N vs) H) : Mc P w K mg base (k + 1) C m ps sp := by
 obtain ⟨f, fd, F, b, mm⟩ := D.ex
 refine ⟨f, fd, FnOk.drop len (F.ok S (fun vs H Q E ⟨Q', h, _⟩ => len vs H Q' E h) fun cdv A outer s H vs Q E hr ⟨Q', h, e⟩ => ?_), b, mm⟩
 subst e
 exact hbody f cdv A outer s H vs Q' E hr h
theorem gN.under {H : Hp} {p q : Addr} {o u : HO} (hp : H p = none) (d : qE o = true) (hq : L2.upd H p o q = none) : gN (L2.upd (L2.upd H p o) q u) (L2.upd H q u) := fun b => by
 by_cases hb : b = q
 ·subst hb
  left
  rw [aE, aE]
 ·rw [aQ hb, aQ hb]
  by_cases hc : b = p
  ·subst hc
   right
   exact ⟨hp, o, aE, d⟩
  ·left
   rw [aQ hc]
end L2
namespace Ld
open PySem L2
def fE (c : Nat) : Bool := decide (97 ≤ c) && decide (c ≤ 122)
def eW (z : Str) : Bool := decide (1 ≤ z.length) && decide (z.length ≤ 8) && !decide (z = "sea") && z.cps.toList.all fE
def isInt : Dv → Bool
 | .int _ => true
 | _ => false
def aHI : Dv → Bool
 | .bl _ => true
 | _ => false
def aMZ : Dv → Bool
 | .str _ => true
 | _ => false
def aNB : Dv → Bool
 | .lst _ => true
 | _ => false
def aMY : Dv → Bool
 | .tup _ => true
 | _ => false
def aCE (n : Int) : Dv → Bool
 | .tup ds => decide ((ds.length : Int) = n)
 | _ => false
def vR (n : Int) : Dv → Bool
 | .lst ds => decide (1 ≤ ds.length) && decide ((ds.length : Int) ≤ n)
 | _ => false
def oM : Dv → Bool
 | .str z => eW z
 | _ => false
def hgt (i : Int) : Bool := decide (-1000000 ≤ i) && decide (i ≤ 1000000)
def amt (i : Int) : Bool := decide (0 ≤ i) && decide (i ≤ 1000000)
def cT : Dv → Bool
 | .int i => hgt i
 | _ => false
def kU : Dv → Bool
 | .int i => amt i
 | _ => false
def gH (zs : List Str) : Dv → Bool
 | .str z => decide (z ∈ zs)
 | _ => false
def cN : Dv → Option Str
 | .tup (.str z :: _) => some z
 | _ => none
def cC : Dv → Bool
 | .tup [a, b, c] => oM a && (cT b && kU c)
 | _ => false
def lC : Dv → Bool
 | .lst ds => (decide (1 ≤ ds.length) && decide (ds.length ≤ 12)) && (ds.all cC && decide ((ds.map cN).Nodup))
 | _ => false
def nE (zs : List Str) (a b : Dv) : Bool := gH zs a && (gH zs b && !deq a b)
def lJ (c : Dv) : Dv → Bool
 | .non => true
 | .int i => hgt i && (match c with | .int j => decide (i < j) | _ => false)
 | _ => false
def cU (zs : List Str) : Dv → Bool
 | .tup [n, a, b, c, r, s] => oM n && nE zs a b && (cT c && (kU r && lJ c s))
 | _ => false
def nF (zs : List Str) : Dv → Bool
 | .lst ds => (decide (1 ≤ ds.length) && decide (ds.length ≤ 40)) && (ds.all (cU zs) && decide ((ds.map cN).Nodup))
 | _ => false
mutual
def dB : Dv → Bool
 | .str z => decide (z.length ≤ 1000)
 | .lst ds => decide (ds.length ≤ 1000) && gS ds
 | .tup ds => decide (ds.length ≤ 1000) && gS ds
 | _ => true
def gS : List Dv → Bool
 | [] => true
 | d :: ds => dB d && gS ds
end
theorem jD : ∀ {ds : List Dv} {d : Dv}, gS ds = true → d ∈ ds → dB d = true
 | [], _, _, m => by cases m
 | e :: ds, d, f, m => by
  rw [gS, Bool.and_eq_true] at f
  rcases List.mem_cons.mp m with rfl | m
  ·exact f.1
  ·exact jD f.2 m
theorem vD {ds : List Dv} (h : dB (.tup ds) = true) : gS ds = true := (Bool.and_eq_true_iff.mp (show (decide (ds.length ≤ 1000) && gS ds) = true from h)).2
theorem oO (K : PySem.W.Frag) {H : Hp} {d : Dv} {x : V} (h : Is H d x) : ∃ t, TyOf K H x t ∧ PySem.W.kitOne K t (.type "int") = some (isInt d || aHI d) ∧ PySem.W.kitOne K t (.type "bool") = some (aHI d) ∧
  PySem.W.kitOne K t (.type "str") = some (aMZ d) ∧ PySem.W.kitOne K t (.type "list") = some (aNB d) ∧ PySem.W.kitOne K t (.type "tuple") = some (aMY d) := by
 cases d with
 | non => cases (show x = .non from h); exact ⟨_, .non, rfl, rfl, rfl, rfl, rfl⟩
 | bl b => cases (show x = .bl b from h); exact ⟨_, .bl b, rfl, iM _ _, rfl, rfl, rfl⟩
 | int i => cases (show x = .int i from h); exact ⟨_, .int i, iM _ _, rfl, rfl, rfl, rfl⟩
 | str z => cases (show x = .str z from h); exact ⟨_, .str z, rfl, rfl, iM _ _, rfl, rfl⟩
 | lst ds => obtain ⟨a, vs, rfl, e, _⟩ := h; exact ⟨_, .lst e, rfl, rfl, rfl, iM _ _, rfl⟩
 | tup ds => obtain ⟨a, vs, rfl, e, _⟩ := h; exact ⟨_, .tup e, rfl, rfl, rfl, rfl, iM _ _⟩
 | dct ks ds => obtain ⟨a, vs, rfl, e, _⟩ := h; exact ⟨_, .dK e, rfl, rfl, rfl, rfl, rfl⟩
theorem xV : ("abcdefghijklmnopqrstuvwxyz" : Str).cps.toList = [97, 98, 99, 100, 101, 102, 103, 104, 105, 106, 107, 108, 109, 110, 111, 112, 113, 114, 115, 116, 117, 118, 119, 120, 121, 122] := by decide +kernel
theorem aBO (c : Nat) : (!(Builtin.Str.occurrences ("abcdefghijklmnopqrstuvwxyz" : Str) ⟨#[c]⟩ 0 ("abcdefghijklmnopqrstuvwxyz" : Str).length 1).isEmpty) = fE c := by
 rw [PySem.StrLaws.found_one, xV]
 have h1 : ∀ d, d ∈ ([97, 98, 99, 100, 101, 102, 103, 104, 105, 106, 107, 108, 109, 110, 111, 112, 113, 114, 115, 116, 117, 118, 119, 120, 121, 122] : List Nat) → 97 ≤ d ∧ d ≤ 122 := by decide
 have h2 : ∀ k, k < 26 → (97 + k) ∈ ([97, 98, 99, 100, 101, 102, 103, 104, 105, 106, 107, 108, 109, 110, 111, 112, 113, 114, 115, 116, 117, 118, 119, 120, 121, 122] : List Nat) := by decide
 unfold fE
 by_cases h : 97 ≤ c ∧ c ≤ 122
 ·have e := h2 (c - 97) (by omega)
  rw [show 97 + (c - 97) = c by omega] at e
  rw [decide_eq_true e, decide_eq_true h.1, decide_eq_true h.2]
  rfl
 ·have e : ¬ c ∈ ([97, 98, 99, 100, 101, 102, 103, 104, 105, 106, 107, 108, 109, 110, 111, 112, 113, 114, 115, 116, 117, 118, 119, 120, 121, 122] : List Nat) := fun m => h (h1 c m)
  rw [decide_eq_false e]
  by_cases h' : 97 ≤ c
  ·rw [decide_eq_true h', decide_eq_false (fun z => h ⟨h', z⟩)]
   rfl
  ·rw [decide_eq_false h']
   rfl
def aL (d : Dv) : Str := (cN d).getD ""
def mT (d : Dv) : Key := .inr (aL d)
theorem aHV {d : Dv} {z : Str} (h : cN d = some z) : aL d = z := by unfold aL; rw [h]; rfl
def mR (d1 d2 : Addr) : List (Str × V) := iU "dyke_rows" (.ref d2) (iU "field_rows" (.ref d1) [])
theorem aNH : ¬ (("field_rows" : Str) = "dyke_rows") := by decide +kernel
theorem aDJ (d1 d2 : Addr) : (mR d1 d2).lookup ("field_rows" : Str) = some (.ref d1) := by
 unfold mR
 rw [eZ, if_neg aNH, eZ, if_pos rfl]
theorem xW (d1 d2 : Addr) : (mR d1 d2).lookup ("dyke_rows" : Str) = some (.ref d2) := by
 unfold mR
 rw [eZ, if_pos rfl]
theorem jN (d1 d2 : Addr) {m : Str} (h1 : ¬ m = "dyke_rows") (h2 : ¬ m = "field_rows") : (mR d1 d2).lookup m = none := by
 unfold mR
 rw [eZ, if_neg h1, eZ, if_neg h2]
 all_goals rfl
def uJ (H : Hp) (a : Addr) (ds : List Dv) : Prop := ∃ kvs, H a = some (.dK kvs) ∧ kvs.map (·.1) = ds.map mT ∧ IsL H ds (kvs.map (·.2))
theorem uJ.same {H H' : Hp} (S : aI H H') {a : Addr} {ds : List Dv} (h : uJ H a ds) : uJ H' a ds := by
 obtain ⟨kvs, e, k, i⟩ := h
 exact ⟨kvs, S _ _ e, k, IsL.same S _ _ i⟩
structure LandAt (C : Addr) (H : Hp) (x : Addr) (fs ds : List Dv) : Prop where
 ex : ∃ dx d1 d2, H x = some (.ins C dx (mR d1 d2)) ∧ uJ H d1 fs ∧ uJ H d2 ds
 okf : lC (.lst fs) = true
 okd : nF ("sea" :: fs.map aL) (.lst ds) = true
theorem LandAt.same {C : Addr} {H H' : Hp} (S : aI H H') {x : Addr} {fs ds : List Dv} (h : LandAt C H x fs ds) : LandAt C H' x fs ds := by
 obtain ⟨⟨dx, d1, d2, e, t1, t2⟩, a, b⟩ := h
 exact ⟨⟨dx, d1, d2, S _ _ e, t1.same S, t2.same S⟩, a, b⟩
theorem wM : ∀ {kvs : List (Key × V)} {H : Hp} {ds : List Dv} {d : Dv}, kvs.map (·.1) = ds.map mT → IsL H ds (kvs.map (·.2)) → (ds.map aL).Nodup → d ∈ ds → ∃ v, fS kvs (.inr (aL d)) = some v ∧ Is H d v
 | [], _, [], _, _, _, _, m => by cases m
 | [], _, _ :: _, _, e, _, _, _ => by simp at e
 | _ :: _, _, [], _, _, _, _, m => by cases m
 | (k, v) :: kvs, H, d0 :: ds, d, e, i, n, m => by
  obtain ⟨v', r, e1, h0, t⟩ := i
  rw [List.map_cons] at e1
  cases e1
  rw [List.map_cons, List.map_cons, List.cons.injEq] at e
  have ek : k = mT d0 := e.1
  rw [List.map_cons, List.nodup_cons] at n
  by_cases q : aL d = aL d0
  ·have : d = d0 := by
    rcases List.mem_cons.mp m with rfl | m
    ·rfl
    ·exact absurd (List.mem_map.mpr ⟨d, m, q⟩) n.1
   subst this
   refine ⟨v, ?_, h0⟩
   unfold fS
   rw [List.find?_cons, ek]
   simp [mT]
  ·have m' : d ∈ ds := by
    rcases List.mem_cons.mp m with rfl | m
    ·exact absurd rfl q
    ·exact m
   obtain ⟨u, e2, h2⟩ := wM (kvs := kvs) e.2 t n.2 m'
   refine ⟨u, ?_, h2⟩
   unfold fS at e2 ⊢
   have hk : ¬ k = Sum.inr (aL d) := by
    rw [ek]
    intro z
    exact q (Sum.inr.inj z).symm
   rw [List.find?_cons, decide_eq_false (show ¬ (k, v).1 = Sum.inr (aL d) from hk)]
   exact e2
theorem hJ : ∀ {ds : List Dv} {p : Dv → Bool}, (∀ d, p d = true → ∃ z, cN d = some z) → ds.all p = true → ds.map cN = (ds.map aL).map some
 | [], _, _, _ => rfl
 | d :: ds, p, hp, h => by
  rw [List.all_cons, Bool.and_eq_true] at h
  obtain ⟨z, e⟩ := hp d h.1
  rw [List.map_cons, List.map_cons, List.map_cons, hJ hp h.2, aHV e, e]
theorem eA (zs : List Str) : (zs.map some).Nodup ↔ zs.Nodup := by
 induction zs with
 | nil => simp
 | cons z zs ih =>
  rw [List.map_cons, List.nodup_cons, List.nodup_cons, ih]
  simp
theorem bJ {d : Dv} (h : cC d = true) : ∃ z g e, d = .tup [.str z, .int g, .int e] ∧ eW z = true ∧ hgt g = true ∧ amt e = true := by
 unfold cC at h
 split at h
 ·rename_i a b c
  rw [Bool.and_eq_true, Bool.and_eq_true] at h
  obtain ⟨h1, h2, h3⟩ := h
  cases a with
  | str z =>
   cases b with
   | int g =>
    cases c with
    | int e => exact ⟨z, g, e, rfl, h1, h2, h3⟩
    | _ => cases h3
   | _ => cases h2
  | _ => cases h1
 ·cases h
theorem qS (d : Dv) (h : cC d = true) : ∃ z, cN d = some z := by
 obtain ⟨z, _, _, rfl, _⟩ := bJ h
 exact ⟨z, rfl⟩
theorem bP {zs : List Str} {d : Dv} (h : cU zs d = true) : ∃ n a b c r s, d = .tup [.str n, .str a, .str b, .int c, .int r, s] ∧ eW n = true ∧ a ∈ zs ∧ b ∈ zs ∧ a ≠ b ∧ hgt c = true ∧ amt r = true ∧ lJ (.int c) s = true := by
 unfold cU at h
 split at h
 ·rename_i n a b c r s
  rw [Bool.and_eq_true, Bool.and_eq_true, Bool.and_eq_true, Bool.and_eq_true] at h
  obtain ⟨⟨h1, h2⟩, h3, h4, h5⟩ := h
  unfold nE at h2
  rw [Bool.and_eq_true, Bool.and_eq_true] at h2
  obtain ⟨h6, h7, h8⟩ := h2
  cases n with
  | str n =>
   cases a with
   | str a =>
    cases b with
    | str b =>
     cases c with
     | int c =>
      cases r with
      | int r =>
       refine ⟨n, a, b, c, r, s, rfl, h1, of_decide_eq_true h6, of_decide_eq_true h7, ?_, h3, h4, h5⟩
       intro z
       subst z
       have : (!(a == a)) = true := h8
       rw [beq_self_eq_true] at this
       cases this
      | _ => cases h4
     | _ => cases h3
    | _ => cases h7
   | _ => cases h6
  | _ => cases h1
 ·cases h
theorem tY {zs : List Str} (d : Dv) (h : cU zs d = true) : ∃ z, cN d = some z := by
 obtain ⟨z, _, _, _, _, _, rfl, _⟩ := bP h
 exact ⟨z, rfl⟩
structure GoodF (fs : List Dv) : Prop where
 l1 : 1 ≤ fs.length
 l2 : fs.length ≤ 12
 all : ∀ d ∈ fs, cC d = true
 nd : (fs.map aL).Nodup
structure GoodD (zs : List Str) (ds : List Dv) : Prop where
 l1 : 1 ≤ ds.length
 l2 : ds.length ≤ 40
 all : ∀ d ∈ ds, cU zs d = true
 nd : (ds.map aL).Nodup
theorem qB (fs : List Dv) : lC (.lst fs) = true ↔ GoodF fs := by
 show ((decide (1 ≤ fs.length) && decide (fs.length ≤ 12)) && (fs.all cC && decide ((fs.map cN).Nodup))) = true ↔ _
 rw [Bool.and_eq_true, Bool.and_eq_true, Bool.and_eq_true, decide_eq_true_iff, decide_eq_true_iff, decide_eq_true_iff]
 constructor
 ·rintro ⟨⟨a, b⟩, c, d⟩
  rw [hJ qS c, eA] at d
  exact ⟨a, b, List.all_eq_true.mp c, d⟩
 ·rintro ⟨a, b, c, d⟩
  have c' := List.all_eq_true.mpr c
  refine ⟨⟨a, b⟩, c', ?_⟩
  rw [hJ qS c', eA]
  exact d
theorem qC (zs : List Str) (ds : List Dv) : nF zs (.lst ds) = true ↔ GoodD zs ds := by
 show ((decide (1 ≤ ds.length) && decide (ds.length ≤ 40)) && (ds.all (cU zs) && decide ((ds.map cN).Nodup))) = true ↔ _
 rw [Bool.and_eq_true, Bool.and_eq_true, Bool.and_eq_true, decide_eq_true_iff, decide_eq_true_iff, decide_eq_true_iff]
 constructor
 ·rintro ⟨⟨a, b⟩, c, d⟩
  rw [hJ tY c, eA] at d
  exact ⟨a, b, List.all_eq_true.mp c, d⟩
 ·rintro ⟨a, b, c, d⟩
  have c' := List.all_eq_true.mpr c
  refine ⟨⟨a, b⟩, c', ?_⟩
  rw [hJ tY c', eA]
  exact d
def aNA : Dv → Bool
 | .non => true
 | _ => false
def hasSill : Dv → Bool
 | .tup [_, _, _, _, _, s] => !aNA s
 | _ => false
theorem vE : ∀ {ds : List Dv}, (∀ d ∈ ds, dB d = true) → gS ds = true
 | [], _ => rfl
 | d :: ds, h => by
  rw [gS, h d List.mem_cons_self, vE fun e m => h e (List.mem_cons_of_mem _ m)]
  rfl
end Ld
namespace Mt02
open PySem L2 Ld
def aOL (i : Nat) : Nat := if i < 18 then 97 + i else 98 + i
def rst (c : Int) : Nat → Int
 | 0 => c / 3
 | j + 1 => rst c j / 25
def num (o : Nat → Int) (c p b : Int) (k j : Nat) : Int := if (j : Int) = b then c / 17 + ((k : Int) / 25) else if (j : Int) = p then c / 11 + (k : Int) else o j
def aNL (o : Nat → Int) (c p b : Int) (k j : Nat) : Nat := aOL (num o c p b k j % 25).toNat
def nm (o : Nat → Int) (c p b : Int) (n k : Nat) : Str := ⟨((List.range n).map (aNL o c p b k)).toArray⟩
structure Names (zs : List Str) (n : Nat) : Prop where
 len : zs.length = n
 nd : zs.Nodup
 good : ∀ z ∈ zs, eW z = true
end Mt02
namespace Mt04
open PySem L2 Ld
def aBX : Dv → Int
 | .tup [_, _, _, .int c, _, _] => c
 | _ => 0
def hOf : Dv → Int
 | .tup [_, .int h] => h
 | _ => 0
def gL (ds : List Dv) (z : Str) : Int := (ds.find? fun d => decide (aL d = z)).elim 0 aBX
def dU (ds : List Dv) : Dv → Bool
 | .tup [.str z, .int h] => decide (z ∈ ds.map aL) && (hgt h && decide (gL ds z ≤ h))
 | _ => false
def aAI (ds : List Dv) : Dv → Bool
 | .lst ws => ws.all (dU ds) && decide ((ws.map cN).Nodup)
 | _ => false
theorem aJO {ds : List Dv} (nd : (ds.map aL).Nodup) {d : Dv} (m : d ∈ ds) : (ds.find? fun e => decide (aL e = aL d)) = some d := by
 induction ds with
 | nil => cases m
 | cons e ds ih =>
  rw [List.map_cons, List.nodup_cons] at nd
  rw [List.find?_cons]
  by_cases q : aL e = aL d
  ·rw [decide_eq_true q]
   rcases List.mem_cons.mp m with rfl | m
   ·rfl
   ·exact absurd (List.mem_map.mpr ⟨d, m, q.symm⟩) nd.1
  ·rw [decide_eq_false q]
   rcases List.mem_cons.mp m with rfl | m
   ·exact absurd rfl q
   ·exact ih nd.2 m
theorem uC {ds : List Dv} (nd : (ds.map aL).Nodup) {d : Dv} (m : d ∈ ds) : gL ds (aL d) = aBX d := by
 unfold gL
 rw [aJO nd m]
 rfl
theorem oB {ds : List Dv} {d : Dv} (h : dU ds d = true) : ∃ z v, d = .tup [.str z, .int v] ∧ z ∈ ds.map aL ∧ hgt v = true ∧ gL ds z ≤ v := by
 unfold dU at h
 split at h
 ·rename_i z v
  rw [Bool.and_eq_true, Bool.and_eq_true] at h
  exact ⟨z, v, rfl, of_decide_eq_true h.1, h.2.1, of_decide_eq_true h.2.2⟩
 ·cases h
theorem oE {ds : List Dv} (d : Dv) (h : dU ds d = true) : ∃ z, cN d = some z := by
 obtain ⟨z, _, rfl, _⟩ := oB h
 exact ⟨z, rfl⟩
structure GoodW (ds ws : List Dv) : Prop where
 all : ∀ d ∈ ws, dU ds d = true
 nd : (ws.map aL).Nodup
theorem aEU (ds ws : List Dv) : aAI ds (.lst ws) = true ↔ GoodW ds ws := by
 show (ws.all (dU ds) && decide ((ws.map cN).Nodup)) = true ↔ _
 rw [Bool.and_eq_true, decide_eq_true_iff]
 constructor
 ·rintro ⟨c, d⟩
  rw [hJ oE c, eA] at d
  exact ⟨List.all_eq_true.mp c, d⟩
 ·rintro ⟨c, d⟩
  have c' := List.all_eq_true.mpr c
  refine ⟨c', ?_⟩
  rw [hJ oE c', eA]
  exact d
def wAt (ws : List Dv) (z : Str) : Option Int := (ws.find? fun d => decide (aL d = z)).map hOf
def aOG (ws : List Dv) : Dv → Dv
 | .tup [.str n, a, b, .int c, r, s] => .tup [.str n, a, b, .int ((wAt ws n).getD c), r, s]
 | d => d
def raisedD (ds ws : List Dv) : List Dv := ds.map (aOG ws)
def kvOf (d : Dv) : Key × V := (mT d, .int (hOf d))
end Mt04
namespace Mt22
open PySem L2 Ld
structure St where
 nm : Str
 near : Str
 far : Str
 h : Int
abbrev Lo := Str → Option Int
def sea : Str := "sea"
def lo0 : Lo := fun z => if z = sea then some (-1000000) else none
def aMJ (lo : Lo) (s : St) : Lo := match lo s.near with
 | none => lo
 | some a => fun z => if z = s.far then some (match lo s.far with | none => max a s.h | some b => min (max a s.h) b) else lo z
def aMI (S : List St) (lo : Lo) : Lo := S.foldl aMJ lo
def aGJ (S : List St) : Nat → Lo
 | 0 => lo0
 | n + 1 => aMI S (aGJ S n)
inductive Walk (S : List St) : Nat → Str → Int → Prop
 | sea : Walk S 0 Mt22.sea (-1000000)
 | step {k : Nat} {a : Int} {s : St} (w : Walk S k s.near a) (m : s ∈ S) : Walk S (k + 1) s.far (max a s.h)
def Le (lo lo' : Lo) : Prop := ∀ z c, lo' z = some c → ∃ d, lo z = some d ∧ d ≤ c
def Att (S : List St) (lo : Lo) : Prop := ∀ z c, lo z = some c → ∃ k, Walk S k z c
inductive Path (S : List St) : List Str → Str → Int → Prop
 | sea : Path S [] Mt22.sea (-1000000)
 | step {p : List Str} {a : Int} {s : St} (w : Path S p s.near a) (m : s ∈ S) (n : s.far ∉ p) : Path S (s.far :: p) s.far (max a s.h)
theorem tM {α : Type} [DecidableEq α] : ∀ {P N : List α}, P.Nodup → (∀ x ∈ P, x ∈ N) → P.length ≤ N.length
 | [], N, _, _ => Nat.zero_le _
 | x :: P, N, nd, sub => by
  have hx := sub x List.mem_cons_self
  rw [List.nodup_cons] at nd
  have := tM (P := P) (N := N.erase x) nd.2 fun y m => (List.mem_erase_of_ne (a := y) (b := x) (fun e => nd.1 (by rw [← e]; exact m))).mpr (sub y (List.mem_cons_of_mem _ m))
  rw [List.length_erase_of_mem hx] at this
  have hp := List.length_pos_of_mem hx
  rw [List.length_cons]
  omega
structure Flood (S : List St) (lo : Lo) : Prop where
 att : Att S lo
 low : ∀ k v b, Walk S k v b → ∃ c, lo v = some c ∧ c ≤ b
inductive Come (S : List St) (L : Int) : Str → Prop
 | sea : Come S L Mt22.sea
 | step {s : St} (w : Come S L s.near) (m : s ∈ S) (h : s.h < L) : Come S L s.far
end Mt22
namespace MtF
open PySem L2 Ld Mt04 Mt22
def aKT : Dv → Dv
 | .tup [_, _, _, _, _, s] => s
 | _ => .non
def aNC : Dv → Int
 | .int i => i
 | _ => 0
def aMS : Dv → Str
 | .tup [_, .str a, _, _, _, _] => a
 | _ => ""
def aGV : Dv → Str
 | .tup [_, _, .str b, _, _, _] => b
 | _ => ""
def aKS (op : List Str) (d : Dv) : Int := if aL d ∈ op then aNC (aKT d) else aBX d
def lK : Dv → Int
 | .tup [_, .int g, _] => g
 | _ => 0
def mU (fs : List Dv) (z : Str) : Int := (fs.find? fun d => decide (aL d = z)).elim 0 lK
theorem aJN {ds : List Dv} (nd : (ds.map aL).Nodup) {d : Dv} (m : d ∈ ds) : (ds.find? fun e => decide (aL e = aL d)) = some d := by
 induction ds with
 | nil => cases m
 | cons e ds ih =>
  rw [List.map_cons, List.nodup_cons] at nd
  rw [List.find?_cons]
  rcases List.mem_cons.mp m with rfl | m
  ·rw [decide_eq_true rfl]
  ·have hne : aL e ≠ aL d := fun c => nd.1 (c ▸ List.mem_map.mpr ⟨d, m, rfl⟩)
   rw [decide_eq_false hne]
   exact ih nd.2 m
theorem nO {fs : List Dv} (nd : (fs.map aL).Nodup) {d : Dv} (m : d ∈ fs) : mU fs (aL d) = lK d := by
 show (fs.find? fun e => decide (aL e = aL d)).elim 0 lK = _
 rw [aJN nd m]
 rfl
def aFS (fs : List Dv) (op : List Str) (d : Dv) (near far : Str) : List Mt22.St := if far = "sea" then [] else [⟨aL d, near, far, max (aKS op d) (mU fs far)⟩]
def stepsOf (fs : List Dv) (op : List Str) (d : Dv) : List Mt22.St := aFS fs op d (aMS d) (aGV d) ++ aFS fs op d (aGV d) (aMS d)
def aKR (fs ds : List Dv) (op : List Str) : List Mt22.St := ds.flatMap (stepsOf fs op)
def bS (s : Mt22.St) : Dv := .tup [.str s.nm, .str s.near, .str s.far, .int s.h]
def flo (fs ds : List Dv) (op : List Str) : Mt22.Lo := aGJ (aKR fs ds op) fs.length
def optV : Option Int → V
 | some i => .int i
 | none => .non
end MtF
namespace Mt21
open PySem L2 Ld Mt02
def ab (i : Int) : Nat := 97 + (i % 26).toNat
theorem nR (i : Int) : fE (ab i) = true := by
 have h0 := Int.emod_nonneg i (show (26 : Int) ≠ 0 by decide)
 have h1 := Int.emod_lt_of_pos i (show (0 : Int) < 26 by decide)
 unfold ab fE
 rw [decide_eq_true (by omega), decide_eq_true (by omega)]
 rfl
theorem aJV : ("abcdefghijklmnopqrstuvwxyz" : Str).cps.toList = (List.range 26).map fun i => 97 + i := by decide +kernel
theorem aDU (i : Int) : atI ("abcdefghijklmnopqrstuvwxyz" : Str).cps.toList (i % 26) = some (ab i) := by
 have h0 := Int.emod_nonneg i (show (26 : Int) ≠ 0 by decide)
 have h1 := Int.emod_lt_of_pos i (show (0 : Int) < 26 by decide)
 obtain ⟨k, hk⟩ := Int.eq_ofNat_of_zero_le h0
 unfold ab
 rw [hk, aJV]
 refine aO ?_
 rw [List.getElem?_map, List.getElem?_range (by omega)]
 rfl
def kF (i : Int) : Str := ⟨#[ab i]⟩
theorem tR : ∀ (ys : List Str) (acc : Array Nat), (ys.foldl (fun acc p => acc ++ ("" : Str).cps ++ p.cps) acc).toList = acc.toList ++ (ys.map fun y => y.cps.toList).flatten
 | [], acc => by simp
 | y :: ys, acc => by
  rw [List.foldl_cons, tR ys]
  have : ("" : Str).cps = #[] := by decide +kernel
  rw [this]
  simp
theorem aBM (ys : List Str) : (Txt.join "" ys).cps.toList = (ys.map fun y => y.cps.toList).flatten := by
 cases ys with
 | nil =>
  show (Str.empty.cps).toList = []
  decide +kernel
 | cons y ys =>
  show (List.foldl (fun acc p => acc ++ ("" : Str).cps ++ p.cps) y.cps ys).toList = _
  rw [tR]
  simp
theorem rT (z : Str) (k : Nat) (h : k ≤ z.length) : (Txt.slice z none (some (k : Int))).cps.toList = z.cps.toList.take k := by
 rw [Tx.slice_codes, Tx.cl_nat]
 show (z.cps.toList.drop 0).take (min k z.length - 0) = _
 rw [List.drop_zero, Nat.sub_zero, Nat.min_eq_left h]
theorem tZ (z : Str) (k : Nat) (h : k ≤ z.length) : (Txt.slice z (some (k : Int)) none).cps.toList = z.cps.toList.drop k := by
 rw [Tx.slice_codes, Tx.cl_nat, Nat.min_eq_left h]
 show (z.cps.toList.drop k).take (z.length - k) = _
 rw [List.take_of_length_le]
 rw [List.length_drop]
 show z.cps.toList.length - k ≤ z.length - k
 simp [Str.length]
theorem hE (z : Str) : z.length = z.cps.toList.length := by simp [Str.length]
theorem aDH {z : Str} (h : z.cps.toList.all fE = true) (h1 : 1 ≤ z.length) (h2 : z.length ≤ 8) (h3 : z.length ≠ 3) : eW z = true := by
 have e : ¬ z = "sea" := fun e => by
  rw [e] at h3
  exact h3 (by decide +kernel)
 unfold eW
 rw [h, decide_eq_true h1, decide_eq_true h2, decide_eq_false e]
 rfl
theorem qP {f : Nat → Str} {n : Nat} (h : ∀ k l, k < n → l < n → f k = f l → k = l) : ((List.range n).map f).Nodup := by
 rw [List.nodup_iff_pairwise_ne, List.pairwise_map]
 refine List.Pairwise.imp_of_mem ?_ (List.pairwise_lt_range (n := n))
 intro k l hk hl hkl he
 have := h k l (List.mem_range.mp hk) (List.mem_range.mp hl) he
 omega
theorem aBC {a : Int} {n : Nat} (hn : n ≤ 26) : Names ((List.range n).map fun (k : Nat) => kF (a + 5 * (k : Int))) n where
 len := by simp
 nd := qP fun k l hk hl e => by
  have e' : [ab (a + 5 * (k : Int))] = [ab (a + 5 * (l : Int))] := congrArg (fun z : Str => z.cps.toList) e
  have e2 : ab (a + 5 * (k : Int)) = ab (a + 5 * (l : Int)) := by simpa using e'
  unfold ab at e2
  omega
 good z m := by
  obtain ⟨k, _, rfl⟩ := List.mem_map.mp m
  refine aDH ?_ (show 1 ≤ 1 by decide) (show 1 ≤ 8 by decide) (show (1 : Nat) ≠ 3 by decide)
  show (fE (ab _) && true) = true
  rw [nR]
  rfl
structure Put (z b : Str) (at' : Nat) (x y : Int) : Prop where
 codes : z.cps.toList = b.cps.toList.take at' ++ [ab x, ab y] ++ b.cps.toList.drop at'
theorem aEG {b : Str} {sz at' n : Nat} {p q : Int} {f : Nat → Str} (hb : b.cps.toList.all fE = true) (hl : b.length = sz) (h2 : 2 ≤ sz) (h6 : sz ≤ 6) (ha : at' ≤ sz) (hn : n ≤ 52) (hf : ∀ k, k < n → Put (f k) b at' ((k : Int) + p) ((k : Int) / 26 + q)) :
  Names ((List.range n).map f) n where
 len := by simp
 nd := qP fun k l hk hl' e => by
  have h1 := (hf k hk).codes
  have h2 := (hf l hl').codes
  rw [e, h2] at h1
  have hlt : (b.cps.toList.take at').length = at' := by
   rw [List.length_take, ← hE, hl]
   omega
  rw [List.append_assoc, List.append_assoc] at h1
  have h3 := List.append_cancel_left h1
  have e1 : ab ((l : Int) + p) = ab ((k : Int) + p) ∧ ab ((l : Int) / 26 + q) = ab ((k : Int) / 26 + q) := by
   simpa using h3
  unfold ab at e1
  omega
 good z m := by
  obtain ⟨k, mk, rfl⟩ := List.mem_map.mp m
  have h := (hf k (List.mem_range.mp mk)).codes
  have hlen : (f k).length = sz + 2 := by
   rw [hE, h, List.length_append, List.length_append, List.length_take, List.length_drop, ← hE, hl]
   show min at' sz + 2 + (sz - at') = _
   omega
  refine aDH ?_ (by omega) (by omega) (by omega)
  rw [h, List.all_append, List.all_append]
  have t1 : (b.cps.toList.take at').all fE = true := List.all_eq_true.mpr fun x m => List.all_eq_true.mp hb x (List.mem_of_mem_take m)
  have t2 : (b.cps.toList.drop at').all fE = true := List.all_eq_true.mpr fun x m => List.all_eq_true.mp hb x (List.mem_of_mem_drop m)
  rw [t1, t2]
  show (true && (fE (ab _) && (fE (ab _) && true)) && true) = true
  rw [nR, nR]
  rfl
end Mt21
namespace Mt31
open PySem L2 Ld Mt22
abbrev Cm := List (Str × Option Mt22.St)
def keys (cm : Cm) : List Str := cm.map (·.1)
structure Came (S : List Mt22.St) (cm : Cm) : Prop where
 nd : (keys cm).Nodup
 first : cm[0]? = some (Mt22.sea, none)
 prev : ∀ (i : Nat) (z : Str) (o : Option Mt22.St), 0 < i → cm[i]? = some (z, o) → ∃ s, o = some s ∧ s ∈ S ∧ s.far = z ∧ s.near ∈ keys (cm.take i)
def rH (S : List Mt22.St) (cm : Cm) (p : Nat) : Prop := ∀ (i : Nat) (u : Str), i < p → (keys cm)[i]? = some u → ∀ s ∈ S, s.near = u → s.far ∈ keys cm
theorem kT (a b : Cm) : keys (a ++ b) = keys a ++ keys b := List.map_append
theorem rH.snoc {S : List Mt22.St} {cm : Cm} {p : Nat} (h : rH S cm p) (hp : p ≤ cm.length) (x : Str × Option Mt22.St) : rH S (cm ++ [x]) p := fun i u hi e s ms en => by
 rw [kT, List.getElem?_append_left (by unfold keys; rw [List.length_map]; omega)] at e
 rw [kT]
 exact List.mem_append_left _ (h i u hi e s ms en)
inductive Chain (S : List Mt22.St) : List Mt22.St → Str → Prop
 | nil : Chain S [] Mt22.sea
 | snoc {ss : List Mt22.St} {s : Mt22.St} (c : Chain S ss s.near) (m : s ∈ S) (n : s.far ∉ ss.map (·.far)) : Chain S (ss ++ [s]) s.far
def hm (ss : List Mt22.St) : Int := ss.foldl (fun a s => max a s.h) (-1000000)
theorem wB {S : List Mt22.St} {ss : List Mt22.St} {v : Str} (c : Chain S ss v) : (∀ s ∈ ss, s ∈ S) ∧ (ss.map (·.far)).Nodup := by
 induction c with
 | nil => exact ⟨(fun s m => by cases m), by simp⟩
 | @snoc ss s c m n ih =>
  refine ⟨fun t mt => ?_, ?_⟩
  ·rcases List.mem_append.mp mt with mt | mt
   ·exact ih.1 t mt
   ·rw [List.mem_singleton.mp mt]; exact m
  ·rw [List.map_append, List.nodup_append]
   refine ⟨ih.2, by simp, fun a ha b hb => ?_⟩
   have hb' : b = s.far := List.mem_singleton.mp hb
   intro e
   have e' : a = s.far := e.trans hb'
   exact n (e' ▸ ha)
def aLR (S : List Mt22.St) (cm : Cm) (j : Nat) (z : Str) (tl : List Mt22.St) (side : Str) : Prop := ∀ ss, Chain S ss z → (∀ y ∈ ss.map (·.far), y ∈ keys (cm.take (j + 1))) → Chain S (ss ++ tl) side
theorem aDY {S : List Mt22.St} {cm : Cm} (h : Came S cm) {i j : Nat} {z : Str} {s : Mt22.St} {tl : List Mt22.St} {side : Str} (hj : cm[j]? = some (z, some s)) (ms : s ∈ S) (hf : s.far = z) (hi : i < j) (hu : (keys cm)[i]? = some s.near) (t : aLR S cm j z tl side) : aLR S cm i s.near (s :: tl) side := fun ss c sub => by
 have e : ss ++ s :: tl = (ss ++ [s]) ++ tl := by rw [List.append_assoc]; rfl
 have kj : (keys cm)[j]? = some z := by unfold keys; rw [List.getElem?_map, hj]; rfl
 have ktake : ∀ n, keys (cm.take n) = (keys cm).take n := fun n => by unfold keys; rw [List.map_take]
 have fresh : s.far ∉ ss.map (·.far) := fun m => by
  have h1 := sub _ m
  rw [ktake, hf] at h1
  obtain ⟨k, hk⟩ := List.mem_iff_getElem?.mp h1
  have hkl := (List.getElem?_eq_some_iff.mp hk).1
  rw [List.length_take] at hkl
  rw [List.getElem?_take_of_lt (by omega)] at hk
  obtain ⟨h2, e2⟩ := List.getElem?_eq_some_iff.mp hk
  obtain ⟨h3, e3⟩ := List.getElem?_eq_some_iff.mp kj
  have := (List.getElem_inj h.nd).mp (e2.trans e3.symm)
  omega
 rw [e]
 refine t (ss ++ [s]) (hf ▸ Chain.snoc c ms fresh) fun y my => ?_
 rw [ktake]
 rw [List.map_append] at my
 rcases List.mem_append.mp my with my | my
 ·have := sub y my
  rw [ktake] at this
  obtain ⟨k, hk⟩ := List.mem_iff_getElem?.mp this
  have hkl := (List.getElem?_eq_some_iff.mp hk).1
  rw [List.length_take] at hkl
  rw [List.getElem?_take_of_lt (by omega)] at hk
  exact List.mem_of_getElem? (i := k) (by rw [List.getElem?_take_of_lt (by omega)]; exact hk)
 ·have : y = s.far := List.mem_singleton.mp my
  rw [this, hf]
  exact List.mem_of_getElem? (i := j) (by rw [List.getElem?_take_of_lt (by omega)]; exact kj)
end Mt31
namespace Mt61
open PySem L2 Mt22 Mt31
structure Gap where
 nm : Str
 a : Str
 b : Str
 cap : Int
abbrev Fl := Str → Int
def sm {α : Type} (xs : List α) (f : α → Int) : Int := (xs.map f).sum
section
variable {α β : Type}
theorem wZ (f : α → Int) : sm [] f = 0 := rfl
theorem bU (x : α) (xs : List α) (f : α → Int) : sm (x :: xs) f = f x + sm xs f := by
 unfold sm; rw [List.map_cons, List.sum_cons]
theorem aGD (f : α → Int) : ∀ xs ys : List α, sm (xs ++ ys) f = sm xs f + sm ys f
 | [], ys => by rw [List.nil_append, wZ]; omega
 | x :: xs, ys => by rw [List.cons_append, bU, bU, aGD f xs ys]; omega
theorem eC {f g : α → Int} : ∀ {xs : List α}, (∀ x ∈ xs, f x = g x) → sm xs f = sm xs g
 | [], _ => rfl
 | x :: xs, h => by rw [bU, bU, h x List.mem_cons_self, eC fun y m => h y (List.mem_cons_of_mem _ m)]
theorem yY {f g : α → Int} : ∀ {xs : List α}, (∀ x ∈ xs, f x ≤ g x) → sm xs f ≤ sm xs g
 | [], _ => Int.le_refl _
 | x :: xs, h => by
  rw [bU, bU]
  have := h x List.mem_cons_self
  have := yY (xs := xs) fun y m => h y (List.mem_cons_of_mem _ m)
  omega
theorem jU {f : α → Int} {xs : List α} (h : ∀ x ∈ xs, f x = 0) : sm xs f = 0 := by
 rw [eC h]
 induction xs with
 | nil => rfl
 | cons x xs ih => rw [bU, ih fun y m => h y (List.mem_cons_of_mem _ m)]; rfl
theorem sD (f g : α → Int) : ∀ xs : List α, sm xs (fun x => f x + g x) = sm xs f + sm xs g
 | [] => rfl
 | x :: xs => by rw [bU, bU, bU, sD f g xs]; omega
theorem aAW (f g : α → Int) : ∀ xs : List α, sm xs (fun x => f x - g x) = sm xs f - sm xs g
 | [] => rfl
 | x :: xs => by rw [bU, bU, bU, aAW f g xs]; omega
theorem aCU (f : α → β → Int) (ys : List β) : ∀ xs : List α, sm xs (fun x => sm ys (f x)) = sm ys (fun y => sm xs fun x => f x y)
 | [] => (jU (fun _ _ => rfl)).symm
 | x :: xs => by
  rw [bU, aCU f ys xs, ← sD]
  exact eC fun y _ => by rw [bU]
theorem yX (X : α → Bool) (f : α → Int) : ∀ xs : List α, sm xs f = sm (xs.filter X) f + sm (xs.filter fun x => !X x) f
 | [] => rfl
 | x :: xs => by
  rw [bU, yX X f xs]
  cases h : X x with
  | true => rw [List.filter_cons_of_pos h, List.filter_cons_of_neg (by simp [h]), bU]; omega
  | false => rw [List.filter_cons_of_neg (by simp [h]), List.filter_cons_of_pos (by simp [h]), bU]; omega
theorem kJ (X : α → Bool) (f : α → Int) : ∀ xs : List α, sm (xs.filter X) f = sm xs fun x => if X x = true then f x else 0
 | [] => rfl
 | x :: xs => by
  cases h : X x with
  | true => rw [List.filter_cons_of_pos h, bU, bU, if_pos h, kJ X f xs]
  | false => rw [List.filter_cons_of_neg (by simp [h]), bU, if_neg (by simp [h]), kJ X f xs]; omega
end
theorem wW {V : List Str} (X : Str → Bool) {w : Str} (c : Int) (nd : V.Nodup) (m : w ∈ V) : sm (V.filter X) (fun v => if w = v then c else 0) = if X w = true then c else 0 := by
 rw [kJ]
 induction V with
 | nil => cases m
 | cons v V ih =>
  rw [List.nodup_cons] at nd
  rw [bU]
  by_cases e : w = v
  ·subst e
   rw [jU (xs := V) fun x mx => ?_]
   ·simp
   ·have : w ≠ x := fun e => nd.1 (e ▸ mx)
    simp [this]
  ·have mV : w ∈ V := by
    rcases List.mem_cons.mp m with h | h
    ·exact absurd h e
    ·exact h
   rw [ih nd.2 mV]
   simp [e]
theorem aCT {G : List Gap} (nd : (G.map (·.nm)).Nodup) {g0 : Gap} (m : g0 ∈ G) (c : Gap → Int) : sm G (fun g => if g.nm = g0.nm then c g else 0) = c g0 := by
 induction G with
 | nil => cases m
 | cons g G ih =>
  rw [List.map_cons, List.nodup_cons] at nd
  rw [bU]
  rcases List.mem_cons.mp m with rfl | m
  ·rw [jU (xs := G) fun x mx => ?_]
   ·simp
   ·have : x.nm ≠ g0.nm := fun e => nd.1 (e ▸ List.mem_map.mpr ⟨x, mx, rfl⟩)
    simp [this]
  ·have : g.nm ≠ g0.nm := fun e => nd.1 (e ▸ List.mem_map.mpr ⟨g0, m, rfl⟩)
   rw [ih nd.2 m]
   simp [this]
def zM (f : Fl) (v : Str) (g : Gap) : Int := (if g.b = v then f g.nm else 0) - (if g.a = v then f g.nm else 0)
def net (G : List Gap) (f : Fl) (v : Str) : Int := sm G (zM f v)
def aER (X : Str → Bool) (f : Fl) (g : Gap) : Int := (if X g.b = true then f g.nm else 0) - (if X g.a = true then f g.nm else 0)
def val (G : List Gap) (f : Fl) : Int := - net G f sea
def lR (X : Str → Bool) (g : Gap) : Int := if X g.a = X g.b then 0 else g.cap
def cut (G : List Gap) (X : Str → Bool) : Int := sm G (lR X)
structure Gaps (V : List Str) (G : List Gap) : Prop where
 nd : (G.map (·.nm)).Nodup
 ends : ∀ g ∈ G, g.a ∈ V ∧ g.b ∈ V ∧ g.a ≠ g.b
 cap : ∀ g ∈ G, 0 ≤ g.cap
 vnd : V.Nodup
 sea : Mt22.sea ∈ V
def aCB (G : List Gap) (f : Fl) : Prop := ∀ g ∈ G, -g.cap ≤ f g.nm ∧ f g.nm ≤ g.cap
theorem aDG {V : List Str} {G : List Gap} (h : Gaps V G) (X : Str → Bool) (f : Fl) : sm (V.filter X) (net G f) = sm G (aER X f) := by
 unfold net
 rw [aCU]
 refine eC fun g mg => ?_
 obtain ⟨ma, mb, _⟩ := h.ends g mg
 show sm (V.filter X) (fun v => (if g.b = v then f g.nm else 0) - (if g.a = v then f g.nm else 0)) = _
 rw [aAW, wW X (f g.nm) h.vnd mb, wW X (f g.nm) h.vnd ma]
 rfl
theorem aJD {V : List Str} {G : List Gap} (h : Gaps V G) (f : Fl) : sm V (net G f) = 0 := by
 have := aDG h (fun _ => true) f
 rw [List.filter_eq_self.mpr (fun _ _ => rfl)] at this
 rw [this]
 refine jU fun g _ => ?_
 unfold aER
 simp
theorem yM {V : List Str} {G : List Gap} (h : Gaps V G) {f : Fl} {X : Str → Bool} (hs : X Mt22.sea = false) (hz : ∀ v ∈ V, v ≠ Mt22.sea → X v = false → net G f v = 0) : sm G (aER X f) = val G f := by
 rw [← aDG h X f]
 have a := aJD h f
 rw [yX X (net G f) V] at a
 have b : sm (V.filter fun x => !X x) (net G f) = net G f Mt22.sea := by
  have e : sm (V.filter fun x => !X x) (net G f) = sm (V.filter fun x => !X x) (fun v => if Mt22.sea = v then net G f Mt22.sea else 0) := eC fun v mv => by
   rw [List.mem_filter] at mv
   by_cases hv : Mt22.sea = v
   ·rw [if_pos hv, hv]
   ·rw [if_neg hv]
    exact hz v mv.1 (fun e => hv e.symm) (by simpa using mv.2)
  rw [e, wW (fun x => !X x) _ h.vnd h.sea, hs]
  rfl
 unfold val
 omega
theorem aJJ {G : List Gap} {f : Fl} (hf : aCB G f) (X : Str → Bool) : ∀ g ∈ G, aER X f g ≤ lR X g := fun g m => by
 obtain ⟨h1, h2⟩ := hf g m
 unfold aER lR
 cases ha : X g.a <;> cases hb : X g.b <;> simp <;> omega
theorem aKL {V : List Str} {G : List Gap} (h : Gaps V G) {f : Fl} (hf : aCB G f) {X : Str → Bool} (hs : X Mt22.sea = false) (hz : ∀ v ∈ V, v ≠ Mt22.sea → X v = false → net G f v = 0) : val G f ≤ cut G X := by
 rw [← yM h hs hz]
 exact yY (aJJ hf X)
theorem aKM {V : List Str} {G : List Gap} (h : Gaps V G) {f : Fl} {X : Str → Bool} (hs : X Mt22.sea = false) (hz : ∀ v ∈ V, v ≠ Mt22.sea → X v = false → net G f v = 0)
  (h1 : ∀ g ∈ G, X g.a = false → X g.b = true → f g.nm = g.cap) (h2 : ∀ g ∈ G, X g.a = true → X g.b = false → f g.nm = -g.cap) : val G f = cut G X := by
 rw [← yM h hs hz]
 refine eC fun g m => ?_
 have e1 := h1 g m
 have e2 := h2 g m
 unfold aER lR
 cases ha : X g.a <;> cases hb : X g.b <;> simp [ha, hb] at e1 e2 ⊢ <;> omega
def up (g : Gap) : Mt22.St := ⟨g.nm, g.a, g.b, 1⟩
def dn (g : Gap) : Mt22.St := ⟨g.nm, g.b, g.a, -1⟩
def stepsOf (G : List Gap) : List Mt22.St := G.flatMap fun g => [up g, dn g]
theorem iZ {G : List Gap} {s : Mt22.St} : s ∈ stepsOf G ↔ ∃ g ∈ G, s = up g ∨ s = dn g := by
 unfold stepsOf
 rw [List.mem_flatMap]
 simp
def jS (m : Int) (f : Fl) (s : Mt22.St) : Fl := fun n => if n = s.nm then f n + s.h * m else f n
theorem aJE {V : List Str} {G : List Gap} (h : Gaps V G) {s : Mt22.St} (ms : s ∈ stepsOf G) (m : Int) (f : Fl) (v : Str) : net G (jS m f s) v = net G f v + ((if s.far = v then m else 0) - (if s.near = v then m else 0)) := by
 obtain ⟨g0, m0, e⟩ := iZ.mp ms
 have key : net G (jS m f s) v = net G f v + sm G (fun g => if g.nm = g0.nm then ((if s.far = v then m else 0) - (if s.near = v then m else 0)) else 0) := by
  unfold net
  rw [← sD]
  refine eC fun g mg => ?_
  unfold zM jS
  have hn : s.nm = g0.nm := by rcases e with rfl | rfl <;> rfl
  by_cases hg : g.nm = g0.nm
  ·have eg : g = g0 := by
    have nd := h.nd
    obtain ⟨i, hi⟩ := List.mem_iff_getElem?.mp mg
    obtain ⟨j, hj⟩ := List.mem_iff_getElem?.mp m0
    obtain ⟨li, ei⟩ := List.getElem?_eq_some_iff.mp hi
    obtain ⟨lj, ej⟩ := List.getElem?_eq_some_iff.mp hj
    have : i = j := (List.getElem_inj (xs := G.map (·.nm)) (h₀ := by rw [List.length_map]; exact li) (h₁ := by rw [List.length_map]; exact lj) nd).mp (by rw [List.getElem_map, List.getElem_map, ei, ej, hg])
    subst this
    rw [← ei, ← ej]
   subst eg
   rw [if_pos hg, if_pos hn.symm]
   rcases e with rfl | rfl
   ·show (if g.b = v then f g.nm + 1 * m else 0) - (if g.a = v then f g.nm + 1 * m else 0) = (if g.b = v then f g.nm else 0) - (if g.a = v then f g.nm else 0) + ((if g.b = v then m else 0) - (if g.a = v then m else 0))
    split <;> split <;> omega
   ·show (if g.b = v then f g.nm + -1 * m else 0) - (if g.a = v then f g.nm + -1 * m else 0) = (if g.b = v then f g.nm else 0) - (if g.a = v then f g.nm else 0) + ((if g.a = v then m else 0) - (if g.b = v then m else 0))
    split <;> split <;> omega
  ·have hg' : ¬ g.nm = s.nm := fun e => hg (e.trans hn)
   simp only [if_neg hg, if_neg hg']
   omega
 rw [key, aCT h.nd m0]
theorem pV {V : List Str} {G : List Gap} (h : Gaps V G) {S ss : List Mt22.St} {z : Str} (c : Chain S ss z) (hS : ∀ s ∈ S, s ∈ stepsOf G) (m : Int) (f : Fl) (v : Str) : net G (ss.foldl (jS m) f) v = net G f v + ((if z = v then m else 0) - (if Mt22.sea = v then m else 0)) := by
 induction c with
 | nil =>
  show net G f v = _
  omega
 | @snoc ss s c ms n ih =>
  rw [List.foldl_append]
  show net G (jS m (ss.foldl (jS m) f) s) v = _
  rw [aJE h (hS s ms), ih]
  omega
theorem aDM (m : Int) (n : Str) : ∀ (ss : List Mt22.St) (f : Fl), (ss.foldl (jS m) f) n = f n + m * sm ss (fun s => if s.nm = n then s.h else 0)
 | [], f => by rw [wZ, Int.mul_zero, Int.add_zero]; rfl
 | s :: ss, f => by
  show (ss.foldl (jS m) (jS m f s)) n = _
  rw [aDM m n ss, bU, Int.mul_add]
  unfold jS
  by_cases e : s.nm = n
  ·rw [if_pos e, if_pos e.symm, Int.mul_comm m s.h]
   omega
  ·rw [if_neg e, if_neg (fun q => e q.symm), Int.mul_zero]
   omega
theorem aJM {V : List Str} {G : List Gap} (h : Gaps V G) {g g' : Gap} (m : g ∈ G) (m' : g' ∈ G) (e : g.nm = g'.nm) : g = g' := by
 obtain ⟨i, hi⟩ := List.mem_iff_getElem?.mp m
 obtain ⟨j, hj⟩ := List.mem_iff_getElem?.mp m'
 obtain ⟨li, ei⟩ := List.getElem?_eq_some_iff.mp hi
 obtain ⟨lj, ej⟩ := List.getElem?_eq_some_iff.mp hj
 have : i = j := (List.getElem_inj (xs := G.map (·.nm)) (h₀ := by rw [List.length_map]; exact li) (h₁ := by rw [List.length_map]; exact lj) h.nd).mp (by rw [List.getElem_map, List.getElem_map, ei, ej, e])
 subst this
 rw [← ei, ← ej]
instance stDec : DecidableEq Mt22.St := fun a b => decidable_of_iff (a.nm = b.nm ∧ a.near = b.near ∧ a.far = b.far ∧ a.h = b.h) (by
 cases a; cases b; simp)
theorem yZ {V : List Str} {G : List Gap} (h : Gaps V G) {g : Gap} (mg : g ∈ G) : ∀ {ss : List Mt22.St}, (∀ s ∈ ss, s ∈ stepsOf G) → ss.Nodup → sm ss (fun s => if s.nm = g.nm then s.h else 0) = (if up g ∈ ss then 1 else 0) - (if dn g ∈ ss then 1 else 0)
 | [], _, _ => by simp [wZ]
 | s :: ss, hs, nd => by
  rw [List.nodup_cons] at nd
  rw [bU, yZ h mg (fun t m => hs t (List.mem_cons_of_mem _ m)) nd.2]
  have ne : up g ≠ dn g := fun e => by
   have := congrArg Mt22.St.h e
   exact absurd this (by show (1 : Int) ≠ -1; decide)
  by_cases e : s.nm = g.nm
  ·obtain ⟨g', m', e'⟩ := iZ.mp (hs s List.mem_cons_self)
   have eg : g' = g := aJM h m' mg (by rcases e' with rfl | rfl <;> exact e)
   subst eg
   rcases e' with rfl | rfl
   ·rw [if_pos e, if_pos List.mem_cons_self, if_neg nd.1]
    have : (dn g' ∈ up g' :: ss) ↔ dn g' ∈ ss := by simp [Ne.symm ne]
    simp only [this]
    show (1 : Int) + _ = _
    omega
   ·rw [if_pos e, if_pos (show dn g' ∈ dn g' :: ss from List.mem_cons_self), if_neg nd.1]
    have : (up g' ∈ dn g' :: ss) ↔ up g' ∈ ss := by simp [ne]
    simp only [this]
    show (-1 : Int) + _ = _
    omega
  ·have n1 : s ≠ up g := fun q => e (by rw [q]; rfl)
   have n2 : s ≠ dn g := fun q => e (by rw [q]; rfl)
   have : (up g ∈ s :: ss) ↔ up g ∈ ss := by simp [Ne.symm n1]
   have h2 : (dn g ∈ s :: ss) ↔ dn g ∈ ss := by simp [Ne.symm n2]
   simp only [this, h2, if_neg e]
   omega
def pG (G : List Gap) (n : Str) : Int := sm G fun g => if g.nm = n then g.cap else 0
theorem mZ {V : List Str} {G : List Gap} (h : Gaps V G) {g : Gap} (m : g ∈ G) : pG G g.nm = g.cap := aCT h.nd m (·.cap)
def room (G : List Gap) (f : Fl) (s : Mt22.St) : Int := pG G s.nm - s.h * f s.nm
theorem aCV {V : List Str} {G : List Gap} (h : Gaps V G) {g : Gap} (m : g ∈ G) (f : Fl) : room G f (up g) = g.cap - f g.nm := by
 show pG G g.nm - 1 * f g.nm = _
 rw [mZ h m]
 omega
theorem aCW {V : List Str} {G : List Gap} (h : Gaps V G) {g : Gap} (m : g ∈ G) (f : Fl) : room G f (dn g) = g.cap + f g.nm := by
 show pG G g.nm - -1 * f g.nm = _
 rw [mZ h m]
 omega
theorem aBS {V : List Str} {G : List Gap} (h : Gaps V G) {S ss : List Mt22.St} {z : Str} (c : Chain S ss z) (hS : ∀ s ∈ S, s ∈ stepsOf G) {m : Int} (m0 : 0 ≤ m) {f : Fl} (hf : aCB G f) (hr : ∀ s ∈ ss, m ≤ room G f s) : aCB G (ss.foldl (jS m) f) := fun g mg => by
 obtain ⟨f1, f2⟩ := hf g mg
 obtain ⟨sub, nd⟩ := wB c
 have nd' : ss.Nodup := by
  rw [List.nodup_iff_pairwise_ne]
  exact ((List.pairwise_map.mp (List.nodup_iff_pairwise_ne.mp nd))).imp fun hne e => hne (by rw [e])
 rw [aDM, yZ h mg (fun s ms => hS s (sub s ms)) nd']
 have r1 : up g ∈ ss → m ≤ g.cap - f g.nm := fun q => by have := hr _ q; rwa [aCV h mg] at this
 have r2 : dn g ∈ ss → m ≤ g.cap + f g.nm := fun q => by have := hr _ q; rwa [aCW h mg] at this
 by_cases u : up g ∈ ss <;> by_cases d : dn g ∈ ss
 ·rw [if_pos u, if_pos d]; have := r1 u; have := r2 d; omega
 ·rw [if_pos u, if_neg d]; have := r1 u; omega
 ·rw [if_neg u, if_pos d]; have := r2 d; omega
 ·rw [if_neg u, if_neg d]; omega
structure Stream (V : List Str) (G : List Gap) (ws : List Str) (f : Fl) : Prop where
 fits : aCB G f
 zero : ∀ v ∈ V, v ≠ Mt22.sea → v ∉ ws → net G f v = 0
 gain : ∀ v ∈ ws, 0 ≤ net G f v
theorem Stream.none {V : List Str} {G : List Gap} (h : Gaps V G) (ws : List Str) {f : Fl} (hf : ∀ g ∈ G, f g.nm = 0) : Stream V G ws f := by
 have z : ∀ v, net G f v = 0 := fun v => jU fun g m => by
  unfold zM
  rw [hf g m]
  simp
 refine ⟨fun g m => ?_, fun v _ _ _ => z v, fun v _ => by rw [z v]; exact Int.le_refl _⟩
 have := h.cap g m
 rw [hf g m]
 omega
theorem Stream.more {V : List Str} {G : List Gap} (h : Gaps V G) {ws : List Str} {f : Fl} (st : Stream V G ws f) {S ss : List Mt22.St} {z : Str} (c : Chain S ss z) (hS : ∀ s ∈ S, s ∈ stepsOf G) {m : Int} (m0 : 0 ≤ m) (hr : ∀ s ∈ ss, m ≤ room G f s) (mz : z ∈ ws) (ns : Mt22.sea ∉ ws) :
  Stream V G ws (ss.foldl (jS m) f) ∧ val G (ss.foldl (jS m) f) = val G f + m := by
 have zs : z ≠ Mt22.sea := fun e => ns (e ▸ mz)
 refine ⟨⟨aBS h c hS m0 st.fits hr, fun v mv hv hw => ?_, fun v mv => ?_⟩, ?_⟩
 ·rw [pV h c hS, st.zero v mv hv hw, if_neg (show ¬ z = v from fun e => hw (e ▸ mz)), if_neg (show ¬ Mt22.sea = v from fun e => hv e.symm)]
  rfl
 ·rw [pV h c hS, if_neg (show ¬ Mt22.sea = v from fun e => ns (e ▸ mv))]
  have := st.gain v mv
  split <;> omega
 ·unfold val
  rw [pV h c hS, if_neg zs, if_pos rfl]
  omega
def yP (G : List Gap) : Int := sm G (·.cap)
theorem aDW {V : List Str} {G : List Gap} (h : Gaps V G) {f : Fl} (hf : aCB G f) : val G f ≤ yP G := by
 unfold val net yP
 have : sm G (zM f Mt22.sea) ≥ sm G (fun g => 0 - g.cap) := yY fun g m => by
  obtain ⟨f1, f2⟩ := hf g m
  obtain ⟨_, _, ne⟩ := h.ends g m
  have := h.cap g m
  unfold zM
  by_cases e1 : g.b = Mt22.sea <;> by_cases e2 : g.a = Mt22.sea
  ·exact absurd (e2.trans e1.symm) ne
  ·rw [if_pos e1, if_neg e2]; omega
  ·rw [if_neg e1, if_pos e2]; omega
  ·rw [if_neg e1, if_neg e2]; omega
 rw [aAW, jU (f := fun _ => (0 : Int)) (fun _ _ => rfl)] at this
 have e : (sm G fun x => x.cap) = sm G Gap.cap := rfl
 omega
structure Round (G : List Gap) (f : Fl) (ws R B : List Str) : Prop where
 sea : Mt22.sea ∈ R
 closed : ∀ s ∈ stepsOf G, 0 < room G f s → s.near ∈ R → s.far ∈ R
 wout : ∀ z ∈ ws, z ∉ R
 win : ∀ z ∈ ws, z ∈ B
 bout : ∀ z ∈ B, z ∉ R
 bclosed : ∀ s ∈ stepsOf G, s.far ∉ R → s.near ∈ B → s.far ∈ B
instance memStr (z : Str) (l : List Str) : Decidable (z ∈ l) := inferInstance
def inB (B : List Str) : Str → Bool := fun z => decide (z ∈ B)
theorem oG {V : List Str} {G : List Gap} (h : Gaps V G) {f : Fl} (hf : aCB G f) {ws R B : List Str} (r : Round G f ws R B) {g : Gap} (m : g ∈ G) :
  (g.a ∉ B → g.b ∈ B → g.a ∈ R ∧ f g.nm = g.cap) ∧ (g.a ∈ B → g.b ∉ B → g.b ∈ R ∧ f g.nm = -g.cap) := by
 obtain ⟨f1, f2⟩ := hf g m
 have mu : up g ∈ stepsOf G := iZ.mpr ⟨g, m, .inl rfl⟩
 have md : dn g ∈ stepsOf G := iZ.mpr ⟨g, m, .inr rfl⟩
 refine ⟨fun ha hb => ?_, fun ha hb => ?_⟩
 ·have aR : g.a ∈ R := Classical.byContradiction fun n => ha (r.bclosed _ md n hb)
  refine ⟨aR, ?_⟩
  have : ¬ 0 < room G f (up g) := fun q => r.bout _ hb (r.closed _ mu q aR)
  rw [aCV h m] at this
  omega
 ·have bR : g.b ∈ R := Classical.byContradiction fun n => hb (r.bclosed _ mu n ha)
  refine ⟨bR, ?_⟩
  have : ¬ 0 < room G f (dn g) := fun q => r.bout _ ha (r.closed _ md q bR)
  rw [aCW h m] at this
  omega
theorem vH {V : List Str} {G : List Gap} (h : Gaps V G) {f : Fl} {ws R B : List Str} (st : Stream V G ws f) (r : Round G f ws R B) : val G f = cut G (inB B) := by
 have sB : Mt22.sea ∉ B := fun m => r.bout _ m r.sea
 refine aKM h (decide_eq_false sB) (fun v mv hv hX => ?_) (fun g m ha hb => ?_) (fun g m ha hb => ?_)
 ·exact st.zero v mv hv fun w => (of_decide_eq_false hX) (r.win v w)
 ·exact ((oG h st.fits r m).1 (of_decide_eq_false ha) (of_decide_eq_true hb)).2
 ·exact ((oG h st.fits r m).2 (of_decide_eq_true ha) (of_decide_eq_false hb)).2
def eN (G : List Gap) (R B : List Str) : List Mt22.St := (stepsOf G).filter fun s => decide (s.near ∈ R) && decide (s.far ∈ B)
theorem aBA {V : List Str} {G : List Gap} (h : Gaps V G) {f : Fl} {ws R B : List Str} (st : Stream V G ws f) (r : Round G f ws R B) : sm (eN G R B) (fun s => pG G s.nm) = val G f := by
 rw [vH h st r]
 unfold eN cut stepsOf
 rw [kJ]
 have key : ∀ G' : List Gap, (∀ g ∈ G', g ∈ G) → sm (G'.flatMap fun g => [up g, dn g]) (fun s => if (decide (s.near ∈ R) && decide (s.far ∈ B)) = true then pG G s.nm else 0) = sm G' (lR (inB B)) := by
  intro G'
  induction G' with
  | nil => intro _; rfl
  | cons g G' ih =>
   intro sub
   have m := sub g List.mem_cons_self
   rw [List.flatMap_cons, aGD, ih fun x mx => sub x (List.mem_cons_of_mem _ mx), bU g]
   congr 1
   rw [bU, bU, wZ]
   show (if (decide (g.a ∈ R) && decide (g.b ∈ B)) = true then pG G g.nm else 0) + ((if (decide (g.b ∈ R) && decide (g.a ∈ B)) = true then pG G g.nm else 0) + 0) = (if decide (g.a ∈ B) = decide (g.b ∈ B) then 0 else g.cap)
   rw [mZ h m]
   obtain ⟨e1, e2⟩ := oG h st.fits r m
   by_cases ha : g.a ∈ B <;> by_cases hb : g.b ∈ B
   ·have := r.bout _ ha
    have := r.bout _ hb
    simp [*]
   ·have := r.bout _ ha
    have := (e2 ha hb).1
    simp [*]
   ·have := r.bout _ hb
    have := (e1 ha hb).1
    simp [*]
   ·simp [*]
 exact key G fun g m => m
def Least (G : List Gap) (ws : List Str) (c : Int) : Prop := (∃ X : Str → Bool, X Mt22.sea = false ∧ (∀ z ∈ ws, X z = true) ∧ cut G X = c) ∧ ∀ X : Str → Bool, X Mt22.sea = false → (∀ z ∈ ws, X z = true) → c ≤ cut G X
theorem qK {V : List Str} {G : List Gap} (h : Gaps V G) {f : Fl} {ws R B : List Str} (st : Stream V G ws f) (r : Round G f ws R B) : Least G ws (val G f) := by
 refine ⟨⟨inB B, decide_eq_false fun m => r.bout _ m r.sea, fun z m => decide_eq_true (r.win z m), (vH h st r).symm⟩, fun X hs hw => ?_⟩
 refine aKL h st.fits hs fun v mv hv hX => st.zero v mv hv fun w => ?_
 rw [hw v w] at hX
 cases hX
theorem Least.uniq {G : List Gap} {ws : List Str} {c d : Int} (h : Least G ws c) (h' : Least G ws d) : c = d := by
 obtain ⟨⟨X, s, w, e⟩, a⟩ := h
 obtain ⟨⟨X', s', w', e'⟩, a'⟩ := h'
 have := a X' s' w'
 have := a' X s w
 omega
end Mt61
namespace Mt61
open PySem L2 Mt22 Mt31
structure CameG (zs : List Str) (S : List Mt22.St) (cm : Cm) : Prop where
 nd : (keys cm).Nodup
 le : zs.length ≤ cm.length
 first : ∀ (i : Nat) (z : Str), zs[i]? = some z → cm[i]? = some (z, none)
 prev : ∀ (i : Nat) (z : Str) (o : Option Mt22.St), zs.length ≤ i → cm[i]? = some (z, o) → ∃ s, o = some s ∧ s ∈ S ∧ s.far = z ∧ s.near ∈ keys (cm.take i)
theorem CameG.snoc {zs : List Str} {S : List Mt22.St} {cm : Cm} (h : CameG zs S cm) {s : Mt22.St} (ms : s ∈ S) (hn : s.near ∈ keys cm) (hf : s.far ∉ keys cm) : CameG zs S (cm ++ [(s.far, some s)]) where
 nd := by
  rw [kT, List.nodup_append]
  refine ⟨h.nd, by simp [keys], fun a ha b hb => ?_⟩
  have : b = s.far := by simpa [keys] using hb
  rw [this]
  exact fun e => hf (e ▸ ha)
 le := by
  rw [List.length_append]
  have := h.le
  omega
 first i z e := by
  have := (List.getElem?_eq_some_iff.mp e).1
  have := h.le
  rw [List.getElem?_append_left (by omega)]
  exact h.first i z e
 prev i z o hi e := by
  by_cases hl : i < cm.length
  ·rw [List.getElem?_append_left hl] at e
   obtain ⟨t, h1, h2, h3, h4⟩ := h.prev i z o hi e
   exact ⟨t, h1, h2, h3, by rw [List.take_append_of_le_length (Nat.le_of_lt hl)]; exact h4⟩
  ·have hlen := (List.getElem?_eq_some_iff.mp e).1
   rw [List.length_append] at hlen
   have hi' : i = cm.length := by
    have : ([(s.far, some s)] : Cm).length = 1 := rfl
    omega
   subst hi'
   rw [List.getElem?_append_right (Nat.le_refl _), Nat.sub_self] at e
   cases e
   refine ⟨s, rfl, ms, rfl, ?_⟩
   rw [List.take_append_of_le_length (Nat.le_refl _), List.take_of_length_le (Nat.le_refl _)]
   exact hn
theorem CameG.init {zs : List Str} (S : List Mt22.St) (nd : zs.Nodup) : CameG zs S (zs.map fun z => (z, none)) where
 nd := by
  have : keys (zs.map fun z => ((z, none) : Str × Option Mt22.St)) = zs := by unfold keys; rw [List.map_map]; exact List.map_id _
  rw [this]
  exact nd
 le := by rw [List.length_map]; exact Nat.le_refl _
 first i z e := by rw [List.getElem?_map, e]; rfl
 prev i z o hi e := by
  have := (List.getElem?_eq_some_iff.mp e).1
  rw [List.length_map] at this
  omega
theorem CameG.came {S : List Mt22.St} {cm : Cm} (h : CameG [Mt22.sea] S cm) : Came S cm := ⟨h.nd, h.first 0 _ rfl, fun i z o hi e => h.prev i z o (by show 1 ≤ i; omega) e⟩
theorem CameG.mem {zs : List Str} {S : List Mt22.St} {cm : Cm} (h : CameG zs S cm) {z : Str} (m : z ∈ keys cm) : z ∈ zs ∨ ∃ s ∈ S, s.far = z := by
 unfold keys at m
 obtain ⟨x, mx, rfl⟩ := List.mem_map.mp m
 obtain ⟨i, hi⟩ := List.mem_iff_getElem?.mp mx
 by_cases hl : i < zs.length
 ·obtain ⟨z, ez⟩ : ∃ z, zs[i]? = some z := ⟨_, List.getElem?_eq_getElem hl⟩
  have := h.first i z ez
  rw [hi] at this
  cases this
  exact .inl (List.mem_of_getElem? ez)
 ·obtain ⟨s, _, ms, e, _⟩ := h.prev i x.1 x.2 (by omega) hi
  exact .inr ⟨s, ms, e⟩
theorem CameG.start {zs : List Str} {S : List Mt22.St} {cm : Cm} (h : CameG zs S cm) {z : Str} (m : z ∈ zs) : z ∈ keys cm := by
 obtain ⟨i, hi⟩ := List.mem_iff_getElem?.mp m
 exact List.mem_map.mpr ⟨_, List.mem_of_getElem? (h.first i z hi), rfl⟩
theorem mL {S : List Mt22.St} {cm : Cm} (c : rH S cm cm.length) : ∀ s ∈ S, s.near ∈ keys cm → s.far ∈ keys cm := fun s ms hn => by
 obtain ⟨i, hi⟩ := List.mem_iff_getElem?.mp hn
 have hl := (List.getElem?_eq_some_iff.mp hi).1
 unfold keys at hl
 rw [List.length_map] at hl
 exact c i _ hl hi s ms rfl
end Mt61
namespace Mt05
open PySem L2 Ld Mt02
def noS (z : Str) : Prop := ¬ (115 : Nat) ∈ z.cps.toList
structure NamesS (zs : List Str) (n : Nat) : Prop where
 nm : Names zs n
 nos : ∀ z ∈ zs, noS z
end Mt05
namespace L2
open PySem PySem.Spec PyProof.Rows
theorem wD : bootBuiltins "sum" = some (.builtin "sum") := by decide +kernel
theorem aHJ {ns : List Int} {us : List Value} (h : IntsAre us ns) : us.length = ns.length ∧ ∀ (i : Nat) (v : Value), us[i]? = some v → ∃ t, v = .int (ns.getD i 0) t := by
 induction h with
 | nil => exact ⟨rfl, fun i v e => by cases e⟩
 | cons n t r ih =>
  refine ⟨by rw [List.length_cons, List.length_cons, ih.1], fun i v e => ?_⟩
  cases i with
  | zero => cases e; exact ⟨t, rfl⟩
  | succ i => exact ih.2 i v e
theorem qL (ns : List Int) : ∀ n, n ≤ ns.length → preSum (fun i => ns.getD i 0) n = (ns.take n).sum
 | 0, _ => by rw [List.take_zero]; rfl
 | n + 1, h => by
  have ih := qL ns n (by omega)
  have e : ns.take (n + 1) = ns.take n ++ [ns.getD n 0] := by
   rw [List.take_add_one, List.getElem?_eq_getElem (by omega), List.getD_eq_getElem?_getD, List.getElem?_eq_getElem (by omega)]
   rfl
  rw [e, List.sum_append, ← ih]
  show preSum _ n + ns.getD n 0 = _
  simp
section
variable {X : Cx}
theorem aAF (hc : X.calm = true) : gO X (.builtin "sum") (fun xs H Q => ∃ (p : Addr) (ns : List Int), xs = [.ref p] ∧ SqL X.K H p (ns.map V.int) ∧ Q (.int ns.sum) H) := by
 intro pins s σ H xs us Q I r h
 obtain ⟨p, ns, rfl, hq, q⟩ := h
 obtain ⟨u, rfl, ru⟩ := bL.one r
 cases ru
 obtain ⟨its, rv, pl, hz⟩ := I.list hq
 have hb := aHJ (tS rv)
 have hl := pl.isList
 have hlt : p < s.heap.objs.size := by obtain ⟨_, e, _⟩ := hl; exact Heap.lt_size e
 refine call_sum_walkG (wpAny_pyIter_list hl ?_)
 refine ⟨s.heap.objs.size, [s.heap.objs.size, p], [s.heap.objs.size], its.toArray.size, _, _, fun i => ns.getD i 0, rfl, Walks.list (A := X.A.in1) (I.ok.hd hc) _ p (Nat.ne_of_lt hlt) its.toArray,
  ⟨⟨_, Heap.get?_push_size _ rfl, rfl, rfl⟩, hl.push _⟩, fun b hb' => ?_, fun i v hP => hb.2 i v (by simpa using hP), fun h' tk t' hk => ?_⟩
 ·simp only [List.mem_cons, List.not_mem_nil, or_false] at hb'
  show b < (s.heap.push _).objs.size
  rw [show (s.heap.push _).objs.size = s.heap.objs.size + 1 from Array.size_push ..]
  rcases hb' with e | e
  ·rw [e]; exact Nat.lt_succ_self _
  ·rw [e]; exact Nat.lt_succ_of_lt hlt
 ·have e : preSum (fun i => ns.getD i 0) its.toArray.size = ns.sum := by
   rw [qL _ _ (by rw [List.size_toArray]; omega), List.take_of_length_le (by rw [List.size_toArray]; omega)]
  rw [e]
  exact ⟨.int _, H, I.kept (LSm.kept_iter hk), ⟨_, rfl⟩, q⟩
end
end L2
namespace Mt53
open PySem L2 Ld Mt02 Mt04
def aGL : Dv → Int
 | .tup [_, _, _, _, .int r, _] => r
 | _ => 0
def sO (ds : List Dv) (z : Str) : Int := (ds.find? fun d => decide (aL d = z)).elim 0 aGL
theorem aCX {ds : List Dv} (nd : (ds.map aL).Nodup) {d : Dv} (m : d ∈ ds) : sO ds (aL d) = aGL d := by
 have : (ds.find? fun e => decide (aL e = aL d)) = some d := by
  induction ds with
  | nil => cases m
  | cons e ds ih =>
   rw [List.map_cons, List.nodup_cons] at nd
   rw [List.find?_cons]
   rcases List.mem_cons.mp m with rfl | m
   ·rw [decide_eq_true rfl]
   ·have hne : aL e ≠ aL d := fun c => nd.1 (c ▸ List.mem_map.mpr ⟨d, m, rfl⟩)
    rw [decide_eq_false hne]
    exact ih nd.2 m
 show (ds.find? fun e => decide (aL e = aL d)).elim 0 aGL = _
 rw [this]
 rfl
def aAB (ds : List Dv) (w : Dv) : Int := sO ds (aL w) * (hOf w - gL ds (aL w))
def yC (ds ws : List Dv) : Int := (ws.map (aAB ds)).sum
end Mt53
namespace L2
open PySem PySem.Spec PyProof.Rows
section
variable {X : Cx}
end
def yJ (nt : Nat) (u : TGs) : Prop := ∀ vs σ H Q, u vs σ H Q → u vs σ H fun σ2 H2 => Q σ2 H2 ∧ σ2.length = σ.length ∧ ∀ i, nt ≤ i → σ2[i]? = σ[i]?
theorem tT {nt : Nat} : yJ nt aNG := fun vs σ H Q ⟨e, q⟩ => ⟨e, q, rfl, fun _ _ => rfl⟩
theorem fX {nt i : Nat} {u : TGs} (h : i < nt) (hu : yJ nt u) : yJ nt (aKH (zU i) u) := fun vs σ H Q ⟨v, r, e, q⟩ => by
 have q' := hu r (σ.set i (some v)) H Q q
 have ef : (fun (σ2 : St) (H2 : Hp) => Q σ2 H2 ∧ σ2.length = (σ.set i (some v)).length ∧ ∀ j, nt ≤ j → σ2[j]? = (σ.set i (some v))[j]?) = (fun (σ2 : St) (H2 : Hp) => Q σ2 H2 ∧ σ2.length = σ.length ∧ ∀ j, nt ≤ j → σ2[j]? = σ[j]?) := by
  funext σ2 H2
  rw [List.length_set]
  have : (∀ j, nt ≤ j → σ2[j]? = (σ.set i (some v))[j]?) = (∀ j, nt ≤ j → σ2[j]? = σ[j]?) := by
   refine propext ⟨fun h1 j hj => ?_, fun h1 j hj => ?_⟩
   ·rw [h1 j hj, List.getElem?_set_ne (by omega)]
   ·rw [h1 j hj, List.getElem?_set_ne (by omega)]
  rw [this]
 rw [ef] at q'
 exact ⟨v, r, e, q'⟩
theorem vY {nt n : Nat} {K : PySem.W.Frag} {u : TGs} (hu : yJ nt u) : aAM nt (aLM K n u) := fun x σ H Q ⟨a, xs, e, hq, hl, q⟩ => ⟨a, xs, e, hq, hl, hu xs σ H Q q⟩
theorem aDA {X : Cx} {pos : Pos} {es : List Expr} {k : Nat} {t : TGs} {n : Nat} {K : PySem.W.Frag} (e : X.K = K) (hc : X.calm = true) (h : PGs X es t)
  (hn : (assignEach es X.env).length = n := by rfl) (hst : (assignEach es X.env).findIdx? (·.1) = none := by rfl) : PG X (.Tuple es k pos) (aLM K n t) := by subst e; exact pN hc h hn hst
end L2
namespace L2
open PySem PySem.Spec PyProof.Rows
theorem aHL {prog : Program} {w : World} {A : Around} {E : Value → Shared → Prop} {s : Shared} {r : Addr} {Q : Bool → Shared → Prop} (hT : s.TypeIs (.ref r) "list_reverseiterator") (h : Q false s) :
  wpAny (model prog w) A (Builtin.List.listLengthHint (.ref r)) Q E s := by
 unfold Builtin.List.listLengthHint
 refine wpAny_bind (wpAny_specialOf hT (r := none) (by rfl) ?_)
 dsimp only
 rw [if_neg (by decide), if_neg (by decide)]
 refine wpAny_bind (wpAny_specialOf hT (r := some (.builtin "list_reverseiterator.__length_hint__")) (by rfl) ?_)
 dsimp only
 rw [show splitId "list_reverseiterator.__length_hint__" = some ("list_reverseiterator", "__length_hint__") from by decide +kernel]
 dsimp only
 refine wpAny_bind (wpAny_isInstance hT (b := true) (by rfl) ?_)
 rw [if_neg (by decide), if_pos (by decide +kernel), if_neg (by decide +kernel)]
 exact wpAny_pure h
theorem aBU {prog : Program} {w : World} {A : Around} {s : Shared} {R : Result → Shared → Prop} {I l : Addr} {items : Array Value} (hh : A.handled = none) (hI : s.heap.IsRevIter I l ((items.size : Int) - 1)) (hl : s.heap.IsList l items) (hne : l ≠ I) (hn : items.size ≤ sizeLine)
  (S : Addr) (hSI : S ≠ I) (hSl : S ≠ l) (res : Value) (c₀ : Nat) (hS : s.heap.get? S = some { cls := .type "list", data := .seq #[] c₀ })
  (hR : ∀ (h' : Heap) (tk : Nat) (acc' : Array Value) (c' : Nat), (∀ (b : Addr) (o : Obj), b ≠ S → b ≠ I → s.heap.get? b = some o → h'.get? b = some o) → h'.get? S = some { cls := .type "list", data := .seq acc' c' } → ItemsOf (fun i v => items[items.size - 1 - i]? = some v) acc' items.size → R (.ok (.ret res)) { s with heap := h', toks := tk }) :
  wpAny (model prog w) A.in1 (Builtin.List.listExtendWith (.ref S) (.ref I) res) (fun fin s' => match fin with | .done f => R (.ok f) s' | .again c' => c'.quiet = true ∧ codeAny (model prog w) A c' R s') (fun e s' => R (.error e) s') s := by
 have hT : s.TypeIs (.ref I) "list_reverseiterator" := hI.typeIs
 have hSf : ¬ S ∈ [I, l] := by simp [hSI, hSl]
 have W := Walks.listRev (prog := prog) (w := w) (A := A.in1) hh I l hne items
 have key : ∀ (h : Heap) (c₁ : Nat) (tk : Nat), (∀ (b : Addr) (o : Obj), b ≠ S → s.heap.get? b = some o → h.get? b = some o) → h.get? S = some { cls := .type "list", data := .seq #[] c₁ } →
   codeAny (model prog w) A (.builtin "list.extend.loop" { pos := [.ref S, .ref I, res] }) R { s with heap := h, toks := tk } := fun h c₁ tk hk hS₁ => by
  refine codeAny_extend_loopS W.toS hn S hSf res items.size 0 { s with heap := h, toks := tk } #[] c₁ rfl (Nat.zero_le _) ?_ hS₁ (ItemsOf.nil _) fun s' acc' c' hm hS' hacc => ?_
  ·refine ⟨Nat.zero_le _, ?_, ?_⟩
   ·have : ((items.size : Int) - 1 - ((0 : Nat) : Int)) = (items.size : Int) - 1 := by omega
    rw [this]
    obtain ⟨o, ho, r⟩ := hI
    exact ⟨o, hk _ _ (Ne.symm hSI) ho, r⟩
   ·obtain ⟨o, ho, r⟩ := hl
    exact ⟨o, hk _ _ (Ne.symm hSl) ho, r⟩
  ·rw [Moved.eq_with hm]
   refine hR s'.heap s'.toks acc' c' (fun b o h1 h2 e => hm.heap b o (fun hmem => ?_) (hk b o h1 e)) hS' hacc
   rcases List.mem_cons.mp hmem with e' | hmem
   ·exact h1 e'
   ·exact h2 (List.mem_singleton.mp hmem)
 unfold Builtin.List.listExtendWith
 refine wpAny_bind (wpAny_typeOf hT ?_)
 have e0 : Builtin.List.listSameRef (.ref S) (.ref I) = false := by
  show (S == I) = false
  exact beq_eq_false_iff_ne.mpr hSI
 rw [e0, if_neg (by decide +kernel)]
 refine wpAny_bind (wpAny_pyIter_revIter hI ?_)
 refine wpAny_bind (wpAny_holding (aHL hT ?_))
 have e0 : s = { s with heap := s.heap, toks := s.toks } := rfl
 refine wpAny_ite_split (fun _ => ?_) (fun _ => ?_)
 ·refine wpAny_bind (wpAny_rule (wpAny_bind ?_))
  unfold Builtin.List.listTouch
  refine wpAny_bind (wpAny_updateSeq hS rfl ?_)
  have hS₂ := Heap.get?_update_self (Obj.mapSeq fun x => x.push Value.none) hS rfl
  refine wpAny_updateSeq hS₂ rfl ?_
  have hS₃ := Heap.get?_update_self (Obj.mapSeq fun x => x.pop) hS₂ rfl
  refine wpAny_pure ⟨plainId_quiet F.plain_extend_loop _, key _ _ _ (fun b o hb e => ?_) hS₃⟩
  rw [Heap.get?_update_other _ _ (Ne.symm hb), Heap.get?_update_other _ _ (Ne.symm hb)]
  exact e
 ·exact wpAny_pure ⟨plainId_quiet F.plain_extend_loop _, key s.heap c₀ s.toks (fun b o _ e => e) hS⟩
theorem aHK {prog : Program} {w : World} {A : Around} {s : Shared} {R : Result → Shared → Prop} {I l : Addr} {items : Array Value} (hh : A.handled = none) (hI : s.heap.IsRevIter I l ((items.size : Int) - 1)) (hl : s.heap.IsList l items) (hne : l ≠ I) (hn : items.size ≤ sizeLine)
  (S : Addr) (hSI : S ≠ I) (hSl : S ≠ l) (hS : s.heap.get? S = some { cls := .type "list", data := .seq #[] })
  (hR : ∀ (h' : Heap) (tk : Nat) (acc' : Array Value) (c' : Nat), (∀ (b : Addr) (o : Obj), b ≠ S → b ≠ I → s.heap.get? b = some o → h'.get? b = some o) → h'.get? S = some { cls := .type "list", data := .seq acc' c' } → ItemsOf (fun i v => items[items.size - 1 - i]? = some v) acc' items.size → R (.ok (.ret .none)) { s with heap := h', toks := tk }) :
  wpAny (model prog w) A.in1 (Builtin.«list.__init__» { pos := [.ref S, .ref I] }) (fun fin s' => match fin with | .done f => R (.ok f) s' | .again c' => c'.quiet = true ∧ codeAny (model prog w) A c' R s') (fun e s' => R (.error e) s') s := by
 refine wpAny_bind (wpAny_bind (wpAny_seqItems hS rfl (wpAny_pure ?_)))
 refine wpAny_bind (wpAny_updateSeq hS rfl ?_)
 have hS₂ := Heap.get?_update_self (Obj.mapSeq fun x => #[]) hS rfl
 have oth : ∀ (b : Addr) (o : Obj), b ≠ S → s.heap.get? b = some o → (s.heap.update S (Obj.mapSeq fun x => #[])).get? b = some o := fun b o hb e => (Heap.get?_update_other s.heap (Obj.mapSeq fun x => #[]) (Ne.symm hb)).trans e
 refine wpAny_bind (wpAny_letGo ?_)
 refine aBU hh ?_ ?_ hne hn S hSI hSl .none _ hS₂ fun h' tk acc' c' hk hS' hacc => hR h' tk acc' c' (fun b o h1 h2 e => hk b o h1 h2 (oth b o h1 e)) hS' hacc
 ·obtain ⟨o, ho, r⟩ := hI
  exact ⟨o, oth _ _ (Ne.symm hSI) ho, r⟩
 ·obtain ⟨o, ho, r⟩ := hl
  exact ⟨o, oth _ _ (Ne.symm hSl) ho, r⟩
theorem zQ {prog : Program} {w : World} {A : Around} {E : Value → Shared → Prop} {s : Shared} {Q : Value → Shared → Prop} {I l : Addr} {items : Array Value} (hh : A.handled = none) (hI : s.heap.IsRevIter I l ((items.size : Int) - 1)) (hl : s.heap.IsList l items) (hne : l ≠ I) (hn : items.size ≤ sizeLine)
  (hQ : ∀ (h' : Heap) (tk : Nat) (acc' : Array Value) (c' : Nat), (∀ (b : Addr) (o : Obj), b ≠ I → s.heap.get? b = some o → h'.get? b = some o) → h'.get? s.heap.objs.size = some { cls := .type "list", data := .seq acc' c' } → ItemsOf (fun i v => items[items.size - 1 - i]? = some v) acc' items.size → Q (.ref s.heap.objs.size) { s with heap := h', toks := tk }) :
  wpAny (model prog w) A (call (.type "list") [.ref I]) Q E s := by
 have lI : I < s.heap.objs.size := by obtain ⟨_, e, _⟩ := hI; exact Heap.lt_size e
 have ll : l < s.heap.objs.size := by obtain ⟨_, e, _⟩ := hl; exact Heap.lt_size e
 refine callType_codes F.called_list (F.typeCall_list_1 (.ref I)) F.entry_list_init (code_list_new (.ref I) (Q₁ := fun o s₁ => o = .ref s.heap.objs.size ∧ s₁ = { s with heap := s.heap.push { cls := .type "list", data := .seq #[] } }) ⟨rfl, rfl⟩) fun obj s₁ h₁ => ?_
 obtain ⟨rfl, rfl⟩ := h₁
 have hS := Heap.get?_push_size (o := { cls := Value.type "list", data := Data.seq #[] }) s.heap rfl
 refine ⟨⟨_, hS, rfl⟩, F.args_list_init_2 _ _, ?_⟩
 refine aHK (A := A.in1) hh ?_ ?_ hne hn s.heap.objs.size (Ne.symm (Nat.ne_of_lt lI)) (Ne.symm (Nat.ne_of_lt ll)) hS fun h' tk acc' c' hk hS' hacc => ⟨rfl, ?_⟩
 ·obtain ⟨o, ho, r⟩ := hI
  exact ⟨o, Heap.get?_push_of_some _ ho, r⟩
 ·obtain ⟨o, ho, r⟩ := hl
  exact ⟨o, Heap.get?_push_of_some _ ho, r⟩
 ·exact hQ h' tk acc' c' (fun b o h1 e => hk b o (Nat.ne_of_lt (Heap.lt_size e)) h1 (Heap.get?_push_of_some _ e)) hS' hacc
theorem uH : bootBuiltins "reversed" = some (.type "reversed") := by decide +kernel
section
variable {X : Cx} {e : Expr} {t : TA} {p1 p2 : Pos} {pos1 pos2 : Pos}
def aMK (K : PySem.W.Frag) : List V → Hp → VK → Prop := fun xs H Q => ∃ p ys, xs = [.ref p] ∧ SqL K H p ys ∧ ∀ l, H l = none → Q (.ref l) (upd H l (.lst ys.reverse))
theorem sQ (hc : X.calm = true) (hg1 : Gl X "list") (hm1 : X.mg "list" = none) (hg2 : Gl X "reversed") (hm2 : X.mg "reversed" = none) (ha : PA X [e] t)
  (he1 : starEach [e] X.env = (false, eval e X.env) :: starEach [] X.env := by rfl)
  (he2 : starEach [.Call (.Name "reversed" p2) [e] [] pos2] X.env = (false, eval (.Call (.Name "reversed" p2) [e] [] pos2) X.env) :: starEach [] X.env := by rfl) :
  PE X (.Call (.Name "list" p1) [.Call (.Name "reversed" p2) [e] [] pos2] [] pos1) (tCB (aMK X.K) t) := by
 intro pins s σ H Q I h
 refine wpAny_Call_Name_kw (pX I hg1 hm1 dA ?_ (by decide) (by decide))
 refine PyProof.Rows.callWith_type1 ?_ he2 rfl
 rw [he2]
 show wpAny _ _ (spliced ((false, eval _ X.env) :: backTo pos1 (starEach [] X.env))) _ _ s
 refine Calls.spliced_cons ?_
 refine wpAny_Call_Name_kw (pX I hg2 hm2 uH ?_ (by decide) (by decide))
 refine PyProof.Rows.callWith_type1 (thn (ha pos2 pins s σ H _ I h) fun us s1 ⟨vs, H1, I1, r1, q1⟩ => ?_) he1 rfl
 obtain ⟨p, ys, rfl, hq, q⟩ := q1
 obtain ⟨u, rfl, ru⟩ := bL.one r1
 cases ru
 obtain ⟨its, rv, pl, hz⟩ := I1.list hq
 have hl := pl.isList
 have hlt : p < s1.heap.objs.size := by obtain ⟨_, e, _⟩ := hl; exact Heap.lt_size e
 refine call_reversed_list hl ?_
 refine Calls.spliced_nil ?_
 refine zQ (l := p) (items := its.toArray) (I.ok.hd hc) ⟨_, Heap.get?_push_size _ rfl, rfl, rfl⟩ ?_ (Nat.ne_of_lt hlt) (by rw [List.size_toArray, ← rv.length]; exact hz) fun h' tk acc c hk hg hi => ?_
 ·obtain ⟨o, ho, r⟩ := hl
  exact ⟨o, Heap.get?_push_of_some _ ho, r⟩
 have hk' : ∀ (b : Addr) (o : Obj), s1.heap.get? b = some o → h'.get? b = some o := fun b o e => hk b o (Nat.ne_of_lt (Heap.lt_size e)) (Heap.get?_push_of_some _ e)
 have hge : s1.heap.objs.size ≤ (s1.heap.push (revObj p ((its.toArray.size : Int) - 1))).objs.size := by
  rw [show (s1.heap.push (revObj p ((its.toArray.size : Int) - 1))).objs.size = s1.heap.objs.size + 1 from Array.size_push ..]
  exact Nat.le_succ _
 refine ⟨.ref _, _, I1.laid (t' := tk) hk' hge (show cJ X.prog X.w _ h' _ (.lst ys.reverse) from ⟨by rw [List.length_reverse]; exact hz, acc.toList, c, ?_, by simpa using hg⟩), rfl, q _ (I1.hok.fresh hge)⟩
 have hlen := rv.length
 have e0 : acc.size = its.length := by rw [hi.1, List.size_toArray]
 refine rK (by rw [List.length_reverse, Array.length_toList, e0, hlen]) fun j u x e1 e2 => ?_
 have e3 := hi.2 j u (by rw [← Array.getElem?_toList]; exact e1)
 have hj : j < ys.length := by
  have := (List.getElem?_eq_some_iff.mp e2).1
  rw [List.length_reverse] at this
  exact this
 rw [List.getElem?_reverse hj] at e2
 have e4 : its[ys.length - 1 - j]? = some u := by
  have : its.toArray[its.toArray.size - 1 - j]? = some u := e3
  rw [List.size_toArray] at this
  rw [hlen]
  simpa using this
 obtain ⟨u', e5, r5⟩ := rv.get e2
 rw [e4] at e5
 cases e5
 exact r5
end
end L2
namespace L2
open PySem PySem.Spec PyProof.Rows
theorem rV : ∀ {ys : List Str} {us : List Value}, bL (ys.map V.str) us → StrsAre us ys
 | [], us, r => by
  rw [List.map_nil] at r
  cases r
  exact .nil
 | b :: bs, us, r => by
  rw [List.map_cons] at r
  cases r with
  | cons r1 r2 =>
   obtain ⟨t, rfl⟩ := r1
   exact .cons b t (rV r2)
section
variable {X : Cx}
theorem aJF : MtR X "str.join" (fun x vs H Q => ∃ z p ys, x = .str z ∧ vs = [.ref p] ∧ SqL X.K H p (ys.map V.str) ∧ (ys.map fun y => y.length).sum + ys.length * z.length ≤ 16777216 ∧ Q (.str (Txt.join z ys)) H) := by
 intro pins s σ H x xs v us Q I rx r h
 obtain ⟨z, p, ys, rfl, rfl, hq, hz, q⟩ := h
 obtain ⟨t, rfl⟩ := rx
 obtain ⟨u, rfl, ru⟩ := bL.one r
 cases ru
 obtain ⟨its, rv, pl, hl⟩ := I.list hq
 exact join_list pl.isList (rV rv) hz fun t' k => ⟨.str _, H, I.tok k, ⟨_, rfl⟩, q⟩
end
end L2
namespace L2
open PySem PySem.Spec PyProof.Rows
section
variable {X : Cx}
def tL (K : PySem.W.Frag) (t : TE) : TT := fun σ H Q => t σ H fun x H1 => ∃ p xs, x = .ref p ∧ SqL K H1 p xs ∧ Q (!xs.isEmpty) H1
theorem aBB {e : Expr} {t : TE} (h : PE X e t) (he : ∀ whole, isTrue e X.env whole = (do let v ← whole; standAt e.pos; holding [v] (truthy v)) := by intro _; rfl) : PT X e (tL X.K t) := by
 intro pins s σ H Q I hw
 refine isTrue_plain (thn (h pins s σ H _ I hw) fun v s1 ⟨x, H1, I1, r1, q1⟩ => ?_) (he _)
 obtain ⟨p, xs, rfl, hq, q⟩ := q1
 cases r1
 obtain ⟨its, rv, pl, hz⟩ := I1.list hq
 have hlen := rv.length
 refine wpAny_truthy_list pl.isList ?_ ?_
 ·have : (sizeLine : Nat) < 2 ^ 63 := by decide
  rw [List.size_toArray]
  omega
 ·have e : its.toArray.isEmpty = xs.isEmpty := by
   cases xs with
   | nil => cases rv; rfl
   | cons x r => cases rv; rfl
  rw [e]
  exact ⟨H1, I1.tok _, q⟩
end
end L2
namespace L2
open PySem PySem.Spec PyProof.Rows
section
variable {prog : Program} {w : World} {A : Around} {R : Result → Shared → Prop} {I S : Addr} {fp wr : List Addr} {n : Nat} {P : Nat → Value → Prop} {St : Nat → Heap → Prop}
end
section
variable {prog : Program} {w : World} {A : Around} {E : Value → Shared → Prop} {s : Shared}
end
section
variable {X : Cx}
theorem zR (f : Nat → Int) : ∀ k, argBest (fun i j => decide (f i < f j)) k ≤ k ∧ ∀ j ≤ k, f (argBest (fun i j => decide (f i < f j)) k) ≤ f j
 | 0 => ⟨Nat.le_refl _, fun j h => by rw [Nat.le_zero.mp h]; exact Int.le_refl _⟩
 | k + 1 => by
  obtain ⟨a1, a2⟩ := zR f k
  unfold argBest
  by_cases q : f (k + 1) < f (argBest (fun i j => decide (f i < f j)) k)
  ·rw [if_pos (decide_eq_true q)]
   exact ⟨Nat.le_refl _, fun j m => by
    by_cases e : j = k + 1
    ·rw [e]; exact Int.le_refl _
    ·have := a2 j (by omega)
     omega⟩
  ·rw [if_neg (by rw [decide_eq_true_eq]; exact q)]
   exact ⟨by omega, fun j m => by
    by_cases e : j = k + 1
    ·rw [e]; omega
    ·exact a2 j (by omega)⟩
end
end L2
namespace L2
open PySem PySem.Spec PyProof.Rows
def Itd (d : Addr) (o : Obj) (kvs : List (Key × V)) : It :=
 ⟨fun i H => H d = some (.frz o (.dK kvs)) ∧ i < kvs.length, fun i H x H' => H' = H ∧ ∃ kv, kvs[i]? = some kv ∧ x = kV kv.1, fun i H => H d = some (.frz o (.dK kvs)) ∧ kvs.length ≤ i⟩
theorem uX {P : Program} {w : World} {K : PySem.W.Frag} {tg : Expr} {d it : Addr} {o : Obj} {kvs : List (Key × V)} {vs : List (Key × Value)} {ep : Nat} {h0 : Heap} (kv : KV kvs vs) (hd0 : h0.get? d = some o) (hat : h0.DictAt (bB P w) d vs ep) :
  Turn P w K tg (Itd d o kvs) [it] it (fun i h => h.IsKeyIter it d i vs.length ep) where
 mem := by simp
 obj := fun i h st b hb => by
  have e : b = it := by simpa using hb
  subst e
  obtain ⟨ob, e, c, dd⟩ := st
  exact ⟨ob, e, fun v z => by rw [dd] at z; cases z⟩
 keep := fun i h h' st k => st.at fun ob e => k it (by simp) ob e
 item := by
  intro X hP hw hK hc i pins s σ H E I hf st hg
  subst hP hw hK
  obtain ⟨hH, hi⟩ := hg
  obtain ⟨f0, f1, f2, f3, f4, f5⟩ := hf it (by simp)
  have hget : s.heap.get? d = some o := (show cJ X.prog X.w H s.heap d (.frz o (.dK kvs)) from I.hok d _ hH).1
  have hat' := hat.at' (h' := s.heap) fun ob e => by rw [hd0] at e; cases e; exact hget
  have hl := KV.length kv
  obtain ⟨⟨k, v⟩, hx⟩ : ∃ p, vs[i]? = some p := ⟨_, List.getElem?_eq_getElem (by omega)⟩
  obtain ⟨q, eq, e1, e2⟩ := KV.get kv hx
  refine wpAny_pyNext_dict_item st hat' hx fun key h' hkey st' sb => ?_
  have I1 : Inv X pins σ H { s with heap := h' } := I.turned (t' := s.toks) (fun b ob hb e => (sb.2 b hb).trans e) f0 f1 f3 f4 f5
  obtain ⟨ob, e, c, dd⟩ := id st'
  refine ⟨key, rfl, aDL (s := { s with heap := h' }) e c dd (by decide) ⟨kV q.1, H, I1, ?_, ⟨rfl, q, eq, rfl⟩, st', fun b hb => (hf b hb).1⟩⟩
  rw [show q.1 = k from e1]
  exact vV hkey
 done := by
  intro X hP hw hK hc i pins s σ H E I hf st hg
  subst hP hw hK
  obtain ⟨hH, hi⟩ := hg
  obtain ⟨f0, f1, f2, f3, f4, f5⟩ := hf it (by simp)
  have hget : s.heap.get? d = some o := (show cJ X.prog X.w H s.heap d (.frz o (.dK kvs)) from I.hok d _ hH).1
  have hat' := hat.at' (h' := s.heap) fun ob e => by rw [hd0] at e; cases e; exact hget
  have hl := KV.length kv
  exact wpAny_pyNext_dict_end (I.ok.hd hc) st hat' (List.getElem?_eq_none (by omega)) fun h' eb => ⟨rfl, I.turned (t' := s.toks) (fun b ob hb e => eb b ob hb e) f0 f1 f3 f4 f5⟩
 self := fun _ _ _ _ _ st h => wpAny_pyIter_keyiter st h
section
variable {X : Cx} {tg : Expr}
def aNF (td : TE) : TI := fun σ H R => td σ H fun x H1 => ∃ d kvs, x = .ref d ∧ H1 d = some (.dK kvs) ∧ ∀ o, R (Itd d o kvs) (upd H1 d (.frz o (.dK kvs)))
theorem xI {l : Expr} {tl : TE} (hl : PE X l tl) : PI X tg l (aNF tl) := by
 intro pins s σ H R I h
 refine thn (hl pins s σ H _ I h) fun v s1 ⟨x, H1, I1, r1, q1⟩ => ?_
 obtain ⟨d, kvs, e, hH, q⟩ := q1
 subst e
 cases r1
 have hok := I1.hok d _ hH
 obtain ⟨hz, lo, vs, kv, hD⟩ := id hok
 obtain ⟨ep, hat⟩ := hD.dictAt
 obtain ⟨o, es, ho, _⟩ := id hat
 refine wpAny_pyIter_dict lo hat ?_
 have I2 : Inv X pins σ (upd H1 d (.frz o (.dK kvs))) s1 := I1.write (x := d) (e := d) (o := .frz o (.dK kvs)) (h' := s1.heap) (t' := s1.toks) (by rw [hH]; exact trivial) (.inl rfl) (fun _ _ _ q => q) ⟨o, ho⟩ ⟨ho, hz, lo, vs, kv, hD⟩
 refine ⟨s1.heap.objs.size, [s1.heap.objs.size], _, _, upd H1 d (.frz o (.dK kvs)), rfl, I2.kept (t' := s1.toks) fun b ob e => Heap.get?_push_of_some _ e, uX kv ho hat, ⟨_, Heap.get?_push_size _ rfl, rfl, rfl⟩, fun b hb => ?_, q o⟩
 have e : b = s1.heap.objs.size := by simpa using hb
 subst e
 exact I2.fpOk (Nat.le_refl _) (I2.hok.fresh (Nat.le_refl _))
theorem qH {d : Addr} {o : Obj} {kvs : List (Key × V)} {σb : St} {g : TG} {tt : TT} {te : TE} {fin : List V → Hp → Prop} {H : Hp} (hz : kvs.length ≤ sizeLine) (Pv : Nat → List V → Hp → Prop) (h0 : Pv 0 [] H)
  (hl : ∀ i ys H, i ≤ kvs.length → Pv i ys H → H d = some (.frz o (.dK kvs)) ∧ ys.length ≤ i)
  (hs : ∀ i kv ys H (K : VK) (K' : Hp → Prop), kvs[i]? = some kv → Pv i ys H → (∀ y H4, Pv (i + 1) (ys ++ [y]) H4 → K y H4) → (∀ H3, Pv (i + 1) ys H3 → K' H3) →
   g (kV kv.1) σb H fun σ2 H2 => tt σ2 H2 fun b H3 => if b = true then te σ2 H3 K else K' H3)
  (hd : ∀ ys H, Pv kvs.length ys H → fin ys H) : ∃ W : CW, (∃ m, W 0 m [] H) ∧ ∀ i m ys H, W i m ys H → uY σb (Itd d o kvs) g tt te W fin i m ys H := by
 refine ⟨fun i m ys H => m = kvs.length - i ∧ i ≤ kvs.length ∧ Pv i ys H, ⟨kvs.length, by simp, Nat.zero_le _, h0⟩, ?_⟩
 rintro i m ys H ⟨rfl, hi, p⟩
 obtain ⟨q, ql⟩ := hl i ys H hi p
 by_cases hlt : i < kvs.length
 ·refine .inr ⟨⟨q, hlt⟩, by omega, fun x H' y => ?_⟩
  obtain ⟨e, kv, ek, ex⟩ := y
  subst e ex
  exact hs i kv ys _ _ _ ek p (fun y H4 q => ⟨kvs.length - (i + 1), by omega, rfl, hlt, q⟩) fun H3 q => ⟨kvs.length - (i + 1), by omega, rfl, hlt, q⟩
 ·have e : i = kvs.length := by omega
  subst e
  exact .inl ⟨⟨q, Nat.le_refl _⟩, hd ys H p⟩
end
end L2
namespace L2
open PySem PySem.Spec PyProof.Rows
section
variable {X : Cx} {tg : Expr}
def aLL (td : TE) : TI := fun σ H R => td σ H fun x H1 => ∃ d o kvs, x = .ref d ∧ H1 d = some (.frz o (.dK kvs)) ∧ R (Itd d o kvs) H1
theorem aGQ {l : Expr} {tl : TE} (hl : PE X l tl) : PI X tg l (aLL tl) := by
 intro pins s σ H R I h
 refine thn (hl pins s σ H _ I h) fun v s1 ⟨x, H1, I1, r1, q1⟩ => ?_
 obtain ⟨d, o, kvs, e, hH, q⟩ := q1
 subst e
 cases r1
 have hok := I1.hok d _ hH
 obtain ⟨ho, hz, lo, vs, kv, hD⟩ := (show cJ X.prog X.w H1 s1.heap d (.frz o (.dK kvs)) from hok)
 obtain ⟨ep, hat⟩ := hD.dictAt
 refine wpAny_pyIter_dict lo hat ?_
 refine ⟨s1.heap.objs.size, [s1.heap.objs.size], _, _, H1, rfl, I1.kept (t' := s1.toks) fun b ob e => Heap.get?_push_of_some _ e, uX kv ho hat, ⟨_, Heap.get?_push_size _ rfl, rfl, rfl⟩, fun b hb => ?_, q⟩
 have e : b = s1.heap.objs.size := by simpa using hb
 subst e
 exact I1.fpOk (Nat.le_refl _) (I1.hok.fresh (Nat.le_refl _))
theorem wC (hc : X.calm = true) : gO X (.builtin "min") (fun xs H Q => ∃ (p : Addr) (ns : List Int), xs = [.ref p] ∧ SqL X.K H p (ns.map V.int) ∧ 0 < ns.length ∧ ∀ M, M ∈ ns → (∀ a ∈ ns, M ≤ a) → Q (.int M) H) := by
 intro pins s σ H xs us Q I r h
 obtain ⟨p, ns, rfl, hq, h0, q⟩ := h
 obtain ⟨u, rfl, ru⟩ := bL.one r
 cases ru
 obtain ⟨its, rv, pl, hz⟩ := I.list hq
 have hi := tS rv
 obtain ⟨ys, ey⟩ := hi.allInts.items
 have en : ns = ys.toList.map fun x => x.1 := by
  have h1 := nums_intItems ys
  rw [← ey] at h1
  rw [← h1]
  exact hi.numsOf.symm
 have hl : s.heap.IsList p (intItems ys) := by rw [← ey]; exact pl.isList
 have hlen : ns.length = ys.size := by rw [en, List.length_map, Array.length_toList]
 refine min_intList (I.ok.hd hc) hl (by omega) fun v h' tk hv hk => ?_
 obtain ⟨tv, rfl⟩ := intItems_at hv
 obtain ⟨g1, g2⟩ := zR (numAt ys) (ys.size - 1)
 refine ⟨.int _, H, I.kept (t' := tk) hk, ⟨_, rfl⟩, q _ ?_ fun a ma => ?_⟩
 ·rw [numAt_eq, ← en, List.getD_eq_getElem?_getD, List.getElem?_eq_getElem (show argBest (fun i j => decide (numAt ys i < numAt ys j)) (ys.size - 1) < ns.length by omega)]
  exact List.getElem_mem _
 ·obtain ⟨j, hj⟩ := List.mem_iff_getElem?.mp ma
  have hjl := (List.getElem?_eq_some_iff.mp hj).1
  have := g2 j (by omega)
  rw [numAt_eq ys j, ← en, List.getD_eq_getElem?_getD, hj] at this
  exact this
end
end L2
namespace L2
open PySem PySem.Spec PyProof.Rows
section
variable {X : Cx}
theorem aHP {d : Addr} {o : Obj} {kvs : List (Key × V)} {g : TG} {tb : TS} {D : Ends} {σ : St} {H : Hp} (Pv : Nat → St → Hp → Prop) (h0 : Pv 0 σ H) (hl : ∀ i σ H, i ≤ kvs.length → Pv i σ H → H d = some (.frz o (.dK kvs)))
  (hs : ∀ i kv σ H, kvs[i]? = some kv → Pv i σ H → g (kV kv.1) σ H fun σ2 H2 => tb { D with nx := Pv (i + 1), ct := Pv (i + 1), bk := D.nx } σ2 H2) (hd : ∀ σ H, Pv kvs.length σ H → D.nx σ H) :
  ∃ W : Nat → Nat → St → Hp → Prop, (∃ m, W 0 m σ H) ∧ ∀ i m σ H, W i m σ H →
   ((Itd d o kvs).stop i H ∧ D.nx σ H) ∨ ((Itd d o kvs).go i H ∧ ∃ N : St → Hp → Prop, (∀ σ' H', N σ' H' → ∃ m', m' < m ∧ W (i + 1) m' σ' H') ∧ ∀ x H', (Itd d o kvs).yld i H x H' → g x σ H' fun σ2 H2 => tb { D with nx := N, ct := N, bk := D.nx } σ2 H2) := by
 refine ⟨fun i m σ H => m + i = kvs.length ∧ Pv i σ H, ⟨kvs.length, rfl, h0⟩, ?_⟩
 intro i m σ H hw
 obtain ⟨hm, pv⟩ := hw
 have at_ := hl i σ H (by omega) pv
 rcases Nat.lt_or_ge i kvs.length with lt | ge
 ·refine .inr ⟨⟨at_, lt⟩, Pv (i + 1), (fun σ' H' p' => ⟨kvs.length - (i + 1), by omega, by omega, p'⟩), fun x H' y => ?_⟩
  obtain ⟨eH, kv, ek, ex⟩ := y
  subst eH ex
  exact hs i kv σ _ ek pv
 ·have ei : i = kvs.length := by omega
  subst ei
  exact .inl ⟨⟨at_, Nat.le_refl _⟩, hd σ H pv⟩
end
end L2
namespace L2
open PySem PySem.Spec PyProof.Rows
def CX2 (P : Program) (w : World) : CXT := fun outer H s E e s' => ∃ (ea : Addr) (cls a0 : Value) (B : Heap) (H' : Hp), e = .ref ea ∧ s'.os = s.os ∧ AllBare s'.gens ∧ Un (frs outer) [] H H' s.heap s'.heap ∧ HOk P w H' s'.heap ∧
 Heap.FlyingW B outer ea cls a0 s'.heap ∧ (∀ b o o', s.heap.get? b = some o → s'.heap.get? b = some o' → b ∉ frs outer → B.get? b = some o') ∧ (∀ b o', H' b ≠ none → s'.heap.get? b = some o' → B.get? b = some o') ∧ E cls none H'
section
variable {X : Cx} {pins : List (Addr × Obj)} {σ : St} {H H' : Hp} {s s' : Shared} {B h2 : Heap} {ea : Addr} {cls a0 : Value}
theorem aHQ (I : Inv X pins σ H s) (u : Un (frs X.stack) [] H H' s.heap s'.heap) (hB : ∀ b o o', s.heap.get? b = some o → s'.heap.get? b = some o' → b ∉ frs X.stack → B.get? b = some o')
  (k : B.StaysIn h2) (us : s'.heap.UpToSlots h2) : Un (frs X.stack) [] H H' s.heap h2 where
 keep := fun b o e n hb hx => k b o (hB b o o e (u.keep b o e n hb hx) hb)
 slot := fun b o e n hb hx => by
  obtain ⟨sl, e1⟩ := u.slot b o e n hb hx
  obtain ⟨_, o1, e2, hd⟩ := I.stack.mem hb
  rw [e] at e2
  cases e2
  obtain ⟨sl', e3⟩ := us b _ e1 hd
  exact ⟨sl', e3⟩
 free := u.free
 there := fun b o e hx => by
  obtain ⟨o', e1⟩ := u.there b o e hx
  by_cases hb : b ∈ frs X.stack
  ·obtain ⟨_, o1, e2, hd⟩ := I.stack.mem hb
   rw [e] at e2
   cases e2
   obtain ⟨sl, e3⟩ := u.slot b o e (I.stkFree b hb) hb hx
   obtain ⟨sl', e4⟩ := us b _ e3 hd
   exact ⟨_, e4⟩
  ·exact ⟨o', k b o' (hB b o o' e e1 hb)⟩
 tups := u.tups
 frzs := u.frzs
 tbls := u.tbls
theorem aDP {P : Program} {w : World} (ok : HOk P w H' s'.heap) (hT : ∀ b o', H' b ≠ none → s'.heap.get? b = some o' → B.get? b = some o') (k : B.StaysIn h2) : HOk P w H' h2 := fun a o e =>
 (ok a o e).stay (fun b v hb q => k b v (hT b v (by
  rcases hb with rfl | hb
  ·rw [e]; simp
  ·rw [hb]; simp) q)) (fun _ q => q) fun _ _ q => q
theorem aDO (I : Inv X pins σ H s) (os : s'.os = s.os) (bare : AllBare s'.gens) (u : Un (frs X.stack) [] H H' s.heap s'.heap) (ok : HOk X.prog X.w H' s'.heap) (hB : ∀ b o o', s.heap.get? b = some o → s'.heap.get? b = some o' → b ∉ frs X.stack → B.get? b = some o')
  (hT : ∀ b o', H' b ≠ none → s'.heap.get? b = some o' → B.get? b = some o') (k : B.StaysIn h2) (us : s'.heap.UpToSlots h2) : Inv X pins σ H' { s' with heap := h2 } :=
 I.call' (s' := { s' with heap := h2 }) (ch := []) os (aHQ I u hB k us) (aDP ok hT k) bare fun b z => absurd z (by simp)
end
theorem cJ.has {P : Program} {w : World} {H : Hp} {h : Heap} {a : Addr} {o : HO} (x : cJ P w H h a o) : ∃ u, h.get? a = some u := by
 cases o with
 | lst xs => obtain ⟨_, _, _, _, e⟩ := x; exact ⟨_, e⟩
 | tup xs => obtain ⟨_, _, _, ob, e, _⟩ := x; exact ⟨_, e⟩
 | dK kvs => obtain ⟨_, _, _, _, o, _, _, e, _⟩ := x; exact ⟨_, e⟩
 | dT kvs => obtain ⟨_, _, _, _, o, _, _, e, _⟩ := x; exact ⟨_, e⟩
 | set S n => obtain ⟨o, _, _, _, e, _⟩ := x; exact ⟨_, e⟩
 | ins C dx fs => obtain ⟨_, _, _, e, _⟩ := x; exact ⟨_, e⟩
 | own y => obtain ⟨_, e⟩ := x; exact ⟨_, e⟩
 | xd fs => obtain ⟨_, ⟨_, _, _, e, _⟩, _⟩ := x; exact ⟨_, e⟩
 | rng lo hi => obtain ⟨_, _, _, e⟩ := x; exact ⟨_, e⟩
 | frz ob u => obtain ⟨e, _⟩ := x; exact ⟨_, e⟩
 | tbl ps => exact ⟨_, show h.get? a = some _ from x⟩
 | met f y => exact ⟨_, show h.get? a = some _ from x⟩
 | ext φ => obtain ⟨_, ⟨_, e⟩, _⟩ := x; exact ⟨_, e⟩
theorem HOk.has {P : Program} {w : World} {H : Hp} {h : Heap} {a : Addr} (x : HOk P w H h) (e : H a ≠ none) : ∃ u, h.get? a = some u := by
 cases q : H a with
 | none => exact absurd q e
 | some o => exact (x a o q).has
section
variable {P : Program} {w : World} {K : PySem.W.Frag} {mg : Str → Option Value} {base : Heap} {N : List Str} {qual : Str} {scope : Scope} {f : Addr} {cd : Value} {A : Around} {outer : List Env} {s : Shared} {H : Hp} {E : XK}
theorem aDN {pins : List (Addr × Obj)} {σ : St} {H1 H' : Hp} {s1 s' : Shared} {B h2 : Heap} {ea : Addr} {cls a0 : Value} (I : Inv (lA (CX2 P w) P w K mg base N qual scope f cd A outer s H E) pins σ H1 s1) (os : s'.os = s1.os) (bare : AllBare s'.gens)
  (u : Un (frs (envOfC qual scope s.heap.objs.size f cd :: outer)) [] H1 H' s1.heap s'.heap) (ok : HOk P w H' s'.heap) (hB : ∀ b o o', s1.heap.get? b = some o → s'.heap.get? b = some o' → b ∉ frs (envOfC qual scope s.heap.objs.size f cd :: outer) → B.get? b = some o')
  (hT : ∀ b o', H' b ≠ none → s'.heap.get? b = some o' → B.get? b = some o') (fl : Heap.FlyingW B outer ea cls a0 h2) (us : s'.heap.UpToSlots h2) (q : E cls none H') : CX2 P w outer H s E (.ref ea) { s' with heap := h2 } := by
 have J := aDO (h2 := h2) I os bare u ok hB hT fl.1 us
 refine ⟨ea, cls, a0, B, H', rfl, J.os, J.bare, J.base, J.hok, fl, fun b o o' e e' nb => ?_, fun b o' n e' => ?_, q⟩
 ·obtain ⟨o1, e1⟩ := I.base.there b o e (fun z => absurd z (by simp [lA]))
  obtain ⟨o2, e2⟩ := u.there b o1 e1 (by simp)
  have hb : b ∉ frs (envOfC qual scope s.heap.objs.size f cd :: outer) := fun z => by
   have lt : b < s.heap.objs.size := Heap.lt_size e
   have z' : b ∈ s.heap.objs.size :: frs outer := z
   rcases List.mem_cons.mp z' with r | r
   ·exact absurd lt (by rw [r]; exact Nat.lt_irrefl _)
   ·exact nb r
  have e3 := hB b o1 o2 e1 e2 hb
  have e4 := fl.1 b o2 e3
  rw [show h2.get? b = some o' from e'] at e4
  cases e4
  exact e3
 ·obtain ⟨o2, e2⟩ := ok.has n
  have e3 := hT b o2 n e2
  have e4 := fl.1 b o2 e3
  rw [show h2.get? b = some o' from e'] at e4
  cases e4
  exact e3
theorem oX : lN (CX2 P w) (lA (CX2 P w) P w K mg base N qual scope f cd A outer s H E) E := fun pins σ H1 s1 e s' I h => by
 obtain ⟨ea, cls, a0, B, H', rfl, os, bare, u, ok, fl, hB, hT, q⟩ := h
 exact wpAny_leaves_onW (env := envOfC qual scope s.heap.objs.size f cd) (outer := outer) I.ok.frames rfl fl fun h2 fl2 us => aDN I os bare u ok hB hT fl2 us q
theorem aIS {pins : List (Addr × Obj)} {σ : St} {H1 : Hp} {s1 : Shared} {h1 : Heap} {e : Addr} {cls : Value} {args : List Value} (I : Inv (lA (CX2 P w) P w K mg base N qual scope f cd A outer s H E) pins σ H1 s1) (hx : Heap.MadeExcOf s1.heap h1 e cls args) (q : E cls none H1) :
  (lA (CX2 P w) P w K mg base N qual scope f cd A outer s H E).xe (.ref e) { s1 with heap := h1 } := by
 have S : s1.heap.FunFrames base (envOfC qual scope s.heap.objs.size f cd :: outer) := I.stack
 have hin : ∀ v ∈ envOfC qual scope s.heap.objs.size f cd :: outer, ∀ b, v.frame = some b → b ∈ frs (envOfC qual scope s.heap.objs.size f cd :: outer) := fun v hv b hb => List.mem_filterMap.mpr ⟨v, hv, hb⟩
 refine wpAny_leaves_madeW (base := PySem.W.hideAll s1.heap (frs (envOfC qual scope s.heap.objs.size f cd :: outer))) (h := s1.heap) (env := envOfC qual scope s.heap.objs.size f cd) (outer := outer) I.ok.frames rfl (fun b o z => PySem.W.of_hideAll _ z) (PySem.W.funFrames_hide S hin) hx fun h2 t fl _ _ us => ?_
 refine aDN (s1 := s1) (s' := { s1 with heap := h1 }) I rfl I.bare (Un.kept hx.keeps) (I.hok.kept hx.keeps) (fun b o o' e1 e2 nb => ?_) (fun b o' n e2 => ?_) fl us q
 ·have e3 := hx.keeps b o e1
  rw [show h1.get? b = some o' from e2] at e3
  cases e3
  exact PySem.W.hideAll_get _ e1 nb
 ·obtain ⟨o, e1⟩ := I.hok.has n
  have e3 := hx.keeps b o e1
  rw [show h1.get? b = some o' from e2] at e3
  cases e3
  exact PySem.W.hideAll_get _ e1 fun z => n (I.stkFree b z)
end
end L2
namespace L2
open PySem PySem.Spec PyProof.Rows
abbrev aJX : List Value := [.type "ValueError", .type "Exception", .type "BaseException", .type "object"]
structure ExcC (K : PySem.W.Frag) (C : Addr) : Prop where
 q : PySem.W.excIn K C aJX "ValueError.__new__" = true
theorem ExcC.own {K : PySem.W.Frag} {C : Addr} {h : Heap} {x : Str} {mg : Str → Option Value} (E : ExcC K C) (X : K.In h) (hm : mg x = some (.ref C)) : OwnCls x C aJX "ValueError.__new__" mg h := by
 refine ⟨hm, ?_⟩
 have q := E.q
 unfold PySem.W.excIn at q
 split at q
 ·rename_i d2 c2 l2 look
  split at q
  ·rename_i C2 tl a0 a1 a2 a3 id2 a5 em es
   have q1 := Bool.and_eq_true_iff.mp q
   have q2 := Bool.and_eq_true_iff.mp q1.1
   have q3 := Bool.and_eq_true_iff.mp q2.1
   have q4 := Bool.and_eq_true_iff.mp q3.1
   have q5 := Bool.and_eq_true_iff.mp q4.1
   obtain rfl : C2 = C := beq_iff_eq.mp q5.1
   obtain rfl : id2 = "ValueError.__new__" := beq_iff_eq.mp q5.2
   obtain ⟨c_1, c_2, c_3, c_4, c_5, c_6, c_7, c_8, c_9, c_10, c_11⟩ := c2
   obtain rfl : c_3 = .ref C2 :: tl := em
   obtain rfl : c_11 = false := by simpa using q4.2
   obtain ⟨ll⟩ := l2
   obtain rfl : ll = [a0, a1, a2, a3, some (.builtin "ValueError.__new__"), a5] := es
   exact ⟨tl, c_4, c_1, c_5, c_2, c_6, c_7, c_8, c_9, c_10, d2, a0, a1, a2, a3, a5, _, X _ _ look, .of_isNs (PySem.W.isNs_of_in X q2.2), PySem.W.nsMap_none_of_in X q2.2 (beq_iff_eq.mp q1.2), PySem.W.tail_of_in X q3.2⟩
  ·cases q
 ·cases q
def aIG (X : Cx) (E : XK) : Prop := ∀ (pins : List (Addr × Obj)) (σ : St) (H : Hp) (s : Shared) (h1 : Heap) (e : Addr) (cls : Value) (args : List Value), Inv X pins σ H s → Heap.MadeExcOf s.heap h1 e cls args → E cls none H → X.xe (.ref e) { s with heap := h1 }
theorem vJ {P : Program} {w : World} {K : PySem.W.Frag} {mg : Str → Option Value} {base : Heap} {N : List Str} {qual : Str} {scope : Scope} {f : Addr} {cd : Value} {A : Around} {outer : List Env} {s : Shared} {H : Hp} {E : XK} :
  aIG (lA (CX2 P w) P w K mg base N qual scope f cd A outer s H E) E := fun _ _ _ _ _ _ _ _ I hx q => aIS I hx q
section
variable {X : Cx} {C : Addr} {x : Str} {E : XK} {np cpos pos : Pos} {e : Expr} {es : List Expr} {t : TA}
def aKN (C : Addr) (E : XK) (t : TA) : TS := fun _ σ H => t σ H fun vs H1 => vs.length ≤ sizeLine ∧ E (.ref C) none H1
theorem zE (hm : X.mg x = some (.ref C)) (EC : ExcC X.K C) (hc : X.calm = true) (R : aIG X E) (ha : PA X (e :: es) t) (hg : Gl X x := by rfl) (hdb : (x == ("__debug__" : Str)) = false := by decide)
  (he : starEach (e :: es) X.env = (false, eval e X.env) :: starEach es X.env := by rfl) (hpl : (backTo cpos (starEach es X.env)).any (·.1) = false := by rfl) :
  PS X (.Raise (some (.Call (.Name x np) (e :: es) [] cpos)) none pos) (aKN C E t) := by
 intro pins s σ H D I h
 obtain ⟨tl, N, nm, qn, bs, hdct, sn, sub, ab, col, dd, k0, k1, k2, k3, k5, mN, hC, hN, hni, T⟩ := (EC.own I.ok.mod.kin hm).obj
 refine wpAny_Raise_call_subT (C := C) (N := N) (nm := nm) (q := qn) (bs := bs) (bm := tl) (hdct := hdct) (sn := sn) (sub := sub) (ab := ab) (col := col) (dd := dd) (k0 := k0) (k1 := k1) (k2 := k2) (k3 := k3) (k5 := k5)
  PySem.F.excBase_ValueError (mN := mN) (T.hasType PySem.F.excBase_ValueError.hasBase) (I.ok.hd hc) ?_ hni (nN I hg hm ⟨rfl, ?_⟩ hdb)
 ·rw [he]
  show (false || (backTo cpos (starEach es X.env)).any (·.1)) = false
  rw [hpl]
  rfl
 ·have g := ha cpos pins s σ H _ I h
  rw [he] at g ⊢
  refine Calls.evalArgs_plain (thn g fun us s2 ⟨vs, H2, I2, rv, hz, q⟩ => ?_)
  exact ⟨rfl, by rw [← rv.length]; exact hz, I2.bk _ _ hC, hN.keeps I2.bk, T.keeps I2.bk, fun h1 ea hx => R pins σ H2 s2 h1 ea _ _ I2 hx q⟩
end
def CAt (X : Cx) (pins : List (Addr × Obj)) (σ : St) (E : XK) (e : Value) (s' : Shared) : Prop := ∃ s1 H1, Inv X pins σ H1 s1 ∧ CX2 X.prog X.w X.stack H1 s1 E e s'
abbrev TX := XK → TE
def PX (X : Cx) (e : Expr) (t : TX) : Prop :=
 ∀ (pins : List (Addr × Obj)) (s : Shared) (σ : St) (H : Hp) (Q : VK) (E : XK), Inv X pins σ H s → t E σ H Q → wpAny (model X.prog X.w) X.A (eval e X.env) (EP X pins σ Q) (CAt X pins σ E) s
section
variable {X : Cx} {k : Nat} {f C : Addr} {fd : FuncData} {ps : List Str} {sp : Sp} {E : XK} {x m : Str} {p pos apos : Pos} {e o : Expr} {es : List Expr} {ta : TE} {t : TA}
theorem aIQ {pins : List (Addr × Obj)} {σ : St} {H : Hp} {s : Shared} {Q : VK} {us : List Value} {vs : List V} (F : FnOk X.prog X.w X.K X.mg X.base (CX2 X.prog X.w) k f fd ps sp) (hr : Room k X.A) (hb : gP X.K fd ps [])
  (I : Inv X pins σ H s) (r : bL vs us) (h : sp vs H Q E) : wpAny (model X.prog X.w) X.A (call (.ref f) us) (EP X pins σ Q) (CAt X pins σ E) s := by
 have I' : Inv (X.wish (CAt X pins σ E)) pins σ H s := I.wish _
 have hl : (us ++ []).length = ps.length := by rw [List.append_nil, ← r.length]; exact F.len _ _ _ _ h
 have hb' := hb s us I.kIn hl
 rw [List.append_nil] at hb'
 refine wpAny_call (codeAny_mono (F.run X.A X.stack s H ⟨us, []⟩ us vs Q E hr I.env0 hb' r h) fun z s' hq => ?_)
 cases z with
 | error e => exact ⟨s, H, I, hq⟩
 | ok fl =>
  cases fl with
  | ret u => exact I.after hq
  | next => exact False.elim hq
  | brk => exact False.elim hq
  | cont => exact False.elim hq
end
end L2
namespace L2
open PySem PySem.Spec PyProof.Rows
structure FcX (P : Program) (w : World) (K : PySem.W.Frag) (mg : Str → Option Value) (base : Heap) (k : Nat) (x : Str) (ps : List Str) (sp : Sp) : Prop where
 ex : ∃ (f : Addr) (fd : FuncData), FnOk P w K mg base (CX2 P w) k f fd ps sp ∧ gP K fd ps [] ∧ mg x = some (.ref f) ∧ PySem.W.keepIn K (.ref f) = true
structure McX (P : Program) (w : World) (K : PySem.W.Frag) (mg : Str → Option Value) (base : Heap) (k : Nat) (C : Addr) (m : Str) (ps : List Str) (sp : Sp) : Prop where
 ex : ∃ (f : Addr) (fd : FuncData), FnOk P w K mg base (CX2 P w) k f fd ps sp ∧ gP K fd ps [] ∧ Meth K C m f
structure IcX (P : Program) (w : World) (K : PySem.W.Frag) (mg : Str → Option Value) (base : Heap) (k : Nat) (C : Addr) (ps : List Str) (sp : Sp) : Prop where
 ex : ∃ (f : Addr) (fd : FuncData), FnOk P w K mg base (CX2 P w) k f fd ps sp ∧ gP K fd ps [] ∧ Mk K C f
section
variable {P : Program} {w : World} {K : PySem.W.Frag} {mg : Str → Option Value} {base : Heap} {C : Addr} {x m qual : Str} {st : Stmt} {N ps : List Str} {k : Nat} {sp sp' : Sp}
theorem Fun.okX {f : Addr} {fd : FuncData} (F : Fun K x qual st f fd) (S : FnScope N ps (aD st)) (len : ∀ vs H Q E, sp vs H Q E → vs.length = ps.length)
  (hbody : ∀ (cdv : Value) (A : Around) (outer : List Env) (s : Shared) (H : Hp) (vs : List V) (Q : VK) (E : XK), Room k (A.deeper (envOfC qual (aD st) s.heap.objs.size f cdv)) → sp vs H Q E →
   ∃ t, PSs (lA (CX2 P w) P w K mg base N qual (aD st) f cdv A outer s H E) (aJ st) t ∧ t { nx := fun _ H' => Q .non H', rt := Q } (start N vs) H) : FnOk P w K mg base (CX2 P w) (k + 1) f fd ps sp := by
 obtain ⟨oc, od, kV, doc, pm, an, cdv, ct, osl, rfl, lk, hcd⟩ := F.ex
 exact aKI lk hcd S len fun A outer s H vs Q E hr hsp => hbody cdv A outer s H vs Q E hr hsp
theorem DefAt.fcX (D : DefAt K mg x st ps) (S : FnScope N ps (aD st)) (len : ∀ vs H Q E, sp vs H Q E → vs.length = ps.length)
  (hbody : ∀ (f : Addr) (cdv : Value) (A : Around) (outer : List Env) (s : Shared) (H : Hp) (vs : List V) (Q : VK) (E : XK), Room k (A.deeper (envOfC x (aD st) s.heap.objs.size f cdv)) → sp vs H Q E →
   ∃ t, PSs (lA (CX2 P w) P w K mg base N x (aD st) f cdv A outer s H E) (aJ st) t ∧ t { nx := fun _ H' => Q .non H', rt := Q } (start N vs) H) : FcX P w K mg base (k + 1) x ps sp := by
 obtain ⟨f, fd, F, b, mm⟩ := D.ex
 exact ⟨f, fd, F.okX S len fun cdv A outer s H vs Q E hr h => hbody f cdv A outer s H vs Q E hr h, b, mm, F.kp⟩
end
section
variable {X : Cx} {k : Nat} {C : Addr} {ps : List Str} {sp : Sp} {E : XK} {x m : Str} {p pos apos : Pos} {e o : Expr} {es : List Expr} {ta : TE} {t : TA}
theorem PA.cat {pins : List (Addr × Obj)} {σ : St} {H : Hp} {s : Shared} {Q : List V → Hp → Prop} {F : Value → Shared → Prop} (ha : PA X.nox es t) (I : Inv X pins σ H s) (h : t σ H Q) : wpAny (model X.prog X.w) X.A (spliced (backTo pos (starEach es X.env))) (AP X pins σ Q) F s :=
 wpAny_mono (ha pos pins s σ H Q (I.wish _) h) (fun _ _ ⟨vs, H', I', r, q⟩ => ⟨vs, H', I'.unwish, r, q⟩) fun _ _ z => False.elim z
theorem aMN (F : FcX X.prog X.w X.K X.mg X.base k x ps sp) (hr : Room k X.A) (ha : PA X.nox (e :: es) t) (hg : Gl X x := by rfl) (hdb : (x == ("__debug__" : Str)) = false := by decide)
  (he : starEach (e :: es) X.env = (false, eval e X.env) :: starEach es X.env := by rfl) (hpl : (backTo pos (starEach es X.env)).any (·.1) = false := by rfl) :
  PX X (.Call (.Name x p) (e :: es) [] pos) (fun E => aCI sp [] E t) := by
 intro pins s σ H Q E I h
 obtain ⟨f, fd, G, b, mm, kp⟩ := F.ex
 refine wpAny_Call_Name_kw (nN I hg mm ?_ hdb)
 refine PySem.W.callWith_K (h₀ := X.base) I.ok.mod.kin kp (thn (ha.cat I h) fun us s1 ⟨vs, H1, I1, r, q⟩ => ⟨I1.kIn, ?_⟩) he hpl
 simp only [List.append_nil] at q
 exact aIQ G hr b I1 r q
abbrev TB := XK → TS
def PB (X : Cx) (body : List Stmt) (t : TB) : Prop :=
 ∀ (pins : List (Addr × Obj)) (s : Shared) (σ : St) (H : Hp) (D : Ends) (E : XK), Inv X pins σ H s → t E D σ H → wpAny (model X.prog X.w) X.A (execs body X.env) (SP X pins D) (CAt X pins σ E) s
theorem aDD {t : TX} (he : PX X e t) (hs : swapsWith e none pos.line X.env = pure false := by rfl) : PB X [.Expr e pos] (fun E => aJZ (t E)) := by
 intro pins s σ H D E I h
 refine wpAny_execs_cons (wpAny_Expr_any (thn (he pins s σ H _ E I h) fun v s1 ⟨y, H1, I1, r1, q1⟩ => ?_) I.quiet hs)
 exact wpAny_execs_nil ⟨σ, H1, I1, q1⟩
theorem aMP {c : Expr} {a b : List Stmt} {tc : TT} {ta tb : TB} (hc : PT X.nox c tc) (ha : PB X a ta) (hb : PB X b tb) : PB X [.If c a b pos] (fun E => aMB tc (ta E) (tb E)) := by
 intro pins s σ H D E I h
 have go : wpAny (model X.prog X.w) X.A (exec (.If c a b pos) X.env) (SP X pins D) (CAt X pins σ E) s := by
  refine wpAny_If (wpAny_mono (hc pins s σ H _ (I.wish _) h) (fun d s1 ⟨H1, I1, q1⟩ => ?_) fun _ _ z => False.elim z)
  cases d with
  | true => exact ha pins s1 σ H1 D E I1.unwish q1
  | false => exact hb pins s1 σ H1 D E I1.unwish q1
 refine wpAny_execs_cons (thn go fun f s2 q => ?_)
 cases f with
 | next => exact wpAny_execs_nil q
 | ret v => exact q
 | brk => exact q
 | cont => exact q
end
end L2
namespace L2
open PySem PySem.Spec PyProof.Rows
abbrev Cx.held (X : Cx) (ea : Addr) : Cx := { X with A := X.A.mark (some (.ref ea)), calm := false, xe := fun _ _ => False }
section
variable {X : Cx} {pins : List (Addr × Obj)} {σ : St} {H H' : Hp} {s s' : Shared} {ea : Addr}
theorem Cx.Ok.held (ok : X.Ok) (ea : Addr) : (X.held ea).Ok :=
 ⟨ok.mod, ok.kind, ok.glob, ok.blt, ok.above, ok.inj, ok.has, ok.cab, fun z => absurd z (by simp), ok.frames, ok.stk, ok.exf, ok.bs, ok.bsz, ok.noex, ok.exfs, ok.funs, ok.frf⟩
theorem Inv.held (I : Inv X pins σ H s) (ea : Addr) : Inv (X.held ea) pins σ H s := ⟨I.ok.held ea, I.os, I.bare, I.base, I.loc, I.cell, I.free, I.freeC, I.pin, I.hok, I.len⟩
theorem Inv.unheld (ok : X.Ok) (I : Inv (X.held ea) pins σ H s) : Inv X pins σ H s := ⟨ok, I.os, I.bare, I.base, I.loc, I.cell, I.free, I.freeC, I.pin, I.hok, I.len⟩
theorem SP.unheld (ok : X.Ok) {D : Ends} {f : Flow} (h : SP (X.held ea) pins D f s') : SP X pins D f s' := by
 cases f with
 | next => obtain ⟨σ', H', I, q⟩ := h; exact ⟨σ', H', I.unheld ok, q⟩
 | brk => obtain ⟨σ', H', I, q⟩ := h; exact ⟨σ', H', I.unheld ok, q⟩
 | cont => obtain ⟨σ', H', I, q⟩ := h; exact ⟨σ', H', I.unheld ok, q⟩
 | ret u => obtain ⟨v, σ', H', I, r, q⟩ := h; exact ⟨v, σ', H', I.unheld ok, r, q⟩
end
theorem aEN {M : Model} {B h : Heap} {l : List Env} {ea : Addr} {cls a0 : Value} (fl : Heap.FlyingW B l ea cls a0 h) : PySem.W.Looks M h (typeOf (.ref ea)) cls := by
 obtain ⟨ob, hob, hc⟩ := fl.there
 subst hc
 exact (PySem.W.Looks.ld hob).andThen .now
section
variable {X : Cx} {C : Addr} {x : Str} {np hpos pos : Pos} {body suite : List Stmt} {b₀ : Stmt} {tb : TB} {ts : TS}
end
end L2
namespace L2
open PySem PySem.Spec PyProof.Rows
def aNI (a : Addr) (cls : Value) (h : Heap) : Prop := ∃ o vs, h.get? a = some o ∧ o.cls = cls ∧ o.data = .fields vs
def rF (a : Addr) (cls : Value) : HO := .ext (aNI a cls)
theorem Un.new {fs ex : List Addr} {H H' : Hp} {h h' : Heap} {a : Addr} {o : HO} (u : Un fs ex H H' h h') (n : H' a = none) (nn : h.get? a = none) : Un fs ex H (upd H' a o) h h' where
 keep := u.keep
 slot := u.slot
 free := fun b ob e nb hx => by
  rw [aQ (fun z => by rw [z, nn] at e; cases e)]
  exact u.free b ob e nb hx
 there := u.there
 tups := fun b xs e => by rw [aQ (aV (u.tups b xs e) n)]; exact u.tups b xs e
 frzs := fun b ob v e => by rw [aQ (aV (u.frzs b ob v e) n)]; exact u.frzs b ob v e
 tbls := fun b ps e => by
  obtain ⟨m, q⟩ := u.tbls b ps e
  exact ⟨m, by rw [aQ (aV q n)]; exact q⟩
theorem HOk.new {P : Program} {w : World} {H : Hp} {h : Heap} {a : Addr} {o : HO} (ok : HOk P w H h) (n : H a = none) (new : cJ P w (upd H a o) h a o) : HOk P w (upd H a o) h := fun b u e => by
 by_cases hb : b = a
 ·subst hb
  rw [aE] at e
  cases e
  exact new
 ·rw [aQ hb] at e
  exact (ok b u e).stay (fun _ _ _ q => q) (fun c q => by rw [aQ (aV q n)]; exact q) fun c xs q => by rw [aQ (aV q n)]; exact q
section
variable {X : Cx} {pins : List (Addr × Obj)} {σ : St} {H H' : Hp} {s s' : Shared} {B h2 : Heap} {ea : Addr} {cls a0 : Value}
theorem aHR (I : Inv X pins σ H s) (os : s'.os = s.os) (bare : AllBare s'.gens) (u : Un (frs X.stack) [] H H' s.heap s'.heap) (ok : HOk X.prog X.w H' s'.heap) (hB : ∀ b o o', s.heap.get? b = some o → s'.heap.get? b = some o' → b ∉ frs X.stack → B.get? b = some o')
  (hT : ∀ b o', H' b ≠ none → s'.heap.get? b = some o' → B.get? b = some o') (fl : Heap.FlyingW B X.stack ea cls a0 h2) (us : s'.heap.UpToSlots h2) : H' ea = none ∧ Inv X pins σ (upd H' ea (rF ea cls)) { s' with heap := h2 } := by
 obtain ⟨oe, ws, he, hc, hd, _⟩ := fl.first
 have u2 := aHQ I u hB fl.1 us
 have k2 := aDP (h2 := h2) ok hT fl.1
 have n : H' ea = none := by
  cases q : H' ea with
  | none => rfl
  | some o =>
   have q' : H' ea ≠ none := by rw [q]; simp
   obtain ⟨o2, e2⟩ := ok.has q'
   have := hT ea o2 q' e2
   rw [fl.2.1] at this
   cases this
 have nn : s.heap.get? ea = none := by
  cases q : s.heap.get? ea with
  | none => rfl
  | some o =>
   obtain ⟨o2, e2⟩ := u.there ea o q (by simp)
   by_cases hb : ea ∈ frs X.stack
   ·obtain ⟨_, o1, e1, nd⟩ := fl.2.2.1.mem hb
    rw [he] at e1
    cases e1
    exact absurd hd (nd ws)
   ·have := hB ea o o2 q e2 hb
    rw [fl.2.1] at this
    cases this
 refine ⟨n, I.call' (s' := { s' with heap := h2 }) (ch := []) os (u2.new n nn) (k2.new n ?_) bare fun b z => absurd z (by simp)⟩
 exact ⟨⟨oe, ws, he, hc, hd⟩, ⟨oe, he⟩, fun h1 h3 ⟨o, vs, e1, e2, e3⟩ k => ⟨o, vs, k o e1, e2, e3⟩⟩
theorem nL {M : Model} {A : Around} {E : Value → Shared → Prop} {i : Nat} {n : Str} {pos : Pos} {Q : Unit → Shared → Prop} (I : Inv X pins σ H s) (hN : X.N.Nodup) (hi : X.N[i]? = some n) (hk : X.env.scope.names.lookup n = some .local)
  (h : ∀ s', Inv X pins (σ.set i none) H s' → Q () s') : wpAny M A (do bindName X.env n .none; unbindBehindTheSuite X.env n pos) Q E s := by
 obtain ⟨m, hn, hl⟩ := id I.loc
 have hcls : (X.env.scope.kind == .class || (X.env.scope.kind == .module && X.env.locals != X.env.globals)) = false := by rw [I.ok.kind]; rfl
 have hiσ : i < σ.length := by rw [I.len]; exact (List.getElem?_eq_some_iff.mp hi).1
 obtain ⟨oL, _, _, hoL, _⟩ := id hn
 have neL : ∀ b o, X.s₀.heap.get? b = some o → b ≠ X.env.locals := fun b o e => Nat.ne_of_lt (Nat.lt_of_lt_of_le (Heap.lt_size e) I.ok.above)
 refine PySem.wpAny_nameGoes_keeps hk hn hcls fun h' v hn' hs => h _ ?_
 refine ⟨I.ok, I.os, I.bare, ⟨fun b o e nb hb hx => ?_, fun b o e nb hb hx => ?_, I.base.free, fun b o e hx => ?_, I.base.tups, I.base.frzs, I.base.tbls⟩, ⟨_, hn', fun j y v' e1 e2 e3 => ?_⟩, fun y c e => ?_, I.free, I.freeC, fun p hp => ?_, fun b ob e => ?_, by simpa using I.len⟩
 ·exact (hs.2 b (neL b o e)).trans (I.base.keep b o e nb hb hx)
 ·obtain ⟨sl, e1⟩ := I.base.slot b o e nb hb hx
  exact ⟨sl, (hs.2 b (neL b o e)).trans e1⟩
 ·obtain ⟨o', e1⟩ := I.base.there b o e hx
  exact ⟨o', (hs.2 b (neL b o e)).trans e1⟩
 ·have hj : j ≠ i := fun z => by
   subst z
   rw [List.getElem?_set_self hiσ] at e2
   cases e2
  rw [List.getElem?_set_ne (Ne.symm hj)] at e2
  obtain ⟨u', r', q⟩ := hl j y v' e1 e2 e3
  refine ⟨u', r', ?_⟩
  rcases q with ⟨k, e⟩ | ⟨k, c, e, z⟩
  ·refine .inl ⟨k, ?_⟩
   have ny : y ≠ n := fun z => hj (tH hN e1 (z ▸ hi))
   show (if y = n then v else m y) = some u'
   rw [if_neg ny]
   exact e
  ·exact .inr ⟨k, c, e, z.sameBut hs (I.cne y c e)⟩
 ·obtain ⟨w', z⟩ := I.cell y c e
  exact ⟨w', z.sameBut hs (I.cne y c e)⟩
 ·obtain ⟨e, nb, ne, nf, d⟩ := I.pin p hp
  exact ⟨(hs.2 p.1 ne).trans e, nb, ne, nf, d⟩
 ·refine (I.hok b ob e).stay (fun c w' hc q => (hs.2 c ?_).trans q) (fun _ q => q) fun _ _ q => q
  rintro rfl
  rcases hc with rfl | hc
  ·rw [I.free] at e; cases e
  ·rw [I.free] at hc; cases hc
end
section
variable {X : Cx} {C : Addr} {x n : Str} {np hpos pos : Pos} {body suite : List Stmt} {b₀ : Stmt} {tb : TB} {ts : TS} {i : Nat}
def Ends.gone (D : Ends) (i : Nat) : Ends := { nx := fun σ H => D.nx (σ.set i none) H, rt := D.rt, bk := fun σ H => D.bk (σ.set i none) H, ct := fun σ H => D.ct (σ.set i none) H }
def aLW (K : PySem.W.Frag) (C : Addr) (i : Nat) (tb : TB) (ts : TS) : TS := fun D σ H => tb (fun cls _ H1 => PySem.W.exmOne K cls (.ref C) = some true ∧ ∀ ea, H1 ea = none → ts (D.gone i) (σ.set i (some (.ref ea))) (upd H1 ea (rF ea cls))) D σ H
theorem aIU (hN : X.N.Nodup) (hi : X.N[i]? = some n) (hk : X.env.scope.names.lookup n = some .local) (hm : X.mg x = some (.ref C)) (hb : PB X body tb) (hs : ∀ ea, PSs (X.held ea) (b₀ :: suite) ts) (hg : Gl X x := by rfl) (hdb : (x == ("__debug__" : Str)) = false := by decide)
  (hst : X.stack = X.env :: X.outer := by rfl) (hf : X.env.frame = some X.env.locals := by rfl) :
  PS X (.Try body [.ExceptHandler (some (.Name x np)) (some n) (b₀ :: suite) hpos] [] [] pos) (aLW X.K C i tb ts) := by
 intro pins s σ H D I h
 refine wpAny_Try_except (wpAny_mono (hb pins s σ H D _ I h) (fun f s1 q => ?_) fun e s1 q => ?_)
 ·cases f with
  | next => exact wpAny_execs_nil q
  | ret v => exact q
  | brk => exact q
  | cont => exact q
 ·obtain ⟨s0, H0, I0, ea, cls, a0, B, H', rfl, os, bare, u, ok, fl, hB, hT, em, q⟩ := q
  have hfr : X.A.frames = some (X.env :: X.outer) := hst ▸ I.ok.frames
  have fl' : Heap.FlyingW B (X.env :: X.outer) ea cls a0 s1.heap := hst ▸ fl
  refine wpAny_looks_onW hfr hf fl' fun h4 held us4 => ?_
  refine wpAny_landsW held fun h5 fl5 us5 => ?_
  have J5 := aDO I0 os bare u ok hB hT fl5.1 (us4.trans us5)
  refine wpAny_handleBy_cons (codeAny_handlers_test (nN (X := X.held ea) (J5.held ea) hg hm ?_ hdb)) (by intro z; cases z)
  refine (PySem.W.exm_one J5.kIn (aEN fl5) em).here ?_
  refine codeAny_handlers_suite_as ?_
  refine lands_againW fl5 fun h6 fl6 us6 => ?_
  obtain ⟨n6, J6⟩ := aHR I0 os bare u ok hB hT (hst.symm ▸ fl6) ((us4.trans us5).trans us6)
  refine rX (X := X.held ea) (i := i) (v := .ref ea) (J6.held ea) hN hi (.inl hk) rfl (fun s7 I7 => ?_) (.inr hk)
  refine wpAny_mono (hs ea pins s7 _ _ (D.gone i) I7 (q ea n6)) (fun f s8 z => ?_) fun _ _ z => False.elim z
  have z' := z.unheld (X := X) I.ok
  cases f with
  | next =>
   obtain ⟨σ', H2, I2, q2⟩ := z'
   exact nL I2 hN hi hk fun s9 I9 => ⟨_, H2, I9, q2⟩
  | brk =>
   obtain ⟨σ', H2, I2, q2⟩ := z'
   exact nL I2 hN hi hk fun s9 I9 => ⟨_, H2, I9, q2⟩
  | cont =>
   obtain ⟨σ', H2, I2, q2⟩ := z'
   exact nL I2 hN hi hk fun s9 I9 => ⟨_, H2, I9, q2⟩
  | ret v =>
   obtain ⟨y, σ', H2, I2, r2, q2⟩ := z'
   exact nL I2 hN hi hk fun s9 I9 => ⟨y, _, H2, I9, r2, q2⟩
end
end L2
namespace L2
open PySem PySem.Spec PyProof.Rows
section
open PySem.W PySem.Calls PySem.Builtin PySem.Builtin.ObjectAttr PySem.Builtin.Getset_descriptor
variable {prog : Program} {w : World} {A : Around} {E : Value → Shared → Prop} {s : Shared} {K : PySem.W.Frag} {x C : Addr}
theorem aBK {M : Model} {h : Heap} {a g : Value} {name : Str} (X : K.In h) (ha : findIn K (.ref C) name = some (some a)) (hg : specialIn K a "__get__" = some (some g)) (ht : takesIn K a = some true) :
  Looks M h (find (.ref x) (.ref C) name) (.bind g a) :=
 (looks_findIn (M := M) X ha).andThen ((show Looks M h (getOf (some a)) (some g) from looks_specialIn X hg).andThen
  ((show Looks M h (dataDescriptor? (some a) (some g)) (some (g, a)) from (looks_takesIn (M := M) X ht).andThen .now).andThen (Looks.tag .now)))
theorem aIB {R : Result → Shared → Prop} {tp : Value} (X : K.In s.heap) (L0 : Looks (model prog w) s.heap (typeOf (.ref x)) (.ref C)) (hm : mroIn K C (.type "object") = some true) (h : R (.ok (.ret (.ref C))) s) :
  codeAny (model prog w) A (.call (.builtin "getset_descriptor.__get__") ⟨[.builtin "object.__class__", .ref x, tp], []⟩) R s := by
 have L1 := looks_mroIn (M := model prog w) X hm
 obtain ⟨h2, g2, d2, t2, o2⟩ := s
 refine codeAny_call_builtin KF.slot_gs.plain KF.entry_gs (KF.slot_gs.check _ _ _ _ _ _ _ _ KF.type_class (KF.args_gs _ _ _) (?_))
 unfold Builtin.«getset_descriptor.__get__»
 unfold descrGet; rw [dga_obj]; refine wpAny_bind (wpAny_pure ?_)
 unfold descrGetter descrCheckInstance; unfold descrNameAndClass isInstance
 simp only [KF.owner_class]
 repeat lk
 refine ⟨Code.quiet_builtin _ (by decide +kernel), (codeAny_builtin KF.entry_class ?_)⟩
 unfold Builtin.«object.__class__»; unfold shownTypeOf
 repeat lk
 exact h
end
structure ExA (K : PySem.W.Frag) (C : Addr) : Prop where
 ex : ExcC K C
 em : PySem.W.exmOne K (.ref C) (.ref C) = some true
structure ExI (K : PySem.W.Frag) (C : Addr) : Prop extends ExA K C where
 pg : PySem.W.plainGet K C "__class__" = true
 ic : InstC K C
end L2
namespace L2
open PySem PySem.Spec PyProof.Rows
section
open PySem.W PySem.Calls PySem.Builtin PySem.Builtin.ObjectAttr PySem.Builtin.Getset_descriptor
variable {prog : Program} {w : World} {A : Around} {E : Value → Shared → Prop} {s : Shared} {K : PySem.W.Frag} {x C : Addr}
theorem yD {Q : Option Value → Shared → Prop} (X : K.In s.heap) (L0 : Looks (model prog w) s.heap (typeOf (.ref x)) (.ref C)) (hga : findIn K (.ref C) "__getattribute__" = some (some (.builtin "BaseException.__getattribute__"))) (hgt : findIn K (.ref C) "__getattr__" = some none)
  (hB : mroIn K C (.type "BaseException") = some true) (I : InstC K C) (h : Q (some (.ref C)) { s with toks := s.toks + 1 }) : wpAny (model prog w) A (getAttr? (.ref x) "__class__") Q E s := by
 have LG := looks_findIn (M := model prog w) X hga
 have LF := aBK (M := model prog w) (x := x) X I.ha I.hn I.htk
 have LH := looks_findIn (M := model prog w) X hgt
 have LB := looks_mroIn (M := model prog w) X hB
 have X' := X
 obtain ⟨h2, g2, d2, t2, o2⟩ := s
 unfold getAttr?; unfold getAttrBy?; unfold getAttrBy
 refine wpAny_bind (wpAny_mkText (wpAny_bind (wpAny_attempt (wpAny_holding (wpAny_bind (L0.at (wpAny_bind (LG.at (?_)))))))))
 have hx2 : (Value.builtin "BaseException.__getattribute__" == Value.builtin "object.__getattribute__") = false := by decide +kernel
 dsimp only
 rw [hx2, Bool.and_false, if_neg Bool.false_ne_true]
 unfold getAttrByItsOwn hookBefore
 refine wpAny_bind (show wpAny _ _ (typeLookup (.ref C) "__getattr__") _ _ _ from LH.at ?_)
 refine wpAny_bind (wpAny_attempt (wpAny_holding ?_))
 show wpAny _ _ (boundAndCalled _ _ _) _ _ _
 unfold boundAndCalled
 refine wpAny_bind (wpAny_of_eq (PySem.F.attr_ValueError.ga.bind (.ref x)) ?_)
 show wpAny _ _ (call (.builtin "BaseException.__getattribute__") [.ref x, .str "__class__" t2]) _ _ _
 refine wpAny_call (codeAny_call_builtin PySem.F.attr_ValueError.ga.plain F.entry_bexc_ga ?_)
 have hk : builtinKind "BaseException.__getattribute__" = some .slot := by decide +kernel
 have hsp : splitId "BaseException.__getattribute__" = some ("BaseException", "__getattribute__") := by decide +kernel
 have hargs := F.args_bexc_ga (.ref x) (.str "__class__" t2)
 simp only [checkBuiltinCall, hk, hsp]
 refine wpAny_bind ?_
 unfold isInstance
 refine wpAny_bind (L0.at (LB.at ?_))
 rw [if_neg (by decide)]
 refine wpAny_of_eq hargs ?_
 unfold Builtin.«object.__getattribute__»
 refine wpAny_bind (wpAny_pure ?_)
 refine wpAny_bind (wpAny_pure ?_)
 refine wpAny_bind (L0.at ?_)
 refine wpAny_bind (LF.at ?_)
 dsimp only
 show wpAny _ _ (holding [.builtin "object.__class__"] (call (.builtin "getset_descriptor.__get__") [.builtin "object.__class__", .ref x, .ref C]) >>= ret) _ _ _
 refine wpAny_bind (wpAny_holding (wpAny_call (aIB (s := ⟨h2, g2, d2, t2 + 1, o2⟩) X' L0 I.hm (?_))))
 refine wpAny_pure ?_
 dsimp only
 exact handed_on rfl (wpAny_pure h)
end
structure ExJ (K : PySem.W.Frag) (C : Addr) : Prop extends ExA K C where
 ga : PySem.W.findIn K (.ref C) "__getattribute__" = some (some (.builtin "BaseException.__getattribute__"))
 gt : PySem.W.findIn K (.ref C) "__getattr__" = some none
 mb : PySem.W.mroIn K C (.type "BaseException") = some true
 ic : InstC K C
theorem aHF {K : PySem.W.Frag} {a C : Addr} (e : ExJ K C) : PySem.W.KitX K (.ref a) (.ref C) (aNI a (.ref C)) where
 ty := fun M h X ⟨o, vs, q, c, d⟩ => c ▸ (PySem.W.Looks.ld q).andThen .now
 it := fun M h X _ => by
  have q := e.em
  unfold PySem.W.exmOne at q
  split at q
  ·exact (PySem.W.kit_cls (M := M) X q).2.1
  ·cases q
 ne := fun h tp dd its n sl X htp => by
  obtain ⟨tl, N, nm, qn, bs, hdct, sn, sub, ab, col, d2, k0, k1, k2, k3, k5, mN, hC, _⟩ := (e.ex.own (x := "") (mg := fun _ => some (.ref C)) X rfl).obj
  refine Bool.eq_false_iff.mpr fun q => ?_
  have z : C = tp := Value.ref.inj (beq_iff_eq.mp q)
  rw [z, htp] at hC
  have w := congrArg Obj.data (Option.some.inj hC)
  exact absurd w (by intro w; cases w)
 ca := fun X ⟨o, vs, q, c, d⟩ k => yD X (c ▸ (PySem.W.Looks.ld q).andThen .now) e.ga e.gt e.mb e.ic k
theorem gM {X : Cx} {K : PySem.W.Frag} (eK : X.K = K) : gO X (.builtin "isinstance") (fun xs H Q => ∃ a y c C b, xs = [.ref a, y] ∧ aJR y = some c ∧ H a = some (rF a (.ref C)) ∧ ExJ K C ∧ PySem.W.kitOne K (.ref C) c = some b ∧ Q (.bl b) H) := by
 subst eK
 intro pins s σ H xs us Q I r h
 obtain ⟨a, y, c, C, b, rfl, hc, ha, e, k, q⟩ := h
 obtain ⟨u, v, rfl, ru, rv⟩ := bL.two r
 obtain rfl := aAC hc rv
 cases ru
 obtain ⟨p, _, _⟩ := (show cJ X.prog X.w H s.heap a (rF a (.ref C)) from I.hok a _ ha)
 exact PySem.W.kia_one (aHF e) I.kIn p k (fun z => nomatch z) fun tk => ⟨.bl b, H, I.tok tk, rfl, q⟩
end L2
namespace L2
open PySem PySem.Spec PyProof.Rows
section
variable {X : Cx} {k : Nat} {ps : List Str} {sp : Sp} {x : Str} {p pos : Pos} {e : Expr} {es : List Expr} {t : TA} {E : XK}
theorem zG (F : FcX X.prog X.w X.K X.mg X.base k x ps sp) (hr : Room k X.A) (hx : lN (CX2 X.prog X.w) X E) (ha : PA X (e :: es) t) (hg : Gl X x := by rfl) (hdb : (x == ("__debug__" : Str)) = false := by decide)
  (he : starEach (e :: es) X.env = (false, eval e X.env) :: starEach es X.env := by rfl) (hpl : (backTo pos (starEach es X.env)).any (·.1) = false := by rfl) : PE X (.Call (.Name x p) (e :: es) [] pos) (aCI sp [] E t) := by
 obtain ⟨f, fd, G, b, m, kp⟩ := F.ex
 exact aDC G hr hg m kp b .nil hx ha hdb he hpl
end
end L2
namespace K62
open PySem L2
local macro_rules | `(tactic| trivial) => `(tactic| first | exact .inl rfl | exact .inr rfl | assumption)
def top (i : Nat) : Stmt := PySem.Challenge.pw_dykemoot_k62_what_they_save.main.body.getD i (.Pass ⟨0, 0, 0, 0⟩)
abbrev oU : Stmt := top 0
abbrev gA : Stmt := top 15
theorem uK : FnScope ["thing"] ["thing"] (aD gA) := ⟨rfl, rfl, rfl, by decide +kernel, rfl, by decide +kernel, by decide +kernel⟩
abbrev iF : Stmt := top 16
theorem xD : FnScope ["thing"] ["thing"] (aD iF) := ⟨rfl, rfl, rfl, by decide +kernel, rfl, by decide +kernel, by decide +kernel⟩
abbrev fG : Stmt := top 17
theorem sG : FnScope ["thing"] ["thing"] (aD fG) := ⟨rfl, rfl, rfl, by decide +kernel, rfl, by decide +kernel, by decide +kernel⟩
abbrev fH : Stmt := top 18
theorem sH : FnScope ["thing"] ["thing"] (aD fH) := ⟨rfl, rfl, rfl, by decide +kernel, rfl, by decide +kernel, by decide +kernel⟩
abbrev fF : Stmt := top 19
theorem sF : FnScope ["thing", "names"] ["thing", "names"] (aD fF) := ⟨rfl, rfl, rfl, by decide +kernel, rfl, by decide +kernel, by decide +kernel⟩
abbrev eS : Stmt := top 20
theorem qW : FnScope ["thing", "most"] ["thing", "most"] (aD eS) := ⟨rfl, rfl, rfl, by decide +kernel, rfl, by decide +kernel, by decide +kernel⟩
abbrev eE : Stmt := top 21
theorem pL : FnScope ["thing", "length"] ["thing", "length"] (aD eE) := ⟨rfl, rfl, rfl, by decide +kernel, rfl, by decide +kernel, by decide +kernel⟩
abbrev eR : Stmt := top 22
theorem qV : FnScope ["rows"] ["rows"] (aD eR) := ⟨rfl, rfl, rfl, by decide +kernel, rfl, by decide +kernel, by decide +kernel⟩
abbrev gB : Stmt := top 23
theorem uL : FnScope ["thing"] ["thing"] (aD gB) := ⟨rfl, rfl, rfl, by decide +kernel, rfl, by decide +kernel, by decide +kernel⟩
abbrev eU : Stmt := top 24
theorem qX : FnScope ["thing"] ["thing"] (aD eU) := ⟨rfl, rfl, rfl, by decide +kernel, rfl, by decide +kernel, by decide +kernel⟩
abbrev fK : Stmt := top 25
theorem sK : FnScope ["one", "other", "sides"] ["one", "other", "sides"] (aD fK) := ⟨rfl, rfl, rfl, by decide +kernel, rfl, by decide +kernel, by decide +kernel⟩
abbrev iE : Stmt := top 26
theorem xC : FnScope ["thing", "crown"] ["thing", "crown"] (aD iE) := ⟨rfl, rfl, rfl, by decide +kernel, rfl, by decide +kernel, by decide +kernel⟩
abbrev iG : Stmt := top 27
theorem xE : FnScope ["thing", "sides"] ["thing", "sides"] (aD iG) := ⟨rfl, rfl, rfl, by decide +kernel, rfl, by decide +kernel, by decide +kernel⟩
abbrev fL : Stmt := top 28
theorem sL : FnScope ["thing", "sides"] ["thing", "sides"] (aD fL) := ⟨rfl, rfl, rfl, by decide +kernel, rfl, by decide +kernel, by decide +kernel⟩
abbrev iD : Stmt := top 29
theorem xB : FnScope ["land", "thing"] ["land", "thing"] (aD iD) := ⟨rfl, rfl, rfl, by decide +kernel, rfl, by decide +kernel, by decide +kernel⟩
abbrev fJ : Stmt := top 30
theorem sJ : FnScope ["land", "thing"] ["land", "thing"] (aD fJ) := ⟨rfl, rfl, rfl, by decide +kernel, rfl, by decide +kernel, by decide +kernel⟩
abbrev dD : Stmt := top 31
theorem dN : FnScope ["land", "thing", "names"] ["land", "thing"] (aD dD) := ⟨rfl, rfl, rfl, by decide +kernel, rfl, by decide +kernel, by decide +kernel⟩
abbrev gE : Stmt := hV (top 32) 0
theorem uO : FnScope ["self", "fields", "dykes"] ["self", "fields", "dykes"] (aD gE) := ⟨rfl, rfl, rfl, by decide +kernel, rfl, by decide +kernel, by decide +kernel⟩
abbrev fP : Stmt := hV (top 32) 1
abbrev eV : Stmt := hV (top 32) 2
theorem qY : FnScope ["self"] ["self"] (aD eV) := ⟨rfl, rfl, rfl, by decide +kernel, rfl, by decide +kernel, by decide +kernel⟩
abbrev cQ : Stmt := hV (top 32) 3
theorem lT : FnScope ["self"] ["self"] (aD cQ) := ⟨rfl, rfl, rfl, by decide +kernel, rfl, by decide +kernel, by decide +kernel⟩
abbrev dE : Stmt := hV (top 32) 4
theorem mE : FnScope ["self"] ["self"] (aD dE) := ⟨rfl, rfl, rfl, by decide +kernel, rfl, by decide +kernel, by decide +kernel⟩
abbrev fC : Stmt := hV (top 32) 5
abbrev eF : Stmt := hV (top 32) 6
theorem pM : FnScope ["self", "field"] ["self", "field"] (aD eF) := ⟨rfl, rfl, rfl, by decide +kernel, rfl, by decide +kernel, by decide +kernel⟩
abbrev hU : Stmt := hV (top 32) 7
abbrev fM : Stmt := hV (top 32) 8
theorem sM : FnScope ["self", "name"] ["self", "name"] (aD fM) := ⟨rfl, rfl, rfl, by decide +kernel, rfl, by decide +kernel, by decide +kernel⟩
abbrev fO : Stmt := hV (top 32) 9
abbrev jE : Stmt := top 34
theorem hW : FnScope ["starts", "steps", "came", "waiting", "near", "step"] ["starts", "steps"] (aD jE) := ⟨rfl, rfl, rfl, by decide +kernel, rfl, by decide +kernel, by decide +kernel⟩
abbrev iC : Stmt := top 35
theorem iR : FnScope ["came", "side", "path", "step"] ["came", "side"] (aD iC) := ⟨rfl, rfl, rfl, by decide +kernel, rfl, by decide +kernel, by decide +kernel⟩
abbrev eT : Stmt := top 37
theorem lP : FnScope ["land", "fields", "height"] ["land", "fields", "height"] (aD eT) := ⟨rfl, rfl, rfl, by decide +kernel, rfl, by decide +kernel, by decide +kernel⟩
abbrev gC : Stmt := top 38
theorem uM : FnScope ["dyke", "height"] ["dyke", "height"] (aD gC) := ⟨rfl, rfl, rfl, by decide +kernel, rfl, by decide +kernel, by decide +kernel⟩
abbrev gD : Stmt := top 39
theorem uN : FnScope ["land", "works"] ["land", "works"] (aD gD) := ⟨rfl, rfl, rfl, by decide +kernel, rfl, by decide +kernel, by decide +kernel⟩
abbrev jF : Stmt := top 40
theorem zB : FnScope ["land", "side", "height"] ["land", "side", "height"] (aD jF) := ⟨rfl, rfl, rfl, by decide +kernel, rfl, by decide +kernel, by decide +kernel⟩
abbrev jG : Stmt := top 41
theorem zC : FnScope ["land", "dyke", "height"] ["land", "dyke", "height"] (aD jG) := ⟨rfl, rfl, rfl, by decide +kernel, rfl, by decide +kernel, by decide +kernel⟩
abbrev fI : Stmt := top 42
theorem sI : FnScope ["land", "height"] ["land", "height"] (aD fI) := ⟨rfl, rfl, rfl, by decide +kernel, rfl, by decide +kernel, by decide +kernel⟩
abbrev eQ : Stmt := top 43
theorem fN : FnScope ["land", "names", "steps", "name", "dyke"] ["land", "names"] (aD eQ) := ⟨rfl, rfl, rfl, by decide +kernel, rfl, by decide +kernel, by decide +kernel⟩
abbrev mF : Stmt := top 44
theorem aED : FnScope ["step", "most", "stream"] ["step", "most", "stream"] (aD mF) := ⟨rfl, rfl, rfl, by decide +kernel, rfl, by decide +kernel, by decide +kernel⟩
abbrev hZ : Stmt := top 45
theorem xA : FnScope ["steps", "most", "stream"] ["steps", "most", "stream"] (aD hZ) := ⟨rfl, rfl, rfl, by decide +kernel, rfl, by decide +kernel, by decide +kernel⟩
abbrev dI : Stmt := top 46
theorem fD : FnScope ["steps", "most", "stream", "fields", "came", "ends"] ["steps", "most", "stream", "fields"] (aD dI) := ⟨rfl, rfl, rfl, by decide +kernel, rfl, by decide +kernel, by decide +kernel⟩
abbrev dJ : Stmt := top 47
theorem cK : FnScope ["steps", "most", "fields", "stream", "path", "amount", "step"] ["steps", "most", "fields"] (aD dJ) := ⟨rfl, rfl, rfl, by decide +kernel, rfl, by decide +kernel, by decide +kernel⟩
abbrev eD : Stmt := top 48
theorem kK : FnScope ["steps", "flowed", "fields", "height", "behind"] ["steps", "flowed", "fields", "height"] (aD eD) := ⟨rfl, rfl, rfl, by decide +kernel, rfl, by decide +kernel, by decide +kernel⟩
abbrev jH : Stmt := top 49
theorem eO : FnScope ["land", "fields", "height", "most", "steps", "stream", "works", "amounts"] ["land", "fields", "height"] (aD jH) := ⟨rfl, rfl, rfl, by decide +kernel, rfl, by decide +kernel, by decide +kernel⟩
abbrev dR : Stmt := top 51
theorem jV : FnScope ["height"] ["height"] (aD dR) := ⟨rfl, rfl, rfl, by decide +kernel, rfl, by decide +kernel, by decide +kernel⟩
abbrev mG : Stmt := top 52
theorem vF : FnScope ["land", "fields", "height"] ["land", "fields", "height"] (aD mG) := ⟨rfl, rfl, rfl, by decide +kernel, rfl, by decide +kernel, by decide +kernel⟩
abbrev kL : Stmt := top 53
theorem gT : FnScope ["land", "one", "other", "height", "apart", "either", "both"] ["land", "one", "other", "height"] (aD kL) := ⟨rfl, rfl, rfl, by decide +kernel, rfl, by decide +kernel, by decide +kernel⟩
abbrev iJ : Stmt := top 55
theorem xF : FnScope ["_law_script", "_law_k"] ["_law_script", "_law_k"] (aD iJ) := ⟨rfl, rfl, rfl, by decide +kernel, rfl, by decide +kernel, by decide +kernel⟩
abbrev kN : Stmt := top 56
theorem sN : FnScope ["_law_cell", "_law_k", "_law_number"] ["_law_cell", "_law_k"] (aD kN) := ⟨rfl, rfl, rfl, by decide +kernel, rfl, by decide +kernel, by decide +kernel⟩
abbrev gU : Stmt := top 57
theorem eP : FnScope ["_law_cell", "_law_many", "_law_letters", "_law_size", "_law_base", "_law_at", "_law_words_here", "_law_k", "_law_inner"] ["_law_cell", "_law_many"] (aD gU) := ⟨rfl, rfl, rfl, by decide +kernel, rfl, by decide +kernel, by decide +kernel⟩
abbrev mI : Stmt := top 58
theorem aEE : FnScope ["_law_number"] ["_law_number"] (aD mI) := ⟨rfl, rfl, rfl, by decide +kernel, rfl, by decide +kernel, by decide +kernel⟩
abbrev mH : Stmt := top 59
theorem vG : FnScope ["_law_number", "_law_most_here"] ["_law_number"] (aD mH) := ⟨rfl, rfl, rfl, by decide +kernel, rfl, by decide +kernel, by decide +kernel⟩
abbrev jI : Stmt := top 60
theorem fV : FnScope ["_law_script", "_law_many", "_law_names", "_law_found", "_law_k", "_law_number", "_law_ground"] ["_law_script", "_law_many"] (aD jI) := ⟨rfl, rfl, rfl, by decide +kernel, rfl, by decide +kernel, by decide +kernel⟩
abbrev kP : Stmt := top 61
theorem cH : FnScope ["_law_script", "_law_fields_here", "_law_many", "_law_names", "_law_sides", "_law_found", "_law_k", "_law_number", "_law_one", "_law_other", "_law_crown", "_law_rate", "_law_sill"] ["_law_script", "_law_fields_here", "_law_many"] (aD kP) := ⟨rfl, rfl, rfl, by decide +kernel, rfl, by decide +kernel, by decide +kernel⟩
abbrev kM : Stmt := top 62
theorem oF : FnScope ["_law_script", "_law_cell", "_law_fields_here"] ["_law_script"] (aD kM) := ⟨rfl, rfl, rfl, by decide +kernel, rfl, by decide +kernel, by decide +kernel⟩
abbrev kO : Stmt := top 63
theorem cE : FnScope ["_law_fields_here", "_law_dykes_here", "_law_wish", "_law_height", "_law_low", "_law_gaps", "_law_name", "_law_one", "_law_other", "_law_crown", "_law_rate", "_law_sill", "_law_free", "_law_choices", "_law_sums", "_law_inner"] ["_law_fields_here", "_law_dykes_here", "_law_wish", "_law_height"] (aD kO) := ⟨rfl, rfl, rfl, by decide +kernel, rfl, by decide +kernel, by decide +kernel⟩
abbrev iI : Stmt := top 64
theorem iS : FnScope ["_law_names", "_law_number", "_law_found", "_law_k"] ["_law_names", "_law_number"] (aD iI) := ⟨rfl, rfl, rfl, by decide +kernel, rfl, by decide +kernel, by decide +kernel⟩
abbrev iH : Stmt := top 65
theorem oT : FnScope ["_law_land", "_law_one", "_law_other", "_law_height", "e"] ["_law_land", "_law_one", "_law_other", "_law_height"] (aD iH) := ⟨rfl, rfl, rfl, by decide +kernel, rfl, by decide +kernel, by decide +kernel⟩
abbrev eI : Stmt := top 66
theorem fB : FnScope ["_law_land", "_law_names", "_law_cell", "_law_odd", "_law_none", "_law_one"] ["_law_land", "_law_names", "_law_cell"] (aD eI) := ⟨rfl, rfl, rfl, by decide +kernel, rfl, by decide +kernel, by decide +kernel⟩
abbrev nJ : Stmt := top 67
theorem dC : FnScope ["_law_script", "_law_fields_here", "_law_dykes_here", "_law_land", "_law_names", "_law_k", "_law_number", "_law_one", "_law_other", "_law_height", "_law_either", "_law_both", "_law_due", "_law_handed", "_law_found"] ["_law_script"] (aD nJ) := ⟨rfl, rfl, rfl, by decide +kernel, rfl, by decide +kernel, by decide +kernel⟩
structure Txt (K : PySem.W.Frag) (mg : Str → Option Value) (C : Addr) : Prop where
 cl_Land : Cls K C
 mg_Land : mg "Land" = some (.ref C)
 a_field_rows : nG K C "field_rows"
 a_dyke_rows : nG K C "dyke_rows"
 ci_Land : InstC K C
 i_Land : InitAt K C "Land.__init__" gE ["self", "fields", "dykes"]
 m_land_p_fields : MethAt K C "fields" "Land.fields" fP ["self"]
 m_land_p_dykes : MethAt K C "dykes" "Land.dykes" eV ["self"]
 m_land_p_field_names : MethAt K C "field_names" "Land.field_names" cQ ["self"]
 m_land_p_dyke_names : MethAt K C "dyke_names" "Land.dyke_names" dE ["self"]
 m_land_p_sluices : MethAt K C "sluices" "Land.sluices" fC ["self"]
 m_land_p_ground : MethAt K C "ground" "Land.ground" eF ["self", "field"]
 m_land_p_dues : MethAt K C "dues" "Land.dues" hU ["self", "field"]
 m_land_p_dyke : MethAt K C "dyke" "Land.dyke" fM ["self", "name"]
 m_land_p_raised : MethAt K C "raised" "Land.raised" fO ["self", "works"]
 xs : ∃ c_NoWish c_DykeError c_NoLand c_NoWork c_TooMany : Addr, (ExJ K c_NoWish) ∧ mg "NoWish" = some (.ref c_NoWish) ∧ mg "DykeError" = some (.ref c_DykeError) ∧ mg "NoLand" = some (.ref c_NoLand) ∧ mg "NoWork" = some (.ref c_NoWork) ∧ mg "TooMany" = some (.ref c_TooMany) ∧ PySem.W.kitOne K (.ref c_NoWish) (.ref c_DykeError) = some true ∧ PySem.W.kitOne K (.ref c_NoWish) (.ref c_NoLand) = some false ∧ PySem.W.kitOne K (.ref c_NoWish) (.ref c_NoWork) = some false ∧ PySem.W.kitOne K (.ref c_NoWish) (.ref c_TooMany) = some false ∧ PySem.W.kitOne K (.ref c_NoWish) (.ref c_NoWish) = some true ∧ PySem.W.kitOne K (.ref c_NoWish) (.type "ValueError") = some true ∧ PySem.W.exmOne K (.ref c_NoWish) (.ref c_DykeError) = some true
 d_p_wall : DefAt K mg "_wall" oU ["k"]
 d_p_is_whole : DefAt K mg "is_whole" gA ["thing"]
 d_p_is_name : DefAt K mg "is_name" iF ["thing"]
 d_p_is_height : DefAt K mg "is_height" fG ["thing"]
 d_p_is_amount : DefAt K mg "is_amount" fH ["thing"]
 d_p_is_one_of : DefAt K mg "is_one_of" fF ["thing", "names"]
 d_p_is_list_of : DefAt K mg "is_list_of" eS ["thing", "most"]
 d_p_is_tuple_of : DefAt K mg "is_tuple_of" eE ["thing", "length"]
 d_p_none_twice : DefAt K mg "none_twice" eR ["rows"]
 d_p_is_field : DefAt K mg "is_field" gB ["thing"]
 d_p_are_fields : DefAt K mg "are_fields" eU ["thing"]
 d_p_are_sides : DefAt K mg "are_sides" fK ["one", "other", "sides"]
 d_p_is_sill : DefAt K mg "is_sill" iE ["thing", "crown"]
 d_p_is_dyke : DefAt K mg "is_dyke" iG ["thing", "sides"]
 d_p_are_dykes : DefAt K mg "are_dykes" fL ["thing", "sides"]
 d_p_is_work : DefAt K mg "is_work" iD ["land", "thing"]
 d_p_are_works : DefAt K mg "are_works" fJ ["land", "thing"]
 d_p_are_some_fields : DefAt K mg "are_some_fields" dD ["land", "thing"]
 d_p_spread : DefAt K mg "spread" jE ["starts", "steps"]
 d_p_path_to : DefAt K mg "path_to" iC ["came", "side"]
 d_p_check_wish : DefAt K mg "check_wish" eT ["land", "fields", "height"]
 d_p_coins_to : DefAt K mg "coins_to" gC ["dyke", "height"]
 d_p_coins_of : DefAt K mg "coins_of" gD ["land", "works"]
 d_p_is_low : DefAt K mg "is_low" jF ["land", "side", "height"]
 d_p_is_gap : DefAt K mg "is_gap" jG ["land", "dyke", "height"]
 d_p_gap_coins : DefAt K mg "gap_coins" fI ["land", "height"]
 d_p_steps_over : DefAt K mg "steps_over" eQ ["land", "names"]
 d_p_room : DefAt K mg "room" mF ["step", "most", "stream"]
 d_p_reached : DefAt K mg "reached" hZ ["steps", "most", "stream"]
 d_p_path_with_room : DefAt K mg "path_with_room" dI ["steps", "most", "stream", "fields"]
 d_p_fullest_stream : DefAt K mg "fullest_stream" dJ ["steps", "most", "fields"]
 d_p_works_round : DefAt K mg "works_round" eD ["steps", "flowed", "fields", "height"]
 d_p_fewest : DefAt K mg "fewest" jH ["land", "fields", "height"]
 d_p_cost_of_none : DefAt K mg "cost_of_none" dR ["height"]
 d_p_cost : DefAt K mg "cost" mG ["land", "fields", "height"]
 d_p_saved : DefAt K mg "saved" kL ["land", "one", "other", "height"]
 d_l_cell_at : DefAt K mg "_law_cell_at" iJ ["_law_script", "_law_k"]
 d_l_mixed : DefAt K mg "_law_mixed" kN ["_law_cell", "_law_k"]
 d_l_words : DefAt K mg "_law_words" gU ["_law_cell", "_law_many"]
 d_l_high : DefAt K mg "_law_high" mI ["_law_number"]
 d_l_most : DefAt K mg "_law_most" mH ["_law_number"]
 d_l_fields : DefAt K mg "_law_fields" jI ["_law_script", "_law_many"]
 d_l_dykes : DefAt K mg "_law_dykes" kP ["_law_script", "_law_fields_here", "_law_many"]
 d_l_small : DefAt K mg "_law_small" kM ["_law_script"]
 d_l_least : DefAt K mg "_law_least" kO ["_law_fields_here", "_law_dykes_here", "_law_wish", "_law_height"]
 d_l_company : DefAt K mg "_law_company" iI ["_law_names", "_law_number"]
 d_l_refused : DefAt K mg "_law_refused" iH ["_law_land", "_law_one", "_law_other", "_law_height"]
 d_l_all_refused : DefAt K mg "_law_all_refused" eI ["_law_land", "_law_names", "_law_cell"]
 d_p_law : DefAt K mg "law" nJ ["_law_script"]
 g_SEA : lO mg "SEA" (.str "sea")
 g_LETTERS : lO mg "LETTERS" (.str "abcdefghijklmnopqrstuvwxyz")
 g_MOST_LETTERS : lO mg "MOST_LETTERS" (.int 8)
 g_MOST_HEIGHT : lO mg "MOST_HEIGHT" (.int 1000000)
 g_MOST_AMOUNT : lO mg "MOST_AMOUNT" (.int 1000000)
 g_MOST_FIELDS : lO mg "MOST_FIELDS" (.int 12)
 g_MOST_DYKES : lO mg "MOST_DYKES" (.int 40)
 n_ValueError : mg "ValueError" = none
 n_all : mg "all" = none
 n_bool : mg "bool" = none
 n_dict : mg "dict" = none
 n_int : mg "int" = none
 n_isinstance : mg "isinstance" = none
 n_len : mg "len" = none
 n_list : mg "list" = none
 n_max : mg "max" = none
 n_min : mg "min" = none
 n_range : mg "range" = none
 n_reversed : mg "reversed" = none
 n_set : mg "set" = none
 n_str : mg "str" = none
 n_sum : mg "sum" = none
 n_tuple : mg "tuple" = none
section
variable {P : Program} {w : World} {K : PySem.W.Frag} {mg : Str → Option Value} {base : Heap} {C : Addr}
open Ld
theorem bY : (1000 : Nat) ≤ sizeLine := by decide
def wO : Sp := sp1 fun x H Q => ∃ d, Is H d x ∧ Q (.bl (isInt d)) H
theorem nY (T : Txt K mg C) : Fc P w K mg base 1 "is_whole" ["thing"] wO := by
 refine T.d_p_is_whole.fc uK oK (fun f cdv A outer s H vs Q E hr h => ?_)
 obtain ⟨x, rfl, d, hd, q⟩ := h
 obtain ⟨t, ty, e1, e2, _⟩ := oO K hd
 refine ⟨_, (aH (@aS _ _ _ _ (@cZ _ _ _ _ _ _ _ (@aT _ _ _ _ _ _ _ _ _ (@cD _ (K) rfl) rfl T.n_isinstance bA (aA (pv 0) (aA (@kR _ _ _ _ T.n_int wG (by rfl) (by decide) (by decide)) aB)) (by decide) (by decide) (by rfl) (by rfl)) (@dS _ _ _ _ _ (@aKX _ _ _ _ (@aT _ _ _ _ _ _ _ _ _ (@cD _ (K) rfl) rfl T.n_isinstance bA (aA (pv 0) (aA (@kR _ _ _ _ T.n_bool uI (by rfl) (by decide) (by decide)) aB)) (by decide) (by decide) (by rfl) (by rfl))))))), ?_⟩
 refine ⟨_, rfl, _, _, _, t, _, rfl, rfl, ty, e1, _, rfl, ?_⟩
 refine jR (fun h => ?_) (fun h => ?_)
 ·refine ⟨_, rfl, _, _, _, t, _, rfl, rfl, ty, e2, _, rfl, ?_⟩
  have e : (!aHI d) = isInt d := by cases d <;> simp_all [isInt, aHI]
  rw [e]
  exact q
 ·have e : isInt d = false := by cases d <;> simp_all [isInt, aHI]
  rw [e] at q
  exact q
def aAT : Sp := sp1 fun x H Q => ∃ d, Is H d x ∧ dB d = true ∧ Q (.bl (oM d)) H
theorem pB (T : Txt K mg C) : Fc P w K mg base 1 "is_name" ["thing"] aAT := by
 refine T.d_p_is_name.fcD xD oK (fun f cdv A outer s H vs Q E hr h => ?_)
 obtain ⟨x, rfl, d, hd, hz, q⟩ := h
 obtain ⟨t, ty, e1, e2, e3, _⟩ := oO K hd
 have big := bY
 refine ⟨_, (aG (@dL _ _ _ _ _ _ _ _ (@PW.pt _ _ _ (@iK _ _ _ _ _ _ _ (@cY _ _ _ _ (@cB _ _ _ (@aT _ _ _ _ _ _ _ _ _ (@cD _ (K) rfl) rfl T.n_isinstance bA (aA (pv 0) (aA (@kR _ _ _ _ T.n_str wE (by rfl) (by decide) (by decide)) aB)) (by decide) (by decide) (by rfl) (by rfl)) (by intro _; rfl))) (@gW _ _ _ _ (@cY _ _ _ _ (@aGO _ _ _ _ _ _ _ _ _ _ _ _ qM qM aF (@aT _ _ _ _ _ _ _ _ _ yG rfl T.n_len bT (aA (pv 0) aB) (by decide) (by decide) (by rfl) (by rfl)) (@sR _ _ _ _ T.g_MOST_LETTERS (by rfl) (by decide)) (by with_unfolding_all rfl)))))) (aH (@aS _ _ _ _ kS)) bQ) (aH (@aS _ _ _ _ (@cZ _ _ _ _ _ _ _ (@dQ _ _ _ _ _ _ _ _ vL (pv 0) (@sR _ _ _ _ T.g_SEA (by rfl) (by decide)) (@bO _ _ (by decide) (by decide))) (@dS _ _ _ _ _ (@aT _ _ _ _ _ _ _ _ _ (@lB _ rfl) rfl T.n_all jB (aA (@bX _ _ _ _ _ _ _ _ _ _ _ ["sign"] 1 [] rfl (@aKV _ _ _ _ (pv 0)) (fun R => @aP _ _ (0) _ (show List.Nodup (["sign"] : List Str) by decide +kernel) rfl (Or.inl rfl) (by trivial)) (@aX _ _ (by decide)) (fun R => cI) (fun R => (@dQ _ _ _ _ _ _ _ _ aEJ (pv 0) (@sR _ _ _ _ T.g_LETTERS (by rfl) (by decide)) (by with_unfolding_all rfl))) (by rfl) (by rfl) (by rfl) (by rfl) (by rfl) (by rfl) (by rfl) (by intro _; rfl)) aB) (by decide) (by decide) (by rfl) (by rfl))))))), ?_⟩
 refine ⟨_, rfl, _, _, _, t, _, rfl, rfl, ty, e3, _, rfl, ?_⟩
 cases d with
 | str z =>
  cases (show x = .str z from hd)
  have hz : z.length ≤ 1000 := of_decide_eq_true hz
  have q : Q (.bl (eW z)) H := q
  have hzs : z.length ≤ sizeLine := by omega
  refine bG ?_
  refine ⟨_, rfl, z, rfl, hzs, _, _, rfl, rfl, _, rfl, ?_⟩
  refine jR (fun h1 => ?_) (fun h1 => ?_)
  ·refine ⟨_, _, rfl, rfl, _, rfl, ?_⟩
   have h1' : 1 ≤ z.length := by
    have := of_decide_eq_true h1
    omega
   refine jR (fun h2 => ?_) (fun h2 => ?_)
   ·have e : eW z = false := by
     have h2' : ¬ z.length ≤ 8 := by
      intro h3
      have : ((z.length : Nat) : Int) ≤ 8 := by omega
      simp [this] at h2
     simp [eW, h2']
    rw [e] at q
    exact cV.of (.refl _) q
   ·have h2' : z.length ≤ 8 := by
     have h3 : decide (((z.length : Nat) : Int) ≤ 8) = true := by
      cases h4 : decide (((z.length : Nat) : Int) ≤ 8) with
      | true => rfl
      | false => exact absurd (by rw [h4]; rfl) h2
     have := of_decide_eq_true h3
     omega
    refine ⟨_, rfl, rfl, _, rfl, ?_⟩
    refine jR (fun h3 => ?_) (fun h3 => ?_)
    ·have h3' : ¬ z = "sea" := by
      intro h4
      subst h4
      simp at h3
     refine ⟨_, rfl, z, rfl, ?_⟩
     refine aIA (Nat.le_trans hz (by decide)) (fun i ys H' => H' = H ∧ ys = (z.cps.toList.take i).map fun c => V.bl (fE c)) ⟨rfl, rfl⟩ ?_ ?_ ?_
     ·rintro i ys H' ⟨_, rfl⟩
      rw [List.length_map, List.length_take]
      omega
     ·rintro i c ys H' K1 K2 hc ⟨rfl, rfl⟩ k1 k2
      refine ⟨_, rfl, _, _, rfl, rfl, k1 _ _ ⟨rfl, ?_⟩⟩
      have hc' : z.cps.toList[i]? = some c := by simpa using hc
      rw [List.take_add_one, hc', aBO]
      simp
     ·rintro ys H' ⟨rfl, rfl⟩
      intro p hp'
      refine ⟨p, z.cps.toList.map fE, rfl, SqL.of ?_, ?_⟩
      ·rw [aE, List.take_of_length_le (by simp), List.map_map]
       rfl
      ·refine ⟨H', gN.lst hp', ?_⟩
       have e : eW z = (z.cps.toList.map fE).all id := by
        rw [List.all_map]
        simp [eW, h1', h2', h3']
       rw [← e]
       exact q
    ·have e : eW z = false := by
      have h4 : z = "sea" := by
       apply Classical.byContradiction
       intro h5
       exact h3 (by simp [h5])
      subst h4
      simp [eW]
     rw [e] at q
     exact cV.of (.refl _) q
  ·have e : eW z = false := by
    have h1' : ¬ 1 ≤ z.length := by
     intro h3
     exact h1 (decide_eq_true (by omega))
    simp [eW, h1']
   rw [e] at q
   exact ⟨_, rfl, cV.of (.refl _) q⟩
 | non => exact cV.of (.refl _) q
 | bl b => exact cV.of (.refl _) q
 | int i => exact cV.of (.refl _) q
 | lst a => exact cV.of (.refl _) q
 | tup a => exact cV.of (.refl _) q
 | dct a b => exact cV.of (.refl _) q
def fZ : Sp := sp1 fun x H Q => ∃ d, Is H d x ∧ Q (.bl (cT d)) H
theorem cR (T : Txt K mg C) : Fc P w K mg base 2 "is_height" ["thing"] fZ := by
 have G_p_is_whole : Fc P w K mg base 1 "is_whole" ["thing"] wO := nY T
 refine T.d_p_is_height.fc sG oK (fun f cdv A outer s H vs Q E hr h => ?_)
 obtain ⟨x, rfl, d, hd, q⟩ := h
 refine ⟨_, (aH (@aS _ _ _ _ (@cZ _ _ _ _ _ _ _ (@bD _ _ _ _ _ _ _ _ _ _ G_p_is_whole (hr.mono (by decide)) (aA (pv 0) aB) (by rfl) (by decide) (by rfl) (by rfl)) (@dS _ _ _ _ _ (@sT _ _ _ _ _ _ _ _ _ _ _ _ qM qM (@aGR _ _ _ _ _ _ aAP (@sR _ _ _ _ T.g_MOST_HEIGHT (by rfl) (by decide))) (pv 0) (@sR _ _ _ _ T.g_MOST_HEIGHT (by rfl) (by decide)) (by with_unfolding_all rfl)))))), ?_⟩
 refine ⟨_, rfl, _, rfl, d, hd, _, rfl, ?_⟩
 cases d with
 | int i =>
  cases (show x = .int i from hd)
  refine cA ?_
  have q : Q (.bl (decide (-1000000 ≤ i) && decide (i ≤ 1000000))) H := q
  refine ⟨_, rfl, _, rfl, _, _, rfl, rfl, _, rfl, ?_⟩
  refine jR (fun h1 => ?_) (fun h1 => ?_)
  ·refine ⟨_, _, rfl, rfl, ?_⟩
   rw [decide_eq_true (show -1000000 ≤ i from of_decide_eq_true h1), Bool.true_and] at q
   exact q
  ·rw [show decide (-1000000 ≤ i) = false from by simpa using h1, Bool.false_and] at q
   exact q
 | _ => exact bG q
def sC : Sp := sp1 fun x H Q => ∃ d, Is H d x ∧ Q (.bl (kU d)) H
theorem mO (T : Txt K mg C) : Fc P w K mg base 2 "is_amount" ["thing"] sC := by
 have G_p_is_whole : Fc P w K mg base 1 "is_whole" ["thing"] wO := nY T
 refine T.d_p_is_amount.fc sH oK (fun f cdv A outer s H vs Q E hr h => ?_)
 obtain ⟨x, rfl, d, hd, q⟩ := h
 refine ⟨_, (aH (@aS _ _ _ _ (@cZ _ _ _ _ _ _ _ (@bD _ _ _ _ _ _ _ _ _ _ G_p_is_whole (hr.mono (by decide)) (aA (pv 0) aB) (by rfl) (by decide) (by rfl) (by rfl)) (@dS _ _ _ _ _ (@sT _ _ _ _ _ _ _ _ _ _ _ _ qM qM aF (pv 0) (@sR _ _ _ _ T.g_MOST_AMOUNT (by rfl) (by decide)) (by with_unfolding_all rfl)))))), ?_⟩
 refine ⟨_, rfl, _, rfl, d, hd, _, rfl, ?_⟩
 cases d with
 | int i =>
  cases (show x = .int i from hd)
  refine cA ?_
  have q : Q (.bl (decide (0 ≤ i) && decide (i ≤ 1000000))) H := q
  refine ⟨_, rfl, _, _, rfl, rfl, _, rfl, ?_⟩
  refine jR (fun h1 => ?_) (fun h1 => ?_)
  ·refine ⟨_, _, rfl, rfl, ?_⟩
   rw [decide_eq_true (show 0 ≤ i from of_decide_eq_true h1), Bool.true_and] at q
   exact q
  ·rw [show decide (0 ≤ i) = false from by simpa using h1, Bool.false_and] at q
   exact q
 | _ => exact bG q
def oQ (K : PySem.W.Frag) : Sp := sp2 fun x y H Q => ∃ (d : Dv) (p : Addr) (zs : List Str), Is H d x ∧ y = .ref p ∧ SqL K H p (zs.map V.str) ∧ Q (.bl (gH zs d)) H
theorem gJ (z : Str) (zs : List Str) : inV (.str z) (zs.map V.str) = decide (z ∈ zs) := by
 unfold inV
 rw [Bool.eq_iff_iff, List.any_eq_true, decide_eq_true_iff]
 constructor
 ·rintro ⟨y, hy, e⟩
  obtain ⟨u, hu, rfl⟩ := List.mem_map.mp hy
  have e' : (u == z) = true := e
  rw [← beq_iff_eq.mp e']
  exact hu
 ·intro h
  exact ⟨_, List.mem_map.mpr ⟨z, h, rfl⟩, beq_self_eq_true z⟩
theorem dW (zs : List Str) : (zs.map V.str).all pE = true := by
 rw [List.all_eq_true]
 intro y hy
 obtain ⟨u, _, rfl⟩ := List.mem_map.mp hy
 rfl
theorem gI (T : Txt K mg C) : Fc P w K mg base 1 "is_one_of" ["thing", "names"] (oQ K) := by
 refine T.d_p_is_one_of.fc sF jM (fun f cdv A outer s H vs Q E hr h => ?_)
 obtain ⟨x, y, rfl, d, p, zs, hd, rfl, hp, q⟩ := h
 obtain ⟨t, ty, e1, e2, e3, _⟩ := oO K hd
 refine ⟨_, (aH (@aS _ _ _ _ (@cZ _ _ _ _ _ _ _ (@aT _ _ _ _ _ _ _ _ _ (@cD _ (K) rfl) rfl T.n_isinstance bA (aA (pv 0) (aA (@kR _ _ _ _ T.n_str wE (by rfl) (by decide) (by decide)) aB)) (by decide) (by decide) (by rfl) (by rfl)) (@dS _ _ _ _ _ (@dQ _ _ _ _ _ _ _ _ (@dZ _ (K) rfl) (pv 0) (pv 1) (by with_unfolding_all rfl)))))), ?_⟩
 refine ⟨_, rfl, _, _, _, t, _, rfl, rfl, ty, e3, _, rfl, ?_⟩
 cases d with
 | str z =>
  cases (show x = .str z from hd)
  refine cA ⟨_, rfl, _, rfl, p, _, rfl, .inl hp, rfl, dW zs, ?_⟩
  show Q (.bl (inV (.str z) (zs.map V.str))) H
  rw [gJ]
  exact q
 | _ => exact bG q
def mD : Sp := sp2 fun x y H Q => ∃ (d : Dv) (n : Int), Is H d x ∧ y = .int n ∧ Q (.bl (vR n d)) H
theorem fR (T : Txt K mg C) : Fc P w K mg base 1 "is_list_of" ["thing", "most"] mD := by
 refine T.d_p_is_list_of.fc qW jM (fun f cdv A outer s H vs Q E hr h => ?_)
 obtain ⟨x, y, rfl, d, n, hd, rfl, q⟩ := h
 obtain ⟨t, ty, e1, e2, e3, e4, _⟩ := oO K hd
 refine ⟨_, (aH (@aS _ _ _ _ (@cZ _ _ _ _ _ _ _ (@aT _ _ _ _ _ _ _ _ _ (@cD _ (K) rfl) rfl T.n_isinstance bA (aA (pv 0) (aA (@kR _ _ _ _ T.n_list dA (by rfl) (by decide) (by decide)) aB)) (by decide) (by decide) (by rfl) (by rfl)) (@dS _ _ _ _ _ (@sT _ _ _ _ _ _ _ _ _ _ _ _ qM qM aF (@aT _ _ _ _ _ _ _ _ _ (@bH _ (K) rfl) rfl T.n_len bT (aA (pv 0) aB) (by decide) (by decide) (by rfl) (by rfl)) (pv 1) (by with_unfolding_all rfl)))))), ?_⟩
 refine ⟨_, rfl, _, _, _, t, _, rfl, rfl, ty, e4, _, rfl, ?_⟩
 cases d with
 | lst ds =>
  obtain ⟨a, vs, rfl, o, hl⟩ := hd
  have hlen := hl.length
  have q : Q (.bl (decide (1 ≤ ds.length) && decide ((ds.length : Int) ≤ n))) H := q
  refine cA ⟨_, rfl, a, vs, rfl, .inl (SqL.of o), _, _, rfl, rfl, _, rfl, ?_⟩
  rw [hlen]
  refine jR (fun h1 => ?_) (fun h1 => ?_)
  ·refine ⟨_, rfl, _, _, rfl, rfl, ?_⟩
   have h1' : 1 ≤ ds.length := by have := of_decide_eq_true h1; omega
   rw [decide_eq_true h1', Bool.true_and] at q
   exact q
  ·have h1' : ¬ 1 ≤ ds.length := fun c => h1 (decide_eq_true (by omega))
   rw [decide_eq_false h1', Bool.false_and] at q
   exact q
 | _ => exact bG q
def rN : Sp := sp2 fun x y H Q => ∃ (d : Dv) (n : Int), Is H d x ∧ y = .int n ∧ Q (.bl (aCE n d)) H
theorem gY (T : Txt K mg C) : Fc P w K mg base 1 "is_tuple_of" ["thing", "length"] rN := by
 refine T.d_p_is_tuple_of.fc pL jM (fun f cdv A outer s H vs Q E hr h => ?_)
 obtain ⟨x, y, rfl, d, n, hd, rfl, q⟩ := h
 obtain ⟨t, ty, e1, e2, e3, e4, e5⟩ := oO K hd
 refine ⟨_, (aH (@aS _ _ _ _ (@cZ _ _ _ _ _ _ _ (@aT _ _ _ _ _ _ _ _ _ (@cD _ (K) rfl) rfl T.n_isinstance bA (aA (pv 0) (aA (@kR _ _ _ _ T.n_tuple aAH (by rfl) (by decide) (by decide)) aB)) (by decide) (by decide) (by rfl) (by rfl)) (@dS _ _ _ _ _ (@dQ _ _ _ _ _ _ _ _ jK (@aT _ _ _ _ _ _ _ _ _ (@bH _ (K) rfl) rfl T.n_len bT (aA (pv 0) aB) (by decide) (by decide) (by rfl) (by rfl)) (pv 1) (@bO _ _ (by decide) (by decide))))))), ?_⟩
 refine ⟨_, rfl, _, _, _, t, _, rfl, rfl, ty, e5, _, rfl, ?_⟩
 cases d with
 | tup ds =>
  obtain ⟨a, vs, rfl, o, hl⟩ := hd
  have hlen := hl.length
  have q : Q (.bl (decide ((ds.length : Int) = n))) H := q
  refine cA ⟨_, rfl, a, vs, rfl, .inr (SqT.of o), _, rfl, rfl, ?_⟩
  rw [hlen]
  have e : decide (V.int (ds.length : Int) = V.int n) = decide ((ds.length : Int) = n) := by rw [jY, Bool.eq_iff_iff]; simp
  rw [e]
  exact q
 | _ => exact bG q
def rM : Sp := sp1 fun x H Q => ∃ (p : Addr) (vs : List V) (ds : List Dv) (zs : List Str), x = .ref p ∧ H p = some (.lst vs) ∧ IsL H ds vs ∧ ds.map cN = zs.map some ∧ zs.length ≤ 1000 ∧ Q (.bl (decide zs.Nodup)) H
theorem aEW {H : Hp} {d : Dv} {v : V} {z : Str} (h : Is H d v) (e : cN d = some z) : ∃ a r, v = .ref a ∧ H a = some (.tup (.str z :: r)) := by
 cases d with
 | tup ds =>
  cases ds with
  | nil => cases e
  | cons d0 ds =>
   cases d0 with
   | str y =>
    cases e
    obtain ⟨a, vs, rfl, o, v0, r, rfl, h0, _⟩ := h
    cases (show v0 = .str z from h0)
    exact ⟨a, r, rfl, o⟩
   | _ => cases e
 | _ => cases e
theorem fW (zs : List Str) : (zs.map (Sum.inr : Str → Key)).Nodup ↔ zs.Nodup := by
 induction zs with
 | nil => simp
 | cons z zs ih =>
  rw [List.map_cons, List.nodup_cons, List.nodup_cons, ih]
  simp
theorem xS (zs : List Str) : (zs.map (Sum.inr : Str → Key)).map kV = zs.map V.str := by
 rw [List.map_map]; rfl
theorem iP (T : Txt K mg C) : Fc P w K mg base 1 "none_twice" ["rows"] rM := by
 refine T.d_p_none_twice.fcD qV oK (fun f cdv A outer s H vs Q E hr h => ?_)
 obtain ⟨x, rfl, p, us, ds, zs, rfl, hp, hi, hz, hn, q⟩ := h
 have big := bY
 have l1 := hi.length
 have l2 : ds.length = zs.length := by have := congrArg List.length hz; simpa using this
 refine ⟨_, (aH (@aS _ _ _ _ (@dQ _ _ _ _ _ _ _ _ jK (@aT _ _ _ _ _ _ _ _ _ call_len_set rfl T.n_len bT (aA (@cW _ _ _ _ _ _ _ _ _ (@kG _ rfl) rfl T.n_set qJ (aA (@bX _ _ _ _ _ _ _ _ _ _ _ ["row"] 1 [] rfl (@bM _ _ _ _ (pv 0)) (fun R => @aP _ _ (0) _ (show List.Nodup (["row"] : List Str) by decide +kernel) rfl (Or.inl rfl) (by trivial)) (@aX _ _ (by decide)) (fun R => cI) (fun R => (@bC _ _ _ _ _ _ _ (@aW _ (K) rfl) (pv 0) aF (fun _ _ => rfl))) (by rfl) (by rfl) (by rfl) (by rfl) (by rfl) (by rfl) (by rfl) (by intro _; rfl)) aB) (by decide) (by decide) (by rfl) (by rfl)) aB) (by decide) (by decide) (by rfl) (by rfl)) (@aT _ _ _ _ _ _ _ _ _ (@bH _ (K) rfl) rfl T.n_len bT (aA (pv 0) aB) (by decide) (by decide) (by rfl) (by rfl)) (@bO _ _ (by decide) (by decide))))), ?_⟩
 refine ⟨_, rfl, p, rfl, ⟨_, SqL.of hp⟩, ?_⟩
 refine bF (F := K) (xs := us) (by omega) (fun i ys H' => H' = H ∧ ys = (zs.take i).map V.str) ⟨rfl, rfl⟩ ?_ ?_ ?_
 ·rintro i ys H' hi' ⟨rfl, rfl⟩
  exact ⟨SqL.of hp, by rw [List.length_map, List.length_take]; omega⟩
 ·rintro i x ys H' K1 K2 hx ⟨rfl, rfl⟩ k1 k2
  have hil : i < us.length := (List.getElem?_eq_some_iff.mp hx).1
  obtain ⟨d, ed⟩ : ∃ d, ds[i]? = some d := ⟨_, List.getElem?_eq_getElem (by omega)⟩
  obtain ⟨z, ez⟩ : ∃ z, zs[i]? = some z := ⟨_, List.getElem?_eq_getElem (by omega)⟩
  obtain ⟨v, ev, iv⟩ := hi.get ed
  rw [hx] at ev
  cases ev
  have ef : cN d = some z := by
   have := congrArg (fun l => l[i]?) hz
   simpa [ed, ez] using this
  obtain ⟨a, r, rfl, o⟩ := aEW iv ef
  refine ⟨_, rfl, a, _, 0, .str z, rfl, rfl, SqT.of o, aO (j := 0) rfl, k1 _ _ ⟨rfl, ?_⟩⟩
  rw [List.take_add_one, ez]
  simp
 ·rintro ys H' ⟨rfl, rfl⟩
  intro p1 hp1
  have hys : (zs.take us.length).map V.str = (zs.map (Sum.inr : Str → Key)).map kV := by
   rw [List.take_of_length_le (by omega), xS]
  refine ⟨p1, zs.map Sum.inr, rfl, SqL.of (by rw [aE, hys]), by rw [List.length_map]; exact hn, fun p2 hp2 => ?_⟩
  have hle := yB (zs.map (Sum.inr : Str → Key))
  rw [List.length_map] at hle
  have np : p ≠ p1 := aV hp hp1
  have np2 : p ≠ p2 := aV (show upd H' p1 _ p = _ from (aQ np).trans hp) hp2
  refine ⟨p2, _, _, rfl, aE, by omega, _, rfl, p, us, rfl, .inl (SqL.of (by rw [aQ np2, aQ np]; exact hp)), rfl, ?_⟩
  have e : decide (V.int ((rG (zs.map (Sum.inr : Str → Key))).length : Int) = V.int (us.length : Int)) = decide zs.Nodup := by
   rw [jY, Bool.eq_iff_iff, decide_eq_true_iff, ← fW, ← qG, List.length_map, beq_iff_eq]
   omega
  rw [e]
  exact cV.of ((gN.new hp2 rfl).trans (gN.lst hp1)) q
def aCR : Sp := sp1 fun x H Q => ∃ d, Is H d x ∧ dB d = true ∧ Q (.bl (cC d)) H
theorem uP (T : Txt K mg C) : Fc P w K mg base 3 "is_field" ["thing"] aCR := by
 have G_p_is_tuple_of : Fc P w K mg base 1 "is_tuple_of" ["thing", "length"] rN := gY T
 have G_p_is_name : Fc P w K mg base 1 "is_name" ["thing"] aAT := pB T
 have G_p_is_height : Fc P w K mg base 2 "is_height" ["thing"] fZ := cR T
 have G_p_is_amount : Fc P w K mg base 2 "is_amount" ["thing"] sC := mO T
 refine T.d_p_is_field.fc uL oK (fun f cdv A outer s H vs Q E hr h => ?_)
 obtain ⟨x, rfl, d, hd, hs, q⟩ := h
 refine ⟨_, (aG (@dL _ _ _ _ _ _ _ _ (@cY _ _ _ _ (@cB _ _ _ (@bD _ _ _ _ _ _ _ _ _ _ G_p_is_tuple_of (hr.mono (by decide)) (aA (pv 0) (aA aF aB)) (by rfl) (by decide) (by rfl) (by rfl)) (by intro _; rfl))) (aH (@aS _ _ _ _ kS)) bQ) (aH (@aS _ _ _ _ (@cZ _ _ _ _ _ _ _ (@bD _ _ _ _ _ _ _ _ _ _ G_p_is_name (hr.mono (by decide)) (aA (@bC _ _ _ _ _ _ _ (@aW _ (K) rfl) (pv 0) aF (fun _ _ => rfl)) aB) (by rfl) (by decide) (by rfl) (by rfl)) (@cZ _ _ _ _ _ _ _ (@bD _ _ _ _ _ _ _ _ _ _ G_p_is_height (hr.mono (by decide)) (aA (@bC _ _ _ _ _ _ _ (@aW _ (K) rfl) (pv 0) aF (fun _ _ => rfl)) aB) (by rfl) (by decide) (by rfl) (by rfl)) (@dS _ _ _ _ _ (@bD _ _ _ _ _ _ _ _ _ _ G_p_is_amount (hr.mono (by decide)) (aA (@bC _ _ _ _ _ _ _ (@aW _ (K) rfl) (pv 0) aF (fun _ _ => rfl)) aB) (by rfl) (by decide) (by rfl) (by rfl)))))))), ?_⟩
 refine ⟨_, rfl, _, _, rfl, d, 3, hd, rfl, _, rfl, ?_⟩
 by_cases h3 : ∃ a b c, d = .tup [a, b, c]
 ·obtain ⟨a, b, c, rfl⟩ := h3
  obtain ⟨t, us, rfl, o, va, r1, rfl, ha, vb, r2, rfl, hb, vc, r3, rfl, hc, h0⟩ := hd
  cases (show r3 = [] from h0)
  have sa : dB a = true := by
   exact jD (vD hs) List.mem_cons_self
  have q : Q (.bl (oM a && (cT b && kU c))) H := q
  refine bG ⟨_, rfl, t, _, 0, va, rfl, rfl, SqT.of o, aO (j := 0) rfl, _, rfl, a, ha, sa, _, rfl, ?_⟩
  cases ea : oM a with
  | false => rw [ea] at q; exact bG q
  | true =>
   rw [ea, Bool.true_and] at q
   refine cA ⟨_, rfl, t, _, 1, vb, rfl, rfl, SqT.of o, aO (j := 1) rfl, _, rfl, b, hb, _, rfl, ?_⟩
   cases eb : cT b with
   | false => rw [eb] at q; exact bG q
   | true =>
    rw [eb, Bool.true_and] at q
    exact cA ⟨_, rfl, t, _, 2, vc, rfl, rfl, SqT.of o, aO (j := 2) rfl, _, rfl, c, hc, q⟩
 ·have e1 : cC d = false := by
   unfold cC
   split
   ·rename_i a b c
    exact absurd ⟨a, b, c, rfl⟩ h3
   ·rfl
  have e2 : aCE 3 d = false := by
   cases d with
   | tup ds =>
    refine decide_eq_false (fun e => ?_)
    have e' : ds.length = 3 := by omega
    match ds, e', h3 with
    | [a, b, c], _, h3 => exact h3 ⟨a, b, c, rfl⟩
   | _ => rfl
  dsimp only
  rw [e2]
  rw [e1] at q
  exact cA q
theorem nQ {p : Dv → Bool} (hp : ∀ d, p d = true → ∃ z, cN d = some z) : ∀ {ds : List Dv}, ds.all p = true → ∃ zs : List Str, ds.map cN = zs.map some
 | [], _ => ⟨[], rfl⟩
 | d :: ds, h => by
  rw [List.all_cons, Bool.and_eq_true] at h
  obtain ⟨z, e⟩ := hp d h.1
  obtain ⟨zs, e2⟩ := nQ hp h.2
  exact ⟨z :: zs, by rw [List.map_cons, List.map_cons, e, e2]⟩
theorem uS (d : Dv) (h : cC d = true) : ∃ z, cN d = some z := by
 unfold cC at h
 split at h
 ·rename_i a b c
  rw [Bool.and_eq_true] at h
  cases a with
  | str z => exact ⟨z, rfl⟩
  | _ => cases h.1
 ·cases h
def yU : Sp := sp1 fun x H Q => ∃ d, Is H d x ∧ dB d = true ∧ Q (.bl (lC d)) H
theorem rC (T : Txt K mg C) : Fc P w K mg base 4 "are_fields" ["thing"] yU := by
 have G_p_is_list_of : Fc P w K mg base 1 "is_list_of" ["thing", "most"] mD := fR T
 have G_p_is_field : Fc P w K mg base 3 "is_field" ["thing"] aCR := uP T
 have G_p_none_twice : Fc P w K mg base 1 "none_twice" ["rows"] rM := iP T
 refine T.d_p_are_fields.fcD qX oK (fun f cdv A outer s H vs Q E hr h => ?_)
 obtain ⟨x, rfl, d, hd, hs, q⟩ := h
 have big := bY
 refine ⟨_, (aH (@aS _ _ _ _ (@cZ _ _ _ _ _ _ _ (@bD _ _ _ _ _ _ _ _ _ _ G_p_is_list_of (hr.mono (by decide)) (aA (pv 0) (aA (@sR _ _ _ _ T.g_MOST_FIELDS (by rfl) (by decide)) aB)) (by rfl) (by decide) (by rfl) (by rfl)) (@cZ _ _ _ _ _ _ _ (@aT _ _ _ _ _ _ _ _ _ (@lB _ rfl) rfl T.n_all jB (aA (@bX _ _ _ _ _ _ _ _ _ _ _ ["row"] 1 [] rfl (@bM _ _ _ _ (pv 0)) (fun R => @aP _ _ (0) _ (show List.Nodup (["row"] : List Str) by decide +kernel) rfl (Or.inl rfl) (by trivial)) (@aX _ _ (by decide)) (fun R => cI) (fun R => (@bD _ _ _ _ _ _ _ _ _ _ G_p_is_field (hr.mono (by decide)) (aA (pv 0) aB) (by rfl) (by decide) (by rfl) (by rfl))) (by rfl) (by rfl) (by rfl) (by rfl) (by rfl) (by rfl) (by rfl) (by intro _; rfl)) aB) (by decide) (by decide) (by rfl) (by rfl)) (@dS _ _ _ _ _ (@bD _ _ _ _ _ _ _ _ _ _ G_p_none_twice (hr.mono (by decide)) (aA (pv 0) aB) (by rfl) (by decide) (by rfl) (by rfl))))))), ?_⟩
 refine ⟨_, rfl, _, _, rfl, d, 12, hd, rfl, _, rfl, ?_⟩
 cases d with
 | lst ds =>
  obtain ⟨p, us, rfl, o, hi⟩ := hd
  have l1 := hi.length
  have hs' := Bool.and_eq_true_iff.mp (show (decide (ds.length ≤ 1000) && gS ds) = true from hs)
  have l2 : ds.length ≤ 1000 := of_decide_eq_true hs'.1
  have q : Q (.bl ((decide (1 ≤ ds.length) && decide (ds.length ≤ 12)) && (ds.all cC && decide ((ds.map cN).Nodup)))) H := q
  have e0 : (decide (1 ≤ ds.length) && decide ((ds.length : Int) ≤ 12)) = (decide (1 ≤ ds.length) && decide (ds.length ≤ 12)) := by
   congr 1
   rw [Bool.eq_iff_iff, decide_eq_true_iff, decide_eq_true_iff]
   omega
  show if (decide (1 ≤ ds.length) && decide ((ds.length : Int) ≤ 12)) = true then _ else _
  rw [e0]
  refine jR (fun h1 => ?_) (fun h1 => ?_)
  ·rw [h1, Bool.true_and] at q
   refine ⟨_, rfl, p, rfl, ⟨_, SqL.of o⟩, ?_⟩
   refine bF (F := K) (xs := us) (by omega) (fun i ys H' => H' = H ∧ ys = (ds.take i).map fun d => V.bl (cC d)) ⟨rfl, rfl⟩ ?_ ?_ ?_
   ·rintro i ys H' hi' ⟨rfl, rfl⟩
    exact ⟨SqL.of o, by rw [List.length_map, List.length_take]; omega⟩
   ·rintro i x ys H' K1 K2 hx ⟨rfl, rfl⟩ k1 k2
    have hil : i < us.length := (List.getElem?_eq_some_iff.mp hx).1
    obtain ⟨d, ed⟩ : ∃ d, ds[i]? = some d := ⟨_, List.getElem?_eq_getElem (by omega)⟩
    obtain ⟨v, ev, iv⟩ := hi.get ed
    rw [hx] at ev
    cases ev
    refine ⟨_, rfl, _, rfl, d, iv, jD hs'.2 (List.mem_of_getElem? ed), k1 _ _ ⟨rfl, ?_⟩⟩
    rw [List.take_add_one, ed]
    simp
   ·rintro ys H' ⟨rfl, rfl⟩
    intro p1 hp1
    have np : p ≠ p1 := aV o hp1
    refine ⟨p1, ds.map cC, rfl, SqL.of ?_, _, rfl, ?_⟩
    ·rw [aE, List.take_of_length_le (by omega), List.map_map]
     rfl
    have e1 : (ds.map cC).all id = ds.all cC := by rw [List.all_map]; rfl
    rw [e1]
    refine jR (fun h2 => ?_) (fun h2 => ?_)
    ·rw [h2, Bool.true_and] at q
     obtain ⟨zs, ez⟩ := nQ uS h2
     have l3 : zs.length = ds.length := by have := congrArg List.length ez; simpa using this.symm
     refine ⟨_, rfl, _, rfl, p, us, ds, zs, rfl, by rw [aQ np]; exact o, IsL.same (aI.upd hp1) _ _ hi, ez, by omega, ?_⟩
     have e2 : decide zs.Nodup = decide (ds.map cN).Nodup := by rw [ez, Bool.eq_iff_iff, decide_eq_true_iff, decide_eq_true_iff, eA]
     rw [e2]
     exact cV.of (gN.lst hp1) q
    ·have h2' : ds.all cC = false := by simpa using h2
     rw [h2'] at q
     exact cV.of (gN.lst hp1) q
  ·have h1' : (decide (1 ≤ ds.length) && decide (ds.length ≤ 12)) = false := by simpa using h1
   rw [h1'] at q
   exact cV.of (.refl _) q
 | _ => exact bG (cV.of (.refl _) q)
def aCO (K : PySem.W.Frag) : Sp := sp3 fun x y u H Q => ∃ (a b : Dv) (p : Addr) (zs : List Str), Is H a x ∧ Is H b y ∧ u = .ref p ∧ SqL K H p (zs.map V.str) ∧ Q (.bl (nE zs a b)) H
theorem tE (T : Txt K mg C) : Fc P w K mg base 2 "are_sides" ["one", "other", "sides"] (aCO K) := by
 have G_p_is_one_of : Fc P w K mg base 1 "is_one_of" ["thing", "names"] (oQ K) := gI T
 refine T.d_p_are_sides.fc sK pW (fun f cdv A outer s H vs Q E hr h => ?_)
 obtain ⟨x, y, u, rfl, a, b, p, zs, ha, hb, rfl, hp, q⟩ := h
 refine ⟨_, (aH (@aS _ _ _ _ (@cZ _ _ _ _ _ _ _ (@bD _ _ _ _ _ _ _ _ _ _ G_p_is_one_of (hr.mono (by decide)) (aA (pv 0) (aA (pv 2) aB)) (by rfl) (by decide) (by rfl) (by rfl)) (@cZ _ _ _ _ _ _ _ (@bD _ _ _ _ _ _ _ _ _ _ G_p_is_one_of (hr.mono (by decide)) (aA (pv 1) (aA (pv 2) aB)) (by rfl) (by decide) (by rfl) (by rfl)) (@dS _ _ _ _ _ (@dQ _ _ _ _ _ _ _ _ vL (pv 0) (pv 1) (@bO _ _ (by decide) (by decide)))))))), ?_⟩
 have q : Q (.bl (gH zs a && (gH zs b && !deq a b))) H := q
 refine ⟨_, rfl, _, rfl, _, _, rfl, a, p, zs, ha, rfl, hp, _, rfl, ?_⟩
 cases ea : gH zs a with
 | false => rw [ea] at q; exact bG q
 | true =>
  rw [ea, Bool.true_and] at q
  refine cA ⟨_, rfl, _, rfl, _, _, rfl, b, p, zs, hb, rfl, hp, _, rfl, ?_⟩
  cases eb : gH zs b with
  | false => rw [eb] at q; exact bG q
  | true =>
   rw [eb, Bool.true_and] at q
   cases a with
   | str z =>
    cases b with
    | str z' =>
     cases (show x = .str z from ha)
     cases (show y = .str z' from hb)
     refine cA ⟨_, rfl, _, rfl, rfl, ?_⟩
     have e : (!decide (V.str z = V.str z')) = !deq (.str z) (.str z') := by rw [pF]; rfl
     rw [e]
     exact q
    | _ => cases eb
   | _ => cases ea
def aFV : Sp := sp2 fun x y H Q => ∃ (d : Dv) (j : Int), Is H d x ∧ y = .int j ∧ Q (.bl (lJ (.int j) d)) H
theorem xM (T : Txt K mg C) : Fc P w K mg base 3 "is_sill" ["thing", "crown"] aFV := by
 have G_p_is_height : Fc P w K mg base 2 "is_height" ["thing"] fZ := cR T
 refine T.d_p_is_sill.fc xC jM (fun f cdv A outer s H vs Q E hr h => ?_)
 obtain ⟨x, y, rfl, d, j, hd, rfl, q⟩ := h
 refine ⟨_, (aH (@aS _ _ _ _ (@aKF _ _ _ _ _ _ _ (@dQ _ _ _ _ _ _ _ _ aGX (pv 0) jJ (@bO _ _ (by decide) (by decide))) (@dS _ _ _ _ _ (@cZ _ _ _ _ _ _ _ (@bD _ _ _ _ _ _ _ _ _ _ G_p_is_height (hr.mono (by decide)) (aA (pv 0) aB) (by rfl) (by decide) (by rfl) (by rfl)) (@dS _ _ _ _ _ (@dQ _ _ _ _ _ _ _ _ oZ (pv 0) (pv 1) (@bO _ _ (by decide) (by decide))))))))), ?_⟩
 refine ⟨_, rfl, rfl, _, rfl, ?_⟩
 cases d with
 | non =>
  cases (show x = .non from hd)
  rw [decide_eq_true rfl]
  exact cA q
 | int i =>
  cases (show x = .int i from hd)
  rw [decide_eq_false (show ¬ V.int i = V.non by intro z; cases z)]
  refine bG ⟨_, rfl, _, rfl, .int i, rfl, _, rfl, ?_⟩
  have q : Q (.bl (hgt i && decide (i < j))) H := q
  show if hgt i = true then _ else _
  cases e : hgt i with
  | false => rw [e] at q; exact bG q
  | true => rw [e, Bool.true_and] at q; exact cA ⟨_, rfl, _, rfl, _, _, rfl, rfl, q⟩
 | bl b =>
  cases (show x = .bl b from hd)
  rw [decide_eq_false (show ¬ V.bl b = V.non by intro z; cases z)]
  exact bG ⟨_, rfl, _, rfl, .bl b, rfl, _, rfl, bG q⟩
 | str b =>
  cases (show x = .str b from hd)
  rw [decide_eq_false (show ¬ V.str b = V.non by intro z; cases z)]
  exact bG ⟨_, rfl, _, rfl, .str b, rfl, _, rfl, bG q⟩
 | lst b =>
  obtain ⟨a, us, rfl, o⟩ := id hd
  rw [decide_eq_false (show ¬ V.ref a = V.non by intro z; cases z)]
  exact bG ⟨_, rfl, _, rfl, .lst b, hd, _, rfl, bG q⟩
 | tup b =>
  obtain ⟨a, us, rfl, o⟩ := id hd
  rw [decide_eq_false (show ¬ V.ref a = V.non by intro z; cases z)]
  exact bG ⟨_, rfl, _, rfl, .tup b, hd, _, rfl, bG q⟩
 | dct b c =>
  obtain ⟨a, us, rfl, o⟩ := id hd
  rw [decide_eq_false (show ¬ V.ref a = V.non by intro z; cases z)]
  exact bG ⟨_, rfl, _, rfl, .dct b c, hd, _, rfl, bG q⟩
def aGC (K : PySem.W.Frag) : Sp := sp2 fun x y H Q => ∃ (d : Dv) (p : Addr) (zs : List Str), Is H d x ∧ dB d = true ∧ y = .ref p ∧ SqL K H p (zs.map V.str) ∧ Q (.bl (cU zs d)) H
theorem xN (T : Txt K mg C) : Fc P w K mg base 4 "is_dyke" ["thing", "sides"] (aGC K) := by
 have G_p_is_tuple_of : Fc P w K mg base 1 "is_tuple_of" ["thing", "length"] rN := gY T
 have G_p_is_name : Fc P w K mg base 1 "is_name" ["thing"] aAT := pB T
 have G_p_are_sides : Fc P w K mg base 2 "are_sides" ["one", "other", "sides"] (aCO K) := tE T
 have G_p_is_height : Fc P w K mg base 2 "is_height" ["thing"] fZ := cR T
 have G_p_is_amount : Fc P w K mg base 2 "is_amount" ["thing"] sC := mO T
 have G_p_is_sill : Fc P w K mg base 3 "is_sill" ["thing", "crown"] aFV := xM T
 refine T.d_p_is_dyke.fc xE jM (fun f cdv A outer s H vs Q E hr h => ?_)
 obtain ⟨x, y, rfl, d, p, zs, hd, hs, rfl, hp, q⟩ := h
 refine ⟨_, (aG (@dL _ _ _ _ _ _ _ _ (@PW.pt _ _ _ (@iK _ _ _ _ _ _ _ (@cY _ _ _ _ (@cB _ _ _ (@bD _ _ _ _ _ _ _ _ _ _ G_p_is_tuple_of (hr.mono (by decide)) (aA (pv 0) (aA aF aB)) (by rfl) (by decide) (by rfl) (by rfl)) (by intro _; rfl))) (@iK _ _ _ _ _ _ _ (@cY _ _ _ _ (@cB _ _ _ (@bD _ _ _ _ _ _ _ _ _ _ G_p_is_name (hr.mono (by decide)) (aA (@bC _ _ _ _ _ _ _ (@aW _ (K) rfl) (pv 0) aF (fun _ _ => rfl)) aB) (by rfl) (by decide) (by rfl) (by rfl)) (by intro _; rfl))) (@gW _ _ _ _ (@cY _ _ _ _ (@cB _ _ _ (@bD _ _ _ _ _ _ _ _ _ _ G_p_are_sides (hr.mono (by decide)) (aA (@bC _ _ _ _ _ _ _ (@aW _ (K) rfl) (pv 0) aF (fun _ _ => rfl)) (aA (@bC _ _ _ _ _ _ _ (@aW _ (K) rfl) (pv 0) aF (fun _ _ => rfl)) (aA (pv 1) aB))) (by rfl) (by decide) (by rfl) (by rfl)) (by intro _; rfl))))))) (aH (@aS _ _ _ _ kS)) bQ) (aH (@aS _ _ _ _ (@cZ _ _ _ _ _ _ _ (@bD _ _ _ _ _ _ _ _ _ _ G_p_is_height (hr.mono (by decide)) (aA (@bC _ _ _ _ _ _ _ (@aW _ (K) rfl) (pv 0) aF (fun _ _ => rfl)) aB) (by rfl) (by decide) (by rfl) (by rfl)) (@cZ _ _ _ _ _ _ _ (@bD _ _ _ _ _ _ _ _ _ _ G_p_is_amount (hr.mono (by decide)) (aA (@bC _ _ _ _ _ _ _ (@aW _ (K) rfl) (pv 0) aF (fun _ _ => rfl)) aB) (by rfl) (by decide) (by rfl) (by rfl)) (@dS _ _ _ _ _ (@bD _ _ _ _ _ _ _ _ _ _ G_p_is_sill (hr.mono (by decide)) (aA (@bC _ _ _ _ _ _ _ (@aW _ (K) rfl) (pv 0) aF (fun _ _ => rfl)) (aA (@bC _ _ _ _ _ _ _ (@aW _ (K) rfl) (pv 0) aF (fun _ _ => rfl)) aB)) (by rfl) (by decide) (by rfl) (by rfl)))))))), ?_⟩
 refine ⟨_, rfl, _, _, rfl, d, 6, hd, rfl, _, rfl, ?_⟩
 by_cases h6 : ∃ n a b c r l, d = .tup [n, a, b, c, r, l]
 ·obtain ⟨n, a, b, c, r, l, rfl⟩ := h6
  obtain ⟨t, us, rfl, o, v0, r0, rfl, i0, v1, r1, rfl, i1, v2, r2, rfl, i2, v3, r3, rfl, i3, v4, r4, rfl, i4, v5, r5, rfl, i5, h0⟩ := hd
  cases (show r5 = [] from h0)
  have sn : dB n = true := by
   exact jD (vD hs) List.mem_cons_self
  have q : Q (.bl (oM n && nE zs a b && (cT c && (kU r && lJ c l)))) H := q
  have at_ : ∀ (j : Nat) (v : V), ([v0, v1, v2, v3, v4, v5] : List V)[j]? = some v → atI [v0, v1, v2, v3, v4, v5] (j : Int) = some v := fun j v e => aO e
  refine bG ⟨_, rfl, t, _, 0, v0, rfl, rfl, SqT.of o, at_ 0 _ rfl, _, rfl, n, i0, sn, _, rfl, ?_⟩
  cases en : oM n with
  | false => rw [en] at q; exact cA q
  | true =>
   rw [en, Bool.true_and] at q
   refine bG ⟨_, rfl, t, _, 1, v1, rfl, rfl, SqT.of o, at_ 1 _ rfl, _, rfl, t, _, 2, v2, rfl, rfl, SqT.of o, at_ 2 _ rfl, _, rfl, _, _, _, rfl, a, b, p, zs, i1, i2, rfl, hp, _, rfl, ?_⟩
   cases es : nE zs a b with
   | false => rw [es] at q; exact cA q
   | true =>
    rw [es, Bool.true_and] at q
    refine bG ⟨_, rfl, t, _, 3, v3, rfl, rfl, SqT.of o, at_ 3 _ rfl, _, rfl, c, i3, _, rfl, ?_⟩
    cases ec : cT c with
    | false => rw [ec] at q; exact bG q
    | true =>
     rw [ec, Bool.true_and] at q
     refine cA ⟨_, rfl, t, _, 4, v4, rfl, rfl, SqT.of o, at_ 4 _ rfl, _, rfl, r, i4, _, rfl, ?_⟩
     cases er : kU r with
     | false => rw [er] at q; exact bG q
     | true =>
      rw [er, Bool.true_and] at q
      cases c with
      | int j =>
       cases (show v3 = .int j from i3)
       exact cA ⟨_, rfl, t, _, 5, v5, rfl, rfl, SqT.of o, at_ 5 _ rfl, _, rfl, t, _, 3, _, rfl, rfl, SqT.of o, at_ 3 _ rfl, _, _, rfl, l, j, i5, rfl, q⟩
      | _ => cases ec
 ·have e1 : cU zs d = false := by
   unfold cU
   split
   ·rename_i n a b c r l
    exact absurd ⟨n, a, b, c, r, l, rfl⟩ h6
   ·rfl
  have e2 : aCE 6 d = false := by
   cases d with
   | tup ds =>
    refine decide_eq_false (fun e => ?_)
    have e' : ds.length = 6 := by omega
    match ds, e', h6 with
    | [n, a, b, c, r, l], _, h6 => exact h6 ⟨n, a, b, c, r, l, rfl⟩
   | _ => rfl
  dsimp only
  rw [e2]
  rw [e1] at q
  exact cA q
theorem xY {zs : List Str} (d : Dv) (h : cU zs d = true) : ∃ z, cN d = some z := by
 unfold cU at h
 split at h
 ·rename_i n a b c r l
  rw [Bool.and_eq_true, Bool.and_eq_true] at h
  cases n with
  | str z => exact ⟨z, rfl⟩
  | _ => cases h.1.1
 ·cases h
def aCS (K : PySem.W.Frag) : Sp := sp2 fun x y H Q => ∃ (d : Dv) (p : Addr) (zs : List Str), Is H d x ∧ dB d = true ∧ y = .ref p ∧ H p = some (.lst (zs.map V.str)) ∧ Q (.bl (nF zs d)) H
theorem tF (T : Txt K mg C) : Fc P w K mg base 5 "are_dykes" ["thing", "sides"] (aCS K) := by
 have G_p_is_list_of : Fc P w K mg base 1 "is_list_of" ["thing", "most"] mD := fR T
 have G_p_is_dyke : Fc P w K mg base 4 "is_dyke" ["thing", "sides"] (aGC K) := xN T
 have G_p_none_twice : Fc P w K mg base 1 "none_twice" ["rows"] rM := iP T
 refine T.d_p_are_dykes.fcD sL jM (fun f cdv A outer s H vs Q E hr h => ?_)
 obtain ⟨x, y, rfl, d, p0, zs0, hd, hs, rfl, hp0, q⟩ := h
 have big := bY
 refine ⟨_, (aH (@aS _ _ _ _ (@cZ _ _ _ _ _ _ _ (@bD _ _ _ _ _ _ _ _ _ _ G_p_is_list_of (hr.mono (by decide)) (aA (pv 0) (aA (@sR _ _ _ _ T.g_MOST_DYKES (by rfl) (by decide)) aB)) (by rfl) (by decide) (by rfl) (by rfl)) (@cZ _ _ _ _ _ _ _ (@aT _ _ _ _ _ _ _ _ _ (@lB _ rfl) rfl T.n_all jB (aA (@bX _ _ _ _ _ _ _ _ _ _ _ ["row", "sides"] 1 [1] rfl (@bM _ _ _ _ (pv 0)) (fun R => @aP _ _ (0) _ (show List.Nodup (["row", "sides"] : List Str) by decide +kernel) rfl (Or.inl rfl) (by trivial)) (@aX _ _ (by decide)) (fun R => cI) (fun R => (@bD _ _ _ _ _ _ _ _ _ _ G_p_is_dyke (hr.mono (by decide)) (aA (pv 0) (aA (pv 1) aB)) (by rfl) (by decide) (by rfl) (by rfl))) (by rfl) (by rfl) (by rfl) (by rfl) (by rfl) (by rfl) (by rfl) (by intro _; rfl)) aB) (by decide) (by decide) (by rfl) (by rfl)) (@dS _ _ _ _ _ (@bD _ _ _ _ _ _ _ _ _ _ G_p_none_twice (hr.mono (by decide)) (aA (pv 0) aB) (by rfl) (by decide) (by rfl) (by rfl))))))), ?_⟩
 refine ⟨_, rfl, _, _, rfl, d, 40, hd, rfl, _, rfl, ?_⟩
 cases d with
 | lst ds =>
  obtain ⟨p, us, rfl, o, hi⟩ := hd
  have l1 := hi.length
  have hs' := Bool.and_eq_true_iff.mp (show (decide (ds.length ≤ 1000) && gS ds) = true from hs)
  have l2 : ds.length ≤ 1000 := of_decide_eq_true hs'.1
  have q : Q (.bl ((decide (1 ≤ ds.length) && decide (ds.length ≤ 40)) && (ds.all (cU zs0) && decide ((ds.map cN).Nodup)))) H := q
  have e0 : (decide (1 ≤ ds.length) && decide ((ds.length : Int) ≤ 40)) = (decide (1 ≤ ds.length) && decide (ds.length ≤ 40)) := by
   congr 1
   rw [Bool.eq_iff_iff, decide_eq_true_iff, decide_eq_true_iff]
   omega
  show if (decide (1 ≤ ds.length) && decide ((ds.length : Int) ≤ 40)) = true then _ else _
  rw [e0]
  refine jR (fun h1 => ?_) (fun h1 => ?_)
  ·rw [h1, Bool.true_and] at q
   refine ⟨_, rfl, p, rfl, ⟨_, SqL.of o⟩, ?_⟩
   refine bF (F := K) (xs := us) (by omega) (fun i ys H' => H' = H ∧ ys = (ds.take i).map fun d => V.bl (cU zs0 d)) ⟨rfl, rfl⟩ ?_ ?_ ?_
   ·rintro i ys H' hi' ⟨rfl, rfl⟩
    exact ⟨SqL.of o, by rw [List.length_map, List.length_take]; omega⟩
   ·rintro i x ys H' K1 K2 hx ⟨rfl, rfl⟩ k1 k2
    have hil : i < us.length := (List.getElem?_eq_some_iff.mp hx).1
    obtain ⟨d, ed⟩ : ∃ d, ds[i]? = some d := ⟨_, List.getElem?_eq_getElem (by omega)⟩
    obtain ⟨v, ev, iv⟩ := hi.get ed
    rw [hx] at ev
    cases ev
    refine ⟨_, rfl, _, rfl, _, _, rfl, d, p0, zs0, iv, jD hs'.2 (List.mem_of_getElem? ed), rfl, SqL.of hp0, k1 _ _ ⟨rfl, ?_⟩⟩
    rw [List.take_add_one, ed]
    simp
   ·rintro ys H' ⟨rfl, rfl⟩
    intro p1 hp1
    have np : p ≠ p1 := aV o hp1
    refine ⟨p1, ds.map (cU zs0), rfl, SqL.of ?_, _, rfl, ?_⟩
    ·rw [aE, List.take_of_length_le (by omega), List.map_map]
     rfl
    have e1 : (ds.map (cU zs0)).all id = ds.all (cU zs0) := by rw [List.all_map]; rfl
    rw [e1]
    refine jR (fun h2 => ?_) (fun h2 => ?_)
    ·rw [h2, Bool.true_and] at q
     obtain ⟨zs, ez⟩ := nQ xY h2
     have l3 : zs.length = ds.length := by have := congrArg List.length ez; simpa using this.symm
     refine ⟨_, rfl, _, rfl, p, us, ds, zs, rfl, by rw [aQ np]; exact o, IsL.same (aI.upd hp1) _ _ hi, ez, by omega, ?_⟩
     have e2 : decide zs.Nodup = decide (ds.map cN).Nodup := by rw [ez, Bool.eq_iff_iff, decide_eq_true_iff, decide_eq_true_iff, eA]
     rw [e2]
     exact cV.of (gN.lst hp1) q
    ·have h2' : ds.all (cU zs0) = false := by simpa using h2
     rw [h2'] at q
     exact cV.of (gN.lst hp1) q
  ·have h1' : (decide (1 ≤ ds.length) && decide (ds.length ≤ 40)) = false := by simpa using h1
   rw [h1'] at q
   exact cV.of (.refl _) q
 | _ => exact bG (cV.of (.refl _) q)
def aFZ (C : Addr) : Sp := sp3 fun x v1 v2 H Q => ∃ (p dx : Addr) (fs ds : List Dv), x = .ref p ∧ H p = some (.ins C dx []) ∧ Is H (.lst fs) v1 ∧ Is H (.lst ds) v2 ∧ dB (.lst fs) = true ∧ dB (.lst ds) = true ∧
 lC (.lst fs) = true ∧ nF ("sea" :: fs.map aL) (.lst ds) = true ∧ ∀ H', LandAt C H' p fs ds → (∀ b o, H b = some o → b ≠ p → H' b = some o) → Q .non H'
def aAR (C : Addr) (sel : List Dv → List Dv → List Dv) : Sp := sp1 fun x H Q => ∃ (p : Addr) (fs ds : List Dv), x = .ref p ∧ LandAt C H p fs ds ∧ ∀ (l : Addr) (vs : List V) (H' : Hp), aI H H' → H l = none → H' l = some (.lst vs) → IsL H' (sel fs ds) vs → Q (.ref l) H'
def wP (C : Addr) (sel : List Dv → List Dv → List Str) : Sp := sp1 fun x H Q => ∃ (p : Addr) (fs ds : List Dv), x = .ref p ∧ LandAt C H p fs ds ∧ ∀ (l : Addr) (H' : Hp), aI H H' → H l = none → H' l = some (.lst ((sel fs ds).map V.str)) → Q (.ref l) H'
def aCP (C : Addr) (sel : List Dv → List Dv → List Dv) : Sp := sp1 fun x H Q => ∃ (p : Addr) (fs ds : List Dv), x = .ref p ∧ LandAt C H p fs ds ∧ ∀ (l : Addr) (vs : List V), H l = none → IsL H (sel fs ds) vs → Q (.ref l) (upd H l (.lst vs))
def rO (C : Addr) (sel : List Dv → List Dv → List Str) : Sp := sp1 fun x H Q => ∃ (p : Addr) (fs ds : List Dv), x = .ref p ∧ LandAt C H p fs ds ∧ ∀ (l : Addr), H l = none → Q (.ref l) (upd H l (.lst ((sel fs ds).map V.str)))
theorem aGI {C : Addr} {sel : List Dv → List Dv → List Dv} : ∀ vs H Q E, aAR C sel vs H Q E → aCP C sel vs H Q E := by
 rintro vs H Q E ⟨x, rfl, p, fs, ds, rfl, L, q⟩
 exact ⟨_, rfl, p, fs, ds, rfl, L, fun l us hl hi => q l us _ (aI.upd hl) hl aE (IsL.same (aI.upd hl) _ _ hi)⟩
theorem aFR {C : Addr} {sel : List Dv → List Dv → List Str} : ∀ vs H Q E, wP C sel vs H Q E → rO C sel vs H Q E := by
 rintro vs H Q E ⟨x, rfl, p, fs, ds, rfl, L, q⟩
 exact ⟨_, rfl, p, fs, ds, rfl, L, fun l hl => q l _ (aI.upd hl) hl aE⟩
theorem pS (T : Txt K mg C) : Mc P w K mg base 1 C "dykes" ["self"] (aCP C fun _ ds => ds) := by
 refine T.m_land_p_dykes.mcD qY oK (fun f cdv A outer s H vs Q E hr h => ?_)
 obtain ⟨x, rfl, p, fs, ds, rfl, L, q⟩ := h
 obtain ⟨dx, d1, d2, hx, t1, ⟨k1, h1, e1, i1⟩⟩ := L.ex
 refine ⟨_, (aH (@aS _ _ _ _ (@cW _ _ _ _ _ _ _ _ _ (@qI _ rfl) rfl T.n_list dA (aA (@aKY _ _ _ _ _ _ _ _ _ PySem.F.plainAttrs_dict PySem.F.slot_dict_values PySem.F.type_dict_values aEM (@sS _ _ _ _ _ (pv 0) rfl) (by rfl) (by rfl)) aB) (by decide) (by decide) (by rfl) (by rfl)))), ?_⟩
 refine ⟨_, rfl, p, C, dx, _, _, rfl, hx, T.cl_Land, T.a_dyke_rows, xW _ _, .inr (.inr (.inl ⟨rfl, .inl ⟨_, h1⟩⟩)), d2, k1, rfl, rfl, .inl h1, fun v hv => ?_⟩
 have nv : d2 ≠ v := aV h1 hv
 refine ⟨v, d2, k1, rfl, aE, .inl (by rw [aQ nv]; exact h1), fun l hl => ?_⟩
 exact cV.of (gN.under hv rfl hl) (q l _ ((aI.upd hv).free hl) i1)
theorem rD (T : Txt K mg C) : Mc P w K mg base 1 C "dykes" ["self"] (aAR C fun _ ds => ds) := (pS T).imp aGI
theorem tO {kvs : List (Key × V)} {ds : List Dv} (e : kvs.map (·.1) = ds.map mT) : (kvs.map fun kv => kV kv.1) = (ds.map aL).map V.str := by
 have h : (kvs.map fun kv => kV kv.1) = (kvs.map (·.1)).map kV := by rw [List.map_map]; rfl
 rw [h, e, List.map_map, List.map_map]
 rfl
theorem lF (T : Txt K mg C) : Mc P w K mg base 1 C "field_names" ["self"] (rO C fun fs _ => fs.map aL) := by
 refine T.m_land_p_field_names.mc lT oK (fun f cdv A outer s H vs Q E hr h => ?_)
 obtain ⟨x, rfl, p, fs, ds, rfl, L, q⟩ := h
 obtain ⟨dx, d1, d2, hx, ⟨k1, h1, e1, i1⟩, t2⟩ := L.ex
 refine ⟨_, (aH (@aS _ _ _ _ (@cW _ _ _ _ _ _ _ _ _ (@nA _ rfl) rfl T.n_list dA (aA (@sS _ _ _ _ _ (pv 0) rfl) aB) (by decide) (by decide) (by rfl) (by rfl)))), ?_⟩
 refine ⟨_, rfl, p, C, dx, _, _, rfl, hx, T.cl_Land, T.a_field_rows, aDJ _ _, d1, k1, rfl, .inl h1, fun l hl => ?_⟩
 have := q l hl
 rw [tO e1]
 exact this
theorem lW (T : Txt K mg C) : Mc P w K mg base 1 C "dyke_names" ["self"] (rO C fun _ ds => ds.map aL) := by
 refine T.m_land_p_dyke_names.mc mE oK (fun f cdv A outer s H vs Q E hr h => ?_)
 obtain ⟨x, rfl, p, fs, ds, rfl, L, q⟩ := h
 obtain ⟨dx, d1, d2, hx, t1, ⟨k1, h1, e1, i1⟩⟩ := L.ex
 refine ⟨_, (aH (@aS _ _ _ _ (@cW _ _ _ _ _ _ _ _ _ (@nA _ rfl) rfl T.n_list dA (aA (@sS _ _ _ _ _ (pv 0) rfl) aB) (by decide) (by decide) (by rfl) (by rfl)))), ?_⟩
 refine ⟨_, rfl, p, C, dx, _, _, rfl, hx, T.cl_Land, T.a_dyke_rows, xW _ _, d2, k1, rfl, .inl h1, fun l hl => ?_⟩
 have := q l hl
 rw [tO e1]
 exact this
theorem gQ (T : Txt K mg C) : Mc P w K mg base 1 C "field_names" ["self"] (wP C fun fs _ => fs.map aL) := (lF T).imp aFR
theorem jP {H : Hp} {n a b : Str} {c r : Int} {s : Dv} {v : V} (h : Is H (.tup [.str n, .str a, .str b, .int c, .int r, s]) v) : ∃ t vs, v = .ref t ∧ H t = some (.tup [.str n, .str a, .str b, .int c, .int r, vs]) ∧ Is H s vs := by
 obtain ⟨t, us, rfl, o, v0, r0, rfl, i0, v1, r1, rfl, i1, v2, r2, rfl, i2, v3, r3, rfl, i3, v4, r4, rfl, i4, v5, r5, rfl, i5, h0⟩ := h
 cases (show r5 = [] from h0)
 cases (show v0 = _ from i0)
 cases (show v1 = _ from i1)
 cases (show v2 = _ from i2)
 cases (show v3 = _ from i3)
 cases (show v4 = _ from i4)
 exact ⟨t, v5, rfl, o, i5⟩
theorem jA {H : Hp} {n : Str} {g e : Int} {v : V} (h : Is H (.tup [.str n, .int g, .int e]) v) : ∃ t, v = .ref t ∧ H t = some (.tup [.str n, .int g, .int e]) := by
 obtain ⟨t, us, rfl, o, v0, r0, rfl, i0, v1, r1, rfl, i1, v2, r2, rfl, i2, h0⟩ := h
 cases (show r2 = [] from h0)
 cases (show v0 = _ from i0)
 cases (show v1 = _ from i1)
 cases (show v2 = _ from i2)
 exact ⟨t, rfl, o⟩
theorem bV {C : Addr} {H : Hp} {p : Addr} {fs ds : List Dv} (L : LandAt C H p fs ds) : GoodF fs ∧ GoodD ("sea" :: fs.map aL) ds := ⟨(qB _).mp L.okf, (qC _ _).mp L.okd⟩
def yT (C : Addr) : Sp := sp2 fun x y H Q => ∃ (p : Addr) (fs ds : List Dv) (z : Str) (g e : Int), x = .ref p ∧ y = .str z ∧ LandAt C H p fs ds ∧ Dv.tup [.str z, .int g, .int e] ∈ fs ∧ Q (.int g) H
theorem pR (T : Txt K mg C) : Mc P w K mg base 1 C "ground" ["self", "field"] (yT C) := by
 refine T.m_land_p_ground.mc pM jM (fun f cdv A outer s H vs Q E hr h => ?_)
 obtain ⟨x, y, rfl, p, fs, ds, z, g, e, rfl, rfl, L, m, q⟩ := h
 have hu := oA hr
 obtain ⟨dx, d1, d2, hx, ⟨k1, h1, e1, i1⟩, t2⟩ := L.ex
 obtain ⟨v, ev, iv⟩ := wM e1 i1 (bV L).1.nd m
 obtain ⟨t, rfl, o⟩ := jA iv
 refine ⟨_, (aH (@aS _ _ _ _ (@bC _ _ _ _ _ _ _ (@aW _ (K) rfl) (@jW _ _ _ _ _ _ hu (@sS _ _ _ _ _ (pv 0) rfl) (pv 1) (fun _ _ => rfl)) aF (fun _ _ => rfl)))), ?_⟩
 refine ⟨_, rfl, p, C, dx, _, _, rfl, hx, T.cl_Land, T.a_field_rows, aDJ _ _, _, rfl, d1, .ref t, rfl, ?_, t, _, 1, .int g, rfl, rfl, SqT.of o, aO (j := 1) rfl, q⟩
 rw [← ev]
 exact rJ.k (k := Sum.inr z) h1
def rP (C : Addr) : Sp := sp2 fun x y H Q => ∃ (p : Addr) (fs ds : List Dv) (d : Dv), x = .ref p ∧ y = .str (aL d) ∧ LandAt C H p fs ds ∧ d ∈ ds ∧ ∀ v, Is H d v → Q v H
theorem jL (T : Txt K mg C) : Mc P w K mg base 1 C "dyke" ["self", "name"] (rP C) := by
 refine T.m_land_p_dyke.mc sM jM (fun f cdv A outer s H vs Q E hr h => ?_)
 obtain ⟨x, y, rfl, p, fs, ds, d, rfl, rfl, L, m, q⟩ := h
 have hu := oA hr
 obtain ⟨dx, d1, d2, hx, t1, ⟨k1, h1, e1, i1⟩⟩ := L.ex
 obtain ⟨v, ev, iv⟩ := wM e1 i1 (bV L).2.nd m
 refine ⟨_, (aH (@aS _ _ _ _ (@jW _ _ _ _ _ _ hu (@sS _ _ _ _ _ (pv 0) rfl) (pv 1) (fun _ _ => rfl)))), ?_⟩
 refine ⟨_, rfl, p, C, dx, _, _, rfl, hx, T.cl_Land, T.a_dyke_rows, xW _ _, _, rfl, d2, v, rfl, ?_, q v iv⟩
 rw [← ev]
 exact rJ.k (k := Sum.inr (aL d)) h1
theorem aCD {α β : Type} : ∀ {xs : List α} {ys : List β}, xs.length = ys.length → (xs.zip ys).map (·.1) = xs
 | [], [], _ => rfl
 | x :: xs, y :: ys, h => by rw [List.zip_cons_cons, List.map_cons, aCD (by simpa using h)]
 | [], _ :: _, h => by simp at h
 | _ :: _, [], h => by simp at h
theorem aCC {α β : Type} : ∀ {xs : List α} {ys : List β}, xs.length = ys.length → (xs.zip ys).map (·.2) = ys
 | [], [], _ => rfl
 | x :: xs, y :: ys, h => by rw [List.zip_cons_cons, List.map_cons, aCC (by simpa using h)]
 | [], _ :: _, h => by simp at h
 | _ :: _, [], h => by simp at h
def dG (ds : List Dv) (us : List V) : List (Key × V) := (ds.map mT).zip us
theorem lE {ds : List Dv} {us : List V} (h : us.length = ds.length) : (dG ds us).map (·.1) = ds.map mT := aCD (by rw [List.length_map]; exact h.symm)
theorem sU {ds : List Dv} {us : List V} (h : us.length = ds.length) : (dG ds us).map (·.2) = us := aCC (by rw [List.length_map]; exact h.symm)
theorem nK {ds : List Dv} {us : List V} (h : us.length = ds.length) : (dG ds us).length = us.length := by
 unfold dG
 rw [List.length_zip, List.length_map]
 omega
theorem zH {ds : List Dv} {us : List V} {i : Nat} {d : Dv} {v : V} (e1 : ds[i]? = some d) (e2 : us[i]? = some v) : (dG ds us)[i]? = some (mT d, v) := by
 unfold dG
 rw [List.getElem?_zip_eq_some]
 exact ⟨by rw [List.getElem?_map, e1]; rfl, e2⟩
theorem vU {ds : List Dv} (h : (ds.map aL).Nodup) : (ds.map mT).Nodup := by
 have e : ds.map mT = (ds.map aL).map Sum.inr := by rw [List.map_map]; rfl
 rw [e, fW]
 exact h
theorem uR (T : Txt K mg C) : Ic P w K mg base 6 C ["self", "fields", "dykes"] (aFZ C) := by
 have G_p_are_fields : Fc P w K mg base 4 "are_fields" ["thing"] yU := rC T
 have G_p_are_dykes : Fc P w K mg base 5 "are_dykes" ["thing", "sides"] (aCS K) := tF T
 refine T.i_Land.ic uO pW (fun f cdv A outer s H vs Q E hr h => ?_)
 obtain ⟨x, v1, v2, rfl, p, dx, fs, ds, rfl, hx, hf, hd, sf, sd, okf, okd, q⟩ := h
 have big := bY
 have gf := (qB _).mp okf
 have gd := (qC _ _).mp okd
 have lf := gf.l2
 have ld := gd.l2
 obtain ⟨a1, us, rfl, o1, i1⟩ := id hf
 obtain ⟨a2, ws, rfl, o2, i2⟩ := id hd
 have l1 := i1.length
 have l2 := i2.length
 refine ⟨_, (aG (@dL _ _ _ _ _ _ _ _ (@cY _ _ _ _ (@cB _ _ _ (@bD _ _ _ _ _ _ _ _ _ _ G_p_are_fields (hr.mono (by decide)) (aA (pv 1) aB) (by rfl) (by decide) (by rfl) (by rfl)) (by intro _; rfl))) (aH mJ) bQ) (aG (@dL _ _ _ _ _ _ _ _ (@cY _ _ _ _ (@cB _ _ _ (@bD _ _ _ _ _ _ _ _ _ _ G_p_are_dykes (hr.mono (by decide)) (aA (pv 2) (aA (@aK _ _ _ _ _ _ _ _ pO (@cG _ _ _ _ (aA (@sR _ _ _ _ T.g_SEA (by rfl) (by decide)) aB)) (@bX _ _ _ _ _ _ _ _ _ _ _ ["field"] 1 [] rfl (@bM _ _ _ _ (pv 1)) (fun R => @aP _ _ (0) _ (show List.Nodup (["field"] : List Str) by decide +kernel) rfl (Or.inl rfl) (by trivial)) (@aX _ _ (by decide)) (fun R => cI) (fun R => (@bC _ _ _ _ _ _ _ (@aW _ (K) rfl) (pv 0) aF (fun _ _ => rfl))) (by rfl) (by rfl) (by rfl) (by rfl) (by rfl) (by rfl) (by rfl) (by intro _; rfl))) aB)) (by rfl) (by decide) (by rfl) (by rfl)) (by intro _; rfl))) (aH mJ) bQ) (aG (@aGP _ _ _ _ _ _ _ _ (pv 0) (@cW _ _ _ _ _ _ _ _ _ (@eJ _ rfl) rfl T.n_dict jQ (aA (@bX _ _ _ _ _ _ _ _ _ _ _ ["field"] 1 [] rfl (@bM _ _ _ _ (pv 1)) (fun R => @aP _ _ (0) _ (show List.Nodup (["field"] : List Str) by decide +kernel) rfl (Or.inl rfl) (by trivial)) (@aX _ _ (by decide)) (fun R => cI) (fun R => (@dY _ _ _ _ _ (aA (@bC _ _ _ _ _ _ _ (@aW _ (K) rfl) (pv 0) aF (fun _ _ => rfl)) (aA (pv 0) aB)))) (by rfl) (by rfl) (by rfl) (by rfl) (by rfl) (by rfl) (by rfl) (by intro _; rfl)) aB) (by decide) (by decide) (by rfl) (by rfl)) rfl) (aH (@aGP _ _ _ _ _ _ _ _ (pv 0) (@cW _ _ _ _ _ _ _ _ _ (@eJ _ rfl) rfl T.n_dict jQ (aA (@bX _ _ _ _ _ _ _ _ _ _ _ ["dyke"] 1 [] rfl (@bM _ _ _ _ (pv 2)) (fun R => @aP _ _ (0) _ (show List.Nodup (["dyke"] : List Str) by decide +kernel) rfl (Or.inl rfl) (by trivial)) (@aX _ _ (by decide)) (fun R => cI) (fun R => (@dY _ _ _ _ _ (aA (@bC _ _ _ _ _ _ _ (@aW _ (K) rfl) (pv 0) aF (fun _ _ => rfl)) (aA (pv 0) aB)))) (by rfl) (by rfl) (by rfl) (by rfl) (by rfl) (by rfl) (by rfl) (by intro _; rfl)) aB) (by decide) (by decide) (by rfl) (by rfl)) rfl))))), ?_⟩
 refine ⟨_, rfl, _, rfl, .lst fs, hf, sf, _, rfl, ?_⟩
 rw [okf]
 refine bG ?_
 refine ⟨_, rfl, aN rfl, fun p1 hp1 => ?_⟩
 have S1 := aI.upd (o := .lst [.str "sea"]) hp1
 refine ⟨_, rfl, a1, rfl, ⟨_, SqL.of (S1 _ _ o1)⟩, ?_⟩
 refine bF (F := K) (xs := us) (by omega) (fun i ys H' => H' = upd H p1 (.lst [.str "sea"]) ∧ ys = ((fs.take i).map aL).map V.str) ⟨rfl, rfl⟩ ?_ ?_ ?_
 ·rintro i ys H' hi' ⟨rfl, rfl⟩
  exact ⟨SqL.of (S1 _ _ o1), by rw [List.length_map, List.length_map, List.length_take]; omega⟩
 ·rintro i x ys H' K1 K2 hx' ⟨rfl, rfl⟩ k1 k2
  have hil : i < us.length := (List.getElem?_eq_some_iff.mp hx').1
  obtain ⟨d, ed⟩ : ∃ d, fs[i]? = some d := ⟨_, List.getElem?_eq_getElem (by omega)⟩
  obtain ⟨v, ev, iv⟩ := i1.get ed
  rw [hx'] at ev
  cases ev
  obtain ⟨z, g, e, rfl, _⟩ := bJ (gf.all d (List.mem_of_getElem? ed))
  obtain ⟨t, rfl, o⟩ := jA iv
  refine ⟨_, rfl, t, _, 0, .str z, rfl, rfl, SqT.of (S1 _ _ o), aO (j := 0) rfl, k1 _ _ ⟨rfl, ?_⟩⟩
  rw [List.take_add_one, ed]
  simp [aL, cN]
 ·rintro ys H' ⟨rfl, rfl⟩
  intro p2 hp2
  rw [List.take_of_length_le (by omega)]
  have S2 := aI.upd (o := .lst ((fs.map aL).map V.str)) hp2
  refine ⟨p1, p2, _, _, rfl, rfl, S2 _ _ aE, aE, by simp only [List.length_map, List.length_cons, List.length_nil]; omega, fun p3 hp3 => ?_⟩
  have S3 := aI.upd (o := .lst ([.str "sea"] ++ (fs.map aL).map V.str)) hp3
  have S := S1.trans (S2.trans S3)
  generalize hH3 : upd (upd (upd H p1 (.lst [.str "sea"])) p2 (.lst ((fs.map aL).map V.str))) p3 (.lst ([.str "sea"] ++ (fs.map aL).map V.str)) = H3 at S
  have hp3' : H3 p3 = some (.lst ((("sea" : Str) :: fs.map aL).map V.str)) := by rw [← hH3, aE]; rfl
  refine ⟨_, _, rfl, .lst ds, p3, _, Is.same S _ _ hd, sd, rfl, hp3', _, rfl, ?_⟩
  rw [okd]
  refine bG ?_
  refine ⟨_, rfl, a1, rfl, ⟨_, SqL.of (S _ _ o1)⟩, ?_⟩
  refine bF (F := K) (xs := us) (by omega) (fun i ys H' => aI H3 H' ∧ bZ H' ys ((dG fs us).take i)) ⟨aI.refl _, bZ.nil _⟩ ?_ ?_ ?_
  ·rintro i ys H' hi' ⟨S4, pr⟩
   exact ⟨SqL.of (S4 _ _ (S _ _ o1)), by have := pr.len; rw [List.length_take] at this; omega⟩
  ·rintro i x ys H' K1 K2 hx' ⟨S4, pr⟩ k1 k2
   have hil : i < us.length := (List.getElem?_eq_some_iff.mp hx').1
   obtain ⟨d, ed⟩ : ∃ d, fs[i]? = some d := ⟨_, List.getElem?_eq_getElem (by omega)⟩
   obtain ⟨v, ev, iv⟩ := i1.get ed
   rw [hx'] at ev
   cases ev
   obtain ⟨z, g, e, rfl, _⟩ := bJ (gf.all d (List.mem_of_getElem? ed))
   obtain ⟨t, rfl, o⟩ := jA iv
   have ot := S4 _ _ (S _ _ o)
   refine ⟨_, rfl, t, _, 0, .str z, rfl, rfl, SqT.of ot, aO (j := 0) rfl, _, rfl, aN rfl, fun pt hpt => k1 _ _ ⟨S4.trans (aI.upd hpt), ?_⟩⟩
   rw [List.take_add_one, zH ed hx']
   exact pr.snoc (k := Sum.inr z) hpt
  ·rintro ys H4 ⟨S4, pr⟩
   rw [List.take_of_length_le (by rw [nK l1]; omega)] at pr
   intro p4 hp4
   have S5 := aI.upd (o := .lst ys) hp4
   refine ⟨p4, ys, dG fs us, rfl, SqL.of aE, pr.same S5, by rw [nK l1]; omega, by rw [lE l1]; exact vU gf.nd, fun d1 hd1 => ?_⟩
   have S6 := aI.upd (o := .dK (dG fs us)) hd1
   have SA := S.trans (S4.trans (S5.trans S6))
   have hd1' : upd (upd H4 p4 (.lst ys)) d1 (.dK (dG fs us)) d1 = some (.dK (dG fs us)) := aE
   generalize upd (upd H4 p4 (.lst ys)) d1 (.dK (dG fs us)) = H6 at SA hd1'
   refine ⟨_, rfl, p, C, dx, [], rfl, SA _ _ hx, T.cl_Land, T.a_field_rows, (by show 0 < 1000; decide), ?_⟩
   have SB : ∀ b o, H b = some o → b ≠ p → upd H6 p (.ins C dx (iU "field_rows" (.ref d1) [])) b = some o := fun b o e hb => by rw [aQ hb]; exact SA _ _ e
   have nd1 : d1 ≠ p := vP hd1' (SA _ _ hx) (by intro z; cases z)
   have SD : aDV H (upd H6 p (.ins C dx (iU "field_rows" (.ref d1) []))) := fun b o e dt => SB b o e (fun z => by subst z; rw [hx] at e; cases e; cases dt)
   have hp7 : upd H6 p (.ins C dx (iU "field_rows" (.ref d1) [])) p = some (.ins C dx (iU "field_rows" (.ref d1) [])) := aE
   have hd7 : upd H6 p (.ins C dx (iU "field_rows" (.ref d1) [])) d1 = some (.dK (dG fs us)) := by rw [aQ nd1]; exact hd1'
   generalize upd H6 p (.ins C dx (iU "field_rows" (.ref d1) [])) = H7 at SB SD hp7 hd7
   refine ⟨_, rfl, a2, rfl, ⟨_, SqL.of (SD _ _ o2 rfl)⟩, ?_⟩
   refine bF (F := K) (xs := ws) (by omega) (fun i ys H' => aI H7 H' ∧ bZ H' ys ((dG ds ws).take i)) ⟨aI.refl _, bZ.nil _⟩ ?_ ?_ ?_
   ·rintro i ys H' hi' ⟨S8, pr⟩
    exact ⟨SqL.of (S8 _ _ (SD _ _ o2 rfl)), by have := pr.len; rw [List.length_take] at this; omega⟩
   ·rintro i x ys H' K1 K2 hx' ⟨S8, pr⟩ k1 k2
    have hil : i < ws.length := (List.getElem?_eq_some_iff.mp hx').1
    obtain ⟨d, ed⟩ : ∃ d, ds[i]? = some d := ⟨_, List.getElem?_eq_getElem (by omega)⟩
    obtain ⟨v, ev, iv⟩ := i2.get ed
    rw [hx'] at ev
    cases ev
    obtain ⟨n, a, b, c, r, sl, rfl, _⟩ := bP (gd.all d (List.mem_of_getElem? ed))
    obtain ⟨t, vs, rfl, o, _⟩ := jP iv
    have ot := S8 _ _ (SD _ _ o rfl)
    refine ⟨_, rfl, t, _, 0, .str n, rfl, rfl, SqT.of ot, aO (j := 0) rfl, _, rfl, aN rfl, fun pt hpt => k1 _ _ ⟨S8.trans (aI.upd hpt), ?_⟩⟩
    rw [List.take_add_one, zH ed hx']
    exact pr.snoc (k := Sum.inr n) hpt
   ·rintro ys H8 ⟨S8, pr⟩
    rw [List.take_of_length_le (by rw [nK l2]; omega)] at pr
    intro p9 hp9
    have S9 := aI.upd (o := .lst ys) hp9
    refine ⟨p9, ys, dG ds ws, rfl, SqL.of aE, pr.same S9, by rw [nK l2]; omega, by rw [lE l2]; exact vU gd.nd, fun d2 hd2 => ?_⟩
    have S10 := aI.upd (o := .dK (dG ds ws)) hd2
    have SC := S8.trans (S9.trans S10)
    have hd2' : upd (upd H8 p9 (.lst ys)) d2 (.dK (dG ds ws)) d2 = some (.dK (dG ds ws)) := aE
    generalize upd (upd H8 p9 (.lst ys)) d2 (.dK (dG ds ws)) = H10 at SC hd2'
    refine ⟨_, rfl, p, C, dx, _, rfl, SC _ _ hp7, T.cl_Land, T.a_dyke_rows, (by show 1 < 1000; decide), ?_⟩
    have nd2 : d2 ≠ p := vP hd2' (SC _ _ hp7) (by intro z; cases z)
    have SE : aDV H (upd H10 p (.ins C dx (mR d1 d2))) := fun b o e dt => by
     have hb : b ≠ p := fun z => by subst z; rw [hx] at e; cases e; cases dt
     rw [aQ hb]
     exact SC _ _ (SB _ _ e hb)
    refine q _ ⟨⟨dx, d1, d2, aE, ⟨_, (aQ nd1).trans (SC _ _ hd7), lE l1, ?_⟩, ⟨_, (aQ nd2).trans hd2', lE l2, ?_⟩⟩, okf, okd⟩ fun b o e hb => ?_
    ·rw [sU l1]
     exact IsL.sameD SE _ _ i1
    ·rw [sU l2]
     exact IsL.sameD SE _ _ i2
    ·show upd H10 p (.ins C dx (mR d1 d2)) b = some o
     rw [aQ hb]
     exact SC _ _ (SB _ _ e hb)
open Mt02
def sA (K : PySem.W.Frag) : Sp := sp2 fun x y H Q => ∃ (a : Addr) (ns : List Int) (k : Int), x = .ref a ∧ y = .int k ∧ SqL K H a (ns.map V.int) ∧ ns.length ≤ 63 ∧ 0 ≤ k ∧ Q (.int (ns.getD k.toNat 0)) H
theorem iV (T : Txt K mg C) : Fc P w K mg base 1 "_law_cell_at" ["_law_script", "_law_k"] (sA K) := by
 refine T.d_l_cell_at.fc xF jM (fun f cdv A outer s H vs Q E hr h => ?_)
 obtain ⟨x, y, rfl, a, ns, k, rfl, rfl, hS, hl, hk, q⟩ := h
 refine ⟨_, (aG (@dL _ _ _ _ _ _ _ _ (@bI _ _ _ _ _ _ _ _ oZ (pv 1) (@aT _ _ _ _ _ _ _ _ _ (@bH _ (K) rfl) rfl T.n_len bT (aA (pv 0) aB) (by decide) (by decide) (by rfl) (by rfl)) (@bO _ _ (by decide) (by decide))) (aH (@aS _ _ _ _ (@bC _ _ _ _ _ _ _ (@cO _ (K) rfl) (pv 0) (pv 1) (fun _ _ => rfl)))) bQ) (aH (@aS _ _ _ _ aF))), ?_⟩
 refine ⟨_, rfl, _, rfl, a, _, rfl, .inl hS, _, _, rfl, rfl, _, rfl, ?_⟩
 obtain ⟨j, rfl⟩ := Int.eq_ofNat_of_zero_le hk
 rw [List.length_map]
 refine jR (fun h1 => ?_) (fun h1 => ?_)
 ·have h1' : j < ns.length := by
   have := of_decide_eq_true h1
   omega
  refine ⟨_, rfl, _, rfl, a, _, _, .int (ns.getD j 0), rfl, rfl, hS, aO ?_, ?_⟩
  ·rw [List.getElem?_map, List.getElem?_eq_getElem h1', List.getD_eq_getElem?_getD, List.getElem?_eq_getElem h1']
   rfl
  ·simpa using q
 ·have h1' : ¬ j < ns.length := by
   intro h2
   exact h1 (decide_eq_true (by omega))
  have e : ns.getD j 0 = 0 := by
   rw [List.getD_eq_getElem?_getD, List.getElem?_eq_none (by omega)]
   rfl
  have q' : Q (.int (ns.getD j 0)) H := by simpa using q
  rw [e] at q'
  exact q'
def Scr (K : PySem.W.Frag) (H : Hp) (x : V) : Prop := ∃ (a : Addr) (ns : List Int), x = .ref a ∧ SqL K H a (ns.map V.int) ∧ ns.length ≤ 63
theorem Scr.same {K : PySem.W.Frag} {H H' : Hp} {x : V} (S : aI H H') (h : Scr K H x) : Scr K H' x := by
 obtain ⟨a, ns, e, q, l⟩ := h
 exact ⟨a, ns, e, S.seq q, l⟩
theorem p6 : (10 : Int) ^ (6 : Int).toNat = 1000000 := by decide
structure Fds (fs : List Dv) (n : Nat) : Prop where
 l1 : 1 ≤ fs.length
 l2 : fs.length ≤ n
 all : ∀ d ∈ fs, cC d = true
 nd : (fs.map aL).Nodup
theorem aBT {d : Dv} (h : cC d = true) : yA d = true := by
 obtain ⟨z, g, e, rfl, _⟩ := bJ h
 rfl
theorem aHW {z : Str} {g e : Int} (hz : eW z = true) (g0 : -1000000 ≤ g) (g1 : g ≤ 1000000) (e0 : 0 ≤ e) (e1 : e ≤ 1000000) : cC (.tup [.str z, .int g, .int e]) = true := by
 show (eW z && (hgt g && amt e)) = true
 unfold hgt amt
 rw [hz, decide_eq_true g0, decide_eq_true g1, decide_eq_true e0, decide_eq_true e1]
 rfl
structure Dks (zs : List Str) (ds : List Dv) (n : Nat) : Prop where
 l1 : 1 ≤ ds.length
 l2 : ds.length ≤ n
 all : ∀ d ∈ ds, cU zs d = true
 nd : (ds.map aL).Nodup
theorem aEA {c s : Dv} (h : lJ c s = true) : yA s = true := by
 cases s with
 | non => rfl
 | int i => rfl
 | _ => cases h
theorem aEZ {zs : List Str} {d : Dv} (h : cU zs d = true) : yA d = true := by
 obtain ⟨n, a, b, c, r, s, rfl, _, _, _, _, _, _, hs⟩ := bP h
 have := aEA hs
 show (true && (true && (true && (true && (true && (yA s && true)))))) = true
 rw [this]
 rfl
theorem aJP {zs : List Str} {n a b : Str} {c r : Int} {s : Dv} (hn : eW n = true) (ha : a ∈ zs) (hb : b ∈ zs) (hab : a ≠ b) (hc : hgt c = true) (hr : amt r = true) (hs : lJ (.int c) s = true) : cU zs (.tup [.str n, .str a, .str b, .int c, .int r, s]) = true := by
 show (eW n && (decide (a ∈ zs) && (decide (b ∈ zs) && !(a == b))) && (hgt c && (amt r && lJ (.int c) s))) = true
 rw [hn, decide_eq_true ha, decide_eq_true hb, hc, hr, hs, beq_eq_false_iff_ne.mpr hab]
 rfl
theorem aBP {i : Int} (h0 : -1000000 ≤ i) (h1 : i ≤ 1000000) : hgt i = true := by
 unfold hgt
 rw [decide_eq_true h0, decide_eq_true h1]
 rfl
theorem aLP {i : Int} (h0 : 0 ≤ i) (h1 : i ≤ 1000000) : amt i = true := by
 unfold amt
 rw [decide_eq_true h0, decide_eq_true h1]
 rfl
theorem oS {z : Str} (h : eW z = true) : z ≠ "sea" := by
 intro e
 subst e
 simp [eW] at h
theorem aGF {fs : List Dv} {n : Nat} (h : Fds fs n) : ("sea" :: fs.map aL : List Str).Nodup := by
 rw [List.nodup_cons]
 refine ⟨fun m => ?_, h.nd⟩
 obtain ⟨d, md, e⟩ := List.mem_map.mp m
 obtain ⟨z, g, e', rfl, hz, _⟩ := bJ (h.all d md)
 exact oS hz e
theorem aMT {zs : List Str} (h : zs.Nodup) {i j : Nat} {a b : Str} (ha : zs[i]? = some a) (hb : zs[j]? = some b) (hij : i ≠ j) : a ≠ b := by
 intro e
 subst e
 obtain ⟨h1, e1⟩ := List.getElem?_eq_some_iff.mp ha
 obtain ⟨h2, e2⟩ := List.getElem?_eq_some_iff.mp hb
 exact hij ((List.getElem_inj h).mp (e1.trans e2.symm))
theorem aEB {c f L s r : Int} (hL : 2 ≤ L) (hf0 : 0 ≤ f) (hf1 : f < L) (hr : r = c % (L - 1)) (hs : s = (f + 1 + r) % L) : 0 ≤ s ∧ s < L ∧ f ≠ s := by
 have r0 : 0 ≤ r := by rw [hr]; exact Int.emod_nonneg _ (by omega)
 have r1 : r < L - 1 := by rw [hr]; exact Int.emod_lt_of_pos _ (by omega)
 have s0 : 0 ≤ s := by rw [hs]; exact Int.emod_nonneg _ (by omega)
 have s1 : s < L := by rw [hs]; exact Int.emod_lt_of_pos _ (by omega)
 refine ⟨s0, s1, ?_⟩
 intro e
 by_cases hlt : f + 1 + r < L
 ·rw [Int.emod_eq_of_lt (by omega) hlt] at hs
  omega
 ·have e2 : (f + 1 + r) % L = f + 1 + r - L := by
   rw [← Int.sub_emod_right, Int.emod_eq_of_lt (by omega) (by omega)]
  omega
theorem at2 {a b i : Int} (h0 : 0 ≤ i) (h1 : i < 2) : ∃ m : Int, atI ([.int a, .int b] : List V) i = some (.int m) ∧ (m = a ∨ m = b) := by
 obtain ⟨k, rfl⟩ := Int.eq_ofNat_of_zero_le h0
 have hk : k < 2 := by omega
 match k, hk with
 | 0, _ => exact ⟨a, aO rfl, .inl rfl⟩
 | 1, _ => exact ⟨b, aO rfl, .inr rfl⟩
theorem aEX {fs : List Dv} {n : Nat} (h : Fds fs n) (hn : n ≤ 12) : lC (.lst fs) = true := (qB fs).mpr ⟨h.l1, Nat.le_trans h.l2 hn, h.all, h.nd⟩
theorem aHY {zs : List Str} {ds : List Dv} {n : Nat} (h : Dks zs ds n) (hn : n ≤ 40) : nF zs (.lst ds) = true := (qC zs ds).mpr ⟨h.l1, Nat.le_trans h.l2 hn, h.all, h.nd⟩
theorem gZ {z : Str} (h : eW z = true) : z.length ≤ 1000 := by
 unfold eW at h
 rw [Bool.and_eq_true, Bool.and_eq_true, Bool.and_eq_true] at h
 have := of_decide_eq_true h.1.1.2
 omega
theorem zV {d : Dv} (h : cC d = true) : dB d = true := by
 obtain ⟨z, g, e, rfl, hz, _⟩ := bJ h
 show (decide (3 ≤ 1000) && (decide (z.length ≤ 1000) && (true && (true && true)))) = true
 rw [decide_eq_true (gZ hz)]
 rfl
theorem sE {fs : List Dv} (hf : ∀ d ∈ fs, cC d = true) {a : Str} (h : a ∈ ("sea" :: fs.map aL : List Str)) : a.length ≤ 1000 := by
 rcases List.mem_cons.mp h with rfl | h
 ·decide +kernel
 ·obtain ⟨d, m, rfl⟩ := List.mem_map.mp h
  obtain ⟨z, g, e, rfl, hz, _⟩ := bJ (hf d m)
  exact gZ hz
theorem aBV {fs : List Dv} (hf : ∀ d ∈ fs, cC d = true) {d : Dv} (h : cU ("sea" :: fs.map aL) d = true) : dB d = true := by
 obtain ⟨n, a, b, c, r, s, rfl, hn, ha, hb, _, _, _, hs⟩ := bP h
 have e : dB s = true := by
  cases s with
  | non => rfl
  | int i => rfl
  | _ => cases hs
 show (decide (6 ≤ 1000) && (decide (n.length ≤ 1000) && (decide (a.length ≤ 1000) && (decide (b.length ≤ 1000) && (true && (true && (dB s && true))))))) = true
 rw [decide_eq_true (gZ hn), decide_eq_true (sE hf ha), decide_eq_true (sE hf hb), e]
 rfl
theorem nM {ds : List Dv} (h : ∀ d ∈ ds, dB d = true) (hl : ds.length ≤ 1000) : dB (.lst ds) = true := by
 show (decide (ds.length ≤ 1000) && gS ds) = true
 rw [decide_eq_true hl, vE h]
 rfl
theorem aIN {H : Hp} {l : Addr} {zs : List Str} (h : H l = some (.lst (zs.map V.str))) : Is H (.lst (zs.map Dv.str)) (.ref l) := ⟨l, _, rfl, h, IsL.strs H zs⟩
open Mt04
def aFT (C : Addr) : Sp := sp2 fun x y H Q => ∃ (p : Addr) (fs ds : List Dv) (d : Dv), x = .ref p ∧ LandAt C H p fs ds ∧ Is H d y ∧ Q (.bl (dU ds d)) H
theorem xL (T : Txt K mg C) : Fc P w K mg base 3 "is_work" ["land", "thing"] (aFT C) := by
 have G_p_is_tuple_of : Fc P w K mg base 1 "is_tuple_of" ["thing", "length"] rN := gY T
 have G_p_is_one_of : Fc P w K mg base 1 "is_one_of" ["thing", "names"] (oQ K) := gI T
 have G_p_is_height : Fc P w K mg base 2 "is_height" ["thing"] fZ := cR T
 have G_land_p_dyke_names : Mc P w K mg base 1 C "dyke_names" ["self"] (rO C fun _ ds => ds.map aL) := lW T
 have G_land_p_dyke : Mc P w K mg base 1 C "dyke" ["self", "name"] (rP C) := jL T
 refine T.d_p_is_work.fcD xB jM (fun f cdv A outer s H vs Q E hr h => ?_)
 obtain ⟨x, y, rfl, p, fs, ds, d, rfl, L, hd, q⟩ := h
 obtain ⟨dx, e1, e2, hx, _⟩ := L.ex
 have no : ∀ m : Str, ¬ m = "dyke_rows" → ¬ m = "field_rows" → (mR e1 e2).lookup m = none := fun m h1 h2 => jN _ _ h1 h2
 refine ⟨_, (aG (@dL _ _ _ _ _ _ _ _ (@PW.pt _ _ _ (@iK _ _ _ _ _ _ _ (@cY _ _ _ _ (@cB _ _ _ (@bD _ _ _ _ _ _ _ _ _ _ G_p_is_tuple_of (hr.mono (by decide)) (aA (pv 1) (aA aF aB)) (by rfl) (by decide) (by rfl) (by rfl)) (by intro _; rfl))) (@gW _ _ _ _ (@cY _ _ _ _ (@cB _ _ _ (@bD _ _ _ _ _ _ _ _ _ _ G_p_is_one_of (hr.mono (by decide)) (aA (@bC _ _ _ _ _ _ _ (@aW _ (K) rfl) (pv 1) aF (fun _ _ => rfl)) (aA (@aDB _ _ _ _ _ _ _ _ _ _ _ T.cl_Land G_land_p_dyke_names (hr.mono (by decide)) (pv 0) (by rfl)) aB)) (by rfl) (by decide) (by rfl) (by rfl)) (by intro _; rfl)))))) (aH (@aS _ _ _ _ kS)) bQ) (aH (@aS _ _ _ _ (@cZ _ _ _ _ _ _ _ (@bD _ _ _ _ _ _ _ _ _ _ G_p_is_height (hr.mono (by decide)) (aA (@bC _ _ _ _ _ _ _ (@aW _ (K) rfl) (pv 1) aF (fun _ _ => rfl)) aB) (by rfl) (by decide) (by rfl) (by rfl)) (@dS _ _ _ _ _ (@dQ _ _ _ _ _ _ _ _ aMQ (@bC _ _ _ _ _ _ _ (@aW _ (K) rfl) (pv 1) aF (fun _ _ => rfl)) (@bC _ _ _ _ _ _ _ (@aW _ (K) rfl) (@aIZ _ _ _ _ _ _ _ _ _ _ _ _ _ _ T.cl_Land G_land_p_dyke (hr.mono (by decide)) (pv 0) (aA (@bC _ _ _ _ _ _ _ (@aW _ (K) rfl) (pv 1) aF (fun _ _ => rfl)) aB) (by rfl) (by rfl) (by rfl)) aF (fun _ _ => rfl)) (@bO _ _ (by decide) (by decide)))))))), ?_⟩
 refine ⟨_, rfl, _, _, rfl, d, 2, hd, rfl, _, rfl, ?_⟩
 by_cases h2 : ∃ a b, d = .tup [a, b]
 ·obtain ⟨a, b, rfl⟩ := h2
  obtain ⟨t, us, rfl, o, va, r1, rfl, ha, vb, r2, rfl, hb, h0⟩ := hd
  cases (show r2 = [] from h0)
  refine bG ⟨_, rfl, t, _, 0, va, rfl, rfl, SqT.of o, aO (j := 0) rfl, _, rfl, p, dx, _, rfl, hx, no _ (by decide +kernel) (by decide +kernel), _, rfl, p, fs, ds, rfl, L, fun l hl => ?_⟩
  have S := aI.upd (o := .lst ((ds.map aL).map V.str)) hl
  refine ⟨_, _, rfl, a, l, ds.map aL, Is.same S _ _ ha, rfl, SqL.of aE, _, rfl, ?_⟩
  have dr := gN.lst (xs := (ds.map aL).map V.str) hl
  cases ea : gH (ds.map aL) a with
  | false =>
   have e : dU ds (.tup [a, b]) = false := by
    unfold dU
    split
    ·rename_i z v hq
     cases hq
     have : decide (z ∈ ds.map aL) = false := ea
     rw [this]
     rfl
    ·rfl
   rw [e] at q
   exact cA (cV.of dr q)
  | true =>
   refine bG ⟨_, rfl, t, _, 1, vb, rfl, rfl, SqT.of (S _ _ o), aO (j := 1) rfl, _, rfl, b, Is.same S _ _ hb, _, rfl, ?_⟩
   cases eb : cT b with
   | false =>
    have e : dU ds (.tup [a, b]) = false := by
     unfold dU
     split
     ·rename_i z v hq
      cases hq
      have : hgt v = false := eb
      rw [this]
      simp
     ·rfl
    rw [e] at q
    exact bG (cV.of dr q)
   | true =>
    cases a with
    | str z =>
     cases b with
     | int v =>
      have mz : z ∈ ds.map aL := of_decide_eq_true ea
      obtain ⟨d', md, rfl⟩ := List.mem_map.mp mz
      cases (show va = .str (aL d') from ha)
      cases (show vb = .int v from hb)
      have gd := (bV L).2
      refine cA ⟨_, rfl, t, _, 1, _, rfl, rfl, SqT.of (S _ _ o), aO (j := 1) rfl, _, rfl, p, dx, _, rfl, S _ _ hx, no _ (by decide +kernel) (by decide +kernel), _, rfl, t, _, 0, _, rfl, rfl, SqT.of (S _ _ o), aO (j := 0) rfl, _, _, rfl, p, fs, ds, d', rfl, rfl, L.same S, md, fun v1 iv1 => ?_⟩
      have ec := uC gd.nd md
      obtain ⟨n, a', b', c, r, sl, rfl, _⟩ := bP (gd.all d' md)
      obtain ⟨t', sv, rfl, o', _⟩ := jP iv1
      refine ⟨t', _, 3, .int c, rfl, rfl, SqT.of o', aO (j := 3) rfl, _, _, rfl, rfl, cV.of dr ?_⟩
      have e : dU ds (.tup [.str (aL (.tup [.str n, .str a', .str b', .int c, .int r, sl])), .int v]) = decide (c ≤ v) := by
       show (decide (_ ∈ ds.map aL) && (hgt v && decide (gL ds _ ≤ v))) = _
       rw [decide_eq_true mz, show hgt v = true from eb, ec]
       rfl
      rw [e] at q
      exact q
     | _ => cases eb
    | _ => cases ea
 ·have e1' : dU ds d = false := by
   unfold dU
   split
   ·rename_i z v
    exact absurd ⟨_, _, rfl⟩ h2
   ·rfl
  have e2' : aCE 2 d = false := by
   cases d with
   | tup ds' =>
    refine decide_eq_false (fun e => ?_)
    have e' : ds'.length = 2 := by omega
    match ds', e', h2 with
    | [a, b], _, h2 => exact h2 ⟨a, b, rfl⟩
   | _ => rfl
  dsimp only
  rw [e2']
  rw [e1'] at q
  exact cA (cV.of (.refl _) q)
def aCL (C : Addr) : Sp := sp2 fun x y H Q => ∃ (p : Addr) (fs ds : List Dv) (d : Dv), x = .ref p ∧ LandAt C H p fs ds ∧ Is H d y ∧ dB d = true ∧ Q (.bl (aAI ds d)) H
theorem tD (T : Txt K mg C) : Fc P w K mg base 4 "are_works" ["land", "thing"] (aCL C) := by
 have G_p_is_work : Fc P w K mg base 3 "is_work" ["land", "thing"] (aFT C) := xL T
 have G_p_none_twice : Fc P w K mg base 1 "none_twice" ["rows"] rM := iP T
 refine T.d_p_are_works.fcD sJ jM (fun f cdv A outer s H vs Q E hr h => ?_)
 obtain ⟨x, y, rfl, p0, fs, ds0, d, rfl, L, hd, hs, q⟩ := h
 have big := bY
 obtain ⟨t, ty, e1, e2, e3, e4, _⟩ := oO K hd
 refine ⟨_, (aH (@aS _ _ _ _ (@cZ _ _ _ _ _ _ _ (@aT _ _ _ _ _ _ _ _ _ (@cD _ (K) rfl) rfl T.n_isinstance bA (aA (pv 1) (aA (@kR _ _ _ _ T.n_list dA (by rfl) (by decide) (by decide)) aB)) (by decide) (by decide) (by rfl) (by rfl)) (@cZ _ _ _ _ _ _ _ (@aT _ _ _ _ _ _ _ _ _ (@lB _ rfl) rfl T.n_all jB (aA (@bX _ _ _ _ _ _ _ _ _ _ _ ["row", "land"] 1 [0] rfl (@bM _ _ _ _ (pv 1)) (fun R => @aP _ _ (0) _ (show List.Nodup (["row", "land"] : List Str) by decide +kernel) rfl (Or.inl rfl) (by trivial)) (@aX _ _ (by decide)) (fun R => cI) (fun R => (@bD _ _ _ _ _ _ _ _ _ _ G_p_is_work (hr.mono (by decide)) (aA (pv 1) (aA (pv 0) aB)) (by rfl) (by decide) (by rfl) (by rfl))) (by rfl) (by rfl) (by rfl) (by rfl) (by rfl) (by rfl) (by rfl) (by intro _; rfl)) aB) (by decide) (by decide) (by rfl) (by rfl)) (@dS _ _ _ _ _ (@bD _ _ _ _ _ _ _ _ _ _ G_p_none_twice (hr.mono (by decide)) (aA (pv 1) aB) (by rfl) (by decide) (by rfl) (by rfl))))))), ?_⟩
 refine ⟨_, rfl, _, _, _, t, _, rfl, rfl, ty, e4, _, rfl, ?_⟩
 cases d with
 | lst ds =>
  obtain ⟨p, us, rfl, o, hi⟩ := hd
  have l1 := hi.length
  have hs' := Bool.and_eq_true_iff.mp (show (decide (ds.length ≤ 1000) && gS ds) = true from hs)
  have l2 : ds.length ≤ 1000 := of_decide_eq_true hs'.1
  have q : Q (.bl (ds.all (dU ds0) && decide ((ds.map cN).Nodup))) H := q
  refine cA ⟨_, rfl, p, rfl, ⟨_, SqL.of o⟩, ?_⟩
  refine bF (F := K) (xs := us) (by omega) (fun i ys H' => H' = H ∧ ys = (ds.take i).map fun d => V.bl (dU ds0 d)) ⟨rfl, rfl⟩ ?_ ?_ ?_
  ·rintro i ys H' hi' ⟨rfl, rfl⟩
   exact ⟨SqL.of o, by rw [List.length_map, List.length_take]; omega⟩
  ·rintro i x ys H' K1 K2 hx ⟨rfl, rfl⟩ k1 k2
   have hil : i < us.length := (List.getElem?_eq_some_iff.mp hx).1
   obtain ⟨d, ed⟩ : ∃ d, ds[i]? = some d := ⟨_, List.getElem?_eq_getElem (by omega)⟩
   obtain ⟨v, ev, iv⟩ := hi.get ed
   rw [hx] at ev
   cases ev
   refine ⟨_, rfl, _, rfl, _, _, rfl, p0, fs, ds0, d, rfl, L, iv, k1 _ _ ⟨rfl, ?_⟩⟩
   rw [List.take_add_one, ed]
   simp
  ·rintro ys H' ⟨rfl, rfl⟩
   intro p1 hp1
   have np : p ≠ p1 := aV o hp1
   refine ⟨p1, ds.map (dU ds0), rfl, SqL.of ?_, _, rfl, ?_⟩
   ·rw [aE, List.take_of_length_le (by omega), List.map_map]
    rfl
   have e1 : (ds.map (dU ds0)).all id = ds.all (dU ds0) := by rw [List.all_map]; rfl
   rw [e1]
   refine jR (fun h2 => ?_) (fun h2 => ?_)
   ·rw [h2, Bool.true_and] at q
    obtain ⟨zs, ez⟩ := nQ oE h2
    have l3 : zs.length = ds.length := by have := congrArg List.length ez; simpa using this.symm
    refine ⟨_, rfl, _, rfl, p, us, ds, zs, rfl, by rw [aQ np]; exact o, IsL.same (aI.upd hp1) _ _ hi, ez, by omega, ?_⟩
    have e2 : decide zs.Nodup = decide (ds.map cN).Nodup := by rw [ez, Bool.eq_iff_iff, decide_eq_true_iff, decide_eq_true_iff, eA]
    rw [e2]
    exact cV.of (gN.lst hp1) q
   ·have h2' : ds.all (dU ds0) = false := by simpa using h2
    rw [h2'] at q
    exact cV.of (gN.lst hp1) q
 | _ => exact bG (cV.of (.refl _) q)
theorem aFH {H : Hp} {z : Str} {v : Int} {x : V} (h : Is H (.tup [.str z, .int v]) x) : ∃ t, x = .ref t ∧ H t = some (.tup [.str z, .int v]) := by
 obtain ⟨t, us, rfl, o, v0, r0, rfl, i0, v1, r1, rfl, i1, h0⟩ := h
 cases (show r1 = [] from h0)
 cases (show v0 = _ from i0)
 cases (show v1 = _ from i1)
 exact ⟨t, rfl, o⟩
open Mt21
def oR : Sp := sp2 fun x y H Q => ∃ c k : Int, x = .int c ∧ y = .int k ∧ 0 ≤ k ∧ k ≤ 1000 ∧ ∀ m : Int, Q (.int m) H
theorem oJ (T : Txt K mg C) : Fc P w K mg base 1 "_law_mixed" ["_law_cell", "_law_k"] oR := by
 refine T.d_l_mixed.fc sN jM (fun f cdv A outer s H vs Q E hr h => ?_)
 obtain ⟨x, y, rfl, c, k, rfl, rfl, k0, k1, q⟩ := h
 refine ⟨_, (aG (@dL _ _ _ _ _ _ _ _ (@bI _ _ _ _ _ _ _ _ jK (@aK _ _ _ _ _ _ _ _ cM (pv 0) aF) aF (@bO _ _ (by decide) (by decide))) (aH (@aS _ _ _ _ (@aK _ _ _ _ _ _ _ _ bN (pv 0) aF))) bQ) (aG (@aY _ _ (2) _ _ _ _ sN.nd rfl (Or.inl rfl) (@aK _ _ _ _ _ _ _ _ cM (@aK _ _ _ _ _ _ _ _ gG (@aK _ _ _ _ _ _ _ _ cP (@aK _ _ _ _ _ _ _ _ cM (@aK _ _ _ _ _ _ _ _ bN (pv 0) aF) (@aK _ _ _ _ _ _ _ _ kD aF aF)) aF) (@aK _ _ _ _ _ _ _ _ cP aF (@aK _ _ _ _ _ _ _ _ gG (@aK _ _ _ _ _ _ _ _ gG aF (pv 1)) (pv 1)))) aF) (by rfl) (by trivial)) (aH (@aS _ _ _ _ (@aK _ _ _ _ _ _ _ _ cP (@aK _ _ _ _ _ _ _ _ gG (@aK _ _ _ _ _ _ _ _ cM (@aK _ _ _ _ _ _ _ _ gG (pv 2) (pv 2)) aF) aF) (pv 2)))))), ?_⟩
 refine ⟨_, rfl, _, _, rfl, rfl, (iO rfl), rfl, _, rfl, ?_⟩
 refine jR (fun _ => ?_) (fun _ => ?_)
 ·exact ⟨_, rfl, _, _, rfl, rfl, ⟨by decide, by decide⟩, q _⟩
 ·have kk : 0 ≤ 7919 * k * k ∧ 7919 * k * k ≤ 7919000000 := by
   have h1 : 0 ≤ k * k := Int.mul_nonneg k0 k0
   have h2 : k * k ≤ 1000 * 1000 := Int.mul_le_mul k1 k1 k0 (by decide)
   rw [Int.mul_assoc]
   omega
  have m0 : ∀ a : Int, 0 ≤ a % 2147483629 ∧ a % 2147483629 < 2147483629 := fun a => ⟨Int.emod_nonneg _ (by decide), Int.emod_lt_of_pos _ (by decide)⟩
  refine ⟨_, rfl, _, _, rfl, rfl, ⟨by decide, by decide⟩, _, _, rfl, rfl, ⟨by decide, by decide, by decide⟩, _, _, rfl, rfl, (iO rfl), _, _, rfl, rfl, _, rfl, _, _, rfl, rfl, .inl ⟨by decide, by decide⟩, _, rfl, _, _, rfl, rfl, .inr ⟨by omega, by omega⟩, _, _, rfl, rfl, _, _, rfl, rfl, .inr ⟨by omega, by omega⟩, _, _, rfl, rfl, (iO rfl), ?_⟩
  generalize hm : (c / 2 % 10 ^ (30 : Int).toNat + 1) * (48271 + 7919 * k * k) % 2147483629 = m
  have hm0 := m0 ((c / 2 % 10 ^ (30 : Int).toNat + 1) * (48271 + 7919 * k * k))
  rw [hm] at hm0
  exact ⟨_, rfl, _, rfl, _, _, rfl, rfl, .inl ⟨by omega, by omega⟩, _, _, rfl, rfl, (iO rfl), _, _, rfl, rfl, .inr ⟨by decide, by decide⟩, _, rfl, _, _, rfl, rfl, q _⟩
def rY : Sp := sp2 fun x y H Q => ∃ (c : Int) (n : Nat), x = .int c ∧ y = .int n ∧ n ≤ 40 ∧ ∀ (zs : List Str) (l : Addr) (H' : Hp), Mt02.Names zs n → aI H H' → H l = none → H' l = some (.lst (zs.map V.str)) → Q (.ref l) H'
theorem aMX : ("abcdefghijklmnopqrstuvwxyz" : Str).length = 26 := by decide +kernel
theorem tG (T : Txt K mg C) : Fc P w K mg base 1 "_law_words" ["_law_cell", "_law_many"] rY := by
 refine T.d_l_words.fc eP jM (fun f cdv A outer s H vs Q E hr h => ?_)
 obtain ⟨x, y, rfl, c, n, rfl, rfl, hn, q⟩ := h
 have big := bY
 have l26 := aMX
 have hss : ("abcdefghijklmnopqrstuvwxyz" : Str).length ≤ sizeLine := by rw [l26]; omega
 obtain ⟨u2, pu2, hu2⟩ : ∃ u, PSs (lA CX0 P w K mg base ["_law_cell", "_law_many", "_law_letters", "_law_size", "_law_base", "_law_at", "_law_words_here", "_law_k", "_law_inner"] "_law_words" (aD gU) f cdv A outer s H E).nox ((aJ gU).drop 2) u ∧
   u { nx := fun _ H' => Q .non H', rt := Q } [some (.int c), some (.int n), some (.str "abcdefghijklmnopqrstuvwxyz"), none, none, none, none, none, none] H := by
  refine ⟨_, (aG (@aY _ _ (3) _ _ _ _ eP.nd rfl (Or.inl rfl) (@aK _ _ _ _ _ _ _ _ cP aF (@aK _ _ _ _ _ _ _ _ cM (@aK _ _ _ _ _ _ _ _ bN (pv 0) aF) aF)) (by rfl) (by trivial)) (aG (@aY _ _ (4) _ _ _ _ eP.nd rfl (Or.inl rfl) (@lQ _ _ _ _ _ _ _ _ _ _ _ _ PySem.F.plainAttrs_str PySem.F.slot_str_join PySem.F.type_str_join aJF kC (aA (@bX _ _ _ _ _ _ _ _ _ _ _ ["_law_j", "_law_cell", "_law_letters"] 1 [0, 2] rfl (@gX _ _ _ _ _ _ rfl T.n_range (aA (pv 3) aB) (by rfl)) (fun R => @aP _ _ (0) _ (show List.Nodup (["_law_j", "_law_cell", "_law_letters"] : List Str) by decide +kernel) rfl (Or.inl rfl) (by trivial)) (@aX _ _ (by decide)) (fun R => cI) (fun R => (@bC _ _ _ _ _ _ _ xX (pv 2) (@aK _ _ _ _ _ _ _ _ cM (@aK _ _ _ _ _ _ _ _ cP (@aK _ _ _ _ _ _ _ _ bN (pv 1) aF) (@aK _ _ _ _ _ _ _ _ gG (pv 0) (pv 0))) aF) (fun _ _ => rfl))) (by rfl) (by rfl) (by rfl) (by rfl) (by rfl) (by rfl) (by rfl) (by intro _; rfl)) aB) (by rfl) (by rfl) (by rfl) (by rfl) (by rfl)) (by rfl) (by trivial)) (aG (@aY _ _ (5) _ _ _ _ eP.nd rfl (Or.inl rfl) (@aK _ _ _ _ _ _ _ _ cM (@aK _ _ _ _ _ _ _ _ bN (pv 0) aF) (@aK _ _ _ _ _ _ _ _ cP (pv 3) aF)) (by rfl) (by trivial)) (aG (@aY _ _ (6) _ _ _ _ eP.nd rfl (Or.inl rfl) (@cG _ _ _ _ aB) (by rfl) (by trivial)) (aG (@iN _ _ _ _ _ _ _ _ PassesOwn.never rfl (@gX _ _ _ _ _ _ rfl T.n_range (aA (pv 1) aB) (by rfl)) (@aP _ _ (7) _ eP.nd rfl (Or.inl rfl) (by trivial)) (aG (@aY _ _ (8) _ _ _ _ eP.nd rfl (Or.inl rfl) (@aK _ _ _ _ _ _ _ _ oH (@bC _ _ _ _ _ _ _ xX (pv 2) (@aK _ _ _ _ _ _ _ _ cM (@aK _ _ _ _ _ _ _ _ cP (pv 7) (@aK _ _ _ _ _ _ _ _ bN (pv 0) aF)) aF) (fun _ _ => rfl)) (@bC _ _ _ _ _ _ _ xX (pv 2) (@aK _ _ _ _ _ _ _ _ cM (@aK _ _ _ _ _ _ _ _ cP (@aK _ _ _ _ _ _ _ _ bN (pv 7) aF) (@aK _ _ _ _ _ _ _ _ bN (pv 0) aF)) aF) (fun _ _ => rfl))) (by rfl) (by trivial)) (aH (@fQ _ _ _ _ (@lQ _ _ _ _ _ _ _ _ _ _ _ _ PySem.F.plainAttrs_list PySem.F.slot_list_append PySem.F.type_list_append eM (pv 6) (aA (@aK _ _ _ _ _ _ _ _ oH (@aK _ _ _ _ _ _ _ _ oH (@zF _ _ _ _ _ _ _ _ _ _ aGE (pv 4) aCZ (@aCY _ _ _ (pv 5))) (pv 8)) (@zF _ _ _ _ _ _ _ _ _ _ aGE (pv 4) (@aCY _ _ _ (pv 5)) aCZ)) aB) (by rfl) (by rfl) (by rfl) (by rfl) (by rfl)) (by rfl)))) (by intro _; rfl)) (aH (@aS _ _ _ _ (pv 6)))))))), ?_⟩
  have z0 : 0 ≤ c / 4 % 5 := Int.emod_nonneg _ (by decide)
  have z1 : c / 4 % 5 < 5 := Int.emod_lt_of_pos _ (by decide)
  obtain ⟨sz, hsz⟩ := Int.eq_ofNat_of_zero_le (show 0 ≤ 2 + c / 4 % 5 by omega)
  refine ⟨_, rfl, _, _, rfl, rfl, ⟨by decide, by decide⟩, _, _, rfl, rfl, (iO rfl), _, _, rfl, rfl, ?_⟩
  dsimp only
  rw [hsz]
  obtain ⟨H0, hH0⟩ : ∃ H0, H0 = H := ⟨H, rfl⟩
  have ixs : ∀ (x : Int), ∃ v, (V.str (kF x)) = v := fun x => ⟨_, rfl⟩
  refine ⟨rfl, _, rfl, _, rfl, by omega, by omega, ?_⟩
  refine uD (lo := 0) (n := sz) (by omega) (fun i ys H' => H' = H ∧ ys = ((List.range i).map fun (j : Nat) => kF (c / 20 + (j : Int) * (j : Int))).map V.str) ⟨rfl, rfl⟩ ?_ ?_ ?_
  ·rintro i ys H' ⟨rfl, rfl⟩
   simp
  ·rintro i ys H' K1 K2 hi ⟨rfl, rfl⟩ k1 k2
   refine ⟨_, rfl, _, rfl, _, _, rfl, rfl, ⟨by decide, by decide⟩, _, rfl, _, rfl, _, _, rfl, rfl, .inl ⟨by omega, by omega⟩, _, _, rfl, rfl, _, _, rfl, rfl, (iO rfl), _, _, ab (c / 20 + (0 + (i : Int)) * (0 + (i : Int))), rfl, rfl, hss, aDU _, k1 _ _ ⟨rfl, ?_⟩⟩
   rw [List.range_succ, List.map_append, List.map_append]
   show _ ++ [V.str (kF _)] = _ ++ [V.str (kF _)]
   rw [Int.zero_add]
  rintro ys H' ⟨e0, rfl⟩
  subst e0
  intro p1 hp1
  have S1 := aI.upd (o := .lst (((List.range sz).map fun (j : Nat) => kF (c / 20 + (j : Int) * (j : Int))).map V.str)) hp1
  have lsum : ((((List.range sz).map fun (j : Nat) => kF (c / 20 + (j : Int) * (j : Int)))).map fun y => y.length).sum = sz := by
   rw [List.map_map]
   show ((List.range sz).map fun _ => 1).sum = sz
   have e : ∀ m : Nat, ((List.range m).map fun _ => 1).sum = m := fun m => by
    induction m with
    | zero => rfl
    | succ m ih => rw [List.range_succ, List.map_append, List.sum_append, ih]; rfl
   exact e sz
  refine ⟨"", p1, (List.range sz).map fun (j : Nat) => kF (c / 20 + (j : Int) * (j : Int)), rfl, rfl, SqL.of aE, by rw [lsum, List.length_map, List.length_range, show ("" : Str).length = 0 by decide +kernel]; omega, ?_⟩
  generalize hb : Txt.join "" ((List.range sz).map fun (j : Nat) => kF (c / 20 + (j : Int) * (j : Int))) = b
  have bc : b.cps.toList = (List.range sz).map fun (j : Nat) => ab (c / 20 + (j : Int) * (j : Int)) := by
   rw [← hb, aBM, List.map_map]
   show (((List.range sz).map fun j => [ab _]).flatten) = _
   induction (List.range sz) with
   | nil => rfl
   | cons x r ih => rw [List.map_cons, List.flatten_cons, ih, List.map_cons]; rfl
  have bl : b.length = sz := by rw [hE, bc, List.length_map, List.length_range]
  have ball : b.cps.toList.all fE = true := by
   rw [bc, List.all_eq_true]
   intro x hx
   obtain ⟨j, _, rfl⟩ := List.mem_map.mp hx
   exact nR _
  have bs : b.length ≤ sizeLine := by omega
  have a0 : 0 ≤ c / 520 % ((sz : Int) + 1) := Int.emod_nonneg _ (by omega)
  have a1 : c / 520 % ((sz : Int) + 1) < (sz : Int) + 1 := Int.emod_lt_of_pos _ (by omega)
  obtain ⟨at', hat⟩ := Int.eq_ofNat_of_zero_le a0
  refine ⟨_, rfl, _, _, rfl, rfl, ⟨by decide, by decide⟩, _, rfl, _, _, rfl, rfl, _, _, rfl, rfl, (by show (0 : Int) < (sz : Int) + 1; omega), ?_⟩
  dsimp only
  rw [hat]
  refine ⟨aN rfl, fun l hl => ?_⟩
  have S2 := aI.upd (o := .lst []) hl
  have hl0 := S1.free hl
  subst hH0
  refine ⟨_, rfl, _, rfl, by omega, by omega, ?_⟩
  refine kY (lo := 0) (n := n) (fun i σ H' => ∃ (v7 v8 : Option V) (g : Nat → Str), σ = [some (.int c), some (.int n), some (.str "abcdefghijklmnopqrstuvwxyz"), some (.int sz), some (.str b), some (.int at'), some (.ref l), v7, v8] ∧ aI H0 H' ∧ H' l = some (.lst (((List.range i).map g).map V.str)) ∧ ∀ k, k < i → Put (g k) b at' ((k : Int) + c / 7) ((k : Int) / 26 + c / 11))
   ⟨_, _, fun _ => "", rfl, S1.trans S2, aE, (fun k hk => absurd hk (by omega))⟩ ?_ ?_
  ·rintro i σ H3 hi ⟨v7, v8, g, rfl, S3, hl3, pu⟩
   have sh1 : ∀ x y : Int, (kF x ++ kF y).cps.toList = [ab x, ab y] := fun x y => by rw [Tx.app_codes]; rfl
   have sl1 : ∀ x : Int, (kF x).length = 1 := fun _ => rfl
   refine ⟨_, rfl, _, rfl, _, rfl, _, _, rfl, rfl, ⟨by decide, by decide⟩, _, _, rfl, rfl, _, _, rfl, rfl, (iO rfl), _, _, ab (0 + (i : Int) + c / 7), rfl, rfl, hss, aDU _, ?_⟩
   refine ⟨_, rfl, _, rfl, _, _, rfl, rfl, ⟨by decide, by decide⟩, _, rfl, _, _, rfl, rfl, ⟨by decide, by decide⟩, _, _, rfl, rfl, _, _, rfl, rfl, (iO rfl), _, _, ab ((0 + (i : Int)) / 26 + c / 11), rfl, rfl, hss, aDU _, _, _, rfl, rfl, (by show 1 + 1 ≤ sizeLine; omega), ?_⟩
   have ia : (kF (0 + (i : Int) + c / 7) ++ kF ((0 + (i : Int)) / 26 + c / 11)).length = 2 := by rw [Tx.app_len]; rfl
   have tl : (Txt.slice b none (some (at' : Int))).length ≤ 8 := by
    rw [hE, rT b at' (by omega), List.length_take]
    omega
   have dl : (Txt.slice b (some (at' : Int)) none).length ≤ 8 := by
    rw [hE, tZ b at' (by omega), List.length_drop, ← hE]
    omega
   refine ⟨_, rfl, .inl ⟨rfl, _, SqL.of hl3⟩, _, rfl, _, rfl, _, rfl, b, rfl, bs, _, rfl, _, _, rfl, rfl, ?_, _, rfl, _, rfl, _, rfl, b, rfl, bs, _, _, rfl, rfl, ?_, l, _, _, rfl, rfl, hl3, by rw [List.length_map, List.length_map, List.length_range]; omega, ?_⟩
   ·refine Nat.le_trans (Nat.add_le_add tl (Nat.le_of_eq ia)) (by omega)
   ·rw [Tx.app_len]
    refine Nat.le_trans (Nat.add_le_add (Nat.add_le_add tl (Nat.le_of_eq ia)) dl) (by omega)
   ·refine ⟨_, _, fun k => if k = i then Txt.slice b none (some (at' : Int)) ++ (kF (0 + (i : Int) + c / 7) ++ kF ((0 + (i : Int)) / 26 + c / 11)) ++ Txt.slice b (some (at' : Int)) none else g k, rfl, S3.over hl0, ?_, fun k hk => ?_⟩
    ·rw [aE, List.range_succ, List.map_append, List.map_append]
     have e1 : (List.range i).map (fun k => if k = i then Txt.slice b none (some (at' : Int)) ++ (kF (0 + (i : Int) + c / 7) ++ kF ((0 + (i : Int)) / 26 + c / 11)) ++ Txt.slice b (some (at' : Int)) none else g k) = (List.range i).map g := List.map_congr_left fun k m => by
      rw [if_neg (by have := List.mem_range.mp m; omega)]
     rw [e1]
     show _ = some (HO.lst (_ ++ [V.str (if i = i then _ else _)]))
     rw [if_pos rfl]
     rfl
    ·by_cases hki : k = i
     ·subst hki
      dsimp only
      rw [if_pos rfl]
      refine ⟨?_⟩
      rw [Tx.app_codes, Tx.app_codes, rT b at' (by omega), tZ b at' (by omega), sh1, Int.zero_add]
     ·dsimp only
      rw [if_neg hki]
      exact pu k (by omega)
  ·rintro σ H3 ⟨v7, v8, g, rfl, S3, hl3, pu⟩
   exact ⟨_, rfl, q _ l H3 (aEG ball bl (by omega) (by omega) (by omega) (by omega) pu) S3 (S1.free hl) hl3⟩
 refine ⟨_, (aG (@aY _ _ (2) _ _ _ _ eP.nd rfl (Or.inr rfl) kC (by rfl) (by trivial)) (aG (@dL _ _ _ _ _ _ _ _ (@PW.pt _ _ _ (@kB _ _ _ _ _ _ _ (@bI _ _ _ _ _ _ _ _ jK (@aK _ _ _ _ _ _ _ _ cM (pv 0) aF) aF (@bO _ _ (by decide) (by decide))) (@iT _ _ _ _ (@bI _ _ _ _ _ _ _ _ oZ (pv 1) aF (@bO _ _ (by decide) (by decide)))))) (aH (@aS _ _ _ _ (@bX _ _ _ _ _ _ _ _ _ _ _ ["_law_k", "_law_cell", "_law_letters"] 1 [0, 2] rfl (@gX _ _ _ _ _ _ rfl T.n_range (aA (pv 1) aB) (by rfl)) (fun R => @aP _ _ (0) _ (show List.Nodup (["_law_k", "_law_cell", "_law_letters"] : List Str) by decide +kernel) rfl (Or.inl rfl) (by trivial)) (@aX _ _ (by decide)) (fun R => cI) (fun R => (@bC _ _ _ _ _ _ _ xX (pv 2) (@aK _ _ _ _ _ _ _ _ cM (@aK _ _ _ _ _ _ _ _ cP (@aK _ _ _ _ _ _ _ _ bN (pv 1) aF) (@aK _ _ _ _ _ _ _ _ gG aF (pv 0))) aF) (fun _ _ => rfl))) (by rfl) (by rfl) (by rfl) (by rfl) (by rfl) (by rfl) (by rfl) (by intro _; rfl)))) bQ) pu2)), ?_⟩
 refine ⟨_, rfl, _, _, rfl, rfl, (iO rfl), rfl, _, rfl, ?_⟩
 refine jR (fun c1 => ?_) (fun c1 => hu2)
 refine ⟨_, rfl, _, _, rfl, rfl, _, rfl, ?_⟩
 refine jR (fun c2 => ?_) (fun c2 => hu2)
 have hn26 : n ≤ 26 := by
  have := of_decide_eq_true c2
  omega
 refine ⟨_, rfl, _, rfl, by omega, by omega, ?_⟩
 refine uD (lo := 0) (n := n) (by omega) (fun i ys H' => H' = H ∧ ys = ((List.range i).map fun (j : Nat) => kF (c / 4 + 5 * (j : Int))).map V.str) ⟨rfl, rfl⟩ ?_ ?_ ?_
 ·rintro i ys H' ⟨rfl, rfl⟩
  simp
 ·rintro i ys H' K1 K2 hi ⟨rfl, rfl⟩ k1 k2
  refine ⟨_, rfl, _, rfl, _, _, rfl, rfl, ⟨by decide, by decide⟩, _, rfl, _, _, rfl, rfl, .inl ⟨by decide, by decide⟩, _, _, rfl, rfl, _, _, rfl, rfl, (iO rfl), _, _, ab (c / 4 + 5 * (0 + (i : Int))), rfl, rfl, hss, aDU _, k1 _ _ ⟨rfl, ?_⟩⟩
  rw [List.range_succ, List.map_append, List.map_append]
  show _ ++ [V.str (kF _)] = _ ++ [V.str (kF _)]
  rw [Int.zero_add]
 rintro ys H' ⟨rfl, rfl⟩
 intro p1 hp1
 exact q _ p1 _ (aBC hn26) (aI.upd hp1) hp1 aE
open Mt21
def Tw (H : Hp) (v : V) (a b : Int) : Prop := ∃ t, v = .ref t ∧ H t = some (.tup [.int a, .int b])
def wT : Sp := sp1 fun x H Q => ∃ n : Int, x = .int n ∧ ∀ (a b : Int) (v : V) (H' : Hp), aI H H' → Tw H' v a b → -1000000 ≤ b → b ≤ 1000000 → Q v H'
theorem pT (T : Txt K mg C) : Fc P w K mg base 1 "_law_high" ["_law_number"] wT := by
 refine T.d_l_high.fc aEE oK (fun f cdv A outer s H vs Q E hr h => ?_)
 obtain ⟨x, rfl, n, rfl, q⟩ := h
 refine ⟨_, (aG (@dL _ _ _ _ _ _ _ _ (@bI _ _ _ _ _ _ _ _ oZ (@aK _ _ _ _ _ _ _ _ cM (pv 0) aF) aF (@bO _ _ (by decide) (by decide))) (aH (@aS _ _ _ _ (@dY _ _ _ _ _ (aA (@aK _ _ _ _ _ _ _ _ bN (pv 0) aF) (aA (@aK _ _ _ _ _ _ _ _ gF (@aK _ _ _ _ _ _ _ _ cM (@aK _ _ _ _ _ _ _ _ bN (pv 0) aF) aF) aF) aB))))) bQ) (aH (@aS _ _ _ _ (@dY _ _ _ _ _ (aA (@aK _ _ _ _ _ _ _ _ bN (@aK _ _ _ _ _ _ _ _ bN (pv 0) aF) (@aK _ _ _ _ _ _ _ _ cP (@aK _ _ _ _ _ _ _ _ gG aF (@aK _ _ _ _ _ _ _ _ kD aF aF)) aF)) (aA (@aK _ _ _ _ _ _ _ _ gF (@aK _ _ _ _ _ _ _ _ cM (@aK _ _ _ _ _ _ _ _ bN (pv 0) aF) (@aK _ _ _ _ _ _ _ _ cP (@aK _ _ _ _ _ _ _ _ gG aF (@aK _ _ _ _ _ _ _ _ kD aF aF)) aF)) (@aK _ _ _ _ _ _ _ _ kD aF aF)) aB)))))), ?_⟩
 refine ⟨_, rfl, _, _, rfl, rfl, (iO rfl), _, _, rfl, rfl, _, rfl, ?_⟩
 refine jR (fun _ => ?_) (fun _ => ?_)
 ·refine ⟨_, rfl, _, _, rfl, rfl, ⟨by decide, by decide⟩, _, rfl, _, _, rfl, rfl, ⟨by decide, by decide⟩, _, _, rfl, rfl, (iO rfl), _, _, rfl, rfl, aN rfl, fun p hp => q _ _ _ _ (aI.upd hp) ⟨p, rfl, aE⟩ ?_ ?_⟩
  ·show -1000000 ≤ n / 3 % 16 - 3
   omega
  ·show n / 3 % 16 - 3 ≤ 1000000
   omega
 ·have e6 := p6
  refine ⟨_, rfl, _, _, rfl, rfl, ⟨by decide, by decide⟩, _, _, rfl, rfl, ⟨by decide, by decide, by decide⟩, _, _, rfl, rfl, .inl ⟨by decide, by decide⟩, _, _, rfl, rfl, _, _, rfl, rfl, ⟨iO rfl, by decide +kernel⟩, _, rfl, _, _, rfl, rfl, ⟨by decide, by decide⟩, _, _, rfl, rfl, ⟨by decide, by decide, by decide⟩, _, _, rfl, rfl, .inl ⟨by decide, by decide⟩, _, _, rfl, rfl, _, _, rfl, rfl, (iO rfl), _, _, rfl, rfl, ⟨by decide, by decide, by decide⟩, _, _, rfl, rfl, aN rfl, fun p hp => q _ _ _ _ (aI.upd hp) ⟨p, rfl, aE⟩ ?_ ?_⟩
  ·show -1000000 ≤ n / 3 % (2 * 10 ^ (6 : Int).toNat + 1) - 10 ^ (6 : Int).toNat
   rw [e6]; omega
  ·show n / 3 % (2 * 10 ^ (6 : Int).toNat + 1) - 10 ^ (6 : Int).toNat ≤ 1000000
   rw [e6]; omega
def aAU : Sp := sp1 fun x H Q => ∃ n : Int, x = .int n ∧ ∀ (a b : Int) (v : V) (H' : Hp), aI H H' → Tw H' v a b → 0 ≤ b → b ≤ 1000000 → Q v H'
theorem vN (T : Txt K mg C) : Fc P w K mg base 1 "_law_most" ["_law_number"] aAU := by
 refine T.d_l_most.fc vG oK (fun f cdv A outer s H vs Q E hr h => ?_)
 obtain ⟨x, rfl, n, rfl, q⟩ := h
 have e6 := p6
 refine ⟨_, (aG (@aY _ _ (1) _ _ _ _ vG.nd rfl (Or.inl rfl) (@bC _ _ _ _ _ _ _ (@cO _ (K) rfl) (@cG _ _ _ _ (aA aF (aA (@aK _ _ _ _ _ _ _ _ cP (@aK _ _ _ _ _ _ _ _ kD aF aF) aF) aB))) (@aK _ _ _ _ _ _ _ _ cM (pv 0) aF) (fun _ _ => rfl)) (by rfl) (by trivial)) (aH (@aS _ _ _ _ (@dY _ _ _ _ _ (aA (@aK _ _ _ _ _ _ _ _ bN (@aK _ _ _ _ _ _ _ _ bN (pv 0) aF) (pv 1)) (aA (@aK _ _ _ _ _ _ _ _ cM (@aK _ _ _ _ _ _ _ _ bN (pv 0) aF) (pv 1)) aB)))))), ?_⟩
 obtain ⟨m, em, hm⟩ := at2 (a := 8) (b := 10 ^ (6 : Int).toNat + 1) (i := n % 2) (Int.emod_nonneg _ (by decide)) (Int.emod_lt_of_pos _ (iO rfl))
 rw [e6] at hm
 have m0 : 0 < m ∧ m ≤ 1000001 := by omega
 have ml : m.natAbs.log2 < 9000 := by
  have hb : m.natAbs < 2 ^ 60 := by omega
  exact Nat.lt_trans ((Nat.log2_lt (by omega)).mpr hb) (by decide)
 have r0 : 0 ≤ n / 2 % m := Int.emod_nonneg _ (by omega)
 have r1 : n / 2 % m < m := Int.emod_lt_of_pos _ m0.1
 refine ⟨_, _, rfl, rfl, ⟨by decide, by decide, by decide⟩, _, _, rfl, rfl, aN rfl, fun p hp => ?_⟩
 refine ⟨_, rfl, _, _, rfl, rfl, (iO rfl), p, _, _, .int m, rfl, rfl, SqL.of aE, em, ?_⟩
 refine ⟨_, rfl, _, _, rfl, rfl, ⟨by decide, by decide⟩, _, rfl, _, _, rfl, rfl, ⟨m0.1, ml⟩, _, rfl, _, _, rfl, rfl, ⟨by decide, by decide⟩, _, rfl, _, _, rfl, rfl, m0.1, aN rfl, fun p2 hp2 => ?_⟩
 exact q _ _ _ _ ((aI.upd hp).trans (aI.upd hp2)) ⟨p2, rfl, aE⟩ r0 (by omega)
def vA (K : PySem.W.Frag) : Sp := sp2 fun x y H Q => ∃ n : Nat, Scr K H x ∧ y = .int n ∧ 1 ≤ n ∧ n ≤ 12 ∧ ∀ (l : Addr) (vs : List V) (fs : List Dv) (H' : Hp), aI H H' → H l = none → H' l = some (.lst vs) → IsL H' fs vs → Fds fs n → Q (.ref l) H'
theorem zL (T : Txt K mg C) : Fc P w K mg base 2 "_law_fields" ["_law_script", "_law_many"] (vA K) := by
 have G_l_cell_at : Fc P w K mg base 1 "_law_cell_at" ["_law_script", "_law_k"] (sA K) := iV T
 have G_l_words : Fc P w K mg base 1 "_law_words" ["_law_cell", "_law_many"] rY := tG T
 have G_l_mixed : Fc P w K mg base 1 "_law_mixed" ["_law_cell", "_law_k"] oR := oJ T
 have G_l_high : Fc P w K mg base 1 "_law_high" ["_law_number"] wT := pT T
 have G_l_most : Fc P w K mg base 1 "_law_most" ["_law_number"] aAU := vN T
 refine T.d_l_fields.fc fV jM (fun f cdv A outer s H vs Q E hr h => ?_)
 obtain ⟨x, y, rfl, n, ⟨a, ns, rfl, hS, hsl⟩, rfl, n1, n12, q⟩ := h
 have big := bY
 refine ⟨_, (aG (@aY _ _ (2) _ _ _ _ fV.nd rfl (Or.inl rfl) (@bD _ _ _ _ _ _ _ _ _ _ G_l_words (hr.mono (by decide)) (aA (@bD _ _ _ _ _ _ _ _ _ _ G_l_cell_at (hr.mono (by decide)) (aA (pv 0) (aA aF aB)) (by rfl) (by decide) (by rfl) (by rfl)) (aA (pv 1) aB)) (by rfl) (by decide) (by rfl) (by rfl)) (by rfl) (by trivial)) (aG (@aY _ _ (3) _ _ _ _ fV.nd rfl (Or.inl rfl) (@cG _ _ _ _ aB) (by rfl) (by trivial)) (aG (@iN _ _ _ _ _ _ _ _ PassesOwn.never rfl (@gX _ _ _ _ _ _ rfl T.n_range (aA (pv 1) aB) (by rfl)) (@aP _ _ (4) _ fV.nd rfl (Or.inl rfl) (by trivial)) (aG (@xH _ _ _ _ _ _ (@bD _ _ _ _ _ _ _ _ _ _ G_l_high (hr.mono (by decide)) (aA (@bD _ _ _ _ _ _ _ _ _ _ G_l_mixed (hr.mono (by decide)) (aA (@bD _ _ _ _ _ _ _ _ _ _ G_l_cell_at (hr.mono (by decide)) (aA (pv 0) (aA (@aK _ _ _ _ _ _ _ _ cP aF (pv 4)) aB)) (by rfl) (by decide) (by rfl) (by rfl)) (aA (@aK _ _ _ _ _ _ _ _ cP (pv 4) aF) aB)) (by rfl) (by decide) (by rfl) (by rfl)) aB) (by rfl) (by decide) (by rfl) (by rfl)) (@pN _ _ _ _ _ _ rfl (@cF _ _ _ _ _ (@aP _ _ (5) _ fV.nd rfl (Or.inl rfl) (by trivial)) (@cF _ _ _ _ _ (@aP _ _ (6) _ fV.nd rfl (Or.inl rfl) (by trivial)) lD (by rfl)) (by rfl)) (by rfl) (by rfl)) (by rfl) (by rfl) (by rfl)) (aH (@fQ _ _ _ _ (@lQ _ _ _ _ _ _ _ _ _ _ _ _ PySem.F.plainAttrs_list PySem.F.slot_list_append PySem.F.type_list_append eM (pv 3) (aA (@dY _ _ _ _ _ (aA (@bC _ _ _ _ _ _ _ (@cO _ (K) rfl) (pv 2) (pv 4) (fun _ _ => rfl)) (aA (pv 6) (aA (@bC _ _ _ _ _ _ _ (@aW _ (K) rfl) (@bD _ _ _ _ _ _ _ _ _ _ G_l_most (hr.mono (by decide)) (aA (pv 5) aB) (by rfl) (by decide) (by rfl) (by rfl)) aF (fun _ _ => rfl)) aB)))) aB) (by rfl) (by rfl) (by rfl) (by rfl) (by rfl)) (by rfl)))) (by intro _; rfl)) (aH (@aS _ _ _ _ (pv 3)))))), ?_⟩
 refine ⟨_, rfl, _, _, rfl, a, ns, 1, rfl, rfl, hS, hsl, by decide, _, rfl, _, _, rfl, _, n, rfl, rfl, by omega, fun zs ln H1 nm S1 fln hln => ?_⟩
 have zl := nm.len
 refine ⟨aN rfl, fun l hl => ?_⟩
 have S2 := aI.upd (o := .lst []) hl
 have T2 := S1.trans S2
 have hl0 := S1.free hl
 have hln2 := S2 _ _ hln
 refine ⟨_, rfl, _, rfl, by omega, by omega, ?_⟩
 refine kY (lo := 0) (n := n) (fun i σ H' => ∃ (v4 v5 v6 : Option V) (us : List V) (fs : List Dv), σ = [some (.ref a), some (.int n), some (.ref ln), some (.ref l), v4, v5, v6] ∧ aI H H' ∧ H' ln = some (.lst (zs.map V.str)) ∧ H' l = some (.lst us) ∧ IsL H' fs us ∧ fs.map aL = zs.take i ∧ ∀ d ∈ fs, cC d = true)
  ⟨_, _, _, [], [], rfl, T2, hln2, aE, rfl, rfl, (fun d m => by cases m)⟩ ?_ ?_
 ·rintro i σ H3 hi ⟨v4, v5, v6, us, fs, rfl, S3, hln3, hl3, ius, enm, all⟩
  obtain ⟨z, ez⟩ : ∃ z, zs[i]? = some z := ⟨_, List.getElem?_eq_getElem (by omega)⟩
  have ezv : (zs.map V.str)[i]? = some (V.str z) := by rw [List.getElem?_map, ez]; rfl
  have gz := nm.good z (List.mem_of_getElem? ez)
  have lus := ius.length
  have lfs : fs.length ≤ i := by
   have := congrArg List.length enm
   rw [List.length_map, List.length_take] at this
   omega
  refine ⟨_, rfl, _, rfl, _, _, rfl, rfl, _, _, rfl, a, ns, _, rfl, rfl, S3.seq hS, hsl, (by omega), _, rfl, _, _, rfl, rfl, _, _, rfl, _, _, rfl, rfl, by omega, by omega, fun m => ?_⟩
  refine ⟨_, rfl, m, rfl, fun a1 b1 v H4 S4 tw g0 g1 => ?_⟩
  obtain ⟨t, rfl, et⟩ := tw
  refine ⟨t, _, rfl, SqT.of et, rfl, _, _, rfl, _, _, rfl, rfl, ?_⟩
  have hl4 := S4 _ _ hl3
  have hln4 := S4 _ _ hln3
  refine ⟨_, rfl, .inl ⟨rfl, _, SqL.of hl4⟩, _, rfl, _, rfl, ln, _, _, .str z, rfl, rfl, SqL.of hln4, (by rw [Int.zero_add]; exact aO ezv), _, rfl, _, rfl, _, rfl, a1, rfl, fun a2 b2 v2 H5 S5 tw2 e0 e1 => ?_⟩
  obtain ⟨t2, rfl, et2⟩ := tw2
  refine ⟨t2, _, 1, .int b2, rfl, rfl, SqT.of et2, aO (j := 1) rfl, aN rfl, fun pt hpt => ?_⟩
  have S6 := aI.upd (o := .tup [.str z, .int b1, .int b2]) hpt
  have T6 := S4.trans (S5.trans S6)
  have hl6 := T6 _ _ hl3
  have KT := gR.lst (o := .lst (us ++ [.ref pt])) hl6
  refine ⟨l, us, .ref pt, rfl, rfl, hl6, by omega, ?_⟩
  have nll : l ≠ ln := fun e => by rw [e, hln] at hl; cases hl
  have all' : ∀ d ∈ fs ++ [Dv.tup [.str z, .int b1, .int b2]], cC d = true := fun d m => by
   rcases List.mem_append.mp m with m | m
   ·exact all d m
   ·rw [List.mem_singleton.mp m]; exact aHW gz g0 g1 e0 e1
  refine ⟨_, _, _, us ++ [.ref pt], fs ++ [.tup [.str z, .int b1, .int b2]], rfl, (S3.trans T6).over hl0, ?_, aE, IsL.keep KT _ _ (fA fun d m => aBT (all' d m)) ?_, ?_, all'⟩
  ·rw [aQ (Ne.symm nll)]; exact T6 _ _ hln3
  ·exact IsL.snoc (d := .tup [.str z, .int b1, .int b2]) (v := .ref pt) ⟨pt, _, rfl, aE, _, _, rfl, rfl, _, _, rfl, rfl, _, _, rfl, rfl, rfl⟩ (IsL.same T6 _ _ ius)
  ·rw [List.map_append, enm, List.take_add_one, ez]; rfl
 ·rintro σ H3 ⟨v4, v5, v6, us, fs, rfl, S3, hln3, hl3, ius, enm, all⟩
  rw [List.take_of_length_le (by omega)] at enm
  have lfs : fs.length = n := by
   have := congrArg List.length enm
   rw [List.length_map] at this
   omega
  exact ⟨_, rfl, q l us fs H3 S3 hl0 hl3 ius ⟨by omega, by omega, all, by rw [enm]; exact nm.nd⟩⟩
open Mt21
def yV (K : PySem.W.Frag) : Sp := sp3 fun x y u H Q => ∃ (n : Nat) (a : Addr) (vs : List V) (fs : List Dv) (k : Nat), Scr K H x ∧ y = .ref a ∧ H a = some (.lst vs) ∧ IsL H fs vs ∧ Fds fs k ∧ k ≤ 12 ∧ u = .int n ∧ 1 ≤ n ∧ n ≤ 40 ∧
 ∀ (l : Addr) (us : List V) (ds : List Dv) (H' : Hp), aI H H' → H l = none → H' l = some (.lst us) → IsL H' ds us → Dks ("sea" :: fs.map aL) ds n → Q (.ref l) H'
theorem aBG (T : Txt K mg C) : Fc P w K mg base 2 "_law_dykes" ["_law_script", "_law_fields_here", "_law_many"] (yV K) := by
 have G_l_cell_at : Fc P w K mg base 1 "_law_cell_at" ["_law_script", "_law_k"] (sA K) := iV T
 have G_l_words : Fc P w K mg base 1 "_law_words" ["_law_cell", "_law_many"] rY := tG T
 have G_l_mixed : Fc P w K mg base 1 "_law_mixed" ["_law_cell", "_law_k"] oR := oJ T
 have G_l_high : Fc P w K mg base 1 "_law_high" ["_law_number"] wT := pT T
 have G_l_most : Fc P w K mg base 1 "_law_most" ["_law_number"] aAU := vN T
 refine T.d_l_dykes.fc cH pW (fun f cdv A outer s H vs Q E hr h => ?_)
 obtain ⟨x, y, u, rfl, n, a, ws, fs, kf, ⟨sa, ns, rfl, hS, hsl⟩, rfl, ha, hi, gf, hkf, rfl, n0, n1, q⟩ := h
 have big := bY
 have lw := hi.length
 have f1 := gf.l1
 have f2 := gf.l2
 refine ⟨_, (aG (@aY _ _ (3) _ _ _ _ cH.nd rfl (Or.inl rfl) (@bD _ _ _ _ _ _ _ _ _ _ G_l_words (hr.mono (by decide)) (aA (@bD _ _ _ _ _ _ _ _ _ _ G_l_cell_at (hr.mono (by decide)) (aA (pv 0) (aA aF aB)) (by rfl) (by decide) (by rfl) (by rfl)) (aA (pv 2) aB)) (by rfl) (by decide) (by rfl) (by rfl)) (by rfl) (by trivial)) (aG (@aY _ _ (4) _ _ _ _ cH.nd rfl (Or.inl rfl) (@aK _ _ _ _ _ _ _ _ pO (@cG _ _ _ _ (aA kC aB)) (@bX _ _ _ _ _ _ _ _ _ _ _ ["_law_field"] 1 [] rfl (@bM _ _ _ _ (pv 1)) (fun R => @aP _ _ (0) _ (show List.Nodup (["_law_field"] : List Str) by decide +kernel) rfl (Or.inl rfl) (by trivial)) (@aX _ _ (by decide)) (fun R => cI) (fun R => (@bC _ _ _ _ _ _ _ (@aW _ (K) rfl) (pv 0) aF (fun _ _ => rfl))) (by rfl) (by rfl) (by rfl) (by rfl) (by rfl) (by rfl) (by rfl) (by intro _; rfl))) (by rfl) (by trivial)) (aG (@aY _ _ (5) _ _ _ _ cH.nd rfl (Or.inl rfl) (@cG _ _ _ _ aB) (by rfl) (by trivial)) (aG (@iN _ _ _ _ _ _ _ _ PassesOwn.never rfl (@gX _ _ _ _ _ _ rfl T.n_range (aA (pv 2) aB) (by rfl)) (@aP _ _ (6) _ cH.nd rfl (Or.inl rfl) (by trivial)) (aG (@aY _ _ (7) _ _ _ _ cH.nd rfl (Or.inl rfl) (@bD _ _ _ _ _ _ _ _ _ _ G_l_mixed (hr.mono (by decide)) (aA (@bD _ _ _ _ _ _ _ _ _ _ G_l_cell_at (hr.mono (by decide)) (aA (pv 0) (aA (@aK _ _ _ _ _ _ _ _ cP (@aK _ _ _ _ _ _ _ _ cP aF (@aT _ _ _ _ _ _ _ _ _ (@bH _ (K) rfl) rfl T.n_len bT (aA (pv 1) aB) (by decide) (by decide) (by rfl) (by rfl))) (pv 6)) aB)) (by rfl) (by decide) (by rfl) (by rfl)) (aA (@aK _ _ _ _ _ _ _ _ cP (pv 6) aF) aB)) (by rfl) (by decide) (by rfl) (by rfl)) (by rfl) (by trivial)) (aG (@aY _ _ (8) _ _ _ _ cH.nd rfl (Or.inl rfl) (@aK _ _ _ _ _ _ _ _ cM (pv 7) (@aT _ _ _ _ _ _ _ _ _ (@bH _ (K) rfl) rfl T.n_len bT (aA (pv 4) aB) (by decide) (by decide) (by rfl) (by rfl))) (by rfl) (by trivial)) (aG (@aY _ _ (9) _ _ _ _ cH.nd rfl (Or.inl rfl) (@aK _ _ _ _ _ _ _ _ cM (@aK _ _ _ _ _ _ _ _ cP (@aK _ _ _ _ _ _ _ _ cP (pv 8) aF) (@aK _ _ _ _ _ _ _ _ cM (@aK _ _ _ _ _ _ _ _ bN (pv 7) aF) (@aT _ _ _ _ _ _ _ _ _ (@bH _ (K) rfl) rfl T.n_len bT (aA (pv 1) aB) (by decide) (by decide) (by rfl) (by rfl)))) (@aT _ _ _ _ _ _ _ _ _ (@bH _ (K) rfl) rfl T.n_len bT (aA (pv 4) aB) (by decide) (by decide) (by rfl) (by rfl))) (by rfl) (by trivial)) (aG (@xH _ _ _ _ _ _ (@bD _ _ _ _ _ _ _ _ _ _ G_l_high (hr.mono (by decide)) (aA (@aK _ _ _ _ _ _ _ _ bN (pv 7) aF) aB) (by rfl) (by decide) (by rfl) (by rfl)) (@pN _ _ _ _ _ _ rfl (@cF _ _ _ _ _ (@aP _ _ (7) _ cH.nd rfl (Or.inl rfl) (by trivial)) (@cF _ _ _ _ _ (@aP _ _ (10) _ cH.nd rfl (Or.inl rfl) (by trivial)) lD (by rfl)) (by rfl)) (by rfl) (by rfl)) (by rfl) (by rfl) (by rfl)) (aG (@xH _ _ _ _ _ _ (@bD _ _ _ _ _ _ _ _ _ _ G_l_most (hr.mono (by decide)) (aA (pv 7) aB) (by rfl) (by decide) (by rfl) (by rfl)) (@pN _ _ _ _ _ _ rfl (@cF _ _ _ _ _ (@aP _ _ (7) _ cH.nd rfl (Or.inl rfl) (by trivial)) (@cF _ _ _ _ _ (@aP _ _ (11) _ cH.nd rfl (Or.inl rfl) (by trivial)) lD (by rfl)) (by rfl)) (by rfl) (by rfl)) (by rfl) (by rfl) (by rfl)) (aG (@aY _ _ (12) _ _ _ _ cH.nd rfl (Or.inl rfl) jJ (by rfl) (by trivial)) (aG (@dL _ _ _ _ _ _ _ _ (@PW.pt _ _ _ (@kB _ _ _ _ _ _ _ (@bI _ _ _ _ _ _ _ _ aGY (@aK _ _ _ _ _ _ _ _ cM (pv 7) aF) aF (@bO _ _ (by decide) (by decide))) (@iT _ _ _ _ (@bI _ _ _ _ _ _ _ _ aGY (pv 10) (@aK _ _ _ _ _ _ _ _ gF aF (@aK _ _ _ _ _ _ _ _ kD aF aF)) (@bO _ _ (by decide) (by decide)))))) (aH (@aY _ _ (12) _ _ _ _ cH.nd rfl (Or.inl rfl) (@aT _ _ _ _ _ _ _ _ _ (@aFD _ rfl) rfl T.n_max aFE (aA (@aK _ _ _ _ _ _ _ _ gF aF (@aK _ _ _ _ _ _ _ _ kD aF aF)) (aA (@aK _ _ _ _ _ _ _ _ gF (@aK _ _ _ _ _ _ _ _ gF (pv 10) aF) (@aK _ _ _ _ _ _ _ _ cM (@aK _ _ _ _ _ _ _ _ bN (pv 7) aF) (@bC _ _ _ _ _ _ _ (@cO _ (K) rfl) (@cG _ _ _ _ (aA aF (aA (@aK _ _ _ _ _ _ _ _ gG aF (@aK _ _ _ _ _ _ _ _ kD aF aF)) aB))) (@aK _ _ _ _ _ _ _ _ cM (pv 7) aF) (fun _ _ => rfl)))) aB)) (by decide) (by decide) (by rfl) (by rfl)) (by rfl) (by trivial))) bQ) (aH (@fQ _ _ _ _ (@lQ _ _ _ _ _ _ _ _ _ _ _ _ PySem.F.plainAttrs_list PySem.F.slot_list_append PySem.F.type_list_append eM (pv 5) (aA (@dY _ _ _ _ _ (aA (@bC _ _ _ _ _ _ _ (@cO _ (K) rfl) (pv 3) (pv 6) (fun _ _ => rfl)) (aA (@bC _ _ _ _ _ _ _ (@cO _ (K) rfl) (pv 4) (pv 8) (fun _ _ => rfl)) (aA (@bC _ _ _ _ _ _ _ (@cO _ (K) rfl) (pv 4) (pv 9) (fun _ _ => rfl)) (aA (pv 10) (aA (pv 11) (aA (pv 12) aB))))))) aB) (by rfl) (by rfl) (by rfl) (by rfl) (by rfl)) (by rfl)))))))))) (by intro _; rfl)) (aH (@aS _ _ _ _ (pv 5))))))), ?_⟩
 refine ⟨_, rfl, _, _, rfl, sa, ns, 2, rfl, rfl, hS, hsl, by decide, _, rfl, _, _, rfl, _, n, rfl, rfl, by omega, fun zs pz H0 hz S1 fpz hpz => ?_⟩
 have lz := hz.len
 refine ⟨aN rfl, fun p1 hp1 => ?_⟩
 have S2 := aI.upd (o := .lst [.str "sea"]) hp1
 have S12 := S1.trans S2
 refine ⟨_, rfl, a, rfl, ⟨_, SqL.of (S12 _ _ ha)⟩, ?_⟩
 refine bF (F := K) (xs := ws) (by omega) (fun i ys H' => H' = upd H0 p1 (.lst [.str "sea"]) ∧ ys = ((fs.take i).map aL).map V.str) ⟨rfl, rfl⟩ ?_ ?_ ?_
 ·rintro i ys H' hi' ⟨rfl, rfl⟩
  exact ⟨SqL.of (S12 _ _ ha), by rw [List.length_map, List.length_map, List.length_take]; omega⟩
 ·rintro i x ys H' K1 K2 hx' ⟨rfl, rfl⟩ k1 k2
  have hil : i < ws.length := (List.getElem?_eq_some_iff.mp hx').1
  obtain ⟨d, ed⟩ : ∃ d, fs[i]? = some d := ⟨_, List.getElem?_eq_getElem (by omega)⟩
  obtain ⟨v, ev, iv⟩ := hi.get ed
  rw [hx'] at ev
  cases ev
  obtain ⟨z, g, e, rfl, _⟩ := bJ (gf.all d (List.mem_of_getElem? ed))
  obtain ⟨t, rfl, o⟩ := jA iv
  refine ⟨_, rfl, t, _, 0, .str z, rfl, rfl, SqT.of (S12 _ _ o), aO (j := 0) rfl, k1 _ _ ⟨rfl, ?_⟩⟩
  rw [List.take_add_one, ed]
  simp [aL, cN]
 ·rintro ys H' ⟨rfl, rfl⟩
  intro p2 hp2
  rw [List.take_of_length_le (by omega)]
  have S3 := aI.upd (o := .lst ((fs.map aL).map V.str)) hp2
  refine ⟨p1, p2, _, _, rfl, rfl, S3 _ _ aE, aE, by simp only [List.length_map, List.length_cons, List.length_nil]; omega, fun p3 hp3 => ?_⟩
  have S4 := aI.upd (o := .lst ([.str "sea"] ++ (fs.map aL).map V.str)) hp3
  have S14 := S12.trans (S3.trans S4)
  have hpz4 := (S2.trans (S3.trans S4)) pz _ hpz
  have hp34 : upd (upd (upd H0 p1 (.lst [.str "sea"])) p2 (.lst ((fs.map aL).map V.str))) p3 (.lst ([.str "sea"] ++ (fs.map aL).map V.str)) p3 = some (.lst ((("sea" : Str) :: fs.map aL).map V.str)) := aE
  generalize upd (upd (upd H0 p1 (.lst [.str "sea"])) p2 (.lst ((fs.map aL).map V.str))) p3 (.lst ([.str "sea"] ++ (fs.map aL).map V.str)) = H4 at S14 hpz4 hp34
  refine ⟨aN rfl, fun l hl => ?_⟩
  have S5 := aI.upd (o := .lst []) hl
  have fl : H l = none := S14.free hl
  have npz : pz ≠ l := aV hpz4 hl
  have np3 : p3 ≠ l := aV hp34 hl
  have sl : ((("sea" : Str) :: fs.map aL).length) = fs.length + 1 := by simp
  have snd := aGF gf
  generalize hsd : ("sea" :: fs.map aL : List Str) = sd at *
  have sl2 : (sd.map V.str).length = fs.length + 1 := by rw [List.length_map, sl]
  refine ⟨_, rfl, _, rfl, by omega, by omega, ?_⟩
  refine kY (lo := 0) (n := n) (fun i σ H' => ∃ (v6 v7 v8 v9 v10 v11 v12 : Option V) (us : List V) (ds : List Dv), σ = [some (.ref sa), some (.ref a), some (.int n), some (.ref pz), some (.ref p3), some (.ref l), v6, v7, v8, v9, v10, v11, v12] ∧ aI H H' ∧ H' pz = some (.lst (zs.map V.str)) ∧ H' p3 = some (.lst (sd.map V.str)) ∧ H' l = some (.lst us) ∧ IsL H' ds us ∧ ds.map aL = zs.take i ∧ (∀ d ∈ ds, cU sd d = true))
   ⟨_, _, _, _, _, _, _, [], [], rfl, S14.trans S5, S5 _ _ hpz4, S5 _ _ hp34, aE, rfl, rfl, fun d m => by cases m⟩ ?_ ?_
  ·rintro i σ H' hi2 ⟨v6, v7, v8, v9, v10, v11, v12, us, ds, rfl, S, hz', hsd', hl', hi', en, af⟩
   have lf : ds.length = i := by
    have := congrArg List.length en
    rw [List.length_map, List.length_take] at this
    omega
   have lu := hi'.length
   obtain ⟨z, ez⟩ : ∃ z, zs[i]? = some z := ⟨_, List.getElem?_eq_getElem (by omega)⟩
   have gz := hz.good z (List.mem_of_getElem? ez)
   refine ⟨_, rfl, _, rfl, a, ws, rfl, .inl (SqL.of (S _ _ ha)), _, _, rfl, rfl, _, rfl, _, _, rfl, rfl, _, _, rfl, sa, ns, _, rfl, rfl, S.seq hS, hsl, (by omega), _, rfl, _, _, rfl, rfl, _, _, rfl, _, _, rfl, rfl, by omega, by omega, fun c2 => ?_⟩
   have L0 : (0 : Int) < ((sd.map V.str).length : Int) := by omega
   refine ⟨_, rfl, _, rfl, p3, _, rfl, .inl (SqL.of hsd'), _, _, rfl, rfl, L0, ?_⟩
   have f0 : 0 ≤ c2 % ((sd.map V.str).length : Int) := Int.emod_nonneg _ (by omega)
   have f1' : c2 % ((sd.map V.str).length : Int) < ((sd.map V.str).length : Int) := Int.emod_lt_of_pos _ L0
   have ews : (ws.length : Int) = ((sd.map V.str).length : Int) - 1 := by omega
   refine ⟨_, rfl, _, _, rfl, rfl, _, rfl, _, _, rfl, rfl, ⟨by decide, by decide⟩, _, rfl, a, ws, rfl, .inl (SqL.of (S _ _ ha)), _, _, rfl, rfl, (by omega), _, _, rfl, rfl, _, rfl, p3, _, rfl, .inl (SqL.of hsd'), _, _, rfl, rfl, L0, ?_⟩
   dsimp only
   rw [ews]
   obtain ⟨se0, se1, fne⟩ := aEB (c := c2 / 13) (f := c2 % ((sd.map V.str).length : Int)) (L := ((sd.map V.str).length : Int)) (by omega) f0 f1' rfl rfl
   obtain ⟨fj, hfj⟩ := Int.eq_ofNat_of_zero_le f0
   obtain ⟨sj, hsj⟩ := Int.eq_ofNat_of_zero_le se0
   rw [hfj] at f1'
   rw [hsj] at se1
   rw [hfj, ← hfj, hsj] at fne
   obtain ⟨za, eza⟩ : ∃ z, sd[fj]? = some z := ⟨_, List.getElem?_eq_getElem (by omega)⟩
   obtain ⟨zb, ezb⟩ : ∃ z, sd[sj]? = some z := ⟨_, List.getElem?_eq_getElem (by omega)⟩
   have atA : (sd.map V.str)[fj]? = some (V.str za) := by rw [List.getElem?_map, eza]; rfl
   have atB : (sd.map V.str)[sj]? = some (V.str zb) := by rw [List.getElem?_map, ezb]; rfl
   have iA : atI (sd.map V.str) (c2 % ((sd.map V.str).length : Int)) = some (V.str za) := by rw [hfj]; exact aO atA
   have iB : atI (sd.map V.str) ((c2 % ((sd.map V.str).length : Int) + 1 + c2 / 13 % (((sd.map V.str).length : Int) - 1)) % ((sd.map V.str).length : Int)) = some (V.str zb) := by rw [hsj]; exact aO atB
   have zab : za ≠ zb := aMT snd eza ezb (by omega)
   refine ⟨_, rfl, _, _, rfl, rfl, ⟨by decide, by decide⟩, _, rfl, _, rfl, fun n3 cr tv H5 S5' tw cr0 cr1 => ?_⟩
   obtain ⟨t5, rfl, et5⟩ := tw
   refine ⟨t5, _, rfl, SqT.of et5, rfl, _, _, rfl, _, _, rfl, rfl, ?_⟩
   refine ⟨_, rfl, _, rfl, n3, rfl, fun n4 rt tv6 H6 S6 tw6 rt0 rt1 => ?_⟩
   obtain ⟨t6, rfl, et6⟩ := tw6
   refine ⟨t6, _, rfl, SqT.of et6, rfl, _, _, rfl, _, _, rfl, rfl, ?_⟩
   have U6 := S5'.trans S6
   have S7 := S.trans U6
   have hz7 := U6 _ _ hz'
   have hsd7 := U6 _ _ hsd'
   have hl7 := U6 _ _ hl'
   have hi7 := IsL.same U6 _ _ hi'
   have fin : ∀ (sv : V) (sdv : Dv) (H2 : Hp), aI H H2 → H2 pz = some (.lst (zs.map V.str)) → H2 p3 = some (.lst (sd.map V.str)) → H2 l = some (.lst us) → IsL H2 ds us → (∀ H3, Is H3 sdv sv) → lJ (.int cr) sdv = true →
     ∀ t, H2 t = none → ∃ us' ds', aI H (upd (upd H2 t (.tup [.str z, .str za, .str zb, .int cr, .int rt, sv])) l (.lst us')) ∧ us' = us ++ [.ref t] ∧ upd (upd H2 t (.tup [.str z, .str za, .str zb, .int cr, .int rt, sv])) l (.lst us') pz = some (.lst (zs.map V.str)) ∧
      upd (upd H2 t (.tup [.str z, .str za, .str zb, .int cr, .int rt, sv])) l (.lst us') p3 = some (.lst (sd.map V.str)) ∧ IsL (upd (upd H2 t (.tup [.str z, .str za, .str zb, .int cr, .int rt, sv])) l (.lst us')) ds' us' ∧ ds'.map aL = zs.take (i + 1) ∧ (∀ d ∈ ds', cU sd d = true) := by
    intro sv sdv H2 S' hz2 hs2 hl2 hi2' his hsl t ht
    have S3' := aI.upd (o := .tup [.str z, .str za, .str zb, .int cr, .int rt, sv]) ht
    have hl3 := S3' _ _ hl2
    have ok : cU sd (.tup [.str z, .str za, .str zb, .int cr, .int rt, sdv]) = true := aJP gz (List.mem_of_getElem? eza) (List.mem_of_getElem? ezb) zab (aBP cr0 cr1) (aLP rt0 rt1) hsl
    refine ⟨us ++ [.ref t], ds ++ [.tup [.str z, .str za, .str zb, .int cr, .int rt, sdv]], (S'.trans S3').over fl, rfl, ?_, ?_, ?_, ?_, ?_⟩
    ·rw [aQ npz]
     exact S3' _ _ hz2
    ·rw [aQ np3]
     exact S3' _ _ hs2
    ·refine IsL.keep (gR.lst hl3) _ _ (fA fun d m => aEZ (zs := sd) ?_) (IsL.snoc ?_ (IsL.same S3' _ _ hi2'))
     ·rcases List.mem_append.mp m with m | m
      ·exact af d m
      ·rw [List.mem_singleton.mp m]
       exact ok
     ·exact ⟨t, _, rfl, aE, .str z, _, rfl, rfl, .str za, _, rfl, rfl, .str zb, _, rfl, rfl, .int cr, _, rfl, rfl, .int rt, _, rfl, rfl, sv, _, rfl, his _, rfl⟩
    ·rw [List.map_append, en, List.take_add_one, ez]
     rfl
    ·intro d m
     rcases List.mem_append.mp m with m | m
     ·exact af d m
     ·rw [List.mem_singleton.mp m]
      exact ok
   refine ⟨_, rfl, _, _, rfl, rfl, (iO rfl), _, _, rfl, rfl, _, rfl, ?_⟩
   have iz : atI (zs.map V.str) (0 + (i : Int)) = some (V.str z) := by rw [Int.zero_add]; exact aO (by rw [List.getElem?_map, ez]; rfl)
   refine jR (fun t1 => ?_) (fun t1 => ?_)
   ·refine ⟨_, rfl, _, _, rfl, rfl, ⟨by decide, by decide, by decide⟩, _, _, rfl, rfl, _, _, rfl, rfl, _, rfl, ?_⟩
    refine jR (fun t2 => ?_) (fun t2 => ?_)
    ·have t2' : 0 - (10 : Int) ^ (6 : Int).toNat < cr := of_decide_eq_true t2
     rw [p6] at t2'
     refine ⟨_, _, rfl, rfl, ⟨by decide, by decide, by decide⟩, _, _, rfl, rfl, ?_⟩
     refine ⟨_, rfl, _, _, rfl, rfl, _, rfl, _, _, rfl, rfl, ⟨by decide, by decide⟩, _, _, rfl, rfl, ⟨by decide, by decide, by decide⟩, _, _, rfl, rfl, .inl ⟨by decide, by decide⟩, aN rfl, fun pl hpl => ?_⟩
     obtain ⟨md, emd, hmd⟩ := at2 (a := 9) (b := 2 * 10 ^ (6 : Int).toNat) (i := n4 % 2) (Int.emod_nonneg _ (by decide)) (Int.emod_lt_of_pos _ (iO rfl))
     rw [p6] at hmd
     refine ⟨_, rfl, _, _, rfl, rfl, (iO rfl), pl, _, _, .int md, rfl, rfl, SqL.of aE, emd, _, _, rfl, rfl, (by show 0 < md; omega), _, _, rfl, rfl, _, _, rfl, ?_⟩
     have q0 : 0 ≤ n4 / 4 % md := Int.emod_nonneg _ (by omega)
     generalize n4 / 4 % md = qq at *
     generalize hsi : (if cr - 1 - qq > 0 - (10 : Int) ^ (6 : Int).toNat then cr - 1 - qq else 0 - (10 : Int) ^ (6 : Int).toNat) = si
     rw [p6] at hsi
     have s2 : -1000000 ≤ si ∧ si < cr := by
      rw [← hsi]
      split <;> omega
     have hss : lJ (.int cr) (.int si) = true := by
      show (hgt si && decide (si < cr)) = true
      rw [aBP s2.1 (by omega), decide_eq_true s2.2]
      rfl
     have R := aI.upd (o := .lst [.int 9, .int (2 * 10 ^ (6 : Int).toNat)]) hpl
     refine ⟨_, rfl, .inl ⟨rfl, _, SqL.of (R _ _ hl7)⟩, _, rfl, _, rfl, pz, _, 0 + (i : Int), .str z, rfl, rfl, SqL.of (R _ _ hz7), iz, ?_⟩
     refine ⟨_, rfl, _, rfl, p3, _, _, .str za, rfl, rfl, SqL.of (R _ _ hsd7), iA, _, rfl, _, rfl, p3, _, _, .str zb, rfl, rfl, SqL.of (R _ _ hsd7), iB, _, rfl, _, rfl, ?_⟩
     refine ⟨_, rfl, aN rfl, fun t ht => ?_⟩
     obtain ⟨us', ds', g1, rfl, g2, g3, g4, g5, g6⟩ := fin (.int si) (.int si) _ (S7.trans R) (R _ _ hz7) (R _ _ hsd7) (R _ _ hl7) (IsL.same R _ _ hi7) (fun _ => rfl) hss t ht
     exact ⟨l, us, .ref t, rfl, rfl, (aI.upd ht) _ _ (R _ _ hl7), by omega, _, _, _, _, _, _, _, _, ds', rfl, g1, g2, g3, aE, g4, g5, g6⟩
    ·refine ⟨_, rfl, .inl ⟨rfl, _, SqL.of hl7⟩, _, rfl, _, rfl, pz, _, 0 + (i : Int), .str z, rfl, rfl, SqL.of hz7, iz, ?_⟩
     refine ⟨_, rfl, _, rfl, p3, _, _, .str za, rfl, rfl, SqL.of hsd7, iA, _, rfl, _, rfl, p3, _, _, .str zb, rfl, rfl, SqL.of hsd7, iB, _, rfl, _, rfl, ?_⟩
     refine ⟨_, rfl, aN rfl, fun t ht => ?_⟩
     obtain ⟨us', ds', g1, rfl, g2, g3, g4, g5, g6⟩ := fin .non .non _ S7 hz7 hsd7 hl7 hi7 (fun _ => rfl) rfl t ht
     exact ⟨l, us, .ref t, rfl, rfl, (aI.upd ht) _ _ hl7, by omega, _, _, _, _, _, _, _, _, ds', rfl, g1, g2, g3, aE, g4, g5, g6⟩
   ·refine ⟨_, rfl, .inl ⟨rfl, _, SqL.of hl7⟩, _, rfl, _, rfl, pz, _, 0 + (i : Int), .str z, rfl, rfl, SqL.of hz7, iz, ?_⟩
    refine ⟨_, rfl, _, rfl, p3, _, _, .str za, rfl, rfl, SqL.of hsd7, iA, _, rfl, _, rfl, p3, _, _, .str zb, rfl, rfl, SqL.of hsd7, iB, _, rfl, _, rfl, ?_⟩
    refine ⟨_, rfl, aN rfl, fun t ht => ?_⟩
    obtain ⟨us', ds', g1, rfl, g2, g3, g4, g5, g6⟩ := fin .non .non _ S7 hz7 hsd7 hl7 hi7 (fun _ => rfl) rfl t ht
    exact ⟨l, us, .ref t, rfl, rfl, (aI.upd ht) _ _ hl7, by omega, _, _, _, _, _, _, _, _, ds', rfl, g1, g2, g3, aE, g4, g5, g6⟩
  ·rintro σ H' ⟨v6, v7, v8, v9, v10, v11, v12, us, ds, rfl, S, hz', hsd', hl', hi', en, af⟩
   rw [List.take_of_length_le (by omega)] at en
   have lf : ds.length = zs.length := by
    have := congrArg List.length en
    rwa [List.length_map] at this
   refine ⟨_, rfl, q l us ds H' S fl hl' hi' ⟨by omega, by omega, af, by rw [en]; exact hz.nd⟩⟩
open Mt53
theorem jY (a b : Int) : decide (V.int a = V.int b) = decide (a = b) := by
 by_cases h : a = b
 ·subst h; simp
 ·rw [decide_eq_false h, decide_eq_false (fun c => h (by cases c; rfl))]
def pK : Sp := sp2 fun x y H Q => ∃ (t : Addr) (n a b : Str) (c r h : Int) (sv : V), x = .ref t ∧ y = .int h ∧ H t = some (.tup [.str n, .str a, .str b, .int c, .int r, sv]) ∧ 0 ≤ r ∧ r ≤ 1000000 ∧ Q (.int (r * (h - c))) H
theorem nZ (T : Txt K mg C) : Fc P w K mg base 1 "coins_to" ["dyke", "height"] pK := by
 refine T.d_p_coins_to.fc uM jM (fun f cdv A outer s H vs Q E hr h => ?_)
 obtain ⟨x, y, rfl, t, n, a, b, c, r, h, sv, rfl, rfl, o, r0, r1, q⟩ := h
 refine ⟨_, (aH (@aS _ _ _ _ (@aK _ _ _ _ _ _ _ _ gG (@bC _ _ _ _ _ _ _ (@aW _ (K) rfl) (pv 0) aF (fun _ _ => rfl)) (@aK _ _ _ _ _ _ _ _ gF (pv 1) (@bC _ _ _ _ _ _ _ (@aW _ (K) rfl) (pv 0) aF (fun _ _ => rfl)))))), ?_⟩
 exact ⟨_, rfl, t, _, 4, .int r, rfl, rfl, SqT.of o, aO (j := 4) rfl, _, rfl, _, rfl, t, _, 3, .int c, rfl, rfl, SqT.of o, aO (j := 3) rfl, _, _, rfl, rfl, _, _, rfl, rfl, .inl ⟨by omega, by omega⟩, q⟩
theorem aLQ {r : Int} (h : amt r = true) : 0 ≤ r ∧ r ≤ 1000000 := by
 have := Bool.and_eq_true_iff.mp h
 exact ⟨of_decide_eq_true this.1, of_decide_eq_true this.2⟩
theorem yL {zs : List Str} {ds ws : List Dv} (gd : GoodD zs ds) (gw : GoodW ds ws) (lw : ws.length ≤ 1000) : dB (.lst ws) = true := nM (fun d m => by
  obtain ⟨z, v, rfl, hz, _⟩ := oB (gw.all d m)
  obtain ⟨d', md, rfl⟩ := List.mem_map.mp hz
  obtain ⟨n, a, b, c, r, sl, rfl, hn, _⟩ := bP (gd.all d' md)
  have e := gZ hn
  show (decide (2 ≤ 1000) && (decide (n.length ≤ 1000) && (true && true))) = true
  rw [decide_eq_true e]
  rfl) lw
def vC (C : Addr) : Sp := sp2 fun x y H Q => ∃ (p : Addr) (fs ds ws : List Dv), x = .ref p ∧ LandAt C H p fs ds ∧ Is H (.lst ws) y ∧ ws.length ≤ 1000 ∧ GoodW ds ws ∧ Q (.int (yC ds ws)) H
theorem uQ (T : Txt K mg C) : Fc P w K mg base 5 "coins_of" ["land", "works"] (vC C) := by
 have G_p_are_works : Fc P w K mg base 4 "are_works" ["land", "thing"] (aCL C) := tD T
 have G_p_coins_to : Fc P w K mg base 1 "coins_to" ["dyke", "height"] pK := nZ T
 have G_land_p_dyke : Mc P w K mg base 1 C "dyke" ["self", "name"] (rP C) := jL T
 refine T.d_p_coins_of.fcD uN jM (fun f cdv A outer s H vs Q E hr h => ?_)
 obtain ⟨x, y, rfl, p, fs, ds, ws, rfl, L, hw, lw, gw, q⟩ := h
 have big := bY
 obtain ⟨dx, e1, e2, hx, _⟩ := L.ex
 have no : ∀ m : Str, ¬ m = "dyke_rows" → ¬ m = "field_rows" → (mR e1 e2).lookup m = none := fun m h1 h2 => jN _ _ h1 h2
 have gd := (bV L).2
 refine ⟨_, (aG (@dL _ _ _ _ _ _ _ _ (@cY _ _ _ _ (@cB _ _ _ (@bD _ _ _ _ _ _ _ _ _ _ G_p_are_works (hr.mono (by decide)) (aA (pv 0) (aA (pv 1) aB)) (by rfl) (by decide) (by rfl) (by rfl)) (by intro _; rfl))) (aH mJ) bQ) (aH (@aS _ _ _ _ (@aT _ _ _ _ _ _ _ _ _ (aAF rfl) rfl T.n_sum wD (aA (@bX _ _ _ _ _ _ _ _ _ _ _ ["work", "land"] 1 [0] rfl (@bM _ _ _ _ (pv 1)) (fun R => @aP _ _ (0) _ (show List.Nodup (["work", "land"] : List Str) by decide +kernel) rfl (Or.inl rfl) (by trivial)) (@aX _ _ (by decide)) (fun R => cI) (fun R => (@bD _ _ _ _ _ _ _ _ _ _ G_p_coins_to (hr.mono (by decide)) (aA (@aIZ _ _ _ _ _ _ _ _ _ _ _ _ _ _ T.cl_Land G_land_p_dyke (hr.mono (by decide)) (pv 1) (aA (@bC _ _ _ _ _ _ _ (@aW _ (K) rfl) (pv 0) aF (fun _ _ => rfl)) aB) (by rfl) (by rfl) (by rfl)) (aA (@bC _ _ _ _ _ _ _ (@aW _ (K) rfl) (pv 0) aF (fun _ _ => rfl)) aB)) (by rfl) (by decide) (by rfl) (by rfl))) (by rfl) (by rfl) (by rfl) (by rfl) (by rfl) (by rfl) (by rfl) (by intro _; rfl)) aB) (by decide) (by decide) (by rfl) (by rfl))))), ?_⟩
 refine ⟨_, rfl, _, rfl, _, _, rfl, p, fs, ds, .lst ws, rfl, L, hw, yL gd gw lw, _, rfl, ?_⟩
 rw [(aEU ds ws).mpr gw]
 refine bG ?_
 obtain ⟨a, us, rfl, ho, hi⟩ := hw
 have lu := hi.length
 refine ⟨_, rfl, a, rfl, ⟨_, SqL.of ho⟩, ?_⟩
 refine bF (F := K) (xs := us) (by omega) (fun i ys H' => H' = H ∧ ys = ((ws.take i).map (aAB ds)).map V.int) ⟨rfl, rfl⟩ ?_ ?_ ?_
 ·rintro i ys H' hi' ⟨rfl, rfl⟩
  exact ⟨SqL.of ho, by rw [List.length_map, List.length_map, List.length_take]; omega⟩
 ·rintro i x ys H' K1 K2 hx' ⟨rfl, rfl⟩ k1 k2
  have hil : i < us.length := (List.getElem?_eq_some_iff.mp hx').1
  obtain ⟨d, ed⟩ : ∃ d, ws[i]? = some d := ⟨_, List.getElem?_eq_getElem (by omega)⟩
  obtain ⟨v, ev, iv⟩ := hi.get ed
  rw [hx'] at ev
  cases ev
  obtain ⟨z, h, rfl, mz, _⟩ := oB (gw.all d (List.mem_of_getElem? ed))
  obtain ⟨d', md, rfl⟩ := List.mem_map.mp mz
  obtain ⟨t, rfl, o⟩ := aFH iv
  have ec := uC gd.nd md
  have er := aCX gd.nd md
  refine ⟨_, rfl, p, dx, _, rfl, hx, no _ (by decide +kernel) (by decide +kernel), _, rfl, t, _, 0, _, rfl, rfl, SqT.of o, aO (j := 0) rfl, _, _, rfl, p, fs, ds, d', rfl, rfl, L, md, fun v1 iv1 => ?_⟩
  obtain ⟨n, a', b', c, r, sl, rfl, _, _, _, _, _, hr', _⟩ := bP (gd.all d' md)
  obtain ⟨t', sv, rfl, o', _⟩ := jP iv1
  obtain ⟨r0, r1⟩ := aLQ hr'
  refine ⟨_, rfl, t, _, 1, .int h, rfl, rfl, SqT.of o, aO (j := 1) rfl, _, _, rfl, t', n, a', b', c, r, h, sv, rfl, rfl, o', r0, r1, k1 _ _ ⟨rfl, ?_⟩⟩
  rw [List.take_add_one, ed, List.map_append, List.map_append]
  have e : aAB ds (.tup [.str n, .int h]) = r * (h - c) := by
   show sO ds n * (h - gL ds n) = _
   rw [show gL ds n = c from ec, show sO ds n = r from er]
  show _ ++ [V.int _] = _ ++ [V.int (aAB ds (.tup [.str n, .int h]))]
  rw [e]
 ·rintro ys H' ⟨rfl, rfl⟩
  intro p1 hp1
  rw [List.take_of_length_le (by omega)] at *
  exact ⟨p1, _, rfl, SqL.of aE, cV.of (gN.lst hp1) q⟩
open Mt22 MtF
theorem aLB {zs : List Str} {n : Int} (h1 : 1 ≤ zs.length) (h2 : (zs.length : Int) ≤ n) : vR n (.lst (zs.map Dv.str)) = true := by
 unfold vR
 simp only [List.length_map]
 rw [decide_eq_true (by omega), decide_eq_true (by omega)]
 rfl
def aFU (C : Addr) : Sp := sp2 fun x y H Q => ∃ (p l : Addr) (fs ds : List Dv) (zs : List Str), x = .ref p ∧ LandAt C H p fs ds ∧ y = .ref l ∧ H l = some (.lst (zs.map V.str)) ∧ 1 ≤ zs.length ∧ zs.Nodup ∧ (∀ z ∈ zs, z ∈ fs.map aL) ∧ ∀ H', aI H H' → Q (.bl true) H'
theorem mP (T : Txt K mg C) : Fc P w K mg base 2 "are_some_fields" ["land", "thing"] (aFU C) := by
 have G_land_p_field_names : Mc P w K mg base 1 C "field_names" ["self"] (wP C fun fs _ => fs.map aL) := gQ T
 have G_p_is_list_of : Fc P w K mg base 1 "is_list_of" ["thing", "most"] mD := fR T
 have G_p_is_one_of : Fc P w K mg base 1 "is_one_of" ["thing", "names"] (oQ K) := gI T
 refine T.d_p_are_some_fields.fc dN jM (fun f cdv A outer s H vs Q E hr h => ?_)
 obtain ⟨x, y, rfl, p, l, fs, ds, zs, rfl, L, rfl, hl, l1, nd, sub, q⟩ := h
 have big := bY
 have gf := (bV L).1
 have f2 := gf.l2
 have lz : zs.length ≤ fs.length := by
  have := tM nd sub
  rw [List.length_map] at this
  exact this
 obtain ⟨dx, d1, d2, hx, _⟩ := L.ex
 refine ⟨_, (aG (@aY _ _ (2) _ _ _ _ dN.nd rfl (Or.inr rfl) (@aDB _ _ _ _ _ _ _ _ _ _ _ T.cl_Land G_land_p_field_names (hr.mono (by decide)) (pv 0) (by rfl)) (by rfl) (by trivial)) (aG (@dL _ _ _ _ _ _ _ _ (@PW.pt _ _ _ (@iK _ _ _ _ _ _ _ (@cY _ _ _ _ (@cB _ _ _ (@bD _ _ _ _ _ _ _ _ _ _ G_p_is_list_of (hr.mono (by decide)) (aA (pv 1) (aA (@aT _ _ _ _ _ _ _ _ _ (@bH _ (K) rfl) rfl T.n_len bT (aA (pv 2) aB) (by decide) (by decide) (by rfl) (by rfl)) aB)) (by rfl) (by decide) (by rfl) (by rfl)) (by intro _; rfl))) (@gW _ _ _ _ (@cY _ _ _ _ (@cB _ _ _ (@aT _ _ _ _ _ _ _ _ _ (@lB _ rfl) rfl T.n_all jB (aA (@bX _ _ _ _ _ _ _ _ _ _ _ ["name", "names"] 1 [2] rfl (@bM _ _ _ _ (pv 1)) (fun R => @aP _ _ (0) _ (show List.Nodup (["name", "names"] : List Str) by decide +kernel) rfl (Or.inl rfl) (by trivial)) (@aX _ _ (by decide)) (fun R => cI) (fun R => (@bD _ _ _ _ _ _ _ _ _ _ G_p_is_one_of (hr.mono (by decide)) (aA (pv 0) (aA (pv 1) aB)) (by rfl) (by decide) (by rfl) (by rfl))) (by rfl) (by rfl) (by rfl) (by rfl) (by rfl) (by rfl) (by rfl) (by intro _; rfl)) aB) (by decide) (by decide) (by rfl) (by rfl)) (by intro _; rfl)))))) (aH (@aS _ _ _ _ kS)) bQ) (aH (@aS _ _ _ _ (@dQ _ _ _ _ _ _ _ _ jK (@aT _ _ _ _ _ _ _ _ _ call_len_set rfl T.n_len bT (aA (@cW _ _ _ _ _ _ _ _ _ (@kG _ rfl) rfl T.n_set qJ (aA (pv 1) aB) (by decide) (by decide) (by rfl) (by rfl)) aB) (by decide) (by decide) (by rfl) (by rfl)) (@aT _ _ _ _ _ _ _ _ _ (@bH _ (K) rfl) rfl T.n_len bT (aA (pv 1) aB) (by decide) (by decide) (by rfl) (by rfl)) (@bO _ _ (by decide) (by decide))))))), ?_⟩
 refine ⟨_, rfl, p, dx, _, rfl, hx, jN _ _ (by decide +kernel) (by decide +kernel), _, rfl, p, fs, ds, rfl, L, fun ln H1 S1 fln hln => ?_⟩
 have hl1 := S1 _ _ hl
 refine ⟨_, rfl, _, rfl, ln, _, rfl, .inl (SqL.of hln), _, _, rfl, .lst (zs.map Dv.str), _, aIN hl1, rfl, _, rfl, ?_⟩
 rw [aLB l1 (by rw [List.length_map, List.length_map]; omega)]
 refine bG ?_
 refine ⟨_, rfl, l, rfl, ⟨_, SqL.of hl1⟩, ?_⟩
 refine bF (F := K) (xs := zs.map V.str) (by rw [List.length_map]; omega) (fun i ys H' => H1 = H' ∧ ys = (zs.take i).map fun z => V.bl true) ⟨rfl, rfl⟩ ?_ ?_ ?_
 ·rintro i ys H' hi' ⟨rfl, rfl⟩
  exact ⟨SqL.of hl1, by rw [List.length_map, List.length_take]; omega⟩
 ·rintro i xv ys H' K1 K2 hx ⟨rfl, rfl⟩ k1 k2
  obtain ⟨z, ez⟩ : ∃ z, zs[i]? = some z := by
   have := (List.getElem?_eq_some_iff.mp hx).1
   rw [List.length_map] at this
   exact ⟨_, List.getElem?_eq_getElem this⟩
  rw [List.getElem?_map, ez] at hx
  cases hx
  refine ⟨_, rfl, _, rfl, _, _, rfl, .str z, ln, _, rfl, rfl, SqL.of hln, ?_⟩
  rw [show gH (fs.map aL) (.str z) = true from decide_eq_true (sub z (List.mem_of_getElem? ez))]
  refine k1 _ _ ⟨rfl, ?_⟩
  rw [List.take_add_one, ez, List.map_append]
  rfl
 rintro ys H' ⟨rfl, rfl⟩
 rw [List.length_map, List.take_of_length_le (Nat.le_refl _)]
 intro p4 hp4
 have S4 := aI.upd (o := .lst (zs.map fun z => V.bl true)) hp4
 refine ⟨p4, zs.map fun _ => true, rfl, SqL.of ?_, _, rfl, ?_⟩
 ·rw [aE, List.map_map]
  rfl
 rw [show (zs.map fun _ => true).all id = true from List.all_eq_true.mpr fun b m => by obtain ⟨z, _, rfl⟩ := List.mem_map.mp m; rfl]
 refine bG ?_
 have hl4 := S4 _ _ hl1
 refine ⟨_, rfl, l, zs.map Sum.inr, rfl, SqL.of (by rw [hl4, xS]), by rw [List.length_map]; omega, fun p5 hp5 => ?_⟩
 have hle := yB (zs.map (Sum.inr : Str → Key))
 rw [List.length_map] at hle
 refine ⟨p5, _, _, rfl, aE, by omega, _, rfl, l, zs.map V.str, rfl, .inl (SqL.of (by rw [aQ (aV hl4 hp5)]; exact hl4)), rfl, ?_⟩
 have e : decide (V.int ((rG (zs.map (Sum.inr : Str → Key))).length : Int) = V.int ((zs.map V.str).length : Int)) = true := by
  rw [jY, List.length_map, (qG _).mpr ((fW zs).mpr nd), List.length_map]
  first | exact decide_eq_true rfl | exact beq_self_eq_true _
 rw [e]
 exact q _ (S1.trans (S4.trans (aI.upd hp5)))
def yQ (C : Addr) : Sp := sp3 fun x y u H Q => ∃ (p l : Addr) (fs ds : List Dv) (zs : List Str) (L : Int), x = .ref p ∧ LandAt C H p fs ds ∧ y = .ref l ∧ H l = some (.lst (zs.map V.str)) ∧ 1 ≤ zs.length ∧ zs.Nodup ∧ (∀ z ∈ zs, z ∈ fs.map aL) ∧ u = .int L ∧ hgt L = true ∧ ∀ H', aI H H' → Q .non H'
theorem rB (T : Txt K mg C) : Fc P w K mg base 3 "check_wish" ["land", "fields", "height"] (yQ C) := by
 have G_p_are_some_fields : Fc P w K mg base 2 "are_some_fields" ["land", "thing"] (aFU C) := mP T
 have G_p_is_height : Fc P w K mg base 2 "is_height" ["thing"] fZ := cR T
 refine T.d_p_check_wish.fc lP pW (fun f cdv A outer s H vs Q E hr h => ?_)
 obtain ⟨x, y, u, rfl, p, l, fs, ds, zs, lv, rfl, L, rfl, hl, l1, nd, sub, rfl, hL, q⟩ := h
 refine ⟨_, (aH (@dL _ _ _ _ _ _ _ _ (@PW.pt _ _ _ (@iK _ _ _ _ _ _ _ (@cY _ _ _ _ (@cB _ _ _ (@bD _ _ _ _ _ _ _ _ _ _ G_p_are_some_fields (hr.mono (by decide)) (aA (pv 0) (aA (pv 1) aB)) (by rfl) (by decide) (by rfl) (by rfl)) (by intro _; rfl))) (@gW _ _ _ _ (@cY _ _ _ _ (@cB _ _ _ (@bD _ _ _ _ _ _ _ _ _ _ G_p_is_height (hr.mono (by decide)) (aA (pv 2) aB) (by rfl) (by decide) (by rfl) (by rfl)) (by intro _; rfl)))))) (aH mJ) bQ)), ?_⟩
 refine ⟨_, rfl, _, rfl, _, _, rfl, p, l, fs, ds, zs, rfl, L, rfl, hl, l1, nd, sub, fun H1 S1 => ⟨_, rfl, bG ?_⟩⟩
 refine ⟨_, rfl, _, rfl, .int lv, rfl, _, rfl, ?_⟩
 rw [show cT (.int lv) = true from hL]
 exact bG (q H1 S1)
open Mt53 Mt22 MtF Mt31 Mt61
def iL (fs : List Dv) (L : Int) (z : Str) : Bool := decide (z = "sea") || decide (mU fs z < L)
def gOf (L : Int) : Dv → Gap
 | .tup [.str n, .str a, .str b, .int c, .int r, _] => ⟨n, a, b, r * (L - c)⟩
 | _ => ⟨"", "", "", 0⟩
def isG (fs : List Dv) (L : Int) : Dv → Bool
 | .tup [.str _, .str a, .str b, .int c, .int _, _] => decide (c < L) && (iL fs L a && iL fs L b)
 | _ => false
def aU (fs ds : List Dv) (L : Int) : List Gap := (ds.filter (isG fs L)).map (gOf L)
def dP (G : List Gap) : List (Key × V) := G.map fun g => (Sum.inr g.nm, V.int g.cap)
theorem aHO {zs : List Str} {d : Dv} (h : cU zs d = true) (L : Int) : (gOf L d).nm = aL d := by
 obtain ⟨n, a, b, c, r, s, rfl, _⟩ := bP h
 rfl
theorem nP {fs ds : List Dv} (gf : GoodF fs) (gd : GoodD ("sea" :: fs.map aL) ds) (L : Int) : Gaps ("sea" :: fs.map aL) (aU fs ds L) := by
 have mem : ∀ g ∈ aU fs ds L, ∃ d ∈ ds, isG fs L d = true ∧ g = gOf L d := fun g m => by
  obtain ⟨d, md, rfl⟩ := List.mem_map.mp m
  rw [List.mem_filter] at md
  exact ⟨d, md.1, md.2, rfl⟩
 refine ⟨?_, fun g m => ?_, fun g m => ?_, ?_, List.mem_cons_self⟩
 ·have e : (aU fs ds L).map (·.nm) = (ds.filter (isG fs L)).map aL := by
   unfold aU
   rw [List.map_map]
   refine List.map_congr_left fun d md => ?_
   exact aHO (gd.all d (List.mem_filter.mp md).1) L
  rw [e]
  exact List.Nodup.sublist (List.Sublist.map _ List.filter_sublist) gd.nd
 ·obtain ⟨d, md, _, rfl⟩ := mem g m
  obtain ⟨n, a, b, c, r, s, rfl, _, ha, hb, hab, _⟩ := bP (gd.all d md)
  exact ⟨ha, hb, hab⟩
 ·obtain ⟨d, md, hg, rfl⟩ := mem g m
  obtain ⟨n, a, b, c, r, s, rfl, _, ha, hb, hab, hc, hr, _⟩ := bP (gd.all d md)
  have h1 : c < L := of_decide_eq_true (Bool.and_eq_true_iff.mp (show (decide (c < L) && (iL fs L a && iL fs L b)) = true from hg)).1
  have h2 : 0 ≤ r := by
   have := Bool.and_eq_true_iff.mp (show (decide (0 ≤ r) && decide (r ≤ 1000000)) = true from hr)
   exact of_decide_eq_true this.1
  show 0 ≤ r * (L - c)
  exact Int.mul_nonneg h2 (by omega)
 ·rw [List.nodup_cons]
  refine ⟨fun m => ?_, gf.nd⟩
  obtain ⟨d, md, e⟩ := List.mem_map.mp m
  obtain ⟨z, g, u, rfl, hz, _⟩ := bJ (gf.all d md)
  exact oS hz e
def aKB (C : Addr) : Sp := sp3 fun x y u H Q => ∃ (p : Addr) (fs ds : List Dv) (z : Str) (L : Int), x = .ref p ∧ LandAt C H p fs ds ∧ y = .str z ∧ z ∈ (("sea" : Str) :: fs.map aL) ∧ u = .int L ∧ Q (.bl (iL fs L z)) H
theorem zJ (T : Txt K mg C) : Fc P w K mg base 2 "is_low" ["land", "side", "height"] (aKB C) := by
 have G_land_p_ground : Mc P w K mg base 1 C "ground" ["self", "field"] (yT C) := pR T
 refine T.d_p_is_low.fc zB pW (fun f cdv A outer s H vs Q E hr h => ?_)
 obtain ⟨x, y, u, rfl, p, fs, ds, z, lv, rfl, L, rfl, mz, rfl, q⟩ := h
 obtain ⟨dx, d1, d2, hx, _⟩ := L.ex
 have gf := (bV L).1
 refine ⟨_, (aH (@aS _ _ _ _ (@aKF _ _ _ _ _ _ _ (@dQ _ _ _ _ _ _ _ _ jK (pv 1) (@sR _ _ _ _ T.g_SEA (by rfl) (by decide)) (@bO _ _ (by decide) (by decide))) (@dS _ _ _ _ _ (@dQ _ _ _ _ _ _ _ _ oZ (@aIZ _ _ _ _ _ _ _ _ _ _ _ _ _ _ T.cl_Land G_land_p_ground (hr.mono (by decide)) (pv 0) (aA (pv 1) aB) (by rfl) (by rfl) (by rfl)) (pv 2) (@bO _ _ (by decide) (by decide))))))), ?_⟩
 refine ⟨_, rfl, rfl, ?_⟩
 by_cases hz : z = "sea"
 ·subst hz
  rw [decide_eq_true rfl]
  exact ⟨_, rfl, cA q⟩
 ·rw [decide_eq_false (fun c => hz (V.str.inj c))]
  have mf : z ∈ fs.map aL := by
   rcases List.mem_cons.mp mz with h | h
   ·exact absurd h hz
   ·exact h
  obtain ⟨d, md, e⟩ := List.mem_map.mp mf
  obtain ⟨z', g, u, rfl, hz', _⟩ := bJ (gf.all d md)
  have e' : z' = z := e
  subst e'
  have eg : mU fs z' = g := nO gf.nd md
  refine ⟨_, rfl, bG ?_⟩
  refine ⟨_, rfl, p, dx, _, rfl, hx, jN _ _ (by decide +kernel) (by decide +kernel), _, rfl, _, _, rfl, p, fs, ds, z', g, u, rfl, rfl, L, md, _, rfl, _, _, rfl, rfl, ?_⟩
  have : iL fs lv z' = decide (g < lv) := by
   unfold iL
   rw [decide_eq_false hz, eg]
   rfl
  show Q (V.bl (decide (g < lv))) H
  rw [← this]
  exact q
def aKC (C : Addr) : Sp := sp3 fun x y u H Q => ∃ (p : Addr) (fs ds : List Dv) (d : Dv) (L : Int), x = .ref p ∧ LandAt C H p fs ds ∧ Is H d y ∧ d ∈ ds ∧ u = .int L ∧ Q (.bl (isG fs L d)) H
theorem zK (T : Txt K mg C) : Fc P w K mg base 3 "is_gap" ["land", "dyke", "height"] (aKC C) := by
 have G_p_is_low : Fc P w K mg base 2 "is_low" ["land", "side", "height"] (aKB C) := zJ T
 refine T.d_p_is_gap.fc zC pW (fun f cdv A outer s H vs Q E hr h => ?_)
 obtain ⟨x, y, u, rfl, p, fs, ds, d, lv, rfl, L, hd, md, rfl, q⟩ := h
 have gd := (bV L).2
 obtain ⟨n, a, b, c, r, sl, rfl, _, ha, hb, hab, hc, hr', _⟩ := bP (gd.all d md)
 obtain ⟨t, sv, rfl, o, isv⟩ := jP hd
 refine ⟨_, (aH (@aS _ _ _ _ (@cZ _ _ _ _ _ _ _ (@dQ _ _ _ _ _ _ _ _ oZ (@bC _ _ _ _ _ _ _ (@aW _ (K) rfl) (pv 1) aF (fun _ _ => rfl)) (pv 2) (@bO _ _ (by decide) (by decide))) (@cZ _ _ _ _ _ _ _ (@bD _ _ _ _ _ _ _ _ _ _ G_p_is_low (hr.mono (by decide)) (aA (pv 0) (aA (@bC _ _ _ _ _ _ _ (@aW _ (K) rfl) (pv 1) aF (fun _ _ => rfl)) (aA (pv 2) aB))) (by rfl) (by decide) (by rfl) (by rfl)) (@dS _ _ _ _ _ (@bD _ _ _ _ _ _ _ _ _ _ G_p_is_low (hr.mono (by decide)) (aA (pv 0) (aA (@bC _ _ _ _ _ _ _ (@aW _ (K) rfl) (pv 1) aF (fun _ _ => rfl)) (aA (pv 2) aB))) (by rfl) (by decide) (by rfl) (by rfl))))))), ?_⟩
 refine ⟨_, rfl, t, _, 3, .int c, rfl, rfl, SqT.of o, aO (j := 3) rfl, _, rfl, _, _, rfl, rfl, ?_⟩
 have q : Q (.bl (decide (c < lv) && (iL fs lv a && iL fs lv b))) H := q
 refine ⟨_, rfl, ?_⟩
 cases h1 : decide (c < lv) with
 | false =>
  rw [h1] at q
  exact bG q
 | true =>
  rw [h1] at q
  refine cA ?_
  refine ⟨_, rfl, _, rfl, t, _, 1, .str a, rfl, rfl, SqT.of o, aO (j := 1) rfl, _, rfl, _, _, _, rfl, p, fs, ds, a, lv, rfl, L, rfl, ha, rfl, ?_⟩
  refine ⟨_, rfl, ?_⟩
  cases h2 : iL fs lv a with
  | false =>
   rw [h2] at q
   exact bG q
  | true =>
   rw [h2] at q
   refine cA ?_
   exact ⟨_, rfl, _, rfl, t, _, 2, .str b, rfl, rfl, SqT.of o, aO (j := 2) rfl, _, rfl, _, _, _, rfl, p, fs, ds, b, lv, rfl, L, rfl, hb, rfl, q⟩
theorem kX (G : List Gap) : (dP G).length = G.length := List.length_map _
theorem aBR (G : List Gap) : (dP G).map (·.1) = (G.map (·.nm)).map Sum.inr := by
 unfold dP
 rw [List.map_map, List.map_map]
 rfl
theorem kW (fs ds : List Dv) (L : Int) : (aU fs ds L).length ≤ ds.length := by
 unfold aU
 rw [List.length_map]
 exact List.length_filter_le _ _
def aGA (C : Addr) : Sp := sp2 fun x y H Q => ∃ (p : Addr) (fs ds : List Dv) (L : Int), x = .ref p ∧ LandAt C H p fs ds ∧ y = .int L ∧ ∀ (cd : Addr) (H' : Hp), aI H H' → H cd = none → H' cd = some (.dK (dP (aU fs ds L))) → Q (.ref cd) H'
theorem sW (T : Txt K mg C) : Fc P w K mg base 4 "gap_coins" ["land", "height"] (aGA C) := by
 have G_p_is_gap : Fc P w K mg base 3 "is_gap" ["land", "dyke", "height"] (aKC C) := zK T
 have G_p_coins_to : Fc P w K mg base 1 "coins_to" ["dyke", "height"] pK := nZ T
 have G_land_p_dykes : Mc P w K mg base 1 C "dykes" ["self"] (aAR C fun _ ds => ds) := rD T
 refine T.d_p_gap_coins.fc sI jM (fun f cdv A outer s H vs Q E hr h => ?_)
 obtain ⟨x, y, rfl, p, fs, ds, lv, rfl, L, rfl, q⟩ := h
 have big := bY
 have gf := (bV L).1
 have gd := (bV L).2
 have d2 := gd.l2
 have GG := nP gf gd lv
 have gl := kW fs ds lv
 obtain ⟨dx, d1, d2', hx, _⟩ := L.ex
 refine ⟨_, (aH (@aS _ _ _ _ (@cW _ _ _ _ _ _ _ _ _ (@eJ _ rfl) rfl T.n_dict jQ (aA (@bX _ _ _ _ _ _ _ _ _ _ _ ["dyke", "land", "height"] 1 [0, 1] rfl (@bM _ _ _ _ (@aDB _ _ _ _ _ _ _ _ _ _ _ T.cl_Land G_land_p_dykes (hr.mono (by decide)) (pv 0) (by rfl))) (fun R => @aP _ _ (0) _ (show List.Nodup (["dyke", "land", "height"] : List Str) by decide +kernel) rfl (Or.inl rfl) (by trivial)) (@aX _ _ (by decide)) (fun R => @dO _ _ _ (@cB _ _ _ (@bD _ _ _ _ _ _ _ _ _ _ G_p_is_gap (hr.mono (by decide)) (aA (pv 1) (aA (pv 0) (aA (pv 2) aB))) (by rfl) (by decide) (by rfl) (by rfl)) (by intro _; rfl))) (fun R => (@dY _ _ _ _ _ (aA (@bC _ _ _ _ _ _ _ (@aW _ (K) rfl) (pv 0) aF (fun _ _ => rfl)) (aA (@bD _ _ _ _ _ _ _ _ _ _ G_p_coins_to (hr.mono (by decide)) (aA (pv 0) (aA (pv 2) aB)) (by rfl) (by decide) (by rfl) (by rfl)) aB)))) (by rfl) (by rfl) (by rfl) (by rfl) (by rfl) (by rfl) (by rfl) (by intro _; rfl)) aB) (by decide) (by decide) (by rfl) (by rfl)))), ?_⟩
 refine ⟨_, rfl, p, dx, _, rfl, hx, jN _ _ (by decide +kernel) (by decide +kernel), _, rfl, p, fs, ds, rfl, L, fun lb vb H2 S2 flb hlb hib => ?_⟩
 have lvb : vb.length = ds.length := hib.length
 refine ⟨lb, rfl, ⟨_, SqL.of hlb⟩, ?_⟩
 refine bF (F := K) (xs := vb) (by omega) (fun i ys H' => aI H2 H' ∧ bZ H' ys (dP (aU fs (ds.take i) lv))) ⟨aI.refl _, bZ.nil _⟩ ?_ ?_ ?_
 ·rintro i ys H' hi' ⟨S', pa⟩
  have := pa.len
  have := kW fs (ds.take i) lv
  rw [kX] at *
  rw [List.length_take] at this
  exact ⟨SqL.of (S' _ _ hlb), by omega⟩
 ·rintro i xv ys H' K1 K2 hx' ⟨S', pa⟩ k1 k2
  have hil : i < vb.length := (List.getElem?_eq_some_iff.mp hx').1
  obtain ⟨d, ed⟩ : ∃ d, ds[i]? = some d := ⟨_, List.getElem?_eq_getElem (by omega)⟩
  obtain ⟨v, ev, iv⟩ := hib.get ed
  rw [hx'] at ev
  cases ev
  have md := List.mem_of_getElem? ed
  have iv' := Is.same S' _ _ iv
  refine ⟨_, rfl, _, rfl, _, rfl, _, _, _, rfl, p, fs, ds, d, lv, rfl, L.same (S2.trans S'), iv', md, rfl, _, rfl, ?_⟩
  have et : aU fs (ds.take (i + 1)) lv = aU fs (ds.take i) lv ++ (if isG fs lv d = true then [gOf lv d] else []) := by
   unfold aU
   rw [List.take_add_one, ed, List.filter_append, List.map_append]
   cases h : isG fs lv d <;> simp [h]
  cases hg : isG fs lv d with
  | false =>
   rw [hg] at et
   refine bG (k2 _ ⟨S', ?_⟩)
   rw [et]
   simpa using pa
  | true =>
   rw [hg] at et
   refine cA ?_
   obtain ⟨n, a, b, c, r, sl, rfl, _, ha, hb, hab, hc, hr', _⟩ := bP (gd.all d md)
   obtain ⟨t, sv, rfl, o, isv⟩ := jP iv'
   have h2 := Bool.and_eq_true_iff.mp (show (decide (0 ≤ r) && decide (r ≤ 1000000)) = true from hr')
   refine ⟨_, rfl, t, _, 0, .str n, rfl, rfl, SqT.of o, aO (j := 0) rfl, _, rfl, _, rfl, _, _, rfl, t, n, a, b, c, r, lv, sv, rfl, rfl, o, of_decide_eq_true h2.1, of_decide_eq_true h2.2, aN rfl, fun p3 hp3 => k1 _ _ ⟨S'.trans (aI.upd hp3), ?_⟩⟩
   rw [et]
   have e2 : dP (aU fs (ds.take i) lv ++ [gOf lv (.tup [.str n, .str a, .str b, .int c, .int r, sl])]) = dP (aU fs (ds.take i) lv) ++ [(Sum.inr n, V.int (r * (lv - c)))] := by
    unfold dP
    rw [List.map_append]
    rfl
   rw [if_pos rfl, e2]
   exact bZ.snoc (k := Sum.inr n) pa hp3
 rintro ys H3 ⟨S3, pa⟩
 rw [List.take_of_length_le (by omega)] at pa
 intro p4 hp4
 have S4 := aI.upd (o := .lst ys) hp4
 refine ⟨p4, ys, dP (aU fs ds lv), rfl, SqL.of aE, pa.same S4, by rw [kX]; omega, by rw [aBR]; exact (fW _).mpr GG.nd, fun cd hcd => ?_⟩
 have T4 := S2.trans (S3.trans S4)
 exact q cd _ (T4.trans (aI.upd hcd)) (T4.free hcd) aE
open Mt22 MtF
theorem aBW {zs : List Str} {d : Dv} (h : cU zs d = true) : yA d = true := by
 obtain ⟨n, a, b, c, r, s, rfl, _, _, _, _, _, _, hs⟩ := bP h
 cases s with
 | non => rfl
 | int i => rfl
 | _ => cases hs
theorem fU (s : Mt22.St) : yA (bS s) = true := rfl
open Mt22 MtF
theorem aCF {H : Hp} {d d1 : Addr} {fs : List Dv} {kvs : List (Key × V)} {o : Obj} (h : uJ H d1 fs) (hd : H d = some (.dK kvs)) (nr : ∀ v ∈ kvs.map (·.2), ∀ a, v ≠ .ref a) (l1 : 1 ≤ fs.length) (ht : ∀ f ∈ fs, ∃ us, f = .tup us) (hh : vX fs = true) : uJ (upd H d (.frz o (.dK kvs))) d1 fs := by
 obtain ⟨kv1, e, k, i⟩ := h
 have nd : d1 ≠ d := fun c => by
  rw [c, hd] at e
  cases e
  cases fs with
  | nil => exact absurd l1 (by decide)
  | cons f fs =>
   obtain ⟨us, rfl⟩ := ht f List.mem_cons_self
   obtain ⟨v, r, ev, ⟨a, w, ea, _⟩, _⟩ := i
   exact nr v (by rw [ev]; exact List.mem_cons_self) a ea
 refine ⟨kv1, by rw [aQ nd]; exact e, k, IsL.keep (fun b xs hb => ?_) fs _ hh i⟩
 rw [aQ (fun c => by rw [c, hd] at hb; cases hb)]
 exact hb
theorem aHE {H : Hp} {x d : Addr} {fs ds : List Dv} {kvs : List (Key × V)} {o : Obj} (L : LandAt C H x fs ds) (hd : H d = some (.dK kvs)) (nr : ∀ v ∈ kvs.map (·.2), ∀ a, v ≠ .ref a) : LandAt C (upd H d (.frz o (.dK kvs))) x fs ds := by
 obtain ⟨gf, gd⟩ := bV L
 obtain ⟨⟨dx, d1, d2, e, t1, t2⟩, a, b⟩ := L
 refine ⟨⟨dx, d1, d2, by rw [aQ (fun c => by rw [c, hd] at e; cases e)]; exact e, aCF t1 hd nr gf.l1 (fun f m => ?_) (fA fun f m => ?_), aCF t2 hd nr gd.l1 (fun f m => ?_) (fA fun d m => aBW (gd.all d m))⟩, a, b⟩
 ·obtain ⟨z, g, e, rfl, _⟩ := bJ (gf.all f m)
  exact ⟨_, rfl⟩
 ·obtain ⟨z, g, e, rfl, _⟩ := bJ (gf.all f m)
  rfl
 ·obtain ⟨n, a, b, c, r, s, rfl, _⟩ := bP (gd.all f m)
  exact ⟨_, rfl⟩
open Mt53 Mt22 MtF Mt31 Mt61
theorem zT {fs ds : List Dv} {L : Int} {zs : List Str} (gd : GoodD zs ds) {g : Gap} (m : g ∈ aU fs ds L) : ∃ d ∈ ds, isG fs L d = true ∧ g = gOf L d ∧ aL d = g.nm := by
 obtain ⟨d, md, rfl⟩ := List.mem_map.mp m
 rw [List.mem_filter] at md
 exact ⟨d, md.1, md.2, rfl, (aHO (gd.all d md.1) L).symm⟩
theorem nH (G : List Gap) : (Mt61.stepsOf G).length = 2 * G.length := by
 unfold Mt61.stepsOf
 induction G with
 | nil => rfl
 | cons g G ih =>
  rw [List.flatMap_cons, List.length_append, ih]
  show 2 + 2 * G.length = 2 * (G.length + 1)
  omega
theorem uZ {H : Hp} {t : Addr} {s : Mt22.St} (h : H t = some (.tup [.str s.nm, .str s.near, .str s.far, .int s.h])) : Is H (bS s) (.ref t) := ⟨t, _, rfl, h, _, _, rfl, rfl, _, _, rfl, rfl, _, _, rfl, rfl, _, _, rfl, rfl, rfl⟩
def yR (C : Addr) : Sp := sp2 fun x y H Q => ∃ (p d : Addr) (fs ds : List Dv) (L : Int), x = .ref p ∧ LandAt C H p fs ds ∧ y = .ref d ∧ H d = some (.dK (dP (aU fs ds L))) ∧ ∀ (o : Obj) (l : Addr) (us : List V) (H' : Hp), aI (upd H d (.frz o (.dK (dP (aU fs ds L))))) H' → H l = none → H' l = some (.lst us) → IsL H' ((Mt61.stepsOf (aU fs ds L)).map bS) us → Q (.ref l) H'
theorem rA (T : Txt K mg C) : Fc P w K mg base 2 "steps_over" ["land", "names"] (yR C) := by
 have G_land_p_dyke : Mc P w K mg base 1 C "dyke" ["self", "name"] (rP C) := jL T
 refine T.d_p_steps_over.fc fN jM (fun f cdv A outer s H vs Q E hr h => ?_)
 obtain ⟨x, y, rfl, p, d, fs, ds, lv, rfl, L, rfl, hd, q⟩ := h
 have big := bY
 have gf := (bV L).1
 have gd := (bV L).2
 have d2 := gd.l2
 have GG := nP gf gd lv
 have gl := kW fs ds lv
 refine ⟨_, (aG (@aY _ _ (2) _ _ _ _ fN.nd rfl (Or.inl rfl) (@cG _ _ _ _ aB) (by rfl) (by trivial)) (aG (@iN _ _ _ _ _ _ _ _ PassesOwn.never rfl (@xI _ _ _ _ (pv 1)) (@aP _ _ (3) _ fN.nd rfl (Or.inl rfl) (by trivial)) (aG (@aY _ _ (4) _ _ _ _ fN.nd rfl (Or.inl rfl) (@aIZ _ _ _ _ _ _ _ _ _ _ _ _ _ _ T.cl_Land G_land_p_dyke (hr.mono (by decide)) (pv 0) (aA (pv 3) aB) (by rfl) (by rfl) (by rfl)) (by rfl) (by trivial)) (aG (@fQ _ _ _ _ (@lQ _ _ _ _ _ _ _ _ _ _ _ _ PySem.F.plainAttrs_list PySem.F.slot_list_append PySem.F.type_list_append eM (pv 2) (aA (@dY _ _ _ _ _ (aA (pv 3) (aA (@bC _ _ _ _ _ _ _ (@aW _ (K) rfl) (pv 4) aF (fun _ _ => rfl)) (aA (@bC _ _ _ _ _ _ _ (@aW _ (K) rfl) (pv 4) aF (fun _ _ => rfl)) (aA aF aB))))) aB) (by rfl) (by rfl) (by rfl) (by rfl) (by rfl)) (by rfl)) (aH (@fQ _ _ _ _ (@lQ _ _ _ _ _ _ _ _ _ _ _ _ PySem.F.plainAttrs_list PySem.F.slot_list_append PySem.F.type_list_append eM (pv 2) (aA (@dY _ _ _ _ _ (aA (pv 3) (aA (@bC _ _ _ _ _ _ _ (@aW _ (K) rfl) (pv 4) aF (fun _ _ => rfl)) (aA (@bC _ _ _ _ _ _ _ (@aW _ (K) rfl) (pv 4) aF (fun _ _ => rfl)) (aA (@aGR _ _ _ _ _ _ aAP aF) aB))))) aB) (by rfl) (by rfl) (by rfl) (by rfl) (by rfl)) (by rfl))))) (by intro _; rfl)) (aH (@aS _ _ _ _ (pv 2))))), ?_⟩
 refine ⟨aN rfl, fun l hl => ?_⟩
 have S1 := aI.upd (o := .lst []) hl
 have nld : d ≠ l := aV hd hl
 refine ⟨_, rfl, d, _, rfl, by rw [aQ nld]; exact hd, fun o => ?_⟩
 have nr : ∀ v ∈ (dP (aU fs ds lv)).map (·.2), ∀ a, v ≠ .ref a := fun v m a e => by
  obtain ⟨kv, mk, rfl⟩ := List.mem_map.mp m
  obtain ⟨g, _, rfl⟩ := List.mem_map.mp mk
  cases e
 have L0 : LandAt C (upd H d (.frz o (.dK (dP (aU fs ds lv))))) p fs ds := aHE L hd nr
 have hl0 : upd H d (.frz o (.dK (dP (aU fs ds lv)))) l = none := by rw [aQ (Ne.symm nld)]; exact hl
 have SS : aI (upd H d (.frz o (.dK (dP (aU fs ds lv))))) (upd (upd H l (.lst [])) d (.frz o (.dK (dP (aU fs ds lv))))) := fun b u e => by
  by_cases hb : b = d
  ·subst hb
   rw [aE] at e ⊢
   exact e
  ·rw [aQ hb] at e ⊢
   exact S1 _ _ e
 have r1 : upd (upd H l (.lst [])) d (.frz o (.dK (dP (aU fs ds lv)))) l = some (.lst []) := by rw [aQ (Ne.symm nld), aE]
 have qq := fun us H' => q o l us H'
 have dF : upd H d (.frz o (.dK (dP (aU fs ds lv)))) d = some (.frz o (.dK (dP (aU fs ds lv)))) := aE
 generalize upd (upd H l (.lst [])) d (.frz o (.dK (dP (aU fs ds lv)))) = H2 at SS r1
 generalize upd H d (.frz o (.dK (dP (aU fs ds lv)))) = H0 at L0 hl0 SS qq dF
 refine aHP (fun i σ H' => ∃ (v3 v4 : Option V) (us : List V), σ = [some (.ref p), some (.ref d), some (.ref l), v3, v4] ∧ aI H0 H' ∧ H' l = some (.lst us) ∧ IsL H' ((Mt61.stepsOf ((aU fs ds lv).take i)).map bS) us) ⟨_, _, [], rfl, SS, r1, rfl⟩ (fun i σ H' _ ⟨_, _, _, _, S', _⟩ => S' _ _ dF) ?_ ?_
 ·rintro i kv σ H' hk ⟨v3, v4, us, rfl, S', hl', ius⟩
  unfold dP at hk
  rw [List.getElem?_map] at hk
  obtain ⟨g, eg, ekv⟩ := Option.map_eq_some_iff.mp hk
  have hil := (List.getElem?_eq_some_iff.mp eg).1
  have mg' := List.mem_of_getElem? eg
  obtain ⟨dk, mdk, hg, rfl, en⟩ := zT gd mg'
  have L' := L0.same S'
  obtain ⟨dx, d1, d2', hx, _⟩ := L'.ex
  have lus := ius.length
  rw [List.length_map, nH, List.length_take] at lus
  have et : Mt61.stepsOf ((aU fs ds lv).take (i + 1)) = Mt61.stepsOf ((aU fs ds lv).take i) ++ [up (gOf lv dk), dn (gOf lv dk)] := by
   unfold Mt61.stepsOf
   rw [List.take_add_one, eg, List.flatMap_append]
   rfl
  obtain ⟨n, a, b, c, r, sl, rfl, _⟩ := bP (gd.all dk mdk)
  have ek : kV kv.1 = V.str n := by rw [← ekv]; rfl
  rw [ek]
  refine ⟨_, rfl, p, dx, _, rfl, hx, jN _ _ (by decide +kernel) (by decide +kernel), _, rfl, _, _, rfl, p, fs, ds, _, rfl, rfl, L', mdk, fun v iv => ?_⟩
  obtain ⟨t, sv, rfl, ot, isv⟩ := jP iv
  refine ⟨_, rfl, .inl ⟨rfl, _, SqL.of hl'⟩, _, rfl, _, rfl, t, _, 1, .str a, rfl, rfl, SqT.of ot, aO (j := 1) rfl, _, rfl, t, _, 2, .str b, rfl, rfl, SqT.of ot, aO (j := 2) rfl, aN rfl, fun ta hta => ?_⟩
  have Sa := aI.upd (o := .tup [.str n, .str a, .str b, .int 1]) hta
  have ra : upd H' ta (.tup [.str n, .str a, .str b, .int 1]) ta = _ := aE
  generalize upd H' ta (.tup [.str n, .str a, .str b, .int 1]) = Ha at Sa ra
  have hla := Sa _ _ hl'
  refine ⟨l, us, .ref ta, rfl, rfl, hla, by omega, ?_⟩
  have KT := gR.lst (o := .lst (us ++ [.ref ta])) hla
  have Sb : aI H0 (upd Ha l (.lst (us ++ [.ref ta]))) := (S'.trans Sa).over hl0
  have rb : upd Ha l (.lst (us ++ [.ref ta])) l = some (.lst (us ++ [.ref ta])) := aE
  have ib : IsL (upd Ha l (.lst (us ++ [.ref ta]))) ((Mt61.stepsOf ((aU fs ds lv).take i)).map bS ++ [bS (up ⟨n, a, b, r * (lv - c)⟩)]) (us ++ [.ref ta]) := by
   refine IsL.keep KT _ _ (fA fun d m => ?_) (IsL.snoc (uZ ra) (IsL.same Sa _ _ ius))
   rcases List.mem_append.mp m with m | m
   ·obtain ⟨s, _, rfl⟩ := List.mem_map.mp m
    exact fU s
   ·rw [List.mem_singleton.mp m]
    exact fU _
  have ob := KT _ _ (Sa _ _ ot)
  generalize upd Ha l (.lst (us ++ [.ref ta])) = Hb at Sb rb ib ob
  refine ⟨_, rfl, .inl ⟨rfl, _, SqL.of rb⟩, _, rfl, _, rfl, t, _, 2, .str b, rfl, rfl, SqT.of ob, aO (j := 2) rfl, _, rfl, t, _, 1, .str a, rfl, rfl, SqT.of ob, aO (j := 1) rfl, _, rfl, aN rfl, fun tb htb => ?_⟩
  have Sc := aI.upd (o := .tup [.str n, .str b, .str a, .int (-1)]) htb
  have rc : upd Hb tb (.tup [.str n, .str b, .str a, .int (-1)]) tb = _ := aE
  generalize upd Hb tb (.tup [.str n, .str b, .str a, .int (-1)]) = Hc at Sc rc
  have hlc := Sc _ _ rb
  refine ⟨l, us ++ [.ref ta], .ref tb, rfl, rfl, hlc, by rw [List.length_append]; show _ + 1 < _; omega, ?_⟩
  have KT2 := gR.lst (o := .lst (us ++ [.ref ta] ++ [.ref tb])) hlc
  refine ⟨_, _, us ++ [.ref ta] ++ [.ref tb], rfl, (Sb.trans Sc).over hl0, aE, ?_⟩
  rw [et, List.map_append]
  show IsL _ (_ ++ [bS (up ⟨n, a, b, r * (lv - c)⟩), bS (dn ⟨n, a, b, r * (lv - c)⟩)]) _
  rw [show ∀ (xs : List Dv) (p q : Dv), xs ++ [p, q] = xs ++ [p] ++ [q] from fun xs p q => by simp]
  refine IsL.keep KT2 _ _ (fA fun d m => ?_) (IsL.snoc (uZ (s := dn ⟨n, a, b, r * (lv - c)⟩) rc) (IsL.same Sc _ _ ib))
  rcases List.mem_append.mp m with m | m
  ·rcases List.mem_append.mp m with m | m
   ·obtain ⟨s, _, rfl⟩ := List.mem_map.mp m
    exact fU s
   ·rw [List.mem_singleton.mp m]
    exact fU _
  ·rw [List.mem_singleton.mp m]
   exact fU _
 ·rintro σ H' ⟨v3, v4, us, rfl, S', hl', ius⟩
  rw [kX, List.take_of_length_le (Nat.le_refl _)] at ius
  exact ⟨_, rfl, qq us H' S' hl hl' ius⟩
open Mt22 MtF Mt31 Mt61
def CV (H : Hp) (o : Option Mt22.St) (v : V) : Prop := match o with
 | none => v = .non
 | some s => Is H (bS s) v
theorem CV.same {H H' : Hp} (S : aI H H') {o : Option Mt22.St} {v : V} (h : CV H o v) : CV H' o v := by
 cases o with
 | none => exact h
 | some s => exact Is.same S _ _ h
theorem CV.keep {H H' : Hp} (S : gR H H') {o : Option Mt22.St} {v : V} (h : CV H o v) : CV H' o v := by
 cases o with
 | none => exact h
 | some s => exact Is.keep S _ _ (fU s) h
structure CamKV (H : Hp) (kvs : List (Key × V)) (cm : Cm) : Prop where
 len : kvs.length = cm.length
 at' : ∀ (i : Nat) (z : Str) (o : Option Mt22.St), cm[i]? = some (z, o) → ∃ v, kvs[i]? = some (Sum.inr z, v) ∧ CV H o v
theorem CamKV.keys {H : Hp} {kvs : List (Key × V)} {cm : Cm} (h : CamKV H kvs cm) : kvs.map (·.1) = (Mt31.keys cm).map Sum.inr := by
 apply List.ext_getElem?
 intro i
 unfold Mt31.keys
 rw [List.getElem?_map, List.getElem?_map, List.getElem?_map]
 cases e : cm[i]? with
 | none =>
  rw [List.getElem?_eq_none_iff] at e
  rw [List.getElem?_eq_none (by rw [h.len]; exact e)]
  rfl
 | some x =>
  obtain ⟨z, o⟩ := x
  obtain ⟨v, ev, _⟩ := h.at' i z o e
  rw [ev]
  rfl
theorem CamKV.same {H H' : Hp} (S : aI H H') {kvs : List (Key × V)} {cm : Cm} (h : CamKV H kvs cm) : CamKV H' kvs cm :=
 ⟨h.len, fun i z o e => by obtain ⟨v, e1, c⟩ := h.at' i z o e; exact ⟨v, e1, c.same S⟩⟩
theorem CamKV.keep {H H' : Hp} (S : gR H H') {kvs : List (Key × V)} {cm : Cm} (h : CamKV H kvs cm) : CamKV H' kvs cm :=
 ⟨h.len, fun i z o e => by obtain ⟨v, e1, c⟩ := h.at' i z o e; exact ⟨v, e1, c.keep S⟩⟩
theorem yN {κ : Type} [DecidableEq κ] : ∀ {kvs : List (κ × V)} {i : Nat} {k : κ} {v : V}, (kvs.map (·.1)).Nodup → kvs[i]? = some (k, v) → fS kvs k = some v
 | p :: r, 0, k, v, nd, e => by cases e; exact lX rfl
 | p :: r, i + 1, k, v, nd, e => by
  rw [List.map_cons, List.nodup_cons] at nd
  have e' : r[i]? = some (k, v) := e
  rw [lY (fun c => nd.1 (by rw [c]; exact List.mem_map.mpr ⟨_, List.mem_of_getElem? e', rfl⟩))]
  exact yN nd.2 e'
theorem aBH {zs : List Str} (h : zs.Nodup) : (zs.map (Sum.inr : Str → Key)).Nodup := (fW zs).mpr h
theorem CamKV.val {H : Hp} {S : List Mt22.St} {kvs : List (Key × V)} {cm : Cm} (h : CamKV H kvs cm) (c : Came S cm) {i : Nat} {z : Str} {o : Option Mt22.St} (e : cm[i]? = some (z, o)) : ∃ v, fS kvs (Sum.inr z) = some v ∧ CV H o v := by
 obtain ⟨v, ev, cv⟩ := h.at' i z o e
 exact ⟨v, yN (by rw [h.keys]; exact aBH c.nd) ev, cv⟩
theorem CamKV.none {H : Hp} {kvs : List (Key × V)} {cm : Cm} (h : CamKV H kvs cm) {z : Str} (n : ¬ z ∈ Mt31.keys cm) : fS kvs (Sum.inr z) = none := by
 cases e : fS kvs (Sum.inr z) with
 | none => rfl
 | some v =>
  have := aIJ e
  rw [h.keys] at this
  obtain ⟨y, my, ey⟩ := List.mem_map.mp this
  cases ey
  exact absurd my n
theorem CamKV.some {H : Hp} {kvs : List (Key × V)} {cm : Cm} (h : CamKV H kvs cm) {z : Str} (n : z ∈ Mt31.keys cm) : (fS kvs (Sum.inr z)).isSome = true := by
 cases e : fS kvs (Sum.inr z) with
 | some v => rfl
 | none =>
  have := aFJ e
  rw [h.keys] at this
  exact absurd (List.mem_map.mpr ⟨z, n, rfl⟩) this
theorem aOI (x : V) (r : List V) : seqIndex? 0 (x :: r).length = some 0 := by
 rw [List.length_cons]
 unfold seqIndex?
 simp
 try omega
theorem kI {H : Hp} {s : Mt22.St} {v : V} (h : Is H (bS s) v) : ∃ t, v = .ref t ∧ H t = some (.tup [.str s.nm, .str s.near, .str s.far, .int s.h]) := by
 obtain ⟨t, us, rfl, o, v0, r0, rfl, i0, v1, r1, rfl, i1, v2, r2, rfl, i2, v3, r3, rfl, i3, h0⟩ := h
 cases (show r3 = [] from h0)
 cases (show v0 = _ from i0)
 cases (show v1 = _ from i1)
 cases (show v2 = _ from i2)
 cases (show v3 = _ from i3)
 exact ⟨t, rfl, o⟩
theorem pF (a b : Str) : decide (V.str a = V.str b) = decide (a = b) := by
 by_cases h : a = b
 ·subst h; simp
 ·rw [decide_eq_false h, decide_eq_false (fun c => h (by cases c; rfl))]
def pI : Sp := sp2 fun x y H Q => ∃ (ls lt : Addr) (us : List V) (S : List Mt22.St) (zs V0 : List Str), x = .ref ls ∧ y = .ref lt ∧ zs.Nodup ∧ (∀ z ∈ zs, z ∈ V0) ∧ H ls = some (.lst (zs.map V.str)) ∧ H lt = some (.lst us) ∧ IsL H (S.map bS) us ∧ S.length ≤ 80 ∧ V0.length ≤ 13 ∧ (∀ s ∈ S, s.far ∈ V0) ∧
 ∀ (d : Addr) (cm : Cm) (kvs : List (Key × V)) (H' : Hp), aI H H' → H d = none → H' d = some (.dK kvs) → CamKV H' kvs cm → CameG zs S cm → rH S cm cm.length → cm.length ≤ 13 → Q (.ref d) H'
theorem qN (T : Txt K mg C) : Fc P w K mg base 1 "spread" ["starts", "steps"] pI := by
 refine T.d_p_spread.fc hW jM (fun f cdv A outer s H vs Q E hr h => ?_)
 obtain ⟨x, y, rfl, ls, lt, us, S, zs, V0, rfl, rfl, ndz, sV, hls, hlt, ius, lS, lV, farV, q⟩ := h
 have lz : zs.length ≤ 13 := by have := tM ndz sV; omega
 have big := bY
 have hu := oA hr
 have lus := ius.length
 rw [List.length_map] at lus
 have lcm : ∀ cm : Cm, CameG zs S cm → (∀ z ∈ keys cm, z ∈ V0) → cm.length ≤ 13 := fun cm c sub => by
  have := tM c.nd sub
  unfold keys at this
  rw [List.length_map] at this
  omega
 refine ⟨_, (aG (@aY _ _ (2) _ _ _ _ hW.nd rfl (Or.inl rfl) (@cW _ _ _ _ _ _ _ _ _ (@eJ _ rfl) rfl T.n_dict jQ (aA (@bX _ _ _ _ _ _ _ _ _ _ _ ["side"] 1 [] rfl (@bM _ _ _ _ (pv 0)) (fun R => @aP _ _ (0) _ (show List.Nodup (["side"] : List Str) by decide +kernel) rfl (Or.inl rfl) (by trivial)) (@aX _ _ (by decide)) (fun R => cI) (fun R => (@dY _ _ _ _ _ (aA (pv 0) (aA jJ aB)))) (by rfl) (by rfl) (by rfl) (by rfl) (by rfl) (by rfl) (by rfl) (by intro _; rfl)) aB) (by decide) (by decide) (by rfl) (by rfl)) (by rfl) (by trivial)) (aG (@aY _ _ (3) _ _ _ _ hW.nd rfl (Or.inl rfl) (@cW _ _ _ _ _ _ _ _ _ (@kH _ (K) rfl) rfl T.n_list dA (aA (pv 0) aB) (by decide) (by decide) (by rfl) (by rfl)) (by rfl) (by trivial)) (aG (@sP _ _ _ _ _ _ PassesOwn.never (aBB (pv 3)) (aG (@aY _ _ (4) _ _ _ _ hW.nd rfl (Or.inl rfl) (@lQ _ _ _ _ _ _ _ _ _ _ _ _ PySem.F.plainAttrs_list PySem.F.slot_list_pop PySem.F.type_list_pop aGZ (pv 3) (aA aF aB) (by rfl) (by rfl) (by rfl) (by rfl) (by rfl)) (by rfl) (by trivial)) (aH (@iN _ _ _ _ _ _ _ _ PassesOwn.never rfl (@bM _ _ _ _ (pv 1)) (@aP _ _ (5) _ hW.nd rfl (Or.inl rfl) (by trivial)) (aH (@dL _ _ _ _ _ _ _ _ (@PW.pt _ _ _ (@kB _ _ _ _ _ _ _ (@bI _ _ _ _ _ _ _ _ jK (@bC _ _ _ _ _ _ _ (@aW _ (K) rfl) (pv 5) aF (fun _ _ => rfl)) (pv 4) (@bO _ _ (by decide) (by decide))) (@iT _ _ _ _ (@xG _ _ _ _ _ _ (@vK _ _ _ _ _ hu (@bC _ _ _ _ _ _ _ (@aW _ (K) rfl) (pv 5) aF (fun _ _ => rfl)) (pv 2)) (by first | exact nobehind _ (by decide) (by decide) | rfl))))) (aG (@aIV _ _ _ _ _ _ _ _ _ hu (pv 2) (@bC _ _ _ _ _ _ _ (@aW _ (K) rfl) (pv 5) aF (fun _ _ => rfl)) (pv 5) rfl) (aH (@fQ _ _ _ _ (@lQ _ _ _ _ _ _ _ _ _ _ _ _ PySem.F.plainAttrs_list PySem.F.slot_list_append PySem.F.type_list_append eM (pv 3) (aA (@bC _ _ _ _ _ _ _ (@aW _ (K) rfl) (pv 5) aF (fun _ _ => rfl)) aB) (by rfl) (by rfl) (by rfl) (by rfl) (by rfl)) (by rfl)))) bQ)) (by intro _; rfl))))) (aH (@aS _ _ _ _ (pv 2)))))), ?_⟩
 refine ⟨_, rfl, ls, rfl, ⟨_, SqL.of hls⟩, ?_⟩
 refine bF (F := K) (xs := zs.map V.str) (by rw [List.length_map]; omega) (fun i ys H' => aI H H' ∧ bZ H' ys ((zs.take i).map fun z => ((Sum.inr z, .non) : Key × V))) ⟨aI.refl _, bZ.nil _⟩ ?_ ?_ ?_
 ·rintro i ys H' hi' ⟨S', pa⟩
  have := pa.len
  rw [List.length_map, List.length_take] at this
  exact ⟨SqL.of (S' _ _ hls), by omega⟩
 ·rintro i xv ys H' K1 K2 hx' ⟨S', pa⟩ k1 k2
  rw [List.getElem?_map] at hx'
  obtain ⟨z, ez, rfl⟩ := Option.map_eq_some_iff.mp hx'
  refine ⟨_, rfl, aN rfl, fun p3 hp3 => k1 _ _ ⟨S'.trans (aI.upd hp3), ?_⟩⟩
  rw [List.take_add_one, ez, List.map_append]
  exact bZ.snoc (k := Sum.inr z) pa hp3
 rintro ys H1 ⟨S1, pa⟩
 rw [List.length_map, List.take_of_length_le (Nat.le_refl _)] at pa
 intro p4 hp4
 have S2 := aI.upd (o := .lst ys) hp4
 have kz : (zs.map fun z => ((Sum.inr z, .non) : Key × V)).map (·.1) = zs.map Sum.inr := by rw [List.map_map]; rfl
 refine ⟨p4, ys, zs.map fun z => ((Sum.inr z, .non) : Key × V), rfl, SqL.of aE, pa.same S2, by rw [List.length_map]; omega, by rw [kz]; exact (fW zs).mpr ndz, fun d hd => ?_⟩
 have S3 := aI.upd (o := .dK (zs.map fun z => ((Sum.inr z, .non) : Key × V))) hd
 have T3 := S1.trans (S2.trans S3)
 have hd0 := (S1.trans S2).free hd
 refine ⟨_, rfl, ls, _, rfl, .inl (SqL.of (T3 _ _ hls)), fun lw hlw => ?_⟩
 have S4 := aI.upd (o := .lst (zs.map V.str)) hlw
 have T4 := T3.trans S4
 have hd4 : upd (upd (upd H1 p4 (.lst ys)) d (.dK (zs.map fun z => ((Sum.inr z, .non) : Key × V)))) lw (.lst (zs.map V.str)) d = some (.dK (zs.map fun z => ((Sum.inr z, .non) : Key × V))) := S4 _ _ aE
 have hw4 : upd (upd (upd H1 p4 (.lst ys)) d (.dK (zs.map fun z => ((Sum.inr z, .non) : Key × V)))) lw (.lst (zs.map V.str)) lw = some (.lst (zs.map V.str)) := aE
 have hlw0 := T3.free hlw
 have ndw : d ≠ lw := aV (show upd (upd H1 p4 (.lst ys)) d (.dK (zs.map fun z => ((Sum.inr z, .non) : Key × V))) d = some _ from aE) hlw
 generalize upd (upd (upd H1 p4 (.lst ys)) d (.dK (zs.map fun z => ((Sum.inr z, .non) : Key × V)))) lw (.lst (zs.map V.str)) = H4 at T4 hd4 hw4
 have c0 : CameG zs S (zs.map fun z => (z, none)) := CameG.init S ndz
 have k00 : keys (zs.map fun z => ((z, none) : Str × Option Mt22.St)) = zs := by unfold keys; rw [List.map_map]; exact List.map_id _
 have k0 : CamKV H4 (zs.map fun z => ((Sum.inr z, .non) : Key × V)) (zs.map fun z => (z, none)) := ⟨by rw [List.length_map, List.length_map], fun i z o e => by
  rw [List.getElem?_map] at e
  obtain ⟨z', ez, e'⟩ := Option.map_eq_some_iff.mp e
  cases e'
  exact ⟨.non, by rw [List.getElem?_map, ez]; rfl, rfl⟩⟩
 refine rS (fun σ H' => ∃ (v4 v5 : Option V) (p : Nat) (cm : Cm) (kvs : List (Key × V)), σ = [some (.ref ls), some (.ref lt), some (.ref d), some (.ref lw), v4, v5] ∧ aI H H' ∧ H' d = some (.dK kvs) ∧ CamKV H' kvs cm ∧ CameG zs S cm ∧ (∀ z ∈ keys cm, z ∈ V0) ∧ p ≤ cm.length ∧ H' lw = some (.lst (((keys cm).drop p).map V.str)) ∧ rH S cm p)
  (fun _ H' => match H' d, H' lw with | some (.dK kvs), some (.lst ws) => 14 - (kvs.length - ws.length) | _, _ => 0) ⟨_, _, 0, zs.map fun z => (z, none), _, rfl, T4, hd4, k0, c0, (fun z m => by rw [k00] at m; exact sV z m), Nat.zero_le _, by rw [k00, List.drop_zero]; exact hw4, (fun i u hi => absurd hi (by omega))⟩ ?_ ?_
 ·rintro σ H5 ⟨v4, v5, p, cm, kvs, rfl, S5, hd5, ck, c, sub, hp, hw5, op⟩
  have l13 := lcm cm c sub
  refine ⟨_, rfl, lw, _, rfl, SqL.of hw5, ?_⟩
  have kl : (keys cm).length = cm.length := by unfold keys; rw [List.length_map]
  by_cases hpl : p < cm.length
  ·obtain ⟨u, eu⟩ : ∃ u, (keys cm)[p]? = some u := ⟨_, List.getElem?_eq_getElem (by omega)⟩
   have ed : (keys cm).drop p = u :: (keys cm).drop (p + 1) := by
    obtain ⟨h1, h2⟩ := List.getElem?_eq_some_iff.mp eu
    rw [← h2]
    exact (List.getElem_cons_drop h1).symm
   rw [ed] at hw5 ⊢
   refine cA ?_
   refine ⟨_, rfl, .inl ⟨rfl, _, SqL.of hw5⟩, lw, _, 0, 0, .str u, rfl, rfl, hw5, by decide, by decide, aOI _ _, rfl, ?_⟩
   have hw6 : upd H5 lw (.lst (((u :: (keys cm).drop (p + 1)).map V.str).eraseIdx 0)) lw = some (.lst (((keys cm).drop (p + 1)).map V.str)) := aE
   have hd6 : upd H5 lw (.lst (((u :: (keys cm).drop (p + 1)).map V.str).eraseIdx 0)) d = some (.dK kvs) := by rw [aQ ndw]; exact hd5
   have ck6 := ck.keep (gR.lst (o := .lst (((u :: (keys cm).drop (p + 1)).map V.str).eraseIdx 0)) hw5)
   have S6 : aI H (upd H5 lw (.lst (((u :: (keys cm).drop (p + 1)).map V.str).eraseIdx 0))) := S5.over hlw0
   generalize upd H5 lw (.lst (((u :: (keys cm).drop (p + 1)).map V.str).eraseIdx 0)) = H6 at hw6 hd6 ck6 S6
   refine ⟨_, rfl, lt, rfl, ⟨_, SqL.of (S6 _ _ hlt)⟩, kZ (K := K) (a := lt) (xs := us)
    (fun j σ H' => ∃ (v5 : Option V) (more : Cm) (kvs : List (Key × V)), σ = [some (.ref ls), some (.ref lt), some (.ref d), some (.ref lw), some (.str u), v5] ∧ aI H H' ∧ H' d = some (.dK kvs) ∧ CamKV H' kvs (cm ++ more) ∧ CameG zs S (cm ++ more) ∧ (∀ z ∈ keys (cm ++ more), z ∈ V0) ∧ H' lw = some (.lst (((keys (cm ++ more)).drop (p + 1)).map V.str)) ∧ rH S (cm ++ more) p ∧ ∀ s ∈ S.take j, s.near = u → s.far ∈ keys (cm ++ more))
    ⟨_, [], kvs, rfl, S6, hd6, by rw [List.append_nil]; exact ck6, by rw [List.append_nil]; exact c, by rw [List.append_nil]; exact sub, by rw [List.append_nil]; exact hw6, by rw [List.append_nil]; exact op, (fun s m => by cases m)⟩ (fun j σ H' _ ⟨_, _, _, _, S', _⟩ => SqL.of (S' _ _ hlt)) ?_ ?_⟩
   ·rintro j xv σ H7 hj ⟨w5, more, kvs7, rfl, S7, hd7, ck7, c7, sub7, hw7, op7, cl7⟩
    have hjl : j < us.length := (List.getElem?_eq_some_iff.mp hj).1
    obtain ⟨st, es⟩ : ∃ st, S[j]? = some st := ⟨_, List.getElem?_eq_getElem (by omega)⟩
    obtain ⟨v, ev, iv⟩ := ius.get (show (S.map bS)[j]? = some (bS st) by rw [List.getElem?_map, es]; rfl)
    rw [hj] at ev
    cases ev
    have ms := List.mem_of_getElem? es
    obtain ⟨t, rfl, o⟩ := kI iv
    have o7 := S7 _ _ o
    have et : S.take (j + 1) = S.take j ++ [st] := by rw [List.take_add_one, es]; rfl
    have l7 := lcm _ c7 sub7
    have kl7 : (keys (cm ++ more)).length = (cm ++ more).length := by unfold keys; rw [List.length_map]
    have lw7 : (((keys (cm ++ more)).drop (p + 1)).map V.str).length ≤ 13 := by rw [List.length_map, List.length_drop]; omega
    have uk : u ∈ keys (cm ++ more) := by rw [kT]; exact List.mem_append_left _ (List.mem_of_getElem? eu)
    refine ⟨_, rfl, t, _, 1, .str st.near, rfl, rfl, SqT.of o7, aO (j := 1) rfl, _, rfl, rfl, _, rfl, ?_⟩
    rw [pF]
    refine jR (fun c1 => ?_) (fun c1 => ?_)
    ·have e1 : st.near = u := of_decide_eq_true c1
     refine ⟨_, rfl, t, _, 2, .str st.far, rfl, rfl, SqT.of o7, aO (j := 2) rfl, _, rfl, d, _, rfl, .inl ⟨kvs7, Sum.inr st.far, .inl hd7, rfl, rfl⟩, _, rfl, ?_⟩
     by_cases hk : st.far ∈ keys (cm ++ more)
     ·rw [ck7.some hk]
      refine bG ⟨_, more, kvs7, rfl, S7, hd7, ck7, c7, sub7, hw7, op7, fun s m en => ?_⟩
      rw [et] at m
      rcases List.mem_append.mp m with m | m
      ·exact cl7 s m en
      ·rw [List.mem_singleton.mp m]; exact hk
     ·have hno := ck7.none hk
      rw [hno]
      refine cA ?_
      have lkv : kvs7.length < sizeLine := by rw [ck7.len]; omega
      refine ⟨_, rfl, _, rfl, _, rfl, t, _, 2, .str st.far, rfl, rfl, SqT.of o7, aO (j := 2) rfl, d, _, rfl, .inl ⟨kvs7, Sum.inr st.far, hd7, rfl, lkv, rfl⟩, ?_⟩
      rw [aGN _ hno]
      have KT1 : gR H7 (upd H7 d (.dK (kvs7 ++ [(Sum.inr st.far, .ref t)]))) := fun b ys e => by
       rw [aQ (fun eb => by rw [eb, hd7] at e; cases e)]
       exact e
      have hw8 : upd H7 d (.dK (kvs7 ++ [(Sum.inr st.far, .ref t)])) lw = some (.lst (((keys (cm ++ more)).drop (p + 1)).map V.str)) := by rw [aQ (Ne.symm ndw)]; exact hw7
      have o8 : upd H7 d (.dK (kvs7 ++ [(Sum.inr st.far, .ref t)])) t = some (.tup [.str st.nm, .str st.near, .str st.far, .int st.h]) := KT1 _ _ o7
      have hd8 : upd H7 d (.dK (kvs7 ++ [(Sum.inr st.far, .ref t)])) d = some (.dK (kvs7 ++ [(Sum.inr st.far, .ref t)])) := aE
      have S8 : aI H (upd H7 d (.dK (kvs7 ++ [(Sum.inr st.far, .ref t)]))) := S7.over hd0
      have ck8 := ck7.keep KT1
      generalize upd H7 d (.dK (kvs7 ++ [(Sum.inr st.far, .ref t)])) = H8 at hw8 o8 hd8 S8 ck8
      refine ⟨_, rfl, .inl ⟨rfl, _, SqL.of hw8⟩, _, rfl, t, _, 2, .str st.far, rfl, rfl, SqT.of o8, aO (j := 2) rfl, lw, _, .str st.far, rfl, rfl, hw8, by omega, ?_⟩
      have KT2 := gR.lst (o := .lst (((keys (cm ++ more)).drop (p + 1)).map V.str ++ [.str st.far])) hw8
      have c9 := c7.snoc ms (by rw [e1]; exact uk) hk
      rw [List.append_assoc] at c9
      have kk : keys (cm ++ (more ++ [(st.far, some st)])) = keys (cm ++ more) ++ [st.far] := by rw [← List.append_assoc, kT]; rfl
      refine ⟨_, more ++ [(st.far, some st)], kvs7 ++ [(Sum.inr st.far, .ref t)], rfl, S8.over hlw0, by rw [aQ ndw]; exact hd8, ?_, c9, ?_, ?_, ?_, ?_⟩
      ·rw [← List.append_assoc]
       have ck9 := ck8.keep KT2
       refine ⟨by rw [List.length_append, List.length_append, ck9.len]; rfl, fun i z o' e => ?_⟩
       by_cases hi : i < (cm ++ more).length
       ·rw [List.getElem?_append_left hi] at e
        obtain ⟨v, ev, cv⟩ := ck9.at' i z o' e
        exact ⟨v, by rw [List.getElem?_append_left (by rw [ck9.len]; exact hi)]; exact ev, cv⟩
       ·have hle := (List.getElem?_eq_some_iff.mp e).1
        rw [List.length_append] at hle
        have h1' : ([(st.far, some st)] : Cm).length = 1 := rfl
        have hie : i = (cm ++ more).length := by omega
        subst hie
        rw [List.getElem?_append_right (Nat.le_refl _), Nat.sub_self] at e
        cases e
        refine ⟨.ref t, by rw [List.getElem?_append_right (by rw [ck9.len]; exact Nat.le_refl _), ck9.len, Nat.sub_self]; rfl, ?_⟩
        exact ⟨t, _, rfl, KT2 _ _ o8, _, _, rfl, rfl, _, _, rfl, rfl, _, _, rfl, rfl, _, _, rfl, rfl, rfl⟩
      ·intro z m
       rw [kk] at m
       rcases List.mem_append.mp m with m | m
       ·exact sub7 z m
       ·rw [List.mem_singleton.mp m]; exact farV st ms
      ·rw [aE, kk, List.drop_append_of_le_length (by rw [kl7, List.length_append]; omega), List.map_append]
       rfl
      ·rw [← List.append_assoc]
       exact op7.snoc (by rw [List.length_append]; omega) _
      ·intro s m en
       rw [kk]
       rw [et] at m
       rcases List.mem_append.mp m with m | m
       ·exact List.mem_append_left _ (cl7 s m en)
       ·rw [List.mem_singleton.mp m]; exact List.mem_append_right _ (List.mem_singleton.mpr rfl)
    ·refine ⟨_, more, kvs7, rfl, S7, hd7, ck7, c7, sub7, hw7, op7, fun s m en => ?_⟩
     rw [et] at m
     rcases List.mem_append.mp m with m | m
     ·exact cl7 s m en
     ·rw [List.mem_singleton.mp m] at en
      exact absurd (decide_eq_true en) c1
   ·rintro σ H7 ⟨w5, more, kvs7, rfl, S7, hd7, ck7, c7, sub7, hw7, op7, cl7⟩
    rw [List.take_of_length_le (by omega)] at cl7
    have l7 := lcm _ c7 sub7
    have kl7 : (keys (cm ++ more)).length = (cm ++ more).length := by unfold keys; rw [List.length_map]
    have ca : (cm ++ more).length = cm.length + more.length := List.length_append
    refine ⟨⟨_, _, p + 1, cm ++ more, kvs7, rfl, S7, hd7, ck7, c7, sub7, by omega, hw7, fun i u' hi e s ms en => ?_⟩, ?_⟩
    ·by_cases hip : i < p
     ·exact op7 i u' hip e s ms en
     ·have hie : i = p := by omega
      subst hie
      rw [kT, List.getElem?_append_left (by omega), eu] at e
      cases e
      exact cl7 s ms en
    ·rw [hd7, hw7, hd5, hw5]
     dsimp only
     rw [ck7.len, ck.len, List.length_map, List.length_map, List.length_drop, List.length_cons, List.length_drop]
     omega
  ·have hpe : p = cm.length := by omega
   subst hpe
   rw [show (keys cm).drop cm.length = [] from List.drop_eq_nil_of_le (by omega)]
   refine bG ⟨_, rfl, q d cm kvs H5 S5 hd0 hd5 ck c op l13⟩
 ·intro σ H Q Q' h hc
  obtain ⟨v, e, p, xs, e2, hq, q⟩ := hc
  exact ⟨v, e, p, xs, e2, hq, h _ _ q⟩
open Mt53 Mt22 MtF Mt31 Mt61
theorem vT {f : Gap → V} : ∀ {G : List Gap} {g : Gap}, (G.map (·.nm)).Nodup → g ∈ G → fS (G.map fun g => ((Sum.inr g.nm : Key), f g)) (Sum.inr g.nm) = some (f g)
 | e :: G, g, nd, m => by
  rw [List.map_cons] at nd ⊢
  rw [List.nodup_cons] at nd
  rcases List.mem_cons.mp m with rfl | m
  ·exact lX rfl
  ·rw [lY (fun c => nd.1 (by rw [Sum.inr.inj c]; exact List.mem_map.mpr ⟨g, m, rfl⟩))]
   exact vT nd.2 m
def dX (G : List Gap) (f : Fl) : List (Key × V) := G.map fun g => (Sum.inr g.nm, V.int (f g.nm))
theorem oV {H H' : Hp} {a : Addr} {u : HO} (r : Rd H a u) (S : aI H H') : Rd H' a u := by
 rcases r with h | ⟨o, h⟩
 ·exact .inl (S _ _ h)
 ·exact .inr ⟨o, S _ _ h⟩
theorem oP {G : List Gap} {s : Mt22.St} (m : s ∈ Mt61.stepsOf G) : ∃ g ∈ G, g.nm = s.nm ∧ (s.h = 1 ∨ s.h = -1) := by
 obtain ⟨g, mg, e⟩ := iZ.mp m
 rcases e with rfl | rfl
 ·exact ⟨g, mg, rfl, .inl rfl⟩
 ·exact ⟨g, mg, rfl, .inr rfl⟩
def aAS : Sp := sp3 fun x y u H Q => ∃ (dm de : Addr) (V0 : List Str) (G : List Gap) (f : Fl) (s : Mt22.St), Is H (bS s) x ∧ s ∈ Mt61.stepsOf G ∧ Gaps V0 G ∧ y = .ref dm ∧ Rd H dm (.dK (dP G)) ∧ u = .ref de ∧ Rd H de (.dK (dX G f)) ∧ Q (.int (Mt61.room G f s)) H
theorem vM (T : Txt K mg C) : Fc P w K mg base 1 "room" ["step", "most", "stream"] aAS := by
 refine T.d_p_room.fc aED pW (fun f cdv A outer s H vs Q E hr h => ?_)
 obtain ⟨x, y, u, rfl, dm, de, V0, G, fl, st, hx, ms, GG, rfl, hm, rfl, he, q⟩ := h
 have hu := oA hr
 obtain ⟨t, rfl, o⟩ := kI hx
 obtain ⟨g, mg', en, hh⟩ := oP ms
 have v1 : fS (dP G) (Sum.inr st.nm) = some (.int g.cap) := by rw [← en]; exact vT (f := fun g => V.int g.cap) GG.nd mg'
 have v2 : fS (dX G fl) (Sum.inr st.nm) = some (.int (fl st.nm)) := by rw [← en]; exact vT (f := fun g => V.int (fl g.nm)) GG.nd mg'
 refine ⟨_, (aH (@aS _ _ _ _ (@aK _ _ _ _ _ _ _ _ gF (@jW _ _ _ _ _ _ hu (pv 1) (@bC _ _ _ _ _ _ _ (@aW _ (K) rfl) (pv 0) aF (fun _ _ => rfl)) (fun _ _ => rfl)) (@aK _ _ _ _ _ _ _ _ gG (@bC _ _ _ _ _ _ _ (@aW _ (K) rfl) (pv 0) aF (fun _ _ => rfl)) (@jW _ _ _ _ _ _ hu (pv 2) (@bC _ _ _ _ _ _ _ (@aW _ (K) rfl) (pv 0) aF (fun _ _ => rfl)) (fun _ _ => rfl)))))), ?_⟩
 refine ⟨_, rfl, _, rfl, t, _, 0, .str st.nm, rfl, rfl, SqT.of o, aO (j := 0) rfl, dm, _, rfl, .inl ⟨_, Sum.inr st.nm, hm, rfl, v1.symm⟩, ?_⟩
 refine ⟨_, rfl, t, _, 3, .int st.h, rfl, rfl, SqT.of o, aO (j := 3) rfl, _, rfl, _, rfl, t, _, 0, .str st.nm, rfl, rfl, SqT.of o, aO (j := 0) rfl, de, _, rfl, .inl ⟨_, Sum.inr st.nm, he, rfl, v2.symm⟩, ?_⟩
 refine ⟨_, _, rfl, rfl, .inl (by rcases hh with h | h <;> rw [h] <;> exact ⟨by decide, by decide⟩), _, _, rfl, rfl, ?_⟩
 have e : Mt61.room G fl st = g.cap - st.h * fl st.nm := by
  unfold Mt61.room
  rw [← en, mZ GG mg']
 rw [e] at q
 exact q
def tW (G : List Gap) (f : Fl) : List Mt22.St := (Mt61.stepsOf G).filter fun s => decide (0 < Mt61.room G f s)
theorem aDR {V0 : List Str} {G : List Gap} (GG : Gaps V0 G) {s : Mt22.St} (m : s ∈ Mt61.stepsOf G) : s.near ∈ V0 ∧ s.far ∈ V0 := by
 obtain ⟨g, mg, e⟩ := iZ.mp m
 obtain ⟨ha, hb, _⟩ := GG.ends g mg
 rcases e with rfl | rfl
 ·exact ⟨ha, hb⟩
 ·exact ⟨hb, ha⟩
def pJ : Sp := sp3 fun x y u H Q => ∃ (l dm de : Addr) (us : List V) (V0 : List Str) (G : List Gap) (f : Fl), x = .ref l ∧ H l = some (.lst us) ∧ IsL H ((Mt61.stepsOf G).map bS) us ∧ G.length ≤ 40 ∧ V0.length ≤ 13 ∧ Gaps V0 G ∧ y = .ref dm ∧ Rd H dm (.dK (dP G)) ∧ u = .ref de ∧ Rd H de (.dK (dX G f)) ∧
 ∀ (d : Addr) (cm : Cm) (kvs : List (Key × V)) (H' : Hp), aI H H' → H d = none → H' d = some (.dK kvs) → CamKV H' kvs cm → CameG [Mt22.sea] (tW G f) cm → rH (tW G f) cm cm.length → cm.length ≤ 13 → Q (.ref d) H'
theorem pA (T : Txt K mg C) : Fc P w K mg base 2 "reached" ["steps", "most", "stream"] pJ := by
 have G_p_room : Fc P w K mg base 1 "room" ["step", "most", "stream"] aAS := vM T
 have G_p_spread : Fc P w K mg base 1 "spread" ["starts", "steps"] pI := qN T
 refine T.d_p_reached.fc xA pW (fun f cdv A outer s H vs Q E hr h => ?_)
 obtain ⟨x, y, u, rfl, l, dm, de, us, V0, G, fl, rfl, hl, ius, g40, v13, GG, rfl, hm, rfl, he, q⟩ := h
 have big := bY
 have lus := ius.length
 have sl := nH G
 rw [List.length_map, sl] at lus
 refine ⟨_, (aH (@aS _ _ _ _ (@bD _ _ _ _ _ _ _ _ _ _ G_p_spread (hr.mono (by decide)) (aA (@cG _ _ _ _ (aA (@sR _ _ _ _ T.g_SEA (by rfl) (by decide)) aB)) (aA (@bX _ _ _ _ _ _ _ _ _ _ _ ["step", "most", "stream"] 1 [1, 2] rfl (@bM _ _ _ _ (pv 0)) (fun R => @aP _ _ (0) _ (show List.Nodup (["step", "most", "stream"] : List Str) by decide +kernel) rfl (Or.inl rfl) (by trivial)) (@aX _ _ (by decide)) (fun R => @dO _ _ _ (@bI _ _ _ _ _ _ _ _ aGY (@bD _ _ _ _ _ _ _ _ _ _ G_p_room (hr.mono (by decide)) (aA (pv 0) (aA (pv 1) (aA (pv 2) aB))) (by rfl) (by decide) (by rfl) (by rfl)) aF (@bO _ _ (by decide) (by decide)))) (fun R => (pv 0)) (by rfl) (by rfl) (by rfl) (by rfl) (by rfl) (by rfl) (by rfl) (by intro _; rfl)) aB)) (by rfl) (by decide) (by rfl) (by rfl)))), ?_⟩
 refine ⟨aN rfl, fun l1 h1 => ?_⟩
 have S1 := aI.upd (o := .lst [.str "sea"]) h1
 have r1 : upd H l1 (.lst [.str "sea"]) l1 = some (.lst (([Mt22.sea] : List Str).map V.str)) := aE
 generalize upd H l1 (.lst [.str "sea"]) = H1 at S1 r1
 refine ⟨_, rfl, l, rfl, ⟨_, SqL.of (S1 _ _ hl)⟩, ?_⟩
 refine bF (F := K) (xs := us) (by omega) (fun i ys H' => H1 = H' ∧ IsL H' ((((Mt61.stepsOf G).take i).filter fun s => decide (0 < Mt61.room G fl s)).map bS) ys) ⟨rfl, rfl⟩ ?_ ?_ ?_
 ·rintro i ys H' hi ⟨rfl, iy⟩
  refine ⟨SqL.of (S1 _ _ hl), ?_⟩
  have := iy.length
  have := List.length_filter_le (fun s => decide (0 < Mt61.room G fl s)) ((Mt61.stepsOf G).take i)
  rw [List.length_take] at this
  rw [List.length_map] at *
  omega
 ·rintro i xv ys H' K1 K2 hx' ⟨rfl, iy⟩ k1 k2
  have hil : i < us.length := (List.getElem?_eq_some_iff.mp hx').1
  obtain ⟨st, es⟩ : ∃ st, (Mt61.stepsOf G)[i]? = some st := ⟨_, List.getElem?_eq_getElem (by omega)⟩
  obtain ⟨v, ev, iv⟩ := (IsL.same S1 _ _ ius).get (show ((Mt61.stepsOf G).map bS)[i]? = some (bS st) by rw [List.getElem?_map, es]; rfl)
  rw [hx'] at ev
  cases ev
  refine ⟨_, rfl, _, rfl, _, rfl, _, _, _, rfl, dm, de, V0, G, fl, st, iv, List.mem_of_getElem? es, GG, rfl, oV hm S1, rfl, oV he S1, _, _, rfl, rfl, _, rfl, ?_⟩
  have et : ((Mt61.stepsOf G).take (i + 1)).filter (fun s => decide (0 < Mt61.room G fl s)) = ((Mt61.stepsOf G).take i).filter (fun s => decide (0 < Mt61.room G fl s)) ++ (if decide (0 < Mt61.room G fl st) = true then [st] else []) := by
   rw [List.take_add_one, es, List.filter_append]
   cases h : decide (0 < Mt61.room G fl st) <;> simp [h]
   all_goals simpa using h
  cases hg : decide (0 < Mt61.room G fl st) with
  | false =>
   rw [hg] at et
   refine bG (k2 _ ⟨rfl, ?_⟩)
   rw [et]
   simpa using iy
  | true =>
   rw [hg] at et
   refine cA ⟨_, rfl, k1 _ _ ⟨rfl, ?_⟩⟩
   rw [et, if_pos rfl, List.map_append]
   exact IsL.snoc iv iy
 rintro ys H2 ⟨rfl, iy⟩
 rw [List.take_of_length_le (by omega)] at iy
 intro l2 h2
 have S2 := aI.upd (o := .lst ys) h2
 refine ⟨_, _, rfl, l1, l2, ys, tW G fl, [Mt22.sea], V0, rfl, rfl, by simp, (fun z m => by rw [List.mem_singleton.mp m]; exact GG.sea), S2 _ _ r1, aE, IsL.same S2 _ _ iy, ?_, v13, fun s m => (aDR GG (List.mem_filter.mp m).1).2, fun d cm kvs H' S3 nd hd ck cg op l13 => ?_⟩
 ·have := List.length_filter_le (fun s => decide (0 < Mt61.room G fl s)) (Mt61.stepsOf G)
  unfold tW
  omega
 ·exact q d cm kvs H' (S1.trans (S2.trans S3)) ((S1.trans S2).free nd) hd ck cg op l13
open Mt53 Mt22 MtF Mt31 Mt61
def aFY : Sp := sp2 fun x y H Q => ∃ (d : Addr) (kvs : List (Key × V)) (cm : Cm) (S : List Mt22.St) (side : Str), x = .ref d ∧ y = .str side ∧ Rd H d (.dK kvs) ∧ CamKV H kvs cm ∧ Came S cm ∧ cm.length ≤ 13 ∧ side ∈ keys cm ∧
 ∀ (l : Addr) (us : List V) (ss : List Mt22.St) (H' : Hp), aI H H' → H l = none → H' l = some (.lst us) → IsL H' (ss.map bS) us → Chain S ss side → ss.length ≤ 13 → Q (.ref l) H'
theorem aHH {cm : Cm} {z : Str} (m : z ∈ keys cm) : ∃ (i : Nat) (o : Option Mt22.St), cm[i]? = some (z, o) := by
 obtain ⟨i, hi⟩ := List.mem_iff_getElem?.mp m
 unfold keys at hi
 rw [List.getElem?_map] at hi
 cases e : cm[i]? with
 | none => rw [e] at hi; cases hi
 | some x =>
  rw [e] at hi
  obtain ⟨a, o⟩ := x
  cases hi
  exact ⟨i, o, e⟩
theorem xK (T : Txt K mg C) : Fc P w K mg base 1 "path_to" ["came", "side"] aFY := by
 refine T.d_p_path_to.fc iR jM (fun f cdv A outer s H vs Q E hr h => ?_)
 obtain ⟨x, y, rfl, d, kvs, cm, S, side, rfl, rfl, hd, ck, c, l13, ms, q⟩ := h
 have big := bY
 have hu := oA hr
 obtain ⟨j0, o0, e0⟩ := aHH ms
 obtain ⟨v0, ev0, cv0⟩ := ck.val c e0
 have hj0 := (List.getElem?_eq_some_iff.mp e0).1
 refine ⟨_, (aG (@aY _ _ (2) _ _ _ _ iR.nd rfl (Or.inl rfl) (@cG _ _ _ _ aB) (by rfl) (by trivial)) (aG (@aY _ _ (3) _ _ _ _ iR.nd rfl (Or.inl rfl) (@jW _ _ _ _ _ _ hu (pv 0) (pv 1) (fun _ _ => rfl)) (by rfl) (by trivial)) (aG (@sP _ _ _ _ _ _ PassesOwn.never (@bI _ _ _ _ _ _ _ _ aDF (pv 3) jJ (@bO _ _ (by decide) (by decide))) (aG (@fQ _ _ _ _ (@lQ _ _ _ _ _ _ _ _ _ _ _ _ PySem.F.plainAttrs_list PySem.F.slot_list_append PySem.F.type_list_append eM (pv 2) (aA (pv 3) aB) (by rfl) (by rfl) (by rfl) (by rfl) (by rfl)) (by rfl)) (aH (@aY _ _ (3) _ _ _ _ iR.nd rfl (Or.inl rfl) (@jW _ _ _ _ _ _ hu (pv 0) (@bC _ _ _ _ _ _ _ (@aW _ (K) rfl) (pv 3) aF (fun _ _ => rfl)) (fun _ _ => rfl)) (by rfl) (by trivial))))) (aH (@aS _ _ _ _ (sQ rfl rfl T.n_list rfl T.n_reversed (aA (pv 2) aB))))))), ?_⟩
 refine ⟨aN rfl, fun lp hlp => ?_⟩
 have S1 := aI.upd (o := .lst []) hlp
 have h1 : upd H lp (.lst []) lp = some (.lst []) := aE
 generalize upd H lp (.lst []) = H1 at S1 h1
 refine ⟨_, rfl, _, rfl, d, v0, rfl, .inl ⟨kvs, Sum.inr side, oV hd S1, rfl, ev0.symm⟩, ?_⟩
 refine rS (fun σ H' => ∃ (j : Nat) (z : Str) (o : Option Mt22.St) (v : V) (ps : List Mt22.St) (us : List V), σ = [some (.ref d), some (.str side), some (.ref lp), some v] ∧ aI H H' ∧ H' lp = some (.lst us) ∧ IsL H' (ps.map bS) us ∧ cm[j]? = some (z, o) ∧ CV H' o v ∧ aLR S cm j z ps.reverse side ∧ ps.length + j < cm.length)
  (fun _ H' => match H' lp with | some (.lst us) => 14 - us.length | _ => 0) ⟨j0, side, o0, v0, [], [], rfl, S1, h1, rfl, e0, cv0.same S1, (fun ss ch _ => by rw [List.reverse_nil, List.append_nil]; exact ch), by show 0 + j0 < _; omega⟩ ?_ ?_
 ·rintro σ H2 ⟨j, z, o, v, ps, us, rfl, S2, h2, ius, ej, cv, tl, lj⟩
  have lus := ius.length
  rw [List.length_map] at lus
  refine ⟨_, rfl, rfl, _, rfl, ?_⟩
  cases o with
  | none =>
   have hv : v = .non := cv
   subst hv
   have hj : j = 0 := by
    cases j with
    | zero => rfl
    | succ j =>
     obtain ⟨s', h', _⟩ := c.prev (j + 1) z none (by omega) ej
     cases h'
   subst hj
   have hz : z = Mt22.sea := by
    have := c.first
    rw [ej] at this
    cases this
    rfl
   subst hz
   have ch := tl [] .nil (fun y m => by cases m)
   rw [List.nil_append] at ch
   rw [decide_eq_true rfl]
   refine bG ⟨_, rfl, lp, us, rfl, SqL.of h2, fun l hl => ?_⟩
   refine q l us.reverse ps.reverse _ (S2.trans (aI.upd hl)) (S2.free hl) aE ?_ ch (by rw [List.length_reverse]; omega)
   rw [List.map_reverse]
   exact IsL.rev (IsL.same (aI.upd hl) _ _ ius)
  | some s =>
   obtain ⟨t, rfl, ot⟩ := kI cv
   have hj : 0 < j := by
    cases j with
    | zero =>
     have := c.first
     rw [ej] at this
     cases this
    | succ j => omega
   obtain ⟨s', es', mS, hf, hn⟩ := c.prev j z (some s) hj ej
   cases es'
   obtain ⟨i, oi, ei⟩ := aHH hn
   have hil := (List.getElem?_eq_some_iff.mp ei).1
   rw [List.length_take] at hil
   have hij : i < j := by omega
   rw [List.getElem?_take_of_lt hij] at ei
   obtain ⟨v', ev', cv'⟩ := ck.val c ei
   have ki : (keys cm)[i]? = some s.near := by unfold keys; rw [List.getElem?_map, ei]; rfl
   have hne : (!decide (V.ref t = V.non)) = true := by rw [decide_eq_false (by intro c; cases c)]; rfl
   rw [hne]
   refine cA ?_
   refine ⟨_, rfl, .inl ⟨rfl, _, SqL.of h2⟩, _, rfl, lp, us, .ref t, rfl, rfl, h2, by omega, ?_⟩
   have KT := gR.lst (o := .lst (us ++ [.ref t])) h2
   have S3 : aI H (upd H2 lp (.lst (us ++ [.ref t]))) := S2.over hlp
   refine ⟨_, rfl, _, rfl, t, _, 1, .str s.near, rfl, rfl, SqT.of (KT _ _ ot), aO (j := 1) rfl, d, v', rfl, .inl ⟨kvs, Sum.inr s.near, oV hd S3, rfl, ev'.symm⟩, ?_⟩
   refine ⟨⟨i, s.near, oi, v', ps ++ [s], us ++ [.ref t], rfl, S3, aE, ?_, ei, cv'.same S3, ?_, by rw [List.length_append]; show _ + 1 + _ < _; omega⟩, ?_⟩
   ·refine IsL.keep KT _ _ (fA fun d m => ?_) ?_
    ·obtain ⟨s, _, rfl⟩ := List.mem_map.mp m
     exact fU s
    ·rw [List.map_append]
     exact IsL.snoc (d := bS s) (v := .ref t) cv ius
   ·rw [List.reverse_append]
    exact aDY c ej mS hf hij ki tl
   ·rw [h2, aE]
    dsimp only
    rw [List.length_append]
    show 14 - (us.length + 1) < 14 - us.length
    omega
 ·intro σ H Q Q' h hc
  obtain ⟨v, e, hq, k, e2, q⟩ := hc
  exact ⟨v, e, hq, k, e2, h _ _ q⟩
theorem aFC {S ss : List Mt22.St} {z : Str} (c : Chain S ss z) : ss = [] → z = Mt22.sea := by
 induction c with
 | nil => intro _; rfl
 | snoc c m n ih => intro e; simp at e
def aII (G : List Gap) (f : Fl) (ws : List Str) : Prop := ∃ cm : Cm, CameG [Mt22.sea] (tW G f) cm ∧ rH (tW G f) cm cm.length ∧ ∀ z ∈ ws, z ∉ keys cm
def aNO (G : List Gap) (f : Fl) (ws : List Str) (ss : List Mt22.St) : Prop := (ss = [] ∧ aII G f ws) ∨ ∃ z, Chain (tW G f) ss z ∧ z ∈ ws ∧ ss ≠ [] ∧ ss.length ≤ 13
def wR : Sp := fun vs H Q _ => ∃ (x y u v : V) (l dm de lw : Addr) (us : List V) (V0 : List Str) (G : List Gap) (f : Fl) (ws : List Str), vs = [x, y, u, v] ∧ x = .ref l ∧ H l = some (.lst us) ∧ IsL H ((Mt61.stepsOf G).map bS) us ∧ G.length ≤ 40 ∧ V0.length ≤ 13 ∧ Gaps V0 G ∧ y = .ref dm ∧ Rd H dm (.dK (dP G)) ∧ u = .ref de ∧ Rd H de (.dK (dX G f)) ∧ v = .ref lw ∧ H lw = some (.lst (ws.map V.str)) ∧ Mt22.sea ∉ ws ∧
 ∀ (lp : Addr) (us : List V) (ss : List Mt22.St) (H' : Hp), aI H H' → H lp = none → H' lp = some (.lst us) → IsL H' (ss.map bS) us → aNO G f ws ss → Q (.ref lp) H'
theorem aMW : ∀ vs H Q E, wR vs H Q E → vs.length = 4 := fun vs H Q E ⟨x, y, u, v, l, dm, de, lw, us, V0, G, f, ws, e, _⟩ => by rw [e]; rfl
theorem nV (T : Txt K mg C) : Fc P w K mg base 3 "path_with_room" ["steps", "most", "stream", "fields"] wR := by
 have G_p_reached : Fc P w K mg base 2 "reached" ["steps", "most", "stream"] pJ := pA T
 have G_p_path_to : Fc P w K mg base 1 "path_to" ["came", "side"] aFY := xK T
 refine T.d_p_path_with_room.fc fD aMW (fun f cdv A outer s H vs Q E hr h => ?_)
 obtain ⟨x, y, u, v, l, dm, de, lw, us, V0, G, fl, ws, rfl, rfl, hl, ius, g40, v13, GG, rfl, hm, rfl, he, rfl, hlw, ns, q⟩ := h
 have big := bY
 have hu := oA hr
 refine ⟨_, (aG (@aY _ _ (4) _ _ _ _ fD.nd rfl (Or.inl rfl) (@bD _ _ _ _ _ _ _ _ _ _ G_p_reached (hr.mono (by decide)) (aA (pv 0) (aA (pv 1) (aA (pv 2) aB))) (by rfl) (by decide) (by rfl) (by rfl)) (by rfl) (by trivial)) (aG (@fT _ (5) _ _ _ _ _ _ _ _ _ _ _ _ _ fD.nd rfl ["side", "fields"] 1 [3] rfl (@xI _ _ _ _ (pv 4)) (fun R => @aP _ _ (0) _ (show List.Nodup (["side", "fields"] : List Str) by decide +kernel) rfl (Or.inl rfl) (by trivial)) (@aX _ _ (by decide)) (fun R => @dO _ _ _ (@bI _ _ _ _ _ _ _ _ (@dZ _ (K) rfl) (pv 0) (pv 1) (by with_unfolding_all rfl))) (fun R => (pv 0)) (by exact Or.inl rfl) (by trivial) (by rfl) (by rfl) (by rfl) (by rfl) (by rfl) (by rfl) (by rfl) (by rfl) (by intro _; rfl)) (aH (@aS _ _ _ _ (@aGT _ _ _ _ _ _ _ _ (aBB (pv 5)) (@bD _ _ _ _ _ _ _ _ _ _ G_p_path_to (hr.mono (by decide)) (aA (pv 4) (aA (@bC _ _ _ _ _ _ _ (@cO _ (K) rfl) (pv 5) aF (fun _ _ => rfl)) aB)) (by rfl) (by decide) (by rfl) (by rfl)) (@cG _ _ _ _ aB)))))), ?_⟩
 refine ⟨_, rfl, _, rfl, _, rfl, _, _, _, rfl, l, dm, de, us, V0, G, fl, rfl, hl, ius, g40, v13, GG, rfl, hm, rfl, he, fun d cm kvs H1 S1 nd hd ck cg op l13 => ?_⟩
 refine ⟨_, rfl, d, kvs, rfl, hd, fun o => ?_⟩
 have SF : aI H (upd H1 d (.frz o (.dK kvs))) := S1.over nd
 have KF : gR H1 (upd H1 d (.frz o (.dK kvs))) := fun b ys e => by
  rw [aQ (fun c => by rw [c, hd] at e; cases e)]
  exact e
 have ckF := ck.keep KF
 have dF : upd H1 d (.frz o (.dK kvs)) d = some (.frz o (.dK kvs)) := aE
 generalize upd H1 d (.frz o (.dK kvs)) = H2 at SF ckF dF
 have lk : kvs.length = cm.length := ck.len
 have hlw2 := SF _ _ hlw
 refine qH (by omega) (fun i ys H' => H2 = H' ∧ ys = (((keys cm).take i).filter fun z => decide (z ∈ ws)).map V.str) ⟨rfl, rfl⟩ ?_ ?_ ?_
 ·rintro i ys H' hi ⟨rfl, rfl⟩
  refine ⟨dF, ?_⟩
  have := List.length_filter_le (fun z => decide (z ∈ ws)) ((keys cm).take i)
  rw [List.length_take] at this
  rw [List.length_map]
  omega
 ·rintro i kv ys H' K1 K2 hk ⟨rfl, rfl⟩ k1 k2
  have hil := (List.getElem?_eq_some_iff.mp hk).1
  obtain ⟨⟨z, oo⟩, ez⟩ : ∃ x, cm[i]? = some x := ⟨_, List.getElem?_eq_getElem (by omega)⟩
  obtain ⟨vv, ev, _⟩ := ckF.at' i z oo ez
  rw [hk] at ev
  cases ev
  have kz : (keys cm)[i]? = some z := by unfold keys; rw [List.getElem?_map, ez]; rfl
  refine ⟨_, rfl, _, rfl, lw, _, rfl, .inl (SqL.of hlw2), rfl, dW ws, _, rfl, ?_⟩
  show (if inV (V.str z) (ws.map V.str) = true then _ else _)
  rw [gJ]
  have et : ((keys cm).take (i + 1)).filter (fun z => decide (z ∈ ws)) = ((keys cm).take i).filter (fun z => decide (z ∈ ws)) ++ (if decide (z ∈ ws) = true then [z] else []) := by
   rw [List.take_add_one, kz, List.filter_append]
   cases h : decide (z ∈ ws) <;> simp [h]
   all_goals simpa using h
  cases hg : decide (z ∈ ws) with
  | false =>
   rw [hg] at et
   refine bG (k2 _ ⟨rfl, ?_⟩)
   rw [et]
   simp
  | true =>
   rw [hg] at et
   refine cA ⟨_, rfl, k1 _ _ ⟨rfl, ?_⟩⟩
   rw [et, if_pos rfl, List.map_append]
   rfl
 rintro ys H3 ⟨rfl, rfl⟩
 rw [List.take_of_length_le (by unfold keys; rw [List.length_map]; omega)]
 intro le hle
 have S3 := aI.upd (o := .lst (((keys cm).filter fun z => decide (z ∈ ws)).map V.str)) hle
 have r3 : upd H2 le (.lst (((keys cm).filter fun z => decide (z ∈ ws)).map V.str)) le = some (.lst (((keys cm).filter fun z => decide (z ∈ ws)).map V.str)) := aE
 have T3 := SF.trans S3
 have ck3 := ckF.same S3
 have d3 := S3 _ _ dF
 generalize upd H2 le (.lst (((keys cm).filter fun z => decide (z ∈ ws)).map V.str)) = H3 at S3 r3 T3 ck3 d3
 refine ⟨_, rfl, le, _, rfl, SqL.of r3, ?_⟩
 cases ef : (keys cm).filter fun z => decide (z ∈ ws) with
 | nil =>
  refine bG ⟨aN rfl, fun lp hlp => ?_⟩
  refine q lp [] [] _ (T3.trans (aI.upd hlp)) (T3.free hlp) aE rfl (.inl ⟨rfl, cm, cg, op, fun z mz mk => ?_⟩)
  have : z ∈ (keys cm).filter fun z => decide (z ∈ ws) := List.mem_filter.mpr ⟨mk, decide_eq_true mz⟩
  rw [ef] at this
  cases this
 | cons z zr =>
  have mz : z ∈ (keys cm).filter fun z => decide (z ∈ ws) := by rw [ef]; exact List.mem_cons_self
  rw [List.mem_filter] at mz
  have zw : z ∈ ws := of_decide_eq_true mz.2
  rw [ef] at r3
  refine cA ?_
  refine ⟨_, rfl, _, rfl, le, _, 0, .str z, rfl, rfl, SqL.of r3, aO (j := 0) rfl, _, _, rfl, d, kvs, cm, tW G fl, z, rfl, rfl, .inr ⟨o, d3⟩, ck3, cg.came, l13, mz.1, fun lp us' ss H4 S4 nlp hlp iss ch s13 => ?_⟩
  refine q lp us' ss H4 (T3.trans S4) (T3.free nlp) hlp iss (.inr ⟨z, ch, zw, fun e => ?_, s13⟩)
  have := aFC ch e
  rw [this] at zw
  exact ns zw
open Mt53 Mt22 MtF Mt31 Mt61
def aHU (kvs : List (Key × V)) : Fl := fun n => match fS kvs (Sum.inr n) with
 | some (.int i) => i
 | _ => 0
theorem iX {H : Hp} {ds : List Dv} {us : List V} (h : IsL H ds us) : ds.length = us.length := by have := h.length; omega
theorem aDQ {G : List Gap} (nd : (G.map (·.nm)).Nodup) (f : Fl) {g : Gap} (m : g ∈ G) : aHU (dX G f) g.nm = f g.nm := by
 unfold aHU
 rw [show fS (dX G f) (Sum.inr g.nm) = some (.int (f g.nm)) from vT (f := fun g => V.int (f g.nm)) nd m]
theorem uW {G : List Gap} {f f' : Fl} (h : ∀ g ∈ G, f g.nm = f' g.nm) : val G f = val G f' := by
 unfold val net
 rw [eC fun g m => show zM f Mt22.sea g = zM f' Mt22.sea g by unfold zM; rw [h g m]]
theorem aHS {G : List Gap} {f : Fl} {n : Str} {x : Int} (m : n ∈ G.map (·.nm)) : nU (dX G f) (Sum.inr n) (.int x) = dX G (fun k => if k = n then x else f k) := by
 unfold nU
 have ha : ((dX G f).any fun kv => decide (kv.1 = (Sum.inr n : Key))) = true := by
  obtain ⟨g, mg, e⟩ := List.mem_map.mp m
  refine List.any_eq_true.mpr ⟨_, List.mem_map.mpr ⟨g, mg, rfl⟩, ?_⟩
  rw [← e]
  exact decide_eq_true rfl
 rw [if_pos ha]
 unfold dX
 rw [List.map_map]
 refine List.map_congr_left fun g _ => ?_
 show (if (Sum.inr g.nm : Key) = Sum.inr n then ((Sum.inr g.nm : Key), V.int x) else (Sum.inr g.nm, V.int (f g.nm))) = (Sum.inr g.nm, V.int (if g.nm = n then x else f g.nm))
 by_cases e : g.nm = n
 ·rw [if_pos (by rw [e]), if_pos e]
 ·rw [if_neg (fun c => e (Sum.inr.inj c)), if_neg e]
theorem aHT {G : List Gap} {f : Fl} {s : Mt22.St} {m : Int} (ms : s ∈ Mt61.stepsOf G) : nU (dX G f) (Sum.inr s.nm) (.int (f s.nm + s.h * m)) = dX G (jS m f s) := by
 obtain ⟨g, mg, en, _⟩ := oP ms
 rw [aHS (by rw [← en]; exact List.mem_map.mpr ⟨g, mg, rfl⟩)]
 unfold dX
 refine List.map_congr_left fun g _ => ?_
 show (Sum.inr g.nm, V.int (if g.nm = s.nm then f s.nm + s.h * m else f g.nm)) = (Sum.inr g.nm, V.int (if g.nm = s.nm then f g.nm + s.h * m else f g.nm))
 by_cases e : g.nm = s.nm
 ·rw [if_pos e, if_pos e, e]
 ·rw [if_neg e, if_neg e]
theorem mY (G : List Gap) (f : Fl) : (dX G f).length = G.length := List.length_map _
theorem aEV (G : List Gap) (f : Fl) : (dX G f).map (·.1) = (G.map (·.nm)).map Sum.inr := by
 unfold dX
 rw [List.map_map, List.map_map]
 rfl
theorem tV {G : List Gap} {f : Fl} : ∀ s ∈ tW G f, s ∈ Mt61.stepsOf G := fun s m => (List.mem_filter.mp m).1
def aGB : Sp := sp3 fun x y u H Q => ∃ (l dm lw : Addr) (o : Obj) (us : List V) (V0 : List Str) (G : List Gap) (ws : List Str), x = .ref l ∧ H l = some (.lst us) ∧ IsL H ((Mt61.stepsOf G).map bS) us ∧ G.length ≤ 40 ∧ V0.length ≤ 13 ∧ Gaps V0 G ∧ y = .ref dm ∧ H dm = some (.frz o (.dK (dP G))) ∧ u = .ref lw ∧ H lw = some (.lst (ws.map V.str)) ∧ Mt22.sea ∉ ws ∧
 ∀ (de : Addr) (f : Fl) (H' : Hp), aI H H' → H de = none → H' de = some (.dK (dX G f)) → Stream V0 G ws f → aII G f ws → Q (.ref de) H'
theorem nW (T : Txt K mg C) : Fc P w K mg base 4 "fullest_stream" ["steps", "most", "fields"] aGB := by
 have G_p_path_with_room : Fc P w K mg base 3 "path_with_room" ["steps", "most", "stream", "fields"] wR := nV T
 have G_p_room : Fc P w K mg base 1 "room" ["step", "most", "stream"] aAS := vM T
 refine T.d_p_fullest_stream.fc cK pW (fun f cdv A outer s H vs Q E hr h => ?_)
 obtain ⟨x, y, u, rfl, l, dm, lw, o, us, V0, G, ws, rfl, hl, ius, g40, v13, GG, rfl, hm, rfl, hlw, ns, q⟩ := h
 have big := bY
 have hu := oA hr
 refine ⟨_, (aG (@aY _ _ (3) _ _ _ _ cK.nd rfl (Or.inr rfl) (@cW _ _ _ _ _ _ _ _ _ (@eJ _ rfl) rfl T.n_dict jQ (aA (@bX _ _ _ _ _ _ _ _ _ _ _ ["name"] 1 [] rfl (aGQ (pv 1)) (fun R => @aP _ _ (0) _ (show List.Nodup (["name"] : List Str) by decide +kernel) rfl (Or.inl rfl) (by trivial)) (@aX _ _ (by decide)) (fun R => cI) (fun R => (@dY _ _ _ _ _ (aA (pv 0) (aA aF aB)))) (by rfl) (by rfl) (by rfl) (by rfl) (by rfl) (by rfl) (by rfl) (by intro _; rfl)) aB) (by decide) (by decide) (by rfl) (by rfl)) (by rfl) (by trivial)) (aG (@aY _ _ (4) _ _ _ _ cK.nd rfl (Or.inl rfl) (@bD _ _ _ _ _ _ _ _ _ _ G_p_path_with_room (hr.mono (by decide)) (aA (pv 0) (aA (pv 1) (aA (pv 3) (aA (pv 2) aB)))) (by rfl) (by decide) (by rfl) (by rfl)) (by rfl) (by trivial)) (aG (@sP _ _ _ _ _ _ PassesOwn.never (aBB (pv 4)) (aG (@aY _ _ (5) _ _ _ _ cK.nd rfl (Or.inl rfl) (@aT _ _ _ _ _ _ _ _ _ (wC rfl) rfl T.n_min wF (aA (@bX _ _ _ _ _ _ _ _ _ _ _ ["step", "most", "stream"] 1 [1, 3] rfl (@bM _ _ _ _ (pv 4)) (fun R => @aP _ _ (0) _ (show List.Nodup (["step", "most", "stream"] : List Str) by decide +kernel) rfl (Or.inl rfl) (by trivial)) (@aX _ _ (by decide)) (fun R => cI) (fun R => (@bD _ _ _ _ _ _ _ _ _ _ G_p_room (hr.mono (by decide)) (aA (pv 0) (aA (pv 1) (aA (pv 2) aB))) (by rfl) (by decide) (by rfl) (by rfl))) (by rfl) (by rfl) (by rfl) (by rfl) (by rfl) (by rfl) (by rfl) (by intro _; rfl)) aB) (by decide) (by decide) (by rfl) (by rfl)) (by rfl) (by trivial)) (aG (@iN _ _ _ _ _ _ _ _ PassesOwn.never rfl (@bM _ _ _ _ (pv 4)) (@aP _ _ (6) _ cK.nd rfl (Or.inl rfl) (by trivial)) (aH (@aIW _ _ _ _ _ _ _ _ _ _ _ hu (pv 3) (@bC _ _ _ _ _ _ _ (@aW _ (K) rfl) (pv 6) aF (fun _ _ => rfl)) (@aK _ _ _ _ _ _ _ _ gG (@bC _ _ _ _ _ _ _ (@aW _ (K) rfl) (pv 6) aF (fun _ _ => rfl)) (pv 5)) aLK (fun _ _ _ => rfl))) (by intro _; rfl)) (aH (@aY _ _ (4) _ _ _ _ cK.nd rfl (Or.inl rfl) (@bD _ _ _ _ _ _ _ _ _ _ G_p_path_with_room (hr.mono (by decide)) (aA (pv 0) (aA (pv 1) (aA (pv 3) (aA (pv 2) aB)))) (by rfl) (by decide) (by rfl) (by rfl)) (by rfl) (by trivial)))))) (aH (@aS _ _ _ _ (pv 3)))))), ?_⟩
 refine ⟨_, rfl, dm, o, _, rfl, hm, ?_⟩
 refine qH (by rw [kX]; omega) (fun i ys H' => aI H H' ∧ bZ H' ys (dX (G.take i) fun _ => 0)) ⟨aI.refl _, bZ.nil _⟩ ?_ ?_ ?_
 ·rintro i ys H' hi ⟨S', pa⟩
  have := pa.len
  rw [mY, List.length_take] at this
  exact ⟨S' _ _ hm, by omega⟩
 ·rintro i kv ys H' K1 K2 hk ⟨S', pa⟩ k1 k2
  unfold dP at hk
  rw [List.getElem?_map] at hk
  obtain ⟨g, eg, ekv⟩ := Option.map_eq_some_iff.mp hk
  have ek : kV kv.1 = V.str g.nm := by rw [← ekv]; rfl
  rw [ek]
  refine ⟨_, rfl, aN rfl, fun p3 hp3 => k1 _ _ ⟨S'.trans (aI.upd hp3), ?_⟩⟩
  have e2 : dX (G.take (i + 1)) (fun _ => 0) = dX (G.take i) (fun _ => 0) ++ [(Sum.inr g.nm, V.int 0)] := by
   unfold dX
   rw [List.take_add_one, eg, List.map_append]
   rfl
  rw [e2]
  exact bZ.snoc (k := Sum.inr g.nm) pa hp3
 rintro ys H1 ⟨S1, pa⟩
 rw [kX, List.take_of_length_le (Nat.le_refl _)] at pa
 intro p4 hp4
 have S2 := aI.upd (o := .lst ys) hp4
 refine ⟨p4, ys, dX G fun _ => 0, rfl, SqL.of aE, pa.same S2, by rw [mY]; omega, by rw [aEV]; exact (fW _).mpr GG.nd, fun de hde => ?_⟩
 have S3 := aI.upd (o := .dK (dX G fun _ => 0)) hde
 have T3 := S1.trans (S2.trans S3)
 have nde := (S1.trans S2).free hde
 have he3 : upd (upd H1 p4 (.lst ys)) de (.dK (dX G fun _ => 0)) de = some (.dK (dX G fun _ => 0)) := aE
 generalize upd (upd H1 p4 (.lst ys)) de (.dK (dX G fun _ => 0)) = H3 at S3 T3 he3
 have st0 : Stream V0 G ws (fun _ => 0) := Stream.none GG ws fun _ _ => rfl
 refine ⟨_, rfl, _, rfl, _, rfl, _, rfl, _, _, _, _, l, dm, de, lw, us, V0, G, fun _ => 0, ws, rfl, rfl, T3 _ _ hl, IsL.same T3 _ _ ius, g40, v13, GG, rfl, .inr ⟨o, T3 _ _ hm⟩, rfl, .inl he3, rfl, T3 _ _ hlw, ns, fun lp us4 ss H4 S4 nlp hlp iss go => ?_⟩
 refine rS (fun σ H' => ∃ (f5 : Fl) (lp : Addr) (us5 : List V) (ss : List Mt22.St) (v5 v6 : Option V), σ = [some (.ref l), some (.ref dm), some (.ref lw), some (.ref de), some (.ref lp), v5, v6] ∧ aI H H' ∧ H' de = some (.dK (dX G f5)) ∧ Stream V0 G ws f5 ∧ H' lp = some (.lst us5) ∧ IsL H' (ss.map bS) us5 ∧ aNO G f5 ws ss)
  (fun _ H' => match H' de with | some (.dK kvs) => (yP G - val G (aHU kvs)).toNat | _ => 0) ⟨fun _ => 0, lp, us4, ss, _, _, rfl, T3.trans S4, S4 _ _ he3, st0, hlp, iss, go⟩ ?_ ?_
 ·rintro σ H5 ⟨f5, lp, us5, ss, v5, v6, rfl, S5, he5, st5, hlp5, iss5, go5⟩
  have lss := iX iss5
  rw [List.length_map] at lss
  refine ⟨_, rfl, lp, us5, rfl, SqL.of hlp5, ?_⟩
  rcases go5 with ⟨rfl, en⟩ | ⟨z, ch, mz, ne, s13⟩
  ·have : us5 = [] := List.eq_nil_of_length_eq_zero lss.symm
   subst this
   exact bG ⟨_, rfl, q de f5 H5 S5 nde he5 st5 en⟩
  have une : us5.isEmpty = false := by
   cases us5 with
   | nil => exact absurd (List.eq_nil_of_length_eq_zero lss) ne
   | cons a b => rfl
  rw [une]
  refine cA ?_
  obtain ⟨csub, cnd⟩ := wB ch
  have rpos : ∀ s ∈ ss, 0 < Mt61.room G f5 s := fun s m => of_decide_eq_true (List.mem_filter.mp (csub s m)).2
  have hm5 := S5 _ _ hm
  refine ⟨_, rfl, lp, rfl, ⟨_, SqL.of hlp5⟩, ?_⟩
  refine bF (F := K) (xs := us5) (by omega) (fun i ys H' => H5 = H' ∧ ys = ((ss.take i).map (Mt61.room G f5)).map V.int) ⟨rfl, rfl⟩ ?_ ?_ ?_
  ·rintro i ys H' hi ⟨rfl, rfl⟩
   exact ⟨SqL.of hlp5, by rw [List.length_map, List.length_map, List.length_take]; omega⟩
  ·rintro i xv ys H' K1 K2 hx' ⟨rfl, rfl⟩ k1 k2
   have hil : i < us5.length := (List.getElem?_eq_some_iff.mp hx').1
   obtain ⟨st, es⟩ : ∃ st, ss[i]? = some st := ⟨_, List.getElem?_eq_getElem (by omega)⟩
   obtain ⟨v, ev, iv⟩ := iss5.get (show (ss.map bS)[i]? = some (bS st) by rw [List.getElem?_map, es]; rfl)
   rw [hx'] at ev
   cases ev
   have ms := List.mem_of_getElem? es
   refine ⟨_, rfl, _, rfl, _, rfl, _, _, _, rfl, dm, de, V0, G, f5, st, iv, tV _ (csub st ms), GG, rfl, .inr ⟨o, hm5⟩, rfl, .inl he5, k1 _ _ ⟨rfl, ?_⟩⟩
   rw [List.take_add_one, es, List.map_append, List.map_append]
   rfl
  rintro ys H6 ⟨rfl, rfl⟩
  rw [List.take_of_length_le (by omega)]
  intro la hla
  have S6 := aI.upd (o := .lst ((ss.map (Mt61.room G f5)).map V.int)) hla
  have r6 : upd H5 la (.lst ((ss.map (Mt61.room G f5)).map V.int)) la = some (.lst ((ss.map (Mt61.room G f5)).map V.int)) := aE
  generalize upd H5 la (.lst ((ss.map (Mt61.room G f5)).map V.int)) = H6 at S6 r6
  have T6 := S5.trans S6
  refine ⟨la, ss.map (Mt61.room G f5), rfl, SqL.of r6, by rw [List.length_map]; exact List.length_pos_iff.mpr ne, fun M mM least => ?_⟩
  have M0 : 0 < M := by
   obtain ⟨s, ms, rfl⟩ := List.mem_map.mp mM
   exact rpos s ms
  have hM : ∀ s ∈ ss, M ≤ Mt61.room G f5 s := fun s m => least _ (List.mem_map.mpr ⟨s, m, rfl⟩)
  have he6 := S6 _ _ he5
  have hlp6 := S6 _ _ hlp5
  have iss6 := IsL.same S6 _ _ iss5
  refine ⟨_, rfl, lp, rfl, ⟨_, SqL.of hlp6⟩, kZ (K := K) (a := lp) (xs := us5) (fun i σ H' => ∃ v6, σ = [some (.ref l), some (.ref dm), some (.ref lw), some (.ref de), some (.ref lp), some (.int M), v6] ∧ aI H H' ∧ H' de = some (.dK (dX G ((ss.take i).foldl (jS M) f5))) ∧ H' lp = some (.lst us5) ∧ IsL H' (ss.map bS) us5) ⟨_, rfl, T6, he6, hlp6, iss6⟩ ?_ ?_ ?_⟩
  ·rintro i σ H' hi ⟨v6, rfl, S', he', hl', is'⟩
   exact SqL.of hl'
  ·rintro i xv σ H' hx ⟨v6, rfl, S', he', hl', is'⟩
   have hil : i < us5.length := (List.getElem?_eq_some_iff.mp hx).1
   obtain ⟨st, es⟩ : ∃ st, ss[i]? = some st := ⟨_, List.getElem?_eq_getElem (by omega)⟩
   obtain ⟨v, ev, iv⟩ := is'.get (show (ss.map bS)[i]? = some (bS st) by rw [List.getElem?_map, es]; rfl)
   rw [hx] at ev
   cases ev
   have ms := tV _ (csub st (List.mem_of_getElem? es))
   obtain ⟨t, rfl, ot⟩ := kI iv
   obtain ⟨g, mg', en, hh⟩ := oP ms
   have v2 : fS (dX G ((ss.take i).foldl (jS M) f5)) (Sum.inr st.nm) = some (.int (((ss.take i).foldl (jS M) f5) st.nm)) := by rw [← en]; exact vT (f := fun g => V.int (((ss.take i).foldl (jS M) f5) g.nm)) GG.nd mg'
   refine ⟨_, rfl, _, rfl, t, _, 0, .str st.nm, rfl, rfl, SqT.of ot, aO (j := 0) rfl, de, _, rfl, .inl ⟨_, Sum.inr st.nm, .inl he', rfl, v2.symm⟩, ?_⟩
   refine ⟨_, rfl, t, _, 3, .int st.h, rfl, rfl, SqT.of ot, aO (j := 3) rfl, _, rfl, _, _, rfl, rfl, .inl (by rcases hh with h | h <;> rw [h] <;> exact ⟨by decide, by decide⟩), _, _, rfl, rfl, _, .inl ⟨_, Sum.inr st.nm, he', rfl, by rw [mY]; omega, rfl⟩, ?_⟩
   rw [aHT ms]
   have nlp' : lp ≠ de := vP hl' he' (by intro c; cases c)
   have KT : gR H' (upd H' de (.dK (dX G (jS M ((ss.take i).foldl (jS M) f5) st)))) := fun b ys e => by
    rw [aQ (fun c => by rw [c, he'] at e; cases e)]
    exact e
   refine ⟨_, rfl, S'.over nde, ?_, by rw [aQ nlp']; exact hl', IsL.keep KT _ _ (fA fun d m => ?_) is'⟩
   ·rw [aE, List.take_add_one, es, List.foldl_append]
    rfl
   ·obtain ⟨s, _, rfl⟩ := List.mem_map.mp m
    exact fU s
  ·rintro σ H7 ⟨v6, rfl, S7, he7, hl7, is7⟩
   rw [← lss, List.take_of_length_le (Nat.le_refl _)] at he7
   obtain ⟨st7, va7⟩ := st5.more GG ch tV (Int.le_of_lt M0) hM mz ns
   refine ⟨_, rfl, _, rfl, _, rfl, _, rfl, _, _, _, _, l, dm, de, lw, us, V0, G, ss.foldl (jS M) f5, ws, rfl, rfl, S7 _ _ hl, IsL.same S7 _ _ ius, g40, v13, GG, rfl, .inr ⟨o, S7 _ _ hm⟩, rfl, .inl he7, rfl, S7 _ _ hlw, ns, fun lp8 us8 ss8 H8 S8 nlp8 hlp8 iss8 go8 => ?_⟩
   refine ⟨⟨_, lp8, us8, ss8, _, _, rfl, S7.trans S8, S8 _ _ he7, st7, hlp8, iss8, go8⟩, ?_⟩
   rw [he5, S8 _ _ he7]
   show (yP G - val G (aHU (dX G (ss.foldl (jS M) f5)))).toNat < (yP G - val G (aHU (dX G f5))).toNat
   rw [uW fun g m => aDQ GG.nd _ m, uW fun g m => aDQ GG.nd f5 m, va7]
   have := aDW GG st7.fits
   omega
 ·intro σ H Q Q' h hc
  obtain ⟨v, e, p, xs, e2, hq, q⟩ := hc
  exact ⟨v, e, p, xs, e2, hq, h _ _ q⟩
open Mt53 Mt22 MtF Mt31 Mt61
theorem aBZ {H : Hp} {kvs : List (Key × V)} {cm : Cm} (h : CamKV H kvs cm) (z : Str) : (fS kvs (Sum.inr z)).isSome = decide (z ∈ keys cm) := by
 by_cases m : z ∈ keys cm
 ·rw [h.some m, decide_eq_true m]
 ·rw [h.none m, decide_eq_false m]
  rfl
def aEI (G : List Gap) (R : List Str) : List Mt22.St := (Mt61.stepsOf G).filter fun s => !decide (s.far ∈ R)
def kA (L : Int) (s : Mt22.St) : Dv := .tup [.str s.nm, .int L]
theorem dM {α : Type} {P : α → Bool} {xs : List α} {i : Nat} {x : α} (e : xs[i]? = some x) : (xs.take (i + 1)).filter P = (xs.take i).filter P ++ (if P x = true then [x] else []) := by
 rw [List.take_add_one, e, List.filter_append]
 cases h : P x <;> simp [h]
def aFW : Sp := fun vs H Q _ => ∃ (x y u v : V) (l df lw : Addr) (us : List V) (V0 : List Str) (G : List Gap) (kvs : List (Key × V)) (cm : Cm) (ws : List Str) (L : Int), vs = [x, y, u, v] ∧ x = .ref l ∧ H l = some (.lst us) ∧ IsL H ((Mt61.stepsOf G).map bS) us ∧ G.length ≤ 40 ∧ V0.length ≤ 13 ∧ Gaps V0 G ∧ y = .ref df ∧ Rd H df (.dK kvs) ∧ CamKV H kvs cm ∧ u = .ref lw ∧ H lw = some (.lst (ws.map V.str)) ∧ ws.Nodup ∧ (∀ z ∈ ws, z ∈ V0) ∧ v = .int L ∧
 ∀ (cmB : Cm) (lr : Addr) (us' : List V) (H' : Hp), aI H H' → H lr = none → H' lr = some (.lst us') → IsL H' ((eN G (keys cm) (keys cmB)).map (kA L)) us' → CameG ws (aEI G (keys cm)) cmB → rH (aEI G (keys cm)) cmB cmB.length → Q (.ref lr) H'
theorem aLC : ∀ vs H Q E, aFW vs H Q E → vs.length = 4 := fun vs H Q E ⟨x, y, u, v, l, df, lw, us, V0, G, kvs, cm, ws, L, e, _⟩ => by rw [e]; rfl
theorem pP (T : Txt K mg C) : Fc P w K mg base 2 "works_round" ["steps", "flowed", "fields", "height"] aFW := by
 have G_p_spread : Fc P w K mg base 1 "spread" ["starts", "steps"] pI := qN T
 refine T.d_p_works_round.fc kK aLC (fun f cdv A outer s H vs Q E hr h => ?_)
 obtain ⟨x, y, u, v, l, df, lw, us, V0, G, kvs, cm, ws, lv, rfl, rfl, hl, ius, g40, v13, GG, rfl, hf, ck, rfl, hlw, ndw, subw, rfl, q⟩ := h
 have big := bY
 have hu := oA hr
 have lus := iX ius
 have sl := nH G
 rw [List.length_map, sl] at lus
 refine ⟨_, (aG (@aY _ _ (4) _ _ _ _ kK.nd rfl (Or.inr rfl) (@bD _ _ _ _ _ _ _ _ _ _ G_p_spread (hr.mono (by decide)) (aA (pv 2) (aA (@bX _ _ _ _ _ _ _ _ _ _ _ ["step", "flowed"] 1 [1] rfl (@bM _ _ _ _ (pv 0)) (fun R => @aP _ _ (0) _ (show List.Nodup (["step", "flowed"] : List Str) by decide +kernel) rfl (Or.inl rfl) (by trivial)) (@aX _ _ (by decide)) (fun R => @dO _ _ _ (@xG _ _ _ _ _ _ (@vK _ _ _ _ _ hu (@bC _ _ _ _ _ _ _ (@aW _ (K) rfl) (pv 0) aF (fun _ _ => rfl)) (pv 1)) (by first | exact nobehind _ (by decide) (by decide) | rfl))) (fun R => (pv 0)) (by rfl) (by rfl) (by rfl) (by rfl) (by rfl) (by rfl) (by rfl) (by intro _; rfl)) aB)) (by rfl) (by decide) (by rfl) (by rfl)) (by rfl) (by trivial)) (aH (@aS _ _ _ _ (@bX _ _ _ _ _ _ _ _ _ _ _ ["step", "flowed", "height", "behind"] 1 [1, 3, 4] rfl (@bM _ _ _ _ (pv 0)) (fun R => @aP _ _ (0) _ (show List.Nodup (["step", "flowed", "height", "behind"] : List Str) by decide +kernel) rfl (Or.inl rfl) (by trivial)) (@aX _ _ (by decide)) (fun R => @dO _ _ _ (@PW.pt _ _ _ (@kB _ _ _ _ _ _ _ (@xG _ _ _ _ _ _ (@aGU _ _ _ _ _ hu (@bC _ _ _ _ _ _ _ (@aW _ (K) rfl) (pv 0) aF (fun _ _ => rfl)) (pv 1)) (by first | exact nobehind _ (by decide) (by decide) | rfl)) (@iT _ _ _ _ (@xG _ _ _ _ _ _ (@aGU _ _ _ _ _ hu (@bC _ _ _ _ _ _ _ (@aW _ (K) rfl) (pv 0) aF (fun _ _ => rfl)) (pv 3)) (by first | exact nobehind _ (by decide) (by decide) | rfl)))))) (fun R => (@dY _ _ _ _ _ (aA (@bC _ _ _ _ _ _ _ (@aW _ (K) rfl) (pv 0) aF (fun _ _ => rfl)) (aA (pv 2) aB)))) (by rfl) (by rfl) (by rfl) (by rfl) (by rfl) (by rfl) (by rfl) (by intro _; rfl))))), ?_⟩
 refine ⟨_, rfl, _, rfl, l, rfl, ⟨_, SqL.of hl⟩, ?_⟩
 refine bF (F := K) (xs := us) (by omega) (fun i ys H' => H = H' ∧ IsL H' ((((Mt61.stepsOf G).take i).filter fun s => !decide (s.far ∈ keys cm)).map bS) ys) ⟨rfl, rfl⟩ ?_ ?_ ?_
 ·rintro i ys H' hi ⟨rfl, iy⟩
  refine ⟨SqL.of hl, ?_⟩
  have := iy.length
  have := List.length_filter_le (fun s : Mt22.St => !decide (s.far ∈ keys cm)) ((Mt61.stepsOf G).take i)
  rw [List.length_take] at this
  rw [List.length_map] at *
  omega
 ·rintro i xv ys H' K1 K2 hx' ⟨rfl, iy⟩ k1 k2
  have hil : i < us.length := (List.getElem?_eq_some_iff.mp hx').1
  obtain ⟨st, es⟩ : ∃ st, (Mt61.stepsOf G)[i]? = some st := ⟨_, List.getElem?_eq_getElem (by omega)⟩
  obtain ⟨v, ev, iv⟩ := ius.get (show ((Mt61.stepsOf G).map bS)[i]? = some (bS st) by rw [List.getElem?_map, es]; rfl)
  rw [hx'] at ev
  cases ev
  obtain ⟨t, rfl, o⟩ := kI iv
  have et := dM (P := fun s : Mt22.St => !decide (s.far ∈ keys cm)) es
  refine ⟨_, rfl, t, _, 2, .str st.far, rfl, rfl, SqT.of o, aO (j := 2) rfl, _, rfl, df, _, rfl, .inl ⟨kvs, Sum.inr st.far, hf, rfl, rfl⟩, _, rfl, ?_⟩
  rw [aBZ ck]
  cases hg : (!decide (st.far ∈ keys cm)) with
  | false =>
   rw [hg] at et
   refine bG (k2 _ ⟨rfl, ?_⟩)
   rw [et]
   simpa using iy
  | true =>
   rw [hg] at et
   refine cA ⟨_, rfl, k1 _ _ ⟨rfl, ?_⟩⟩
   rw [et, if_pos rfl, List.map_append]
   exact IsL.snoc iv iy
 rintro ys H2 ⟨rfl, iy⟩
 rw [List.take_of_length_le (by omega)] at iy
 intro l2 h2
 have S2 := aI.upd (o := .lst ys) h2
 refine ⟨_, _, rfl, lw, l2, ys, aEI G (keys cm), ws, V0, rfl, rfl, ndw, subw, S2 _ _ hlw, aE, IsL.same S2 _ _ iy, ?_, v13, fun s m => (aDR GG (List.mem_filter.mp m).1).2, fun db cmB kvB H3 S3 ndb hdb ckB cgB opB l13 => ?_⟩
 ·have := List.length_filter_le (fun s : Mt22.St => !decide (s.far ∈ keys cm)) (Mt61.stepsOf G)
  unfold aEI
  omega
 have T3 := S2.trans S3
 have ius3 := IsL.same T3 _ _ ius
 refine ⟨_, rfl, l, rfl, ⟨_, SqL.of (T3 _ _ hl)⟩, ?_⟩
 refine bF (F := K) (xs := us) (by omega) (fun i ys H' => aI H3 H' ∧ IsL H' ((((Mt61.stepsOf G).take i).filter fun s => decide (s.near ∈ keys cm) && decide (s.far ∈ keys cmB)).map (kA lv)) ys) ⟨aI.refl _, rfl⟩ ?_ ?_ ?_
 ·rintro i ys H' hi ⟨S', iy⟩
  refine ⟨SqL.of (S' _ _ (T3 _ _ hl)), ?_⟩
  have := iy.length
  have := List.length_filter_le (fun s : Mt22.St => decide (s.near ∈ keys cm) && decide (s.far ∈ keys cmB)) ((Mt61.stepsOf G).take i)
  rw [List.length_take] at this
  rw [List.length_map] at *
  omega
 ·rintro i xv ys H' K1 K2 hx' ⟨S', iy⟩ k1 k2
  have hil : i < us.length := (List.getElem?_eq_some_iff.mp hx').1
  obtain ⟨st, es⟩ : ∃ st, (Mt61.stepsOf G)[i]? = some st := ⟨_, List.getElem?_eq_getElem (by omega)⟩
  obtain ⟨v, ev, iv⟩ := (IsL.same S' _ _ ius3).get (show ((Mt61.stepsOf G).map bS)[i]? = some (bS st) by rw [List.getElem?_map, es]; rfl)
  rw [hx'] at ev
  cases ev
  obtain ⟨t, rfl, o⟩ := kI iv
  have et := dM (P := fun s : Mt22.St => decide (s.near ∈ keys cm) && decide (s.far ∈ keys cmB)) es
  have no : (decide (st.near ∈ keys cm) && decide (st.far ∈ keys cmB)) = false → K2 H' := fun hg => by
   refine k2 _ ⟨S', ?_⟩
   rw [et, hg]
   simpa using iy
  refine ⟨_, rfl, t, _, 1, .str st.near, rfl, rfl, SqT.of o, aO (j := 1) rfl, _, rfl, df, _, rfl, .inl ⟨kvs, Sum.inr st.near, oV hf (T3.trans S'), rfl, rfl⟩, _, rfl, ?_⟩
  rw [aBZ ck]
  cases h1 : decide (st.near ∈ keys cm) with
  | false => exact bG (no (by rw [h1]; rfl))
  | true =>
   refine cA ?_
   refine ⟨_, rfl, t, _, 2, .str st.far, rfl, rfl, SqT.of o, aO (j := 2) rfl, _, rfl, db, _, rfl, .inl ⟨kvB, Sum.inr st.far, .inl (S' _ _ hdb), rfl, rfl⟩, _, rfl, ?_⟩
   rw [aBZ ckB]
   cases h2 : decide (st.far ∈ keys cmB) with
   | false => exact bG (no (by rw [h1, h2]; rfl))
   | true =>
    refine cA ⟨_, rfl, t, _, 0, .str st.nm, rfl, rfl, SqT.of o, aO (j := 0) rfl, _, rfl, aN rfl, fun ta hta => k1 _ _ ⟨S'.trans (aI.upd hta), ?_⟩⟩
    rw [h1, h2] at et
    rw [et, List.map_append]
    exact IsL.snoc (show Is _ (kA lv st) (.ref ta) from ⟨ta, _, rfl, aE, _, _, rfl, rfl, _, _, rfl, rfl, rfl⟩) (IsL.same (aI.upd hta) _ _ iy)
 rintro ys4 H4 ⟨S4, iy4⟩
 rw [List.take_of_length_le (by omega)] at iy4
 intro lr hlr
 have S5 := aI.upd (o := .lst ys4) hlr
 exact q cmB lr ys4 _ (T3.trans (S4.trans S5)) ((T3.trans S4).free hlr) aE (IsL.same S5 _ _ iy4) cgB opB
open Mt53 Mt22 MtF Mt31 Mt61
theorem aID {zs : List Str} {S : List Mt22.St} {cm : Cm} (h : CameG zs S cm) {R : List Str} (hz : ∀ z ∈ zs, z ∈ R) (cl : ∀ s ∈ S, s.near ∈ R → s.far ∈ R) : ∀ z ∈ keys cm, z ∈ R := by
 have : ∀ (n i : Nat) (z : Str), i < n → (keys cm)[i]? = some z → z ∈ R := by
  intro n
  induction n with
  | zero => intro i z hi; omega
  | succ n ih =>
   intro i z hi e
   unfold keys at e
   rw [List.getElem?_map] at e
   obtain ⟨⟨z', o⟩, e', rfl⟩ := Option.map_eq_some_iff.mp e
   by_cases hl : i < zs.length
   ·obtain ⟨y, ey⟩ : ∃ y, zs[i]? = some y := ⟨_, List.getElem?_eq_getElem hl⟩
    have := h.first i y ey
    rw [e'] at this
    cases this
    exact hz _ (List.mem_of_getElem? ey)
   ·obtain ⟨s, _, ms, ef, hn⟩ := h.prev i z' o (by omega) e'
    obtain ⟨j, hj⟩ := List.mem_iff_getElem?.mp hn
    have hjl := (List.getElem?_eq_some_iff.mp hj).1
    unfold keys at hjl
    rw [List.length_map, List.length_take] at hjl
    have hj' : (keys cm)[j]? = some s.near := by
     unfold keys at hj ⊢
     rw [List.getElem?_map, List.getElem?_take_of_lt (by omega)] at hj
     rw [List.getElem?_map]
     exact hj
    show z' ∈ R
    rw [← ef]
    exact cl s ms (ih j _ (by omega) hj')
 intro z m
 obtain ⟨i, hi⟩ := List.mem_iff_getElem?.mp m
 exact this (i + 1) i z (by omega) hi
theorem aGK {V0 : List Str} {G : List Gap} (GG : Gaps V0 G) {f : Fl} {ws : List Str} (en : aII G f ws) {cm cmB : Cm} (cg : CameG [Mt22.sea] (tW G f) cm) (op : rH (tW G f) cm cm.length) (cgB : CameG ws (aEI G (keys cm)) cmB) (opB : rH (aEI G (keys cm)) cmB cmB.length) : Round G f ws (keys cm) (keys cmB) := by
 obtain ⟨cm1, cg1, op1, out⟩ := en
 have sub := aID cg (R := keys cm1) (fun z m => by rw [List.mem_singleton.mp m]; exact cg1.start (List.mem_singleton.mpr rfl)) (mL op1)
 have wout : ∀ z ∈ ws, z ∉ keys cm := fun z m k => out z m (sub z k)
 refine ⟨cg.start (List.mem_singleton.mpr rfl), fun s ms hr hn => ?_, wout, fun z m => cgB.start m, fun z m => ?_, fun s ms hf hn => ?_⟩
 ·exact mL op s (List.mem_filter.mpr ⟨ms, decide_eq_true hr⟩) hn
 ·rcases cgB.mem m with m | ⟨s, ms, rfl⟩
  ·exact wout z m
  ·have := (List.mem_filter.mp ms).2
   simpa using this
 ·exact mL opB s (List.mem_filter.mpr ⟨ms, by simpa using hf⟩) hn
theorem zD {R B : List Str} (out : ∀ z ∈ B, z ∉ R) : ∀ {G : List Gap}, (G.map (·.nm)).Nodup → ((eN G R B).map (·.nm)).Nodup ∧ ∀ n ∈ (eN G R B).map (·.nm), n ∈ G.map (·.nm)
 | [], _ => ⟨by simp [eN, Mt61.stepsOf], fun n m => by simp [eN, Mt61.stepsOf] at m⟩
 | g :: G, nd => by
  rw [List.map_cons, List.nodup_cons] at nd
  obtain ⟨h1, h2⟩ := zD out nd.2
  have e : eN (g :: G) R B = ([up g, dn g].filter fun s => decide (s.near ∈ R) && decide (s.far ∈ B)) ++ eN G R B := by
   unfold eN Mt61.stepsOf
   rw [List.flatMap_cons, List.filter_append]
  have hf : ([up g, dn g].filter fun s => decide (s.near ∈ R) && decide (s.far ∈ B)) = [] ∨ ∃ s, s.nm = g.nm ∧ ([up g, dn g].filter fun s => decide (s.near ∈ R) && decide (s.far ∈ B)) = [s] := by
   rw [List.filter_cons]
   cases hu : (decide ((up g).near ∈ R) && decide ((up g).far ∈ B)) with
   | true =>
    rw [Bool.and_eq_true] at hu
    have ub : g.b ∈ B := of_decide_eq_true hu.2
    have : (decide ((dn g).near ∈ R) && decide ((dn g).far ∈ B)) = false := by
     have : (dn g).near ∉ R := out _ ub
     rw [decide_eq_false this]
     rfl
    rw [List.filter_cons, this]
    exact .inr ⟨up g, rfl, rfl⟩
   | false =>
    rw [List.filter_cons]
    cases hd : (decide ((dn g).near ∈ R) && decide ((dn g).far ∈ B)) with
    | true => exact .inr ⟨dn g, rfl, rfl⟩
    | false => exact .inl rfl
  rw [e]
  rcases hf with hf | ⟨s, en, hf⟩
  ·rw [hf, List.nil_append]
   exact ⟨h1, fun n m => List.mem_cons_of_mem _ (h2 n m)⟩
  ·rw [hf]
   refine ⟨?_, fun n m => ?_⟩
   ·rw [List.map_append, List.map_cons, List.map_nil, List.singleton_append, List.nodup_cons, en]
    exact ⟨fun m => nd.1 (h2 _ m), h1⟩
   ·rw [List.map_append] at m
    rcases List.mem_append.mp m with m | m
    ·rw [List.map_cons, List.map_nil, List.mem_singleton, en] at m
     rw [m]
     exact List.mem_cons_self
    ·exact List.mem_cons_of_mem _ (h2 n m)
theorem vI {G : List Gap} {R B : List Str} : ∀ s ∈ eN G R B, s ∈ Mt61.stepsOf G := fun s m => (List.mem_filter.mp m).1
theorem aAA {fs ds : List Dv} {zs : List Str} (gd : GoodD zs ds) {L : Int} {V0 : List Str} (GG : Gaps V0 (aU fs ds L)) {s : Mt22.St} (m : s ∈ Mt61.stepsOf (aU fs ds L)) : aAB ds (kA L s) = pG (aU fs ds L) s.nm ∧ s.nm ∈ ds.map aL ∧ gL ds s.nm ≤ L := by
 obtain ⟨g, mg, en, _⟩ := oP m
 obtain ⟨d, md, hg, rfl, ed⟩ := zT gd mg
 have ec := uC gd.nd md
 have er := aCX gd.nd md
 have cap := mZ GG mg
 rw [← en, ← ed]
 rw [← ed] at cap
 refine ⟨?_, List.mem_map.mpr ⟨d, md, rfl⟩, ?_⟩
 ·show sO ds s.nm * (L - gL ds s.nm) = _
  rw [← en, ← ed, cap, ec, er]
  obtain ⟨n, a, b, c, r, sl, rfl, _⟩ := bP (gd.all d md)
  rfl
 ·rw [ec]
  obtain ⟨n, a, b, c, r, sl, rfl, _⟩ := bP (gd.all d md)
  have h1 : c < L := of_decide_eq_true (Bool.and_eq_true_iff.mp (show (decide (c < L) && (iL fs L a && iL fs L b)) = true from hg)).1
  show c ≤ L
  omega
theorem aAN {fs ds : List Dv} {zs : List Str} (gd : GoodD zs ds) {L : Int} (hL : hgt L = true) {V0 : List Str} (GG : Gaps V0 (aU fs ds L)) {R B : List Str} (out : ∀ z ∈ B, z ∉ R) : GoodW ds ((eN (aU fs ds L) R B).map (kA L)) := by
 refine ⟨fun d m => ?_, ?_⟩
 ·obtain ⟨s, ms, rfl⟩ := List.mem_map.mp m
  obtain ⟨_, h2, h3⟩ := aAA gd GG (vI s ms)
  show (decide (s.nm ∈ ds.map aL) && (hgt L && decide (gL ds s.nm ≤ L))) = true
  rw [decide_eq_true h2, hL, decide_eq_true h3]
  rfl
 ·rw [List.map_map]
  exact (zD out GG.nd).1
theorem aAO {fs ds : List Dv} {zs : List Str} (gd : GoodD zs ds) {L : Int} {V0 : List Str} (GG : Gaps V0 (aU fs ds L)) {f : Fl} {ws R B : List Str} (st : Stream V0 (aU fs ds L) ws f) (r : Round (aU fs ds L) f ws R B) : yC ds ((eN (aU fs ds L) R B).map (kA L)) = val (aU fs ds L) f := by
 rw [← aBA GG st r]
 unfold yC
 rw [List.map_map]
 show sm _ _ = _
 exact eC fun s m => (aAA gd GG (vI s m)).1
theorem aEF {G : List Gap} {R B : List Str} : (eN G R B).length ≤ 2 * G.length := by
 rw [← nH]
 exact List.length_filter_le _ _
def aKK (f : Fl) (g : Gap) : Dv := .tup [.str g.nm, .int (f g.nm)]
def aIF (G : List Gap) (f : Fl) : List Dv := (G.filter fun g => !decide (f g.nm = 0)).map (aKK f)
def rZ (C : Addr) : Sp := sp3 fun x y u H Q => ∃ (p l : Addr) (fs ds : List Dv) (zs : List Str) (L : Int), x = .ref p ∧ LandAt C H p fs ds ∧ y = .ref l ∧ H l = some (.lst (zs.map V.str)) ∧ 1 ≤ zs.length ∧ zs.Nodup ∧ (∀ z ∈ zs, z ∈ fs.map aL) ∧ u = .int L ∧ hgt L = true ∧
 ∀ (t lk la : Addr) (uk ua : List V) (f : Fl) (R B : List Str) (H' : Hp), aI H H' → H t = none → H lk = none → H la = none → lk ≠ la → H' t = some (.tup [.int (val (aU fs ds L) f), .ref lk, .ref la]) → H' lk = some (.lst uk) → IsL H' ((eN (aU fs ds L) R B).map (kA L)) uk → H' la = some (.lst ua) → IsL H' (aIF (aU fs ds L) f) ua → Stream ("sea" :: fs.map aL) (aU fs ds L) zs f → Round (aU fs ds L) f zs R B → Q (.ref t) H'
theorem qO (T : Txt K mg C) : Fc P w K mg base 6 "fewest" ["land", "fields", "height"] (rZ C) := by
 have G_p_check_wish : Fc P w K mg base 3 "check_wish" ["land", "fields", "height"] (yQ C) := rB T
 have G_p_gap_coins : Fc P w K mg base 4 "gap_coins" ["land", "height"] (aGA C) := sW T
 have G_p_steps_over : Fc P w K mg base 2 "steps_over" ["land", "names"] (yR C) := rA T
 have G_p_fullest_stream : Fc P w K mg base 4 "fullest_stream" ["steps", "most", "fields"] aGB := nW T
 have G_p_reached : Fc P w K mg base 2 "reached" ["steps", "most", "stream"] pJ := pA T
 have G_p_works_round : Fc P w K mg base 2 "works_round" ["steps", "flowed", "fields", "height"] aFW := pP T
 have G_p_coins_of : Fc P w K mg base 5 "coins_of" ["land", "works"] (vC C) := uQ T
 refine T.d_p_fewest.fc eO pW (fun f cdv A outer s H vs Q E hr h => ?_)
 obtain ⟨x, y, u, rfl, p, l, fs, ds, zs, lv, rfl, L, rfl, hl, l1, nd, sub, rfl, hL, q⟩ := h
 have big := bY
 have hu := oA hr
 have gf := (bV L).1
 have gd := (bV L).2
 have d2 := gd.l2
 have f2 := gf.l2
 have GG := nP gf gd lv
 have gl := kW fs ds lv
 have v13 : (("sea" : Str) :: fs.map aL).length ≤ 13 := by rw [List.length_cons, List.length_map]; omega
 have ns : Mt22.sea ∉ zs := fun m => by
  obtain ⟨d, md, e⟩ := List.mem_map.mp (sub _ m)
  obtain ⟨z, g, u, rfl, hz, _⟩ := bJ (gf.all d md)
  exact oS hz e
 refine ⟨_, (aG (@fQ _ _ _ _ (@bD _ _ _ _ _ _ _ _ _ _ G_p_check_wish (hr.mono (by decide)) (aA (pv 0) (aA (pv 1) (aA (pv 2) aB))) (by rfl) (by decide) (by rfl) (by rfl)) (by rfl)) (aG (@aY _ _ (3) _ _ _ _ eO.nd rfl (Or.inl rfl) (@bD _ _ _ _ _ _ _ _ _ _ G_p_gap_coins (hr.mono (by decide)) (aA (pv 0) (aA (pv 2) aB)) (by rfl) (by decide) (by rfl) (by rfl)) (by rfl) (by trivial)) (aG (@aY _ _ (4) _ _ _ _ eO.nd rfl (Or.inl rfl) (@bD _ _ _ _ _ _ _ _ _ _ G_p_steps_over (hr.mono (by decide)) (aA (pv 0) (aA (pv 3) aB)) (by rfl) (by decide) (by rfl) (by rfl)) (by rfl) (by trivial)) (aG (@aY _ _ (5) _ _ _ _ eO.nd rfl (Or.inr rfl) (@bD _ _ _ _ _ _ _ _ _ _ G_p_fullest_stream (hr.mono (by decide)) (aA (pv 4) (aA (pv 3) (aA (pv 1) aB))) (by rfl) (by decide) (by rfl) (by rfl)) (by rfl) (by trivial)) (aG (@aY _ _ (6) _ _ _ _ eO.nd rfl (Or.inl rfl) (@bD _ _ _ _ _ _ _ _ _ _ G_p_works_round (hr.mono (by decide)) (aA (pv 4) (aA (@bD _ _ _ _ _ _ _ _ _ _ G_p_reached (hr.mono (by decide)) (aA (pv 4) (aA (pv 3) (aA (pv 5) aB))) (by rfl) (by decide) (by rfl) (by rfl)) (aA (pv 1) (aA (pv 2) aB)))) (by rfl) (by decide) (by rfl) (by rfl)) (by rfl) (by trivial)) (aG (@fT _ (7) _ _ _ _ _ _ _ _ _ _ _ _ _ eO.nd rfl ["name", "stream"] 1 [5] rfl (@xI _ _ _ _ (pv 5)) (fun R => @aP _ _ (0) _ (show List.Nodup (["name", "stream"] : List Str) by decide +kernel) rfl (Or.inl rfl) (by trivial)) (@aX _ _ (by decide)) (fun R => @dO _ _ _ (@bI _ _ _ _ _ _ _ _ vL (@jW _ _ _ _ _ _ hu (pv 1) (pv 0) (fun _ _ => rfl)) aF (@bO _ _ (by decide) (by decide)))) (fun R => (@dY _ _ _ _ _ (aA (pv 0) (aA (@jW _ _ _ _ _ _ hu (pv 1) (pv 0) (fun _ _ => rfl)) aB)))) (by exact Or.inl rfl) (by trivial) (by rfl) (by rfl) (by rfl) (by rfl) (by rfl) (by rfl) (by rfl) (by rfl) (by intro _; rfl)) (aH (@aS _ _ _ _ (@dY _ _ _ _ _ (aA (@bD _ _ _ _ _ _ _ _ _ _ G_p_coins_of (hr.mono (by decide)) (aA (pv 0) (aA (pv 6) aB)) (by rfl) (by decide) (by rfl) (by rfl)) (aA (pv 6) (aA (pv 7) aB)))))))))))), ?_⟩
 refine ⟨_, rfl, _, rfl, _, rfl, _, _, _, rfl, p, l, fs, ds, zs, lv, rfl, L, rfl, hl, l1, nd, sub, rfl, hL, fun H1 S1 => ?_⟩
 refine ⟨_, rfl, _, rfl, _, _, rfl, p, fs, ds, lv, rfl, L.same S1, rfl, fun dm H2 S2 nm2 hm2 => ?_⟩
 have T2 := S1.trans S2
 refine ⟨_, rfl, _, rfl, _, _, rfl, p, dm, fs, ds, lv, rfl, L.same T2, rfl, hm2, fun o ls us H3 S3 nls hls ius => ?_⟩
 have nmH : H dm = none := S1.free nm2
 have T3 : aI H H3 := fun b u e => S3 _ _ (by rw [aQ (fun c => by rw [c, nmH] at e; cases e)]; exact T2 _ _ e)
 have hm3 : H3 dm = some (.frz o (.dK (dP (aU fs ds lv)))) := S3 _ _ aE
 refine ⟨_, rfl, _, rfl, _, rfl, _, _, _, rfl, ls, dm, l, o, us, "sea" :: fs.map aL, aU fs ds lv, zs, rfl, hls, ius, by omega, v13, GG, rfl, hm3, rfl, T3 _ _ hl, ns, fun de fl H4 S4 nde hde st en => ?_⟩
 have T4 := T3.trans S4
 have ius4 := IsL.same S4 _ _ ius
 refine ⟨_, rfl, _, rfl, _, rfl, _, rfl, _, _, _, rfl, ls, dm, de, us, "sea" :: fs.map aL, aU fs ds lv, fl, rfl, S4 _ _ hls, ius4, by omega, v13, GG, rfl, .inr ⟨o, S4 _ _ hm3⟩, rfl, .inl hde, fun df cm kvs H5 S5 ndf hdf ck cg op l13 => ?_⟩
 have T5 := T4.trans S5
 refine ⟨_, rfl, _, rfl, _, _, _, _, ls, df, l, us, "sea" :: fs.map aL, aU fs ds lv, kvs, cm, zs, lv, rfl, rfl, (S4.trans S5) _ _ hls, IsL.same S5 _ _ ius4, by omega, v13, GG, rfl, .inl hdf, ck, rfl, T5 _ _ hl, nd, fun z m => List.mem_cons_of_mem _ (sub z m), rfl, fun cmB lk uk H6 S6 nlk hlk iuk cgB opB => ?_⟩
 have rd := aGK GG en cg op cgB opB
 have T6 := T5.trans S6
 have hde6 := (S5.trans S6) _ _ hde
 have ndeH : H de = none := T3.free nde
 refine ⟨_, rfl, de, _, rfl, hde6, fun o2 => ?_⟩
 have T7 : aI H (upd H6 de (.frz o2 (.dK (dX (aU fs ds lv) fl)))) := T6.over ndeH
 have K7 : gR H6 (upd H6 de (.frz o2 (.dK (dX (aU fs ds lv) fl)))) := fun b ys e => by
  rw [aQ (fun c => by rw [c, hde6] at e; cases e)]
  exact e
 have iuk7 : IsL (upd H6 de (.frz o2 (.dK (dX (aU fs ds lv) fl)))) ((eN (aU fs ds lv) (keys cm) (keys cmB)).map (kA lv)) uk := IsL.keep K7 _ _ (fA fun d m => by obtain ⟨s, _, rfl⟩ := List.mem_map.mp m; rfl) iuk
 have hlk7 : upd H6 de (.frz o2 (.dK (dX (aU fs ds lv) fl))) lk = some (.lst uk) := by rw [aQ (vP hlk hde6 (by intro c; cases c))]; exact hlk
 have dF : upd H6 de (.frz o2 (.dK (dX (aU fs ds lv) fl))) de = some (.frz o2 (.dK (dX (aU fs ds lv) fl))) := aE
 generalize upd H6 de (.frz o2 (.dK (dX (aU fs ds lv) fl))) = H7 at T7 iuk7 hlk7 dF
 refine qH (by rw [mY]; omega) (fun i ys H' => aI H7 H' ∧ IsL H' (aIF ((aU fs ds lv).take i) fl) ys) ⟨aI.refl _, rfl⟩ ?_ ?_ ?_
 ·rintro i ys H' hi ⟨S', iy⟩
  refine ⟨S' _ _ dF, ?_⟩
  have := iy.length
  unfold aIF at this
  have := List.length_filter_le (fun g : Gap => !decide (fl g.nm = 0)) ((aU fs ds lv).take i)
  rw [List.length_take] at this
  rw [List.length_map] at *
  omega
 ·rintro i kv ys H' K1 K2 hk ⟨S', iy⟩ k1 k2
  unfold dX at hk
  rw [List.getElem?_map] at hk
  obtain ⟨g, eg, ekv⟩ := Option.map_eq_some_iff.mp hk
  have mg' := List.mem_of_getElem? eg
  have ek : kV kv.1 = V.str g.nm := by rw [← ekv]; rfl
  rw [ek]
  have v2 : fS (dX (aU fs ds lv) fl) (Sum.inr g.nm) = some (.int (fl g.nm)) := vT (f := fun g => V.int (fl g.nm)) GG.nd mg'
  have et := dM (P := fun g : Gap => !decide (fl g.nm = 0)) eg
  refine ⟨_, rfl, _, rfl, de, _, rfl, .inl ⟨_, Sum.inr g.nm, .inr ⟨o2, S' _ _ dF⟩, rfl, v2.symm⟩, rfl, _, rfl, ?_⟩
  rw [jY]
  cases hg : (!decide (fl g.nm = 0)) with
  | false =>
   rw [hg] at et
   refine bG (k2 _ ⟨S', ?_⟩)
   unfold aIF at iy ⊢
   rw [et]
   simpa using iy
  | true =>
   rw [hg] at et
   refine cA ⟨_, rfl, _, rfl, _, rfl, de, _, rfl, .inl ⟨_, Sum.inr g.nm, .inr ⟨o2, S' _ _ dF⟩, rfl, v2.symm⟩, aN rfl, fun ta hta => k1 _ _ ⟨S'.trans (aI.upd hta), ?_⟩⟩
   unfold aIF
   rw [et, if_pos rfl, List.map_append]
   exact IsL.snoc (show Is _ (aKK fl g) (.ref ta) from ⟨ta, _, rfl, aE, _, _, rfl, rfl, _, _, rfl, rfl, rfl⟩) (IsL.same (aI.upd hta) _ _ iy)
 rintro ua H8 ⟨S8, iua⟩
 rw [mY, List.take_of_length_le (Nat.le_refl _)] at iua
 intro la hla
 have S9 := aI.upd (o := .lst ua) hla
 have r9 : upd H8 la (.lst ua) la = some (.lst ua) := aE
 have T9 := T7.trans (S8.trans S9)
 have nla := (T7.trans S8).free hla
 have U9 := S8.trans S9
 have iua9 := IsL.same S9 _ _ iua
 have nlka : lk ≠ la := aV (S8 _ _ hlk7) hla
 generalize upd H8 la (.lst ua) = H9 at S9 r9 T9 U9 iua9
 have iuk9 := IsL.same U9 _ _ iuk7
 have hlk9 := U9 _ _ hlk7
 have rl := aEF (G := aU fs ds lv) (R := keys cm) (B := keys cmB)
 refine ⟨_, rfl, _, rfl, _, _, rfl, p, fs, ds, (eN (aU fs ds lv) (keys cm) (keys cmB)).map (kA lv), rfl, L.same T9, ⟨lk, uk, rfl, hlk9, iuk9⟩, by rw [List.length_map]; omega, aAN gd hL GG rd.bout, _, rfl, _, rfl, aN rfl, fun t ht => ?_⟩
 have S10 := aI.upd (o := .tup [.int (yC ds ((eN (aU fs ds lv) (keys cm) (keys cmB)).map (kA lv))), .ref lk, .ref la]) ht
 refine q t lk la uk ua fl (keys cm) (keys cmB) _ (T9.trans S10) (T9.free ht) (T5.free nlk) nla nlka ?_ (S10 _ _ hlk9) (IsL.same S10 _ _ iuk9) (S10 _ _ r9) (IsL.same S10 _ _ iua9) st rd
 rw [aE, aAO gd GG st rd]
open Mt53 Mt22 MtF Mt31 Mt61
theorem tN {V0 : List Str} {G : List Gap} (GG : Gaps V0 G) : Least G [] 0 := by
 refine ⟨⟨fun _ => false, rfl, fun z m => (nomatch m), jU fun g _ => if_pos rfl⟩, fun X _ _ => ?_⟩
 have : sm G (fun _ => (0 : Int)) ≤ sm G (lR X) := yY fun g m => by
  have := GG.cap g m
  unfold lR
  split <;> omega
 rw [jU fun _ _ => rfl] at this
 exact this
theorem Least.congr {G : List Gap} {ws ws' : List Str} {c : Int} (h : Least G ws c) (e : ∀ z, z ∈ ws ↔ z ∈ ws') : Least G ws' c := by
 obtain ⟨⟨X, s, w, ec⟩, a⟩ := h
 exact ⟨⟨X, s, fun z m => w z ((e z).mpr m), ec⟩, fun X' s' w' => a X' s' fun z m => w' z ((e z).mp m)⟩
def wU : Sp := sp1 fun x H Q => ∃ L : Int, x = .int L ∧ hgt L = true ∧ Q (.int 0) H
theorem jX (T : Txt K mg C) : Fc P w K mg base 3 "cost_of_none" ["height"] wU := by
 have G_p_is_height : Fc P w K mg base 2 "is_height" ["thing"] fZ := cR T
 refine T.d_p_cost_of_none.fc jV oK (fun f cdv A outer s H vs Q E hr h => ?_)
 obtain ⟨x, rfl, lv, rfl, hL, q⟩ := h
 refine ⟨_, (aG (@dL _ _ _ _ _ _ _ _ (@cY _ _ _ _ (@cB _ _ _ (@bD _ _ _ _ _ _ _ _ _ _ G_p_is_height (hr.mono (by decide)) (aA (pv 0) aB) (by rfl) (by decide) (by rfl) (by rfl)) (by intro _; rfl))) (aH mJ) bQ) (aH (@aS _ _ _ _ aF))), ?_⟩
 refine ⟨_, rfl, _, rfl, .int lv, rfl, _, rfl, ?_⟩
 rw [show cT (.int lv) = true from hL]
 exact bG q
def aAV (C : Addr) : Sp := sp3 fun x y u H Q => ∃ (p l : Addr) (fs ds : List Dv) (zs : List Str) (L : Int), x = .ref p ∧ LandAt C H p fs ds ∧ y = .ref l ∧ H l = some (.lst (zs.map V.str)) ∧ zs.Nodup ∧ (∀ z ∈ zs, z ∈ fs.map aL) ∧ u = .int L ∧ hgt L = true ∧
 ∀ (c : Int) (H' : Hp), aI H H' → Least (aU fs ds L) zs c → Q (.int c) H'
theorem aEL (T : Txt K mg C) : Fc P w K mg base 7 "cost" ["land", "fields", "height"] (aAV C) := by
 have G_p_cost_of_none : Fc P w K mg base 3 "cost_of_none" ["height"] wU := jX T
 have G_p_fewest : Fc P w K mg base 6 "fewest" ["land", "fields", "height"] (rZ C) := qO T
 refine T.d_p_cost.fc vF pW (fun f cdv A outer s H vs Q E hr h => ?_)
 obtain ⟨x, y, u, rfl, p, l, fs, ds, zs, lv, rfl, L, rfl, hl, nd, sub, rfl, hL, q⟩ := h
 have gf := (bV L).1
 have gd := (bV L).2
 have GG := nP gf gd lv
 refine ⟨_, (aG (@dL _ _ _ _ _ _ _ _ (@PW.pt _ _ _ (@kB _ _ _ _ _ _ _ (@cB _ _ _ (@aT _ _ _ _ _ _ _ _ _ (@cD _ (K) rfl) rfl T.n_isinstance bA (aA (pv 1) (aA (@kR _ _ _ _ T.n_list dA (by rfl) (by decide) (by decide)) aB)) (by decide) (by decide) (by rfl) (by rfl)) (by intro _; rfl)) (@iT _ _ _ _ (@bI _ _ _ _ _ _ _ _ jK (@aT _ _ _ _ _ _ _ _ _ (@bH _ (K) rfl) rfl T.n_len bT (aA (pv 1) aB) (by decide) (by decide) (by rfl) (by rfl)) aF (@bO _ _ (by decide) (by decide)))))) (aH (@aS _ _ _ _ (@bD _ _ _ _ _ _ _ _ _ _ G_p_cost_of_none (hr.mono (by decide)) (aA (pv 2) aB) (by rfl) (by decide) (by rfl) (by rfl)))) bQ) (aH (@aS _ _ _ _ (@bC _ _ _ _ _ _ _ (@aW _ (K) rfl) (@bD _ _ _ _ _ _ _ _ _ _ G_p_fewest (hr.mono (by decide)) (aA (pv 0) (aA (pv 1) (aA (pv 2) aB))) (by rfl) (by decide) (by rfl) (by rfl)) aF (fun _ _ => rfl))))), ?_⟩
 refine ⟨_, rfl, _, _, _, _, _, rfl, rfl, TyOf.lst hl, iM _ _, _, rfl, ?_⟩
 refine cA ?_
 refine ⟨_, rfl, l, _, rfl, .inl (SqL.of hl), rfl, _, rfl, ?_⟩
 cases zs with
 | nil =>
  show (if true = true then _ else _)
  exact cA ⟨_, rfl, _, rfl, lv, rfl, hL, q 0 H (aI.refl _) (tN GG)⟩
 | cons z zr =>
  rw [decide_eq_false (fun e => by have := V.int.inj e; rw [List.length_map, List.length_cons] at this; omega)]
  refine bG ?_
  refine ⟨_, rfl, _, rfl, _, rfl, _, _, _, rfl, p, l, fs, ds, z :: zr, lv, rfl, L, rfl, hl, by rw [List.length_cons]; omega, nd, sub, rfl, hL, fun t lk la uk ua f' R B H' S' nt nlk nla nka ht hk ik ha ia st rd => ?_⟩
  exact ⟨t, _, 0, _, rfl, rfl, SqT.of ht, aO (j := 0) rfl, q _ H' S' (qK GG st rd)⟩
open Mt53 Mt22 MtF Mt31 Mt61
def aCN (K : PySem.W.Frag) : Sp := sp1 fun x H Q => Scr K H x ∧ ∀ (t lf ld : Addr) (vf vd : List V) (fs ds : List Dv) (H' : Hp), aI H H' → H' t = some (.tup [.ref lf, .ref ld]) → H' lf = some (.lst vf) → IsL H' fs vf → H' ld = some (.lst vd) → IsL H' ds vd → Fds fs 5 → Dks ("sea" :: fs.map aL) ds 10 → Q (.ref t) H'
theorem aBE (T : Txt K mg C) : Fc P w K mg base 3 "_law_small" ["_law_script"] (aCN K) := by
 have G_l_cell_at : Fc P w K mg base 1 "_law_cell_at" ["_law_script", "_law_k"] (sA K) := iV T
 have G_l_fields : Fc P w K mg base 2 "_law_fields" ["_law_script", "_law_many"] (vA K) := zL T
 have G_l_dykes : Fc P w K mg base 2 "_law_dykes" ["_law_script", "_law_fields_here", "_law_many"] (yV K) := aBG T
 refine T.d_l_small.fc oF oK (fun f cdv A outer s H vs Q E hr h => ?_)
 obtain ⟨x, rfl, scr, q⟩ := h
 obtain ⟨a, ns, rfl, hS, hl⟩ := id scr
 refine ⟨_, (aG (@aY _ _ (1) _ _ _ _ oF.nd rfl (Or.inl rfl) (@bD _ _ _ _ _ _ _ _ _ _ G_l_cell_at (hr.mono (by decide)) (aA (pv 0) (aA aF aB)) (by rfl) (by decide) (by rfl) (by rfl)) (by rfl) (by trivial)) (aG (@aY _ _ (2) _ _ _ _ oF.nd rfl (Or.inl rfl) (@bD _ _ _ _ _ _ _ _ _ _ G_l_fields (hr.mono (by decide)) (aA (pv 0) (aA (@aK _ _ _ _ _ _ _ _ cP aF (@aK _ _ _ _ _ _ _ _ cM (pv 1) aF)) aB)) (by rfl) (by decide) (by rfl) (by rfl)) (by rfl) (by trivial)) (aH (@aS _ _ _ _ (@dY _ _ _ _ _ (aA (pv 2) (aA (@bD _ _ _ _ _ _ _ _ _ _ G_l_dykes (hr.mono (by decide)) (aA (pv 0) (aA (pv 2) (aA (@aK _ _ _ _ _ _ _ _ cP aF (@aK _ _ _ _ _ _ _ _ cM (@aK _ _ _ _ _ _ _ _ bN (pv 1) aF) aF)) aB))) (by rfl) (by decide) (by rfl) (by rfl)) aB))))))), ?_⟩
 refine ⟨_, rfl, _, _, rfl, a, ns, 0, rfl, rfl, hS, hl, Int.le_refl _, ?_⟩
 generalize ns.getD (0 : Int).toNat 0 = c
 have m1 := Int.emod_nonneg c (show (5 : Int) ≠ 0 by decide)
 have m2 := Int.emod_lt_of_pos c (show (0 : Int) < 5 by decide)
 have m3 := Int.emod_nonneg (c / 5) (show (10 : Int) ≠ 0 by decide)
 have m4 := Int.emod_lt_of_pos (c / 5) (show (0 : Int) < 10 by decide)
 obtain ⟨k, hk⟩ := Int.eq_ofNat_of_zero_le (show 0 ≤ 1 + c % 5 by omega)
 obtain ⟨n, hn⟩ := Int.eq_ofNat_of_zero_le (show 0 ≤ 1 + c / 5 % 10 by omega)
 refine ⟨_, rfl, _, rfl, _, _, rfl, rfl, (iO rfl), _, _, rfl, rfl, ?_⟩
 refine ⟨_, _, rfl, k, scr, by rw [← hk], by omega, by omega, fun lf vf fs H2 S2 flf hlf hif gf => ?_⟩
 refine ⟨_, rfl, _, rfl, _, rfl, _, rfl, _, _, rfl, rfl, ⟨by decide, by decide⟩, _, _, rfl, rfl, (iO rfl), _, _, rfl, rfl, ?_⟩
 refine ⟨_, _, _, rfl, n, lf, vf, fs, k, scr.same S2, rfl, hlf, hif, gf, by omega, by rw [← hn], by omega, by omega, fun ld vd ds H3 S3 fld hld hid gd => ?_⟩
 refine ⟨aN rfl, fun p hp => ?_⟩
 have S4 := aI.upd (o := .tup [.ref lf, .ref ld]) hp
 have f2 := gf.l2
 have d2 := gd.l2
 exact q p lf ld vf vd fs ds _ (S2.trans (S3.trans S4)) aE ((S3.trans S4) _ _ hlf) (IsL.same (S3.trans S4) _ _ hif) (S4 _ _ hld) (IsL.same S4 _ _ hid) ⟨gf.l1, by omega, gf.all, gf.nd⟩ ⟨gd.l1, by omega, gd.all, gd.nd⟩
def vB (K : PySem.W.Frag) : Sp := sp2 fun x y H Q => ∃ (l : Addr) (zs : List Str) (n : Int), x = .ref l ∧ H l = some (.lst (zs.map V.str)) ∧ zs.length ≤ 5 ∧ zs.Nodup ∧ y = .int n ∧ ∀ (lr : Addr) (ys : List Str) (H' : Hp), aI H H' → H lr = none → H' lr = some (.lst (ys.map V.str)) → ys.Nodup → (∀ y ∈ ys, y ∈ zs) → Q (.ref lr) H'
theorem aOF : ∀ i < 5, ∃ d : Int, 0 < d ∧ d ≤ 16 ∧ ([V.int 1, V.int 2, V.int 4, V.int 8, V.int 16] : List V)[i]? = some (.int d) := by
 intro i hi
 match i, hi with
 | 0, _ => exact ⟨1, by decide, by decide, rfl⟩
 | 1, _ => exact ⟨2, by decide, by decide, rfl⟩
 | 2, _ => exact ⟨4, by decide, by decide, rfl⟩
 | 3, _ => exact ⟨8, by decide, by decide, rfl⟩
 | 4, _ => exact ⟨16, by decide, by decide, rfl⟩
theorem aMU {d : Int} (h0 : 0 < d) (h1 : d ≤ 16) : d.natAbs.log2 < 9000 := by
 have : d.natAbs < 2 ^ 9000 := Nat.lt_of_le_of_lt (show d.natAbs ≤ 16 by omega) (Nat.lt_of_lt_of_le (show 16 < 2 ^ 5 by decide) (Nat.pow_le_pow_right (by decide) (by decide)))
 exact (Nat.log2_lt (by omega)).mpr this
theorem xQ (T : Txt K mg C) : Fc P w K mg base 1 "_law_company" ["_law_names", "_law_number"] (vB K) := by
 refine T.d_l_company.fc iS jM (fun f cdv A outer s H vs Q E hr h => ?_)
 obtain ⟨x, y, rfl, l, zs, n, rfl, hl, l5, nd, rfl, q⟩ := h
 have big := bY
 refine ⟨_, (aG (@aY _ _ (2) _ _ _ _ iS.nd rfl (Or.inl rfl) (@cG _ _ _ _ aB) (by rfl) (by trivial)) (aG (@iN _ _ _ _ _ _ _ _ PassesOwn.never rfl (@gX _ _ _ _ _ _ rfl T.n_range (aA (@aT _ _ _ _ _ _ _ _ _ (@bH _ (K) rfl) rfl T.n_len bT (aA (pv 0) aB) (by decide) (by decide) (by rfl) (by rfl)) aB) (by rfl)) (@aP _ _ (3) _ iS.nd rfl (Or.inl rfl) (by trivial)) (aH (@dL _ _ _ _ _ _ _ _ (@bI _ _ _ _ _ _ _ _ jK (@aK _ _ _ _ _ _ _ _ cM (@aK _ _ _ _ _ _ _ _ bN (pv 1) (@bC _ _ _ _ _ _ _ (@cO _ (K) rfl) (@cG _ _ _ _ (aA aF (aA aF (aA aF (aA aF (aA aF aB)))))) (pv 3) (fun _ _ => rfl))) aF) aF (@bO _ _ (by decide) (by decide))) (aH (@fQ _ _ _ _ (@lQ _ _ _ _ _ _ _ _ _ _ _ _ PySem.F.plainAttrs_list PySem.F.slot_list_append PySem.F.type_list_append eM (pv 2) (aA (@bC _ _ _ _ _ _ _ (@cO _ (K) rfl) (pv 0) (pv 3) (fun _ _ => rfl)) aB) (by rfl) (by rfl) (by rfl) (by rfl) (by rfl)) (by rfl))) bQ)) (by intro _; rfl)) (aG (@dL _ _ _ _ _ _ _ _ (@bI _ _ _ _ _ _ _ _ jK (@aK _ _ _ _ _ _ _ _ cM (@aK _ _ _ _ _ _ _ _ bN (pv 1) aF) aF) aF (@bO _ _ (by decide) (by decide))) (aH (@aY _ _ (2) _ _ _ _ iS.nd rfl (Or.inl rfl) (sQ rfl rfl T.n_list rfl T.n_reversed (aA (pv 2) aB)) (by rfl) (by trivial))) bQ) (aH (@aS _ _ _ _ (pv 2)))))), ?_⟩
 refine ⟨aN rfl, fun lr hlr => ?_⟩
 have S1 := aI.upd (o := .lst []) hlr
 have r1 : upd H lr (.lst []) lr = some (.lst (([] : List Str).map V.str)) := aE
 generalize upd H lr (.lst []) = H1 at S1 r1
 refine ⟨_, rfl, l, _, rfl, .inl (SqL.of (S1 _ _ hl)), _, rfl, by rw [List.length_map]; omega, by rw [List.length_map]; omega, ?_⟩
 rw [List.length_map, Int.toNat_natCast]
 refine kY (lo := 0) (n := zs.length) (fun i σ H' => ∃ (v3 : Option V) (ys : List Str), σ = [some (.ref l), some (.int n), some (.ref lr), v3] ∧ aI H H' ∧ H' lr = some (.lst (ys.map V.str)) ∧ ys.Nodup ∧ (∀ y ∈ ys, y ∈ zs.take i) ∧ ys.length ≤ i) ⟨_, [], rfl, S1, r1, by simp, (fun y m => nomatch m), Nat.le_refl _⟩ ?_ ?_
 ·rintro i σ H' hi ⟨v3, ys, rfl, S', hr', ndy, suby, ly⟩
  obtain ⟨z, ez⟩ : ∃ z, zs[i]? = some z := ⟨_, List.getElem?_eq_getElem hi⟩
  obtain ⟨d, d0, d16, ed⟩ := aOF i (by omega)
  have ad : atI ([V.int 1, V.int 2, V.int 4, V.int 8, V.int 16] : List V) (0 + (i : Int)) = some (.int d) := by rw [Int.zero_add]; exact aO ed
  have az : atI (zs.map V.str) (0 + (i : Int)) = some (.str z) := by rw [Int.zero_add]; exact aO (by rw [List.getElem?_map, ez]; rfl)
  have ez' : zs.take (i + 1) = zs.take i ++ [z] := by rw [List.take_add_one, ez]; rfl
  refine ⟨_, rfl, aN rfl, fun la hla => ?_⟩
  have Sa := aI.upd (o := .lst [.int 1, .int 2, .int 4, .int 8, .int 16]) hla
  have ra : upd H' la (.lst [.int 1, .int 2, .int 4, .int 8, .int 16]) la = _ := aE
  generalize upd H' la (.lst [.int 1, .int 2, .int 4, .int 8, .int 16]) = Ha at Sa ra
  refine ⟨_, rfl, la, _, _, .int d, rfl, rfl, SqL.of ra, ad, _, _, rfl, rfl, ⟨d0, aMU d0 d16⟩, _, _, rfl, rfl, (iO rfl), rfl, _, rfl, ?_⟩
  have Ta := S'.trans Sa
  have hra := Sa _ _ hr'
  refine jR (fun _ => ?_) (fun _ => ?_)
  ·refine ⟨_, rfl, .inl ⟨rfl, _, SqL.of hra⟩, _, rfl, _, rfl, l, _, _, .str z, rfl, rfl, SqL.of (Ta _ _ hl), az, lr, _, .str z, rfl, rfl, hra, by rw [List.length_map]; omega, ?_⟩
   refine ⟨_, ys ++ [z], rfl, Ta.over hlr, by rw [aE, List.map_append]; rfl, ?_, fun y m => ?_, by rw [List.length_append]; show _ + 1 ≤ _; omega⟩
   ·rw [List.nodup_append]
    refine ⟨ndy, by simp, fun a ha b hb => ?_⟩
    rw [List.mem_singleton.mp hb]
    intro e
    have mz := suby a ha
    rw [e] at mz
    obtain ⟨j, hj⟩ := List.mem_iff_getElem?.mp mz
    have hjl := (List.getElem?_eq_some_iff.mp hj).1
    rw [List.length_take] at hjl
    rw [List.getElem?_take_of_lt (by omega)] at hj
    obtain ⟨h1, e1⟩ := List.getElem?_eq_some_iff.mp hj
    obtain ⟨h2, e2⟩ := List.getElem?_eq_some_iff.mp ez
    have := (List.getElem_inj nd).mp (e1.trans e2.symm)
    omega
   ·rw [ez']
    rcases List.mem_append.mp m with m | m
    ·exact List.mem_append_left _ (suby y m)
    ·exact List.mem_append_right _ m
  ·exact ⟨_, ys, rfl, Ta, hra, ndy, fun y m => by rw [ez']; exact List.mem_append_left _ (suby y m), by omega⟩
 ·rintro σ H' ⟨v3, ys, rfl, S', hr', ndy, suby, ly⟩
  rw [List.take_of_length_le (Nat.le_refl _)] at suby
  refine ⟨_, rfl, _, _, rfl, rfl, ⟨by decide, by decide⟩, _, _, rfl, rfl, (iO rfl), rfl, _, rfl, ?_⟩
  refine jR (fun _ => ?_) (fun _ => ?_)
  ·refine ⟨_, rfl, lr, _, rfl, SqL.of hr', fun l2 h2 => ?_⟩
   refine ⟨_, rfl, q l2 ys.reverse _ (S'.trans (aI.upd h2)) (S'.free h2) (by rw [aE, List.map_reverse]) ?_ fun y m => suby y (List.mem_reverse.mp m)⟩
   exact List.pairwise_reverse.mpr (List.Pairwise.imp (fun h => Ne.symm h) ndy)
  ·exact ⟨_, rfl, q lr ys H' S' hlr hr' ndy suby⟩
open Mt53 Mt22 MtF Mt31 Mt61
def zZ (G : List Gap) (inner : List Str) : Int := sm G fun g => if decide (g.a ∈ inner) = decide (g.b ∈ inner) then 0 else g.cap
def dH (cs : List (List Str)) (z : Str) : List (List Str) := cs ++ cs.map fun c => c ++ [z]
theorem aIC {base : List Str} : ∀ (fr : List Str) (cs : List (List Str)) (dn : List Str), (∀ c ∈ cs, (∀ z ∈ base, z ∈ c) ∧ ∀ z ∈ c, z ∈ base ∨ z ∈ dn) → ∀ inner ∈ fr.foldl dH cs, (∀ z ∈ base, z ∈ inner) ∧ ∀ z ∈ inner, z ∈ base ∨ z ∈ dn ∨ z ∈ fr
 | [], cs, dn, h, inner, m => ⟨(h inner m).1, fun z mz => ((h inner m).2 z mz).imp id .inl⟩
 | y :: fr, cs, dn, h, inner, m => by
  have m' : inner ∈ fr.foldl dH (dH cs y) := m
  have := aIC fr (dH cs y) (y :: dn) (fun c mc => by
   unfold dH at mc
   rcases List.mem_append.mp mc with mc | mc
   ·exact ⟨(h c mc).1, fun z mz => ((h c mc).2 z mz).imp id (List.mem_cons_of_mem _)⟩
   ·obtain ⟨c', mc', rfl⟩ := List.mem_map.mp mc
    refine ⟨fun z mz => List.mem_append_left _ ((h c' mc').1 z mz), fun z mz => ?_⟩
    rcases List.mem_append.mp mz with mz | mz
    ·exact ((h c' mc').2 z mz).imp id (List.mem_cons_of_mem _)
    ·exact .inr (by rw [List.mem_singleton.mp mz]; exact List.mem_cons_self)) inner m'
  refine ⟨this.1, fun z mz => ?_⟩
  rcases this.2 z mz with q | q | q
  ·exact .inl q
  ·rcases List.mem_cons.mp q with rfl | q
   ·exact .inr (.inr List.mem_cons_self)
   ·exact .inr (.inl q)
  ·exact .inr (.inr (List.mem_cons_of_mem _ q))
theorem aBY (X : Str → Bool) : ∀ (fr : List Str) (cs : List (List Str)) (c : List Str), c ∈ cs → ∃ inner ∈ fr.foldl dH cs, ∀ z, z ∈ inner ↔ z ∈ c ∨ (z ∈ fr ∧ X z = true)
 | [], cs, c, m => ⟨c, m, fun z => ⟨.inl, fun h => by
  rcases h with h | h
  ·exact h
  ·exact absurd h.1 (by simp)⟩⟩
 | y :: fr, cs, c, m => by
  cases hx : X y with
  | true =>
   obtain ⟨inner, mi, h⟩ := aBY X fr (dH cs y) (c ++ [y]) (List.mem_append_right _ (List.mem_map.mpr ⟨c, m, rfl⟩))
   refine ⟨inner, mi, fun z => ?_⟩
   rw [h z, List.mem_append, List.mem_singleton, List.mem_cons]
   constructor
   ·rintro ((q | q) | ⟨q, r⟩)
    ·exact .inl q
    ·exact .inr ⟨.inl q, by rw [q]; exact hx⟩
    ·exact .inr ⟨.inr q, r⟩
   ·rintro (q | ⟨q | q, r⟩)
    ·exact .inl (.inl q)
    ·exact .inl (.inr q)
    ·exact .inr ⟨q, r⟩
  | false =>
   obtain ⟨inner, mi, h⟩ := aBY X fr (dH cs y) c (List.mem_append_left _ m)
   refine ⟨inner, mi, fun z => ?_⟩
   rw [h z, List.mem_cons]
   constructor
   ·rintro (q | ⟨q, r⟩)
    ·exact .inl q
    ·exact .inr ⟨.inr q, r⟩
   ·rintro (q | ⟨q | q, r⟩)
    ·exact .inl q
    ·rw [q, hx] at r
     cases r
    ·exact .inr ⟨q, r⟩
theorem yE : ∀ (fr : List Str) (cs : List (List Str)), (fr.foldl dH cs).length = cs.length * 2 ^ fr.length
 | [], cs => by simp
 | y :: fr, cs => by
  show (fr.foldl dH (dH cs y)).length = _
  rw [yE fr, List.length_cons, Nat.pow_succ]
  unfold dH
  rw [List.length_append, List.length_map, ← Nat.two_mul, Nat.mul_comm 2, Nat.mul_assoc, Nat.mul_comm 2]
theorem aHC {G : List Gap} {low ws : List Str} (hG : ∀ g ∈ G, (g.a = Mt22.sea ∨ g.a ∈ low) ∧ (g.b = Mt22.sea ∨ g.b ∈ low)) (sl : Mt22.sea ∉ low) (sw : Mt22.sea ∉ ws) {c : Int}
  (mc : c ∈ ((low.filter fun z => !decide (z ∈ ws)).foldl dH [low.filter fun z => decide (z ∈ ws)]).map (zZ G)) (lc : ∀ a ∈ ((low.filter fun z => !decide (z ∈ ws)).foldl dH [low.filter fun z => decide (z ∈ ws)]).map (zZ G), c ≤ a) : Least G ws c := by
 have inn := aIC (base := low.filter fun z => decide (z ∈ ws)) (low.filter fun z => !decide (z ∈ ws)) [low.filter fun z => decide (z ∈ ws)] [] (fun c mc => by rw [List.mem_singleton.mp mc]; exact ⟨fun z m => m, fun z m => .inl m⟩)
 have lowIn : ∀ inner ∈ (low.filter fun z => !decide (z ∈ ws)).foldl dH [low.filter fun z => decide (z ∈ ws)], ∀ z ∈ inner, z ∈ low := fun inner m z mz => by
  rcases (inn inner m).2 z mz with q | q | q
  ·exact (List.mem_filter.mp q).1
  ·cases q
  ·exact (List.mem_filter.mp q).1
 refine ⟨?_, fun X hs hw => ?_⟩
 ·obtain ⟨inner, mi, rfl⟩ := List.mem_map.mp mc
  refine ⟨fun z => decide (z ∈ inner ∨ z ∈ ws), decide_eq_false (fun h => ?_), fun z m => decide_eq_true (.inr m), ?_⟩
  ·rcases h with h | h
   ·exact sl (lowIn inner mi _ h)
   ·exact sw h
  ·have side : ∀ z, z = Mt22.sea ∨ z ∈ low → decide (z ∈ inner ∨ z ∈ ws) = decide (z ∈ inner) := fun z h => by
    rcases h with rfl | h
    ·rw [decide_eq_false (fun h => by rcases h with h | h; exact sl (lowIn inner mi _ h); exact sw h), decide_eq_false (fun h => sl (lowIn inner mi _ h))]
    ·by_cases hz : z ∈ ws
     ·have : z ∈ inner := (inn inner mi).1 z (List.mem_filter.mpr ⟨h, decide_eq_true hz⟩)
      rw [decide_eq_true (.inl this), decide_eq_true this]
     ·by_cases hi : z ∈ inner
      ·rw [decide_eq_true (.inl hi), decide_eq_true hi]
      ·rw [decide_eq_false (fun h => by rcases h with h | h; exact hi h; exact hz h), decide_eq_false hi]
   refine eC fun g m => ?_
   show (if decide (g.a ∈ inner ∨ g.a ∈ ws) = decide (g.b ∈ inner ∨ g.b ∈ ws) then 0 else g.cap) = _
   rw [side g.a (hG g m).1, side g.b (hG g m).2]
 ·obtain ⟨inner, mi, h⟩ := aBY X (low.filter fun z => !decide (z ∈ ws)) [low.filter fun z => decide (z ∈ ws)] _ (List.mem_singleton.mpr rfl)
  have e : cut G X = zZ G inner := by
   have side : ∀ z, z = Mt22.sea ∨ z ∈ low → X z = decide (z ∈ inner) := fun z hz => by
    rcases hz with rfl | hz
    ·rw [hs, decide_eq_false (fun h => sl (lowIn inner mi _ h))]
    ·by_cases hw' : z ∈ ws
     ·rw [hw z hw', decide_eq_true ((h z).mpr (.inl (List.mem_filter.mpr ⟨hz, decide_eq_true hw'⟩)))]
     ·cases hx : X z with
      | true => rw [decide_eq_true ((h z).mpr (.inr ⟨List.mem_filter.mpr ⟨hz, by simp [hw']⟩, hx⟩))]
      | false =>
       rw [decide_eq_false fun m => ?_]
       rcases (h z).mp m with q | ⟨_, q⟩
       ·exact hw' (of_decide_eq_true (List.mem_filter.mp q).2)
       ·rw [hx] at q
        cases q
   refine eC fun g m => ?_
   unfold lR
   rw [side g.a (hG g m).1, side g.b (hG g m).2]
  rw [e]
  exact lc _ (List.mem_map.mpr ⟨inner, mi, rfl⟩)
open Mt53 Mt22 MtF Mt31 Mt61
def cL (fs : List Dv) (L : Int) : List Str := (fs.filter fun d => decide (lK d < L)).map aL
def gDv (g : Gap) : Dv := .tup [.str g.a, .str g.b, .int g.cap]
def jC (zs : List Str) : Dv := .lst (zs.map Dv.str)
theorem xT {fs : List Dv} (nd : (fs.map aL).Nodup) {L : Int} {z : Str} (m : z ∈ fs.map aL) : z ∈ cL fs L ↔ mU fs z < L := by
 obtain ⟨d, md, rfl⟩ := List.mem_map.mp m
 rw [nO nd md]
 unfold cL
 constructor
 ·intro h
  obtain ⟨e, me, ee⟩ := List.mem_map.mp h
  rw [List.mem_filter] at me
  have := of_decide_eq_true me.2
  have e1 := nO nd md
  have e2 := nO nd me.1
  rw [ee, e1] at e2
  rw [e2]
  exact this
 ·intro h
  exact List.mem_map.mpr ⟨d, List.mem_filter.mpr ⟨md, decide_eq_true h⟩, rfl⟩
theorem aJG {fs : List Dv} {L : Int} : ∀ z ∈ cL fs L, z ∈ fs.map aL := fun z m => by
 obtain ⟨d, md, rfl⟩ := List.mem_map.mp m
 exact List.mem_map.mpr ⟨d, (List.mem_filter.mp md).1, rfl⟩
theorem aDI (fs : List Dv) (L : Int) : (cL fs L).length ≤ fs.length := by
 unfold cL
 rw [List.length_map]
 exact List.length_filter_le _ _
theorem aGW {K : PySem.W.Frag} {H : Hp} {σ : L2.St} {j : Nat} {z : Str} {la : Addr} {low : List Str} {R : Bool → Hp → Prop} (hz : σ[j]? = some (some (.str z))) (hl : σ[4]? = some (some (.ref la))) (hla : H la = some (.lst (low.map V.str))) (q : R (decide (z = "sea") || decide (z ∈ low)) H) :
  tOr (aCG (tOp rEq (aFO j) (tC (V.str "sea")))) (aCG (tOp (rIn K false) (aFO j) (aFO 4))) σ H R := by
 refine ⟨_, hz, rfl, _, rfl, ?_⟩
 by_cases e : z = "sea"
 ·subst e
  rw [decide_eq_true rfl]
  exact cA q
 ·rw [decide_eq_false (fun c => e (V.str.inj c))]
  refine bG ⟨_, hz, _, hl, la, _, rfl, .inl (SqL.of hla), rfl, dW low, _, rfl, ?_⟩
  rw [decide_eq_false e, Bool.false_or] at q
  rw [if_neg Bool.false_ne_true, gJ]
  exact q
theorem aAD : ∀ (fr : List Str) (cs : List (List Str)) (k : Nat), (∀ c ∈ cs, c.length ≤ k) → ∀ inner ∈ fr.foldl dH cs, inner.length ≤ k + fr.length
 | [], cs, k, h, inner, m => h inner m
 | y :: fr, cs, k, h, inner, m => by
  have := aAD fr (dH cs y) (k + 1) (fun c mc => by
   unfold dH at mc
   rcases List.mem_append.mp mc with mc | mc
   ·have := h c mc
    omega
   ·obtain ⟨c', mc', rfl⟩ := List.mem_map.mp mc
    have := h c' mc'
    rw [List.length_append]
    show c'.length + 1 ≤ _
    omega) inner m
  rw [List.length_cons]
  omega
theorem aCK {H : Hp} {zs : List Str} {v : V} (h : Is H (jC zs) v) : ∃ l, v = .ref l ∧ H l = some (.lst (zs.map V.str)) := by
 obtain ⟨l, us, rfl, o, i⟩ := h
 have : ∀ {zs : List Str} {us : List V}, IsL H (zs.map Dv.str) us → us = zs.map V.str := by
  intro zs
  induction zs with
  | nil => intro us e; exact e
  | cons z zs ih =>
   intro us e
   obtain ⟨v, r, rfl, e1, e2⟩ := e
   rw [ih e2]
   cases (show v = .str z from e1)
   rfl
 rw [this i] at o
 exact ⟨l, rfl, o⟩
def wS : Sp := fun vs H Q _ => ∃ (x y u v : V) (lf ld lw : Addr) (vf vd : List V) (fs ds : List Dv) (ws : List Str) (L : Int), vs = [x, y, u, v] ∧ x = .ref lf ∧ H lf = some (.lst vf) ∧ IsL H fs vf ∧ y = .ref ld ∧ H ld = some (.lst vd) ∧ IsL H ds vd ∧ u = .ref lw ∧ H lw = some (.lst (ws.map V.str)) ∧ v = .int L ∧ Fds fs 5 ∧ Dks ("sea" :: fs.map aL) ds 10 ∧ (∀ z ∈ ws, z ∈ fs.map aL) ∧ ∀ (c : Int) (H' : Hp), aI H H' → Least (aU fs ds L) ws c → Q (.int c) H'
theorem aLD : ∀ vs H Q E, wS vs H Q E → vs.length = 4 := fun vs H Q E ⟨x, y, u, v, lf, ld, lw, vf, vd, fs, ds, ws, L, e, _⟩ => by rw [e]; rfl
theorem aBF (T : Txt K mg C) : Fc P w K mg base 1 "_law_least" ["_law_fields_here", "_law_dykes_here", "_law_wish", "_law_height"] wS := by
 refine T.d_l_least.fc cE aLD (fun f cdv A outer s H vs Q E hr h => ?_)
 obtain ⟨x, y, u, v, lf, ld, lw, vf, vd, fs, ds, ws, lv, rfl, rfl, hlf, hif, rfl, hld, hid, rfl, hlw, rfl, gf, gd, subw, q⟩ := h
 have big := bY
 have f5 := gf.l2
 have d10 := gd.l2
 have lvf := iX hif
 have lvd := iX hid
 have seaF : Mt22.sea ∉ fs.map aL := fun m => by
  obtain ⟨d, md, e⟩ := List.mem_map.mp m
  obtain ⟨z, g, u, rfl, hz, _⟩ := bJ (gf.all d md)
  exact oS hz e
 have ll := aDI fs lv
 refine ⟨_, (aG (@fT _ (4) _ _ _ _ _ _ _ _ _ _ _ _ _ cE.nd rfl ["_law_name", "_law_ground", "_law_dues", "_law_height"] 3 [3] rfl (@bM _ _ _ _ (pv 0)) (fun R => aDA (K := K) (n := 3) rfl rfl (@cF _ _ _ _ _ (@aP _ _ (0) _ (show List.Nodup (["_law_name", "_law_ground", "_law_dues", "_law_height"] : List Str) by decide +kernel) rfl (Or.inl rfl) (by trivial)) (@cF _ _ _ _ _ (@aP _ _ (1) _ (show List.Nodup (["_law_name", "_law_ground", "_law_dues", "_law_height"] : List Str) by decide +kernel) rfl (Or.inl rfl) (by trivial)) (@cF _ _ _ _ _ (@aP _ _ (2) _ (show List.Nodup (["_law_name", "_law_ground", "_law_dues", "_law_height"] : List Str) by decide +kernel) rfl (Or.inl rfl) (by trivial)) lD (by rfl)) (by rfl)) (by rfl))) (vY (fX (by decide) (fX (by decide) (fX (by decide) tT)))) (fun R => @dO _ _ _ (@bI _ _ _ _ _ _ _ _ oZ (pv 1) (pv 3) (@bO _ _ (by decide) (by decide)))) (fun R => (pv 0)) (by exact Or.inl rfl) (by trivial) (by rfl) (by rfl) (by rfl) (by rfl) (by rfl) (by rfl) (by rfl) (by rfl) (by intro _; rfl)) (aG (@aY _ _ (5) _ _ _ _ cE.nd rfl (Or.inl rfl) (@cG _ _ _ _ aB) (by rfl) (by trivial)) (aG (@iN _ _ _ _ _ _ _ _ PassesOwn.never rfl (@bM _ _ _ _ (pv 1)) (@pN _ _ _ _ _ _ rfl (@cF _ _ _ _ _ (@aP _ _ (6) _ cE.nd rfl (Or.inr rfl) (by trivial)) (@cF _ _ _ _ _ (@aP _ _ (7) _ cE.nd rfl (Or.inl rfl) (by trivial)) (@cF _ _ _ _ _ (@aP _ _ (8) _ cE.nd rfl (Or.inl rfl) (by trivial)) (@cF _ _ _ _ _ (@aP _ _ (9) _ cE.nd rfl (Or.inl rfl) (by trivial)) (@cF _ _ _ _ _ (@aP _ _ (10) _ cE.nd rfl (Or.inl rfl) (by trivial)) (@cF _ _ _ _ _ (@aP _ _ (11) _ cE.nd rfl (Or.inl rfl) (by trivial)) lD (by rfl)) (by rfl)) (by rfl)) (by rfl)) (by rfl)) (by rfl)) (by rfl) (by rfl)) (aH (@dL _ _ _ _ _ _ _ _ (@PW.pt _ _ _ (@kB _ _ _ _ _ _ _ (@bI _ _ _ _ _ _ _ _ oZ (pv 9) (pv 3) (@bO _ _ (by decide) (by decide))) (@kB _ _ _ _ _ _ _ (@PW.pt _ _ _ (@iK _ _ _ _ _ _ _ (@bI _ _ _ _ _ _ _ _ jK (pv 7) kC (@bO _ _ (by decide) (by decide))) (@gW _ _ _ _ (@bI _ _ _ _ _ _ _ _ (@dZ _ (K) rfl) (pv 7) (pv 4) (by with_unfolding_all rfl))))) (@iT _ _ _ _ (@PW.pt _ _ _ (@iK _ _ _ _ _ _ _ (@bI _ _ _ _ _ _ _ _ jK (pv 8) kC (@bO _ _ (by decide) (by decide))) (@gW _ _ _ _ (@bI _ _ _ _ _ _ _ _ (@dZ _ (K) rfl) (pv 8) (pv 4) (by with_unfolding_all rfl))))))))) (aH (@fQ _ _ _ _ (@lQ _ _ _ _ _ _ _ _ _ _ _ _ PySem.F.plainAttrs_list PySem.F.slot_list_append PySem.F.type_list_append eM (pv 5) (aA (@dY _ _ _ _ _ (aA (pv 7) (aA (pv 8) (aA (@aK _ _ _ _ _ _ _ _ gG (pv 10) (@aK _ _ _ _ _ _ _ _ gF (pv 3) (pv 9))) aB)))) aB) (by rfl) (by rfl) (by rfl) (by rfl) (by rfl)) (by rfl))) bQ)) (by intro _; rfl)) (aG (@fT _ (12) _ _ _ _ _ _ _ _ _ _ _ _ _ cE.nd rfl ["_law_name", "_law_wish"] 1 [2] rfl (@bM _ _ _ _ (pv 4)) (fun R => @aP _ _ (0) _ (show List.Nodup (["_law_name", "_law_wish"] : List Str) by decide +kernel) rfl (Or.inl rfl) (by trivial)) (@aX _ _ (by decide)) (fun R => @dO _ _ _ (@bI _ _ _ _ _ _ _ _ (@kE _ (K) rfl) (pv 0) (pv 1) (by with_unfolding_all rfl))) (fun R => (pv 0)) (by exact Or.inl rfl) (by trivial) (by rfl) (by rfl) (by rfl) (by rfl) (by rfl) (by rfl) (by rfl) (by rfl) (by intro _; rfl)) (aG (@aY _ _ (13) _ _ _ _ cE.nd rfl (Or.inl rfl) (@cG _ _ _ _ (aA (@bX _ _ _ _ _ _ _ _ _ _ _ ["_law_name", "_law_wish"] 1 [2] rfl (@bM _ _ _ _ (pv 4)) (fun R => @aP _ _ (0) _ (show List.Nodup (["_law_name", "_law_wish"] : List Str) by decide +kernel) rfl (Or.inl rfl) (by trivial)) (@aX _ _ (by decide)) (fun R => @dO _ _ _ (@bI _ _ _ _ _ _ _ _ (@dZ _ (K) rfl) (pv 0) (pv 1) (by with_unfolding_all rfl))) (fun R => (pv 0)) (by rfl) (by rfl) (by rfl) (by rfl) (by rfl) (by rfl) (by rfl) (by intro _; rfl)) aB)) (by rfl) (by trivial)) (aG (@iN _ _ _ _ _ _ _ _ PassesOwn.never rfl (@bM _ _ _ _ (pv 12)) (@aP _ _ (6) _ cE.nd rfl (Or.inr rfl) (by trivial)) (aH (@aY _ _ (13) _ _ _ _ cE.nd rfl (Or.inl rfl) (@aK _ _ _ _ _ _ _ _ pO (pv 13) (@bX _ _ _ _ _ _ _ _ _ _ _ ["_law_inner", "_law_name"] 1 [6] rfl (@bM _ _ _ _ (pv 13)) (fun R => @aP _ _ (0) _ (show List.Nodup (["_law_inner", "_law_name"] : List Str) by decide +kernel) rfl (Or.inl rfl) (by trivial)) (@aX _ _ (by decide)) (fun R => cI) (fun R => (@aK _ _ _ _ _ _ _ _ pO (pv 0) (@cG _ _ _ _ (aA (pv 1) aB)))) (by rfl) (by rfl) (by rfl) (by rfl) (by rfl) (by rfl) (by rfl) (by intro _; rfl))) (by rfl) (by trivial))) (by intro _; rfl)) (aG (@aY _ _ (14) _ _ _ _ cE.nd rfl (Or.inl rfl) (@cG _ _ _ _ aB) (by rfl) (by trivial)) (aG (@iN _ _ _ _ _ _ _ _ PassesOwn.never rfl (@bM _ _ _ _ (pv 13)) (@aP _ _ (15) _ cE.nd rfl (Or.inr rfl) (by trivial)) (aH (@fQ _ _ _ _ (@lQ _ _ _ _ _ _ _ _ _ _ _ _ PySem.F.plainAttrs_list PySem.F.slot_list_append PySem.F.type_list_append eM (pv 14) (aA (@aT _ _ _ _ _ _ _ _ _ (aAF rfl) rfl T.n_sum wD (aA (@bX _ _ _ _ _ _ _ _ _ _ _ ["_law_one", "_law_other", "_law_price", "_law_inner"] 3 [15] rfl (@bM _ _ _ _ (pv 5)) (fun R => aDA (K := K) (n := 3) rfl rfl (@cF _ _ _ _ _ (@aP _ _ (0) _ (show List.Nodup (["_law_one", "_law_other", "_law_price", "_law_inner"] : List Str) by decide +kernel) rfl (Or.inl rfl) (by trivial)) (@cF _ _ _ _ _ (@aP _ _ (1) _ (show List.Nodup (["_law_one", "_law_other", "_law_price", "_law_inner"] : List Str) by decide +kernel) rfl (Or.inl rfl) (by trivial)) (@cF _ _ _ _ _ (@aP _ _ (2) _ (show List.Nodup (["_law_one", "_law_other", "_law_price", "_law_inner"] : List Str) by decide +kernel) rfl (Or.inl rfl) (by trivial)) lD (by rfl)) (by rfl)) (by rfl))) (vY (fX (by decide) (fX (by decide) (fX (by decide) tT)))) (fun R => @dO _ _ _ (@bI _ _ _ _ _ _ _ _ vL (@dQ _ _ _ _ _ _ _ _ (@dZ _ (K) rfl) (pv 0) (pv 3) (by with_unfolding_all rfl)) (@dQ _ _ _ _ _ _ _ _ (@dZ _ (K) rfl) (pv 1) (pv 3) (by with_unfolding_all rfl)) (@bO _ _ (by decide) (by decide)))) (fun R => (pv 2)) (by rfl) (by rfl) (by rfl) (by rfl) (by rfl) (by rfl) (by rfl) (by intro _; rfl)) aB) (by decide) (by decide) (by rfl) (by rfl)) aB) (by rfl) (by rfl) (by rfl) (by rfl) (by rfl)) (by rfl))) (by intro _; rfl)) (aH (@aS _ _ _ _ (@aT _ _ _ _ _ _ _ _ _ (wC rfl) rfl T.n_min wF (aA (pv 14) aB) (by decide) (by decide) (by rfl) (by rfl)))))))))))), ?_⟩
 refine ⟨_, rfl, lf, rfl, ⟨_, SqL.of hlf⟩, ?_⟩
 refine bF (F := K) (xs := vf) (by omega) (fun i ys H' => H = H' ∧ ys = (cL (fs.take i) lv).map V.str) ⟨rfl, rfl⟩ ?_ ?_ ?_
 ·rintro i ys H' hi ⟨rfl, rfl⟩
  have := aDI (fs.take i) lv
  rw [List.length_take] at this
  exact ⟨SqL.of hlf, by rw [List.length_map]; omega⟩
 ·rintro i xv ys H' K1 K2 hx' ⟨rfl, rfl⟩ k1 k2
  have hil : i < vf.length := (List.getElem?_eq_some_iff.mp hx').1
  obtain ⟨d, ed⟩ : ∃ d, fs[i]? = some d := ⟨_, List.getElem?_eq_getElem (by omega)⟩
  obtain ⟨v, ev, iv⟩ := hif.get ed
  rw [hx'] at ev
  cases ev
  obtain ⟨z, g, u, rfl, hz, _⟩ := bJ (gf.all d (List.mem_of_getElem? ed))
  obtain ⟨t, rfl, o⟩ := jA iv
  have et := dM (P := fun d : Dv => decide (lK d < lv)) ed
  refine ⟨t, _, rfl, SqT.of o, rfl, _, _, rfl, _, _, rfl, _, _, rfl, rfl, ?_⟩
  refine ⟨_, rfl, _, rfl, _, _, rfl, rfl, _, rfl, ?_⟩
  cases hg : decide (g < lv) with
  | false =>
   refine bG (k2 _ ⟨rfl, ?_⟩)
   unfold cL
   rw [et, show decide (lK (.tup [.str z, .int g, .int u]) < lv) = false from hg]
   simp
  | true =>
   refine cA ⟨_, rfl, k1 _ _ ⟨rfl, ?_⟩⟩
   unfold cL
   rw [et, show decide (lK (.tup [.str z, .int g, .int u]) < lv) = true from hg, if_pos rfl, List.map_append, List.map_append]
   rfl
 rintro ys H1 ⟨rfl, rfl⟩
 rw [List.take_of_length_le (by omega)]
 intro la hla
 have S1 := aI.upd (o := .lst ((cL fs lv).map V.str)) hla
 have r1 : upd H la (.lst ((cL fs lv).map V.str)) la = some (.lst ((cL fs lv).map V.str)) := aE
 generalize upd H la (.lst ((cL fs lv).map V.str)) = H1 at S1 r1
 refine ⟨aN rfl, fun lg hlg => ?_⟩
 have S2 := aI.upd (o := .lst []) hlg
 have r2 : upd H1 lg (.lst []) lg = some (.lst []) := aE
 have T2 := S1.trans S2
 generalize upd H1 lg (.lst []) = H2 at S2 r2 T2
 have hlgH : H lg = none := S1.free hlg
 refine ⟨_, rfl, ld, rfl, ⟨_, SqL.of (T2 _ _ hld)⟩, kZ (K := K) (a := ld) (xs := vd) (fun i σ H' => ∃ (v6 v7 v8 v9 v10 v11 : Option V) (us : List V), σ = [some (.ref lf), some (.ref ld), some (.ref lw), some (.int lv), some (.ref la), some (.ref lg), v6, v7, v8, v9, v10, v11, none, none, none, none] ∧ aI H1 H' ∧ H' lg = some (.lst us) ∧ IsL H' ((aU fs (ds.take i) lv).map gDv) us) ⟨_, _, _, _, _, _, [], rfl, S2, r2, rfl⟩ ?_ ?_ ?_⟩
 ·rintro i σ H' hi ⟨v6, v7, v8, v9, v10, v11, us, rfl, S', hg', ig⟩
  exact SqL.of ((S1.trans S') _ _ hld)
 ·rintro i xv σ H' hx ⟨v6, v7, v8, v9, v10, v11, us, rfl, S', hg', ig⟩
  have hil : i < vd.length := (List.getElem?_eq_some_iff.mp hx).1
  obtain ⟨d, ed⟩ : ∃ d, ds[i]? = some d := ⟨_, List.getElem?_eq_getElem (by omega)⟩
  obtain ⟨v, ev, iv⟩ := (IsL.same (S1.trans S') _ _ hid).get ed
  rw [hx] at ev
  cases ev
  obtain ⟨n, a, b, c, r, sl, rfl, _, ha, hb, hab, hc, hr', _⟩ := bP (gd.all d (List.mem_of_getElem? ed))
  obtain ⟨t, sv, rfl, o, isv⟩ := jP iv
  have et : aU fs (ds.take (i + 1)) lv = aU fs (ds.take i) lv ++ (if isG fs lv (.tup [.str n, .str a, .str b, .int c, .int r, sl]) = true then [gOf lv (.tup [.str n, .str a, .str b, .int c, .int r, sl])] else []) := by
   unfold aU
   rw [dM (P := isG fs lv) ed, List.map_append]
   cases h : isG fs lv (.tup [.str n, .str a, .str b, .int c, .int r, sl]) <;> rfl
  have eG : isG fs lv (.tup [.str n, .str a, .str b, .int c, .int r, sl]) = (decide (c < lv) && (iL fs lv a && iL fs lv b)) := rfl
  have no : (decide (c < lv) && (iL fs lv a && iL fs lv b)) = false → IsL H' ((aU fs (ds.take (i + 1)) lv).map gDv) us := fun h => by
   rw [et, eG, h]
   simpa using ig
  have lus := ig.length
  have gl := kW fs (ds.take i) lv
  rw [List.length_take] at gl
  rw [List.length_map] at lus
  have lowE : ∀ z : Str, z ∈ (("sea" : Str) :: fs.map aL) → (decide (z = "sea") || decide (z ∈ cL fs lv)) = iL fs lv z := fun z mz => by
   unfold iL
   by_cases hz : z = "sea"
   ·rw [decide_eq_true hz]
    rfl
   ·have mf : z ∈ fs.map aL := by
     rcases List.mem_cons.mp mz with h | h
     ·exact absurd h hz
     ·exact h
    rw [decide_eq_false hz, Bool.false_or, Bool.false_or]
    by_cases hm : z ∈ cL fs lv
    ·rw [decide_eq_true hm, decide_eq_true ((xT gf.nd mf).mp hm)]
    ·rw [decide_eq_false hm, decide_eq_false fun h => hm ((xT gf.nd mf).mpr h)]
  have hla' := S' _ _ r1
  refine ⟨t, _, rfl, SqT.of o, rfl, _, _, rfl, _, _, rfl, _, _, rfl, _, _, rfl, _, _, rfl, _, _, rfl, rfl, ?_⟩
  refine ⟨_, rfl, _, rfl, _, _, rfl, rfl, _, rfl, ?_⟩
  cases h1 : decide (c < lv) with
  | false => exact bG ⟨_, _, _, _, _, _, us, rfl, S', hg', no (by rw [h1]; rfl)⟩
  | true =>
   refine cA ?_
   have yes : iL fs lv a = true → iL fs lv b = true → ∀ tb, H' tb = none → IsL (upd (upd H' tb (.tup [.str a, .str b, .int (r * (lv - c))])) lg (.lst (us ++ [.ref tb]))) ((aU fs (ds.take (i + 1)) lv).map gDv) (us ++ [.ref tb]) := fun h2 h3 tb htb => by
    have Sb := aI.upd (o := .tup [.str a, .str b, .int (r * (lv - c))]) htb
    rw [et, eG, h1, h2, h3]
    show IsL _ ((aU fs (ds.take i) lv ++ [gOf lv (.tup [.str n, .str a, .str b, .int c, .int r, sl])]).map gDv) _
    rw [List.map_append]
    refine IsL.keep (gR.lst (Sb _ _ hg')) _ _ (fA fun d m => ?_) (IsL.snoc (show Is _ (gDv ⟨n, a, b, r * (lv - c)⟩) (.ref tb) from ⟨tb, _, rfl, aE, _, _, rfl, rfl, _, _, rfl, rfl, _, _, rfl, rfl, rfl⟩) (IsL.same Sb _ _ ig))
    rcases List.mem_append.mp m with m | m
    ·obtain ⟨g, _, rfl⟩ := List.mem_map.mp m
     rfl
    ·rw [List.mem_singleton.mp m]
     rfl
   have h2' := Bool.and_eq_true_iff.mp (show (decide (0 ≤ r) && decide (r ≤ 1000000)) = true from hr')
   have r0 := of_decide_eq_true h2'.1
   have r6 := of_decide_eq_true h2'.2
   refine aGW rfl rfl hla' ?_
   rw [lowE a ha]
   cases h2 : iL fs lv a with
   | false => exact bG ⟨_, _, _, _, _, _, us, rfl, S', hg', no (by rw [h1, h2]; rfl)⟩
   | true =>
    refine cA ?_
    refine aGW rfl rfl hla' ?_
    rw [lowE b hb]
    cases h3 : iL fs lv b with
    | false => exact bG ⟨_, _, _, _, _, _, us, rfl, S', hg', no (by rw [h1, h2, h3]; rfl)⟩
    | true =>
     refine cA ?_
     refine ⟨_, rfl, .inl ⟨rfl, _, SqL.of hg'⟩, _, rfl, _, rfl, _, rfl, _, rfl, _, rfl, _, _, rfl, rfl, _, _, rfl, rfl, .inl ⟨by omega, by omega⟩, aN rfl, fun tb htb => ?_⟩
     have Sb := aI.upd (o := .tup [.str a, .str b, .int (r * (lv - c))]) htb
     refine ⟨lg, us, .ref tb, rfl, rfl, Sb _ _ hg', by omega, ?_⟩
     exact ⟨_, _, _, _, _, _, us ++ [.ref tb], rfl, (S'.trans Sb).over hlg, aE, yes h2 h3 tb htb⟩
 ·rintro σ H3 ⟨v6, v7, v8, v9, v10, v11, ug, rfl, S3, hg3, ig3⟩
  rw [← lvd, List.take_length] at ig3
  have T3 := S1.trans S3
  have r3 := S3 _ _ r1
  have w3 := T3 _ _ hlw
  have lug := iX ig3
  have gl := kW fs ds lv
  rw [List.length_map] at lug
  refine ⟨_, rfl, la, rfl, ⟨_, SqL.of r3⟩, ?_⟩
  refine bF (F := K) (xs := (cL fs lv).map V.str) (by rw [List.length_map]; omega) (fun i ys H' => H3 = H' ∧ ys = (((cL fs lv).take i).filter fun z => !decide (z ∈ ws)).map V.str) ⟨rfl, rfl⟩ ?_ ?_ ?_
  ·rintro i ys H' hi ⟨rfl, rfl⟩
   have := List.length_filter_le (fun z : Str => !decide (z ∈ ws)) ((cL fs lv).take i)
   rw [List.length_take] at this
   exact ⟨SqL.of r3, by rw [List.length_map]; omega⟩
  ·rintro i xv ys H' K1 K2 hx' ⟨rfl, rfl⟩ k1 k2
   rw [List.getElem?_map] at hx'
   obtain ⟨z, ez, rfl⟩ := Option.map_eq_some_iff.mp hx'
   have et := dM (P := fun z : Str => !decide (z ∈ ws)) ez
   refine ⟨_, rfl, _, rfl, lw, _, rfl, .inl (SqL.of w3), rfl, dW ws, _, rfl, ?_⟩
   rw [if_pos rfl, gJ]
   cases hg : (!decide (z ∈ ws)) with
   | false =>
    rw [hg] at et
    exact bG (k2 _ ⟨rfl, by rw [et]; simp⟩)
   | true =>
    rw [hg] at et
    exact cA ⟨_, rfl, k1 _ _ ⟨rfl, by rw [et, if_pos rfl, List.map_append]; rfl⟩⟩
  rintro ys H4 ⟨rfl, rfl⟩
  rw [List.length_map, List.take_of_length_le (Nat.le_refl _)]
  intro lr hlr
  have S4 := aI.upd (o := .lst (((cL fs lv).filter fun z => !decide (z ∈ ws)).map V.str)) hlr
  have r4 : upd H3 lr (.lst (((cL fs lv).filter fun z => !decide (z ∈ ws)).map V.str)) lr = some (.lst (((cL fs lv).filter fun z => !decide (z ∈ ws)).map V.str)) := aE
  generalize upd H3 lr (.lst (((cL fs lv).filter fun z => !decide (z ∈ ws)).map V.str)) = H4 at S4 r4
  have T4 := T3.trans S4
  refine ⟨_, rfl, la, rfl, ⟨_, SqL.of (S4 _ _ r3)⟩, ?_⟩
  refine bF (F := K) (xs := (cL fs lv).map V.str) (by rw [List.length_map]; omega) (fun i ys H' => H4 = H' ∧ ys = (((cL fs lv).take i).filter fun z => decide (z ∈ ws)).map V.str) ⟨rfl, rfl⟩ ?_ ?_ ?_
  ·rintro i ys H' hi ⟨rfl, rfl⟩
   have := List.length_filter_le (fun z : Str => decide (z ∈ ws)) ((cL fs lv).take i)
   rw [List.length_take] at this
   exact ⟨SqL.of (S4 _ _ r3), by rw [List.length_map]; omega⟩
  ·rintro i xv ys H' K1 K2 hx' ⟨rfl, rfl⟩ k1 k2
   rw [List.getElem?_map] at hx'
   obtain ⟨z, ez, rfl⟩ := Option.map_eq_some_iff.mp hx'
   have et := dM (P := fun z : Str => decide (z ∈ ws)) ez
   refine ⟨_, rfl, _, rfl, lw, _, rfl, .inl (SqL.of (S4 _ _ w3)), rfl, dW ws, _, rfl, ?_⟩
   rw [if_neg Bool.false_ne_true, gJ]
   cases hg : decide (z ∈ ws) with
   | false =>
    rw [hg] at et
    exact bG (k2 _ ⟨rfl, by rw [et]; simp⟩)
   | true =>
    rw [hg] at et
    exact cA ⟨_, rfl, k1 _ _ ⟨rfl, by rw [et, if_pos rfl, List.map_append]; rfl⟩⟩
  rintro ys H5 ⟨rfl, rfl⟩
  rw [List.length_map, List.take_of_length_le (Nat.le_refl _)]
  intro lb hlb
  have S5 := aI.upd (o := .lst (((cL fs lv).filter fun z => decide (z ∈ ws)).map V.str)) hlb
  have r5 : upd H4 lb (.lst (((cL fs lv).filter fun z => decide (z ∈ ws)).map V.str)) lb = some (.lst (((cL fs lv).filter fun z => decide (z ∈ ws)).map V.str)) := aE
  generalize upd H4 lb (.lst (((cL fs lv).filter fun z => decide (z ∈ ws)).map V.str)) = H5 at S5 r5
  refine ⟨aN rfl, fun lc hlc => ?_⟩
  have S6 := aI.upd (o := .lst [.ref lb]) hlc
  have r6 : upd H5 lc (.lst [.ref lb]) lc = some (.lst [.ref lb]) := aE
  have i6 : IsL (upd H5 lc (.lst [.ref lb])) ([(cL fs lv).filter fun z => decide (z ∈ ws)].map jC) [.ref lb] := ⟨_, _, rfl, ⟨lb, _, rfl, S6 _ _ r5, IsL.strs _ _⟩, rfl⟩
  generalize upd H5 lc (.lst [.ref lb]) = H6 at S6 r6 i6
  have T6 := T4.trans (S5.trans S6)
  have U6 := S4.trans (S5.trans S6)
  have r46 := (S5.trans S6) _ _ r4
  refine ⟨_, rfl, lr, rfl, ⟨_, SqL.of r46⟩, kZ (K := K) (a := lr) (xs := ((cL fs lv).filter fun z => !decide (z ∈ ws)).map V.str) (fun i σ H' => ∃ (v6 : Option V) (lc : Addr) (uc : List V), σ = [some (.ref lf), some (.ref ld), some (.ref lw), some (.int lv), some (.ref la), some (.ref lg), v6, v7, v8, v9, v10, v11, some (.ref lr), some (.ref lc), none, none] ∧ aI H6 H' ∧ H' lc = some (.lst uc) ∧ IsL H' (((((cL fs lv).filter fun z => !decide (z ∈ ws)).take i).foldl dH [(cL fs lv).filter fun z => decide (z ∈ ws)]).map jC) uc) ⟨_, lc, [.ref lb], rfl, aI.refl _, r6, i6⟩ ?_ ?_ ?_⟩
  ·rintro i σ H' hi ⟨v6, lc, uc, rfl, S', hc', ic⟩
   exact SqL.of (S' _ _ r46)
  ·rintro i xv σ H' hx ⟨v6, lc, uc, rfl, S', hc', ic⟩
   have hil := (List.getElem?_eq_some_iff.mp hx).1
   rw [List.length_map] at hil
   rw [List.getElem?_map] at hx
   obtain ⟨z, ez, rfl⟩ := Option.map_eq_some_iff.mp hx
   have ee : (((cL fs lv).filter fun z => !decide (z ∈ ws)).take (i + 1)).foldl dH [(cL fs lv).filter fun z => decide (z ∈ ws)] = dH ((((cL fs lv).filter fun z => !decide (z ∈ ws)).take i).foldl dH [(cL fs lv).filter fun z => decide (z ∈ ws)]) z := by
    rw [List.take_add_one, ez, List.foldl_append]
    rfl
   have fl1 := List.length_filter_le (fun z : Str => !decide (z ∈ ws)) (cL fs lv)
   have fl2 := List.length_filter_le (fun z : Str => decide (z ∈ ws)) (cL fs lv)
   have cl : ((((cL fs lv).filter fun z => !decide (z ∈ ws)).take i).foldl dH [(cL fs lv).filter fun z => decide (z ∈ ws)]).length ≤ 32 := by
    rw [yE, List.length_take, List.length_singleton, Nat.one_mul]
    have : 2 ^ min i ((cL fs lv).filter fun z => !decide (z ∈ ws)).length ≤ 2 ^ 5 := Nat.pow_le_pow_right (by decide) (by omega)
    omega
   have il : ∀ inner ∈ ((((cL fs lv).filter fun z => !decide (z ∈ ws)).take i).foldl dH [(cL fs lv).filter fun z => decide (z ∈ ws)]), inner.length ≤ 10 := fun inner m => by
    have := aAD _ _ 5 (fun c mc => by rw [List.mem_singleton.mp mc]; omega) inner m
    rw [List.length_take] at this
    omega
   rw [ee]
   generalize (((cL fs lv).filter fun z => !decide (z ∈ ws)).take i).foldl dH [(cL fs lv).filter fun z => decide (z ∈ ws)] = cs at ic cl il
   have luc := iX ic
   rw [List.length_map] at luc
   refine ⟨_, rfl, _, rfl, lc, rfl, ⟨_, SqL.of hc'⟩, ?_⟩
   refine bF (F := K) (xs := uc) (by omega) (fun j ys H'' => aI H' H'' ∧ IsL H'' ((cs.take j).map fun c => jC (c ++ [z])) ys) ⟨aI.refl _, rfl⟩ ?_ ?_ ?_
   ·rintro j ys H'' hj ⟨S2, iy⟩
    refine ⟨SqL.of (S2 _ _ hc'), ?_⟩
    have := iy.length
    rw [List.length_map, List.length_take] at this
    omega
   ·rintro j xv ys H'' K1 K2 hx2 ⟨S2, iy⟩ k1 k2
    have hjl : j < uc.length := (List.getElem?_eq_some_iff.mp hx2).1
    obtain ⟨c, ec⟩ : ∃ c, cs[j]? = some c := ⟨_, List.getElem?_eq_getElem (by omega)⟩
    obtain ⟨v, ev, iv⟩ := (IsL.same S2 _ _ ic).get (show (cs.map jC)[j]? = some (jC c) by rw [List.getElem?_map, ec]; rfl)
    rw [hx2] at ev
    cases ev
    obtain ⟨li, rfl, oi⟩ := aCK iv
    have := il c (List.mem_of_getElem? ec)
    refine ⟨_, rfl, _, rfl, aN rfl, fun l1 h1 => ?_⟩
    have S3 := aI.upd (o := .lst [.str z]) h1
    refine ⟨li, l1, _, _, rfl, rfl, S3 _ _ oi, aE, by rw [List.length_map]; show _ + 1 ≤ _; omega, fun l2 h2 => k1 _ _ ⟨S2.trans (S3.trans (aI.upd h2)), ?_⟩⟩
    rw [List.take_add_one, ec, List.map_append]
    refine IsL.snoc (show Is _ (jC (c ++ [z])) (.ref l2) from ⟨l2, _, rfl, aE, ?_⟩) (IsL.same (S3.trans (aI.upd h2)) _ _ iy)
    rw [show c.map V.str ++ [V.str z] = (c ++ [z]).map V.str by rw [List.map_append]; rfl]
    exact IsL.strs _ _
   rintro ys H2' ⟨S2, iy⟩
   rw [List.take_of_length_le (by omega)] at iy
   intro l3 h3
   have S3 := aI.upd (o := .lst ys) h3
   have ly := iX iy
   rw [List.length_map] at ly
   refine ⟨lc, l3, _, _, rfl, rfl, (S2.trans S3) _ _ hc', aE, by omega, fun l4 h4 => ?_⟩
   have S4' := aI.upd (o := .lst (uc ++ ys)) h4
   refine ⟨_, l4, uc ++ ys, rfl, S'.trans (S2.trans (S3.trans S4')), aE, ?_⟩
   unfold dH
   rw [List.map_append, List.map_map]
   exact IsL.app (IsL.same (S3.trans S4') _ _ iy) (IsL.same (S2.trans (S3.trans S4')) _ _ ic)
  ·rintro σ H7 ⟨v6, lc, uc, rfl, S7, hc7, ic7⟩
   rw [List.length_map, List.take_of_length_le (Nat.le_refl _)] at ic7
   have fl1 := List.length_filter_le (fun z : Str => !decide (z ∈ ws)) (cL fs lv)
   have cl : ((((cL fs lv).filter fun z => !decide (z ∈ ws))).foldl dH [(cL fs lv).filter fun z => decide (z ∈ ws)]).length ≤ 32 ∧ 0 < ((((cL fs lv).filter fun z => !decide (z ∈ ws))).foldl dH [(cL fs lv).filter fun z => decide (z ∈ ws)]).length := by
    rw [yE, List.length_singleton, Nat.one_mul]
    have : 2 ^ ((cL fs lv).filter fun z => !decide (z ∈ ws)).length ≤ 2 ^ 5 := Nat.pow_le_pow_right (by decide) (by omega)
    exact ⟨by omega, Nat.pos_of_ne_zero (by simp)⟩
   have fin : ∀ c ∈ (((cL fs lv).filter fun z => !decide (z ∈ ws)).foldl dH [(cL fs lv).filter fun z => decide (z ∈ ws)]).map (zZ (aU fs ds lv)), (∀ a ∈ (((cL fs lv).filter fun z => !decide (z ∈ ws)).foldl dH [(cL fs lv).filter fun z => decide (z ∈ ws)]).map (zZ (aU fs ds lv)), c ≤ a) → Least (aU fs ds lv) ws c := fun c mc lc => by
    refine aHC (fun g mg => ?_) (fun m => seaF (aJG _ m)) (fun m => seaF (subw _ m)) mc lc
    obtain ⟨d, md, rfl⟩ := List.mem_map.mp mg
    rw [List.mem_filter] at md
    obtain ⟨n, a, b, c, r, sl, rfl, _, ha, hb, _⟩ := bP (gd.all d md.1)
    have h := Bool.and_eq_true_iff.mp (Bool.and_eq_true_iff.mp (show (decide (c < lv) && (iL fs lv a && iL fs lv b)) = true from md.2)).2
    have side : ∀ z : Str, z ∈ (("sea" : Str) :: fs.map aL) → iL fs lv z = true → z = Mt22.sea ∨ z ∈ cL fs lv := fun z mz hz => by
     unfold iL at hz
     rcases Bool.or_eq_true_iff.mp hz with hz | hz
     ·exact .inl (of_decide_eq_true hz)
     ·rcases List.mem_cons.mp mz with e | mf
      ·exact .inl e
      ·exact .inr ((xT gf.nd mf).mpr (of_decide_eq_true hz))
    exact ⟨side a ha h.1, side b hb h.2⟩
   generalize ((cL fs lv).filter fun z => !decide (z ∈ ws)).foldl dH [(cL fs lv).filter fun z => decide (z ∈ ws)] = cs at ic7 cl fin
   have luc := iX ic7
   rw [List.length_map] at luc
   refine ⟨aN rfl, fun lq hlq => ?_⟩
   have S8 := aI.upd (o := .lst []) hlq
   have r8 : upd H7 lq (.lst []) lq = some (.lst []) := aE
   generalize upd H7 lq (.lst []) = H8 at S8 r8
   have T7 := T6.trans S7
   have g7 : H7 lg = some (.lst ug) := (U6.trans S7) _ _ hg3
   have ig7 := IsL.same (U6.trans S7) _ _ ig3
   refine ⟨_, rfl, lc, rfl, ⟨_, SqL.of (S8 _ _ hc7)⟩, kZ (K := K) (a := lc) (xs := uc) (fun i σ H' => ∃ (v15 : Option V), σ = [some (.ref lf), some (.ref ld), some (.ref lw), some (.int lv), some (.ref la), some (.ref lg), v6, v7, v8, v9, v10, v11, some (.ref lr), some (.ref lc), some (.ref lq), v15] ∧ aI H7 H' ∧ H' lq = some (.lst (((cs.take i).map (zZ (aU fs ds lv))).map V.int))) ⟨_, rfl, S8, r8⟩ ?_ ?_ ?_⟩
   ·rintro i σ H' hi ⟨v15, rfl, S', hq'⟩
    exact SqL.of (S' _ _ hc7)
   ·rintro i xv σ H' hx ⟨v15, rfl, S', hq'⟩
    have hil : i < uc.length := (List.getElem?_eq_some_iff.mp hx).1
    obtain ⟨c, ec⟩ : ∃ c, cs[i]? = some c := ⟨_, List.getElem?_eq_getElem (by omega)⟩
    obtain ⟨v, ev, iv⟩ := (IsL.same S' _ _ ic7).get (show (cs.map jC)[i]? = some (jC c) by rw [List.getElem?_map, ec]; rfl)
    rw [hx] at ev
    cases ev
    obtain ⟨li, rfl, oi⟩ := aCK iv
    refine ⟨_, rfl, .inl ⟨rfl, _, SqL.of hq'⟩, ?_⟩
    refine ⟨_, rfl, lg, rfl, ⟨_, SqL.of (S' _ _ g7)⟩, ?_⟩
    have ig' := IsL.same S' _ _ ig7
    refine bF (F := K) (xs := ug) (by omega) (fun j ys H'' => H' = H'' ∧ ys = ((((aU fs ds lv).take j).filter fun g => !(decide (g.a ∈ c) == decide (g.b ∈ c))).map (·.cap)).map V.int) ⟨rfl, rfl⟩ ?_ ?_ ?_
    ·rintro j ys H'' hj ⟨rfl, rfl⟩
     have := List.length_filter_le (fun g : Gap => !(decide (g.a ∈ c) == decide (g.b ∈ c))) ((aU fs ds lv).take j)
     rw [List.length_take] at this
     exact ⟨SqL.of (S' _ _ g7), by rw [List.length_map, List.length_map]; omega⟩
    ·rintro j xv ys H'' K1 K2 hx2 ⟨rfl, rfl⟩ k1 k2
     have hjl : j < ug.length := (List.getElem?_eq_some_iff.mp hx2).1
     obtain ⟨g, eg⟩ : ∃ g, (aU fs ds lv)[j]? = some g := ⟨_, List.getElem?_eq_getElem (by omega)⟩
     obtain ⟨v, ev, iv⟩ := ig'.get (show ((aU fs ds lv).map gDv)[j]? = some (gDv g) by rw [List.getElem?_map, eg]; rfl)
     rw [hx2] at ev
     cases ev
     obtain ⟨tg, us', rfl, og, u0, w0, rfl, e0, u1, w1, rfl, e1, u2, w2, rfl, e2, hn⟩ := iv
     cases (show w2 = [] from hn)
     cases (show u0 = .str g.a from e0)
     cases (show u1 = .str g.b from e1)
     cases (show u2 = .int g.cap from e2)
     have et := dM (P := fun g : Gap => !(decide (g.a ∈ c) == decide (g.b ∈ c))) eg
     refine ⟨tg, _, rfl, SqT.of og, rfl, _, _, rfl, _, _, rfl, _, _, rfl, rfl, ?_⟩
     refine ⟨_, rfl, _, rfl, li, _, rfl, .inl (SqL.of oi), rfl, dW c, ?_⟩
     refine ⟨_, rfl, _, rfl, li, _, rfl, .inl (SqL.of oi), rfl, dW c, ?_⟩
     rw [if_neg Bool.false_ne_true, if_neg Bool.false_ne_true, gJ, gJ]
     refine ⟨rfl, _, rfl, ?_⟩
     have eb : decide (V.bl (decide (g.a ∈ c)) = V.bl (decide (g.b ∈ c))) = (decide (g.a ∈ c) == decide (g.b ∈ c)) := by
      cases decide (g.a ∈ c) <;> cases decide (g.b ∈ c) <;> rfl
     rw [eb]
     cases hg : (!(decide (g.a ∈ c) == decide (g.b ∈ c))) with
     | false =>
      rw [hg] at et
      exact bG (k2 _ ⟨rfl, by rw [et]; simp⟩)
     | true =>
      rw [hg] at et
      exact cA ⟨_, rfl, k1 _ _ ⟨rfl, by rw [et, if_pos rfl, List.map_append, List.map_append]; rfl⟩⟩
    rintro ys H'' ⟨rfl, rfl⟩
    rw [show (aU fs ds lv).take ug.length = aU fs ds lv from List.take_of_length_le (by omega)]
    intro l5 h5
    have S5' := aI.upd (o := .lst ((((aU fs ds lv).filter fun g => !(decide (g.a ∈ c) == decide (g.b ∈ c))).map (·.cap)).map V.int)) h5
    refine ⟨l5, _, rfl, SqL.of aE, ?_⟩
    have es : (((aU fs ds lv).filter fun g => !(decide (g.a ∈ c) == decide (g.b ∈ c))).map (·.cap)).sum = zZ (aU fs ds lv) c := by
     show sm _ _ = _
     rw [kJ]
     refine eC fun g _ => ?_
     cases decide (g.a ∈ c) <;> cases decide (g.b ∈ c) <;> rfl
    rw [es]
    refine ⟨lq, _, .int _, rfl, rfl, S5' _ _ hq', by rw [List.length_map, List.length_map, List.length_take]; omega, ?_⟩
    refine ⟨_, rfl, (S'.trans S5').over hlq, ?_⟩
    rw [aE, List.take_add_one, ec, List.map_append, List.map_append]
    rfl
   ·rintro σ H' ⟨v15, rfl, S', hq'⟩
    rw [List.take_of_length_le (by omega)] at hq'
    exact ⟨_, rfl, lq, cs.map (zZ (aU fs ds lv)), rfl, SqL.of hq', by rw [List.length_map]; exact cl.2, fun M mM least => q M H' (T7.trans S') (fin M mM least)⟩
open Mt22 MtF
def aAK (zs : List Str) : Dv → Bool
 | .lst ds => ds.all (gH zs)
 | _ => false
def mC : List Dv → List Str
 | [] => []
 | .str z :: ds => z :: mC ds
 | _ :: ds => mC ds
def jT (zs : List Str) (d : Dv) : Bool := vR (zs.length : Int) d && aAK zs d && (match d with | .lst ds => decide ((mC ds).Nodup) | _ => false)
theorem aAJ {zs : List Str} : ∀ {ds : List Dv}, ds.all (gH zs) = true → ds = (mC ds).map Dv.str ∧ ∀ z ∈ mC ds, z ∈ zs
 | [], _ => ⟨rfl, fun z m => by cases m⟩
 | d :: ds, h => by
  rw [List.all_cons, Bool.and_eq_true] at h
  obtain ⟨e, s⟩ := aAJ h.2
  cases d with
  | str z =>
   refine ⟨?_, fun y m => ?_⟩
   ·show Dv.str z :: ds = Dv.str z :: (mC ds).map Dv.str
    rw [← e]
   ·rcases List.mem_cons.mp m with rfl | m
    ·exact of_decide_eq_true h.1
    ·exact s y m
  | _ => cases h.1
theorem wN {H : Hp} : ∀ {zs : List Str} {us : List V}, IsL H (zs.map Dv.str) us → us = zs.map V.str
 | [], us, h => h
 | z :: zs, us, ⟨v, r, e, hv, t⟩ => by
  rw [e, show v = .str z from hv, wN t]
  rfl
def aCM (C : Addr) : Sp := sp2 fun x y H Q => ∃ (p : Addr) (fs ds : List Dv) (d : Dv), x = .ref p ∧ LandAt C H p fs ds ∧ Is H d y ∧ dB d = true ∧ ∀ H', aI H H' → Q (.bl (jT (fs.map aL) d)) H'
theorem lU (T : Txt K mg C) : Fc P w K mg base 2 "are_some_fields" ["land", "thing"] (aCM C) := by
 have G_land_p_field_names : Mc P w K mg base 1 C "field_names" ["self"] (wP C fun fs _ => fs.map aL) := gQ T
 have G_p_is_list_of : Fc P w K mg base 1 "is_list_of" ["thing", "most"] mD := fR T
 have G_p_is_one_of : Fc P w K mg base 1 "is_one_of" ["thing", "names"] (oQ K) := gI T
 refine T.d_p_are_some_fields.fc dN jM (fun f cdv A outer s H vs Q E hr h => ?_)
 obtain ⟨x, y, rfl, p, fs, ds, d, rfl, L, hd, sm, q⟩ := h
 have big := bY
 have gf := (bV L).1
 have f2 := gf.l2
 obtain ⟨dx, d1, d2, hx, _⟩ := L.ex
 refine ⟨_, (aG (@aY _ _ (2) _ _ _ _ dN.nd rfl (Or.inr rfl) (@aDB _ _ _ _ _ _ _ _ _ _ _ T.cl_Land G_land_p_field_names (hr.mono (by decide)) (pv 0) (by rfl)) (by rfl) (by trivial)) (aG (@dL _ _ _ _ _ _ _ _ (@PW.pt _ _ _ (@iK _ _ _ _ _ _ _ (@cY _ _ _ _ (@cB _ _ _ (@bD _ _ _ _ _ _ _ _ _ _ G_p_is_list_of (hr.mono (by decide)) (aA (pv 1) (aA (@aT _ _ _ _ _ _ _ _ _ (@bH _ (K) rfl) rfl T.n_len bT (aA (pv 2) aB) (by decide) (by decide) (by rfl) (by rfl)) aB)) (by rfl) (by decide) (by rfl) (by rfl)) (by intro _; rfl))) (@gW _ _ _ _ (@cY _ _ _ _ (@cB _ _ _ (@aT _ _ _ _ _ _ _ _ _ (@lB _ rfl) rfl T.n_all jB (aA (@bX _ _ _ _ _ _ _ _ _ _ _ ["name", "names"] 1 [2] rfl (@bM _ _ _ _ (pv 1)) (fun R => @aP _ _ (0) _ (show List.Nodup (["name", "names"] : List Str) by decide +kernel) rfl (Or.inl rfl) (by trivial)) (@aX _ _ (by decide)) (fun R => cI) (fun R => (@bD _ _ _ _ _ _ _ _ _ _ G_p_is_one_of (hr.mono (by decide)) (aA (pv 0) (aA (pv 1) aB)) (by rfl) (by decide) (by rfl) (by rfl))) (by rfl) (by rfl) (by rfl) (by rfl) (by rfl) (by rfl) (by rfl) (by intro _; rfl)) aB) (by decide) (by decide) (by rfl) (by rfl)) (by intro _; rfl)))))) (aH (@aS _ _ _ _ kS)) bQ) (aH (@aS _ _ _ _ (@dQ _ _ _ _ _ _ _ _ jK (@aT _ _ _ _ _ _ _ _ _ call_len_set rfl T.n_len bT (aA (@cW _ _ _ _ _ _ _ _ _ (@kG _ rfl) rfl T.n_set qJ (aA (pv 1) aB) (by decide) (by decide) (by rfl) (by rfl)) aB) (by decide) (by decide) (by rfl) (by rfl)) (@aT _ _ _ _ _ _ _ _ _ (@bH _ (K) rfl) rfl T.n_len bT (aA (pv 1) aB) (by decide) (by decide) (by rfl) (by rfl)) (@bO _ _ (by decide) (by decide))))))), ?_⟩
 refine ⟨_, rfl, p, dx, _, rfl, hx, jN _ _ (by decide +kernel) (by decide +kernel), _, rfl, p, fs, ds, rfl, L, fun ln H1 S1 fln hln => ?_⟩
 have hd1 := Is.same S1 _ _ hd
 have ln0 : ((fs.map aL).map V.str).length = (fs.map aL).length := List.length_map ..
 refine ⟨_, rfl, _, rfl, ln, _, rfl, .inl (SqL.of hln), _, _, rfl, d, _, hd1, rfl, _, rfl, ?_⟩
 rw [ln0]
 cases hb : vR ((fs.map aL).length : Int) d with
 | false =>
  refine cA (cA ?_)
  have e : jT (fs.map aL) d = false := by unfold jT; rw [hb]; rfl
  rw [e] at q
  exact q _ S1
 | true =>
  refine bG ?_
  cases d with
  | lst es =>
   obtain ⟨l, us, rfl, ol, iu⟩ := hd1
   have lu := iu.length
   have les : es.length ≤ 1000 := of_decide_eq_true (Bool.and_eq_true_iff.mp sm).1
   refine ⟨_, rfl, l, rfl, ⟨_, SqL.of ol⟩, ?_⟩
   refine bF (F := K) (xs := us) (by omega) (fun i ys H' => H1 = H' ∧ ys = ((es.take i).map (gH (fs.map aL))).map V.bl) ⟨rfl, rfl⟩ ?_ ?_ ?_
   ·rintro i ys H' hi' ⟨rfl, rfl⟩
    exact ⟨SqL.of ol, by rw [List.length_map, List.length_map, List.length_take]; omega⟩
   ·rintro i xv ys H' K1 K2 hx ⟨rfl, rfl⟩ k1 k2
    have hil : i < us.length := (List.getElem?_eq_some_iff.mp hx).1
    obtain ⟨e, ee⟩ : ∃ e, es[i]? = some e := ⟨_, List.getElem?_eq_getElem (by omega)⟩
    obtain ⟨v, ev, iv⟩ := (show IsL H1 es us from iu).get ee
    rw [hx] at ev
    cases ev
    refine ⟨_, rfl, _, rfl, _, _, rfl, e, ln, _, iv, rfl, SqL.of hln, ?_⟩
    refine k1 _ _ ⟨rfl, ?_⟩
    rw [List.take_add_one, ee, List.map_append, List.map_append]
    rfl
   rintro ys H' ⟨rfl, rfl⟩
   rw [lu, List.take_of_length_le (Nat.le_refl _)]
   intro p4 hp4
   have S4 := aI.upd (o := .lst ((es.map (gH (fs.map aL))).map V.bl)) hp4
   refine ⟨p4, es.map (gH (fs.map aL)), rfl, SqL.of aE, _, rfl, ?_⟩
   have eall : (es.map (gH (fs.map aL))).all id = es.all (gH (fs.map aL)) := by rw [List.all_map]; rfl
   rw [eall]
   cases ha : es.all (gH (fs.map aL)) with
   | false =>
    refine cA ?_
    have e : jT (fs.map aL) (.lst es) = false := by unfold jT; rw [show aAK (fs.map aL) (.lst es) = false from ha]; simp
    rw [e] at q
    exact q _ (S1.trans S4)
   | true =>
    refine bG ?_
    obtain ⟨ees, sub⟩ := aAJ ha
    generalize hz : mC es = zs at ees sub
    have e : jT (fs.map aL) (.lst es) = decide (zs.Nodup) := by
     show (vR ((fs.map aL).length : Int) (.lst es) && aAK (fs.map aL) (.lst es) && decide ((mC es).Nodup)) = _
     rw [hb, show aAK (fs.map aL) (.lst es) = true from ha, hz]
     rfl
    rw [e] at q
    have eus : us = zs.map V.str := by
     rw [ees] at iu
     exact wN iu
    have lz : zs.length ≤ 1000 := by rw [eus, List.length_map] at lu; omega
    rw [eus] at ol
    have hl4 := S4 _ _ ol
    refine ⟨_, rfl, l, zs.map Sum.inr, rfl, SqL.of (by rw [hl4, xS]), by rw [List.length_map]; omega, fun p5 hp5 => ?_⟩
    have hle := yB (zs.map (Sum.inr : Str → Key))
    rw [List.length_map] at hle
    refine ⟨p5, _, _, rfl, aE, by omega, _, rfl, l, zs.map V.str, rfl, .inl (SqL.of (by rw [aQ (aV hl4 hp5)]; exact hl4)), rfl, ?_⟩
    have e : decide (V.int ((rG (zs.map (Sum.inr : Str → Key))).length : Int) = V.int ((zs.map V.str).length : Int)) = decide zs.Nodup := by
     rw [jY, List.length_map, Bool.eq_iff_iff, decide_eq_true_eq, decide_eq_true_eq, ← fW, ← qG, List.length_map]
     omega
    rw [e]
    exact q _ (S1.trans (S4.trans (aI.upd hp5)))
  | _ => cases hb
open Mt53 Mt22 MtF Mt31 Mt61
def rL (mg : Str → Option Value) (C : Addr) : Sp := fun vs H Q E => ∃ (x y u : V) (p : Addr) (fs ds : List Dv) (d e : Dv) (c : Addr), vs = [x, y, u] ∧ x = .ref p ∧ LandAt C H p fs ds ∧ Is H d y ∧ dB d = true ∧ Is H e u ∧ (jT (fs.map aL) d = false ∨ cT e = false) ∧ mg "NoWish" = some (.ref c) ∧ ∀ H', aI H H' → E (.ref c) none H'
theorem pQ (T : Txt K mg C) : FcX P w K mg base 3 "check_wish" ["land", "fields", "height"] (rL mg C) := by
 obtain ⟨c_NoWish, c_DykeError, c_NoLand, c_NoWork, c_TooMany, ex_NoWish, hm_NoWish, hm_DykeError, hm_NoLand, hm_NoWork, hm_TooMany, kx_NoWish_DykeError, kx_NoWish_NoLand, kx_NoWish_NoWork, kx_NoWish_TooMany, kx_NoWish_NoWish, kx_NoWish_ValueError, xc_NoWish_DykeError⟩ := T.xs
 have G_p_are_some_fields : Fc P w K mg base 2 "are_some_fields" ["land", "thing"] (aCM C) := lU T
 have G_p_is_height : Fc P w K mg base 2 "is_height" ["thing"] fZ := cR T
 refine T.d_p_check_wish.fcX lP (fun vs H Q E h => ?_) (fun f cdv A outer s H vs Q E hr h => ?_)
 ·obtain ⟨x, y, u, p, fs, ds, d, e, c, rfl, _⟩ := h
  rfl
 obtain ⟨x, y, u, p, fs, ds, d, e, c, rfl, rfl, L, hd, sm, he, bad, hc, q⟩ := h
 rw [hm_NoWish] at hc
 cases hc
 refine ⟨_, (aG (@dL _ _ _ _ _ _ _ _ (@PW.pt _ _ _ (@iK _ _ _ _ _ _ _ (@cY _ _ _ _ (@cB _ _ _ (@bD _ _ _ _ _ _ _ _ _ _ G_p_are_some_fields (hr.mono (by decide)) (aA (pv 0) (aA (pv 1) aB)) (by rfl) (by decide) (by rfl) (by rfl)) (by intro _; rfl))) (@gW _ _ _ _ (@cY _ _ _ _ (@cB _ _ _ (@bD _ _ _ _ _ _ _ _ _ _ G_p_is_height (hr.mono (by decide)) (aA (pv 2) aB) (by rfl) (by decide) (by rfl) (by rfl)) (by intro _; rfl)))))) (aH (@zE _ _ _ _ _ _ _ _ _ _ hm_NoWish ex_NoWish.ex rfl vJ (aA kC aB) (by rfl) (by decide) (by rfl) (by rfl))) bQ) iY), ?_⟩
 refine ⟨_, rfl, _, rfl, _, _, rfl, p, fs, ds, d, rfl, L, hd, sm, fun H1 S1 => ⟨_, rfl, ?_⟩⟩
 cases hq : jT (fs.map aL) d with
 | false => exact cA (cA ⟨aN rfl, q _ S1⟩)
 | true =>
  refine bG ?_
  rcases bad with b | b
  ·rw [hq] at b
   cases b
  ·refine ⟨_, rfl, _, rfl, e, Is.same S1 _ _ he, _, rfl, ?_⟩
   rw [b]
   exact cA ⟨aN rfl, q _ S1⟩
theorem xO (T : Txt K mg C) : FcX P w K mg base 6 "fewest" ["land", "fields", "height"] (rL mg C) := by
 have G_p_check_wish : FcX P w K mg base 3 "check_wish" ["land", "fields", "height"] (rL mg C) := pQ T
 refine T.d_p_fewest.fcX eO (fun vs H Q E h => ?_) (fun f cdv A outer s H vs Q E hr h => ?_)
 ·obtain ⟨x, y, u, p, fs, ds, d, e, c, rfl, _⟩ := h
  rfl
 obtain ⟨x, y, u, p, fs, ds, d, e, c, rfl, rfl, L, hd, sm, he, bad, hc, q⟩ := h
 refine ⟨_, (aG (@fQ _ _ _ _ (zG G_p_check_wish (hr.mono (by decide)) oX (aA (pv 0) (aA (pv 1) (aA (pv 2) aB)))) (by rfl)) iY), ?_⟩
 exact ⟨_, rfl, _, rfl, _, rfl, _, _, _, p, fs, ds, d, e, c, rfl, rfl, L, hd, sm, he, bad, hc, q⟩
def nT (zs : List Str) (d e : Dv) : Prop := (jT zs d = false ∧ d ≠ .lst []) ∨ cT e = false
theorem oI (T : Txt K mg C) : FcX P w K mg base 3 "cost_of_none" ["height"] (fun vs H Q E => ∃ (u : V) (e : Dv) (c : Addr), vs = [u] ∧ Is H e u ∧ cT e = false ∧ mg "NoWish" = some (.ref c) ∧ E (.ref c) none H) := by
 obtain ⟨c_NoWish, c_DykeError, c_NoLand, c_NoWork, c_TooMany, ex_NoWish, hm_NoWish, hm_DykeError, hm_NoLand, hm_NoWork, hm_TooMany, kx_NoWish_DykeError, kx_NoWish_NoLand, kx_NoWish_NoWork, kx_NoWish_TooMany, kx_NoWish_NoWish, kx_NoWish_ValueError, xc_NoWish_DykeError⟩ := T.xs
 have G_p_is_height : Fc P w K mg base 2 "is_height" ["thing"] fZ := cR T
 refine T.d_p_cost_of_none.fcX jV (fun vs H Q E h => ?_) (fun f cdv A outer s H vs Q E hr h => ?_)
 ·obtain ⟨u, e, c, rfl, _⟩ := h
  rfl
 obtain ⟨u, e, c, rfl, he, bad, hc, q⟩ := h
 rw [hm_NoWish] at hc
 cases hc
 refine ⟨_, (aG (@dL _ _ _ _ _ _ _ _ (@cY _ _ _ _ (@cB _ _ _ (@bD _ _ _ _ _ _ _ _ _ _ G_p_is_height (hr.mono (by decide)) (aA (pv 0) aB) (by rfl) (by decide) (by rfl) (by rfl)) (by intro _; rfl))) (aH (@zE _ _ _ _ _ _ _ _ _ _ hm_NoWish ex_NoWish.ex rfl vJ (aA kC aB) (by rfl) (by decide) (by rfl) (by rfl))) bQ) iY), ?_⟩
 refine ⟨_, rfl, _, rfl, e, he, _, rfl, ?_⟩
 rw [bad]
 exact cA ⟨aN rfl, q⟩
def aIO (mg : Str → Option Value) (C : Addr) : Sp := fun vs H Q E => ∃ (x y u : V) (p : Addr) (fs ds : List Dv) (d e : Dv) (c : Addr), vs = [x, y, u] ∧ x = .ref p ∧ LandAt C H p fs ds ∧ Is H d y ∧ dB d = true ∧ Is H e u ∧ nT (fs.map aL) d e ∧ mg "NoWish" = some (.ref c) ∧ ∀ H', aI H H' → E (.ref c) none H'
def wV (mg : Str → Option Value) (C : Addr) : Sp := fun vs H Q E => aAV C vs H Q E ∨ aIO mg C vs H Q E
theorem sZ (T : Txt K mg C) : FcX P w K mg base 7 "cost" ["land", "fields", "height"] (wV mg C) := by
 refine T.d_p_cost.fcX vF (fun vs H Q E h => ?_) (fun f cdv A outer s H vs Q E hr h => ?_)
 ·rcases h with h | ⟨x, y, u, p, fs, ds, d, e, c, rfl, _⟩
  ·exact pW vs H Q E h
  ·rfl
 rcases h with h | h
 ·have G_p_cost_of_none : Fc P w K mg base 3 "cost_of_none" ["height"] wU := jX T
  have G_p_fewest : Fc P w K mg base 6 "fewest" ["land", "fields", "height"] (rZ C) := qO T
  obtain ⟨x, y, u, rfl, p, l, fs, ds, zs, lv, rfl, L, rfl, hl, nd, sub, rfl, hL, q⟩ := h
  have gf := (bV L).1
  have gd := (bV L).2
  have GG := nP gf gd lv
  refine ⟨_, (aG (@dL _ _ _ _ _ _ _ _ (@PW.pt _ _ _ (@kB _ _ _ _ _ _ _ (@cB _ _ _ (@aT _ _ _ _ _ _ _ _ _ (@cD _ (K) rfl) rfl T.n_isinstance bA (aA (pv 1) (aA (@kR _ _ _ _ T.n_list dA (by rfl) (by decide) (by decide)) aB)) (by decide) (by decide) (by rfl) (by rfl)) (by intro _; rfl)) (@iT _ _ _ _ (@bI _ _ _ _ _ _ _ _ jK (@aT _ _ _ _ _ _ _ _ _ (@bH _ (K) rfl) rfl T.n_len bT (aA (pv 1) aB) (by decide) (by decide) (by rfl) (by rfl)) aF (@bO _ _ (by decide) (by decide)))))) (aH (@aS _ _ _ _ (@bD _ _ _ _ _ _ _ _ _ _ G_p_cost_of_none (hr.mono (by decide)) (aA (pv 2) aB) (by rfl) (by decide) (by rfl) (by rfl)))) bQ) (aG (@aS _ _ _ _ (@bC _ _ _ _ _ _ _ (@aW _ (K) rfl) (@bD _ _ _ _ _ _ _ _ _ _ G_p_fewest (hr.mono (by decide)) (aA (pv 0) (aA (pv 1) (aA (pv 2) aB))) (by rfl) (by decide) (by rfl) (by rfl)) aF (fun _ _ => rfl))) iY)), ?_⟩
  refine ⟨_, rfl, _, _, _, _, _, rfl, rfl, TyOf.lst hl, iM _ _, _, rfl, ?_⟩
  refine cA ?_
  refine ⟨_, rfl, l, _, rfl, .inl (SqL.of hl), rfl, _, rfl, ?_⟩
  cases zs with
  | nil =>
   show (if true = true then _ else _)
   exact cA ⟨_, rfl, _, rfl, lv, rfl, hL, q 0 H (aI.refl _) (tN GG)⟩
  | cons z zr =>
   rw [decide_eq_false (fun e => by have := V.int.inj e; rw [List.length_map, List.length_cons] at this; omega)]
   refine bG ?_
   refine ⟨_, rfl, _, rfl, _, rfl, _, _, _, rfl, p, l, fs, ds, z :: zr, lv, rfl, L, rfl, hl, by rw [List.length_cons]; omega, nd, sub, rfl, hL, fun t lk la uk ua f' R B H' S' nt nlk nla nka ht hk ik ha ia st rd => ?_⟩
   exact ⟨t, _, 0, _, rfl, rfl, SqT.of ht, aO (j := 0) rfl, q _ H' S' (qK GG st rd)⟩
 ·have G_p_cost_of_none : FcX P w K mg base 3 "cost_of_none" ["height"] _ := oI T
  have G_p_fewest : FcX P w K mg base 6 "fewest" ["land", "fields", "height"] (rL mg C) := xO T
  obtain ⟨x, y, u, p, fs, ds, d, e, c, rfl, rfl, L, hd, sm, he, bad, hc, q⟩ := h
  obtain ⟨t, ty, e1, e2, e3, e4, _⟩ := oO K hd
  refine ⟨_, (aG (@dL _ _ _ _ _ _ _ _ (@PW.pt _ _ _ (@kB _ _ _ _ _ _ _ (@cB _ _ _ (@aT _ _ _ _ _ _ _ _ _ (@cD _ (K) rfl) rfl T.n_isinstance bA (aA (pv 1) (aA (@kR _ _ _ _ T.n_list dA (by rfl) (by decide) (by decide)) aB)) (by decide) (by decide) (by rfl) (by rfl)) (by intro _; rfl)) (@iT _ _ _ _ (@bI _ _ _ _ _ _ _ _ jK (@aT _ _ _ _ _ _ _ _ _ (@bH _ (K) rfl) rfl T.n_len bT (aA (pv 1) aB) (by decide) (by decide) (by rfl) (by rfl)) aF (@bO _ _ (by decide) (by decide)))))) (aH (@aS _ _ _ _ (zG G_p_cost_of_none (hr.mono (by decide)) oX (aA (pv 2) aB)))) bQ) (aG (@aS _ _ _ _ (@bC _ _ _ _ _ _ _ (@aW _ (K) rfl) (zG G_p_fewest (hr.mono (by decide)) oX (aA (pv 0) (aA (pv 1) (aA (pv 2) aB)))) aF (fun _ _ => rfl))) iY)), ?_⟩
  refine ⟨_, rfl, _, _, _, t, _, rfl, rfl, ty, e4, _, rfl, ?_⟩
  have few : (d ≠ .lst []) → jT (fs.map aL) d = false ∨ cT e = false := fun nd => by
   rcases bad with b | b
   ·exact .inl b.1
   ·exact .inr b
  by_cases hl : ∃ es, d = .lst es
  ·obtain ⟨es, rfl⟩ := hl
   obtain ⟨l, us, rfl, o, hi⟩ := id hd
   have le := hi.length
   refine cA ?_
   refine ⟨_, rfl, l, us, rfl, .inl (SqL.of o), rfl, _, rfl, ?_⟩
   cases es with
   | nil =>
    have : us = [] := List.eq_nil_of_length_eq_zero le
    subst this
    have be : cT e = false := by
     rcases bad with b | b
     ·exact absurd rfl b.2
     ·exact b
    show (if true = true then _ else _)
    exact cA ⟨_, rfl, _, e, c, rfl, he, be, hc, q _ (aI.refl _)⟩
   | cons z zr =>
    rw [decide_eq_false (fun e => by have := V.int.inj e; rw [le, List.length_cons] at this; omega)]
    refine bG ?_
    exact ⟨_, rfl, _, rfl, _, rfl, _, _, _, p, fs, ds, _, e, c, rfl, rfl, L, hd, sm, he, few (by simp), hc, q⟩
  ·have nl : d ≠ .lst [] := fun c => hl ⟨_, c⟩
   cases d with
   | lst es => exact absurd ⟨es, rfl⟩ hl
   | _ => exact bG (bG ⟨_, rfl, _, rfl, _, rfl, _, _, _, p, fs, ds, _, e, c, rfl, rfl, L, hd, sm, he, few nl, hc, q⟩)
open Mt53 Mt22 MtF Mt31 Mt61
theorem aFB {X Y : Str → Bool} {g : Gap} (c0 : 0 ≤ g.cap) : lR (fun z => X z || Y z) g + lR (fun z => X z && Y z) g ≤ lR X g + lR Y g := by
 show (if (X g.a || Y g.a) = (X g.b || Y g.b) then 0 else g.cap) + (if (X g.a && Y g.a) = (X g.b && Y g.b) then 0 else g.cap) ≤ (if X g.a = X g.b then 0 else g.cap) + (if Y g.a = Y g.b then 0 else g.cap)
 generalize X g.a = a
 generalize X g.b = b
 generalize Y g.a = c
 generalize Y g.b = d
 cases a <;> cases b <;> cases c <;> cases d <;> simp <;> omega
theorem aBL {V0 : List Str} {G : List Gap} (GG : Gaps V0 G) {one other either both : List Str} (he : ∀ z ∈ either, z ∈ one ∨ z ∈ other) (hb : ∀ z ∈ both, z ∈ one ∧ z ∈ other) {c1 c2 c3 c4 : Int} (h1 : Least G one c1) (h2 : Least G other c2) (h3 : Least G either c3) (h4 : Least G both c4) : c3 + c4 ≤ c1 + c2 := by
 obtain ⟨⟨X, sX, wX, eX⟩, _⟩ := h1
 obtain ⟨⟨Y, sY, wY, eY⟩, _⟩ := h2
 have q3 := h3.2 (fun z => X z || Y z) (by show (X Mt22.sea || Y Mt22.sea) = false; rw [sX, sY]; rfl) (fun z m => by
  show (X z || Y z) = true
  rcases he z m with h | h
  ·rw [wX z h]; rfl
  ·rw [wY z h, Bool.or_true])
 have q4 := h4.2 (fun z => X z && Y z) (by show (X Mt22.sea && Y Mt22.sea) = false; rw [sX]; rfl) (fun z m => by
  show (X z && Y z) = true
  rw [wX z (hb z m).1, wY z (hb z m).2]; rfl)
 have : cut G (fun z => X z || Y z) + cut G (fun z => X z && Y z) ≤ cut G X + cut G Y := by
  unfold cut
  rw [← sD, ← sD]
  exact yY fun g m => aFB (GG.cap g m)
 omega
def gK (one other : List Str) : List Str := one ++ other.filter fun z => !decide (z ∈ one)
def qT (one other : List Str) : List Str := one.filter fun z => decide (z ∈ other)
theorem jO {one other : List Str} {z : Str} : z ∈ gK one other ↔ z ∈ one ∨ z ∈ other := by
 unfold gK
 rw [List.mem_append, List.mem_filter]
 by_cases h : z ∈ one <;> simp [h]
theorem nB {one other : List Str} {z : Str} : z ∈ qT one other ↔ z ∈ one ∧ z ∈ other := by
 unfold qT
 rw [List.mem_filter, decide_eq_true_eq]
theorem aEY {one other : List Str} (h1 : one.Nodup) (h2 : other.Nodup) : (gK one other).Nodup := by
 unfold gK
 rw [List.nodup_append]
 refine ⟨h1, List.Nodup.sublist List.filter_sublist h2, fun a ha b hb => ?_⟩
 rw [List.mem_filter] at hb
 have := hb.2
 intro e
 rw [← e] at this
 simp [ha] at this
theorem aJS {one other : List Str} (h1 : one.Nodup) : (qT one other).Nodup := List.Nodup.sublist List.filter_sublist h1
def wQ (C : Addr) : Sp := fun vs H Q _ => ∃ (x y z u : V) (p l1 l2 : Addr) (fs ds : List Dv) (one other : List Str) (L : Int), vs = [x, y, z, u] ∧ x = .ref p ∧ LandAt C H p fs ds ∧ y = .ref l1 ∧ H l1 = some (.lst (one.map V.str)) ∧ one.Nodup ∧ (∀ z ∈ one, z ∈ fs.map aL) ∧ z = .ref l2 ∧ H l2 = some (.lst (other.map V.str)) ∧ other.Nodup ∧ (∀ z ∈ other, z ∈ fs.map aL) ∧ u = .int L ∧ hgt L = true ∧
 ∀ (c1 c2 c3 c4 : Int) (H' : Hp), aI H H' → Least (aU fs ds L) one c1 → Least (aU fs ds L) other c2 → Least (aU fs ds L) (gK one other) c3 → Least (aU fs ds L) (qT one other) c4 → Q (.int (c1 + c2 - c3 - c4)) H'
theorem aHB : ∀ vs H Q E, wQ C vs H Q E → vs.length = 4 := fun vs H Q E ⟨x, y, z, u, p, l1, l2, fs, ds, one, other, L, e, _⟩ => by rw [e]; rfl
theorem xR {zs ns : List Str} (nd : zs.Nodup) (sub : ∀ z ∈ zs, z ∈ ns) : zs.length ≤ ns.length := tM nd sub
theorem aBD (T : Txt K mg C) : Fc P w K mg base 8 "saved" ["land", "one", "other", "height"] (wQ C) := by
 have G_p_cost : Fc P w K mg base 7 "cost" ["land", "fields", "height"] (aAV C) := aEL T
 refine T.d_p_saved.fc gT aHB (fun f cdv A outer s H vs Q E hr h => ?_)
 obtain ⟨x, y, z, u, p, l1, l2, fs, ds, one, other, lv, rfl, rfl, L, rfl, h1, nd1, sub1, rfl, h2, nd2, sub2, rfl, hL, q⟩ := h
 have big := bY
 have f2 := (bV L).1.l2
 have n1 := xR nd1 sub1
 have n2 := xR nd2 sub2
 rw [List.length_map] at n1 n2
 refine ⟨_, (aG (@aY _ _ (4) _ _ _ _ gT.nd rfl (Or.inl rfl) (@aK _ _ _ _ _ _ _ _ cP (@bD _ _ _ _ _ _ _ _ _ _ G_p_cost (hr.mono (by decide)) (aA (pv 0) (aA (pv 1) (aA (pv 3) aB))) (by rfl) (by decide) (by rfl) (by rfl)) (@bD _ _ _ _ _ _ _ _ _ _ G_p_cost (hr.mono (by decide)) (aA (pv 0) (aA (pv 2) (aA (pv 3) aB))) (by rfl) (by decide) (by rfl) (by rfl))) (by rfl) (by trivial)) (aG (@aY _ _ (5) _ _ _ _ gT.nd rfl (Or.inl rfl) (@aK _ _ _ _ _ _ _ _ pO (pv 1) (@bX _ _ _ _ _ _ _ _ _ _ _ ["name", "one"] 1 [1] rfl (@bM _ _ _ _ (pv 2)) (fun R => @aP _ _ (0) _ (show List.Nodup (["name", "one"] : List Str) by decide +kernel) rfl (Or.inl rfl) (by trivial)) (@aX _ _ (by decide)) (fun R => @dO _ _ _ (@bI _ _ _ _ _ _ _ _ (@kE _ (K) rfl) (pv 0) (pv 1) (by with_unfolding_all rfl))) (fun R => (pv 0)) (by rfl) (by rfl) (by rfl) (by rfl) (by rfl) (by rfl) (by rfl) (by intro _; rfl))) (by rfl) (by trivial)) (aG (@fT _ (6) _ _ _ _ _ _ _ _ _ _ _ _ _ gT.nd rfl ["name", "other"] 1 [2] rfl (@bM _ _ _ _ (pv 1)) (fun R => @aP _ _ (0) _ (show List.Nodup (["name", "other"] : List Str) by decide +kernel) rfl (Or.inl rfl) (by trivial)) (@aX _ _ (by decide)) (fun R => @dO _ _ _ (@bI _ _ _ _ _ _ _ _ (@dZ _ (K) rfl) (pv 0) (pv 1) (by with_unfolding_all rfl))) (fun R => (pv 0)) (by exact Or.inl rfl) (by trivial) (by rfl) (by rfl) (by rfl) (by rfl) (by rfl) (by rfl) (by rfl) (by rfl) (by intro _; rfl)) (aH (@aS _ _ _ _ (@aK _ _ _ _ _ _ _ _ gF (@aK _ _ _ _ _ _ _ _ gF (pv 4) (@bD _ _ _ _ _ _ _ _ _ _ G_p_cost (hr.mono (by decide)) (aA (pv 0) (aA (pv 5) (aA (pv 3) aB))) (by rfl) (by decide) (by rfl) (by rfl))) (@bD _ _ _ _ _ _ _ _ _ _ G_p_cost (hr.mono (by decide)) (aA (pv 0) (aA (pv 6) (aA (pv 3) aB))) (by rfl) (by decide) (by rfl) (by rfl)))))))), ?_⟩
 refine ⟨_, rfl, _, rfl, _, rfl, _, _, _, rfl, p, l1, fs, ds, one, lv, rfl, L, rfl, h1, nd1, sub1, rfl, hL, fun c1 H1 S1 lst1 => ?_⟩
 refine ⟨_, rfl, _, rfl, _, rfl, _, _, _, rfl, p, l2, fs, ds, other, lv, rfl, L.same S1, rfl, S1 _ _ h2, nd2, sub2, rfl, hL, fun c2 H2 S2 lst2 => ?_⟩
 have T2 := S1.trans S2
 refine ⟨_, _, rfl, rfl, _, rfl, _, rfl, l2, rfl, ⟨_, SqL.of (T2 _ _ h2)⟩, ?_⟩
 have h12 := T2 _ _ h1
 refine bF (F := K) (xs := other.map V.str) (by rw [List.length_map]; omega) (fun i ys H' => H2 = H' ∧ ys = ((other.take i).filter fun z => !decide (z ∈ one)).map V.str) ⟨rfl, rfl⟩ ?_ ?_ ?_
 ·rintro i ys H' hi ⟨rfl, rfl⟩
  have := List.length_filter_le (fun z : Str => !decide (z ∈ one)) (other.take i)
  rw [List.length_take] at this
  exact ⟨SqL.of (T2 _ _ h2), by rw [List.length_map]; omega⟩
 ·rintro i xv ys H' K1 K2 hx' ⟨rfl, rfl⟩ k1 k2
  rw [List.getElem?_map] at hx'
  obtain ⟨z, ez, rfl⟩ := Option.map_eq_some_iff.mp hx'
  have et := dM (P := fun z : Str => !decide (z ∈ one)) ez
  refine ⟨_, rfl, _, rfl, l1, _, rfl, .inl (SqL.of h12), rfl, dW one, _, rfl, ?_⟩
  rw [if_pos rfl, gJ]
  cases hg : (!decide (z ∈ one)) with
  | false =>
   rw [hg] at et
   exact bG (k2 _ ⟨rfl, by rw [et]; simp⟩)
  | true =>
   rw [hg] at et
   exact cA ⟨_, rfl, k1 _ _ ⟨rfl, by rw [et, if_pos rfl, List.map_append]; rfl⟩⟩
 rintro ys H3 ⟨rfl, rfl⟩
 rw [List.length_map, List.take_of_length_le (Nat.le_refl _)]
 intro l3 h3
 have S3 := aI.upd (o := .lst ((other.filter fun z => !decide (z ∈ one)).map V.str)) h3
 have r3 : upd H2 l3 (.lst ((other.filter fun z => !decide (z ∈ one)).map V.str)) l3 = some (.lst ((other.filter fun z => !decide (z ∈ one)).map V.str)) := aE
 generalize upd H2 l3 (.lst ((other.filter fun z => !decide (z ∈ one)).map V.str)) = H3 at S3 r3
 have fl := List.length_filter_le (fun z : Str => !decide (z ∈ one)) other
 refine ⟨l1, l3, _, _, rfl, rfl, S3 _ _ h12, r3, by rw [List.length_map, List.length_map]; omega, fun l4 h4 => ?_⟩
 have S4 := aI.upd (o := .lst (one.map V.str ++ (other.filter fun z => !decide (z ∈ one)).map V.str)) h4
 have r4 : upd H3 l4 (.lst (one.map V.str ++ (other.filter fun z => !decide (z ∈ one)).map V.str)) l4 = some (.lst ((gK one other).map V.str)) := by rw [aE]; unfold gK; rw [List.map_append]
 generalize upd H3 l4 (.lst (one.map V.str ++ (other.filter fun z => !decide (z ∈ one)).map V.str)) = H4 at S4 r4
 have T4 := T2.trans (S3.trans S4)
 have h14 := T4 _ _ h1
 have h24 := T4 _ _ h2
 refine ⟨_, rfl, l1, rfl, ⟨_, SqL.of h14⟩, ?_⟩
 refine bF (F := K) (xs := one.map V.str) (by rw [List.length_map]; omega) (fun i ys H' => H4 = H' ∧ ys = ((one.take i).filter fun z => decide (z ∈ other)).map V.str) ⟨rfl, rfl⟩ ?_ ?_ ?_
 ·rintro i ys H' hi ⟨rfl, rfl⟩
  have := List.length_filter_le (fun z : Str => decide (z ∈ other)) (one.take i)
  rw [List.length_take] at this
  exact ⟨SqL.of h14, by rw [List.length_map]; omega⟩
 ·rintro i xv ys H' K1 K2 hx' ⟨rfl, rfl⟩ k1 k2
  rw [List.getElem?_map] at hx'
  obtain ⟨z, ez, rfl⟩ := Option.map_eq_some_iff.mp hx'
  have et := dM (P := fun z : Str => decide (z ∈ other)) ez
  refine ⟨_, rfl, _, rfl, l2, _, rfl, .inl (SqL.of h24), rfl, dW other, _, rfl, ?_⟩
  rw [if_neg Bool.false_ne_true, gJ]
  cases hg : decide (z ∈ other) with
  | false =>
   rw [hg] at et
   exact bG (k2 _ ⟨rfl, by rw [et]; simp⟩)
  | true =>
   rw [hg] at et
   exact cA ⟨_, rfl, k1 _ _ ⟨rfl, by rw [et, if_pos rfl, List.map_append]; rfl⟩⟩
 rintro ys H5 ⟨rfl, rfl⟩
 rw [List.length_map, List.take_of_length_le (Nat.le_refl _)]
 intro l5 h5
 have S5 := aI.upd (o := .lst ((one.filter fun z => decide (z ∈ other)).map V.str)) h5
 have r5 : upd H4 l5 (.lst ((one.filter fun z => decide (z ∈ other)).map V.str)) l5 = some (.lst ((qT one other).map V.str)) := aE
 generalize upd H4 l5 (.lst ((one.filter fun z => decide (z ∈ other)).map V.str)) = H5 at S5 r5
 have T5 := T4.trans S5
 refine ⟨_, rfl, _, rfl, _, rfl, _, rfl, _, _, _, rfl, p, l4, fs, ds, gK one other, lv, rfl, L.same T5, rfl, S5 _ _ r4, aEY nd1 nd2, (fun z m => by rcases jO.mp m with h | h; exact sub1 z h; exact sub2 z h), rfl, hL, fun c3 H6 S6 lst3 => ?_⟩
 refine ⟨_, _, rfl, rfl, _, rfl, _, rfl, _, rfl, _, _, _, rfl, p, l5, fs, ds, qT one other, lv, rfl, L.same (T5.trans S6), rfl, S6 _ _ r5, aJS nd1, (fun z m => sub1 z (nB.mp m).1), rfl, hL, fun c4 H7 S7 lst4 => ?_⟩
 exact ⟨_, _, rfl, rfl, q c1 c2 c3 c4 H7 (T5.trans (S6.trans S7)) lst1 lst2 lst3 lst4⟩
def yS (mg : Str → Option Value) (C : Addr) : Sp := fun vs H Q E => ∃ (x y z u : V) (p : Addr) (fs ds : List Dv) (d1 d2 e : Dv) (c : Addr), vs = [x, y, z, u] ∧ x = .ref p ∧ LandAt C H p fs ds ∧ Is H d1 y ∧ dB d1 = true ∧ Is H d2 z ∧ dB d2 = true ∧ Is H e u ∧ (nT (fs.map aL) d1 e ∨ (∃ (one : List Str) (L : Int), d1 = .lst (one.map Dv.str) ∧ one.Nodup ∧ (∀ z ∈ one, z ∈ fs.map aL) ∧ e = .int L ∧ hgt L = true ∧ nT (fs.map aL) d2 e)) ∧ mg "NoWish" = some (.ref c) ∧ ∀ H', aI H H' → E (.ref c) none H'
theorem zI (T : Txt K mg C) : FcX P w K mg base 8 "saved" ["land", "one", "other", "height"] (yS mg C) := by
 have G_p_cost : FcX P w K mg base 7 "cost" ["land", "fields", "height"] (wV mg C) := sZ T
 refine T.d_p_saved.fcX gT (fun vs H Q E h => ?_) (fun f cdv A outer s H vs Q E hr h => ?_)
 ·obtain ⟨x, y, z, u, p, fs, ds, d1, d2, e, c, rfl, _⟩ := h
  rfl
 obtain ⟨x, y, z, u, p, fs, ds, d1, d2, e, c, rfl, rfl, L, h1, sm1, h2, sm2, he, bad, hc, q⟩ := h
 refine ⟨_, (aG (@aY _ _ (4) _ _ _ _ gT.nd rfl (Or.inl rfl) (@aK _ _ _ _ _ _ _ _ cP (zG G_p_cost (hr.mono (by decide)) oX (aA (pv 0) (aA (pv 1) (aA (pv 3) aB)))) (zG G_p_cost (hr.mono (by decide)) oX (aA (pv 0) (aA (pv 2) (aA (pv 3) aB))))) (by rfl) (by trivial)) iY), ?_⟩
 rcases bad with b | ⟨one, lv, rfl, nd, sub, rfl, hL, b⟩
 ·exact ⟨_, rfl, _, rfl, _, rfl, .inr ⟨_, _, _, p, fs, ds, d1, e, c, rfl, rfl, L, h1, sm1, he, b, hc, q⟩⟩
 ·obtain ⟨l, us, rfl, o, iu⟩ := h1
  have eu := wN iu
  subst eu
  have eL : u = .int lv := he
  subst eL
  refine ⟨_, rfl, _, rfl, _, rfl, .inl ⟨_, _, _, rfl, p, l, fs, ds, one, lv, rfl, L, rfl, o, nd, sub, rfl, hL, fun c1 H1 S1 lst1 => ?_⟩⟩
  exact ⟨_, rfl, _, rfl, _, rfl, .inr ⟨_, _, _, p, fs, ds, d2, .int lv, c, rfl, rfl, L.same S1, Is.same S1 _ _ h2, sm2, rfl, b, hc, fun H' S' => q H' (S1.trans S')⟩⟩
open Mt53 Mt22 MtF Mt31 Mt61
def aFX (C : Addr) : Sp := fun vs H Q _ => ∃ (x y z u : V) (p : Addr) (fs ds : List Dv) (d1 d2 e : Dv), vs = [x, y, z, u] ∧ x = .ref p ∧ LandAt C H p fs ds ∧ Is H d1 y ∧ dB d1 = true ∧ Is H d2 z ∧ dB d2 = true ∧ Is H e u ∧
 ((d2 = .non ∧ nT (fs.map aL) d1 e) ∨ (d2 ≠ .non ∧ (nT (fs.map aL) d1 e ∨ (∃ (one : List Str) (L : Int), d1 = .lst (one.map Dv.str) ∧ one.Nodup ∧ (∀ z ∈ one, z ∈ fs.map aL) ∧ e = .int L ∧ hgt L = true ∧ nT (fs.map aL) d2 e)))) ∧ ∀ H', aI H H' → Q (.bl true) H'
theorem aKG {H : Hp} {d : Dv} {v : V} (h : Is H d v) (n : d ≠ .non) : decide (v = .non) = false := by
 cases d with
 | non => exact absurd rfl n
 | bl b => rw [show v = .bl b from h]; rfl
 | int b => rw [show v = .int b from h]; rfl
 | str b => rw [show v = .str b from h]; rfl
 | lst b => obtain ⟨l, us, rfl, _⟩ := h; rfl
 | tup b => obtain ⟨l, us, rfl, _⟩ := h; rfl
 | dct a b => obtain ⟨l, us, rfl, _⟩ := h; rfl
theorem xP (T : Txt K mg C) : Fc P w K mg base 9 "_law_refused" ["_law_land", "_law_one", "_law_other", "_law_height"] (aFX C) := by
 obtain ⟨c_NoWish, c_DykeError, c_NoLand, c_NoWork, c_TooMany, ex_NoWish, hm_NoWish, hm_DykeError, hm_NoLand, hm_NoWork, hm_TooMany, kx_NoWish_DykeError, kx_NoWish_NoLand, kx_NoWish_NoWork, kx_NoWish_TooMany, kx_NoWish_NoWish, kx_NoWish_ValueError, xc_NoWish_DykeError⟩ := T.xs
 have G_p_cost : FcX P w K mg base 7 "cost" ["land", "fields", "height"] (wV mg C) := sZ T
 have G_p_saved : FcX P w K mg base 8 "saved" ["land", "one", "other", "height"] (yS mg C) := zI T
 refine T.d_l_refused.fc oT (fun vs H Q E ⟨x, y, z, u, p, fs, ds, d1, d2, e, ee, _⟩ => by rw [ee]; rfl) (fun f cdv A outer s H vs Q E hr h => ?_)
 obtain ⟨x, y, z, u, p, fs, ds, d1, d2, e, rfl, rfl, L, h1, sm1, h2, sm2, he, bad, q⟩ := h
 refine ⟨_, (aG (@aIU _ _ _ _ _ _ _ _ _ _ _ _ (4) oT.nd rfl rfl hm_DykeError (@aMP _ _ _ _ _ _ _ _ (@bI _ _ _ _ _ _ _ _ aGX (pv 2) jJ (@bO _ _ (by decide) (by decide))) (@aDD _ _ _ _ (@aMN _ _ _ _ _ _ _ _ _ _ G_p_cost (hr.mono (by decide)) (aA (pv 0) (aA (pv 1) (aA (pv 3) aB))) (by rfl) (by decide) (by rfl) (by rfl)) (by rfl)) (@aDD _ _ _ _ (@aMN _ _ _ _ _ _ _ _ _ _ G_p_saved (hr.mono (by decide)) (aA (pv 0) (aA (pv 1) (aA (pv 2) (aA (pv 3) aB)))) (by rfl) (by decide) (by rfl) (by rfl)) (by rfl))) (fun ea => (aG (@dL _ _ _ _ _ _ _ _ (@PW.pt _ _ _ (@iK _ _ _ _ _ _ _ (@cB _ _ _ (@aT _ _ _ _ _ _ _ _ _ (@gM _ (K) rfl) rfl T.n_isinstance bA (aA (pv 4) (aA (@oW _ _ (.ref c_NoLand) _ _ rfl hm_NoLand rfl (by decide)) aB)) (by decide) (by decide) (by rfl) (by rfl)) (by intro _; rfl)) (@iK _ _ _ _ _ _ _ (@cB _ _ _ (@aT _ _ _ _ _ _ _ _ _ (@gM _ (K) rfl) rfl T.n_isinstance bA (aA (pv 4) (aA (@oW _ _ (.ref c_NoWork) _ _ rfl hm_NoWork rfl (by decide)) aB)) (by decide) (by decide) (by rfl) (by rfl)) (by intro _; rfl)) (@gW _ _ _ _ (@cB _ _ _ (@aT _ _ _ _ _ _ _ _ _ (@gM _ (K) rfl) rfl T.n_isinstance bA (aA (pv 4) (aA (@oW _ _ (.ref c_TooMany) _ _ rfl hm_TooMany rfl (by decide)) aB)) (by decide) (by decide) (by rfl) (by rfl)) (by intro _; rfl)))))) (aH (@aS _ _ _ _ kS)) bQ) (aH (@aS _ _ _ _ (@cZ _ _ _ _ _ _ _ (@aT _ _ _ _ _ _ _ _ _ (@gM _ (K) rfl) rfl T.n_isinstance bA (aA (pv 4) (aA (@oW _ _ (.ref c_NoWish) _ _ rfl hm_NoWish rfl (by decide)) aB)) (by decide) (by decide) (by rfl) (by rfl)) (@dS _ _ _ _ _ (@aT _ _ _ _ _ _ _ _ _ (@gM _ (K) rfl) rfl T.n_isinstance bA (aA (pv 4) (aA (@kR _ _ _ _ T.n_ValueError PyProof.Rows.Boot.«ValueError» (by rfl) (by decide) (by decide)) aB)) (by decide) (by decide) (by rfl) (by rfl)))))))) (by rfl) (by decide) (by rfl) (by rfl)) (aH (@aS _ _ _ _ kS))), ?_⟩
 rcases bad with ⟨rfl, b⟩ | ⟨nn, b⟩
 ·have ez : z = .non := h2
  subst ez
  refine ⟨_, rfl, rfl, _, rfl, ?_⟩
  rw [decide_eq_true rfl]
  refine cA ⟨_, rfl, _, rfl, _, rfl, .inr ⟨_, _, _, p, fs, ds, d1, e, c_NoWish, rfl, rfl, L, h1, sm1, he, b, hm_NoWish, fun H1 S1 => ⟨xc_NoWish_DykeError, fun ea hea => ?_⟩⟩⟩
  have S2 := aI.upd (o := rF ea (.ref c_NoWish)) hea
  have hee : upd H1 ea (rF ea (.ref c_NoWish)) ea = some (rF ea (.ref c_NoWish)) := aE
  generalize upd H1 ea (rF ea (.ref c_NoWish)) = H2 at hee S2
  refine ⟨_, rfl, ea, _, _, c_NoWish, false, rfl, rfl, hee, ex_NoWish, kx_NoWish_NoLand, _, rfl, bG ?_⟩
  refine ⟨_, rfl, ea, _, _, c_NoWish, false, rfl, rfl, hee, ex_NoWish, kx_NoWish_NoWork, _, rfl, bG ?_⟩
  refine ⟨_, rfl, ea, _, _, c_NoWish, false, rfl, rfl, hee, ex_NoWish, kx_NoWish_TooMany, _, rfl, bG ?_⟩
  refine ⟨_, rfl, ea, _, _, c_NoWish, true, rfl, rfl, hee, ex_NoWish, kx_NoWish_NoWish, _, rfl, cA ?_⟩
  exact ⟨_, rfl, ea, _, _, c_NoWish, true, rfl, rfl, hee, ex_NoWish, kx_NoWish_ValueError, q _ (S1.trans S2)⟩
 ·refine ⟨_, rfl, rfl, _, rfl, ?_⟩
  rw [aKG h2 nn]
  refine bG ⟨_, rfl, _, rfl, _, rfl, _, rfl, _, _, _, _, p, fs, ds, d1, d2, e, c_NoWish, rfl, rfl, L, h1, sm1, h2, sm2, he, b, hm_NoWish, fun H1 S1 => ⟨xc_NoWish_DykeError, fun ea hea => ?_⟩⟩
  have S2 := aI.upd (o := rF ea (.ref c_NoWish)) hea
  have hee : upd H1 ea (rF ea (.ref c_NoWish)) ea = some (rF ea (.ref c_NoWish)) := aE
  generalize upd H1 ea (rF ea (.ref c_NoWish)) = H2 at hee S2
  refine ⟨_, rfl, ea, _, _, c_NoWish, false, rfl, rfl, hee, ex_NoWish, kx_NoWish_NoLand, _, rfl, bG ?_⟩
  refine ⟨_, rfl, ea, _, _, c_NoWish, false, rfl, rfl, hee, ex_NoWish, kx_NoWish_NoWork, _, rfl, bG ?_⟩
  refine ⟨_, rfl, ea, _, _, c_NoWish, false, rfl, rfl, hee, ex_NoWish, kx_NoWish_TooMany, _, rfl, bG ?_⟩
  refine ⟨_, rfl, ea, _, _, c_NoWish, true, rfl, rfl, hee, ex_NoWish, kx_NoWish_NoWish, _, rfl, cA ?_⟩
  exact ⟨_, rfl, ea, _, _, c_NoWish, true, rfl, rfl, hee, ex_NoWish, kx_NoWish_ValueError, q _ (S1.trans S2)⟩
open Mt53 Mt22 MtF Mt31 Mt61
theorem aIE {xs : List V} {i : Int} (h0 : 0 ≤ i) (h1 : i < xs.length) : ∃ v, v ∈ xs ∧ atI xs i = some v := by
 obtain ⟨k, rfl⟩ := Int.eq_ofNat_of_zero_le h0
 have hk : k < xs.length := by omega
 exact ⟨xs[k], List.getElem_mem hk, aO (List.getElem?_eq_getElem hk)⟩
def yW (C : Addr) : Sp := sp3 fun x y u H Q => ∃ (p l : Addr) (fs ds : List Dv) (c : Int), x = .ref p ∧ LandAt C H p fs ds ∧ y = .ref l ∧ H l = some (.lst ((fs.map aL).map V.str)) ∧ u = .int c ∧ ∀ H', aI H H' → Q (.bl true) H'
theorem pU (T : Txt K mg C) : Fc P w K mg base 10 "_law_all_refused" ["_law_land", "_law_names", "_law_cell"] (yW C) := by
 have G_l_refused : Fc P w K mg base 9 "_law_refused" ["_law_land", "_law_one", "_law_other", "_law_height"] (aFX C) := xP T
 refine T.d_l_all_refused.fc fB pW (fun f cdv A outer s H vs Q E hr h => ?_)
 obtain ⟨x, y, u, rfl, p, l, fs, ds, c, rfl, L, rfl, hl, rfl, q⟩ := h
 have big := bY
 have gf := (bV L).1
 obtain ⟨f0, fr, efs⟩ : ∃ f0 fr, fs = f0 :: fr := by
  cases fs with
  | nil => have := gf.l1; exact absurd this (by decide)
  | cons a b => exact ⟨a, b, rfl⟩
 have a0 : ((fs.map aL).map V.str)[0]? = some (.str (aL f0)) := by rw [efs]; rfl
 have n0 : aL f0 ∈ fs.map aL := by rw [efs]; exact List.mem_cons_self
 generalize aL f0 = n at a0 n0
 refine ⟨_, (aG (@aY _ _ (3) _ _ _ _ fB.nd rfl (Or.inl rfl) (@bC _ _ _ _ _ _ _ (@cO _ (K) rfl) (@cG _ _ _ _ (aA jJ (aA aF (aA kC (aA (@dY _ _ _ _ _ aB) (aA (@dY _ _ _ _ _ (aA (@bC _ _ _ _ _ _ _ (@cO _ (K) rfl) (pv 1) aF (fun _ _ => rfl)) aB)) (aA (@cG _ _ _ _ (aA kC aB)) (aA (@cG _ _ _ _ (aA (@bC _ _ _ _ _ _ _ (@cO _ (K) rfl) (pv 1) aF (fun _ _ => rfl)) (aA (@bC _ _ _ _ _ _ _ (@cO _ (K) rfl) (pv 1) aF (fun _ _ => rfl)) aB))) (aA (@cG _ _ _ _ (aA jJ aB)) (aA (@cG _ _ _ _ (aA (@cG _ _ _ _ (aA (@bC _ _ _ _ _ _ _ (@cO _ (K) rfl) (pv 1) aF (fun _ _ => rfl)) aB)) aB)) aB)))))))))) (@aK _ _ _ _ _ _ _ _ cM (pv 2) aF) (fun _ _ => rfl)) (by rfl) (by trivial)) (aG (@aY _ _ (4) _ _ _ _ fB.nd rfl (Or.inl rfl) (@bC _ _ _ _ _ _ _ (@cO _ (K) rfl) (@cG _ _ _ _ (aA jJ (aA kS (aA kC (aA (@aK _ _ _ _ _ _ _ _ cP (@aK _ _ _ _ _ _ _ _ kD aF aF) aF) (aA (@aK _ _ _ _ _ _ _ _ gF (@aGR _ _ _ _ _ _ aAP aF) (@aK _ _ _ _ _ _ _ _ kD aF aF)) (aA (@cG _ _ _ _ (aA aF aB)) aB))))))) (@aK _ _ _ _ _ _ _ _ cM (@aK _ _ _ _ _ _ _ _ bN (pv 2) aF) aF) (fun _ _ => rfl)) (by rfl) (by trivial)) (aG (@iN _ _ _ _ _ _ _ _ PassesOwn.never rfl (@bM _ _ _ _ (@cG _ _ _ _ (aA (@cG _ _ _ _ aB) (aA (pv 1) aB)))) (@aP _ _ (5) _ fB.nd rfl (Or.inl rfl) (by trivial)) (aG (@dL _ _ _ _ _ _ _ _ (@PW.pt _ _ _ (@kB _ _ _ _ _ _ _ (@bI _ _ _ _ _ _ _ _ aDF (pv 3) jJ (@bO _ _ (by decide) (by decide))) (@iT _ _ _ _ (@cY _ _ _ _ (@cB _ _ _ (@bD _ _ _ _ _ _ _ _ _ _ G_l_refused (hr.mono (by decide)) (aA (pv 0) (aA (pv 5) (aA (pv 3) (aA aF aB)))) (by rfl) (by decide) (by rfl) (by rfl)) (by intro _; rfl)))))) (aH (@aS _ _ _ _ kS)) bQ) (aH (@dL _ _ _ _ _ _ _ _ (@PW.pt _ _ _ (@iK _ _ _ _ _ _ _ (@cY _ _ _ _ (@cB _ _ _ (@bD _ _ _ _ _ _ _ _ _ _ G_l_refused (hr.mono (by decide)) (aA (pv 0) (aA (pv 5) (aA (@cG _ _ _ _ aB) (aA (pv 4) aB)))) (by rfl) (by decide) (by rfl) (by rfl)) (by intro _; rfl))) (@gW _ _ _ _ (@cY _ _ _ _ (@cB _ _ _ (@bD _ _ _ _ _ _ _ _ _ _ G_l_refused (hr.mono (by decide)) (aA (pv 0) (aA (pv 5) (aA jJ (aA (pv 4) aB)))) (by rfl) (by decide) (by rfl) (by rfl)) (by intro _; rfl)))))) (aH (@aS _ _ _ _ kS)) bQ))) (by intro _; rfl)) (aH (@aS _ _ _ _ (@cZ _ _ _ _ _ _ _ (@bD _ _ _ _ _ _ _ _ _ _ G_l_refused (hr.mono (by decide)) (aA (pv 0) (aA (pv 3) (aA jJ (aA aF aB)))) (by rfl) (by decide) (by rfl) (by rfl)) (@dS _ _ _ _ _ (@bD _ _ _ _ _ _ _ _ _ _ G_l_refused (hr.mono (by decide)) (aA (pv 0) (aA (pv 3) (aA (pv 1) (aA aF aB)))) (by rfl) (by decide) (by rfl) (by rfl))))))))), ?_⟩
 refine ⟨aN rfl, fun ta hta => ?_⟩
 have S1 := aI.upd (o := .tup []) hta
 have r1 : upd H ta (.tup []) ta = some (.tup []) := aE
 generalize upd H ta (.tup []) = H1 at S1 r1
 refine ⟨_, rfl, l, _, 0, .str n, rfl, rfl, SqL.of (S1 _ _ hl), aO (j := 0) a0, aN rfl, fun tb htb => ?_⟩
 have S2 := aI.upd (o := .tup [.str n]) htb
 have r2 : upd H1 tb (.tup [.str n]) tb = some (.tup [.str n]) := aE
 generalize upd H1 tb (.tup [.str n]) = H2 at S2 r2
 refine ⟨aN rfl, fun l1 hl1 => ?_⟩
 have S3 := aI.upd (o := .lst [.str "sea"]) hl1
 have r3 : upd H2 l1 (.lst [.str "sea"]) l1 = some (.lst [.str "sea"]) := aE
 generalize upd H2 l1 (.lst [.str "sea"]) = H3 at S3 r3
 have T3 := S1.trans (S2.trans S3)
 refine ⟨_, rfl, l, _, 0, .str n, rfl, rfl, SqL.of (T3 _ _ hl), aO (j := 0) a0, _, rfl, l, _, 0, .str n, rfl, rfl, SqL.of (T3 _ _ hl), aO (j := 0) a0, aN rfl, fun l2 hl2 => ?_⟩
 have S4 := aI.upd (o := .lst [.str n, .str n]) hl2
 have r4 : upd H3 l2 (.lst [.str n, .str n]) l2 = some (.lst [.str n, .str n]) := aE
 generalize upd H3 l2 (.lst [.str n, .str n]) = H4 at S4 r4
 refine ⟨aN rfl, fun l3 hl3 => ?_⟩
 have S5 := aI.upd (o := .lst [.non]) hl3
 have r5 : upd H4 l3 (.lst [.non]) l3 = some (.lst [.non]) := aE
 generalize upd H4 l3 (.lst [.non]) = H5 at S5 r5
 have T5 := T3.trans (S4.trans S5)
 refine ⟨_, rfl, l, _, 0, .str n, rfl, rfl, SqL.of (T5 _ _ hl), aO (j := 0) a0, aN rfl, fun l4 hl4 => ?_⟩
 have S6 := aI.upd (o := .lst [.str n]) hl4
 have r6 : upd H5 l4 (.lst [.str n]) l4 = some (.lst [.str n]) := aE
 generalize upd H5 l4 (.lst [.str n]) = H6 at S6 r6
 refine ⟨aN rfl, fun l5 hl5 => ?_⟩
 have S7 := aI.upd (o := .lst [.ref l4]) hl5
 have r7 : upd H6 l5 (.lst [.ref l4]) l5 = some (.lst [.ref l4]) := aE
 generalize upd H6 l5 (.lst [.ref l4]) = H7 at S7 r7
 refine ⟨aN rfl, fun lo hlo => ?_⟩
 have S8 := aI.upd (o := .lst [.non, .int 5, .str "", .ref ta, .ref tb, .ref l1, .ref l2, .ref l3, .ref l5]) hlo
 have r8 : upd H7 lo (.lst [.non, .int 5, .str "", .ref ta, .ref tb, .ref l1, .ref l2, .ref l3, .ref l5]) lo = some (.lst [.non, .int 5, .str "", .ref ta, .ref tb, .ref l1, .ref l2, .ref l3, .ref l5]) := aE
 generalize upd H7 lo (.lst [.non, .int 5, .str "", .ref ta, .ref tb, .ref l1, .ref l2, .ref l3, .ref l5]) = H8 at S8 r8
 obtain ⟨vo, mo, eo⟩ := aIE (xs := [.non, .int 5, .str "", .ref ta, .ref tb, .ref l1, .ref l2, .ref l3, .ref l5]) (i := c % 9) (Int.emod_nonneg _ (by decide)) (Int.emod_lt_of_pos _ (by decide))
 refine ⟨_, rfl, _, _, rfl, rfl, (iO rfl), lo, _, _, vo, rfl, rfl, SqL.of r8, eo, ?_⟩
 have T8 := T5.trans (S6.trans (S7.trans S8))
 have seaN : ("sea" : Str) ∉ fs.map aL := fun m => by
  obtain ⟨d, md, e⟩ := List.mem_map.mp m
  obtain ⟨z, g, u, rfl, hz, _⟩ := bJ (gf.all d md)
  exact oS hz e
 have nn : n.length ≤ 1000 := by
  obtain ⟨d, md, e⟩ := List.mem_map.mp n0
  obtain ⟨z, g, u, rfl, hz, _⟩ := bJ (gf.all d md)
  rw [← e]
  exact gZ hz
 have nolst : ∀ es : List Dv, es.all (gH (fs.map aL)) = false → jT (fs.map aL) (.lst es) = false := fun es h => by
  unfold jT
  rw [show aAK (fs.map aL) (.lst es) = es.all (gH (fs.map aL)) from rfl, h, Bool.and_false]
  rfl
 have odd : ∃ d, Is H8 d vo ∧ dB d = true ∧ jT (fs.map aL) d = false ∧ d ≠ .lst [] := by
  simp only [List.mem_cons, List.mem_nil_iff, or_false] at mo
  rcases mo with rfl | rfl | rfl | rfl | rfl | rfl | rfl | rfl | rfl
  ·exact ⟨.non, rfl, rfl, rfl, by simp⟩
  ·exact ⟨.int 5, rfl, rfl, rfl, by simp⟩
  ·exact ⟨.str "", rfl, by decide +kernel, rfl, by simp⟩
  ·exact ⟨.tup [], ⟨ta, [], rfl, (S2.trans (S3.trans (S4.trans (S5.trans (S6.trans (S7.trans S8)))))) _ _ r1, rfl⟩, rfl, rfl, by simp⟩
  ·refine ⟨.tup [.str n], ⟨tb, _, rfl, (S3.trans (S4.trans (S5.trans (S6.trans (S7.trans S8))))) _ _ r2, _, _, rfl, rfl, rfl⟩, ?_, rfl, by simp⟩
   show (decide (1 ≤ 1000) && (decide (n.length ≤ 1000) && true)) = true
   rw [decide_eq_true nn]
   rfl
  ·refine ⟨.lst [.str "sea"], ⟨l1, _, rfl, (S4.trans (S5.trans (S6.trans (S7.trans S8)))) _ _ r3, _, _, rfl, rfl, rfl⟩, by decide +kernel, nolst _ ?_, by simp⟩
   show (decide (("sea" : Str) ∈ fs.map aL) && true) = false
   rw [decide_eq_false seaN]
   rfl
  ·refine ⟨.lst [.str n, .str n], ⟨l2, _, rfl, (S5.trans (S6.trans (S7.trans S8))) _ _ r4, _, _, rfl, rfl, _, _, rfl, rfl, rfl⟩, ?_, ?_, by simp⟩
   ·show (decide (2 ≤ 1000) && (decide (n.length ≤ 1000) && (decide (n.length ≤ 1000) && true))) = true
    rw [decide_eq_true nn]
    rfl
   ·unfold jT
    show (_ && _ && decide (([n, n] : List Str).Nodup)) = false
    rw [decide_eq_false (by simp), Bool.and_false]
  ·exact ⟨.lst [.non], ⟨l3, _, rfl, (S6.trans (S7.trans S8)) _ _ r5, _, _, rfl, rfl, rfl⟩, rfl, nolst _ rfl, by simp⟩
  ·refine ⟨.lst [.lst [.str n]], ⟨l5, _, rfl, S8 _ _ r7, _, _, rfl, ⟨l4, _, rfl, (S7.trans S8) _ _ r6, _, _, rfl, rfl, rfl⟩, rfl⟩, ?_, nolst _ rfl, by simp⟩
   show (decide (1 ≤ 1000) && ((decide (1 ≤ 1000) && (decide (n.length ≤ 1000) && true)) && true)) = true
   rw [decide_eq_true nn]
   rfl
 obtain ⟨od, iod, sod, bod, nod⟩ := odd
 refine ⟨_, _, rfl, rfl, ⟨by decide, by decide, by decide⟩, _, _, rfl, rfl, _, rfl, _, _, rfl, rfl, ⟨by decide, by decide, by decide⟩, _, _, rfl, rfl, aN rfl, fun l6 hl6 => ?_⟩
 have S9 := aI.upd (o := .lst [.int 5]) hl6
 have r9 : upd H8 l6 (.lst [.int 5]) l6 = some (.lst [.int 5]) := aE
 generalize upd H8 l6 (.lst [.int 5]) = H9 at S9 r9
 refine ⟨aN rfl, fun lq hlq => ?_⟩
 have S10 := aI.upd (o := .lst [.non, .bl true, .str "5", .int (10 ^ (6 : Int).toNat + 1), .int (-1 - 10 ^ (6 : Int).toNat), .ref l6]) hlq
 have r10 : upd H9 lq (.lst [.non, .bl true, .str "5", .int (10 ^ (6 : Int).toNat + 1), .int (-1 - 10 ^ (6 : Int).toNat), .ref l6]) lq = some (.lst [.non, .bl true, .str "5", .int (10 ^ (6 : Int).toNat + 1), .int (-1 - 10 ^ (6 : Int).toNat), .ref l6]) := aE
 generalize upd H9 lq (.lst [.non, .bl true, .str "5", .int (10 ^ (6 : Int).toNat + 1), .int (-1 - 10 ^ (6 : Int).toNat), .ref l6]) = H10 at S10 r10
 obtain ⟨ve, me, ee⟩ := aIE (xs := [.non, .bl true, .str "5", .int (10 ^ (6 : Int).toNat + 1), .int (-1 - 10 ^ (6 : Int).toNat), .ref l6]) (i := c / 9 % 6) (Int.emod_nonneg _ (by decide)) (Int.emod_lt_of_pos _ (by decide))
 refine ⟨_, rfl, _, _, rfl, rfl, ⟨by decide, by decide⟩, _, _, rfl, rfl, (iO rfl), lq, _, _, ve, rfl, rfl, SqL.of r10, ee, ?_⟩
 have bad : ∃ e, Is H10 e ve ∧ cT e = false := by
  simp only [List.mem_cons, List.mem_nil_iff, or_false] at me
  rcases me with rfl | rfl | rfl | rfl | rfl | rfl
  ·exact ⟨.non, rfl, rfl⟩
  ·exact ⟨.bl true, rfl, rfl⟩
  ·exact ⟨.str "5", rfl, rfl⟩
  ·exact ⟨.int _, rfl, by decide +kernel⟩
  ·exact ⟨.int _, rfl, by decide +kernel⟩
  ·exact ⟨.lst [.int 5], ⟨l6, _, rfl, S10 _ _ r9, _, _, rfl, rfl, rfl⟩, rfl⟩
 obtain ⟨be, ibe, hbe⟩ := bad
 have T10 := T8.trans (S9.trans S10)
 have iod10 := Is.same (S9.trans S10) _ _ iod
 have five : cT (.int 5) = true := by decide +kernel
 have names_is : ∀ {G : Hp}, aI H G → Is G (.lst ((fs.map aL).map Dv.str)) (.ref l) := fun S => ⟨l, _, rfl, S _ _ hl, IsL.strs _ _⟩
 have nms : dB (.lst ((fs.map aL).map Dv.str)) = true := nM (fun d m => by
  obtain ⟨z, mz, rfl⟩ := List.mem_map.mp m
  obtain ⟨d, md, e⟩ := List.mem_map.mp mz
  obtain ⟨z', g, u, rfl, hz, _⟩ := bJ (gf.all d md)
  have e' : z' = z := e
  rw [← e']
  show decide (z'.length ≤ 1000) = true
  exact decide_eq_true (gZ hz)) (by have := gf.l2; rw [List.length_map, List.length_map]; omega)
 refine ⟨aN rfl, fun l7 hl7 => ?_⟩
 have S11 := aI.upd (o := .lst []) hl7
 have r11 : upd H10 l7 (.lst []) l7 = some (.lst []) := aE
 generalize upd H10 l7 (.lst []) = H11 at S11 r11
 refine ⟨_, rfl, aN rfl, fun l8 hl8 => ?_⟩
 have S12 := aI.upd (o := .lst [.ref l7, .ref l]) hl8
 have r12 : upd H11 l8 (.lst [.ref l7, .ref l]) l8 = some (.lst [.ref l7, .ref l]) := aE
 generalize upd H11 l8 (.lst [.ref l7, .ref l]) = H12 at S12 r12
 have T12 := T10.trans (S11.trans S12)
 refine ⟨l8, rfl, ⟨_, SqL.of r12⟩, kZ (K := K) (a := l8) (xs := [.ref l7, .ref l]) (fun i σ H' => ∃ v5, σ = [some (.ref p), some (.ref l), some (.int c), some vo, some ve, v5] ∧ aI H12 H') ⟨_, rfl, aI.refl _⟩ ?_ ?_ ?_⟩
 ·rintro i σ H' hi ⟨v5, rfl, S'⟩
  exact SqL.of (S' _ _ r12)
 ·rintro i xv σ H' hx ⟨v5, rfl, S'⟩
  have one : ∃ zs : List Str, (∀ {G : Hp}, aI H12 G → Is G (.lst (zs.map Dv.str)) xv) ∧ zs.Nodup ∧ (∀ z ∈ zs, z ∈ fs.map aL) ∧ dB (.lst (zs.map Dv.str)) = true := by
   have mx := List.mem_of_getElem? hx
   simp only [List.mem_cons, List.mem_nil_iff, or_false] at mx
   rcases mx with rfl | rfl
   ·exact ⟨[], fun S => ⟨l7, [], rfl, (S12.trans S) _ _ r11, rfl⟩, by simp, (fun z m => nomatch m), rfl⟩
   ·exact ⟨fs.map aL, fun S => names_is (T12.trans S), gf.nd, fun z m => m, nms⟩
  obtain ⟨zs, izs, ndz, subz, smz⟩ := one
  have iod' := Is.same (S11.trans (S12.trans S')) _ _ iod10
  refine ⟨_, rfl, rfl, _, rfl, ?_⟩
  by_cases hn : od = .non
  ·have ev : vo = .non := by rw [hn] at iod'; exact iod'
   rw [ev, decide_eq_true rfl]
   refine bG ?_
   refine ⟨_, rfl, _, rfl, aN rfl, fun l9 hl9 => ?_⟩
   have Sn := aI.upd (o := .lst []) hl9
   have rn : upd H' l9 (.lst []) l9 = some (.lst []) := aE
   generalize upd H' l9 (.lst []) = Hn at Sn rn
   have U := S'.trans Sn
   have ibe' := Is.same (S11.trans (S12.trans U)) _ _ ibe
   refine ⟨_, rfl, ⟨_, _, _, _, p, fs, ds, .lst (zs.map Dv.str), .lst [], be, rfl, rfl, L.same (T12.trans U), izs U, smz, ⟨l9, [], rfl, rn, rfl⟩, rfl, ibe', .inr ⟨by simp, .inl (.inr hbe)⟩, fun Hm Sm => ?_⟩⟩
   refine ⟨_, rfl, ?_⟩
   show (if false = true then _ else _)
   refine bG ?_
   have U2 := U.trans Sm
   refine ⟨_, rfl, _, rfl, _, rfl, ⟨_, _, _, _, p, fs, ds, .lst (zs.map Dv.str), .non, be, rfl, rfl, L.same (T12.trans U2), izs U2, smz, rfl, rfl, Is.same Sm _ _ ibe', .inl ⟨rfl, .inr hbe⟩, fun Hk Sk => ?_⟩⟩
   refine ⟨_, rfl, ?_⟩
   show (if false = true then _ else _)
   exact bG ⟨_, rfl, U2.trans Sk⟩
  ·rw [aKG iod' hn]
   refine cA ?_
   refine ⟨_, rfl, _, rfl, _, rfl, ⟨_, _, _, _, p, fs, ds, .lst (zs.map Dv.str), od, .int 5, rfl, rfl, L.same (T12.trans S'), izs S', smz, iod', sod, rfl, .inr ⟨hn, .inr ⟨zs, 5, rfl, ndz, subz, rfl, five, .inl ⟨bod, nod⟩⟩⟩, fun Hj Sj => ?_⟩⟩
   refine ⟨_, rfl, ?_⟩
   show (if false = true then _ else _)
   refine bG ?_
   refine ⟨_, rfl, _, rfl, aN rfl, fun l9 hl9 => ?_⟩
   have Sn := aI.upd (o := .lst []) hl9
   have rn : upd Hj l9 (.lst []) l9 = some (.lst []) := aE
   generalize upd Hj l9 (.lst []) = Hn at Sn rn
   have U := (S'.trans Sj).trans Sn
   have ibe' := Is.same (S11.trans (S12.trans U)) _ _ ibe
   refine ⟨_, rfl, ⟨_, _, _, _, p, fs, ds, .lst (zs.map Dv.str), .lst [], be, rfl, rfl, L.same (T12.trans U), izs U, smz, ⟨l9, [], rfl, rn, rfl⟩, rfl, ibe', .inr ⟨by simp, .inl (.inr hbe)⟩, fun Hm Sm => ?_⟩⟩
   refine ⟨_, rfl, ?_⟩
   show (if false = true then _ else _)
   refine bG ?_
   have U2 := U.trans Sm
   refine ⟨_, rfl, _, rfl, _, rfl, ⟨_, _, _, _, p, fs, ds, .lst (zs.map Dv.str), .non, be, rfl, rfl, L.same (T12.trans U2), izs U2, smz, rfl, rfl, Is.same Sm _ _ ibe', .inl ⟨rfl, .inr hbe⟩, fun Hk Sk => ?_⟩⟩
   refine ⟨_, rfl, ?_⟩
   show (if false = true then _ else _)
   exact bG ⟨_, rfl, U2.trans Sk⟩
 ·rintro σ H' ⟨v5, rfl, S'⟩
  have iod' := Is.same (S11.trans (S12.trans S')) _ _ iod10
  refine ⟨_, rfl, _, rfl, ⟨_, _, _, _, p, fs, ds, od, .non, .int 5, rfl, rfl, L.same (T12.trans S'), iod', sod, rfl, rfl, rfl, .inl ⟨rfl, .inl ⟨bod, nod⟩⟩, fun H2' S2' => ?_⟩⟩
  refine ⟨_, rfl, cA ?_⟩
  refine ⟨_, rfl, _, rfl, _, rfl, ⟨_, _, _, _, p, fs, ds, od, .lst ((fs.map aL).map Dv.str), .int 5, rfl, rfl, L.same (T12.trans (S'.trans S2')), Is.same S2' _ _ iod', sod, names_is (T12.trans (S'.trans S2')), nms, rfl, .inr ⟨by simp, .inl (.inl ⟨bod, nod⟩)⟩, fun H3' S3' => q _ (T12.trans (S'.trans (S2'.trans S3')))⟩⟩
open Mt53 Mt22 MtF Mt31 Mt61
theorem aCJ {H : Hp} {l : Addr} {zs : List Str} (h : H l = some (.lst (zs.map V.str))) : Is H (jC zs) (.ref l) := ⟨l, _, rfl, h, IsL.strs _ _⟩
theorem rW (zs : List Str) : aZ 29 (jC zs) = true := by
 show aZ 29 (.lst (zs.map Dv.str)) = true
 rw [aZ]
 exact tX fun d m => by
  obtain ⟨z, _, rfl⟩ := List.mem_map.mp m
  rfl
theorem aFM (one other : List Str) : aZ 30 (.lst [jC one, jC other]) = true := by
 show (aZ 29 (jC one) && (aZ 29 (jC other) && true)) = true
 rw [rW one, rW other]
 rfl
theorem aFL {H : Hp} {l a b : Addr} {one other : List Str} (h : H l = some (.lst [.ref a, .ref b])) (h1 : H a = some (.lst (one.map V.str))) (h2 : H b = some (.lst (other.map V.str))) : Is H (.lst [jC one, jC other]) (.ref l) := ⟨l, _, rfl, h, _, _, rfl, aCJ h1, _, _, rfl, aCJ h2, rfl⟩
theorem aLA {f : Addr} {fd : FuncData} (T : Txt K mg C) (F : Fun K "law" "law" nJ f fd) : FnOk P w K mg base CX0 12 f fd ["_law_script"] (aCQ K) := by
 have G_l_small : Fc P w K mg base 3 "_law_small" ["_law_script"] (aCN K) := aBE T
 have G_l_cell_at : Fc P w K mg base 1 "_law_cell_at" ["_law_script", "_law_k"] (sA K) := iV T
 have G_l_mixed : Fc P w K mg base 1 "_law_mixed" ["_law_cell", "_law_k"] oR := oJ T
 have G_l_company : Fc P w K mg base 1 "_law_company" ["_law_names", "_law_number"] (vB K) := xQ T
 have G_l_high : Fc P w K mg base 1 "_law_high" ["_law_number"] wT := pT T
 have G_l_least : Fc P w K mg base 1 "_law_least" ["_law_fields_here", "_law_dykes_here", "_law_wish", "_law_height"] wS := aBF T
 have G_p_saved : Fc P w K mg base 8 "saved" ["land", "one", "other", "height"] (wQ C) := aBD T
 have G_l_all_refused : Fc P w K mg base 10 "_law_all_refused" ["_law_land", "_law_names", "_law_cell"] (yW C) := pU T
 have G_land_pinit : Ic P w K mg base 6 C ["self", "fields", "dykes"] (aFZ C) := uR T
 refine F.ok dC oK (fun cdv A outer s H vs Q E hr h => ?_)
 obtain ⟨x, rfl, a, ns, rfl, hS, hl, q⟩ := h
 have big := bY
 have hu := oA hr
 have scr : Scr K H (.ref a) := ⟨a, ns, rfl, hS, hl⟩
 refine ⟨_, (aG (@xH _ _ _ _ _ _ (@bD _ _ _ _ _ _ _ _ _ _ G_l_small (hr.mono (by decide)) (aA (pv 0) aB) (by rfl) (by decide) (by rfl) (by rfl)) (@pN _ _ _ _ _ _ rfl (@cF _ _ _ _ _ (@aP _ _ (1) _ dC.nd rfl (Or.inl rfl) (by trivial)) (@cF _ _ _ _ _ (@aP _ _ (2) _ dC.nd rfl (Or.inl rfl) (by trivial)) lD (by rfl)) (by rfl)) (by rfl) (by rfl)) (by rfl) (by rfl) (by rfl)) (aG (@aY _ _ (3) _ _ _ _ dC.nd rfl (Or.inl rfl) (@aMO _ _ _ _ _ _ _ _ _ _ _ T.mg_Land G_land_pinit (hr.mono (by decide)) (aA (pv 1) (aA (pv 2) aB)) (by rfl) (by decide) (by rfl) (by rfl)) (by rfl) (by trivial)) (aG (@fT _ (4) _ _ _ _ _ _ _ _ _ _ _ _ _ dC.nd rfl ["_law_field"] 1 [] rfl (@bM _ _ _ _ (pv 1)) (fun R => @aP _ _ (0) _ (show List.Nodup (["_law_field"] : List Str) by decide +kernel) rfl (Or.inl rfl) (by trivial)) (@aX _ _ (by decide)) (fun R => cI) (fun R => (@bC _ _ _ _ _ _ _ (@aW _ (K) rfl) (pv 0) aF (fun _ _ => rfl))) (by exact Or.inl rfl) (by trivial) (by rfl) (by rfl) (by rfl) (by rfl) (by rfl) (by rfl) (by rfl) (by rfl) (by intro _; rfl)) (aG (@iN _ _ _ _ _ _ _ _ PassesOwn.never rfl (@gX _ _ _ _ _ _ rfl T.n_range (aA aF aB) (by rfl)) (@aP _ _ (5) _ dC.nd rfl (Or.inl rfl) (by trivial)) (aG (@aY _ _ (6) _ _ _ _ dC.nd rfl (Or.inl rfl) (@bD _ _ _ _ _ _ _ _ _ _ G_l_mixed (hr.mono (by decide)) (aA (@bD _ _ _ _ _ _ _ _ _ _ G_l_cell_at (hr.mono (by decide)) (aA (pv 0) (aA (@aK _ _ _ _ _ _ _ _ cP aF (pv 5)) aB)) (by rfl) (by decide) (by rfl) (by rfl)) (aA (@aK _ _ _ _ _ _ _ _ cP (pv 5) aF) aB)) (by rfl) (by decide) (by rfl) (by rfl)) (by rfl) (by trivial)) (aG (@aY _ _ (7) _ _ _ _ dC.nd rfl (Or.inr rfl) (@bD _ _ _ _ _ _ _ _ _ _ G_l_company (hr.mono (by decide)) (aA (pv 4) (aA (pv 6) aB)) (by rfl) (by decide) (by rfl) (by rfl)) (by rfl) (by trivial)) (aG (@aY _ _ (8) _ _ _ _ dC.nd rfl (Or.inr rfl) (@bD _ _ _ _ _ _ _ _ _ _ G_l_company (hr.mono (by decide)) (aA (pv 4) (aA (@aK _ _ _ _ _ _ _ _ bN (pv 6) aF) aB)) (by rfl) (by decide) (by rfl) (by rfl)) (by rfl) (by trivial)) (aG (@aY _ _ (9) _ _ _ _ dC.nd rfl (Or.inl rfl) (@bC _ _ _ _ _ _ _ (@aW _ (K) rfl) (@bD _ _ _ _ _ _ _ _ _ _ G_l_high (hr.mono (by decide)) (aA (@aK _ _ _ _ _ _ _ _ bN (pv 6) aF) aB) (by rfl) (by decide) (by rfl) (by rfl)) aF (fun _ _ => rfl)) (by rfl) (by trivial)) (aG (@aY _ _ (10) _ _ _ _ dC.nd rfl (Or.inl rfl) (@aK _ _ _ _ _ _ _ _ pO (pv 7) (@bX _ _ _ _ _ _ _ _ _ _ _ ["_law_name", "_law_one"] 1 [7] rfl (@bM _ _ _ _ (pv 8)) (fun R => @aP _ _ (0) _ (show List.Nodup (["_law_name", "_law_one"] : List Str) by decide +kernel) rfl (Or.inl rfl) (by trivial)) (@aX _ _ (by decide)) (fun R => @dO _ _ _ (@bI _ _ _ _ _ _ _ _ (@kE _ (K) rfl) (pv 0) (pv 1) (by with_unfolding_all rfl))) (fun R => (pv 0)) (by rfl) (by rfl) (by rfl) (by rfl) (by rfl) (by rfl) (by rfl) (by intro _; rfl))) (by rfl) (by trivial)) (aG (@fT _ (11) _ _ _ _ _ _ _ _ _ _ _ _ _ dC.nd rfl ["_law_name", "_law_other"] 1 [8] rfl (@bM _ _ _ _ (pv 7)) (fun R => @aP _ _ (0) _ (show List.Nodup (["_law_name", "_law_other"] : List Str) by decide +kernel) rfl (Or.inl rfl) (by trivial)) (@aX _ _ (by decide)) (fun R => @dO _ _ _ (@bI _ _ _ _ _ _ _ _ (@dZ _ (K) rfl) (pv 0) (pv 1) (by with_unfolding_all rfl))) (fun R => (pv 0)) (by exact Or.inl rfl) (by trivial) (by rfl) (by rfl) (by rfl) (by rfl) (by rfl) (by rfl) (by rfl) (by rfl) (by intro _; rfl)) (aG (@aY _ _ (12) _ _ _ _ dC.nd rfl (Or.inl rfl) (@aK _ _ _ _ _ _ _ _ cP (@bD _ _ _ _ _ _ _ _ _ _ G_l_least (hr.mono (by decide)) (aA (pv 1) (aA (pv 2) (aA (pv 7) (aA (pv 9) aB)))) (by rfl) (by decide) (by rfl) (by rfl)) (@bD _ _ _ _ _ _ _ _ _ _ G_l_least (hr.mono (by decide)) (aA (pv 1) (aA (pv 2) (aA (pv 8) (aA (pv 9) aB)))) (by rfl) (by decide) (by rfl) (by rfl))) (by rfl) (by trivial)) (aG (@aY _ _ (12) _ _ _ _ dC.nd rfl (Or.inl rfl) (@aK _ _ _ _ _ _ _ _ gF (@aK _ _ _ _ _ _ _ _ gF (pv 12) (@bD _ _ _ _ _ _ _ _ _ _ G_l_least (hr.mono (by decide)) (aA (pv 1) (aA (pv 2) (aA (pv 10) (aA (pv 9) aB)))) (by rfl) (by decide) (by rfl) (by rfl))) (@bD _ _ _ _ _ _ _ _ _ _ G_l_least (hr.mono (by decide)) (aA (pv 1) (aA (pv 2) (aA (pv 11) (aA (pv 9) aB)))) (by rfl) (by decide) (by rfl) (by rfl))) (by rfl) (by trivial)) (aG (@aY _ _ (13) _ _ _ _ dC.nd rfl (Or.inl rfl) (@cG _ _ _ _ (aA (@cW _ _ _ _ _ _ _ _ _ (@kH _ (K) rfl) rfl T.n_list dA (aA (pv 7) aB) (by decide) (by decide) (by rfl) (by rfl)) (aA (@cW _ _ _ _ _ _ _ _ _ (@kH _ (K) rfl) rfl T.n_list dA (aA (pv 8) aB) (by decide) (by decide) (by rfl) (by rfl)) aB))) (by rfl) (by trivial)) (aG (@aY _ _ (14) _ _ _ _ dC.nd rfl (Or.inl rfl) (@bD _ _ _ _ _ _ _ _ _ _ G_p_saved (hr.mono (by decide)) (aA (pv 3) (aA (@bC _ _ _ _ _ _ _ (@cO _ (K) rfl) (pv 13) aF (fun _ _ => rfl)) (aA (@bC _ _ _ _ _ _ _ (@cO _ (K) rfl) (pv 13) aF (fun _ _ => rfl)) (aA (pv 9) aB)))) (by rfl) (by decide) (by rfl) (by rfl)) (by rfl) (by trivial)) (aG (@dL _ _ _ _ _ _ _ _ (@PW.pt _ _ _ (@iK _ _ _ _ _ _ _ (@cY _ _ _ _ (@cB _ _ _ (@aT _ _ _ _ _ _ _ _ _ (@cD _ (K) rfl) rfl T.n_isinstance bA (aA (pv 14) (aA (@kR _ _ _ _ T.n_int wG (by rfl) (by decide) (by decide)) aB)) (by decide) (by decide) (by rfl) (by rfl)) (by intro _; rfl))) (@iK _ _ _ _ _ _ _ (@cB _ _ _ (@aT _ _ _ _ _ _ _ _ _ (@cD _ (K) rfl) rfl T.n_isinstance bA (aA (pv 14) (aA (@kR _ _ _ _ T.n_bool uI (by rfl) (by decide) (by decide)) aB)) (by decide) (by decide) (by rfl) (by rfl)) (by intro _; rfl)) (@iK _ _ _ _ _ _ _ (@bI _ _ _ _ _ _ _ _ vL (pv 14) (pv 12) (@bO _ _ (by decide) (by decide))) (@gW _ _ _ _ (@bI _ _ _ _ _ _ _ _ oZ (pv 14) aF (@bO _ _ (by decide) (by decide)))))))) (aH (@aS _ _ _ _ kS)) bQ) (aH (@dL _ _ _ _ _ _ _ _ (@PW.pt _ _ _ (@iK _ _ _ _ _ _ _ (@bI _ _ _ _ _ _ _ _ (@aKZ _ hr.units) (pv 13) (@cG _ _ _ _ (aA (pv 7) (aA (pv 8) aB))) (@bO _ _ (by decide) (by decide))) (@gW _ _ _ _ (@bI _ _ _ _ _ _ _ _ vL (@bD _ _ _ _ _ _ _ _ _ _ G_p_saved (hr.mono (by decide)) (aA (pv 3) (aA (pv 8) (aA (pv 7) (aA (pv 9) aB)))) (by rfl) (by decide) (by rfl) (by rfl)) (pv 12) (@bO _ _ (by decide) (by decide)))))) (aH (@aS _ _ _ _ kS)) bQ))))))))))))) (by intro _; rfl)) (aH (@aS _ _ _ _ (@bD _ _ _ _ _ _ _ _ _ _ G_l_all_refused (hr.mono (by decide)) (aA (pv 3) (aA (pv 4) (aA (@bD _ _ _ _ _ _ _ _ _ _ G_l_cell_at (hr.mono (by decide)) (aA (pv 0) (aA aF aB)) (by rfl) (by decide) (by rfl) (by rfl)) aB))) (by rfl) (by decide) (by rfl) (by rfl)))))))), ?_⟩
 refine ⟨_, rfl, _, rfl, scr, fun t lf ld vf vd fs ds H1 S1 ht hf1 hif1 hd1 hid1 gf gd => ?_⟩
 refine ⟨t, _, rfl, SqT.of ht, rfl, _, _, rfl, _, _, rfl, rfl, ?_⟩
 refine ⟨_, rfl, _, rfl, ?_⟩
 intro p dx np ndx nex
 have S3' : aI H1 (upd (upd H1 dx (.own p)) p (.ins C dx [])) := fun b o e => by
  rw [aQ (aV e np), aQ (aV e ndx)]
  exact e
 have f2 := gf.l2
 have d2 := gd.l2
 have smf : dB (.lst fs) = true := nM (fun d m => zV (gf.all d m)) (by omega)
 have smd : dB (.lst ds) = true := nM (fun d m => aBV gf.all (gd.all d m)) (by omega)
 refine ⟨_, _, _, rfl, p, dx, fs, ds, rfl, aE, ⟨lf, vf, rfl, S3' _ _ hf1, IsL.same S3' _ _ hif1⟩, ⟨ld, vd, rfl, S3' _ _ hd1, IsL.same S3' _ _ hid1⟩, smf, smd, aEX gf (by decide), aHY gd (by decide), fun H3 L3 fr => ⟨rfl, ?_⟩⟩
 have Z3 : aI H1 H3 := fun b o e => fr b o (S3' _ _ e) (aV e np)
 have T3 := S1.trans Z3
 have GG := nP (bV L3).1 (bV L3).2
 have hf3 := Z3 _ _ hf1
 have hd3 := Z3 _ _ hd1
 have hif3 := IsL.same Z3 _ _ hif1
 have hid3 := IsL.same Z3 _ _ hid1
 have lvf := iX hif3
 refine ⟨_, rfl, lf, rfl, ⟨_, SqL.of hf3⟩, ?_⟩
 refine bF (F := K) (xs := vf) (by omega) (fun i ys H' => H3 = H' ∧ ys = ((fs.take i).map aL).map V.str) ⟨rfl, rfl⟩ ?_ ?_ ?_
 ·rintro i ys H' hi ⟨rfl, rfl⟩
  exact ⟨SqL.of hf3, by rw [List.length_map, List.length_map, List.length_take]; omega⟩
 ·rintro i xv ys H' K1 K2 hx' ⟨rfl, rfl⟩ k1 k2
  have hil : i < vf.length := (List.getElem?_eq_some_iff.mp hx').1
  obtain ⟨d, ed⟩ : ∃ d, fs[i]? = some d := ⟨_, List.getElem?_eq_getElem (by omega)⟩
  obtain ⟨v, ev, iv⟩ := hif3.get ed
  rw [hx'] at ev
  cases ev
  obtain ⟨z, g, u, rfl, hz, _⟩ := bJ (gf.all d (List.mem_of_getElem? ed))
  obtain ⟨t, rfl, o⟩ := jA iv
  refine ⟨_, rfl, t, _, 0, .str z, rfl, rfl, SqT.of o, aO (j := 0) rfl, k1 _ _ ⟨rfl, ?_⟩⟩
  rw [List.take_add_one, ed, List.map_append, List.map_append]
  rfl
 rintro ys H4 ⟨rfl, rfl⟩
 rw [List.take_of_length_le (by omega)]
 intro ln hln
 have S4 := aI.upd (o := .lst ((fs.map aL).map V.str)) hln
 have r4 : upd H3 ln (.lst ((fs.map aL).map V.str)) ln = some (.lst ((fs.map aL).map V.str)) := aE
 generalize upd H3 ln (.lst ((fs.map aL).map V.str)) = H4 at S4 r4
 have L4 := L3.same S4
 have hf4 := S4 _ _ hf3
 have hd4 := S4 _ _ hd3
 have hif4 := IsL.same S4 _ _ hif3
 have hid4 := IsL.same S4 _ _ hid3
 have scr4 := scr.same (T3.trans S4)
 clear S3' smf smd fr np ndx nex ht S1
 refine ⟨_, rfl, by decide, by decide, ?_⟩
 refine kY (lo := 0) (n := 8) (fun i σ H' => ∃ (v5 v6 v7 v8 v9 v10 v11 v12 v13 v14 : Option V), σ = [some (.ref a), some (.ref lf), some (.ref ld), some (.ref p), some (.ref ln), v5, v6, v7, v8, v9, v10, v11, v12, v13, v14] ∧ aI H4 H') ⟨_, _, _, _, _, _, _, _, _, _, rfl, aI.refl _⟩ ?_ ?_
 ·rintro i σ H' hi ⟨v5, v6, v7, v8, v9, v10, v11, v12, v13, v14, rfl, S'⟩
  obtain ⟨_, _, ea, hS', hl'⟩ := scr4.same S'
  cases ea
  refine ⟨_, rfl, _, rfl, _, _, rfl, rfl, _, _, rfl, a, _, (30 + (0 + (i : Int))), rfl, rfl, hS', hl', by omega, ?_⟩
  refine ⟨_, rfl, _, _, rfl, rfl, _, _, rfl, _, (0 + (i : Int) + 500), rfl, rfl, by omega, by omega, fun num => ?_⟩
  refine ⟨_, rfl, _, rfl, _, _, rfl, ln, _, num, rfl, S' _ _ r4, by rw [List.length_map]; omega, gf.nd, rfl, fun l1 one H5 S5 nl1 hl1 nd1 sub1 => ?_⟩
  refine ⟨_, rfl, _, rfl, _, _, rfl, rfl, ⟨by decide, by decide⟩, _, _, rfl, ln, _, _, rfl, (S'.trans S5) _ _ r4, by rw [List.length_map]; omega, gf.nd, rfl, fun l2 other H6 S6 nl2 hl2 nd2 sub2 => ?_⟩
  refine ⟨_, rfl, _, _, rfl, rfl, ⟨by decide, by decide⟩, _, rfl, _, rfl, fun a1 lv v H7 S7 tw b0 b1 => ?_⟩
  obtain ⟨tt, rfl, ett⟩ := tw
  refine ⟨tt, _, 1, .int lv, rfl, rfl, SqT.of ett, aO (j := 1) rfl, ?_⟩
  have hL : hgt lv = true := aBP b0 b1
  have n1 := xR nd1 sub1
  have n2 := xR nd2 sub2
  rw [List.length_map] at n1 n2
  have h17 := (S6.trans S7) _ _ hl1
  have h27 := S7 _ _ hl2
  have T7 := S'.trans (S5.trans (S6.trans S7))
  refine ⟨_, rfl, _, rfl, l2, rfl, ⟨_, SqL.of h27⟩, ?_⟩
  refine bF (F := K) (xs := other.map V.str) (by rw [List.length_map]; omega) (fun i ys H' => H7 = H' ∧ ys = ((other.take i).filter fun z => !decide (z ∈ one)).map V.str) ⟨rfl, rfl⟩ ?_ ?_ ?_
  ·rintro i ys H' hi ⟨rfl, rfl⟩
   have := List.length_filter_le (fun z : Str => !decide (z ∈ one)) (other.take i)
   rw [List.length_take] at this
   exact ⟨SqL.of h27, by rw [List.length_map]; omega⟩
  ·rintro i xv ys H' K1 K2 hx' ⟨rfl, rfl⟩ k1 k2
   rw [List.getElem?_map] at hx'
   obtain ⟨z, ez, rfl⟩ := Option.map_eq_some_iff.mp hx'
   have et := dM (P := fun z : Str => !decide (z ∈ one)) ez
   refine ⟨_, rfl, _, rfl, l1, _, rfl, .inl (SqL.of h17), rfl, dW one, _, rfl, ?_⟩
   rw [if_pos rfl, gJ]
   cases hg : (!decide (z ∈ one)) with
   | false =>
    rw [hg] at et
    exact bG (k2 _ ⟨rfl, by rw [et]; simp⟩)
   | true =>
    rw [hg] at et
    exact cA ⟨_, rfl, k1 _ _ ⟨rfl, by rw [et, if_pos rfl, List.map_append]; rfl⟩⟩
  rintro ys H8 ⟨rfl, rfl⟩
  rw [List.length_map, List.take_of_length_le (Nat.le_refl _)]
  intro l3 h3
  have S8 := aI.upd (o := .lst ((other.filter fun z => !decide (z ∈ one)).map V.str)) h3
  have r8 : upd H7 l3 (.lst ((other.filter fun z => !decide (z ∈ one)).map V.str)) l3 = some (.lst ((other.filter fun z => !decide (z ∈ one)).map V.str)) := aE
  generalize upd H7 l3 (.lst ((other.filter fun z => !decide (z ∈ one)).map V.str)) = H8 at S8 r8
  have fl := List.length_filter_le (fun z : Str => !decide (z ∈ one)) other
  refine ⟨l1, l3, _, _, rfl, rfl, S8 _ _ h17, r8, by rw [List.length_map, List.length_map]; omega, fun l4 h4 => ?_⟩
  have S9 := aI.upd (o := .lst (one.map V.str ++ (other.filter fun z => !decide (z ∈ one)).map V.str)) h4
  have r9 : upd H8 l4 (.lst (one.map V.str ++ (other.filter fun z => !decide (z ∈ one)).map V.str)) l4 = some (.lst ((gK one other).map V.str)) := by rw [aE]; unfold gK; rw [List.map_append]
  generalize upd H8 l4 (.lst (one.map V.str ++ (other.filter fun z => !decide (z ∈ one)).map V.str)) = H9 at S9 r9
  have h19 := (S8.trans S9) _ _ h17
  have h29 := (S8.trans S9) _ _ h27
  refine ⟨_, rfl, l1, rfl, ⟨_, SqL.of h19⟩, ?_⟩
  refine bF (F := K) (xs := one.map V.str) (by rw [List.length_map]; omega) (fun i ys H' => H9 = H' ∧ ys = ((one.take i).filter fun z => decide (z ∈ other)).map V.str) ⟨rfl, rfl⟩ ?_ ?_ ?_
  ·rintro i ys H' hi ⟨rfl, rfl⟩
   have := List.length_filter_le (fun z : Str => decide (z ∈ other)) (one.take i)
   rw [List.length_take] at this
   exact ⟨SqL.of h19, by rw [List.length_map]; omega⟩
  ·rintro i xv ys H' K1 K2 hx' ⟨rfl, rfl⟩ k1 k2
   rw [List.getElem?_map] at hx'
   obtain ⟨z, ez, rfl⟩ := Option.map_eq_some_iff.mp hx'
   have et := dM (P := fun z : Str => decide (z ∈ other)) ez
   refine ⟨_, rfl, _, rfl, l2, _, rfl, .inl (SqL.of h29), rfl, dW other, _, rfl, ?_⟩
   rw [if_neg Bool.false_ne_true, gJ]
   cases hg : (decide (z ∈ other)) with
   | false =>
    rw [hg] at et
    exact bG (k2 _ ⟨rfl, by rw [et]; simp⟩)
   | true =>
    rw [hg] at et
    exact cA ⟨_, rfl, k1 _ _ ⟨rfl, by rw [et, if_pos rfl, List.map_append]; rfl⟩⟩
  rintro ys H10 ⟨rfl, rfl⟩
  rw [List.length_map, List.take_of_length_le (Nat.le_refl _)]
  intro l5 h5
  have S10 := aI.upd (o := .lst ((one.filter fun z => decide (z ∈ other)).map V.str)) h5
  have r10 : upd H9 l5 (.lst ((one.filter fun z => decide (z ∈ other)).map V.str)) l5 = some (.lst ((qT one other).map V.str)) := aE
  generalize upd H9 l5 (.lst ((one.filter fun z => decide (z ∈ other)).map V.str)) = H10 at S10 r10
  have T10 := T7.trans (S8.trans (S9.trans S10))
  have h110 := S10 _ _ h19
  have h210 := S10 _ _ h29
  have r910 := S10 _ _ r9
  have GG' := GG lv
  refine ⟨_, rfl, _, rfl, _, rfl, _, rfl, _, _, _, _, lf, ld, l1, vf, vd, fs, ds, one, lv, rfl, rfl, T10 _ _ hf4, IsL.same T10 _ _ hif4, rfl, T10 _ _ hd4, IsL.same T10 _ _ hid4, rfl, h110, rfl, gf, gd, sub1, fun c1 H11 S11 lst1 => ?_⟩
  have T11 := T10.trans S11
  refine ⟨_, rfl, _, rfl, _, rfl, _, rfl, _, _, _, _, lf, ld, l2, vf, vd, fs, ds, other, lv, rfl, rfl, T11 _ _ hf4, IsL.same T11 _ _ hif4, rfl, T11 _ _ hd4, IsL.same T11 _ _ hid4, rfl, S11 _ _ h210, rfl, gf, gd, sub2, fun c2 H12 S12 lst2 => ?_⟩
  have T12 := T11.trans S12
  have W12 := S11.trans S12
  refine ⟨_, _, rfl, rfl, ?_⟩
  refine ⟨_, rfl, _, rfl, _, rfl, _, rfl, _, rfl, _, _, _, _, lf, ld, l4, vf, vd, fs, ds, gK one other, lv, rfl, rfl, T12 _ _ hf4, IsL.same T12 _ _ hif4, rfl, T12 _ _ hd4, IsL.same T12 _ _ hid4, rfl, W12 _ _ r910, rfl, gf, gd, (fun z m => by rcases jO.mp m with h | h; exact sub1 z h; exact sub2 z h), fun c3 H13 S13 lst3 => ?_⟩
  have T13 := T12.trans S13
  refine ⟨_, _, rfl, rfl, _, rfl, _, rfl, _, rfl, _, rfl, _, _, _, _, lf, ld, l5, vf, vd, fs, ds, qT one other, lv, rfl, rfl, T13 _ _ hf4, IsL.same T13 _ _ hif4, rfl, T13 _ _ hd4, IsL.same T13 _ _ hid4, rfl, (W12.trans S13) _ _ r10, rfl, gf, gd, (fun z m => sub1 z (nB.mp m).1), fun c4 H14 S14 lst4 => ?_⟩
  have T14 := T13.trans S14
  have W14 := W12.trans (S13.trans S14)
  have h114 := W14 _ _ h110
  have h214 := W14 _ _ h210
  refine ⟨_, _, rfl, rfl, ?_⟩
  refine ⟨_, rfl, l1, _, rfl, .inl (SqL.of h114), fun l6 h6 => ?_⟩
  have S15 := aI.upd (o := .lst (one.map V.str)) h6
  have r15 : upd H14 l6 (.lst (one.map V.str)) l6 = some (.lst (one.map V.str)) := aE
  generalize upd H14 l6 (.lst (one.map V.str)) = H15 at S15 r15
  refine ⟨_, rfl, l2, _, rfl, .inl (SqL.of (S15 _ _ h214)), fun l7 h7 => ?_⟩
  have S16 := aI.upd (o := .lst (other.map V.str)) h7
  have r16 : upd H15 l7 (.lst (other.map V.str)) l7 = some (.lst (other.map V.str)) := aE
  generalize upd H15 l7 (.lst (other.map V.str)) = H16 at S16 r16
  refine ⟨aN rfl, fun l8 h8 => ?_⟩
  have S17 := aI.upd (o := .lst [.ref l6, .ref l7]) h8
  have r17 : upd H16 l8 (.lst [.ref l6, .ref l7]) l8 = some (.lst [.ref l6, .ref l7]) := aE
  generalize upd H16 l8 (.lst [.ref l6, .ref l7]) = H17 at S17 r17
  have T17 := T14.trans (S15.trans (S16.trans S17))
  have r617 := (S16.trans S17) _ _ r15
  have r717 := S17 _ _ r16
  refine ⟨_, rfl, _, rfl, l8, _, 0, .ref l6, rfl, rfl, SqL.of r17, aO (j := 0) rfl, _, rfl, l8, _, 1, .ref l7, rfl, rfl, SqL.of r17, aO (j := 1) rfl, _, rfl, _, _, _, _, p, l6, l7, fs, ds, one, other, lv, rfl, rfl, L4.same T17, rfl, r617, nd1, sub1, rfl, r717, nd2, sub2, rfl, hL, fun e1 e2 e3 e4 H18 S18 m1 m2 m3 m4 => ?_⟩
  have q1 := m1.uniq lst1
  have q2 := m2.uniq lst2
  have q3 := m3.uniq lst3
  have q4 := m4.uniq lst4
  subst q1 q2 q3 q4
  have nn := aBL GG' (fun z m => jO.mp m) (fun z m => nB.mp m) m1 m2 m3 m4
  have T18 := T17.trans S18
  have W18 := S15.trans (S16.trans (S17.trans S18))
  have h118 := W18 _ _ h114
  have h218 := W18 _ _ h214
  have r618 := S18 _ _ r617
  have r718 := S18 _ _ r717
  have r818 := S18 _ _ r17
  refine ⟨_, rfl, _, _, _, _, _, rfl, rfl, .int _, iM _ _, _, rfl, ?_⟩
  refine bG ?_
  refine ⟨_, rfl, _, _, _, _, false, rfl, rfl, .int _, rfl, _, rfl, ?_⟩
  refine bG ?_
  refine ⟨_, rfl, _, rfl, rfl, _, rfl, ?_⟩
  show (if (!decide (V.int (e1 + e2 - e3 - e4) = V.int (e1 + e2 - e3 - e4))) = true then _ else _)
  rw [decide_eq_true rfl]
  refine bG ?_
  refine ⟨_, rfl, _, _, rfl, rfl, _, rfl, ?_⟩
  show (if decide (e1 + e2 - e3 - e4 < 0) = true then _ else _)
  rw [decide_eq_false (by omega)]
  refine bG ?_
  refine ⟨_, rfl, _, rfl, _, rfl, aN rfl, fun l9 h9 => ?_⟩
  have S19 := aI.upd (o := .lst [.ref l1, .ref l2]) h9
  have r19 : upd H18 l9 (.lst [.ref l1, .ref l2]) l9 = some (.lst [.ref l1, .ref l2]) := aE
  generalize upd H18 l9 (.lst [.ref l1, .ref l2]) = H19 at S19 r19
  have fl : aZ 30 (.lst [jC one, jC other]) = true := aFM one other
  refine ⟨.lst [jC one, jC other], .lst [jC one, jC other], aFL (S19 _ _ r818) (S19 _ _ r618) (S19 _ _ r718), aFL r19 (S19 _ _ h118) (S19 _ _ h218), fl, fl, _, rfl, ?_⟩
  rw [uA 30 _ fl]
  refine bG ?_
  refine ⟨_, rfl, _, rfl, _, rfl, _, rfl, _, _, _, _, p, l2, l1, fs, ds, other, one, lv, rfl, rfl, L4.same (T18.trans S19), rfl, S19 _ _ h218, nd2, sub2, rfl, S19 _ _ h118, nd1, sub1, rfl, hL, fun g1 g2 g3 g4 H20 S20 k1 k2 k3 k4 => ?_⟩
  have q1 := k1.uniq m2
  have q2 := k2.uniq m1
  have q3 := Mt61.Least.uniq (Least.congr k3 fun z => by rw [jO, jO]; exact Or.comm) m3
  have q4 := Mt61.Least.uniq (Least.congr k4 fun z => by rw [nB, nB]; exact And.comm) m4
  subst q1 q2 q3 q4
  refine ⟨_, rfl, rfl, _, rfl, ?_⟩
  show (if (!decide (V.int (g1 + g2 - g3 - g4) = V.int (g2 + g1 - g3 - g4))) = true then _ else _)
  rw [decide_eq_true (by rw [Int.add_comm g1 g2])]
  exact bG ⟨_, _, _, _, _, _, _, _, _, _, rfl, T18.trans (S19.trans S20)⟩
 ·rintro σ H' ⟨v5, v6, v7, v8, v9, v10, v11, v12, v13, v14, rfl, S'⟩
  obtain ⟨_, _, ea, hS', hl'⟩ := scr4.same S'
  cases ea
  exact ⟨_, rfl, _, rfl, _, rfl, _, _, rfl, a, _, 38, rfl, rfl, hS', hl', by decide, _, _, _, rfl, p, ln, fs, ds, _, rfl, L4.same S', rfl, S' _ _ r4, rfl, fun H2 _ => q H2⟩
theorem law_mk {fa : Addr} (hmg : mg "law" = some (.ref fa)) (T : Txt K mg C) :
  ∃ fd : FuncData, (∀ (s : Shared) (u : Value), BindsTo s fd ⟨[u], []⟩ [("_law_script", u)]) ∧ ∀ base : Heap, K.In base → base.Ns mainGlobals mg → FnOk P w K mg base CX0 12 fa fd ["_law_script"] (aCQ K) := by
 obtain ⟨f, fd, F, b, m⟩ := T.d_p_law.ex
 rw [hmg] at m
 cases m
 refine ⟨fd, fun s u => ?_, fun base _ _ => aLA T F⟩
 obtain ⟨oc, od, kV, doc, pm, an, cdv, ct, osl, rfl, lk, hcd⟩ := F.ex
 exact .of_eq rfl
end
theorem txt_mk {K : PySem.W.Frag} {h : Heap} {mg : Str → Option Value} (X : K.In h) (G : h.Ns mainGlobals mg)
    {C : Addr}
    {fm18 : Addr} {ocm18 kVm18 docm18 pmm18 cdm18 ctm18 : Value} {odm18 anm18 : Option Addr} {slm18 : Array (Option Value)}
    {fm19 : Addr} {ocm19 kVm19 docm19 pmm19 cdm19 ctm19 : Value} {odm19 anm19 : Option Addr} {slm19 : Array (Option Value)}
    {fm20 : Addr} {ocm20 kVm20 docm20 pmm20 cdm20 ctm20 : Value} {odm20 anm20 : Option Addr} {slm20 : Array (Option Value)}
    {fm21 : Addr} {ocm21 kVm21 docm21 pmm21 cdm21 ctm21 : Value} {odm21 anm21 : Option Addr} {slm21 : Array (Option Value)}
    {fm22 : Addr} {ocm22 kVm22 docm22 pmm22 cdm22 ctm22 : Value} {odm22 anm22 : Option Addr} {slm22 : Array (Option Value)}
    {fm23 : Addr} {ocm23 kVm23 docm23 pmm23 cdm23 ctm23 : Value} {odm23 anm23 : Option Addr} {slm23 : Array (Option Value)}
    {fm24 : Addr} {ocm24 kVm24 docm24 pmm24 cdm24 ctm24 : Value} {odm24 anm24 : Option Addr} {slm24 : Array (Option Value)}
    {fm25 : Addr} {ocm25 kVm25 docm25 pmm25 cdm25 ctm25 : Value} {odm25 anm25 : Option Addr} {slm25 : Array (Option Value)}
    {fm26 : Addr} {ocm26 kVm26 docm26 pmm26 cdm26 ctm26 : Value} {odm26 anm26 : Option Addr} {slm26 : Array (Option Value)}
    {fm27 : Addr} {ocm27 kVm27 docm27 pmm27 cdm27 ctm27 : Value} {odm27 anm27 : Option Addr} {slm27 : Array (Option Value)}
    {c_NoWish c_DykeError c_NoLand c_NoWork c_TooMany : Addr}
    {f0 : Addr} {oc0 kV0 doc0 pm0 cd0 ct0 : Value} {od0 an0 : Option Addr} {sl0 : Array (Option Value)}
    {f1 : Addr} {oc1 kV1 doc1 pm1 cd1 ct1 : Value} {od1 an1 : Option Addr} {sl1 : Array (Option Value)}
    {f2 : Addr} {oc2 kV2 doc2 pm2 cd2 ct2 : Value} {od2 an2 : Option Addr} {sl2 : Array (Option Value)}
    {f3 : Addr} {oc3 kV3 doc3 pm3 cd3 ct3 : Value} {od3 an3 : Option Addr} {sl3 : Array (Option Value)}
    {f4 : Addr} {oc4 kV4 doc4 pm4 cd4 ct4 : Value} {od4 an4 : Option Addr} {sl4 : Array (Option Value)}
    {f5 : Addr} {oc5 kV5 doc5 pm5 cd5 ct5 : Value} {od5 an5 : Option Addr} {sl5 : Array (Option Value)}
    {f6 : Addr} {oc6 kV6 doc6 pm6 cd6 ct6 : Value} {od6 an6 : Option Addr} {sl6 : Array (Option Value)}
    {f7 : Addr} {oc7 kV7 doc7 pm7 cd7 ct7 : Value} {od7 an7 : Option Addr} {sl7 : Array (Option Value)}
    {f8 : Addr} {oc8 kV8 doc8 pm8 cd8 ct8 : Value} {od8 an8 : Option Addr} {sl8 : Array (Option Value)}
    {f9 : Addr} {oc9 kV9 doc9 pm9 cd9 ct9 : Value} {od9 an9 : Option Addr} {sl9 : Array (Option Value)}
    {f10 : Addr} {oc10 kV10 doc10 pm10 cd10 ct10 : Value} {od10 an10 : Option Addr} {sl10 : Array (Option Value)}
    {f11 : Addr} {oc11 kV11 doc11 pm11 cd11 ct11 : Value} {od11 an11 : Option Addr} {sl11 : Array (Option Value)}
    {f12 : Addr} {oc12 kV12 doc12 pm12 cd12 ct12 : Value} {od12 an12 : Option Addr} {sl12 : Array (Option Value)}
    {f13 : Addr} {oc13 kV13 doc13 pm13 cd13 ct13 : Value} {od13 an13 : Option Addr} {sl13 : Array (Option Value)}
    {f14 : Addr} {oc14 kV14 doc14 pm14 cd14 ct14 : Value} {od14 an14 : Option Addr} {sl14 : Array (Option Value)}
    {f15 : Addr} {oc15 kV15 doc15 pm15 cd15 ct15 : Value} {od15 an15 : Option Addr} {sl15 : Array (Option Value)}
    {f16 : Addr} {oc16 kV16 doc16 pm16 cd16 ct16 : Value} {od16 an16 : Option Addr} {sl16 : Array (Option Value)}
    {f17 : Addr} {oc17 kV17 doc17 pm17 cd17 ct17 : Value} {od17 an17 : Option Addr} {sl17 : Array (Option Value)}
    {f18 : Addr} {oc18 kV18 doc18 pm18 cd18 ct18 : Value} {od18 an18 : Option Addr} {sl18 : Array (Option Value)}
    {f19 : Addr} {oc19 kV19 doc19 pm19 cd19 ct19 : Value} {od19 an19 : Option Addr} {sl19 : Array (Option Value)}
    {f20 : Addr} {oc20 kV20 doc20 pm20 cd20 ct20 : Value} {od20 an20 : Option Addr} {sl20 : Array (Option Value)}
    {f21 : Addr} {oc21 kV21 doc21 pm21 cd21 ct21 : Value} {od21 an21 : Option Addr} {sl21 : Array (Option Value)}
    {f22 : Addr} {oc22 kV22 doc22 pm22 cd22 ct22 : Value} {od22 an22 : Option Addr} {sl22 : Array (Option Value)}
    {f23 : Addr} {oc23 kV23 doc23 pm23 cd23 ct23 : Value} {od23 an23 : Option Addr} {sl23 : Array (Option Value)}
    {f24 : Addr} {oc24 kV24 doc24 pm24 cd24 ct24 : Value} {od24 an24 : Option Addr} {sl24 : Array (Option Value)}
    {f25 : Addr} {oc25 kV25 doc25 pm25 cd25 ct25 : Value} {od25 an25 : Option Addr} {sl25 : Array (Option Value)}
    {f26 : Addr} {oc26 kV26 doc26 pm26 cd26 ct26 : Value} {od26 an26 : Option Addr} {sl26 : Array (Option Value)}
    {f27 : Addr} {oc27 kV27 doc27 pm27 cd27 ct27 : Value} {od27 an27 : Option Addr} {sl27 : Array (Option Value)}
    {f28 : Addr} {oc28 kV28 doc28 pm28 cd28 ct28 : Value} {od28 an28 : Option Addr} {sl28 : Array (Option Value)}
    {f29 : Addr} {oc29 kV29 doc29 pm29 cd29 ct29 : Value} {od29 an29 : Option Addr} {sl29 : Array (Option Value)}
    {f30 : Addr} {oc30 kV30 doc30 pm30 cd30 ct30 : Value} {od30 an30 : Option Addr} {sl30 : Array (Option Value)}
    {f31 : Addr} {oc31 kV31 doc31 pm31 cd31 ct31 : Value} {od31 an31 : Option Addr} {sl31 : Array (Option Value)}
    {f32 : Addr} {oc32 kV32 doc32 pm32 cd32 ct32 : Value} {od32 an32 : Option Addr} {sl32 : Array (Option Value)}
    {f33 : Addr} {oc33 kV33 doc33 pm33 cd33 ct33 : Value} {od33 an33 : Option Addr} {sl33 : Array (Option Value)}
    {f34 : Addr} {oc34 kV34 doc34 pm34 cd34 ct34 : Value} {od34 an34 : Option Addr} {sl34 : Array (Option Value)}
    {f35 : Addr} {oc35 kV35 doc35 pm35 cd35 ct35 : Value} {od35 an35 : Option Addr} {sl35 : Array (Option Value)}
    {f36 : Addr} {oc36 kV36 doc36 pm36 cd36 ct36 : Value} {od36 an36 : Option Addr} {sl36 : Array (Option Value)}
    {f37 : Addr} {oc37 kV37 doc37 pm37 cd37 ct37 : Value} {od37 an37 : Option Addr} {sl37 : Array (Option Value)}
    {f38 : Addr} {oc38 kV38 doc38 pm38 cd38 ct38 : Value} {od38 an38 : Option Addr} {sl38 : Array (Option Value)}
    {f39 : Addr} {oc39 kV39 doc39 pm39 cd39 ct39 : Value} {od39 an39 : Option Addr} {sl39 : Array (Option Value)}
    {f40 : Addr} {oc40 kV40 doc40 pm40 cd40 ct40 : Value} {od40 an40 : Option Addr} {sl40 : Array (Option Value)}
    {f41 : Addr} {oc41 kV41 doc41 pm41 cd41 ct41 : Value} {od41 an41 : Option Addr} {sl41 : Array (Option Value)}
    {f42 : Addr} {oc42 kV42 doc42 pm42 cd42 ct42 : Value} {od42 an42 : Option Addr} {sl42 : Array (Option Value)}
    {f43 : Addr} {oc43 kV43 doc43 pm43 cd43 ct43 : Value} {od43 an43 : Option Addr} {sl43 : Array (Option Value)}
    {f44 : Addr} {oc44 kV44 doc44 pm44 cd44 ct44 : Value} {od44 an44 : Option Addr} {sl44 : Array (Option Value)}
    {f45 : Addr} {oc45 kV45 doc45 pm45 cd45 ct45 : Value} {od45 an45 : Option Addr} {sl45 : Array (Option Value)}
    {f46 : Addr} {oc46 kV46 doc46 pm46 cd46 ct46 : Value} {od46 an46 : Option Addr} {sl46 : Array (Option Value)}
    {f47 : Addr} {oc47 kV47 doc47 pm47 cd47 ct47 : Value} {od47 an47 : Option Addr} {sl47 : Array (Option Value)}
    {f48 : Addr} {oc48 kV48 doc48 pm48 cd48 ct48 : Value} {od48 an48 : Option Addr} {sl48 : Array (Option Value)}
    {u0 : Value}
    {u1 : Value}
    {u2 : Value}
    {u3 : Value}
    {u4 : Value}
    {u5 : Value}
    {u6 : Value}
    (aC : PySem.W.nsIn K mainGlobals "Land" = some (some (.ref C))) (pgC : PySem.W.plainGet K C Str.empty = true) (hdC : PySem.W.hasDictIn K C = true) (poC : PySem.W.plainOver K C = true) (saC : PySem.W.findIn K (.ref C) "__setattr__" = some (some (.builtin "object.__setattr__"))) (mkC : PySem.W.makesIn K C = true) (kpC : PySem.W.keepIn K (.ref C) = true)
    (n_field_rows : PySem.W.findIn K (.ref C) "field_rows" = some none)
    (n_dyke_rows : PySem.W.findIn K (.ref C) "dyke_rows" = some none)
    (iha : PySem.W.findIn K (.ref C) "__class__" = some (some (.builtin "object.__class__"))) (ihn : PySem.W.specialIn K (.builtin "object.__class__") "__get__" = some (some (.builtin "getset_descriptor.__get__"))) (iht : PySem.W.takesIn K (.builtin "object.__class__") = some true) (ihm : PySem.W.mroIn K C (.type "object") = some true)
    (ma18 : PySem.W.findIn K (.ref C) "__init__" = some (some (.ref fm18))) (mi18 : PySem.W.isFn K (.ref fm18) = true) (ml18 : K.lookup fm18 = some ⟨ocm18, odm18, .func (PySem.W.fnOf "__init__" "Land.__init__" (aM gE) (aJ gE) (aD gE) .none kVm18 docm18 pmm18 anm18 cdm18 ctm18), slm18⟩) (mc18 : PySem.W.codeIn K cdm18 "Land.__init__" = true) (mk18 : PySem.W.keepIn K (.ref fm18) = true)
    (ma19 : PySem.W.findIn K (.ref C) "fields" = some (some (.ref fm19))) (mi19 : PySem.W.isFn K (.ref fm19) = true) (ml19 : K.lookup fm19 = some ⟨ocm19, odm19, .func (PySem.W.fnOf "fields" "Land.fields" (aM fP) (aJ fP) (aD fP) .none kVm19 docm19 pmm19 anm19 cdm19 ctm19), slm19⟩) (mc19 : PySem.W.codeIn K cdm19 "Land.fields" = true) (mk19 : PySem.W.keepIn K (.ref fm19) = true)
    (ma20 : PySem.W.findIn K (.ref C) "dykes" = some (some (.ref fm20))) (mi20 : PySem.W.isFn K (.ref fm20) = true) (ml20 : K.lookup fm20 = some ⟨ocm20, odm20, .func (PySem.W.fnOf "dykes" "Land.dykes" (aM eV) (aJ eV) (aD eV) .none kVm20 docm20 pmm20 anm20 cdm20 ctm20), slm20⟩) (mc20 : PySem.W.codeIn K cdm20 "Land.dykes" = true) (mk20 : PySem.W.keepIn K (.ref fm20) = true)
    (ma21 : PySem.W.findIn K (.ref C) "field_names" = some (some (.ref fm21))) (mi21 : PySem.W.isFn K (.ref fm21) = true) (ml21 : K.lookup fm21 = some ⟨ocm21, odm21, .func (PySem.W.fnOf "field_names" "Land.field_names" (aM cQ) (aJ cQ) (aD cQ) .none kVm21 docm21 pmm21 anm21 cdm21 ctm21), slm21⟩) (mc21 : PySem.W.codeIn K cdm21 "Land.field_names" = true) (mk21 : PySem.W.keepIn K (.ref fm21) = true)
    (ma22 : PySem.W.findIn K (.ref C) "dyke_names" = some (some (.ref fm22))) (mi22 : PySem.W.isFn K (.ref fm22) = true) (ml22 : K.lookup fm22 = some ⟨ocm22, odm22, .func (PySem.W.fnOf "dyke_names" "Land.dyke_names" (aM dE) (aJ dE) (aD dE) .none kVm22 docm22 pmm22 anm22 cdm22 ctm22), slm22⟩) (mc22 : PySem.W.codeIn K cdm22 "Land.dyke_names" = true) (mk22 : PySem.W.keepIn K (.ref fm22) = true)
    (ma23 : PySem.W.findIn K (.ref C) "sluices" = some (some (.ref fm23))) (mi23 : PySem.W.isFn K (.ref fm23) = true) (ml23 : K.lookup fm23 = some ⟨ocm23, odm23, .func (PySem.W.fnOf "sluices" "Land.sluices" (aM fC) (aJ fC) (aD fC) .none kVm23 docm23 pmm23 anm23 cdm23 ctm23), slm23⟩) (mc23 : PySem.W.codeIn K cdm23 "Land.sluices" = true) (mk23 : PySem.W.keepIn K (.ref fm23) = true)
    (ma24 : PySem.W.findIn K (.ref C) "ground" = some (some (.ref fm24))) (mi24 : PySem.W.isFn K (.ref fm24) = true) (ml24 : K.lookup fm24 = some ⟨ocm24, odm24, .func (PySem.W.fnOf "ground" "Land.ground" (aM eF) (aJ eF) (aD eF) .none kVm24 docm24 pmm24 anm24 cdm24 ctm24), slm24⟩) (mc24 : PySem.W.codeIn K cdm24 "Land.ground" = true) (mk24 : PySem.W.keepIn K (.ref fm24) = true)
    (ma25 : PySem.W.findIn K (.ref C) "dues" = some (some (.ref fm25))) (mi25 : PySem.W.isFn K (.ref fm25) = true) (ml25 : K.lookup fm25 = some ⟨ocm25, odm25, .func (PySem.W.fnOf "dues" "Land.dues" (aM hU) (aJ hU) (aD hU) .none kVm25 docm25 pmm25 anm25 cdm25 ctm25), slm25⟩) (mc25 : PySem.W.codeIn K cdm25 "Land.dues" = true) (mk25 : PySem.W.keepIn K (.ref fm25) = true)
    (ma26 : PySem.W.findIn K (.ref C) "dyke" = some (some (.ref fm26))) (mi26 : PySem.W.isFn K (.ref fm26) = true) (ml26 : K.lookup fm26 = some ⟨ocm26, odm26, .func (PySem.W.fnOf "dyke" "Land.dyke" (aM fM) (aJ fM) (aD fM) .none kVm26 docm26 pmm26 anm26 cdm26 ctm26), slm26⟩) (mc26 : PySem.W.codeIn K cdm26 "Land.dyke" = true) (mk26 : PySem.W.keepIn K (.ref fm26) = true)
    (ma27 : PySem.W.findIn K (.ref C) "raised" = some (some (.ref fm27))) (mi27 : PySem.W.isFn K (.ref fm27) = true) (ml27 : K.lookup fm27 = some ⟨ocm27, odm27, .func (PySem.W.fnOf "raised" "Land.raised" (aM fO) (aJ fO) (aD fO) .none kVm27 docm27 pmm27 anm27 cdm27 ctm27), slm27⟩) (mc27 : PySem.W.codeIn K cdm27 "Land.raised" = true) (mk27 : PySem.W.keepIn K (.ref fm27) = true)
    (xa_NoWish : PySem.W.nsIn K mainGlobals "NoWish" = some (some (.ref c_NoWish))) (xa_DykeError : PySem.W.nsIn K mainGlobals "DykeError" = some (some (.ref c_DykeError))) (xa_NoLand : PySem.W.nsIn K mainGlobals "NoLand" = some (some (.ref c_NoLand))) (xa_NoWork : PySem.W.nsIn K mainGlobals "NoWork" = some (some (.ref c_NoWork))) (xa_TooMany : PySem.W.nsIn K mainGlobals "TooMany" = some (some (.ref c_TooMany))) (xq_NoWish : PySem.W.excIn K c_NoWish [.type "ValueError", .type "Exception", .type "BaseException", .type "object"] "ValueError.__new__" = true) (xm_NoWish : PySem.W.exmOne K (.ref c_NoWish) (.ref c_NoWish) = some true) (xp_NoWish : PySem.W.findIn K (.ref c_NoWish) "__getattribute__" = some (some (.builtin "BaseException.__getattribute__"))) (xg_NoWish : PySem.W.findIn K (.ref c_NoWish) "__getattr__" = some none) (xb_NoWish : PySem.W.mroIn K c_NoWish (.type "BaseException") = some true) (xh_NoWish : PySem.W.findIn K (.ref c_NoWish) "__class__" = some (some (.builtin "object.__class__"))) (xi_NoWish : PySem.W.specialIn K (.builtin "object.__class__") "__get__" = some (some (.builtin "getset_descriptor.__get__"))) (xt_NoWish : PySem.W.takesIn K (.builtin "object.__class__") = some true) (xo_NoWish : PySem.W.mroIn K c_NoWish (.type "object") = some true)
    (xz0 : PySem.W.kitOne K (.ref c_NoWish) (.ref c_DykeError) = some true)
    (xz1 : PySem.W.kitOne K (.ref c_NoWish) (.ref c_NoLand) = some false)
    (xz2 : PySem.W.kitOne K (.ref c_NoWish) (.ref c_NoWork) = some false)
    (xz3 : PySem.W.kitOne K (.ref c_NoWish) (.ref c_TooMany) = some false)
    (xz4 : PySem.W.kitOne K (.ref c_NoWish) (.ref c_NoWish) = some true)
    (xz5 : PySem.W.kitOne K (.ref c_NoWish) (.type "ValueError") = some true)
    (xz6 : PySem.W.exmOne K (.ref c_NoWish) (.ref c_DykeError) = some true)
    (a0 : PySem.W.nsIn K mainGlobals "_wall" = some (some (.ref f0))) (l0 : K.lookup f0 = some ⟨oc0, od0, .func (PySem.W.fnOf "_wall" "_wall" (aM oU) (aJ oU) (aD oU) .none kV0 doc0 pm0 an0 cd0 ct0), sl0⟩) (c0 : PySem.W.codeIn K cd0 "_wall" = true) (k0 : PySem.W.keepIn K (.ref f0) = true)
    (a1 : PySem.W.nsIn K mainGlobals "is_whole" = some (some (.ref f1))) (l1 : K.lookup f1 = some ⟨oc1, od1, .func (PySem.W.fnOf "is_whole" "is_whole" (aM gA) (aJ gA) (aD gA) .none kV1 doc1 pm1 an1 cd1 ct1), sl1⟩) (c1 : PySem.W.codeIn K cd1 "is_whole" = true) (k1 : PySem.W.keepIn K (.ref f1) = true)
    (a2 : PySem.W.nsIn K mainGlobals "is_name" = some (some (.ref f2))) (l2 : K.lookup f2 = some ⟨oc2, od2, .func (PySem.W.fnOf "is_name" "is_name" (aM iF) (aJ iF) (aD iF) .none kV2 doc2 pm2 an2 cd2 ct2), sl2⟩) (c2 : PySem.W.codeIn K cd2 "is_name" = true) (k2 : PySem.W.keepIn K (.ref f2) = true)
    (a3 : PySem.W.nsIn K mainGlobals "is_height" = some (some (.ref f3))) (l3 : K.lookup f3 = some ⟨oc3, od3, .func (PySem.W.fnOf "is_height" "is_height" (aM fG) (aJ fG) (aD fG) .none kV3 doc3 pm3 an3 cd3 ct3), sl3⟩) (c3 : PySem.W.codeIn K cd3 "is_height" = true) (k3 : PySem.W.keepIn K (.ref f3) = true)
    (a4 : PySem.W.nsIn K mainGlobals "is_amount" = some (some (.ref f4))) (l4 : K.lookup f4 = some ⟨oc4, od4, .func (PySem.W.fnOf "is_amount" "is_amount" (aM fH) (aJ fH) (aD fH) .none kV4 doc4 pm4 an4 cd4 ct4), sl4⟩) (c4 : PySem.W.codeIn K cd4 "is_amount" = true) (k4 : PySem.W.keepIn K (.ref f4) = true)
    (a5 : PySem.W.nsIn K mainGlobals "is_one_of" = some (some (.ref f5))) (l5 : K.lookup f5 = some ⟨oc5, od5, .func (PySem.W.fnOf "is_one_of" "is_one_of" (aM fF) (aJ fF) (aD fF) .none kV5 doc5 pm5 an5 cd5 ct5), sl5⟩) (c5 : PySem.W.codeIn K cd5 "is_one_of" = true) (k5 : PySem.W.keepIn K (.ref f5) = true)
    (a6 : PySem.W.nsIn K mainGlobals "is_list_of" = some (some (.ref f6))) (l6 : K.lookup f6 = some ⟨oc6, od6, .func (PySem.W.fnOf "is_list_of" "is_list_of" (aM eS) (aJ eS) (aD eS) .none kV6 doc6 pm6 an6 cd6 ct6), sl6⟩) (c6 : PySem.W.codeIn K cd6 "is_list_of" = true) (k6 : PySem.W.keepIn K (.ref f6) = true)
    (a7 : PySem.W.nsIn K mainGlobals "is_tuple_of" = some (some (.ref f7))) (l7 : K.lookup f7 = some ⟨oc7, od7, .func (PySem.W.fnOf "is_tuple_of" "is_tuple_of" (aM eE) (aJ eE) (aD eE) .none kV7 doc7 pm7 an7 cd7 ct7), sl7⟩) (c7 : PySem.W.codeIn K cd7 "is_tuple_of" = true) (k7 : PySem.W.keepIn K (.ref f7) = true)
    (a8 : PySem.W.nsIn K mainGlobals "none_twice" = some (some (.ref f8))) (l8 : K.lookup f8 = some ⟨oc8, od8, .func (PySem.W.fnOf "none_twice" "none_twice" (aM eR) (aJ eR) (aD eR) .none kV8 doc8 pm8 an8 cd8 ct8), sl8⟩) (c8 : PySem.W.codeIn K cd8 "none_twice" = true) (k8 : PySem.W.keepIn K (.ref f8) = true)
    (a9 : PySem.W.nsIn K mainGlobals "is_field" = some (some (.ref f9))) (l9 : K.lookup f9 = some ⟨oc9, od9, .func (PySem.W.fnOf "is_field" "is_field" (aM gB) (aJ gB) (aD gB) .none kV9 doc9 pm9 an9 cd9 ct9), sl9⟩) (c9 : PySem.W.codeIn K cd9 "is_field" = true) (k9 : PySem.W.keepIn K (.ref f9) = true)
    (a10 : PySem.W.nsIn K mainGlobals "are_fields" = some (some (.ref f10))) (l10 : K.lookup f10 = some ⟨oc10, od10, .func (PySem.W.fnOf "are_fields" "are_fields" (aM eU) (aJ eU) (aD eU) .none kV10 doc10 pm10 an10 cd10 ct10), sl10⟩) (c10 : PySem.W.codeIn K cd10 "are_fields" = true) (k10 : PySem.W.keepIn K (.ref f10) = true)
    (a11 : PySem.W.nsIn K mainGlobals "are_sides" = some (some (.ref f11))) (l11 : K.lookup f11 = some ⟨oc11, od11, .func (PySem.W.fnOf "are_sides" "are_sides" (aM fK) (aJ fK) (aD fK) .none kV11 doc11 pm11 an11 cd11 ct11), sl11⟩) (c11 : PySem.W.codeIn K cd11 "are_sides" = true) (k11 : PySem.W.keepIn K (.ref f11) = true)
    (a12 : PySem.W.nsIn K mainGlobals "is_sill" = some (some (.ref f12))) (l12 : K.lookup f12 = some ⟨oc12, od12, .func (PySem.W.fnOf "is_sill" "is_sill" (aM iE) (aJ iE) (aD iE) .none kV12 doc12 pm12 an12 cd12 ct12), sl12⟩) (c12 : PySem.W.codeIn K cd12 "is_sill" = true) (k12 : PySem.W.keepIn K (.ref f12) = true)
    (a13 : PySem.W.nsIn K mainGlobals "is_dyke" = some (some (.ref f13))) (l13 : K.lookup f13 = some ⟨oc13, od13, .func (PySem.W.fnOf "is_dyke" "is_dyke" (aM iG) (aJ iG) (aD iG) .none kV13 doc13 pm13 an13 cd13 ct13), sl13⟩) (c13 : PySem.W.codeIn K cd13 "is_dyke" = true) (k13 : PySem.W.keepIn K (.ref f13) = true)
    (a14 : PySem.W.nsIn K mainGlobals "are_dykes" = some (some (.ref f14))) (l14 : K.lookup f14 = some ⟨oc14, od14, .func (PySem.W.fnOf "are_dykes" "are_dykes" (aM fL) (aJ fL) (aD fL) .none kV14 doc14 pm14 an14 cd14 ct14), sl14⟩) (c14 : PySem.W.codeIn K cd14 "are_dykes" = true) (k14 : PySem.W.keepIn K (.ref f14) = true)
    (a15 : PySem.W.nsIn K mainGlobals "is_work" = some (some (.ref f15))) (l15 : K.lookup f15 = some ⟨oc15, od15, .func (PySem.W.fnOf "is_work" "is_work" (aM iD) (aJ iD) (aD iD) .none kV15 doc15 pm15 an15 cd15 ct15), sl15⟩) (c15 : PySem.W.codeIn K cd15 "is_work" = true) (k15 : PySem.W.keepIn K (.ref f15) = true)
    (a16 : PySem.W.nsIn K mainGlobals "are_works" = some (some (.ref f16))) (l16 : K.lookup f16 = some ⟨oc16, od16, .func (PySem.W.fnOf "are_works" "are_works" (aM fJ) (aJ fJ) (aD fJ) .none kV16 doc16 pm16 an16 cd16 ct16), sl16⟩) (c16 : PySem.W.codeIn K cd16 "are_works" = true) (k16 : PySem.W.keepIn K (.ref f16) = true)
    (a17 : PySem.W.nsIn K mainGlobals "are_some_fields" = some (some (.ref f17))) (l17 : K.lookup f17 = some ⟨oc17, od17, .func (PySem.W.fnOf "are_some_fields" "are_some_fields" (aM dD) (aJ dD) (aD dD) .none kV17 doc17 pm17 an17 cd17 ct17), sl17⟩) (c17 : PySem.W.codeIn K cd17 "are_some_fields" = true) (k17 : PySem.W.keepIn K (.ref f17) = true)
    (a18 : PySem.W.nsIn K mainGlobals "spread" = some (some (.ref f18))) (l18 : K.lookup f18 = some ⟨oc18, od18, .func (PySem.W.fnOf "spread" "spread" (aM jE) (aJ jE) (aD jE) .none kV18 doc18 pm18 an18 cd18 ct18), sl18⟩) (c18 : PySem.W.codeIn K cd18 "spread" = true) (k18 : PySem.W.keepIn K (.ref f18) = true)
    (a19 : PySem.W.nsIn K mainGlobals "path_to" = some (some (.ref f19))) (l19 : K.lookup f19 = some ⟨oc19, od19, .func (PySem.W.fnOf "path_to" "path_to" (aM iC) (aJ iC) (aD iC) .none kV19 doc19 pm19 an19 cd19 ct19), sl19⟩) (c19 : PySem.W.codeIn K cd19 "path_to" = true) (k19 : PySem.W.keepIn K (.ref f19) = true)
    (a20 : PySem.W.nsIn K mainGlobals "check_wish" = some (some (.ref f20))) (l20 : K.lookup f20 = some ⟨oc20, od20, .func (PySem.W.fnOf "check_wish" "check_wish" (aM eT) (aJ eT) (aD eT) .none kV20 doc20 pm20 an20 cd20 ct20), sl20⟩) (c20 : PySem.W.codeIn K cd20 "check_wish" = true) (k20 : PySem.W.keepIn K (.ref f20) = true)
    (a21 : PySem.W.nsIn K mainGlobals "coins_to" = some (some (.ref f21))) (l21 : K.lookup f21 = some ⟨oc21, od21, .func (PySem.W.fnOf "coins_to" "coins_to" (aM gC) (aJ gC) (aD gC) .none kV21 doc21 pm21 an21 cd21 ct21), sl21⟩) (c21 : PySem.W.codeIn K cd21 "coins_to" = true) (k21 : PySem.W.keepIn K (.ref f21) = true)
    (a22 : PySem.W.nsIn K mainGlobals "coins_of" = some (some (.ref f22))) (l22 : K.lookup f22 = some ⟨oc22, od22, .func (PySem.W.fnOf "coins_of" "coins_of" (aM gD) (aJ gD) (aD gD) .none kV22 doc22 pm22 an22 cd22 ct22), sl22⟩) (c22 : PySem.W.codeIn K cd22 "coins_of" = true) (k22 : PySem.W.keepIn K (.ref f22) = true)
    (a23 : PySem.W.nsIn K mainGlobals "is_low" = some (some (.ref f23))) (l23 : K.lookup f23 = some ⟨oc23, od23, .func (PySem.W.fnOf "is_low" "is_low" (aM jF) (aJ jF) (aD jF) .none kV23 doc23 pm23 an23 cd23 ct23), sl23⟩) (c23 : PySem.W.codeIn K cd23 "is_low" = true) (k23 : PySem.W.keepIn K (.ref f23) = true)
    (a24 : PySem.W.nsIn K mainGlobals "is_gap" = some (some (.ref f24))) (l24 : K.lookup f24 = some ⟨oc24, od24, .func (PySem.W.fnOf "is_gap" "is_gap" (aM jG) (aJ jG) (aD jG) .none kV24 doc24 pm24 an24 cd24 ct24), sl24⟩) (c24 : PySem.W.codeIn K cd24 "is_gap" = true) (k24 : PySem.W.keepIn K (.ref f24) = true)
    (a25 : PySem.W.nsIn K mainGlobals "gap_coins" = some (some (.ref f25))) (l25 : K.lookup f25 = some ⟨oc25, od25, .func (PySem.W.fnOf "gap_coins" "gap_coins" (aM fI) (aJ fI) (aD fI) .none kV25 doc25 pm25 an25 cd25 ct25), sl25⟩) (c25 : PySem.W.codeIn K cd25 "gap_coins" = true) (k25 : PySem.W.keepIn K (.ref f25) = true)
    (a26 : PySem.W.nsIn K mainGlobals "steps_over" = some (some (.ref f26))) (l26 : K.lookup f26 = some ⟨oc26, od26, .func (PySem.W.fnOf "steps_over" "steps_over" (aM eQ) (aJ eQ) (aD eQ) .none kV26 doc26 pm26 an26 cd26 ct26), sl26⟩) (c26 : PySem.W.codeIn K cd26 "steps_over" = true) (k26 : PySem.W.keepIn K (.ref f26) = true)
    (a27 : PySem.W.nsIn K mainGlobals "room" = some (some (.ref f27))) (l27 : K.lookup f27 = some ⟨oc27, od27, .func (PySem.W.fnOf "room" "room" (aM mF) (aJ mF) (aD mF) .none kV27 doc27 pm27 an27 cd27 ct27), sl27⟩) (c27 : PySem.W.codeIn K cd27 "room" = true) (k27 : PySem.W.keepIn K (.ref f27) = true)
    (a28 : PySem.W.nsIn K mainGlobals "reached" = some (some (.ref f28))) (l28 : K.lookup f28 = some ⟨oc28, od28, .func (PySem.W.fnOf "reached" "reached" (aM hZ) (aJ hZ) (aD hZ) .none kV28 doc28 pm28 an28 cd28 ct28), sl28⟩) (c28 : PySem.W.codeIn K cd28 "reached" = true) (k28 : PySem.W.keepIn K (.ref f28) = true)
    (a29 : PySem.W.nsIn K mainGlobals "path_with_room" = some (some (.ref f29))) (l29 : K.lookup f29 = some ⟨oc29, od29, .func (PySem.W.fnOf "path_with_room" "path_with_room" (aM dI) (aJ dI) (aD dI) .none kV29 doc29 pm29 an29 cd29 ct29), sl29⟩) (c29 : PySem.W.codeIn K cd29 "path_with_room" = true) (k29 : PySem.W.keepIn K (.ref f29) = true)
    (a30 : PySem.W.nsIn K mainGlobals "fullest_stream" = some (some (.ref f30))) (l30 : K.lookup f30 = some ⟨oc30, od30, .func (PySem.W.fnOf "fullest_stream" "fullest_stream" (aM dJ) (aJ dJ) (aD dJ) .none kV30 doc30 pm30 an30 cd30 ct30), sl30⟩) (c30 : PySem.W.codeIn K cd30 "fullest_stream" = true) (k30 : PySem.W.keepIn K (.ref f30) = true)
    (a31 : PySem.W.nsIn K mainGlobals "works_round" = some (some (.ref f31))) (l31 : K.lookup f31 = some ⟨oc31, od31, .func (PySem.W.fnOf "works_round" "works_round" (aM eD) (aJ eD) (aD eD) .none kV31 doc31 pm31 an31 cd31 ct31), sl31⟩) (c31 : PySem.W.codeIn K cd31 "works_round" = true) (k31 : PySem.W.keepIn K (.ref f31) = true)
    (a32 : PySem.W.nsIn K mainGlobals "fewest" = some (some (.ref f32))) (l32 : K.lookup f32 = some ⟨oc32, od32, .func (PySem.W.fnOf "fewest" "fewest" (aM jH) (aJ jH) (aD jH) .none kV32 doc32 pm32 an32 cd32 ct32), sl32⟩) (c32 : PySem.W.codeIn K cd32 "fewest" = true) (k32 : PySem.W.keepIn K (.ref f32) = true)
    (a33 : PySem.W.nsIn K mainGlobals "cost_of_none" = some (some (.ref f33))) (l33 : K.lookup f33 = some ⟨oc33, od33, .func (PySem.W.fnOf "cost_of_none" "cost_of_none" (aM dR) (aJ dR) (aD dR) .none kV33 doc33 pm33 an33 cd33 ct33), sl33⟩) (c33 : PySem.W.codeIn K cd33 "cost_of_none" = true) (k33 : PySem.W.keepIn K (.ref f33) = true)
    (a34 : PySem.W.nsIn K mainGlobals "cost" = some (some (.ref f34))) (l34 : K.lookup f34 = some ⟨oc34, od34, .func (PySem.W.fnOf "cost" "cost" (aM mG) (aJ mG) (aD mG) .none kV34 doc34 pm34 an34 cd34 ct34), sl34⟩) (c34 : PySem.W.codeIn K cd34 "cost" = true) (k34 : PySem.W.keepIn K (.ref f34) = true)
    (a35 : PySem.W.nsIn K mainGlobals "saved" = some (some (.ref f35))) (l35 : K.lookup f35 = some ⟨oc35, od35, .func (PySem.W.fnOf "saved" "saved" (aM kL) (aJ kL) (aD kL) .none kV35 doc35 pm35 an35 cd35 ct35), sl35⟩) (c35 : PySem.W.codeIn K cd35 "saved" = true) (k35 : PySem.W.keepIn K (.ref f35) = true)
    (a36 : PySem.W.nsIn K mainGlobals "_law_cell_at" = some (some (.ref f36))) (l36 : K.lookup f36 = some ⟨oc36, od36, .func (PySem.W.fnOf "_law_cell_at" "_law_cell_at" (aM iJ) (aJ iJ) (aD iJ) .none kV36 doc36 pm36 an36 cd36 ct36), sl36⟩) (c36 : PySem.W.codeIn K cd36 "_law_cell_at" = true) (k36 : PySem.W.keepIn K (.ref f36) = true)
    (a37 : PySem.W.nsIn K mainGlobals "_law_mixed" = some (some (.ref f37))) (l37 : K.lookup f37 = some ⟨oc37, od37, .func (PySem.W.fnOf "_law_mixed" "_law_mixed" (aM kN) (aJ kN) (aD kN) .none kV37 doc37 pm37 an37 cd37 ct37), sl37⟩) (c37 : PySem.W.codeIn K cd37 "_law_mixed" = true) (k37 : PySem.W.keepIn K (.ref f37) = true)
    (a38 : PySem.W.nsIn K mainGlobals "_law_words" = some (some (.ref f38))) (l38 : K.lookup f38 = some ⟨oc38, od38, .func (PySem.W.fnOf "_law_words" "_law_words" (aM gU) (aJ gU) (aD gU) .none kV38 doc38 pm38 an38 cd38 ct38), sl38⟩) (c38 : PySem.W.codeIn K cd38 "_law_words" = true) (k38 : PySem.W.keepIn K (.ref f38) = true)
    (a39 : PySem.W.nsIn K mainGlobals "_law_high" = some (some (.ref f39))) (l39 : K.lookup f39 = some ⟨oc39, od39, .func (PySem.W.fnOf "_law_high" "_law_high" (aM mI) (aJ mI) (aD mI) .none kV39 doc39 pm39 an39 cd39 ct39), sl39⟩) (c39 : PySem.W.codeIn K cd39 "_law_high" = true) (k39 : PySem.W.keepIn K (.ref f39) = true)
    (a40 : PySem.W.nsIn K mainGlobals "_law_most" = some (some (.ref f40))) (l40 : K.lookup f40 = some ⟨oc40, od40, .func (PySem.W.fnOf "_law_most" "_law_most" (aM mH) (aJ mH) (aD mH) .none kV40 doc40 pm40 an40 cd40 ct40), sl40⟩) (c40 : PySem.W.codeIn K cd40 "_law_most" = true) (k40 : PySem.W.keepIn K (.ref f40) = true)
    (a41 : PySem.W.nsIn K mainGlobals "_law_fields" = some (some (.ref f41))) (l41 : K.lookup f41 = some ⟨oc41, od41, .func (PySem.W.fnOf "_law_fields" "_law_fields" (aM jI) (aJ jI) (aD jI) .none kV41 doc41 pm41 an41 cd41 ct41), sl41⟩) (c41 : PySem.W.codeIn K cd41 "_law_fields" = true) (k41 : PySem.W.keepIn K (.ref f41) = true)
    (a42 : PySem.W.nsIn K mainGlobals "_law_dykes" = some (some (.ref f42))) (l42 : K.lookup f42 = some ⟨oc42, od42, .func (PySem.W.fnOf "_law_dykes" "_law_dykes" (aM kP) (aJ kP) (aD kP) .none kV42 doc42 pm42 an42 cd42 ct42), sl42⟩) (c42 : PySem.W.codeIn K cd42 "_law_dykes" = true) (k42 : PySem.W.keepIn K (.ref f42) = true)
    (a43 : PySem.W.nsIn K mainGlobals "_law_small" = some (some (.ref f43))) (l43 : K.lookup f43 = some ⟨oc43, od43, .func (PySem.W.fnOf "_law_small" "_law_small" (aM kM) (aJ kM) (aD kM) .none kV43 doc43 pm43 an43 cd43 ct43), sl43⟩) (c43 : PySem.W.codeIn K cd43 "_law_small" = true) (k43 : PySem.W.keepIn K (.ref f43) = true)
    (a44 : PySem.W.nsIn K mainGlobals "_law_least" = some (some (.ref f44))) (l44 : K.lookup f44 = some ⟨oc44, od44, .func (PySem.W.fnOf "_law_least" "_law_least" (aM kO) (aJ kO) (aD kO) .none kV44 doc44 pm44 an44 cd44 ct44), sl44⟩) (c44 : PySem.W.codeIn K cd44 "_law_least" = true) (k44 : PySem.W.keepIn K (.ref f44) = true)
    (a45 : PySem.W.nsIn K mainGlobals "_law_company" = some (some (.ref f45))) (l45 : K.lookup f45 = some ⟨oc45, od45, .func (PySem.W.fnOf "_law_company" "_law_company" (aM iI) (aJ iI) (aD iI) .none kV45 doc45 pm45 an45 cd45 ct45), sl45⟩) (c45 : PySem.W.codeIn K cd45 "_law_company" = true) (k45 : PySem.W.keepIn K (.ref f45) = true)
    (a46 : PySem.W.nsIn K mainGlobals "_law_refused" = some (some (.ref f46))) (l46 : K.lookup f46 = some ⟨oc46, od46, .func (PySem.W.fnOf "_law_refused" "_law_refused" (aM iH) (aJ iH) (aD iH) .none kV46 doc46 pm46 an46 cd46 ct46), sl46⟩) (c46 : PySem.W.codeIn K cd46 "_law_refused" = true) (k46 : PySem.W.keepIn K (.ref f46) = true)
    (a47 : PySem.W.nsIn K mainGlobals "_law_all_refused" = some (some (.ref f47))) (l47 : K.lookup f47 = some ⟨oc47, od47, .func (PySem.W.fnOf "_law_all_refused" "_law_all_refused" (aM eI) (aJ eI) (aD eI) .none kV47 doc47 pm47 an47 cd47 ct47), sl47⟩) (c47 : PySem.W.codeIn K cd47 "_law_all_refused" = true) (k47 : PySem.W.keepIn K (.ref f47) = true)
    (a48 : PySem.W.nsIn K mainGlobals "law" = some (some (.ref f48))) (l48 : K.lookup f48 = some ⟨oc48, od48, .func (PySem.W.fnOf "law" "law" (aM nJ) (aJ nJ) (aD nJ) .none kV48 doc48 pm48 an48 cd48 ct48), sl48⟩) (c48 : PySem.W.codeIn K cd48 "law" = true) (k48 : PySem.W.keepIn K (.ref f48) = true)
    (g0 : PySem.W.nsIn K mainGlobals "SEA" = some (some u0)) (r0 : bK (.str "sea") u0)
    (g1 : PySem.W.nsIn K mainGlobals "LETTERS" = some (some u1)) (r1 : bK (.str "abcdefghijklmnopqrstuvwxyz") u1)
    (g2 : PySem.W.nsIn K mainGlobals "MOST_LETTERS" = some (some u2)) (r2 : bK (.int 8) u2)
    (g3 : PySem.W.nsIn K mainGlobals "MOST_HEIGHT" = some (some u3)) (r3 : bK (.int 1000000) u3)
    (g4 : PySem.W.nsIn K mainGlobals "MOST_AMOUNT" = some (some u4)) (r4 : bK (.int 1000000) u4)
    (g5 : PySem.W.nsIn K mainGlobals "MOST_FIELDS" = some (some u5)) (r5 : bK (.int 12) u5)
    (g6 : PySem.W.nsIn K mainGlobals "MOST_DYKES" = some (some u6)) (r6 : bK (.int 40) u6)
    (z0 : PySem.W.nsIn K mainGlobals "ValueError" = some none)
    (z1 : PySem.W.nsIn K mainGlobals "all" = some none)
    (z2 : PySem.W.nsIn K mainGlobals "bool" = some none)
    (z3 : PySem.W.nsIn K mainGlobals "dict" = some none)
    (z4 : PySem.W.nsIn K mainGlobals "int" = some none)
    (z5 : PySem.W.nsIn K mainGlobals "isinstance" = some none)
    (z6 : PySem.W.nsIn K mainGlobals "len" = some none)
    (z7 : PySem.W.nsIn K mainGlobals "list" = some none)
    (z8 : PySem.W.nsIn K mainGlobals "max" = some none)
    (z9 : PySem.W.nsIn K mainGlobals "min" = some none)
    (z10 : PySem.W.nsIn K mainGlobals "range" = some none)
    (z11 : PySem.W.nsIn K mainGlobals "reversed" = some none)
    (z12 : PySem.W.nsIn K mainGlobals "set" = some none)
    (z13 : PySem.W.nsIn K mainGlobals "str" = some none)
    (z14 : PySem.W.nsIn K mainGlobals "sum" = some none)
    (z15 : PySem.W.nsIn K mainGlobals "tuple" = some none)   : Txt K mg C :=
  ⟨⟨pgC, hdC, poC, saC⟩,
   PySem.W.mg_of X G aC,
   n_field_rows,
   n_dyke_rows,
   ⟨iha, ihn, iht, ihm⟩,
   aJK ma18 mi18 ml18 mc18 mk18 mkC kpC (fun _ _ _ _ _ _ us hl => match us, hl with | [_, _, _], _ => rfl),
   iW ma19 mi19 ml19 mc19 mk19 (fun _ _ _ _ _ _ us hl => match us, hl with | [_], _ => rfl),
   iW ma20 mi20 ml20 mc20 mk20 (fun _ _ _ _ _ _ us hl => match us, hl with | [_], _ => rfl),
   iW ma21 mi21 ml21 mc21 mk21 (fun _ _ _ _ _ _ us hl => match us, hl with | [_], _ => rfl),
   iW ma22 mi22 ml22 mc22 mk22 (fun _ _ _ _ _ _ us hl => match us, hl with | [_], _ => rfl),
   iW ma23 mi23 ml23 mc23 mk23 (fun _ _ _ _ _ _ us hl => match us, hl with | [_], _ => rfl),
   iW ma24 mi24 ml24 mc24 mk24 (fun _ _ _ _ _ _ us hl => match us, hl with | [_, _], _ => rfl),
   iW ma25 mi25 ml25 mc25 mk25 (fun _ _ _ _ _ _ us hl => match us, hl with | [_, _], _ => rfl),
   iW ma26 mi26 ml26 mc26 mk26 (fun _ _ _ _ _ _ us hl => match us, hl with | [_, _], _ => rfl),
   iW ma27 mi27 ml27 mc27 mk27 (fun _ _ _ _ _ _ us hl => match us, hl with | [_, _], _ => rfl),
   ⟨c_NoWish, c_DykeError, c_NoLand, c_NoWork, c_TooMany, ⟨⟨⟨xq_NoWish⟩, xm_NoWish⟩, xp_NoWish, xg_NoWish, xb_NoWish, ⟨xh_NoWish, xi_NoWish, xt_NoWish, xo_NoWish⟩⟩, PySem.W.mg_of X G xa_NoWish, PySem.W.mg_of X G xa_DykeError, PySem.W.mg_of X G xa_NoLand, PySem.W.mg_of X G xa_NoWork, PySem.W.mg_of X G xa_TooMany, xz0, xz1, xz2, xz3, xz4, xz5, xz6⟩,
   bE X G a0 l0 c0 k0 (fun _ _ _ _ _ _ us hl => match us, hl with | [_], _ => rfl),
   bE X G a1 l1 c1 k1 (fun _ _ _ _ _ _ us hl => match us, hl with | [_], _ => rfl),
   bE X G a2 l2 c2 k2 (fun _ _ _ _ _ _ us hl => match us, hl with | [_], _ => rfl),
   bE X G a3 l3 c3 k3 (fun _ _ _ _ _ _ us hl => match us, hl with | [_], _ => rfl),
   bE X G a4 l4 c4 k4 (fun _ _ _ _ _ _ us hl => match us, hl with | [_], _ => rfl),
   bE X G a5 l5 c5 k5 (fun _ _ _ _ _ _ us hl => match us, hl with | [_, _], _ => rfl),
   bE X G a6 l6 c6 k6 (fun _ _ _ _ _ _ us hl => match us, hl with | [_, _], _ => rfl),
   bE X G a7 l7 c7 k7 (fun _ _ _ _ _ _ us hl => match us, hl with | [_, _], _ => rfl),
   bE X G a8 l8 c8 k8 (fun _ _ _ _ _ _ us hl => match us, hl with | [_], _ => rfl),
   bE X G a9 l9 c9 k9 (fun _ _ _ _ _ _ us hl => match us, hl with | [_], _ => rfl),
   bE X G a10 l10 c10 k10 (fun _ _ _ _ _ _ us hl => match us, hl with | [_], _ => rfl),
   bE X G a11 l11 c11 k11 (fun _ _ _ _ _ _ us hl => match us, hl with | [_, _, _], _ => rfl),
   bE X G a12 l12 c12 k12 (fun _ _ _ _ _ _ us hl => match us, hl with | [_, _], _ => rfl),
   bE X G a13 l13 c13 k13 (fun _ _ _ _ _ _ us hl => match us, hl with | [_, _], _ => rfl),
   bE X G a14 l14 c14 k14 (fun _ _ _ _ _ _ us hl => match us, hl with | [_, _], _ => rfl),
   bE X G a15 l15 c15 k15 (fun _ _ _ _ _ _ us hl => match us, hl with | [_, _], _ => rfl),
   bE X G a16 l16 c16 k16 (fun _ _ _ _ _ _ us hl => match us, hl with | [_, _], _ => rfl),
   bE X G a17 l17 c17 k17 (fun _ _ _ _ _ _ us hl => match us, hl with | [_, _], _ => rfl),
   bE X G a18 l18 c18 k18 (fun _ _ _ _ _ _ us hl => match us, hl with | [_, _], _ => rfl),
   bE X G a19 l19 c19 k19 (fun _ _ _ _ _ _ us hl => match us, hl with | [_, _], _ => rfl),
   bE X G a20 l20 c20 k20 (fun _ _ _ _ _ _ us hl => match us, hl with | [_, _, _], _ => rfl),
   bE X G a21 l21 c21 k21 (fun _ _ _ _ _ _ us hl => match us, hl with | [_, _], _ => rfl),
   bE X G a22 l22 c22 k22 (fun _ _ _ _ _ _ us hl => match us, hl with | [_, _], _ => rfl),
   bE X G a23 l23 c23 k23 (fun _ _ _ _ _ _ us hl => match us, hl with | [_, _, _], _ => rfl),
   bE X G a24 l24 c24 k24 (fun _ _ _ _ _ _ us hl => match us, hl with | [_, _, _], _ => rfl),
   bE X G a25 l25 c25 k25 (fun _ _ _ _ _ _ us hl => match us, hl with | [_, _], _ => rfl),
   bE X G a26 l26 c26 k26 (fun _ _ _ _ _ _ us hl => match us, hl with | [_, _], _ => rfl),
   bE X G a27 l27 c27 k27 (fun _ _ _ _ _ _ us hl => match us, hl with | [_, _, _], _ => rfl),
   bE X G a28 l28 c28 k28 (fun _ _ _ _ _ _ us hl => match us, hl with | [_, _, _], _ => rfl),
   bE X G a29 l29 c29 k29 (fun _ _ _ _ _ _ us hl => match us, hl with | [_, _, _, _], _ => rfl),
   bE X G a30 l30 c30 k30 (fun _ _ _ _ _ _ us hl => match us, hl with | [_, _, _], _ => rfl),
   bE X G a31 l31 c31 k31 (fun _ _ _ _ _ _ us hl => match us, hl with | [_, _, _, _], _ => rfl),
   bE X G a32 l32 c32 k32 (fun _ _ _ _ _ _ us hl => match us, hl with | [_, _, _], _ => rfl),
   bE X G a33 l33 c33 k33 (fun _ _ _ _ _ _ us hl => match us, hl with | [_], _ => rfl),
   bE X G a34 l34 c34 k34 (fun _ _ _ _ _ _ us hl => match us, hl with | [_, _, _], _ => rfl),
   bE X G a35 l35 c35 k35 (fun _ _ _ _ _ _ us hl => match us, hl with | [_, _, _, _], _ => rfl),
   bE X G a36 l36 c36 k36 (fun _ _ _ _ _ _ us hl => match us, hl with | [_, _], _ => rfl),
   bE X G a37 l37 c37 k37 (fun _ _ _ _ _ _ us hl => match us, hl with | [_, _], _ => rfl),
   bE X G a38 l38 c38 k38 (fun _ _ _ _ _ _ us hl => match us, hl with | [_, _], _ => rfl),
   bE X G a39 l39 c39 k39 (fun _ _ _ _ _ _ us hl => match us, hl with | [_], _ => rfl),
   bE X G a40 l40 c40 k40 (fun _ _ _ _ _ _ us hl => match us, hl with | [_], _ => rfl),
   bE X G a41 l41 c41 k41 (fun _ _ _ _ _ _ us hl => match us, hl with | [_, _], _ => rfl),
   bE X G a42 l42 c42 k42 (fun _ _ _ _ _ _ us hl => match us, hl with | [_, _, _], _ => rfl),
   bE X G a43 l43 c43 k43 (fun _ _ _ _ _ _ us hl => match us, hl with | [_], _ => rfl),
   bE X G a44 l44 c44 k44 (fun _ _ _ _ _ _ us hl => match us, hl with | [_, _, _, _], _ => rfl),
   bE X G a45 l45 c45 k45 (fun _ _ _ _ _ _ us hl => match us, hl with | [_, _], _ => rfl),
   bE X G a46 l46 c46 k46 (fun _ _ _ _ _ _ us hl => match us, hl with | [_, _, _, _], _ => rfl),
   bE X G a47 l47 c47 k47 (fun _ _ _ _ _ _ us hl => match us, hl with | [_, _, _], _ => rfl),
   bE X G a48 l48 c48 k48 (fun _ _ _ _ _ _ us hl => match us, hl with | [_], _ => rfl),
   lL X G g0 r0,
   lL X G g1 r1,
   lL X G g2 r2,
   lL X G g3 r3,
   lL X G g4 r4,
   lL X G g5 r5,
   lL X G g6 r6,
   PySem.W.mg_none_of X G z0,
   PySem.W.mg_none_of X G z1,
   PySem.W.mg_none_of X G z2,
   PySem.W.mg_none_of X G z3,
   PySem.W.mg_none_of X G z4,
   PySem.W.mg_none_of X G z5,
   PySem.W.mg_none_of X G z6,
   PySem.W.mg_none_of X G z7,
   PySem.W.mg_none_of X G z8,
   PySem.W.mg_none_of X G z9,
   PySem.W.mg_none_of X G z10,
   PySem.W.mg_none_of X G z11,
   PySem.W.mg_none_of X G z12,
   PySem.W.mg_none_of X G z13,
   PySem.W.mg_none_of X G z14,
   PySem.W.mg_none_of X G z15⟩
end K62
namespace PySem.W.Fast
def tw16829906179401190069 := 0
def tw649221915351695834 := 0
def tw7267873643538197631 := 0
def tw761778717927347403 := 0
def tw8863382265842753589 := 0
def tw2490247887928747635 := 0
def tw917495578416697086 := 0
def tw15955715897443445605 := 0
def tw10471422871125023094 := 0
def tw17917362600774751778 := 0
def tw8321644956649925758 := 0
def tw3197046714661077879 := 0
def tw6913650985401378974 := 0
def tw5084260036276731902 := 0
def tw10770566154950939797 := 0
def tw5637914785484394810 := 0
def tw14791203581167791598 := 0
def tw12474057858528610059 := 0
def tw1915470456310472624 := 0
def tw8512408314318652422 := 0
def tw9891706994748977620 := 0
def tw12320334646495098018 := 0
def tw11722093907268529892 := 0
def tw5822819300261912786 := 0
def tw15015473850093240045 := 0
def tw11577685592226681935 := 0
def tw10995179107162392323 := 0
def tw10167683287568909030 := 0
def tw12494314933611796012 := 0
def tw16072582736241172422 := 0
def tw12529160760366656178 := 0
def tw8581366152906099628 := 0
def tw3237438635806758537 := 0
def tw10046134955418158972 := 0
def tw12925150264733030105 := 0
def tw11930587469587456868 := 0
def tw1350820889924204586 := 0
def tw3673123965692195736 := 0
def tw13061910411996703714 := 0
end PySem.W.Fast
open PySem PySem.W PyProof.Rows
set_option maxRecDepth 100000 in
set_option maxHeartbeats 0 in
theorem PySem.Challenge.cw_dykemoot_k62_what_they_save_holds : PySem.Challenge.rw_dykemoot_k62_what_they_save.Holds := by
 w_on; o_law; k_head; (case hw => w_witness2)
 k_fill
 refine L2.walk_law (l := PySem.Challenge.rw_dykemoot_k62_what_they_save) 12 ⟨rfl, by decide, by decide⟩ rfl rfl (fun w h Y => PySem.W.kIn_of Y) ?F
 case F =>
  intro w mg fa h KX G hmg
  refine' K62.law_mk hmg (K62.txt_mk KX G ?xaC ?xpgC ?xhdC ?xpoC ?xsaC ?xmkC ?xkpC ?xn_field_rows ?xn_dyke_rows ?xiha ?xihn ?xiht ?xihm ?xma18 ?xmi18 ?xml18 ?xmc18 ?xmk18 ?xma19 ?xmi19 ?xml19 ?xmc19 ?xmk19 ?xma20 ?xmi20 ?xml20 ?xmc20 ?xmk20 ?xma21 ?xmi21 ?xml21 ?xmc21 ?xmk21 ?xma22 ?xmi22 ?xml22 ?xmc22 ?xmk22 ?xma23 ?xmi23 ?xml23 ?xmc23 ?xmk23 ?xma24 ?xmi24 ?xml24 ?xmc24 ?xmk24 ?xma25 ?xmi25 ?xml25 ?xmc25 ?xmk25 ?xma26 ?xmi26 ?xml26 ?xmc26 ?xmk26 ?xma27 ?xmi27 ?xml27 ?xmc27 ?xmk27 ?xxa_NoWish ?xxa_DykeError ?xxa_NoLand ?xxa_NoWork ?xxa_TooMany ?xxq_NoWish ?xxm_NoWish ?xxp_NoWish ?xxg_NoWish ?xxb_NoWish ?xxh_NoWish ?xxi_NoWish ?xxt_NoWish ?xxo_NoWish ?xxz0 ?xxz1 ?xxz2 ?xxz3 ?xxz4 ?xxz5 ?xxz6 ?xa0 ?xl0 ?xc0 ?xk0 ?xa1 ?xl1 ?xc1 ?xk1 ?xa2 ?xl2 ?xc2 ?xk2 ?xa3 ?xl3 ?xc3 ?xk3 ?xa4 ?xl4 ?xc4 ?xk4 ?xa5 ?xl5 ?xc5 ?xk5 ?xa6 ?xl6 ?xc6 ?xk6 ?xa7 ?xl7 ?xc7 ?xk7 ?xa8 ?xl8 ?xc8 ?xk8 ?xa9 ?xl9 ?xc9 ?xk9 ?xa10 ?xl10 ?xc10 ?xk10 ?xa11 ?xl11 ?xc11 ?xk11 ?xa12 ?xl12 ?xc12 ?xk12 ?xa13 ?xl13 ?xc13 ?xk13 ?xa14 ?xl14 ?xc14 ?xk14 ?xa15 ?xl15 ?xc15 ?xk15 ?xa16 ?xl16 ?xc16 ?xk16 ?xa17 ?xl17 ?xc17 ?xk17 ?xa18 ?xl18 ?xc18 ?xk18 ?xa19 ?xl19 ?xc19 ?xk19 ?xa20 ?xl20 ?xc20 ?xk20 ?xa21 ?xl21 ?xc21 ?xk21 ?xa22 ?xl22 ?xc22 ?xk22 ?xa23 ?xl23 ?xc23 ?xk23 ?xa24 ?xl24 ?xc24 ?xk24 ?xa25 ?xl25 ?xc25 ?xk25 ?xa26 ?xl26 ?xc26 ?xk26 ?xa27 ?xl27 ?xc27 ?xk27 ?xa28 ?xl28 ?xc28 ?xk28 ?xa29 ?xl29 ?xc29 ?xk29 ?xa30 ?xl30 ?xc30 ?xk30 ?xa31 ?xl31 ?xc31 ?xk31 ?xa32 ?xl32 ?xc32 ?xk32 ?xa33 ?xl33 ?xc33 ?xk33 ?xa34 ?xl34 ?xc34 ?xk34 ?xa35 ?xl35 ?xc35 ?xk35 ?xa36 ?xl36 ?xc36 ?xk36 ?xa37 ?xl37 ?xc37 ?xk37 ?xa38 ?xl38 ?xc38 ?xk38 ?xa39 ?xl39 ?xc39 ?xk39 ?xa40 ?xl40 ?xc40 ?xk40 ?xa41 ?xl41 ?xc41 ?xk41 ?xa42 ?xl42 ?xc42 ?xk42 ?xa43 ?xl43 ?xc43 ?xk43 ?xa44 ?xl44 ?xc44 ?xk44 ?xa45 ?xl45 ?xc45 ?xk45 ?xa46 ?xl46 ?xc46 ?xk46 ?xa47 ?xl47 ?xc47 ?xk47 ?xa48 ?xl48 ?xc48 ?xk48 ?xg0 ?xr0 ?xg1 ?xr1 ?xg2 ?xr2 ?xg3 ?xr3 ?xg4 ?xr4 ?xg5 ?xr5 ?xg6 ?xr6 ?xz0 ?xz1 ?xz2 ?xz3 ?xz4 ?xz5 ?xz6 ?xz7 ?xz8 ?xz9 ?xz10 ?xz11 ?xz12 ?xz13 ?xz14 ?xz15)
  (case xaC => k_is)
  (case xpgC => k_is)
  (case xhdC => k_is)
  (case xpoC => k_is)
  (case xsaC => k_is)
  (case xmkC => k_is)
  (case xkpC => k_is)
  (case xn_field_rows => k_is)
  (case xn_dyke_rows => k_is)
  (case xiha => k_is)
  (case xihn => k_is)
  (case xiht => k_is)
  (case xihm => k_is)
  (case xma18 => k_is)
  (case xmi18 => k_is)
  (case xml18 => k_is)
  (case xmc18 => k_is)
  (case xmk18 => k_is)
  (case xma19 => k_is)
  (case xmi19 => k_is)
  (case xml19 => k_is)
  (case xmc19 => k_is)
  (case xmk19 => k_is)
  (case xma20 => k_is)
  (case xmi20 => k_is)
  (case xml20 => k_is)
  (case xmc20 => k_is)
  (case xmk20 => k_is)
  (case xma21 => k_is)
  (case xmi21 => k_is)
  (case xml21 => k_is)
  (case xmc21 => k_is)
  (case xmk21 => k_is)
  (case xma22 => k_is)
  (case xmi22 => k_is)
  (case xml22 => k_is)
  (case xmc22 => k_is)
  (case xmk22 => k_is)
  (case xma23 => k_is)
  (case xmi23 => k_is)
  (case xml23 => k_is)
  (case xmc23 => k_is)
  (case xmk23 => k_is)
  (case xma24 => k_is)
  (case xmi24 => k_is)
  (case xml24 => k_is)
  (case xmc24 => k_is)
  (case xmk24 => k_is)
  (case xma25 => k_is)
  (case xmi25 => k_is)
  (case xml25 => k_is)
  (case xmc25 => k_is)
  (case xmk25 => k_is)
  (case xma26 => k_is)
  (case xmi26 => k_is)
  (case xml26 => k_is)
  (case xmc26 => k_is)
  (case xmk26 => k_is)
  (case xma27 => k_is)
  (case xmi27 => k_is)
  (case xml27 => k_is)
  (case xmc27 => k_is)
  (case xmk27 => k_is)
  (case xxa_NoWish => k_is)
  (case xxa_DykeError => k_is)
  (case xxa_NoLand => k_is)
  (case xxa_NoWork => k_is)
  (case xxa_TooMany => k_is)
  (case xxq_NoWish => k_exc)
  (case xxm_NoWish => kts_exm)
  (case xxp_NoWish => k_is)
  (case xxg_NoWish => k_is)
  (case xxb_NoWish => k_is)
  (case xxh_NoWish => k_is)
  (case xxi_NoWish => k_is)
  (case xxt_NoWish => k_is)
  (case xxo_NoWish => k_is)
  (case xxz0 => kit_is)
  (case xxz1 => kit_is)
  (case xxz2 => kit_is)
  (case xxz3 => kit_is)
  (case xxz4 => kit_is)
  (case xxz5 => kit_is)
  (case xxz6 => kts_exm)
  (case xa0 => k_is)
  (case xl0 => k_is)
  (case xc0 => k_is)
  (case xk0 => k_is)
  (case xa1 => k_is)
  (case xl1 => k_is)
  (case xc1 => k_is)
  (case xk1 => k_is)
  (case xa2 => k_is)
  (case xl2 => k_is)
  (case xc2 => k_is)
  (case xk2 => k_is)
  (case xa3 => k_is)
  (case xl3 => k_is)
  (case xc3 => k_is)
  (case xk3 => k_is)
  (case xa4 => k_is)
  (case xl4 => k_is)
  (case xc4 => k_is)
  (case xk4 => k_is)
  (case xa5 => k_is)
  (case xl5 => k_is)
  (case xc5 => k_is)
  (case xk5 => k_is)
  (case xa6 => k_is)
  (case xl6 => k_is)
  (case xc6 => k_is)
  (case xk6 => k_is)
  (case xa7 => k_is)
  (case xl7 => k_is)
  (case xc7 => k_is)
  (case xk7 => k_is)
  (case xa8 => k_is)
  (case xl8 => k_is)
  (case xc8 => k_is)
  (case xk8 => k_is)
  (case xa9 => k_is)
  (case xl9 => k_is)
  (case xc9 => k_is)
  (case xk9 => k_is)
  (case xa10 => k_is)
  (case xl10 => k_is)
  (case xc10 => k_is)
  (case xk10 => k_is)
  (case xa11 => k_is)
  (case xl11 => k_is)
  (case xc11 => k_is)
  (case xk11 => k_is)
  (case xa12 => k_is)
  (case xl12 => k_is)
  (case xc12 => k_is)
  (case xk12 => k_is)
  (case xa13 => k_is)
  (case xl13 => k_is)
  (case xc13 => k_is)
  (case xk13 => k_is)
  (case xa14 => k_is)
  (case xl14 => k_is)
  (case xc14 => k_is)
  (case xk14 => k_is)
  (case xa15 => k_is)
  (case xl15 => k_is)
  (case xc15 => k_is)
  (case xk15 => k_is)
  (case xa16 => k_is)
  (case xl16 => k_is)
  (case xc16 => k_is)
  (case xk16 => k_is)
  (case xa17 => k_is)
  (case xl17 => k_is)
  (case xc17 => k_is)
  (case xk17 => k_is)
  (case xa18 => k_is)
  (case xl18 => k_is)
  (case xc18 => k_is)
  (case xk18 => k_is)
  (case xa19 => k_is)
  (case xl19 => k_is)
  (case xc19 => k_is)
  (case xk19 => k_is)
  (case xa20 => k_is)
  (case xl20 => k_is)
  (case xc20 => k_is)
  (case xk20 => k_is)
  (case xa21 => k_is)
  (case xl21 => k_is)
  (case xc21 => k_is)
  (case xk21 => k_is)
  (case xa22 => k_is)
  (case xl22 => k_is)
  (case xc22 => k_is)
  (case xk22 => k_is)
  (case xa23 => k_is)
  (case xl23 => k_is)
  (case xc23 => k_is)
  (case xk23 => k_is)
  (case xa24 => k_is)
  (case xl24 => k_is)
  (case xc24 => k_is)
  (case xk24 => k_is)
  (case xa25 => k_is)
  (case xl25 => k_is)
  (case xc25 => k_is)
  (case xk25 => k_is)
  (case xa26 => k_is)
  (case xl26 => k_is)
  (case xc26 => k_is)
  (case xk26 => k_is)
  (case xa27 => k_is)
  (case xl27 => k_is)
  (case xc27 => k_is)
  (case xk27 => k_is)
  (case xa28 => k_is)
  (case xl28 => k_is)
  (case xc28 => k_is)
  (case xk28 => k_is)
  (case xa29 => k_is)
  (case xl29 => k_is)
  (case xc29 => k_is)
  (case xk29 => k_is)
  (case xa30 => k_is)
  (case xl30 => k_is)
  (case xc30 => k_is)
  (case xk30 => k_is)
  (case xa31 => k_is)
  (case xl31 => k_is)
  (case xc31 => k_is)
  (case xk31 => k_is)
  (case xa32 => k_is)
  (case xl32 => k_is)
  (case xc32 => k_is)
  (case xk32 => k_is)
  (case xa33 => k_is)
  (case xl33 => k_is)
  (case xc33 => k_is)
  (case xk33 => k_is)
  (case xa34 => k_is)
  (case xl34 => k_is)
  (case xc34 => k_is)
  (case xk34 => k_is)
  (case xa35 => k_is)
  (case xl35 => k_is)
  (case xc35 => k_is)
  (case xk35 => k_is)
  (case xa36 => k_is)
  (case xl36 => k_is)
  (case xc36 => k_is)
  (case xk36 => k_is)
  (case xa37 => k_is)
  (case xl37 => k_is)
  (case xc37 => k_is)
  (case xk37 => k_is)
  (case xa38 => k_is)
  (case xl38 => k_is)
  (case xc38 => k_is)
  (case xk38 => k_is)
  (case xa39 => k_is)
  (case xl39 => k_is)
  (case xc39 => k_is)
  (case xk39 => k_is)
  (case xa40 => k_is)
  (case xl40 => k_is)
  (case xc40 => k_is)
  (case xk40 => k_is)
  (case xa41 => k_is)
  (case xl41 => k_is)
  (case xc41 => k_is)
  (case xk41 => k_is)
  (case xa42 => k_is)
  (case xl42 => k_is)
  (case xc42 => k_is)
  (case xk42 => k_is)
  (case xa43 => k_is)
  (case xl43 => k_is)
  (case xc43 => k_is)
  (case xk43 => k_is)
  (case xa44 => k_is)
  (case xl44 => k_is)
  (case xc44 => k_is)
  (case xk44 => k_is)
  (case xa45 => k_is)
  (case xl45 => k_is)
  (case xc45 => k_is)
  (case xk45 => k_is)
  (case xa46 => k_is)
  (case xl46 => k_is)
  (case xc46 => k_is)
  (case xk46 => k_is)
  (case xa47 => k_is)
  (case xl47 => k_is)
  (case xc47 => k_is)
  (case xk47 => k_is)
  (case xa48 => k_is)
  (case xl48 => k_is)
  (case xc48 => k_is)
  (case xk48 => k_is)
  (case xg0 => k_is)
  (case xr0 => exact ⟨_, rfl⟩)
  (case xg1 => k_is)
  (case xr1 => exact ⟨_, rfl⟩)
  (case xg2 => k_is)
  (case xr2 => exact ⟨_, rfl⟩)
  (case xg3 => k_is)
  (case xr3 => exact ⟨_, rfl⟩)
  (case xg4 => k_is)
  (case xr4 => exact ⟨_, rfl⟩)
  (case xg5 => k_is)
  (case xr5 => exact ⟨_, rfl⟩)
  (case xg6 => k_is)
  (case xr6 => exact ⟨_, rfl⟩)
  (case xz0 => k_is)
  (case xz1 => k_is)
  (case xz2 => k_is)
  (case xz3 => k_is)
  (case xz4 => k_is)
  (case xz5 => k_is)
  (case xz6 => k_is)
  (case xz7 => k_is)
  (case xz8 => k_is)
  (case xz9 => k_is)
  (case xz10 => k_is)
  (case xz11 => k_is)
  (case xz12 => k_is)
  (case xz13 => k_is)
  (case xz14 => k_is)
  (case xz15 => k_is)
