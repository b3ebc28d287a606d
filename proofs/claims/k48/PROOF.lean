import PyProof.Rows.All
import Wide.All
import OpenK.AllK
import Wide.FinOn
import Lean
import PyProof.EqAt
import PyProof.EqKinds
import PyProof.TupleCall
import PyProof.StrBlockI
import PyProof.SliceList
import PyProof.StrLawsIn
import PyProof.StrLaws
import PySem.Challenge.RW_dykemoot_k48_whole_days_walked
set_option Elab.async false
set_option linter.all false
set_option maxRecDepth 100000
namespace L2
open PySem PySem.Spec PyProof.Rows
abbrev Key := Sum Int Str
def tQ : Key → Value → Bool
 | .inl k, v => Value.isInt k v
 | .inr x, v => Value.isStrOf x v
def aNO (w : World) : Key → Int
 | .inl k => hashInt k
 | .inr x => hashStr w x
theorem cT : ∀ {k : Key} {v : Value}, tQ k v = true → (∃ i t, k = Sum.inl i ∧ v = Value.int i t) ∨ (∃ x t, k = Sum.inr x ∧ v = Value.str x t)
 | .inl i, v, h => by
  obtain ⟨t, e⟩ := Value.isInt_shape (k := i) (v := v) h
  exact .inl ⟨i, t, rfl, e⟩
 | .inr x, v, h => by
  obtain ⟨t, e⟩ := Value.isStrOf_shape (x := x) (v := v) h
  exact .inr ⟨x, t, rfl, e⟩
theorem qD (i : Int) (t : Tok) : tQ (.inl i) (.int i t) = true := by simp [tQ, Value.isInt]
theorem qC (x : Str) (t : Tok) : tQ (.inr x) (.str x t) = true := by simp [tQ, Value.isStrOf]
theorem aKN (a b : Int) : decide ((Sum.inl a : Key) = Sum.inl b) = (a == b) := by
 by_cases e : a = b
 ·subst e; simp
 ·have h : ¬ (Sum.inl a : Key) = Sum.inl b := fun q => e (Sum.inl.inj q)
  rw [decide_eq_false h]
  exact (beq_eq_false_iff_ne.mpr e).symm
theorem aKK (a b : Str) : decide ((Sum.inr a : Key) = Sum.inr b) = decide (a = b) := by
 by_cases e : a = b
 ·subst e; simp
 ·have h : ¬ (Sum.inr a : Key) = Sum.inr b := fun q => e (Sum.inr.inj q)
  rw [decide_eq_false h, decide_eq_false e]
theorem aKM (a : Int) (b : Str) : decide ((Sum.inl a : Key) = Sum.inr b) = false := decide_eq_false (fun q => nomatch q)
theorem aKL (a : Str) (b : Int) : decide ((Sum.inr a : Key) = Sum.inl b) = false := decide_eq_false (fun q => nomatch q)
def aX (prog : Program) (w : World) : PySem.KeyKind prog w Key where
 is := tQ
 hash := aNO w
 inj := fun v a b ha hb => by
  rcases cT ha with ⟨i, t, rfl, rfl⟩ | ⟨x, t, rfl, rfl⟩
  ·rcases cT hb with ⟨j, u, rfl, e⟩ | ⟨y, u, rfl, e⟩
   ·injection e with e1 _; rw [e1]
   ·exact nomatch e
  ·rcases cT hb with ⟨j, u, rfl, e⟩ | ⟨y, u, rfl, e⟩
   ·exact nomatch e
   ·injection e with e1 _; rw [e1]
 byValue := fun k v h => by
  rcases cT h with ⟨i, t, rfl, rfl⟩ | ⟨x, t, rfl, rfl⟩ <;> rfl
 pyHash := fun hv h => by
  rcases cT hv with ⟨i, t, rfl, rfl⟩ | ⟨x, t, rfl, rfl⟩
  ·exact wpAny_pyHash_int h
  ·exact wpAny_pyHash_str h
 eqBool := fun hu hv h => by
  rcases cT hu with ⟨i, t, rfl, rfl⟩ | ⟨x, t, rfl, rfl⟩
  ·rcases cT hv with ⟨j, u, rfl, rfl⟩ | ⟨y, u, rfl, rfl⟩
   ·rw [aKN] at h; exact wpAny_eqBool_int h
   ·rw [aKM] at h; exact SeqAt.EqAt.int_str i t y u _ _ _ _ h
  ·rcases cT hv with ⟨j, u, rfl, rfl⟩ | ⟨y, u, rfl, rfl⟩
   ·rw [aKL] at h; exact SeqAt.EqAt.str_int x t j u _ _ _ _ h
   ·rw [aKK] at h; exact wpAny_eqBool_str h
 «strs» := fun k x t v h => by
  rcases cT h with ⟨i, u, rfl, e⟩ | ⟨y, u, rfl, e⟩
  ·exact nomatch e
  ·injection e with e1 _
   subst e1
   cases v <;> rfl
theorem yP (prog : Program) (w : World) (i : Int) (t : Tok) : (aX prog w).is (.inl i) (.int i t) = true := qD i t
theorem yO (prog : Program) (w : World) (x : Str) (t : Tok) : (aX prog w).is (.inr x) (.str x t) = true := qC x t
end L2
namespace L2
open PySem PySem.Spec PyProof.Rows
inductive V where
 | non | bl (b : Bool) | int (i : Int) | str (x : Str) | byt (b : Array UInt8) | flt (b : UInt64) | ref (a : Addr) | ty (n : String)
 deriving DecidableEq
def bI : V → Value → Prop
 | .non, u => u = Value.none
 | .bl b, u => u = Value.bool b
 | .int i, u => ∃ t, u = Value.int i t
 | .str x, u => ∃ t, u = Value.str x t
 | .byt b, u => ∃ t, u = Value.bytes b t
 | .flt b, u => ∃ t, u = Value.float b t
 | .ref a, u => u = Value.ref a
 | .ty n, u => u = Value.type n
abbrev bK : List V → List Value → Prop := Paired bI
theorem bK.length {xs : List V} {us : List Value} (r : bK xs us) : xs.length = us.length := Paired.length r
theorem bK.get : ∀ {xs : List V} {us : List Value} {i : Nat} {x : V}, bK xs us → xs[i]? = some x → ∃ u, us[i]? = some u ∧ bI x u
 | _, _, _, _, .nil, e => by simp at e
 | _, _, 0, _, .cons r _, e => by simp at e; subst e; exact ⟨_, rfl, r⟩
 | _, _, i + 1, x, .cons _ t, e => by
  obtain ⟨u, h1, h2⟩ := bK.get (i := i) (x := x) t (by simpa using e)
  exact ⟨u, by simpa using h1, h2⟩
theorem bK.append : ∀ {xs ys : List V} {us ws : List Value}, bK xs us → bK ys ws → bK (xs ++ ys) (us ++ ws)
 | _, _, _, _, .nil, s => s
 | _, _, _, _, .cons r t, s => .cons r (bK.append t s)
theorem bK.take : ∀ {xs : List V} {us : List Value} (n : Nat), bK xs us → bK (xs.take n) (us.take n)
 | _, _, 0, _ => .nil
 | _, _, _ + 1, .nil => .nil
 | _, _, n + 1, .cons r t => .cons r (bK.take n t)
theorem bK.drop : ∀ {xs : List V} {us : List Value} (n : Nat), bK xs us → bK (xs.drop n) (us.drop n)
 | _, _, 0, r => r
 | _, _, _ + 1, .nil => .nil
 | _, _, n + 1, .cons _ t => bK.drop n t
def mN : Option V → Option Value → Prop
 | some v, some u => bI v u
 | none, none => True
 | _, _ => False
def KV {κ : Type} : List (κ × V) → List (κ × Value) → Prop := Paired fun (p : κ × V) (q : κ × Value) => p.1 = q.1 ∧ bI p.2 q.2
def kV : Key → V
 | .inl i => .int i
 | .inr x => .str x
inductive HO where
 /-- a list -/
 | lst (xs : List V)
 /-- a tuple (never changes) -/
 | tup (xs : List V)
 /-- a dict whose keys are ints and texts; one whose keys are tuples of ints and texts (the empty one is both) -/
 | dK (kvs : List (Key × V)) | dT (kvs : List (List Key × V))
 /-- a set of ints: its members, its size -/
 | set (S : Int → Bool) (n : Nat)
 /-- an instance of the class at C, its dict at dx, its attributes -/
 | ins (C dx : Addr) (fs : List (Str × V))
 /-- the dict of the instance at x -/
 | own (x : Addr)
 /-- the dict of an exception -/
 | xd (fs : List (Str × V))
 /-- a bound method, f of x -/
 | met (f x : Addr)
 /-- a range object lo, lo + 1, .. below hi -/
 | rng (lo hi : Int)
 /-- a thing that is known to the object (the script; a dict while a loop walks it): read, never written while it is so -/
 | frz (o : Obj) (u : HO)
 /-- a aMT object's table -/
 | tbl (ps : Array Value)
 /-- any other thing, by what is true of its one object (a def of one's own: aAV a S n := HO.ext fun h => ..) -/
 | ext (φ : Heap → Prop)
abbrev Hp := Addr → Option HO
def upd (H : Hp) (a : Addr) (o : HO) : Hp := fun b => if b = a then some o else H b
theorem aB {H : Hp} {a : Addr} {o : HO} : upd H a o a = some o := by unfold upd; rw [if_pos rfl]
theorem aT {H : Hp} {a b : Addr} {o : HO} (h : b ≠ a) : upd H a o b = H b := by unfold upd; rw [if_neg h]
theorem aBZ {H : Hp} {a b : Addr} {o u : HO} (h : H a = some o) (h' : H b = some u) (d : o ≠ u) : a ≠ b := by
 intro e; subst e; rw [h] at h'; exact d (Option.some.inj h')
theorem bG {H : Hp} {a b : Addr} {o : HO} (h : H a = some o) (h' : H b = none) : a ≠ b := by
 intro e; subst e; rw [h] at h'; cases h'
def qN (h : Heap) (a : Addr) (its : Array Value) : Prop := ∃ o, h.get? a = some o ∧ o.cls = .type "tuple" ∧ ∃ n, o.data = .seq its n ∧ o.dict = none
theorem qN.tup {h : Heap} {a : Addr} {its : Array Value} (x : qN h a its) : IsTup h a its := by
 obtain ⟨o, e, c, n, d, _⟩ := x
 exact ⟨o, e, c, n, d⟩
theorem qN.new (h : Heap) (its : Array Value) : qN (h.push { cls := .type "tuple", data := .seq its }) h.objs.size its := ⟨_, Heap.get?_push_size _ rfl, rfl, _, rfl, rfl⟩
section
variable (P : Program) (w : World)
def cW (H : Hp) (h : Heap) (a : Addr) : HO → Prop
 | .lst xs => xs.length ≤ sizeLine ∧ ∃ (its : List Value) (n : Nat), bK xs its ∧ h.get? a = some { cls := .type "list", data := .seq its.toArray n }
 | .tup xs => xs.length ≤ sizeLine ∧ ∃ its : List Value, bK xs its ∧ qN h a its.toArray
 | .dK kvs => kvs.length ≤ sizeLine ∧ (a == sysModules) = false ∧ ∃ vs, KV kvs vs ∧ h.DictOf (aX P w) a vs
 | .dT kvs => kvs.length ≤ sizeLine ∧ (a == sysModules) = false ∧ ∃ xs : List (List Key × Addr × Value),
   Paired (fun (p : List Key × V) (q : List Key × Addr × Value) => p.1 = q.1 ∧ H q.2.1 = some (.tup (p.1.map kV)) ∧ bI p.2 q.2.2) kvs xs ∧
   ∃ o es ep, h.get? a = some o ∧ o.ExactDict ∧ o.data = .dict es ep ∧ es.toList = xs.map (entryOfKey (tupleKind (aX P w))) ∧ (xs.map (·.1)).Nodup
 | .set S n => h.SetOf (intKind P w) a S n
 | .ins C dx fs => H dx = some (.own a) ∧ fs.length ≤ 1000 ∧ dx ≠ a ∧ h.get? a = some (PySem.W.instObj C dx) ∧
   ∃ mA, h.Ns1 dx mA ∧ (∀ f, mN (fs.lookup f) (mA f)) ∧ PySem.Within mA (fs.map (·.1))
 | .own _ => ∃ o, h.get? a = some o
 | .xd fs => ∃ mA, h.Ns1 a mA ∧ ∀ f, mN (fs.lookup f) (mA f)
 | .rng lo hi => ∃ t u v, h.get? a = some { cls := .type "range", data := .fields #[.int lo t, .int hi u, .int 1 v] }
 | .frz o u => h.get? a = some o ∧ cW H h a u
 | .tbl ps => h.get? a = some { cls := .none, data := .fields ps }
 | .met f x => h.get? a = some (PySem.W.methodObj (.ref f) (.ref x))
 | .ext φ => φ h ∧ (∃ o, h.get? a = some o) ∧ ∀ h1 h2 : Heap, φ h1 → (∀ o, h1.get? a = some o → h2.get? a = some o) → φ h2
def HOk (H : Hp) (h : Heap) : Prop := ∀ a o, H a = some o → cW P w H h a o
end
section
variable {P : Program} {w : World} {H H' : Hp} {h h' : Heap} {a : Addr} {o : HO}
theorem cW.lt (x : cW P w H h a o) : a < h.objs.size := by
 cases o with
 | lst xs => obtain ⟨_, _, _, _, e⟩ := x; exact Heap.lt_size e
 | tup xs => obtain ⟨_, _, _, _, e, _⟩ := x; exact Heap.lt_size e
 | dK kvs => obtain ⟨_, _, _, _, o, _, _, e, _⟩ := x; exact Heap.lt_size e
 | dT kvs => obtain ⟨_, _, _, _, o, _, _, e, _⟩ := x; exact Heap.lt_size e
 | set S n => obtain ⟨o, _, _, _, e, _⟩ := x; exact Heap.lt_size e
 | ins C dx fs => obtain ⟨_, _, _, e, _⟩ := x; exact Heap.lt_size e
 | own y => obtain ⟨_, e⟩ := x; exact Heap.lt_size e
 | xd fs => obtain ⟨_, ⟨_, _, _, e, _⟩, _⟩ := x; exact Heap.lt_size e
 | rng lo hi => obtain ⟨_, _, _, e⟩ := x; exact Heap.lt_size e
 | frz ob u => obtain ⟨e, _⟩ := x; exact Heap.lt_size e
 | tbl ps => exact Heap.lt_size (show h.get? a = some _ from x)
 | met f y => exact Heap.lt_size (show h.get? a = some _ from x)
 | ext φ => obtain ⟨_, ⟨_, e⟩, _⟩ := x; exact Heap.lt_size e
theorem Paired.mapP {α β : Type} {F G : α → β → Prop} : ∀ {l₁ : List α} {l₂ : List β}, Paired F l₁ l₂ → (∀ a b, F a b → G a b) → Paired G l₁ l₂
 | _, _, .nil, _ => .nil
 | _, _, .cons r t, f => .cons (f _ _ r) (Paired.mapP t f)
theorem cW.stay (x : cW P w H h a o) (k : ∀ b u, (b = a ∨ H b = some (.own a)) → h.get? b = some u → h'.get? b = some u)
  (ho : ∀ b, H b = some (.own a) → H' b = some (.own a)) (ht : ∀ b xs, H b = some (.tup xs) → H' b = some (.tup xs)) : cW P w H' h' a o := by
 induction o with
 | lst xs => obtain ⟨z, its, n, r, e⟩ := x; exact ⟨z, its, n, r, k _ _ (.inl rfl) e⟩
 | tup xs => obtain ⟨z, its, r, ob, e, c⟩ := x; exact ⟨z, its, r, ob, k _ _ (.inl rfl) e, c⟩
 | dK kvs => obtain ⟨z, y, vs, r, ob, es, ep, e, c⟩ := x; exact ⟨z, y, vs, r, ob, es, ep, k _ _ (.inl rfl) e, c⟩
 | dT kvs =>
  obtain ⟨z, y, xs, r, ob, es, ep, e, c⟩ := x
  exact ⟨z, y, xs, Paired.mapP r fun p q z => ⟨z.1, ht _ _ z.2.1, z.2.2⟩, ob, es, ep, k _ _ (.inl rfl) e, c⟩
 | set S n => obtain ⟨ob, es, ep, t, e, c⟩ := x; exact ⟨ob, es, ep, t, k _ _ (.inl rfl) e, c⟩
 | ins C dx fs =>
  obtain ⟨d, z, ne, e, mA, ⟨od, es, ep, e2, c⟩, r⟩ := x
  exact ⟨ho _ d, z, ne, k _ _ (.inl rfl) e, mA, ⟨od, es, ep, k _ _ (.inr d) e2, c⟩, r⟩
 | own y => obtain ⟨ob, e⟩ := x; exact ⟨ob, k _ _ (.inl rfl) e⟩
 | xd fs => obtain ⟨mA, ⟨od, es, ep, e, c⟩, r⟩ := x; exact ⟨mA, ⟨od, es, ep, k _ _ (.inl rfl) e, c⟩, r⟩
 | rng lo hi => obtain ⟨t, u, v, e⟩ := x; exact ⟨t, u, v, k _ _ (.inl rfl) e⟩
 | frz ob u ih => obtain ⟨e, q⟩ := x; exact ⟨k _ _ (.inl rfl) e, ih q⟩
 | tbl ps =>
  have e : h.get? a = some { cls := .none, data := .fields ps } := x
  show h'.get? a = some { cls := .none, data := .fields ps }
  exact k a _ (.inl rfl) e
 | met f y =>
  have e : h.get? a = some (PySem.W.methodObj (.ref f) (.ref y)) := x
  show h'.get? a = some (PySem.W.methodObj (.ref f) (.ref y))
  exact k a _ (.inl rfl) e
 | ext φ => obtain ⟨p, ⟨o, e⟩, st⟩ := x; exact ⟨st _ _ p fun o q => k _ _ (.inl rfl) q, ⟨o, k _ _ (.inl rfl) e⟩, st⟩
theorem HOk.lt (x : HOk P w H h) (e : H a = some o) : a < h.objs.size := (x a o e).lt
theorem HOk.fresh (x : HOk P w H h) (e : h.objs.size ≤ a) : H a = none := by
 cases q : H a with
 | none => rfl
 | some u => exact absurd (Nat.lt_of_lt_of_le (x.lt q) e) (Nat.lt_irrefl _)
theorem HOk.kept (x : HOk P w H h) (k : ∀ b u, h.get? b = some u → h'.get? b = some u) : HOk P w H h' := fun a o e =>
 (x a o e).stay (fun b u _ q => k b u q) (fun _ q => q) fun _ _ q => q
theorem HOk.laid (x : HOk P w H h) (k : ∀ b u, h.get? b = some u → h'.get? b = some u) (hp : h.objs.size ≤ a) (new : cW P w (upd H a o) h' a o) : HOk P w (upd H a o) h' := fun b u e => by
 have hn := x.fresh hp
 by_cases hb : b = a
 ·subst hb; rw [aB] at e; cases e; exact new
 ·rw [aT hb] at e
  exact (x b u e).stay (fun c v _ q => k c v q) (fun c q => by rw [aT (bG q hn)]; exact q) fun c xs q => by rw [aT (bG q hn)]; exact q
end
def Rd (H : Hp) (a : Addr) (u : HO) : Prop := H a = some u ∨ ∃ o, H a = some (.frz o u)
theorem Rd.ok {P : Program} {w : World} {H : Hp} {h : Heap} {a : Addr} {u : HO} (r : Rd H a u) (x : HOk P w H h) : cW P w H h a u := by
 rcases r with r | ⟨o, r⟩
 ·exact x a u r
 ·obtain ⟨_, q⟩ := x a _ r
  exact q
def Mut : Option HO → Prop
 | some (.lst _) => True
 | some (.dK _) => True
 | some (.dT _) => True
 | some (.set _ _) => True
 | some (.ins _ _ _) => True
 | some (.ext _) => True
 | _ => False
section
variable {P : Program} {w : World} {H : Hp} {h h' : Heap} {x e : Addr} {o' : HO}
theorem HOk.write (ok : HOk P w H h) (mu : Mut (H x)) (he : e = x ∨ H e = some (.own x)) (k : ∀ b u, b ≠ e → h.get? b = some u → h'.get? b = some u) (heo : ∃ u, h'.get? e = some u)
  (new : cW P w (upd H x o') h' x o') : HOk P w (upd H x o') h' := fun b u q => by
 have nown : ∀ c y, H c = some (.own y) → c ≠ x := fun c y r z => by subst z; rw [r] at mu; exact mu
 have ntup : ∀ c xs, H c = some (.tup xs) → c ≠ x := fun c xs r z => by subst z; rw [r] at mu; exact mu
 by_cases hb : b = x
 ·subst hb; rw [aB] at q; cases q; exact new
 ·rw [aT hb] at q
  by_cases hbe : b = e
  ·have q' : H b = some (.own x) := by
    rcases he with z | z
    ·exact absurd (hbe.trans z) hb
    ·rw [hbe]; exact z
   rw [q] at q'; cases q'
   obtain ⟨v, hv⟩ := heo
   exact ⟨v, by rw [hbe]; exact hv⟩
  ·refine (ok b u q).stay (fun c v hc r => k c v ?_ r) (fun c r => by rw [aT (nown c b r)]; exact r) fun c xs r => by rw [aT (ntup c xs r)]; exact r
   rcases hc with rfl | hc
   ·exact hbe
   ·rintro rfl
    rcases he with z | z
    ·exact nown c b hc z
    ·rw [hc] at z; cases z; exact hb rfl
end
structure Un (fs ex : List Addr) (H H' : Hp) (h h' : Heap) : Prop where
 keep : ∀ b o, h.get? b = some o → H b = none → b ∉ fs → b ∉ ex → h'.get? b = some o
 slot : ∀ b o, h.get? b = some o → H b = none → b ∈ fs → b ∉ ex → ∃ sl, h'.get? b = some { o with slots := sl }
 free : ∀ b o, h.get? b = some o → H b = none → b ∉ ex → H' b = none
 there : ∀ b o, h.get? b = some o → b ∉ ex → ∃ o', h'.get? b = some o'
 tups : ∀ b xs, H b = some (.tup xs) → H' b = some (.tup xs)
 frzs : ∀ b o u, H b = some (.frz o u) → H' b = some (.frz o u)
 tbls : ∀ b ps, H b = some (.tbl ps) → ∃ more, H' b = some (.tbl (ps ++ more))
section
variable {fs fs' ex ex' : List Addr} {H H1 H2 : Hp} {h h1 h2 h' : Heap} {a x e : Addr} {o : HO}
theorem Un.any (u : Un fs ex H H1 h h1) {b : Addr} {ob : Obj} (q : h.get? b = some ob) (n : H b = none) (hx : b ∉ ex) : ∃ sl, h1.get? b = some { ob with slots := sl } := by
 by_cases hb : b ∈ fs
 ·exact u.slot b ob q n hb hx
 ·exact ⟨ob.slots, u.keep b ob q n hb hx⟩
theorem Un.kept (k : ∀ b u, h.get? b = some u → h'.get? b = some u) : Un fs ex H H h h' :=
 ⟨fun b ob q _ _ _ => k b ob q, fun b ob q _ _ _ => ⟨ob.slots, k b ob q⟩, fun _ _ _ n _ => n, fun b ob q _ => ⟨ob, k b ob q⟩, fun _ _ q => q, fun _ _ _ q => q, fun _ ps q => ⟨#[], by rw [q]; simp⟩⟩
theorem Un.refl : Un fs ex H H h h := Un.kept fun _ _ q => q
theorem Un.laid (k : ∀ b u, h.get? b = some u → h'.get? b = some u) (hp : h.objs.size ≤ a) (hn : H a = none) : Un fs ex H (upd H a o) h h' where
 keep := fun b u q _ _ _ => k b u q
 slot := fun b u q _ _ _ => ⟨u.slots, k b u q⟩
 free := fun b u q n _ => by rw [aT (Nat.ne_of_lt (Nat.lt_of_lt_of_le (Heap.lt_size q) hp))]; exact n
 there := fun b u q _ => ⟨u, k b u q⟩
 tups := fun b xs q => by rw [aT (bG q hn)]; exact q
 frzs := fun b u xs q => by rw [aT (bG q hn)]; exact q
 tbls := fun b ps q => ⟨#[], by rw [aT (bG q hn), q]; simp⟩
theorem Un.write (mu : Mut (H x)) (he : e = x ∨ H e = some (.own x)) (k : ∀ b u, b ≠ e → h.get? b = some u → h'.get? b = some u) (heo : ∃ u, h'.get? e = some u) : Un fs ex H (upd H x o) h h' := by
 have hx : ∀ b, H b = none → b ≠ x := fun b n z => by subst z; rw [n] at mu; exact mu
 have hb : ∀ b, H b = none → b ≠ e := fun b n z => by
  subst z
  rcases he with r | r
  ·exact hx b n r
  ·rw [n] at r; cases r
 have hm : ∀ b u, H b = some u → ¬ Mut (some u) → b ≠ x := fun b u q nm z => by subst z; rw [q] at mu; exact nm mu
 refine ⟨fun b u q n _ _ => k b u (hb b n) q, fun b u q n _ _ => ⟨u.slots, k b u (hb b n) q⟩, fun b u q n _ => by rw [aT (hx b n)]; exact n, fun b u q _ => ?_,
  fun b xs q => by rw [aT (hm b _ q fun z => z)]; exact q, fun b u xs q => by rw [aT (hm b _ q fun z => z)]; exact q, fun b ps q => ⟨#[], by rw [aT (hm b _ q fun z => z), q]; simp⟩⟩
 by_cases hbe : b = e
 ·subst hbe; exact heo
 ·exact ⟨u, k b u hbe q⟩
end
def trk (h : Heap) (H : Hp) : List Addr := (List.range h.objs.size).filter fun a => (H a).isSome
def wY (h : Heap) (H : Hp) : Heap := PySem.W.hideAll h (trk h H)
theorem aDO (h : Heap) (H : Hp) : (wY h H).objs.size = h.objs.size := PySem.W.hideAll_size _ _
theorem aGL {h : Heap} {H : Hp} {b : Addr} {o : Obj} (e : h.get? b = some o) (n : H b = none) : (wY h H).get? b = some o :=
 PySem.W.hideAll_get _ e fun hm => by
  have q : (H b).isSome = true := (List.mem_filter.mp hm).2
  rw [n] at q; simp at q
theorem aIC {h : Heap} {H : Hp} {b : Addr} {o : Obj} (e : (wY h H).get? b = some o) : h.get? b = some o ∧ H b = none := by
 have e' : h.get? b = some o := PySem.W.of_hideAll (trk h H) e
 refine ⟨e', ?_⟩
 cases q : H b with
 | none => rfl
 | some x =>
  have hm : b ∈ trk h H := List.mem_filter.mpr ⟨List.mem_range.mpr (Heap.lt_size e'), by simp [q]⟩
  have z : (wY h H).get? b = none := PySem.W.hideAll_none (trk h H) hm
  rw [z] at e; cases e
def aIQ (g h : Heap) (L : Addr) : List (Addr × Obj) := (List.range h.objs.size).filterMap fun a => if a = L ∨ (g.get? a).isSome = true then none else (h.get? a).map fun o => (a, o)
def rE (g h : Heap) (L d : Addr) : List (Addr × Obj) := (aIQ g h L).filter fun p => decide (p.1 ≠ d)
end L2
namespace L2
open PySem PySem.Spec PyProof.Rows
structure Mod (K : PySem.W.Frag) (mg : Str → Option Value) (base : Heap) : Prop where
 kin : K.In base
 glob : base.Ns mainGlobals mg
 blt : ∃ mb, base.Ns builtinsNs mb ∧ ∀ x : Str, x ≠ "__name__" → mb x = bootBuiltins x
 nolimit : base.NoLimit
structure Cx where
 prog : Program
 w : World
 K : PySem.W.Frag
 mg : Str → Option Value
 base : Heap
 A : Around
 N : List Str
 s₀ : Shared
 H₀ : Hp
 env : Env
 outer : List Env
 stack : List Env
 ex : List Addr
 fn : Str → Bool
 calm : Bool
 pn : List (Addr × Obj)
 xe : Value → Shared → Prop
def frs (l : List Env) : List Addr := l.filterMap (·.frame)
abbrev Cx.fs (X : Cx) : List Addr := frs X.outer
def Vis (sc : Scope) (x : Str) : Prop := sc.names.lookup x = some .local ∨ sc.names.lookup x = some .cell ∨ sc.names.lookup x = some .free
def Loc (sc : Scope) (x : Str) : Prop := sc.names.lookup x = some .local ∨ sc.names.lookup x = some .cell
def aNZ (env : Env) (h : Heap) (m : Str → Option Value) (x : Str) (u : Value) : Prop :=
 (env.kindOf x = some .local ∧ m x = some u) ∨ ((env.kindOf x = some .cell ∨ env.kindOf x = some .free) ∧ ∃ c, env.cells.lookup x = some c ∧ h.IsCell c (some u))
structure Cx.Ok (X : Cx) : Prop where
 mod : Mod X.K X.mg X.base
 kind : X.env.scope.kind = .function
 glob : X.env.globals = mainGlobals
 blt : X.env.builtins = builtinsNs
 above : X.s₀.heap.objs.size ≤ X.env.locals
 inj : ∀ x y c, X.env.cells.lookup x = some c → X.env.cells.lookup y = some c → x = y
 has : ∀ x, (X.env.kindOf x = some .cell ∨ X.env.kindOf x = some .free) → ∃ c, X.env.cells.lookup x = some c
 cab : ∀ x c, X.fn x = true → X.env.cells.lookup x = some c → X.s₀.heap.objs.size ≤ c
 hd : X.calm = true → X.A.handled = none
 frames : X.A.frames = some X.stack
 stk : X.stack = X.outer ∨ (X.stack = X.env :: X.outer ∧ X.env.frame = some X.env.locals)
 exf : ∀ b ∈ X.ex, b ≠ X.env.locals ∧ ∀ x c, X.env.cells.lookup x = some c → c ≠ b
 bs : ∀ b o, X.base.get? b = some o → X.s₀.heap.get? b = some o ∧ X.H₀ b = none
 bsz : X.base.objs.size ≤ X.s₀.heap.objs.size
 noex : ∀ b o, X.base.get? b = some o → b ∉ X.ex
 exfs : ∀ b ∈ X.ex, b ∉ X.fs
 funs : X.s₀.heap.FunFrames X.base X.outer
 frf : ∀ b ∈ X.fs, X.H₀ b = none
structure Inv (X : Cx) (pins : List (Addr × Obj)) (σ : List (Option V)) (H : Hp) (s : Shared) : Prop where
 ok : X.Ok
 os : s.os = X.s₀.os
 bare : AllBare s.gens
 base : Un X.fs X.ex X.H₀ H X.s₀.heap s.heap
 loc : ∃ m, s.heap.Ns X.env.locals m ∧ ∀ (i : Nat) (x : Str) (v : V), X.N[i]? = some x → σ[i]? = some (some v) → Vis X.env.scope x → ∃ u, bI v u ∧ aNZ X.env s.heap m x u
 cell : ∀ x c, X.env.cells.lookup x = some c → ∃ v, s.heap.IsCell c v
 free : H X.env.locals = none
 freeC : ∀ x c, X.env.cells.lookup x = some c → H c = none
 pin : ∀ p ∈ X.pn ++ pins, s.heap.get? p.1 = some p.2 ∧ H p.1 = none ∧ p.1 ≠ X.env.locals ∧ p.1 ∉ X.fs ∧ ∀ v, p.2.data ≠ .cell v
 hok : HOk X.prog X.w H s.heap
 len : σ.length = X.N.length
section
variable {X : Cx} {pins : List (Addr × Obj)} {σ : List (Option V)} {H H' : Hp} {s : Shared} {h' : Heap}
theorem Cx.Ok.nofr (ok : X.Ok) {b : Addr} {o : Obj} (e : X.base.get? b = some o) : b ∉ X.fs := fun hb => by
 have := (ok.funs.mem hb).1
 rw [e] at this; cases this
theorem Inv.bs (I : Inv X pins σ H s) : ∀ b o, X.base.get? b = some o → s.heap.get? b = some o ∧ H b = none := fun b o e =>
 ⟨I.base.keep b o (I.ok.bs b o e).1 (I.ok.bs b o e).2 (I.ok.nofr e) (I.ok.noex b o e), I.base.free b o (I.ok.bs b o e).1 (I.ok.bs b o e).2 (I.ok.noex b o e)⟩
theorem Inv.bk (I : Inv X pins σ H s) : ∀ b o, X.base.get? b = some o → s.heap.get? b = some o := fun b o e => (I.bs b o e).1
theorem Inv.mod (I : Inv X pins σ H s) : Mod X.K X.mg X.base := I.ok.mod
theorem Inv.kIn (I : Inv X pins σ H s) : X.K.In s.heap := I.ok.mod.kin.keeps I.bk
theorem Inv.fr (I : Inv X pins σ H s) : ∃ m, Fr X.base X.env.locals s.heap m :=
 let ⟨m, hn, _⟩ := I.loc
 ⟨m, hn, I.bk, Nat.le_trans I.ok.bsz I.ok.above⟩
theorem Inv.lt (I : Inv X pins σ H s) : X.env.locals < s.heap.objs.size := let ⟨_, hn, _⟩ := I.loc; hn.lt
theorem Inv.sz (I : Inv X pins σ H s) : X.s₀.heap.objs.size ≤ s.heap.objs.size := Nat.le_trans I.ok.above (Nat.le_of_lt I.lt)
theorem Inv.nofs (I : Inv X pins σ H s) {a : Addr} (h : s.heap.objs.size ≤ a) : a ∉ X.fs := fun hb => by
 obtain ⟨_, o, ho, _⟩ := I.ok.funs.mem hb
 exact absurd (Nat.lt_of_lt_of_le (Heap.lt_size ho) (Nat.le_trans I.sz h)) (Nat.lt_irrefl _)
theorem Inv.cne (I : Inv X pins σ H s) : ∀ x c, X.env.cells.lookup x = some c → c ≠ X.env.locals := fun x c e z => by
 obtain ⟨v, o, ho, hd⟩ := I.cell x c e
 obtain ⟨m, ⟨o', es, ep, ho', hd', _⟩, _⟩ := I.loc
 rw [z, ho'] at ho; cases ho; rw [hd'] at hd; cases hd
theorem Inv.funs (I : Inv X pins σ H s) : s.heap.FunFrames X.base X.outer := by
 have all : ∀ (l : List Env), (∀ b ∈ frs l, b ∈ X.fs) → X.s₀.heap.FunFrames X.base l → s.heap.FunFrames X.base l := by
  intro l
  induction l with
  | nil => intro _ _; trivial
  | cons env r ih =>
   intro hs hl
   obtain ⟨hk, ⟨L, o, hf, hn, ho, hd⟩, hr⟩ := hl
   have hL : L ∈ X.fs := hs L (by unfold frs; rw [List.filterMap_cons, hf]; exact List.mem_cons_self)
   obtain ⟨sl, e⟩ := I.base.slot L o ho (I.ok.frf L hL) hL fun z => I.ok.exfs L z hL
   exact ⟨hk, ⟨L, _, hf, hn, e, hd⟩, ih (fun b hb => hs b (by unfold frs; rw [List.filterMap_cons, hf]; exact List.mem_cons_of_mem _ hb)) hr⟩
 exact all X.outer (fun _ hb => hb) I.ok.funs
theorem Inv.stack (I : Inv X pins σ H s) : s.heap.FunFrames X.base X.stack := by
 rcases I.ok.stk with e | ⟨e, hf⟩
 ·rw [e]; exact I.funs
 ·rw [e]
  obtain ⟨m, hn, _⟩ := I.loc
  refine .cons (by rw [I.ok.kind]; decide) hf hn ?_ I.funs
  exact Heap.get?_none_of_le (Nat.le_trans I.ok.bsz I.ok.above)
theorem Inv.stkSub (I : Inv X pins σ H s) : ∀ b ∈ frs X.stack, b ∈ X.env.locals :: X.fs := fun b hb => by
 rcases I.ok.stk with e | ⟨e, hf⟩
 ·rw [e] at hb; exact List.mem_cons_of_mem _ hb
 ·rw [e] at hb
  unfold frs at hb
  rw [List.filterMap_cons, hf] at hb
  exact hb
theorem Inv.stkFree (I : Inv X pins σ H s) : ∀ b ∈ frs X.stack, H b = none := fun b hb => by
 rcases List.mem_cons.mp (I.stkSub b hb) with e | hb
 ·rw [e]; exact I.free
 ·obtain ⟨_, o, ho, _⟩ := I.ok.funs.mem hb
  exact I.base.free b o ho (I.ok.frf b hb) fun z => I.ok.exfs b z hb
theorem Inv.step {g' : Array GenState} {t' : Nat} {d' : Drawn} {ch : List Addr} (I : Inv X pins σ H s)
  (hch : ∀ b ∈ ch, (b ∈ X.ex ∨ X.s₀.heap.objs.size ≤ b) ∧ b ≠ X.env.locals ∧ (∀ x c, X.env.cells.lookup x = some c → c ≠ b) ∧ ∀ p ∈ X.pn ++ pins, p.1 ≠ b)
  (keep : ∀ b o, b ≠ X.env.locals → b ∉ X.fs → b ∉ ch → s.heap.get? b = some o → H b = none → h'.get? b = some o)
  (slot : ∀ b o, b ≠ X.env.locals → b ∈ X.fs → b ∉ ch → s.heap.get? b = some o → H b = none → ∃ sl, h'.get? b = some { o with slots := sl }) (free : ∀ b o, b ∉ ch → s.heap.get? b = some o → H b = none → H' b = none)
  (there : ∀ b o, b ∉ ch → s.heap.get? b = some o → ∃ o', h'.get? b = some o')
  (tups : ∀ b xs, H b = some (.tup xs) → H' b = some (.tup xs)) (frzs : ∀ b o u, H b = some (.frz o u) → H' b = some (.frz o u)) (tbls : ∀ b ps, H b = some (.tbl ps) → ∃ more, H' b = some (.tbl (ps ++ more)))
  (ns : ∀ m, s.heap.Ns X.env.locals m → h'.Ns X.env.locals m) (hok : HOk X.prog X.w H' h') (hg : AllBare g') :
  Inv X pins σ H' { s with heap := h', gens := g', drawn := d', toks := t' } := by
 have neL : ∀ b o, X.s₀.heap.get? b = some o → b ≠ X.env.locals := fun b o e => Nat.ne_of_lt (Nat.lt_of_lt_of_le (Heap.lt_size e) I.ok.above)
 have neC : ∀ b o, X.s₀.heap.get? b = some o → b ∉ X.ex → b ∉ ch := fun b o e hx hb => by
  rcases (hch b hb).1 with z | z
  ·exact hx z
  ·exact absurd (Nat.lt_of_lt_of_le (Heap.lt_size e) z) (Nat.lt_irrefl _)
 have cellK : ∀ x c, X.env.cells.lookup x = some c → ∀ v, s.heap.IsCell c v → h'.IsCell c v := fun x c e v ⟨o, ho, hd⟩ => by
  have nch : c ∉ ch := fun z => (hch c z).2.2.1 x c e rfl
  by_cases hc : c ∈ X.fs
  ·obtain ⟨sl, q⟩ := slot c o (I.cne x c e) hc nch ho (I.freeC x c e)
   exact ⟨_, q, hd⟩
  ·exact ⟨o, keep c o (I.cne x c e) hc nch ho (I.freeC x c e), hd⟩
 refine ⟨I.ok, I.os, hg, ⟨fun b o e n hb hx => ?_, fun b o e n hb hx => ?_, fun b o e n hx => ?_, fun b o e hx => ?_, fun b xs e => tups b xs (I.base.tups b xs e), fun b o xs e => frzs b o xs (I.base.frzs b o xs e), fun b ps e => ?_⟩, ?_, fun x c e => ?_, ?_, fun x c e => ?_, fun p hp => ?_, hok, I.len⟩
 ·exact keep b o (neL b o e) hb (neC b o e hx) (I.base.keep b o e n hb hx) (I.base.free b o e n hx)
 ·obtain ⟨sl, e1⟩ := I.base.slot b o e n hb hx
  obtain ⟨sl', e2⟩ := slot b _ (neL b o e) hb (neC b o e hx) e1 (I.base.free b o e n hx)
  exact ⟨sl', e2⟩
 ·obtain ⟨o', e1⟩ := I.base.there b o e hx
  exact free b o' (neC b o e hx) e1 (I.base.free b o e n hx)
 ·obtain ⟨o', e1⟩ := I.base.there b o e hx
  exact there b o' (neC b o e hx) e1
 ·obtain ⟨m1, e1⟩ := I.base.tbls b ps e
  obtain ⟨m2, e2⟩ := tbls b _ e1
  exact ⟨m1 ++ m2, by rw [e2, Array.append_assoc]⟩
 ·obtain ⟨m, hn, hl⟩ := I.loc
  refine ⟨m, ns m hn, fun i x v e1 e2 e3 => ?_⟩
  obtain ⟨u, r, l⟩ := hl i x v e1 e2 e3
  refine ⟨u, r, ?_⟩
  rcases l with l | ⟨k, c, e, z⟩
  ·exact .inl l
  ·exact .inr ⟨k, c, e, cellK x c e _ z⟩
 ·obtain ⟨v, z⟩ := I.cell x c e
  exact ⟨v, cellK x c e v z⟩
 ·obtain ⟨m, ⟨o, _, _, ho, _⟩, _⟩ := I.loc
  exact free _ o (fun z => (hch _ z).2.1 rfl) ho I.free
 ·obtain ⟨v, o, ho, hd⟩ := I.cell x c e
  exact free c o (fun z => (hch c z).2.2.1 x c e rfl) ho (I.freeC x c e)
 ·obtain ⟨e, n, ne, nf, d⟩ := I.pin p hp
  have nch : p.1 ∉ ch := fun z => (hch p.1 z).2.2.2 p hp rfl
  exact ⟨keep p.1 p.2 ne nf nch e n, free p.1 p.2 nch e n, ne, nf, d⟩
theorem Inv.un {t' : Nat} (I : Inv X pins σ H s) (u : Un X.fs [] H H' s.heap h') (hok : HOk X.prog X.w H' h') : Inv X pins σ H' { s with heap := h', toks := t' } := by
 obtain ⟨m, ⟨o, es, ep, ho, r⟩, _⟩ := id I.loc
 obtain ⟨sl, hL⟩ := u.any ho I.free (by simp)
 exact I.step (g' := s.gens) (d' := s.drawn) (ch := []) (fun _ z => nomatch z) (fun b o _ hb _ e n => u.keep b o e n hb (by simp)) (fun b o _ hb _ e n => u.slot b o e n hb (by simp)) (fun b o _ e n => u.free b o e n (by simp)) (fun b o _ e => u.there b o e (by simp)) u.tups u.frzs u.tbls (fun m' hm => by
  obtain ⟨o', es', ep', ho', r'⟩ := hm
  rw [ho] at ho'; cases ho'
  exact ⟨_, es', ep', hL, r'⟩) hok I.bare
theorem Inv.call {g' : Array GenState} {t' : Nat} {d' : Drawn} {ch : List Addr} (I : Inv X pins σ H s) (u : Un (frs X.stack) ch H H' s.heap h') (hok : HOk X.prog X.w H' h') (hg : AllBare g')
  (hch : ∀ b ∈ ch, (b ∈ X.ex ∨ X.s₀.heap.objs.size ≤ b) ∧ b ≠ X.env.locals ∧ (∀ x c, X.env.cells.lookup x = some c → c ≠ b) ∧ ∀ p ∈ X.pn ++ pins, p.1 ≠ b) :
  Inv X pins σ H' { s with heap := h', gens := g', drawn := d', toks := t' } := by
 obtain ⟨m, ⟨o, es, ep, ho, r⟩, _⟩ := id I.loc
 obtain ⟨sl, hL⟩ := u.any ho I.free fun z => (hch _ z).2.1 rfl
 exact I.step (ch := ch) hch (fun b o hL hb hc e n => u.keep b o e n (fun z => (List.mem_cons.mp (I.stkSub b z)).elim hL hb) hc) (fun b o _ _ hc e n => u.any e n hc) (fun b o hc e n => u.free b o e n hc) (fun b o hc e => u.there b o e hc) u.tups u.frzs u.tbls (fun m' hm => by
  obtain ⟨o', es', ep', ho', r'⟩ := hm
  rw [ho] at ho'; cases ho'
  exact ⟨_, es', ep', hL, r'⟩) hok hg
theorem Inv.turned {t' : Nat} {it : Addr} (I : Inv X pins σ H s) (k : ∀ b o, b ≠ it → s.heap.get? b = some o → h'.get? b = some o) (hn : H it = none) (hL : it ≠ X.env.locals)
  (h1 : it ∈ X.ex ∨ X.s₀.heap.objs.size ≤ it) (h2 : ∀ x c, X.env.cells.lookup x = some c → c ≠ it) (h3 : ∀ p ∈ X.pn ++ pins, p.1 ≠ it) : Inv X pins σ H { s with heap := h', toks := t' } := by
 have nit : ∀ b u, H b = some u → b ≠ it := fun b u e z => by rw [z, hn] at e; cases e
 refine I.step (g' := s.gens) (d' := s.drawn) (ch := [it]) (fun b hb => ?_) (fun b o _ _ hc e _ => k b o (fun z => hc (by simp [z])) e) (fun b o _ _ hc e _ => ⟨o.slots, k b o (fun z => hc (by simp [z])) e⟩) (fun _ _ _ _ n => n)
  (fun b o hc e => ⟨o, k b o (fun z => hc (by simp [z])) e⟩) (fun _ _ e => e) (fun _ _ _ e => e) (fun b ps e => ⟨#[], by rw [e]; simp⟩) (fun m hm => ?_) (fun b u e => ?_) I.bare
 ·have e : b = it := by simpa using hb
  subst e
  exact ⟨h1, hL, h2, h3⟩
 ·obtain ⟨o, es, ep, ho, r⟩ := hm
  exact ⟨o, es, ep, k _ o (Ne.symm hL) ho, r⟩
 ·refine (I.hok b u e).stay (fun c v hc q => k c v ?_ q) (fun _ q => q) fun _ _ q => q
  rcases hc with z | z
  ·rw [z]; exact nit b u e
  ·exact nit c _ z
theorem Inv.tok (I : Inv X pins σ H s) (t : Nat) : Inv X pins σ H { s with toks := t } := I.un (h' := s.heap) (t' := t) Un.refl I.hok
theorem Inv.kept {t' : Nat} (I : Inv X pins σ H s) (k : ∀ b u, s.heap.get? b = some u → h'.get? b = some u) : Inv X pins σ H { s with heap := h', toks := t' } := I.un (Un.kept k) (I.hok.kept k)
theorem Inv.laid {a : Addr} {o : HO} {t' : Nat} (I : Inv X pins σ H s) (k : ∀ b u, s.heap.get? b = some u → h'.get? b = some u) (hp : s.heap.objs.size ≤ a) (new : cW X.prog X.w (upd H a o) h' a o) :
  Inv X pins σ (upd H a o) { s with heap := h', toks := t' } := I.un (Un.laid k hp (I.hok.fresh hp)) (I.hok.laid k hp new)
theorem Inv.write {x e : Addr} {o : HO} {t' : Nat} (I : Inv X pins σ H s) (mu : Mut (H x)) (he : e = x ∨ H e = some (.own x)) (k : ∀ b u, b ≠ e → s.heap.get? b = some u → h'.get? b = some u) (heo : ∃ u, h'.get? e = some u)
  (new : cW X.prog X.w (upd H x o) h' x o) : Inv X pins σ (upd H x o) { s with heap := h', toks := t' } := I.un (Un.write mu he k heo) (I.hok.write mu he k heo new)
theorem Inv.weak {σ' : List (Option V)} (I : Inv X pins σ H s) (hl : σ'.length = σ.length) (w : ∀ (i : Nat) v, σ'[i]? = some (some v) → σ[i]? = some (some v)) : Inv X pins σ' H s :=
 ⟨I.ok, I.os, I.bare, I.base, let ⟨m, hn, hl'⟩ := I.loc; ⟨m, hn, fun i x v e1 e2 e3 => hl' i x v e1 (w i v e2) e3⟩, I.cell, I.free, I.freeC, I.pin, I.hok, hl.trans I.len⟩
theorem Inv.pins_of {pins' : List (Addr × Obj)} (I : Inv X pins σ H s) (h : ∀ p ∈ pins', s.heap.get? p.1 = some p.2 ∧ H p.1 = none ∧ p.1 ≠ X.env.locals ∧ p.1 ∉ X.fs ∧ ∀ v, p.2.data ≠ .cell v) : Inv X pins' σ H s :=
 ⟨I.ok, I.os, I.bare, I.base, I.loc, I.cell, I.free, I.freeC, fun p hp => (List.mem_append.mp hp).elim (fun z => I.pin p (List.mem_append_left _ z)) (h p), I.hok, I.len⟩
theorem yN {N : List Str} (hN : N.Nodup) {i j : Nat} {x : Str} (a : N[i]? = some x) (b : N[j]? = some x) : i = j := by
 obtain ⟨h1, e1⟩ := List.getElem?_eq_some_iff.mp a
 obtain ⟨h2, e2⟩ := List.getElem?_eq_some_iff.mp b
 exact (List.getElem_inj hN).mp (e1.trans e2.symm)
theorem aCS {M : Model} {A : Around} {E : Value → Shared → Prop} {i : Nat} {x : Str} {v : V} {u : Value} {Q : Unit → Shared → Prop} (I : Inv X pins σ H s) (hN : X.N.Nodup) (hi : X.N[i]? = some x) (hx : Loc X.env.scope x) (r : bI v u)
  (h : ∀ s', Inv X pins (σ.set i (some v)) H s' → (∃ a, Heap.SameBut a s.heap s'.heap ∧ (a = X.env.locals ∨ X.env.cells.lookup x = some a)) → Q () s') (hf : X.fn x = true ∨ X.env.scope.names.lookup x = some .local := by first | exact .inl rfl | exact .inr rfl | assumption) : wpAny M A (storeName X.env x u) Q E s := by
 obtain ⟨m, hn, hl⟩ := id I.loc
 have hcls : (X.env.scope.kind == .class || (X.env.scope.kind == .module && X.env.locals != X.env.globals)) = false := by rw [I.ok.kind]; rfl
 have hiσ : i < σ.length := by rw [I.len]; exact (List.getElem?_eq_some_iff.mp hi).1
 have cne := I.cne
 have tracked : ∀ {a : Addr} {h' : Heap}, (∃ o, s.heap.get? a = some o ∧ H a = none) → Heap.SameBut a s.heap h' → HOk X.prog X.w H h' := fun {a h'} ha hs b ob e => by
  obtain ⟨_, _, hfree⟩ := ha
  refine (I.hok b ob e).stay (fun c w' hc q => (hs.2 c ?_).trans q) (fun _ q => q) fun _ _ q => q
  rintro rfl
  rcases hc with rfl | hc
  ·rw [hfree] at e; cases e
  ·rw [hfree] at hc; cases hc
 rcases hx with hk | hk
 ·refine wpAny_storeName_local hk hn (fun h' hn' hs => ?_) hcls
  obtain ⟨oL, _, _, hoL, _⟩ := id hn
  refine h _ ⟨I.ok, I.os, I.bare, ⟨fun b o e n hb hx => ?_, fun b o e n hb hx => ?_, I.base.free, fun b o e hx => ?_, I.base.tups, I.base.frzs, I.base.tbls⟩, ⟨_, hn', fun j y v' e1 e2 e3 => ?_⟩, fun y c e => ?_, I.free, I.freeC, fun p hp => ?_, tracked ⟨oL, hoL, I.free⟩ hs, by simpa using I.len⟩ ⟨_, hs, .inl rfl⟩
  ·exact (hs.2 b (Nat.ne_of_lt (Nat.lt_of_lt_of_le (Heap.lt_size e) I.ok.above))).trans (I.base.keep b o e n hb hx)
  ·obtain ⟨sl, e1⟩ := I.base.slot b o e n hb hx
   exact ⟨sl, (hs.2 b (Nat.ne_of_lt (Nat.lt_of_lt_of_le (Heap.lt_size e) I.ok.above))).trans e1⟩
  ·obtain ⟨o', e1⟩ := I.base.there b o e hx
   exact ⟨o', (hs.2 b (Nat.ne_of_lt (Nat.lt_of_lt_of_le (Heap.lt_size e) I.ok.above))).trans e1⟩
  ·by_cases hj : j = i
   ·subst hj
    rw [hi] at e1; cases e1
    rw [List.getElem?_set_self hiσ] at e2
    cases e2
    exact ⟨u, r, .inl ⟨hk, by simp⟩⟩
   ·rw [List.getElem?_set_ne (Ne.symm hj)] at e2
    obtain ⟨u', r', q⟩ := hl j y v' e1 e2 e3
    refine ⟨u', r', ?_⟩
    rcases q with ⟨k, e⟩ | ⟨k, c, e, z⟩
    ·refine .inl ⟨k, ?_⟩
     have : y ≠ x := fun e => hj (yN hN e1 (e ▸ hi))
     simp [this, e]
    ·exact .inr ⟨k, c, e, z.sameBut hs (cne y c e)⟩
  ·obtain ⟨w', z⟩ := I.cell y c e
   exact ⟨w', z.sameBut hs (cne y c e)⟩
  ·obtain ⟨e, n, ne, nf, d⟩ := I.pin p hp
   exact ⟨(hs.2 p.1 ne).trans e, n, ne, nf, d⟩
 ·have hfn : X.fn x = true := by
   rcases hf with z | z
   ·exact z
   ·rw [z] at hk; cases hk
  obtain ⟨c, hc⟩ := I.ok.has x (.inl hk)
  obtain ⟨w', z⟩ := I.cell x c hc
  refine wpAny_storeName_cell I.ok.kind hk hc z (fun h' hc' hs => ?_)
  obtain ⟨oc, hoc, hocd⟩ := id z
  refine h { s with heap := h' } ⟨I.ok, I.os, I.bare, ⟨fun b o e n hb hx => ?_, fun b o e n hb hx => ?_, I.base.free, fun b o e hx => ?_, I.base.tups, I.base.frzs, I.base.tbls⟩, ⟨m, hn.sameBut hs (Ne.symm (cne x c hc)), fun j y v' e1 e2 e3 => ?_⟩, fun y c' e => ?_, I.free, I.freeC, fun p hp => ?_, tracked ⟨oc, hoc, I.freeC x c hc⟩ hs, by simpa using I.len⟩ ⟨c, hs, .inr hc⟩
  ·exact (hs.2 b (Nat.ne_of_lt (Nat.lt_of_lt_of_le (Heap.lt_size e) (I.ok.cab x c hfn hc)))).trans (I.base.keep b o e n hb hx)
  ·obtain ⟨sl, e1⟩ := I.base.slot b o e n hb hx
   exact ⟨sl, (hs.2 b (Nat.ne_of_lt (Nat.lt_of_lt_of_le (Heap.lt_size e) (I.ok.cab x c hfn hc)))).trans e1⟩
  ·obtain ⟨o', e1⟩ := I.base.there b o e hx
   exact ⟨o', (hs.2 b (Nat.ne_of_lt (Nat.lt_of_lt_of_le (Heap.lt_size e) (I.ok.cab x c hfn hc)))).trans e1⟩
  ·by_cases hj : j = i
   ·subst hj
    rw [hi] at e1; cases e1
    rw [List.getElem?_set_self hiσ] at e2
    cases e2
    exact ⟨u, r, .inr ⟨.inl hk, c, hc, hc'⟩⟩
   ·rw [List.getElem?_set_ne (Ne.symm hj)] at e2
    obtain ⟨u', r', q⟩ := hl j y v' e1 e2 e3
    refine ⟨u', r', ?_⟩
    rcases q with q | ⟨k, c', e, z'⟩
    ·exact .inl q
    ·refine .inr ⟨k, c', e, z'.sameBut hs ?_⟩
     rintro rfl
     exact hj (yN hN e1 (I.ok.inj _ _ _ e hc ▸ hi))
  ·by_cases hcc : c' = c
   ·subst hcc; exact ⟨_, hc'⟩
   ·obtain ⟨w2, z2⟩ := I.cell y c' e
    exact ⟨w2, z2.sameBut hs hcc⟩
  ·obtain ⟨e, n, ne, nf, d⟩ := I.pin p hp
   refine ⟨(hs.2 p.1 ?_).trans e, n, ne, nf, d⟩
   intro q
   rw [q, hoc] at e
   have q' : oc = p.2 := Option.some.inj e
   exact d w' (by rw [← q']; exact hocd)
theorem xP {M : Model} {A : Around} {E : Value → Shared → Prop} {i : Nat} {x : Str} {v : V} {u : Value} {Q : Unit → Shared → Prop} (I : Inv X pins σ H s) (hN : X.N.Nodup) (hi : X.N[i]? = some x) (hx : Loc X.env.scope x) (r : bI v u)
  (h : ∀ s', Inv X pins (σ.set i (some v)) H s' → Q () s') (hf : X.fn x = true ∨ X.env.scope.names.lookup x = some .local := by first | exact .inl rfl | exact .inr rfl | assumption) : wpAny M A (storeName X.env x u) Q E s :=
 aCS I hN hi hx r (fun s' I' _ => h s' I') hf
theorem Inv.call' {s' : Shared} {ch : List Addr} (I : Inv X pins σ H s) (ho : s'.os = s.os) (u : Un (frs X.stack) ch H H' s.heap s'.heap) (hok : HOk X.prog X.w H' s'.heap) (hg : AllBare s'.gens)
  (hch : ∀ b ∈ ch, (b ∈ X.ex ∨ X.s₀.heap.objs.size ≤ b) ∧ b ≠ X.env.locals ∧ (∀ x c, X.env.cells.lookup x = some c → c ≠ b) ∧ ∀ p ∈ X.pn ++ pins, p.1 ≠ b) : Inv X pins σ H' s' := by
 obtain ⟨h', g', d', t', o'⟩ := s'
 have e : o' = s.os := ho
 subst e
 exact I.call (g' := g') (t' := t') (d' := d') u hok hg hch
end
abbrev XK := Value → Option Addr → Hp → Prop
abbrev St := List (Option V)
abbrev VK := V → Hp → Prop
abbrev TE := St → Hp → VK → Prop
abbrev TT := St → Hp → (Bool → Hp → Prop) → Prop
abbrev TA := St → Hp → (List V → Hp → Prop) → Prop
structure Ends where
 nx : St → Hp → Prop
 rt : VK
 bk : St → Hp → Prop := fun _ _ => False
 ct : St → Hp → Prop := fun _ _ => False
abbrev TS := Ends → St → Hp → Prop
def EP (X : Cx) (pins : List (Addr × Obj)) (σ : St) (Q : VK) (u : Value) (s' : Shared) : Prop := ∃ v H', Inv X pins σ H' s' ∧ bI v u ∧ Q v H'
def TP (X : Cx) (pins : List (Addr × Obj)) (σ : St) (Q : Bool → Hp → Prop) (b : Bool) (s' : Shared) : Prop := ∃ H', Inv X pins σ H' s' ∧ Q b H'
def AP (X : Cx) (pins : List (Addr × Obj)) (σ : St) (Q : List V → Hp → Prop) (us : List Value) (s' : Shared) : Prop := ∃ vs H', Inv X pins σ H' s' ∧ bK vs us ∧ Q vs H'
def SP (X : Cx) (pins : List (Addr × Obj)) (D : Ends) (f : Flow) (s' : Shared) : Prop :=
 match f with
 | .next => ∃ σ' H', Inv X pins σ' H' s' ∧ D.nx σ' H'
 | .brk => ∃ σ' H', Inv X pins σ' H' s' ∧ D.bk σ' H'
 | .cont => ∃ σ' H', Inv X pins σ' H' s' ∧ D.ct σ' H'
 | .ret u => ∃ v σ' H', Inv X pins σ' H' s' ∧ bI v u ∧ D.rt v H'
def PE (X : Cx) (e : Expr) (t : TE) : Prop :=
 ∀ (pins : List (Addr × Obj)) (s : Shared) (σ : St) (H : Hp) (Q : VK), Inv X pins σ H s → t σ H Q → wpAny (model X.prog X.w) X.A (eval e X.env) (EP X pins σ Q) X.xe s
def PT (X : Cx) (e : Expr) (t : TT) : Prop :=
 ∀ (pins : List (Addr × Obj)) (s : Shared) (σ : St) (H : Hp) (Q : Bool → Hp → Prop), Inv X pins σ H s → t σ H Q → wpAny (model X.prog X.w) X.A (isTrue e X.env (eval e X.env)) (TP X pins σ Q) X.xe s
def PW (X : Cx) (e : Expr) (t : TT) : Prop :=
 ∀ (whole : Sem Value) (pins : List (Addr × Obj)) (s : Shared) (σ : St) (H : Hp) (Q : Bool → Hp → Prop), Inv X pins σ H s → t σ H Q → wpAny (model X.prog X.w) X.A (isTrue e X.env whole) (TP X pins σ Q) X.xe s
theorem PW.pt {X : Cx} {e : Expr} {t : TT} (h : PW X e t) : PT X e t := h _
def PA (X : Cx) (es : List Expr) (t : TA) : Prop :=
 ∀ (pos : Pos) (pins : List (Addr × Obj)) (s : Shared) (σ : St) (H : Hp) (Q : List V → Hp → Prop), Inv X pins σ H s → t σ H Q → wpAny (model X.prog X.w) X.A (spliced (backTo pos (starEach es X.env))) (AP X pins σ Q) X.xe s
def PS (X : Cx) (st : Stmt) (t : TS) : Prop :=
 ∀ (pins : List (Addr × Obj)) (s : Shared) (σ : St) (H : Hp) (D : Ends), Inv X pins σ H s → t D σ H → wpAny (model X.prog X.w) X.A (exec st X.env) (SP X pins D) X.xe s
def PSs (X : Cx) (st : List Stmt) (t : TS) : Prop :=
 ∀ (pins : List (Addr × Obj)) (s : Shared) (σ : St) (H : Hp) (D : Ends), Inv X pins σ H s → t D σ H → wpAny (model X.prog X.w) X.A (execs st X.env) (SP X pins D) X.xe s
theorem thn {α : Type} {t : Sem α} {Q Q' : α → Shared → Prop} {M : Model} {A : Around} {E : Value → Shared → Prop} {s : Shared} (h : wpAny M A t Q E s) (hQ : ∀ a s, Q a s → Q' a s) : wpAny M A t Q' E s := wpAny_mono h hQ fun _ _ x => x
end L2
namespace L2
open PySem PySem.Spec PyProof.Rows
section
variable {X : Cx}
def aLG (i : Nat) : TE := fun σ H Q => ∃ v, σ[i]? = some (some v) ∧ Q v H
def tC (v : V) : TE := fun _ H Q => Q v H
theorem aKD {i : Nat} {x : Str} {pos : Pos} (hN : X.N[i]? = some x) (hv : Vis X.env.scope x) (hd : (x == ("__debug__" : Str)) = false := by decide) (hcd : (x == ("__classdict__" : Str)) = false := by decide) : PE X (.Name x pos) (aLG i) := by
 intro pins s σ H Q I h
 obtain ⟨v, e, h⟩ := h
 obtain ⟨m, hn, hl⟩ := I.loc
 obtain ⟨u, r, l⟩ := hl i x v hN e hv
 have fin : EP X pins σ Q u s := ⟨v, H, I, r, h⟩
 rcases l with ⟨hk, hm⟩ | ⟨hk, c, hc, hcell⟩
 ·exact wpAny_Name (wpAny_loadName_local I.ok.kind hk hn hm fin) hd
 ·rcases hk with hk | hk
  ·exact wpAny_Name (wpAny_loadName_cell I.ok.kind hk hc hcell fin) hd
  ·exact wpAny_Name (wpAny_loadName_free I.ok.kind hk hc hcell fin hcd) hd
theorem aE {i j pos} : PE X (.Constant (.int i) j pos) (tC (.int i)) := fun _ _ _ H _ I h => wpAny_Constant_int ⟨.int i, H, I.tok _, ⟨_, rfl⟩, h⟩
theorem mZ {b j pos} : PE X (.Constant (.bool b) j pos) (tC (.bl b)) := fun _ _ _ H _ I h => Constant_bool ⟨.bl b, H, I, rfl, h⟩
theorem eZ {j pos} : PE X (.Constant .none j pos) (tC .non) := fun _ _ _ H _ I h => Constant_none ⟨.non, H, I, rfl, h⟩
theorem cJ {x j pos} : PE X (.Constant (.str x) j pos) (tC (.str x)) := fun _ _ _ H _ I h => Calls.Constant_str ⟨.str x, H, I.tok _, ⟨_, rfl⟩, h⟩
def Gl (X : Cx) (x : Str) : Prop := X.env.kindOf x = some .globalImplicit
theorem wW {E : Value → Shared → Prop} {pins : List (Addr × Obj)} {s : Shared} {σ : St} {H : Hp} {x : Str} {u : Value} {pos : Pos} {Q : Value → Shared → Prop} (I : Inv X pins σ H s) (hg : Gl X x) (hm : X.mg x = some u) (h : Q u s)
  (hd : (x == ("__debug__" : Str)) = false := by decide) : wpAny (model X.prog X.w) X.A (eval (.Name x pos) X.env) Q E s :=
 Calls.Name_function_global I.ok.kind hg (Calls.loadGlobal_global (by rw [I.ok.glob]; exact I.mod.glob.keeps I.bk) hm h) hd
theorem qA {E : Value → Shared → Prop} {pins : List (Addr × Obj)} {s : Shared} {σ : St} {H : Hp} {x : Str} {u : Value} {pos : Pos} {Q : Value → Shared → Prop} (I : Inv X pins σ H s) (hg : Gl X x) (hm : X.mg x = none) (hv : bootBuiltins x = some u) (h : Q u s)
  (hn : x ≠ "__name__" := by decide) (hd : (x == ("__debug__" : Str)) = false := by decide) : wpAny (model X.prog X.w) X.A (eval (.Name x pos) X.env) Q E s := by
 obtain ⟨mb, h1, h2⟩ := I.mod.blt
 exact Calls.Name_function_global I.ok.kind hg (Calls.loadGlobal_builtin (by rw [I.ok.glob]; exact I.mod.glob.keeps I.bk) hm (by rw [I.ok.blt]; exact h1.keeps I.bk) ((h2 x hn).trans hv) h) hd
theorem rT {x : Str} {v : V} {u : Value} {pos : Pos} (hg : Gl X x) (hm : X.mg x = some u) (r : bI v u) (hd : (x == ("__debug__" : Str)) = false := by decide) : PE X (.Name x pos) (tC v) :=
 fun _ _ _ H _ I h => wW I hg hm ⟨v, H, I, r, h⟩ hd
theorem aHZ {x : Str} {v : V} {u : Value} {pos : Pos} (hg : Gl X x) (hm : X.mg x = none) (hv : bootBuiltins x = some u) (r : bI v u) (hn : x ≠ "__name__" := by decide) (hd : (x == ("__debug__" : Str)) = false := by decide) : PE X (.Name x pos) (tC v) :=
 fun _ _ _ H _ I h => qA I hg hm hv ⟨v, H, I, r, h⟩ hn hd
def t2I (ta tb : TE) (k : Int → Int → Hp → Prop) : St → Hp → Prop := fun σ H => ta σ H fun x H1 => tb σ H1 fun y H2 => ∃ i j, x = .int i ∧ y = .int j ∧ k i j H2
variable {a b : Expr} {ta tb : TE} {pos : Pos}
def PC (X : Cx) (op : CmpOp) (a b : Expr) (t : TE) : Prop :=
 ∀ (pins : List (Addr × Obj)) (s : Shared) (σ : St) (H : Hp) (Q : VK), Inv X pins σ H s → t σ H Q →
  wpAny (model X.prog X.w) X.A (eval a X.env) (fun v s₁ => wpAny (model X.prog X.w) X.A (eval b X.env) (fun u s₂ => wpAny (model X.prog X.w) X.A (compareOp op v u) (EP X pins σ Q) X.xe s₂) X.xe s₁) X.xe s
def tCmp (p : Int → Int → Bool) (ta tb : TE) : TE := fun σ H Q => t2I ta tb (fun i j H2 => Q (.bl (p i j)) H2) σ H
def tB (t : TE) : TT := fun σ H Q => t σ H fun x H1 => ∃ c, x = .bl c ∧ Q c H1
theorem aFL {op : CmpOp} {t : TE} (h : PC X op a b t) (h1 : behindInMarks op b = false := by first | exact nobehind _ (by decide) (by decide) | rfl) : PT X (.Compare a [op] [b] pos) (tB t) := by
 intro pins s σ H Q I hw
 refine wpAny_isTrue_Compare1 (thn (h pins s σ H _ I hw) fun v s1 h1 => thn h1 fun u s2 h2 => thn h2 fun c s3 ⟨x, H1, I1, r1, q1⟩ => ?_) h1
 obtain ⟨d, rfl, q⟩ := q1
 cases r1
 exact wpAny_truthy_bool ⟨H1, I1, q⟩
theorem cN {e : Expr} {t : TE} (h : PE X e t) (he : ∀ whole, isTrue e X.env whole = (do let v ← whole; standAt e.pos; holding [v] (truthy v)) := by intro _; rfl) : PT X e (tB t) := by
 intro pins s σ H Q I hw
 refine isTrue_plain (thn (h pins s σ H _ I hw) fun v s1 ⟨x, H1, I1, r1, q1⟩ => ?_) (he _)
 obtain ⟨d, rfl, q⟩ := q1
 cases r1
 exact wpAny_truthy_bool ⟨H1, I1, q⟩
variable {tA tB' : TT} {rE : List Expr}
def aNG (t u : TT) : TT := fun σ H Q => t σ H fun c H1 => if c = true then u σ H1 Q else Q false H1
def tOr (t u : TT) : TT := fun σ H Q => t σ H fun c H1 => if c = true then Q true H1 else u σ H1 Q
def aNA (t : TT) : TT := fun σ H Q => t σ H fun c H1 => Q (!c) H1
theorem lT (ha : PT X a tA) : PW X (.BoolOp .And [a] pos) tA := by
 intro wh pins s σ H Q I h
 refine isTrue_and (thn (ha pins s σ H Q I h) fun c s1 e => ?_)
 cases c with
 | true => exact isTrue_and_nil e
 | false => exact e
theorem kS (ha : PT X a tA) : PW X (.BoolOp .Or [a] pos) tA := by
 intro wh pins s σ H Q I h
 refine isTrue_or (thn (ha pins s σ H Q I h) fun c s1 e => ?_)
 cases c with
 | false => exact isTrue_or_nil e
 | true => exact e
theorem oM (ha : PT X a tA) (hb : PW X (.BoolOp .And (b :: rE) pos) tB') : PW X (.BoolOp .And (a :: b :: rE) pos) (aNG tA tB') := by
 intro wh pins s σ H Q I h
 refine isTrue_and (thn (ha pins s σ H _ I h) fun c s1 ⟨H1, I1, q1⟩ => ?_)
 cases c with
 | true => exact hb wh pins s1 σ H1 Q I1 q1
 | false => exact ⟨H1, I1, q1⟩
theorem kJ (ha : PT X a tA) (hb : PW X (.BoolOp .Or (b :: rE) pos) tB') : PW X (.BoolOp .Or (a :: b :: rE) pos) (tOr tA tB') := by
 intro wh pins s σ H Q I h
 refine isTrue_or (thn (ha pins s σ H _ I h) fun c s1 ⟨H1, I1, q1⟩ => ?_)
 cases c with
 | true => exact ⟨H1, I1, q1⟩
 | false => exact hb wh pins s1 σ H1 Q I1 q1
theorem dP (ha : PT X a tA) : PT X (.UnaryOp .Not a pos) (aNA tA) := by
 intro pins s σ H Q I h
 exact isTrue_not (ha pins s σ H (fun c H1 => Q (!c) H1) I h)
def aLP (ta tb : TE) : TE := fun σ H Q => ta σ H fun x H1 => ∃ c, x = .bl c ∧ if c = true then tb σ H1 Q else Q (.bl false) H1
def aMZ (ta tb : TE) : TE := fun σ H Q => ta σ H fun x H1 => ∃ c, x = .bl c ∧ if c = true then Q (.bl true) H1 else tb σ H1 Q
def aLJ (ta : TE) : TE := fun σ H Q => ta σ H fun x H1 => ∃ c, x = .bl c ∧ Q (.bl (!c)) H1
theorem dJ {op} {t : TE} (h : PE X a t) : PE X (.BoolOp op [a] pos) t := fun pins s σ H Q I hw => BoolOp_one (h pins s σ H Q I hw)
theorem cK (ha : PE X a ta) (hb : PE X (.BoolOp .And (b :: rE) pos) tb) : PE X (.BoolOp .And (a :: b :: rE) pos) (aLP ta tb) := by
 intro pins s σ H Q I h
 refine BoolOp_and (thn (ha pins s σ H _ I h) fun v s1 ⟨x, H1, I1, r1, q1⟩ => ?_)
 obtain ⟨c, rfl, q1⟩ := q1
 cases r1
 refine wpAny_truthy_bool ?_
 cases c with
 | true => exact hb pins s1 σ H1 Q I1 q1
 | false => exact ⟨.bl false, H1, I1, rfl, q1⟩
theorem aJH (ha : PE X a ta) (hb : PE X (.BoolOp .Or (b :: rE) pos) tb) : PE X (.BoolOp .Or (a :: b :: rE) pos) (aMZ ta tb) := by
 intro pins s σ H Q I h
 refine BoolOp_or (thn (ha pins s σ H _ I h) fun v s1 ⟨x, H1, I1, r1, q1⟩ => ?_)
 obtain ⟨c, rfl, q1⟩ := q1
 cases r1
 refine wpAny_truthy_bool ?_
 cases c with
 | false => exact hb pins s1 σ H1 Q I1 q1
 | true => exact ⟨.bl true, H1, I1, rfl, q1⟩
theorem aKE (ha : PE X a ta) : PE X (.UnaryOp .Not a pos) (aLJ ta) := by
 intro pins s σ H Q I h
 refine UnaryOp_ (thn (ha pins s σ H _ I h) fun v s1 ⟨x, H1, I1, r1, q1⟩ => ?_)
 obtain ⟨c, rfl, q1⟩ := q1
 cases r1
 exact not_of (wpAny_truthy_bool ⟨.bl (!c), H1, I1, rfl, q1⟩)
def tIf (t : TT) (ta tb : TE) : TE := fun σ H Q => t σ H fun c H1 => if c = true then ta σ H1 Q else tb σ H1 Q
theorem aFQ {c : Expr} (hc : PT X c tA) (ha : PE X a ta) (hb : PE X b tb) : PE X (.IfExp c a b pos) (tIf tA ta tb) := by
 intro pins s σ H Q I h
 refine wpAny_IfExp (thn (hc pins s σ H _ I h) fun d s1 ⟨H1, I1, q1⟩ => ?_)
 cases d with
 | true => exact ha pins s1 σ H1 Q I1 q1
 | false => exact hb pins s1 σ H1 Q I1 q1
end
end L2
namespace L2
open PySem PySem.Spec PyProof.Rows
def SqL (K : PySem.W.Frag) (H : Hp) (a : Addr) (xs : List V) : Prop :=
 Rd H a (.lst xs) ∨
  ∃ (o : Obj) (its : Array Value) (n : Nat), K.lookup a = some o ∧ o.cls = .type "list" ∧ o.dict = none ∧ o.data = .seq its n ∧ its.size ≤ sizeLine ∧ bK xs its.toList
def SqT (K : PySem.W.Frag) (H : Hp) (a : Addr) (xs : List V) : Prop :=
 Rd H a (.tup xs) ∨
  ∃ (o : Obj) (its : Array Value) (n : Nat), K.lookup a = some o ∧ o.cls = .type "tuple" ∧ o.data = .seq its n ∧ its.size ≤ sizeLine ∧ bK xs its.toList
def aNY : Value → Option V
 | .none => some .non
 | .bool b => some (.bl b)
 | .int i _ => some (.int i)
 | .str x _ => some (.str x)
 | .bytes b _ => some (.byt b)
 | .float b _ => some (.flt b)
 | .ref a => some (.ref a)
 | .type n => some (.ty n)
 | _ => none
theorem bI.abs {x : V} {u : Value} (r : bI x u) : aNY u = some x := by
 cases x with
 | non => cases r; rfl
 | bl _ => cases r; rfl
 | int _ => obtain ⟨t, rfl⟩ := r; rfl
 | str _ => obtain ⟨t, rfl⟩ := r; rfl
 | byt _ => obtain ⟨t, rfl⟩ := r; rfl
 | flt _ => obtain ⟨t, rfl⟩ := r; rfl
 | ref _ => cases r; rfl
 | ty _ => cases r; rfl
theorem bI.inj {x y : V} {u : Value} (r : bI x u) (q : bI y u) : x = y := Option.some.inj (r.abs.symm.trans q.abs)
theorem bK.inj : ∀ {xs ys : List V} {us : List Value}, bK xs us → bK ys us → xs = ys
 | _, _, _, .nil, .nil => rfl
 | _, _, _, .cons r t, .cons r' t' => by rw [r.inj r', bK.inj t t']
section
variable {X : Cx} {pins : List (Addr × Obj)} {σ : St} {H : Hp} {s : Shared} {a : Addr} {xs ys : List V}
theorem SqL.of {K : PySem.W.Frag} (h : H a = some (.lst xs)) : SqL K H a xs := .inl (.inl h)
theorem SqT.of {K : PySem.W.Frag} (h : H a = some (.tup xs)) : SqT K H a xs := .inl (.inl h)
theorem Inv.list (I : Inv X pins σ H s) (h : SqL X.K H a xs) : ∃ its : List Value, bK xs its ∧ PlainL s.heap a its.toArray ∧ xs.length ≤ sizeLine := by
 rcases h with h | ⟨o, its, n, hk, hc, hd, hs, hz, r⟩
 ·obtain ⟨z, its, n, r, e⟩ := h.ok I.hok
  exact ⟨its, r, ⟨_, n, e, rfl, rfl, rfl⟩, z⟩
 ·refine ⟨its.toList, r, ⟨o, n, I.kIn a o hk, hc, hd, by simpa using hs⟩, ?_⟩
  have e := r.length
  simp only [Array.length_toList] at e
  omega
theorem Inv.tuple (I : Inv X pins σ H s) (h : SqT X.K H a xs) : ∃ its : List Value, bK xs its ∧ IsTup s.heap a its.toArray ∧ xs.length ≤ sizeLine := by
 rcases h with h | ⟨o, its, n, hk, hc, hs, hz, r⟩
 ·obtain ⟨z, its, r, p⟩ := h.ok I.hok
  exact ⟨its, r, p.tup, z⟩
 ·refine ⟨its.toList, r, ⟨o, I.kIn a o hk, hc, n, by simpa using hs⟩, ?_⟩
  have e := r.length
  simp only [Array.length_toList] at e
  omega
theorem Inv.list_inj (I : Inv X pins σ H s) (h : SqL X.K H a xs) (h' : SqL X.K H a ys) : xs = ys := by
 obtain ⟨its, r, ⟨o, n, e, _, _, d⟩, _⟩ := I.list h
 obtain ⟨its', r', ⟨o', n', e', _, _, d'⟩, _⟩ := I.list h'
 rw [e] at e'; cases e'
 rw [d] at d'
 injection d' with d1 _
 have : its = its' := by simpa using congrArg Array.toList d1
 subst this
 exact r.inj r'
end
abbrev Cx.wish (X : Cx) (E : Value → Shared → Prop) : Cx := { X with xe := E }
abbrev Cx.nox (X : Cx) : Cx := X.wish fun _ _ => False
theorem Cx.Ok.wish {X : Cx} (ok : X.Ok) (E : Value → Shared → Prop) : (X.wish E).Ok :=
 ⟨ok.mod, ok.kind, ok.glob, ok.blt, ok.above, ok.inj, ok.has, ok.cab, ok.hd, ok.frames, ok.stk, ok.exf, ok.bs, ok.bsz, ok.noex, ok.exfs, ok.funs, ok.frf⟩
theorem Cx.Ok.unwish {X : Cx} {E : Value → Shared → Prop} (ok : (X.wish E).Ok) : X.Ok :=
 ⟨ok.mod, ok.kind, ok.glob, ok.blt, ok.above, ok.inj, ok.has, ok.cab, ok.hd, ok.frames, ok.stk, ok.exf, ok.bs, ok.bsz, ok.noex, ok.exfs, ok.funs, ok.frf⟩
section
variable {X : Cx} {pins : List (Addr × Obj)} {σ : St} {H : Hp} {s : Shared} {E : Value → Shared → Prop}
theorem Inv.wish (I : Inv X pins σ H s) (E : Value → Shared → Prop) : Inv (X.wish E) pins σ H s := ⟨I.ok.wish E, I.os, I.bare, I.base, I.loc, I.cell, I.free, I.freeC, I.pin, I.hok, I.len⟩
theorem Inv.unwish (I : Inv (X.wish E) pins σ H s) : Inv X pins σ H s := ⟨I.ok.unwish, I.os, I.bare, I.base, I.loc, I.cell, I.free, I.freeC, I.pin, I.hok, I.len⟩
theorem SP.unwish {D : Ends} {f : Flow} {s' : Shared} (h : SP (X.wish E) pins D f s') : SP X pins D f s' := by
 cases f with
 | next => obtain ⟨σ', H', I, q⟩ := h; exact ⟨σ', H', I.unwish, q⟩
 | brk => obtain ⟨σ', H', I, q⟩ := h; exact ⟨σ', H', I.unwish, q⟩
 | cont => obtain ⟨σ', H', I, q⟩ := h; exact ⟨σ', H', I.unwish, q⟩
 | ret u => obtain ⟨v, σ', H', I, r, q⟩ := h; exact ⟨v, σ', H', I.unwish, r, q⟩
theorem PSs.nox {st : List Stmt} {t : TS} (h : PSs X.nox st t) : PSs X st t := fun pins s σ H D I hw =>
 wpAny_mono (h pins s σ H D (I.wish _) hw) (fun _ _ q => q.unwish) fun _ _ z => False.elim z
end
section
variable {X : Cx} {st : Stmt} {rE : List Stmt} {t u : TS} {e : Expr} {te : TE} {pos : Pos}
def aLK : TS := fun D σ H => D.nx σ H
def aCR (t u : TS) : TS := fun D σ H => t { D with nx := u D } σ H
theorem bE : PSs X [] aLK := fun _ _ σ H _ I h => wpAny_execs_nil ⟨σ, H, I, h⟩
theorem aG (h1 : PS X st t) (h2 : PSs X rE u) : PSs X (st :: rE) (aCR t u) := by
 intro pins s σ H D I h
 refine wpAny_execs_cons (thn (h1 pins s σ H { D with nx := u D } I h) fun f s1 q => ?_)
 cases f with
 | next =>
  obtain ⟨σ', H', I', q⟩ := q
  exact h2 pins s1 σ' H' D I' q
 | ret v => exact q
 | brk => exact q
 | cont => exact q
theorem aH (h1 : PS X st t) : PSs X [st] t := by
 intro pins s σ H D I h
 refine wpAny_execs_cons (thn (h1 pins s σ H D I h) fun f s1 q => ?_)
 cases f with
 | next => exact wpAny_execs_nil q
 | ret v => exact q
 | brk => exact q
 | cont => exact q
theorem Inv.quiet {pins : List (Addr × Obj)} {σ : St} {H : Hp} {s : Shared} (I : Inv X pins σ H s) : interactive X.env = false := by simp [interactive, I.ok.kind]
def aLL (te : TE) : TS := fun D σ H => te σ H fun _ H1 => D.nx σ H1
theorem fR (he : PE X e te) (hs : swapsWith e none pos.line X.env = pure false := by rfl) : PS X (.Expr e pos) (aLL te) := by
 intro pins s σ H D I h
 exact wpAny_Expr_any (thn (he pins s σ H _ I h) fun v s1 ⟨x, H1, I1, r1, q1⟩ => ⟨σ, H1, I1, q1⟩) I.quiet hs
def aMY (te : TE) : TS := fun D σ H => te σ H D.rt
theorem aR (he : PE X e te) : PS X (.Return (some e) pos) (aMY te) := by
 intro pins s σ H D I h
 exact wpAny_Return_some (thn (he pins s σ H _ I h) fun v s1 ⟨x, H1, I1, r1, q1⟩ => ⟨x, σ, H1, I1, r1, q1⟩)
def aJR (c : TT) (t u : TS) : TS := fun D σ H => c σ H fun b H1 => if b = true then t D σ H1 else u D σ H1
theorem cE {c : Expr} {a b : List Stmt} {tc : TT} (hc : PT X c tc) (ha : PSs X a t) (hb : PSs X b u) : PS X (.If c a b pos) (aJR tc t u) := by
 intro pins s σ H D I h
 refine wpAny_If (thn (hc pins s σ H _ I h) fun d s1 ⟨H1, I1, q1⟩ => ?_)
 cases d with
 | true => exact ha pins s1 σ H1 D I1 q1
 | false => exact hb pins s1 σ H1 D I1 q1
def aJQ : TS := fun _ _ _ => False
theorem mV : PS X st aJQ := fun _ _ _ _ _ _ h => h.elim
end
abbrev TG := V → St → Hp → (St → Hp → Prop) → Prop
abbrev TGs := List V → St → Hp → (St → Hp → Prop) → Prop
def PG (X : Cx) (target : Expr) (t : TG) : Prop :=
 ∀ (pins : List (Addr × Obj)) (s : Shared) (σ : St) (H : Hp) (v : V) (u : Value) (Q : St → Hp → Prop), Inv X pins σ H s → bI v u → t v σ H Q →
  wpAny (model X.prog X.w) X.A (assign target X.env u) (fun _ s' => ∃ σ' H', Inv X pins σ' H' s' ∧ Q σ' H') X.xe s
def PGs (X : Cx) (ts : List Expr) (t : TGs) : Prop :=
 ∀ (pins : List (Addr × Obj)) (s : Shared) (σ : St) (H : Hp) (vs : List V) (us : List Value) (Q : St → Hp → Prop), Inv X pins σ H s → bK vs us → t vs σ H Q →
  wpAny (model X.prog X.w) X.A (assignInOrder ((assignEach ts X.env).map (·.2)) us) (fun _ s' => ∃ σ' H', Inv X pins σ' H' s' ∧ Q σ' H') X.xe s
abbrev TSet := V → V → V → Hp → (Hp → Prop) → Prop
abbrev TIp := V → V → Hp → VK → Prop
section
variable {X : Cx} {pos : Pos}
def vM (i : Nat) : TG := fun v σ H Q => Q (σ.set i (some v)) H
theorem aO {i : Nat} {x : Str} (hN : X.N.Nodup) (hi : X.N[i]? = some x) (hx : Loc X.env.scope x) (hf : X.fn x = true ∨ X.env.scope.names.lookup x = some .local := by first | exact .inl rfl | exact .inr rfl | assumption) : PG X (.Name x pos) (vM i) := by
 intro pins s σ H v u Q I r h
 exact wpAny_assign_Name (xP I hN hi hx r (fun s' I' => ⟨_, H, I', h⟩) hf)
def aNT : TGs := fun vs σ H Q => vs = [] ∧ Q σ H
def aMN (t : TG) (u : TGs) : TGs := fun vs σ H Q => ∃ v r, vs = v :: r ∧ t v σ H fun σ' H' => u r σ' H' Q
theorem jG : PGs X [] aNT := by
 intro pins s σ H vs us Q I r h
 obtain ⟨e, h⟩ := h
 subst e
 cases r
 exact assignInOrder_nil ⟨σ, H, I, h⟩
theorem bN {e : Expr} {es : List Expr} {t : TG} {u : TGs} (h1 : PG X e t) (h2 : PGs X es u)
  (hs : (assignEach (e :: es) X.env).map (·.2) = assign e X.env :: (assignEach es X.env).map (·.2) := by rfl) : PGs X (e :: es) (aMN t u) := by
 intro pins s σ H vs us Q I r h
 obtain ⟨v, vr, e1, h⟩ := h
 subst e1
 cases r with
 | cons r rr =>
  rw [hs]
  refine assignInOrder_cons (thn (h1 pins s σ H _ _ _ I r h) fun _ s1 ⟨σ1, H1, I1, q1⟩ => ?_)
  exact h2 pins s1 σ1 H1 _ _ Q I1 rr q1
def aNS (K : PySem.W.Frag) (n : Nat) (t : TGs) : TG := fun v σ H Q => ∃ a xs, v = .ref a ∧ SqT K H a xs ∧ xs.length = n ∧ t xs σ H Q
theorem lX {es : List Expr} {k : Nat} {t : TGs} {n : Nat} (hc : X.calm = true) (h : PGs X es t)
  (hn : (assignEach es X.env).length = n := by rfl) (hst : (assignEach es X.env).findIdx? (·.1) = none := by rfl) : PG X (.Tuple es k pos) (aNS X.K n t) := by
 intro pins s σ H v u Q I r hw
 obtain ⟨a, xs, e1, hq, hl, hw⟩ := hw
 subst e1
 cases r
 obtain ⟨its, rv, ht, hz⟩ := I.tuple hq
 refine assign_Tuple_tuple (I.ok.hd hc) ht (by simp [hn, ← hl, rv.length]) hst fun h' hx => ?_
 have I1 : Inv X pins σ H { s with heap := h' } := I.kept (t' := s.toks) fun b o e => hx b o (Nat.ne_of_lt (Heap.lt_size e)) e
 exact h pins _ σ H xs _ Q I1 (by simpa using rv) hw
def aJV (te : TE) (g : TG) : TS := fun D σ H => te σ H fun x H1 => g x σ H1 D.nx
theorem zR {tg e : Expr} {te : TE} {g : TG} (he : PE X e te) (hg : PG X tg g) (hs : swapsWithSole [tg] e pos.line X.env = pure false := by rfl) (hw : swappedStores [tg] e X.env = pure none := by rfl)
  (h1 : (assignEach [tg] X.env).map (·.2) = [assign tg X.env] := by rfl) : PS X (.Assign [tg] e pos) (aJV te g) := by
 intro pins s σ H D I h
 refine wpAny_Assign_stores (thn (he pins s σ H _ I h) fun v s1 ⟨x, H1, I1, r1, q1⟩ => ?_) hs hw
 rw [h1]
 exact thn (hg pins s1 σ H1 x v _ I1 r1 q1) fun _ s2 q => q
theorem aS {i : Nat} {x : Str} {e : Expr} {te : TE} {pos' : Pos} (hN : X.N.Nodup) (hi : X.N[i]? = some x) (hx : Loc X.env.scope x) (he : PE X e te) (hs : swapsWith e (some (.Name x pos')) pos.line X.env = pure false := by rfl) (hf : X.fn x = true ∨ X.env.scope.names.lookup x = some .local := by first | exact .inl rfl | exact .inr rfl | assumption) :
  PS X (.Assign [.Name x pos'] e pos) (aJV te (vM i)) := by
 intro pins s σ H D I h
 refine wpAny_Assign_Name (thn (he pins s σ H _ I h) fun v s1 ⟨y, H1, I1, r1, q1⟩ => ?_) hs
 exact xP I1 hN hi hx r1 (fun s2 I2 => ⟨_, H1, I2, q1⟩) hf
end
section
variable {X : Cx} {pos : Pos}
def aEM (c : TT) (tb : TS) : TS := fun D σ H => ∃ W : Nat → St → Hp → Prop, (∃ m, W m σ H) ∧ ∀ m σ H, W m σ H →
 c σ H fun b H1 => if b = true then ∃ N : St → Hp → Prop, (∀ σ' H', N σ' H' → ∃ m', m' < m ∧ W m' σ' H') ∧ tb { D with nx := N, ct := N, bk := D.nx } σ H1 else D.nx σ H1
theorem yE {c : Expr} {body : List Stmt} {tc : TT} {tb : TS} (hp : PassesOwn (model X.prog X.w) X.A X.env X.xe) (hc : PT X c tc) (hb : PSs X body tb) : PS X (.While c body [] pos) (aEM tc tb) := by
 intro pins s σ H D I h
 obtain ⟨W, ⟨m0, w0⟩, turn⟩ := h
 refine wpAny_While (codeAny_whileLoop (fun n s' => ∃ σ' H', Inv X pins σ' H' s' ∧ W n σ' H') ?_ m0 ⟨σ, H, I, w0⟩)
 rintro n s1 ⟨σ1, H1, I1, w1⟩
 refine wpAny_passesOwn hp (thn (hc pins s1 σ1 H1 _ I1 (turn n σ1 H1 w1)) fun b s2 ⟨H2, I2, q2⟩ => ?_)
 cases b with
 | true =>
  obtain ⟨N, hN, q2⟩ := q2
  rw [if_pos rfl]
  refine wpAny_passesOwn hp (thn (hb pins s2 σ1 H2 _ I2 q2) fun f s3 q3 => ?_)
  cases f with
  | next =>
   obtain ⟨σ3, H3, I3, n3⟩ := q3
   obtain ⟨m', hm, w3⟩ := hN σ3 H3 n3
   exact ⟨m', hm, σ3, H3, I3, w3⟩
  | cont =>
   obtain ⟨σ3, H3, I3, n3⟩ := q3
   obtain ⟨m', hm, w3⟩ := hN σ3 H3 n3
   exact ⟨m', hm, σ3, H3, I3, w3⟩
  | brk => exact q3
  | ret v => exact q3
 | false =>
  rw [if_neg Bool.false_ne_true]
  exact wpAny_execs_nil ⟨σ1, H2, I2, q2⟩
end
structure It where
 go : Nat → Hp → Prop
 yld : Nat → Hp → V → Hp → Prop
 stop : Nat → Hp → Prop
def xI (X : Cx) (pins : List (Addr × Obj)) (H : Hp) (b : Addr) : Prop :=
 H b = none ∧ b ≠ X.env.locals ∧ b ∉ X.fs ∧ (b ∈ X.ex ∨ X.s₀.heap.objs.size ≤ b) ∧ (∀ x c, X.env.cells.lookup x = some c → c ≠ b) ∧ ∀ p ∈ X.pn ++ pins, p.1 ≠ b
theorem Inv.fpOk {X : Cx} {pins : List (Addr × Obj)} {σ : St} {H H' : Hp} {s : Shared} {b : Addr} (I : Inv X pins σ H s) (hb : s.heap.objs.size ≤ b) (hn : H' b = none) : xI X pins H' b := by
 refine ⟨hn, Nat.ne_of_gt (Nat.lt_of_lt_of_le I.lt hb), I.nofs hb, .inr (Nat.le_trans I.sz hb), fun x c e z => ?_, fun p hp z => ?_⟩
 ·obtain ⟨v, q⟩ := I.cell x c e
  exact absurd (Nat.lt_of_lt_of_le q.lt (by rw [z]; exact hb)) (Nat.lt_irrefl _)
 ·exact absurd (Nat.lt_of_lt_of_le (Heap.lt_size (I.pin p hp).1) (by rw [z]; exact hb)) (Nat.lt_irrefl _)
structure Turn (P : Program) (w : World) (K : PySem.W.Frag) (tg : Expr) (J : It) (fp : List Addr) (it : Addr) (tn : Nat → Heap → Prop) : Prop where
 mem : it ∈ fp
 obj : ∀ i h, tn i h → ∀ b ∈ fp, ∃ o, h.get? b = some o ∧ ∀ v, o.data ≠ .cell v
 keep : ∀ i h h', tn i h → (∀ b ∈ fp, ∀ o, h.get? b = some o → h'.get? b = some o) → tn i h'
 item : ∀ (X : Cx), X.prog = P → X.w = w → X.K = K → X.calm = true → ∀ (i : Nat) (pins : List (Addr × Obj)) (s : Shared) (σ : St) (H : Hp) (E : Value → Shared → Prop), Inv X pins σ H s → (∀ b ∈ fp, xI X pins H b) → tn i s.heap → J.go i H →
  wpAny (model P w) X.A (pyNext (.ref it)) (fun r s1 => ∃ u, r = some u ∧
   wpAny (model P w) X.A (letOwnedTupleGo tg (.ref it) u) (fun _ s2 => ∃ x H', Inv X pins σ H' s2 ∧ bI x u ∧ J.yld i H x H' ∧ tn (i + 1) s2.heap ∧ ∀ b ∈ fp, H' b = none) E s1) E s
 done : ∀ (X : Cx), X.prog = P → X.w = w → X.K = K → X.calm = true → ∀ (i : Nat) (pins : List (Addr × Obj)) (s : Shared) (σ : St) (H : Hp) (E : Value → Shared → Prop), Inv X pins σ H s → (∀ b ∈ fp, xI X pins H b) → tn i s.heap → J.stop i H →
  wpAny (model P w) X.A (pyNext (.ref it)) (fun r s1 => r = none ∧ Inv X pins σ H s1) E s
 self : ∀ (A : Around) (i : Nat) (s : Shared) (Q : Value → Shared → Prop) (E : Value → Shared → Prop), tn i s.heap → Q (.ref it) s → wpAny (model P w) A (pyIter (.ref it)) Q E s
abbrev TI := St → Hp → (It → Hp → Prop) → Prop
def PIE (X : Cx) (pins : List (Addr × Obj)) (σ : St) (tg : Expr) (R : It → Hp → Prop) (itv : Value) (s2 : Shared) : Prop :=
 ∃ (it : Addr) (fp : List Addr) (tn : Nat → Heap → Prop) (J : It) (H' : Hp), itv = .ref it ∧ Inv X pins σ H' s2 ∧ Turn X.prog X.w X.K tg J fp it tn ∧ tn 0 s2.heap ∧ (∀ b ∈ fp, xI X pins H' b) ∧ R J H'
def PI (X : Cx) (tg iter : Expr) (wi : TI) : Prop :=
 ∀ (pins : List (Addr × Obj)) (s : Shared) (σ : St) (H : Hp) (R : It → Hp → Prop), Inv X pins σ H s → wi σ H R →
  wpAny (model X.prog X.w) X.A (eval iter X.env) (fun v s1 => wpAny (model X.prog X.w) X.A (pyIter v) (PIE X pins σ tg R) X.xe s1) X.xe s
theorem aCE {M : Model} {A : Around} {E : Value → Shared → Prop} {s : Shared} {tg : Expr} {it : Addr} {u : Value} {o : Obj} {n : String} {vs : Array Value} {Q : Unit → Shared → Prop} (ho : s.heap.get? it = some o) (hc : o.cls = .type n) (hd : o.data = .fields vs)
    (hn : ["enumerate", "zip", "dict_itemiterator", "dict_reverseitemiterator", "odict_iterator", "itertools.zip_longest", "itertools.pairwise"].contains n = false) (hQ : Q () s) : wpAny M A (letOwnedTupleGo tg (.ref it) u) Q E s := by
  unfold letOwnedTupleGo
  cases tg <;> first
    | exact wpAny_pure hQ
    | (cases u <;> first
        | exact wpAny_pure hQ
        | (refine wpAny_bind (wpAny_load ho ?_)
           rw [hc, hd]
           show wpAny M A (if (["enumerate", "zip", "dict_itemiterator", "dict_reverseitemiterator", "odict_iterator", "itertools.zip_longest", "itertools.pairwise"].contains n && vs[0]? == some (rawInt _)) = true then _ else _) Q E s
           rw [if_neg (by intro h; rw [hn, Bool.false_and] at h; cases h)]
           exact wpAny_pure hQ))
def Itl (K : PySem.W.Frag) (a : Addr) : It :=
 ⟨fun i H => ∃ xs x, SqL K H a xs ∧ xs[i]? = some x, fun i H x H' => H' = H ∧ ∀ xs, SqL K H a xs → xs[i]? = some x, fun i H => ∃ xs, SqL K H a xs ∧ xs.length ≤ i⟩
def Itt (K : PySem.W.Frag) (a : Addr) : It :=
 ⟨fun i H => ∃ xs x, SqT K H a xs ∧ xs[i]? = some x, fun i H x H' => H' = H ∧ ∀ xs, SqT K H a xs → xs[i]? = some x, fun i H => ∃ xs, SqT K H a xs ∧ xs.length ≤ i⟩
def Itr (lo : Int) (n : Nat) : It := ⟨fun i _ => i < n, fun i H x H' => H' = H ∧ x = .int (lo + i), fun i _ => n ≤ i⟩
theorem aCO {P : Program} {w : World} {K : PySem.W.Frag} {tg : Expr} (a it : Addr) : Turn P w K tg (Itl K a) [it] it (fun i h => h.IsListIter it a i) where
 mem := by simp
 obj := fun i h st b hb => by
  have e : b = it := by simpa using hb
  subst e
  obtain ⟨o, e, c, d⟩ := st
  exact ⟨o, e, fun v z => by rw [d] at z; cases z⟩
 keep := fun i h h' st k => st.at fun o e => k it (by simp) o e
 item := by
  intro X hP hw hK hc i pins s σ H E I hf st hg
  subst hP hw hK
  obtain ⟨xs, x, hq, hx⟩ := hg
  obtain ⟨its, rv, p, hz⟩ := I.list hq
  obtain ⟨u, hu, ru⟩ := rv.get hx
  obtain ⟨f0, f1, f2, f3, f4, f5⟩ := hf it (by simp)
  refine wpAny_pyNext_list_item st p.isList (x := u) (by simpa using hu) fun h' st' sb => ?_
  have I1 : Inv X pins σ H { s with heap := h' } := I.turned (t' := s.toks) (fun b o hb e => (sb.2 b hb).trans e) f0 f1 f3 f4 f5
  obtain ⟨o, e, c, d⟩ := id st'
  exact ⟨u, rfl, aCE (s := { s with heap := h' }) e c d (by decide) ⟨x, H, I1, ru, ⟨rfl, fun ys hy => by rw [I.list_inj hy hq]; exact hx⟩, st', fun b hb => (hf b hb).1⟩⟩
 done := by
  intro X hP hw hK hc i pins s σ H E I hf st hg
  subst hP hw hK
  obtain ⟨xs, hq, hx⟩ := hg
  obtain ⟨its, rv, p, hz⟩ := I.list hq
  obtain ⟨f0, f1, f2, f3, f4, f5⟩ := hf it (by simp)
  have hl := rv.length
  exact wpAny_pyNext_list_end (I.ok.hd hc) st p.isList (by simp; omega) fun h' eb => ⟨rfl, I.turned (t' := s.toks) (fun b o hb e => eb b o hb e) f0 f1 f3 f4 f5⟩
 self := fun _ _ _ _ _ st h => wpAny_pyIter_listiter st h
theorem zK {P : Program} {w : World} {K : PySem.W.Frag} {tg : Expr} (it : Addr) (lo : Int) (n : Nat) : Turn P w K tg (Itr lo n) [it] it (fun i h => IsRangeIter h it (lo + (i : Nat) * 1) ((n : Int) - (i : Nat)) 1) where
 mem := by simp
 obj := fun i h st b hb => by
  have e : b = it := by simpa using hb
  subst e
  exact ⟨_, st, fun v z => by
   have z' : Data.fields _ = Data.cell v := z
   cases z'⟩
 keep := fun i h h' st k => k it (by simp) _ st
 item := by
  intro X hP hw hK hc i pins s σ H E I hf st hg
  subst hP hw hK
  obtain ⟨f0, f1, f2, f3, f4, f5⟩ := hf it (by simp)
  have W := Walks.range (prog := X.prog) (w := X.w) (I.ok.hd hc) it lo 1 n
  refine W.item i s _ _ hg st fun v h' tk hv st' kk => ?_
  obtain ⟨t, rfl⟩ := hv
  have I1 : Inv X pins σ H { s with heap := h', toks := tk } := I.turned (fun b o hb e => kk b o (by simpa using hb) e) f0 f1 f3 f4 f5
  refine ⟨_, rfl, aCE (s := { s with heap := h', toks := tk }) (n := "range_iterator") st' rfl rfl (by decide) ⟨.int (lo + i), H, I1, ⟨t, ?_⟩, ⟨rfl, rfl⟩, st', fun b hb => (hf b hb).1⟩⟩
  rw [Int.mul_one]
 done := by
  intro X hP hw hK hc i pins s σ H E I hf st hg
  subst hP hw hK
  obtain ⟨f0, f1, f2, f3, f4, f5⟩ := hf it (by simp)
  exact wpAny_pyNext_range_end (I.ok.hd hc) st (by have : n ≤ i := hg; omega) fun h' eb => ⟨rfl, I.turned (t' := s.toks) (fun b o hb e => eb b o hb e) f0 f1 f3 f4 f5⟩
 self := fun _ _ _ _ _ st h => wpAny_pyIter_rangeiter st h
end L2
namespace L2
open PySem PySem.Spec PyProof.Rows
section
variable {X : Cx} {tg : Expr}
def aMK (K : PySem.W.Frag) (tl : TE) : TI := fun σ H R => tl σ H fun x H1 => ∃ a, x = .ref a ∧ (∃ xs, SqL K H1 a xs) ∧ R (Itl K a) H1
theorem bM {l : Expr} {tl : TE} (hl : PE X l tl) : PI X tg l (aMK X.K tl) := by
 intro pins s σ H R I h
 refine thn (hl pins s σ H _ I h) fun v s1 ⟨x, H1, I1, r1, q1⟩ => ?_
 obtain ⟨a, e, ⟨xs, hq⟩, q⟩ := q1
 subst e
 cases r1
 obtain ⟨its, rv, p, hz⟩ := I1.list hq
 refine wpAny_pyIter_list p.isList ?_
 refine ⟨s1.heap.objs.size, [s1.heap.objs.size], _, _, H1, rfl, I1.kept (t' := s1.toks) fun b o e => Heap.get?_push_of_some _ e, aCO a _, ⟨_, Heap.get?_push_size _ rfl, rfl, rfl⟩, fun b hb => ?_, q⟩
 have e : b = s1.heap.objs.size := by simpa using hb
 subst e
 exact I1.fpOk (Nat.le_refl _) (I1.hok.fresh (Nat.le_refl _))
theorem aFK {pins : List (Addr × Obj)} {σ : St} {H : Hp} {s : Shared} {R : It → Hp → Prop} {E : Value → Shared → Prop} {lo hi : Int} {t u v : Tok} {tk : Nat} (I : Inv X pins σ H s) (h1 : -(2 ^ 62) ≤ lo) (h2 : lo < 2 ^ 62) (h3 : -(2 ^ 62) ≤ hi) (h4 : hi < 2 ^ 62)
  (q : R (Itr lo (hi - lo).toNat) H) : wpAny (model X.prog X.w) X.A (pyIter (.ref s.heap.objs.size)) (PIE X pins σ tg R) E { s with heap := s.heap.push { cls := .type "range", data := .fields #[.int lo t, .int hi u, .int 1 v] }, toks := tk } := by
 refine wpAny_pyIter_range (IsRange.new ..) (small_one h1 h2 h3 h4) ?_
 have I1 : Inv X pins σ H { s with heap := s.heap.push { cls := .type "range", data := .fields #[.int lo t, .int hi u, .int 1 v] }, toks := tk } := I.kept fun b o e => Heap.get?_push_of_some _ e
 refine ⟨(s.heap.push { cls := .type "range", data := .fields #[.int lo t, .int hi u, .int 1 v] }).objs.size, [(s.heap.push { cls := .type "range", data := .fields #[.int lo t, .int hi u, .int 1 v] }).objs.size], _, _, H, rfl,
  I1.kept (t' := tk) fun b o e => Heap.get?_push_of_some _ e, zK _ lo (hi - lo).toNat, ?_, fun b hb => ?_, q⟩
 ·have e1 : lo + ((0 : Nat) : Int) * 1 = lo := by simp
  have e2 : (((hi - lo).toNat : Nat) : Int) - ((0 : Nat) : Int) = Builtin.Range.rangeSize lo hi 1 := by rw [rangeSize_one]; split <;> omega
  show IsRangeIter _ _ (lo + ((0 : Nat) : Int) * 1) ((((hi - lo).toNat : Nat) : Int) - ((0 : Nat) : Int)) 1
  rw [e1, e2]
  exact Heap.get?_push_size _ rfl
 ·have e : b = (s.heap.push { cls := .type "range", data := .fields #[.int lo t, .int hi u, .int 1 v] }).objs.size := by simpa using hb
  subst e
  exact I1.fpOk (Nat.le_refl _) (I1.hok.fresh (Nat.le_refl _))
def aMJ (ta : TA) : TI := fun σ H R => ta σ H fun vs H1 => ∃ j : Int, vs = [.int j] ∧ -(2 ^ 62) ≤ j ∧ j < 2 ^ 62 ∧ R (Itr 0 j.toNat) H1
theorem hE {a : Expr} {ta : TA} {p pos : Pos} (hg : Gl X "range") (hm : X.mg "range" = none) (ha : PA X [a] ta) (hs : starEach [a] X.env = [(false, eval a X.env)] := by rfl) : PI X tg (.Call (.Name "range" p) [a] [] pos) (aMJ ta) := by
 intro pins s σ H R I h
 refine Call_ (qA I hg hm boot_range (PyProof.Rows.callWith_type1 (thn (ha pos pins s σ H _ I h) fun us s1 ⟨vs, H1, I1, r1, q1⟩ => ?_) hs rfl))
 obtain ⟨j, e, q1, q2, q⟩ := q1
 subst e
 cases r1 with
 | cons r rr =>
  cases rr
  obtain ⟨t, rfl⟩ := r
  exact call_range_1 (aFK I1 (by omega) (by omega) q1 q2 (by simpa using q))
def aNC (wi : TI) (g : TG) (tb : TS) : TS := fun D σ H => wi σ H fun J H1 => ∃ W : Nat → Nat → St → Hp → Prop, (∃ m, W 0 m σ H1) ∧ ∀ i m σ H, W i m σ H →
 (J.stop i H ∧ D.nx σ H) ∨ (J.go i H ∧ ∃ N : St → Hp → Prop, (∀ σ' H', N σ' H' → ∃ m', m' < m ∧ W (i + 1) m' σ' H') ∧ ∀ x H', J.yld i H x H' → g x σ H' fun σ2 H2 => tb { D with nx := N, ct := N, bk := D.nx } σ2 H2)
def mW (fp : List Addr) (h : Heap) : List (Addr × Obj) := fp.filterMap fun b => (h.get? b).map fun o => (b, o)
theorem mE {fp : List Addr} {h : Heap} {b : Addr} {o : Obj} (hb : b ∈ fp) (e : h.get? b = some o) : (b, o) ∈ mW fp h := List.mem_filterMap.mpr ⟨b, hb, by rw [e]; rfl⟩
theorem vF {fp : List Addr} {h : Heap} {p : Addr × Obj} (hp : p ∈ mW fp h) : p.1 ∈ fp ∧ h.get? p.1 = some p.2 := by
 obtain ⟨b, hb, e⟩ := List.mem_filterMap.mp hp
 cases q : h.get? b with
 | none => rw [q] at e; cases e
 | some o =>
  rw [q] at e
  have e' : (b, o) = p := Option.some.inj e
  subst e'
  exact ⟨hb, q⟩
theorem Inv.pinned {pins : List (Addr × Obj)} {σ : St} {H : Hp} {s : Shared} {fp : List Addr} (I : Inv X pins σ H s) (hf : ∀ b ∈ fp, xI X pins H b) (ho : ∀ b ∈ fp, ∃ o, s.heap.get? b = some o ∧ ∀ v, o.data ≠ .cell v) : Inv X (pins ++ mW fp s.heap) σ H s :=
 I.pins_of fun p hp => (List.mem_append.mp hp).elim (fun z => I.pin p (List.mem_append_right _ z)) fun z => by
  obtain ⟨hb, e⟩ := vF z
  obtain ⟨f0, f1, f2, _⟩ := hf p.1 hb
  obtain ⟨o, e', d⟩ := ho p.1 hb
  rw [e] at e'; cases e'
  exact ⟨e, f0, f1, f2, d⟩
theorem Inv.unpinned {pins pl : List (Addr × Obj)} {σ : St} {H : Hp} {s : Shared} (I : Inv X (pins ++ pl) σ H s) : Inv X pins σ H s := I.pins_of fun p hp => I.pin p (List.mem_append_right _ (List.mem_append_left _ hp))
theorem eY {iter : Expr} {body : List Stmt} {wi : TI} {g : TG} {tb : TS} {pos : Pos} (hp : PassesOwn (model X.prog X.w) X.A X.env X.xe) (hc : X.calm = true) (hi : PI X tg iter wi) (hg : PG X tg g) (hb : PSs X body tb)
  (hs : ∀ x, foldedSetIterable iter X.env x = pure x := by intro _; rfl) : PS X (.For tg iter body [] pos) (aNC wi g tb) := by
 intro pins s σ H D I h
 refine wpAny_For (thn (hi pins s σ H _ I h) fun v s1 h1 => thn h1 fun itv s2 h2 => ?_) hs
 obtain ⟨it, fp, tn, J, H2, e, I2, T, st2, f2, W, ⟨m0, w0⟩, turn⟩ := h2
 subst e
 have stat : ∀ {H' : Hp}, (∀ b ∈ fp, H' b = none) → ∀ b ∈ fp, xI X pins H' b := fun hn b hb => ⟨hn b hb, (f2 b hb).2⟩
 refine codeAny_forLoop_any (fun n s' => ∃ i σ' H', Inv X pins σ' H' s' ∧ tn i s'.heap ∧ (∀ b ∈ fp, H' b = none) ∧ W i n σ' H') ?_ m0 ⟨0, σ, H2, I2, st2, fun b hb => (f2 b hb).1, w0⟩
 rintro n s3 ⟨i, σ3, H3, I3, st3, fr3, w3⟩
 rcases turn i n σ3 H3 w3 with ⟨stop, qn⟩ | ⟨go, N, hN, step⟩
 ·refine wpAny_passesOwn hp (thn (T.done X rfl rfl rfl hc i pins s3 σ3 H3 X.xe I3 (stat fr3) st3 stop) fun r s4 ⟨hr, I4⟩ => ?_)
  subst hr
  exact wpAny_execs_nil ⟨σ3, H3, I4, qn⟩
 ·refine wpAny_passesOwn hp (thn (T.item X rfl rfl rfl hc i pins s3 σ3 H3 X.xe I3 (stat fr3) st3 go) fun r s4 ⟨u, hr, h4⟩ => ?_)
  subst hr
  refine wpAny_passesOwn hp (thn h4 fun _ s5 ⟨x, H5, I5, r5, y5, st5, fr5⟩ => ?_)
  have I5' := I5.pinned (stat fr5) (T.obj _ _ st5)
  refine wpAny_passesOwn hp (thn (hg _ s5 σ3 H5 x u _ I5' r5 (step x H5 y5)) fun _ s6 ⟨σ6, H6, I6, q6⟩ => ?_)
  refine wpAny_passesOwn hp (thn (hb _ s6 σ6 H6 _ I6 q6) fun f s7 q7 => ?_)
  have again : ∀ {σ7 : St} {H7 : Hp}, Inv X (pins ++ mW fp s5.heap) σ7 H7 s7 → N σ7 H7 → ∃ m, m < n ∧ ∃ i σ' H', Inv X pins σ' H' s7 ∧ tn i s7.heap ∧ (∀ b ∈ fp, H' b = none) ∧ W i m σ' H' := fun {σ7 H7} I7 n7 => by
   obtain ⟨m', hm, w7⟩ := hN σ7 H7 n7
   refine ⟨m', hm, i + 1, σ7, H7, I7.unpinned, T.keep _ _ _ st5 fun b hb o e => (I7.pin (b, o) (List.mem_append_right _ (List.mem_append_right _ (mE hb e)))).1, fun b hb => ?_, w7⟩
   obtain ⟨o, e, d⟩ := T.obj _ _ st5 b hb
   exact (I7.pin (b, o) (List.mem_append_right _ (List.mem_append_right _ (mE hb e)))).2.1
  cases f with
  | next => obtain ⟨σ7, H7, I7, n7⟩ := q7; exact again I7 n7
  | cont => obtain ⟨σ7, H7, I7, n7⟩ := q7; exact again I7 n7
  | brk => obtain ⟨σ7, H7, I7, q7⟩ := q7; exact ⟨σ7, H7, I7.unpinned, q7⟩
  | ret v => obtain ⟨x7, σ7, H7, I7, r7, q7⟩ := q7; exact ⟨x7, σ7, H7, I7.unpinned, r7, q7⟩
end
theorem fO {K : PySem.W.Frag} {a : Addr} {xs : List V} {g : TG} {tb : TS} {D : Ends} {σ : St} {H : Hp} (Pv : Nat → St → Hp → Prop) (h0 : Pv 0 σ H) (hl : ∀ i σ H, i ≤ xs.length → Pv i σ H → SqL K H a xs)
  (hs : ∀ i x σ H, xs[i]? = some x → Pv i σ H → g x σ H fun σ2 H2 => tb { D with nx := Pv (i + 1), ct := Pv (i + 1), bk := D.nx } σ2 H2) (hd : ∀ σ H, Pv xs.length σ H → D.nx σ H) :
  ∃ W : Nat → Nat → St → Hp → Prop, (∃ m, W 0 m σ H) ∧ ∀ i m σ H, W i m σ H →
   ((Itl K a).stop i H ∧ D.nx σ H) ∨ ((Itl K a).go i H ∧ ∃ N : St → Hp → Prop, (∀ σ' H', N σ' H' → ∃ m', m' < m ∧ W (i + 1) m' σ' H') ∧ ∀ x H', (Itl K a).yld i H x H' → g x σ H' fun σ2 H2 => tb { D with nx := N, ct := N, bk := D.nx } σ2 H2) := by
 refine ⟨fun i m σ H => m = xs.length - i ∧ i ≤ xs.length ∧ Pv i σ H, ⟨xs.length, by simp, Nat.zero_le _, h0⟩, ?_⟩
 rintro i m σ H ⟨rfl, hi, p⟩
 have q := hl i σ H hi p
 by_cases hlt : i < xs.length
 ·refine .inr ⟨⟨xs, xs[i], q, by simp [hlt]⟩, Pv (i + 1), fun σ' H' p' => ⟨xs.length - (i + 1), by omega, rfl, hlt, p'⟩, fun x H' y => ?_⟩
  obtain ⟨e, y⟩ := y
  subst e
  exact hs i x σ _ (y xs q) p
 ·have e : i = xs.length := by omega
  subst e
  exact .inl ⟨⟨xs, q, Nat.le_refl _⟩, hd σ H p⟩
theorem iI {lo : Int} {n : Nat} {g : TG} {tb : TS} {D : Ends} {σ : St} {H : Hp} (Pv : Nat → St → Hp → Prop) (h0 : Pv 0 σ H)
  (hs : ∀ i σ H, i < n → Pv i σ H → g (.int (lo + i)) σ H fun σ2 H2 => tb { D with nx := Pv (i + 1), ct := Pv (i + 1), bk := D.nx } σ2 H2) (hd : ∀ σ H, Pv n σ H → D.nx σ H) :
  ∃ W : Nat → Nat → St → Hp → Prop, (∃ m, W 0 m σ H) ∧ ∀ i m σ H, W i m σ H →
   ((Itr lo n).stop i H ∧ D.nx σ H) ∨ ((Itr lo n).go i H ∧ ∃ N : St → Hp → Prop, (∀ σ' H', N σ' H' → ∃ m', m' < m ∧ W (i + 1) m' σ' H') ∧ ∀ x H', (Itr lo n).yld i H x H' → g x σ H' fun σ2 H2 => tb { D with nx := N, ct := N, bk := D.nx } σ2 H2) := by
 refine ⟨fun i m σ H => m = n - i ∧ i ≤ n ∧ Pv i σ H, ⟨n, by simp, Nat.zero_le _, h0⟩, ?_⟩
 rintro i m σ H ⟨rfl, hi, p⟩
 by_cases hlt : i < n
 ·refine .inr ⟨hlt, Pv (i + 1), fun σ' H' p' => ⟨n - (i + 1), by omega, rfl, hlt, p'⟩, fun x H' y => ?_⟩
  obtain ⟨e, y⟩ := y
  subst e y
  exact hs i σ _ hlt p
 ·have e : i = n := by omega
  subst e
  exact .inl ⟨Nat.le_refl _, hd σ H p⟩
theorem xJ {c : TT} {tb : TS} {D : Ends} {σ : St} {H : Hp} (Pv : St → Hp → Prop) (μ : St → Hp → Nat) (h0 : Pv σ H)
  (hs : ∀ σ H, Pv σ H → c σ H fun b H1 => if b = true then tb { D with nx := fun σ' H' => Pv σ' H' ∧ μ σ' H' < μ σ H, ct := fun σ' H' => Pv σ' H' ∧ μ σ' H' < μ σ H, bk := D.nx } σ H1 else D.nx σ H1)
  (mono : ∀ σ H Q Q', (∀ b H1, Q b H1 → Q' b H1) → c σ H Q → c σ H Q') : aEM c tb D σ H := by
 refine ⟨fun m σ H => m = μ σ H ∧ Pv σ H, ⟨_, rfl, h0⟩, ?_⟩
 rintro m σ H ⟨rfl, p⟩
 refine mono σ H _ _ (fun b H1 q => ?_) (hs σ H p)
 cases b with
 | true => exact ⟨_, fun σ' H' ⟨p', l⟩ => ⟨_, l, rfl, p'⟩, q⟩
 | false => exact q
end L2
namespace L2
open PySem PySem.Spec PyProof.Rows
abbrev R2 := V → V → Hp → VK → Prop
def OpR (X : Cx) (f : Value → Value → Sem Value) (r : R2) : Prop :=
 ∀ (pins : List (Addr × Obj)) (s : Shared) (σ : St) (H : Hp) (x y : V) (v u : Value) (Q : VK), Inv X pins σ H s → bI x v → bI y u → r x y H Q →
  wpAny (model X.prog X.w) X.A (f v u) (EP X pins σ Q) X.xe s
def UnR (X : Cx) (f : Value → Sem Value) (r : V → Hp → VK → Prop) : Prop :=
 ∀ (pins : List (Addr × Obj)) (s : Shared) (σ : St) (H : Hp) (x : V) (v : Value) (Q : VK), Inv X pins σ H s → bI x v → r x H Q →
  wpAny (model X.prog X.w) X.A (f v) (EP X pins σ Q) X.xe s
def hG (X : Cx) (f : Value) (r : List V → Hp → VK → Prop) : Prop :=
 ∀ (pins : List (Addr × Obj)) (s : Shared) (σ : St) (H : Hp) (xs : List V) (us : List Value) (Q : VK), Inv X pins σ H s → bK xs us → r xs H Q →
  wpAny (model X.prog X.w) X.A (call f us) (EP X pins σ Q) X.xe s
def tOp (r : R2) (ta tb : TE) : TE := fun σ H Q => ta σ H fun x H1 => tb σ H1 fun y H2 => r x y H2 Q
def tUn (r : V → Hp → VK → Prop) (ta : TE) : TE := fun σ H Q => ta σ H fun x H1 => r x H1 Q
def rI (C : Int → Int → Prop) (g : Int → Int → V) : R2 := fun x y H Q => ∃ i j, x = .int i ∧ y = .int j ∧ C i j ∧ Q (g i j) H
def rI0 (g : Int → Int → V) : R2 := fun x y H Q => ∃ i j, x = .int i ∧ y = .int j ∧ Q (g i j) H
def rU (g : Int → V) : V → Hp → VK → Prop := fun x H Q => ∃ i, x = .int i ∧ Q (g i) H
section
variable {X : Cx} {a b c : Expr} {ta tb tc : TE} {pos : Pos}
theorem aKY (ha : PE X a ta) (hb : PE X b tb) {pins : List (Addr × Obj)} {s : Shared} {σ : St} {H : Hp} {R : V → V → Hp → Prop} (I : Inv X pins σ H s)
  (h : ta σ H fun x H1 => tb σ H1 fun y H2 => R x y H2) {Q : Value → Shared → Prop} {f : Value → Value → Sem Value}
  (hf : ∀ v u s2 x y H2, Inv X pins σ H2 s2 → bI x v → bI y u → R x y H2 → wpAny (model X.prog X.w) X.A (f v u) Q X.xe s2) :
  wpAny (model X.prog X.w) X.A (eval a X.env) (fun v s₁ => wpAny (model X.prog X.w) X.A (eval b X.env) (fun u s₂ => wpAny (model X.prog X.w) X.A (f v u) Q X.xe s₂) X.xe s₁) X.xe s := by
 refine thn (ha pins s σ H _ I h) fun v s1 ⟨x, H1, I1, r1, q1⟩ => ?_
 refine thn (hb pins s1 σ H1 _ I1 q1) fun u s2 ⟨y, H2, I2, r2, q2⟩ => ?_
 exact hf v u s2 x y H2 I2 r1 r2 q2
theorem aP {op : Operator} {r : R2} (ho : OpR X (binaryOp op) r) (ha : PE X a ta) (hb : PE X b tb) : PE X (.BinOp a op b pos) (tOp r ta tb) := by
 intro pins s σ H Q I h
 exact wpAny_BinOp (aKY ha hb I h fun v u s2 x y H2 I2 rx ry q => ho pins s2 σ H2 x y v u Q I2 rx ry q)
theorem aJG {op : UnaryOp} {r : V → Hp → VK → Prop} (ho : UnR X (unaryOp op) r) (ha : PE X a ta) : PE X (.UnaryOp op a pos) (tUn r ta) := by
 intro pins s σ H Q I h
 exact UnaryOp_ (thn (ha pins s σ H _ I h) fun v s1 ⟨x, H1, I1, r1, q1⟩ => ho pins s1 σ H1 x v Q I1 r1 q1)
theorem opI {f : Value → Value → Sem Value} {C : Int → Int → Prop} {g : Int → Int → Int}
  (rule : ∀ (i j : Int) (t u : Tok) (s : Shared) (Q : Value → Shared → Prop) (E : Value → Shared → Prop), C i j → Q (.int (g i j) s.toks) { s with toks := s.toks + 1 } → wpAny (model X.prog X.w) X.A (f (.int i t) (.int j u)) Q E s) :
  OpR X f (rI C fun i j => .int (g i j)) := by
 intro pins s σ H x y v u Q I rx ry h
 obtain ⟨i, j, rfl, rfl, hc, q⟩ := h
 obtain ⟨t, rfl⟩ := rx
 obtain ⟨t', rfl⟩ := ry
 exact rule i j t t' s _ _ hc ⟨.int (g i j), H, I.tok _, ⟨_, rfl⟩, q⟩
theorem aLZ {f : Value → Value → Sem Value} {g : Int → Int → Int}
  (rule : ∀ (i j : Int) (t u : Tok) (s : Shared) (Q : Value → Shared → Prop) (E : Value → Shared → Prop), Q (.int (g i j) s.toks) { s with toks := s.toks + 1 } → wpAny (model X.prog X.w) X.A (f (.int i t) (.int j u)) Q E s) :
  OpR X f (rI0 fun i j => .int (g i j)) := by
 intro pins s σ H x y v u Q I rx ry h
 obtain ⟨i, j, rfl, rfl, q⟩ := h
 obtain ⟨t, rfl⟩ := rx
 obtain ⟨t', rfl⟩ := ry
 exact rule i j t t' s _ _ ⟨.int (g i j), H, I.tok _, ⟨_, rfl⟩, q⟩
theorem aIB {f : Value → Value → Sem Value} {g : Int → Int → Bool}
  (rule : ∀ (i j : Int) (t u : Tok) (s : Shared) (Q : Value → Shared → Prop) (E : Value → Shared → Prop), Q (.bool (g i j)) s → wpAny (model X.prog X.w) X.A (f (.int i t) (.int j u)) Q E s) :
  OpR X f (rI0 fun i j => .bl (g i j)) := by
 intro pins s σ H x y v u Q I rx ry h
 obtain ⟨i, j, rfl, rfl, q⟩ := h
 obtain ⟨t, rfl⟩ := rx
 obtain ⟨t', rfl⟩ := ry
 exact rule i j t t' s _ _ ⟨.bl (g i j), H, I, rfl, q⟩
def aOA (i j : Int) : Prop := 0 ≤ j ∧ j ≤ 1000000 ∧ i.natAbs < 2 ^ 64
def aLE (i j : Int) : Prop := (-(2 ^ 64) < i ∧ i < 2 ^ 64) ∨ (-(2 ^ 64) < j ∧ j < 2 ^ 64)
theorem aLE.ok {i j : Int} (h : aLE i j) : IntMulOk i j := by
 rcases h with ⟨h1, h2⟩ | ⟨h1, h2⟩
 ·exact .of_left (intBits_le_64 h1 h2)
 ·exact .of_right (intBits_le_64 h1 h2)
theorem fM : OpR X (binaryOp .Add) (rI0 fun i j => .int (i + j)) := aLZ fun _ _ _ _ _ _ _ q => add_int q
theorem lZ : OpR X (binaryOp .Sub) (rI0 fun i j => .int (i - j)) := aLZ fun _ _ _ _ _ _ _ q => sub_int q
theorem sW : OpR X (binaryOp .Mult) (rI aLE fun i j => .int (i * j)) := opI fun _ _ _ _ _ _ _ hc q => mul_int q hc.ok
theorem cH : OpR X (binaryOp .Mod) (rI (fun _ j => 0 < j) fun i j => .int (i % j)) := opI fun i j _ _ _ _ _ hc q => by
 have h1 : (0 : Int) < j := hc
 exact mod_int' (by omega) (by rw [Int.fmod_eq_emod_of_nonneg i (by omega)]; exact q)
theorem eA : OpR X (binaryOp .Pow) (rI aOA fun i j => .int (i ^ j.toNat)) := opI fun _ _ _ _ _ _ _ hc q => pow_int_small hc.1 hc.2.1 hc.2.2 q
theorem unI {f : Value → Sem Value} {g : Int → Int}
  (rule : ∀ (i : Int) (t : Tok) (s : Shared) (Q : Value → Shared → Prop) (E : Value → Shared → Prop), Q (.int (g i) s.toks) { s with toks := s.toks + 1 } → wpAny (model X.prog X.w) X.A (f (.int i t)) Q E s) :
  UnR X f (rU fun i => .int (g i)) := by
 intro pins s σ H x v Q I rx h
 obtain ⟨i, rfl, q⟩ := h
 obtain ⟨t, rfl⟩ := rx
 exact rule i t s _ _ ⟨.int (g i), H, I.tok _, ⟨_, rfl⟩, q⟩
theorem aEK : UnR X (unaryOp .USub) (rU fun i => .int (-i)) := unI fun _ _ _ _ _ q => neg_int q
end
def aLR : V → V → Bool
 | .non, .non => true | .non, .int _ => true | .int _, .non => true | .non, .bl _ => true | .bl _, .non => true | .non, .str _ => true | .str _, .non => true
 | .int _, .int _ => true | .bl _, .bl _ => true | .str _, .str _ => true | .byt _, .byt _ => true
 | .int _, .str _ => true | .str _, .int _ => true | .bl _, .str _ => true | .str _, .bl _ => true
 | _, _ => false
def rEq : R2 := fun x y H Q => aLR x y = true ∧ Q (.bl (decide (x = y))) H
def rNe : R2 := fun x y H Q => aLR x y = true ∧ Q (.bl (!decide (x = y))) H
theorem kP {i j : Int} : decide (V.int i = V.int j) = (i == j) := by
 rw [Bool.eq_iff_iff]
 simp
theorem aHA {i j : Bool} : decide (V.bl i = V.bl j) = (i == j) := by
 rw [Bool.eq_iff_iff]
 simp
theorem jI {i j : Str} : decide (V.str i = V.str j) = (i == j) := by
 rw [Bool.eq_iff_iff]
 simp
theorem aCH {i j : Array UInt8} : decide (V.byt i = V.byt j) = (i.toList == j.toList) := by
 rw [Bool.eq_iff_iff]
 cases i
 cases j
 simp
section
variable {X : Cx} {a b c : Expr} {ta tb tc : TE} {pos : Pos}
theorem cC {pins : List (Addr × Obj)} {σ : St} {H : Hp} {s : Shared} {Q : VK} {k k' : Bool} (I : Inv X pins σ H s) (q : Q (.bl k) H) (e : k = k') : EP X pins σ Q (.bool k') s := by
 subst e
 exact ⟨.bl k, H, I, rfl, q⟩
theorem iV : OpR X (compareOp .Eq) rEq := by
 intro pins s σ H x y v u Q I rx ry h
 obtain ⟨hs, q⟩ := h
 cases x with
 | non =>
  cases rx
  cases y with
  | non => cases ry; exact PySem.EqNone.eq_none_none (cC I q (by simp))
  | bl j => cases ry; exact PySem.EqNone.eq_none_bool (cC I q (by simp))
  | int j => obtain ⟨t', rfl⟩ := ry; exact PySem.EqNone.eq_none_int (cC I q (by simp))
  | str j => obtain ⟨t', rfl⟩ := ry; exact PySem.EqNone.eq_none_str (cC I q (by simp))
  | _ => exact absurd (show false = true from hs) Bool.false_ne_true
 | bl i =>
  cases rx
  cases y with
  | non => cases ry; exact PySem.EqNone.eq_bool_none (cC I q (by simp))
  | bl j => cases ry; exact eq_bool (cC I q aHA)
  | str j => obtain ⟨t', rfl⟩ := ry; exact PySem.EqMixed.eq_bool_str (cC I q (by simp))
  | _ => exact absurd (show false = true from hs) Bool.false_ne_true
 | int i =>
  obtain ⟨t, rfl⟩ := rx
  cases y with
  | non => cases ry; exact PySem.EqNone.eq_int_none (cC I q (by simp))
  | int j => obtain ⟨t', rfl⟩ := ry; exact eq_int (cC I q kP)
  | str j => obtain ⟨t', rfl⟩ := ry; exact PySem.EqMixed.eq_int_str (cC I q (by simp))
  | _ => exact absurd (show false = true from hs) Bool.false_ne_true
 | str i =>
  obtain ⟨t, rfl⟩ := rx
  cases y with
  | non => cases ry; exact PySem.EqNone.eq_str_none (cC I q (by simp))
  | bl j => cases ry; exact PySem.EqMixed.eq_str_bool (cC I q (by simp))
  | int j => obtain ⟨t', rfl⟩ := ry; exact PySem.EqMixed.eq_str_int (cC I q (by simp))
  | str j => obtain ⟨t', rfl⟩ := ry; exact eq_str (cC I q jI)
  | _ => exact absurd (show false = true from hs) Bool.false_ne_true
 | byt i =>
  obtain ⟨t, rfl⟩ := rx
  cases y with
  | byt j => obtain ⟨t', rfl⟩ := ry; exact PySem.W.eq_bytes (cC I q aCH)
  | _ => exact absurd (show false = true from hs) Bool.false_ne_true
 | _ => cases y <;> exact absurd (show false = true from hs) Bool.false_ne_true
theorem pL : OpR X (compareOp .NotEq) rNe := by
 intro pins s σ H x y v u Q I rx ry h
 obtain ⟨hs, q⟩ := h
 cases x with
 | non =>
  cases rx
  cases y with
  | non => cases ry; exact PySem.EqNone.ne_none_none (cC I q (by simp))
  | bl j => cases ry; exact PySem.EqNone.ne_none_bool (cC I q (by simp))
  | int j => obtain ⟨t', rfl⟩ := ry; exact PySem.EqNone.ne_none_int (cC I q (by simp))
  | str j => obtain ⟨t', rfl⟩ := ry; exact PySem.EqNone.ne_none_str (cC I q (by simp))
  | _ => exact absurd (show false = true from hs) Bool.false_ne_true
 | bl i =>
  cases rx
  cases y with
  | non => cases ry; exact PySem.EqNone.ne_bool_none (cC I q (by simp))
  | bl j => cases ry; exact ne_bool (cC I q (congrArg not aHA))
  | str j => obtain ⟨t', rfl⟩ := ry; exact PySem.EqMixed.ne_bool_str (cC I q (by simp))
  | _ => exact absurd (show false = true from hs) Bool.false_ne_true
 | int i =>
  obtain ⟨t, rfl⟩ := rx
  cases y with
  | non => cases ry; exact PySem.EqNone.ne_int_none (cC I q (by simp))
  | int j => obtain ⟨t', rfl⟩ := ry; exact ne_int (cC I q (congrArg not kP))
  | str j => obtain ⟨t', rfl⟩ := ry; exact PySem.EqMixed.ne_int_str (cC I q (by simp))
  | _ => exact absurd (show false = true from hs) Bool.false_ne_true
 | str i =>
  obtain ⟨t, rfl⟩ := rx
  cases y with
  | non => cases ry; exact PySem.EqNone.ne_str_none (cC I q (by simp))
  | bl j => cases ry; exact PySem.EqMixed.ne_str_bool (cC I q (by simp))
  | int j => obtain ⟨t', rfl⟩ := ry; exact PySem.EqMixed.ne_str_int (cC I q (by simp))
  | str j => obtain ⟨t', rfl⟩ := ry; exact ne_str (cC I q (congrArg not jI))
  | _ => exact absurd (show false = true from hs) Bool.false_ne_true
 | byt i =>
  obtain ⟨t, rfl⟩ := rx
  cases y with
  | byt j => obtain ⟨t', rfl⟩ := ry; exact PySem.W.ne_bytes (cC I q (congrArg not aCH))
  | _ => exact absurd (show false = true from hs) Bool.false_ne_true
 | _ => cases y <;> exact absurd (show false = true from hs) Bool.false_ne_true
theorem qO : OpR X (compareOp .Lt) (rI0 fun i j => .bl (decide (i < j))) := aIB fun _ _ _ _ _ _ _ q => lt_int q
theorem kK : OpR X (compareOp .LtE) (rI0 fun i j => .bl (decide (i ≤ j))) := aIB fun _ _ _ _ _ _ _ q => le_int q
theorem aBY : OpR X (compareOp .Gt) (rI0 fun i j => .bl (decide (j < i))) := aIB fun _ _ _ _ _ _ _ q => gt_int q
theorem aJJ : OpR X (compareOp .GtE) (rI0 fun i j => .bl (decide (j ≤ i))) := aIB fun _ _ _ _ _ _ _ q => ge_int q
theorem aDG : OpR X (compareOp .In) (fun x y H Q => ∃ i j, x = .str i ∧ y = .str j ∧ Q (.bl (!(Builtin.Str.occurrences j i 0 j.length 1).isEmpty)) H) := by
 intro pins s σ H x y v u Q I rx ry h
 obtain ⟨i, j, rfl, rfl, q⟩ := h
 obtain ⟨t, rfl⟩ := rx
 obtain ⟨t', rfl⟩ := ry
 exact in_str (cC I q rfl)
theorem oO : OpR X (compareOp .Is) (fun x y H Q => y = .non ∧ Q (.bl (decide (x = .non))) H) := by
 intro pins s σ H x y v u Q I rx ry h
 obtain ⟨rfl, q⟩ := h
 cases ry
 refine is_none_gen (cC I q ?_)
 cases x <;> first
  | (cases rx; rfl)
  | (obtain ⟨t, rfl⟩ := rx; rfl)
theorem mB : OpR X (compareOp .IsNot) (fun x y H Q => y = .non ∧ Q (.bl (!decide (x = .non))) H) := by
 intro pins s σ H x y v u Q I rx ry h
 obtain ⟨rfl, q⟩ := h
 cases ry
 refine isnot_none_gen (cC I q ?_)
 cases x <;> first
  | (cases rx; rfl)
  | (obtain ⟨t, rfl⟩ := rx; rfl)
theorem bB (b : Expr) {op : CmpOp} (h : op ≠ .In := by decide) (h2 : op ≠ .NotIn := by decide) : behindInMarks op b = false := by
 have e1 : (op == CmpOp.In) = false := by cases op <;> first | rfl | exact absurd rfl h
 have e2 : (op == CmpOp.NotIn) = false := by cases op <;> first | rfl | exact absurd rfl h2
 cases b <;> simp [behindInMarks, e1, e2]
theorem bX {op : CmpOp} {r : R2} (ho : OpR X (compareOp op) r) (ha : PE X a ta) (hb : PE X b tb) (hm : behindInMarks op b = false) : PE X (.Compare a [op] [b] pos) (tOp r ta tb) := by
 intro pins s σ H Q I h
 exact wpAny_Compare1 (aKY ha hb I h fun v u s2 x y H2 I2 rx ry q => ho pins s2 σ H2 x y v u Q I2 rx ry q) hm
def aIV (t : TE) : TT := fun σ H Q => t σ H fun x H' => ∃ k, x = .bl k ∧ Q k H'
theorem bD {op : CmpOp} {r : R2} (ho : OpR X (compareOp op) r) (ha : PE X a ta) (hb : PE X b tb) (hm : behindInMarks op b = false) : PT X (.Compare a [op] [b] pos) (aIV (tOp r ta tb)) := by
 intro pins s σ H Q I h
 refine wpAny_isTrue_Compare1 (thn (ha pins s σ H _ I h) fun v s1 ⟨x, H1, I1, r1, q1⟩ => thn (hb pins s1 σ H1 _ I1 q1) fun u s2 ⟨y, H2, I2, r2, q2⟩ =>
  thn (ho pins s2 σ H2 x y v u _ I2 r1 r2 q2) fun c s3 ⟨z, H3, I3, r3, k, e, q3⟩ => ?_) hm
 subst e
 cases r3
 exact wpAny_truthy_bool ⟨H3, I3, q3⟩
def aEN (r r' : R2) (ta tb tc : TE) : TE := fun σ H Q => ta σ H fun x H1 => tb σ H1 fun y H2 => r x y H2 fun z H3 => ∃ k, z = .bl k ∧
 (if k = true then tc σ H3 fun w' H4 => r' y w' H4 Q else Q (.bl false) H3)
theorem mX {op op' : CmpOp} {r r' : R2} (ho : OpR X (compareOp op) r) (ho' : OpR X (compareOp op') r') (ha : PE X a ta) (hb : PE X b tb) (hc : PE X c tc)
  (hm : lastMarks [op, op'] [b, c] = false := by with_unfolding_all rfl) : PE X (.Compare a [op, op'] [b, c] pos) (aEN r r' ta tb tc) := by
 intro pins s σ H Q I h
 refine Compare_chain (thn (ha pins s σ H _ I h) fun v s1 ⟨x, H1, I1, r1, q1⟩ => chain_link (thn (hb pins s1 σ H1 _ I1 q1) fun u s2 ⟨y, H2, I2, r2, q2⟩ =>
  thn (ho pins s2 σ H2 x y v u _ I2 r1 r2 q2) fun d s3 ⟨z, H3, I3, r3, k, e, q3⟩ => ?_)) hm
 subst e
 cases r3
 refine wpAny_truthy_bool ?_
 cases k with
 | false => exact ite_ff ⟨.bl false, H3, I3, rfl, q3⟩
 | true => exact ite_tt (chain_last (thn (hc pins s3 σ H3 _ I3 q3) fun w' s4 ⟨z', H4, I4, r4, q4⟩ => ho' pins s4 σ H4 y z' u w' Q I4 r2 r4 q4))
theorem aFM {op op' : CmpOp} {r r' : R2} (ho : OpR X (compareOp op) r) (ho' : OpR X (compareOp op') r') (ha : PE X a ta) (hb : PE X b tb) (hc : PE X c tc)
  (hm : lastMarks [op, op'] [b, c] = false := by with_unfolding_all rfl) : PT X (.Compare a [op, op'] [b, c] pos) (aIV (aEN r r' ta tb tc)) := by
 intro pins s σ H Q I h
 refine isTrue_chain (thn (ha pins s σ H _ I h) fun v s1 ⟨x, H1, I1, r1, q1⟩ => test_link (thn (hb pins s1 σ H1 _ I1 q1) fun u s2 ⟨y, H2, I2, r2, q2⟩ =>
  thn (ho pins s2 σ H2 x y v u _ I2 r1 r2 q2) fun d s3 ⟨z, H3, I3, r3, k, e, q3⟩ => ?_)) hm
 subst e
 cases r3
 refine wpAny_truthy_bool ?_
 cases k with
 | false =>
  obtain ⟨k', e', q'⟩ := q3
  cases e'
  exact ite_ff ⟨H3, I3, q'⟩
 | true =>
  refine ite_tt (test_last (thn (hc pins s3 σ H3 _ I3 q3) fun w' s4 ⟨z', H4, I4, r4, q4⟩ => thn (ho' pins s4 σ H4 y z' u w' _ I4 r2 r4 q4) fun d' s5 ⟨z2, H5, I5, r5, k2, e2, q5⟩ => ?_))
  subst e2
  cases r5
  exact wpAny_truthy_bool ⟨H5, I5, q5⟩
theorem tO : (sizeLine : Nat) < 2 ^ 63 := by rw [sizeLine_eq]; decide
theorem sY : OpR X (binaryOp .Add) (fun x y H Q => ∃ i j, x = .str i ∧ y = .str j ∧ i.length + j.length ≤ sizeLine ∧ Q (.str (i ++ j)) H) := by
 intro pins s σ H x y v u Q I rx ry h
 obtain ⟨i, j, rfl, rfl, hz, q⟩ := h
 obtain ⟨t, rfl⟩ := rx
 obtain ⟨t', rfl⟩ := ry
 exact add_str (fun t' tk => ⟨.str (i ++ j), H, I.tok _, ⟨_, rfl⟩, q⟩) hz
theorem xL {x : V} {us : List Value} (r : bK [x] us) : ∃ u, us = [u] ∧ bI x u := by
 cases r with
 | cons r1 r2 => cases r2; exact ⟨_, rfl, r1⟩
theorem aIU {x y : V} {us : List Value} (r : bK [x, y] us) : ∃ u w', us = [u, w'] ∧ bI x u ∧ bI y w' := by
 cases r with
 | cons r1 r2 =>
  cases r2 with
  | cons r3 r4 => cases r4; exact ⟨_, _, rfl, r1, r3⟩
theorem jP (hc : X.calm = true) : hG X (.builtin "max") (fun xs H Q => ∃ i j, xs = [.int i, .int j] ∧ Q (.int (if j > i then j else i)) H) := by
 intro pins s σ H xs us Q I r h
 obtain ⟨i, j, rfl, q⟩ := h
 obtain ⟨u, w', rfl, ⟨t, rfl⟩, ⟨t', rfl⟩⟩ := aIU r
 refine max_two_ints (I.ok.hd hc) fun h' tk k => ⟨_, H, I.kept k, ?_, q⟩
 by_cases hj : j > i
 ·rw [if_pos hj, if_pos hj]; exact ⟨_, rfl⟩
 ·rw [if_neg hj, if_neg hj]; exact ⟨_, rfl⟩
theorem qK (hc : X.calm = true) : hG X (.builtin "min") (fun xs H Q => ∃ i j, xs = [.int i, .int j] ∧ Q (.int (if j < i then j else i)) H) := by
 intro pins s σ H xs us Q I r h
 obtain ⟨i, j, rfl, q⟩ := h
 obtain ⟨u, w', rfl, ⟨t, rfl⟩, ⟨t', rfl⟩⟩ := aIU r
 refine min_two_ints (I.ok.hd hc) fun h' tk k => ⟨_, H, I.kept k, ?_, q⟩
 by_cases hj : j < i
 ·rw [if_pos hj, if_pos hj]; exact ⟨_, rfl⟩
 ·rw [if_neg hj, if_neg hj]; exact ⟨_, rfl⟩
theorem aEC : hG X (.type "int") (fun xs H Q => (∃ i, xs = [.int i] ∧ Q (.int i) H) ∨ ∃ k, xs = [.bl k] ∧ Q (.int (if k then 1 else 0)) H) := by
 intro pins s σ H xs us Q I r h
 rcases h with ⟨i, rfl, q⟩ | ⟨k, rfl, q⟩
 ·obtain ⟨u, rfl, t, rfl⟩ := xL r
  exact call_int_int ⟨.int i, H, I, ⟨_, rfl⟩, q⟩
 ·obtain ⟨u, rfl, r1⟩ := xL r
  cases r1
  exact call_int_bool ⟨.int (if k then 1 else 0), H, I.tok _, ⟨_, rfl⟩, q⟩
end
end L2
namespace L2
open PySem PySem.Spec PyProof.Rows
structure ObjM (h : Heap) (x dx C : Addr) (mA : Str → Option Value) : Prop where
 obj : h.get? x = some (PySem.W.instObj C dx)
 ns : h.Ns1 dx mA
 ne : dx ≠ x
theorem aDL {h : Heap} {dx : Addr} {mA : Str → Option Value} (n : h.Ns1 dx mA) : ∃ od, h.get? dx = some od ∧ ∀ name, PySem.W.lookIn name od = some (mA name) := by
 obtain ⟨o, es, ep, ho, hd, hk, _, hm⟩ := n
 refine ⟨o, ho, fun name => ?_⟩
 have e := hm name
 unfold nsFind findBy at e
 rw [← Array.find?_toList] at e
 unfold PySem.W.lookIn
 rw [hd]
 dsimp only
 split
 ·rename_i y q
  rw [q] at e
  exact congrArg some e
 ·rename_i q
  rw [q] at e
  have a : es.toList.any (·.refKey) = false := by
   rw [List.any_eq_false]
   intro y hy
   obtain ⟨z, t, hkey⟩ := hk y (Array.mem_toList_iff.mp hy)
   simp [DictEntry.refKey, hkey]
  have a' : ¬ es.toList.any (·.refKey) = true := by rw [a]; exact Bool.false_ne_true
  rw [if_neg a']
  exact congrArg some e
theorem ObjM.look {h : Heap} {x dx C : Addr} {mA : Str → Option Value} (I : ObjM h x dx C mA) : ∃ od, PySem.W.InstAt h x (PySem.W.instObj C dx) C (some od) ∧ ∀ name, PySem.W.lookIn name od = some (mA name) :=
 let ⟨od, ho, hl⟩ := aDL I.ns
 ⟨od, ⟨I.obj, rfl, rfl, ho⟩, hl⟩
section
variable {prog : Program} {w : World} {A : Around} {E : Value → Shared → Prop} {s : Shared} {K : PySem.W.Frag} {x dx C f : Addr} {mA : Str → Option Value} {name : Str} {v : Value}
theorem aIH {expr : Bool} {Q : Value → Shared → Prop} (X : K.In s.heap) (I : ObjM s.heap x dx C mA) (hg : PySem.W.plainGet K C name = true) (hh : PySem.W.hasDictIn K C = true)
  (ha : PySem.W.findIn K (.ref C) name = some none) (hv : mA name = some v) (hv' : PySem.W.handedIn v = true) (h : Q v { s with toks := s.toks + 1 }) :
  wpAny (model prog w) A (getAttr (.ref x) name expr) Q E s := by
 obtain ⟨od, J, hl⟩ := I.look
 exact PySem.W.get_value X J (PySem.W.plainGet_of hg).1 (PySem.W.findObj_own hh ha rfl (by rw [hl, hv])) hv' h
theorem aGP {pl : Sem Bool} {Q : Value × List Value → Shared → Prop} (X : K.In s.heap) (I : ObjM s.heap x dx C mA) (hg : PySem.W.plainGet K C name = true)
  (hf : PySem.W.findIn K (.ref C) name = some (some (.ref f))) (ht : PySem.W.isFn K (.ref f) = true) (hv : mA name = none) (h : Q (.ref f, [.ref x]) s) :
  wpAny (model prog w) A (getMethod (.ref x) name pl) Q E s := by
 obtain ⟨od, J, hl⟩ := I.look
 exact PySem.W.method_fn X J (PySem.W.plainGet_of hg).1 (PySem.W.plainGet_of hg).2 hf (beq_iff_eq.mp ht) (by show (PySem.W.lookIn name od).map (·.isSome) = some false; rw [hl, hv]; rfl) h
theorem aHP {ns : List Str} {Q : Unit → Shared → Prop} (X : K.In s.heap) (I : ObjM s.heap x dx C mA)
  (hs : PySem.W.findIn K (.ref C) "__setattr__" = some (some (.builtin "object.__setattr__"))) (hp : PySem.W.plainOver K C = true) (ht : PySem.W.takerIn K C name = some none) (hh : PySem.W.hasDictIn K C = true)
  (hw : PySem.Within mA ns) (hsz : ns.length ≤ sizeLine)
  (h : ∀ h', ObjM h' x dx C (fun y => if y = name then some v else mA y) → Heap.SameBut dx s.heap h' → Q () { s with heap := h', toks := s.toks + 2 }) :
  wpAny (model prog w) A (setAttr (.ref x) name v) Q E s := by
 obtain ⟨od, J, hl⟩ := I.look
 refine PySem.W.set_plain X J hs (PySem.W.osa_open (s := { s with toks := s.toks + 1 }) (r := none) X J hp ht fun b => ?_)
 obtain ⟨cd, hc, hd'⟩ := PySem.W.any_some hh
 have hx : s.heap.get? x = some ⟨.ref C, some dx, .plain, #[]⟩ := I.obj
 refine wpAny_bind (wpAny_pure (wpAny_bind (wpAny_bind (wpAny_loadPart hx (wpAny_bind (PySem.W.Looks.here (s := { s with toks := s.toks + 1 }) (PySem.W.looks_clsIn X hc) ?_))))))
 rw [hd']
 refine wpAny_pure (a := some dx) (wpAny_bind (wpAny_pure (wpAny_bind ?_)))
 refine wpAny_nsSet1 (s := { s with toks := s.toks + 1 }) I.ns fun h' hn2 hs2 => ?_
 obtain ⟨oD, esD, epD, hoD, hdD, hcD⟩ := hn2.count (PySem.Within.cons name v hw)
 refine wpAny_bind (wpAny_lookBehind hoD (by rw [hdD]; exact pastItsLine_dict (Nat.le_trans hcD (by rw [List.length_cons]; omega))) ?_)
 exact wpAny_pure (h _ ⟨(hs2.2 _ (Ne.symm I.ne)).trans I.obj, hn2, I.ne⟩ hs2)
theorem aFX {R : Result → Shared → Prop} {vs : List Value} {kw : List (Str × Value)} (X : K.In s.heap) (hm : PySem.W.makesIn K C = true)
  (hi : PySem.W.findIn K (.ref C) "__init__" = some (some (.ref f))) (hf : PySem.W.typeIn K (.ref f) = some (.type "function"))
  (h : codeAny (model prog w) (A.under (.builtin "type.__call__" ⟨.ref C :: vs, kw⟩)) (.call (.ref f) ⟨.ref (s.heap.objs.size + 1) :: vs, kw⟩) (PySem.W.InitBack (s.heap.objs.size + 1) R)
   { s with heap := (s.heap.push PySem.W.emptyDict).push (PySem.W.instObj C s.heap.objs.size) }) :
  codeAny (model prog w) A (.call (.ref C) ⟨vs, kw⟩) R s := by
 obtain ⟨hh, g, d, t, os⟩ := s
 exact PySem.W.make_core (PySem.W.makes_of X hm) (PySem.W.looks_findIn X hi) (fun self => PySem.W.bind_fn X self hf) (.inl rfl) h
end
def cX (f : Str) (v : V) : List (Str × V) → List (Str × V)
 | [] => [(f, v)]
 | (g, x) :: r => if g = f then (g, v) :: r else (g, x) :: cX f v r
theorem aU (f g : Str) (v : V) : ∀ fs : List (Str × V), (cX f v fs).lookup g = if g = f then some v else fs.lookup g
 | [] => by
  show List.lookup g [(f, v)] = _
  by_cases h : g = f
  ·have hb : (g == f) = true := beq_iff_eq.mpr h
   simp only [List.lookup, hb, if_pos h]
  ·have hb : (g == f) = false := beq_eq_false_iff_ne.mpr h
   simp only [List.lookup, hb, if_neg h]
 | (k, x) :: r => by
  have ih := aU f g v r
  rw [show cX f v ((k, x) :: r) = (if k = f then (k, v) :: r else (k, x) :: cX f v r) from rfl]
  by_cases hk : k = f
  ·rw [if_pos hk]
   by_cases h : g = k
   ·have hb : (g == k) = true := beq_iff_eq.mpr h
    simp only [List.lookup, hb, if_pos (h.trans hk)]
   ·have hb : (g == k) = false := beq_eq_false_iff_ne.mpr h
    simp only [List.lookup, hb, if_neg (fun e : g = f => h (e.trans hk.symm))]
  ·rw [if_neg hk]
   by_cases h : g = k
   ·have hb : (g == k) = true := beq_iff_eq.mpr h
    simp only [List.lookup, hb, if_neg (fun e : g = f => hk (h.symm.trans e))]
   ·have hb : (g == k) = false := beq_eq_false_iff_ne.mpr h
    simp only [List.lookup, hb]
    exact ih
theorem qB (f : Str) (v : V) : ∀ fs : List (Str × V), f ∈ (cX f v fs).map (·.1) ∧ ∀ g, g ∈ fs.map (·.1) → g ∈ (cX f v fs).map (·.1)
 | [] => ⟨by simp [cX], fun g h => by simp at h⟩
 | (k, x) :: r => by
  obtain ⟨i1, i2⟩ := qB f v r
  rw [show cX f v ((k, x) :: r) = (if k = f then (k, v) :: r else (k, x) :: cX f v r) from rfl]
  by_cases hk : k = f
  ·rw [if_pos hk]
   subst hk
   exact ⟨by simp, fun g h => by simpa using h⟩
  ·rw [if_neg hk]
   refine ⟨?_, fun g h => ?_⟩
   ·rw [List.map_cons]
    exact List.mem_cons_of_mem _ i1
   ·rw [List.map_cons] at h ⊢
    rcases List.mem_cons.mp h with e | e
    ·exact List.mem_cons.mpr (.inl e)
    ·exact List.mem_cons_of_mem _ (i2 g e)
theorem qR (f : Str) (v : V) : ∀ fs : List (Str × V), (cX f v fs).length ≤ fs.length + 1
 | [] => by simp [cX]
 | (k, x) :: r => by
  have ih := qR f v r
  rw [show cX f v ((k, x) :: r) = (if k = f then (k, v) :: r else (k, x) :: cX f v r) from rfl]
  by_cases hk : k = f
  ·rw [if_pos hk, List.length_cons, List.length_cons]; omega
  ·rw [if_neg hk, List.length_cons, List.length_cons]; omega
theorem mN.some_of {v : V} {o : Option Value} (r : mN (some v) o) : ∃ u, o = some u ∧ bI v u := by
 cases o with
 | none => exact (show False from r).elim
 | some u => exact ⟨u, rfl, r⟩
theorem mN.none_of {o : Option Value} (r : mN none o) : o = none := by
 cases o with
 | none => rfl
 | some u => exact (show False from r).elim
theorem aDP {v : V} {u : Value} (r : bI v u) : PySem.W.handedIn u = true := by
 cases v with
 | non => cases (show u = Value.none from r); rfl
 | bl b => cases (show u = Value.bool b from r); rfl
 | int i => obtain ⟨t, e⟩ := (show ∃ t, u = Value.int i t from r); cases e; rfl
 | str x => obtain ⟨t, e⟩ := (show ∃ t, u = Value.str x t from r); cases e; rfl
 | byt b => obtain ⟨t, e⟩ := (show ∃ t, u = Value.bytes b t from r); cases e; rfl
 | flt b => obtain ⟨t, e⟩ := (show ∃ t, u = Value.float b t from r); cases e; rfl
 | ref a => cases (show u = Value.ref a from r); rfl
 | ty n => cases (show u = Value.type n from r); rfl
section
variable {P : Program} {w : World} {H H' : Hp} {h h' : Heap} {a C dx : Addr} {fs fs' : List (Str × V)}
theorem rX (hok : HOk P w H h) (e : H a = some (.ins C dx fs)) : ∃ mA, ObjM h a dx C mA ∧ (∀ f, mN (fs.lookup f) (mA f)) ∧ PySem.Within mA (fs.map (·.1)) ∧ fs.length ≤ 1000 ∧ H dx = some (.own a) := by
 obtain ⟨d, z, ne, ob, mA, n, r, q⟩ := (show cW P w H h a (.ins C dx fs) from hok a _ e)
 exact ⟨mA, ⟨ob, n, ne⟩, r, q, z, d⟩
end
structure Cls (K : PySem.W.Frag) (C : Addr) : Prop where
 pg : PySem.W.plainGet K C Str.empty = true
 hd : PySem.W.hasDictIn K C = true
 po : PySem.W.plainOver K C = true
 sa : PySem.W.findIn K (.ref C) "__setattr__" = some (some (.builtin "object.__setattr__"))
theorem Cls.get {K : PySem.W.Frag} {C : Addr} (c : Cls K C) (f : Str) : PySem.W.plainGet K C f = true := c.pg
def gX (K : PySem.W.Frag) (C : Addr) (f : Str) : Prop := PySem.W.findIn K (.ref C) f = some none
theorem gX.taker {K : PySem.W.Frag} {C : Addr} {f : Str} (n : gX K C f) : PySem.W.takerIn K C f = some none := by
 unfold PySem.W.takerIn
 rw [show PySem.W.findIn K (.ref C) f = some none from n]
 rfl
structure Con (K : PySem.W.Frag) (C : Addr) (f : Str) (v : V) (u : Value) : Prop where
 at_ : PySem.W.findIn K (.ref C) f = some (some u)
 rel : bI v u
 get : PySem.W.specialIn K u "__get__" = some none
 cp : PySem.W.copiedNames.contains f = false
structure Meth (K : PySem.W.Frag) (C : Addr) (m : Str) (f : Addr) : Prop where
 at_ : PySem.W.findIn K (.ref C) m = some (some (.ref f))
 fn : PySem.W.isFn K (.ref f) = true
 kp : PySem.W.keepIn K (.ref f) = true
section
variable {X : Cx} {pins : List (Addr × Obj)} {σ : St} {H : Hp} {s : Shared} {a C dx : Addr} {fs : List (Str × V)} {f : Str} {v : V} {A : Around} {E : Value → Shared → Prop}
theorem tW {b : Bool} {Q : Value → Shared → Prop} (I : Inv X pins σ H s) (e : H a = some (.ins C dx fs)) (c : Cls X.K C) (n : gX X.K C f) (l : fs.lookup f = some v)
  (h : ∀ u s', Inv X pins σ H s' → bI v u → Q u s') : wpAny (model X.prog X.w) A (getAttr (.ref a) f b) Q E s := by
 obtain ⟨mA, O, r, _, _, _⟩ := rX I.hok e
 obtain ⟨u, hu, ru⟩ := mN.some_of (v := v) (o := mA f) (by rw [← l]; exact r f)
 exact aIH I.kIn O (c.get f) c.hd n hu (aDP ru) (h u _ (I.tok _) ru)
theorem tV {m : Str} {g : Addr} {pl : Sem Bool} {Q : Value × List Value → Shared → Prop} (I : Inv X pins σ H s) (e : H a = some (.ins C dx fs)) (c : Cls X.K C) (k : Meth X.K C m g) (l : fs.lookup m = none)
  (h : Q (.ref g, [.ref a]) s) : wpAny (model X.prog X.w) A (getMethod (.ref a) m pl) Q E s := by
 obtain ⟨mA, O, r, _, _, _⟩ := rX I.hok e
 have hn : mA m = none := mN.none_of (by rw [← l]; exact r m)
 exact aGP I.kIn O (c.get m) k.at_ k.fn hn h
theorem sI {y : V} {u : Value} {Q : Unit → Shared → Prop} (I : Inv X pins σ H s) (e : H a = some (.ins C dx fs)) (c : Cls X.K C) (n : gX X.K C f) (hl : fs.length < 1000) (ry : bI y u)
  (h : ∀ s', Inv X pins σ (upd H a (.ins C dx (cX f y fs))) s' → Q () s') : wpAny (model X.prog X.w) A (setAttr (.ref a) f u) Q E s := by
 obtain ⟨mA, O, r, wi, _, ho⟩ := rX I.hok e
 have hz : (fs.map (·.1)).length ≤ sizeLine := by rw [List.length_map, sizeLine_eq]; omega
 refine aHP I.kIn O c.sa c.po n.taker c.hd wi hz fun h' O' sb => h _ ?_
 have hd : ∃ o, h'.get? dx = some o := let ⟨o, _, _, e', _⟩ := O'.ns; ⟨o, e'⟩
 refine I.write (x := a) (e := dx) (by rw [e]; exact True.intro) (.inr ho) (fun b q hb z => (sb.2 b hb).trans z) hd ?_
 refine ⟨by rw [aT O.ne]; exact ho, ?_, O.ne, O'.obj, _, O'.ns, fun g => ?_, fun g hg => ?_⟩
 ·have := qR f y fs; omega
 ·show mN ((cX f y fs).lookup g) (if g = f then some u else mA g)
  rw [aU]
  by_cases q : g = f
  ·rw [if_pos q, if_pos q]; exact ry
  ·rw [if_neg q, if_neg q]; exact r g
 ·by_cases q : g = f
  ·rw [q]; exact (qB f y fs).1
  ·refine (qB f y fs).2 g (wi g fun z => hg ?_)
   show (if g = f then some u else mA g) = none
   rw [if_neg q]; exact z
theorem Inv.made (I : Inv X pins σ H s) : Inv X pins σ (upd (upd H s.heap.objs.size (.own (s.heap.objs.size + 1))) (s.heap.objs.size + 1) (.ins C s.heap.objs.size []))
  { s with heap := (s.heap.push PySem.W.emptyDict).push (PySem.W.instObj C s.heap.objs.size) } := by
 have e1 : (s.heap.push PySem.W.emptyDict).get? s.heap.objs.size = some PySem.W.emptyDict := Heap.get?_push_size s.heap rfl
 have e2 : ((s.heap.push PySem.W.emptyDict).push (PySem.W.instObj C s.heap.objs.size)).get? (s.heap.objs.size + 1) = some (PySem.W.instObj C s.heap.objs.size) := by
  have := Heap.get?_push_size (s.heap.push PySem.W.emptyDict) (o := PySem.W.instObj C s.heap.objs.size) rfl
  rwa [Heap.size_push] at this
 have e3 : (s.heap.push PySem.W.emptyDict).Ns s.heap.objs.size (fun _ => none) := ⟨PySem.W.emptyDict, #[], _, e1, rfl, (fun e he => absurd he (by simp)), fun _ => rfl⟩
 have I1 := I.laid (a := s.heap.objs.size) (o := .own (s.heap.objs.size + 1)) (h' := s.heap.push PySem.W.emptyDict) (t' := s.toks) (fun b u q => Heap.get?_push_of_some _ q) (Nat.le_refl _) ⟨_, e1⟩
 refine I1.laid (a := s.heap.objs.size + 1) (o := .ins C s.heap.objs.size []) (t' := s.toks) (fun b u q => Heap.get?_push_of_some _ q) (Nat.le_of_eq (Heap.size_push _ _)) ?_
 have ne : s.heap.objs.size ≠ s.heap.objs.size + 1 := Nat.ne_of_lt (Nat.lt_succ_self _)
 refine ⟨by rw [aT ne, aB], Nat.zero_le _, ne, e2, fun _ => none, (Heap.Ns1.of_empty e3).at fun o q => Heap.get?_push_of_some _ q, fun _ => True.intro, fun y hy => absurd rfl hy⟩
theorem aIP {prog : Program} {w : World} {env : Env} {e : Expr} {f : Str} {pos : Pos} {s : Shared} {Q : Value → Shared → Prop} (hb : attributeBase e f env (eval e env) = eval e env)
  (h : wpAny (model prog w) A (eval e env) (fun o s₁ => wpAny (model prog w) A (getAttr o f true) Q E s₁) E s) : wpAny (model prog w) A (eval (.Attribute e f pos) env) Q E s :=
 Attribute_any_ h (by rw [arm_eval_Attribute, hb])
end
def aND (K : PySem.W.Frag) (ta : TE) (f : Str) : TE := fun σ H Q => ta σ H fun x H1 => ∃ a C dx fs v, x = .ref a ∧ H1 a = some (.ins C dx fs) ∧ Cls K C ∧ gX K C f ∧ fs.lookup f = some v ∧ Q v H1
def aNI (K : PySem.W.Frag) (ta tv : TE) (f : Str) : TS := fun D σ H => tv σ H fun y H1 => ta σ H1 fun x H2 => ∃ a C dx fs, x = .ref a ∧ H2 a = some (.ins C dx fs) ∧ Cls K C ∧ gX K C f ∧ fs.length < 1000 ∧
 D.nx σ (upd H2 a (.ins C dx (cX f y fs)))
def aLD (X : Cx) (op : Operator) (rd : V → V → Hp → VK → Prop) : Prop :=
 ∀ (pins : List (Addr × Obj)) (s : Shared) (σ : St) (H : Hp) (x y : V) (u v : Value) (Q : VK), Inv X pins σ H s → bI x u → bI y v → rd x y H Q → wpAny (model X.prog X.w) X.A (inplaceOp op u v) (EP X pins σ Q) X.xe s
def aHQ (K : PySem.W.Frag) (ta tv : TE) (rd : V → V → Hp → VK → Prop) (f : Str) : TS := fun D σ H => ta σ H fun x H1 => ∃ a C dx fs v, x = .ref a ∧ H1 a = some (.ins C dx fs) ∧ Cls K C ∧ gX K C f ∧ fs.lookup f = some v ∧
 tv σ H1 fun y H2 => rd v y H2 fun z H3 => ∃ dx' fs', H3 a = some (.ins C dx' fs') ∧ fs'.length < 1000 ∧ D.nx σ (upd H3 a (.ins C dx' (cX f z fs')))
section
variable {X : Cx} {o e value : Expr} {f : Str} {pos pos' tpos : Pos} {ta tv : TE}
theorem gT (he : PE X e ta) (hb : attributeBase e f X.env (eval e X.env) = eval e X.env) : PE X (.Attribute e f pos) (aND X.K ta f) := by
 intro pins s σ H Q I h
 refine aIP hb (thn (he pins s σ H _ I h) fun u s1 ⟨x, H1, I1, rx, a, C, dx, fs, v, ex, ea, c, n, l, q⟩ => ?_)
 subst ex
 obtain rfl : u = Value.ref a := rx
 exact tW I1 ea c n l fun u' s2 I2 ru => ⟨v, H1, I2, ru, q⟩
theorem kT (ha : PE X o ta) (hv : PE X value tv) (hs : swapsWith value (some (.Attribute o f pos')) pos.line X.env = pure false) : PS X (.Assign [.Attribute o f pos'] value pos) (aNI X.K ta tv f) := by
 intro pins s σ H D I h
 refine plainObj_wpAny_Assign_Attribute (thn (hv pins s σ H _ I h) fun u s1 ⟨y, H1, I1, ry, q⟩ => thn (ha pins s1 σ H1 _ I1 q) fun ov s2 ⟨x, H2, I2, rx, a, C, dx, fs, ex, ea, c, n, l, q2⟩ => ?_) hs
 subst ex
 obtain rfl : ov = Value.ref a := rx
 exact sI I2 ea c n l ry fun s3 I3 => ⟨σ, _, I3, q2⟩
theorem aDB {op : Operator} {rd : V → V → Hp → VK → Prop} (ha : PE X o ta) (hv : PE X value tv) (hop : aLD X op rd) : PS X (.AugAssign (.Attribute o f tpos) op value pos) (aHQ X.K ta tv rd f) := by
 intro pins s σ H D I h
 refine wpAny_AugAssign_AttributeAny (thn (ha pins s σ H _ I h) fun ov s1 ⟨x, H1, I1, rx, a, C, dx, fs, v, ex, ea, c, n, l, q⟩ => ?_)
 subst ex
 obtain rfl : ov = Value.ref a := rx
 refine tW I1 ea c n l fun u s2 I2 ru => thn (hv pins s2 σ H1 _ I2 q) fun w3 s3 ⟨y, H2, I3, ry, q3⟩ => thn (hop pins s3 σ H2 v y u w3 _ I3 ru ry q3) fun w4 s4 ⟨z, H3, I4, rz, dx', fs', ea', l', q4⟩ => ?_
 exact sI I4 ea' c n l' rz fun s5 I5 => ⟨σ, _, I5, q4⟩
def aNL : V → V → Hp → VK → Prop := fun x y H Q => ∃ i j, x = .int i ∧ y = .int j ∧ Q (.int (i + j)) H
theorem aGJ : aLD X .Add aNL := by
 rintro pins s σ H x y u v Q I rx ry ⟨i, j, rfl, rfl, q⟩
 obtain ⟨t, rfl⟩ := (show ∃ t, u = Value.int i t from rx)
 obtain ⟨t', rfl⟩ := (show ∃ t', v = Value.int j t' from ry)
 exact PyProof.Rows.iadd_int ⟨.int (i + j), H, I.tok _, ⟨_, rfl⟩, q⟩
end
section
variable {X : Cx} {pins : List (Addr × Obj)} {σ : St} {H : Hp} {s : Shared} {A : Around} {E : Value → Shared → Prop} {Q : Value → Shared → Prop} {c : Value} {b : Bool}
inductive TyOf (K : PySem.W.Frag) (H : Hp) : V → Value → Prop where
 | non : TyOf K H .non (.type "NoneType")
 | bl (x : Bool) : TyOf K H (.bl x) (.type "bool")
 | int (i : Int) : TyOf K H (.int i) (.type "int")
 | str (x : Str) : TyOf K H (.str x) (.type "str")
 | flt (x : UInt64) : TyOf K H (.flt x) (.type "float")
 | lst {a : Addr} {xs : List V} (e : H a = some (.lst xs)) : TyOf K H (.ref a) (.type "list")
 | frz {a : Addr} {o : Obj} {xs : List V} (e : H a = some (.frz o (.lst xs))) : TyOf K H (.ref a) (.type "list")
 | tup {a : Addr} {xs : List V} (e : H a = some (.tup xs)) : TyOf K H (.ref a) (.type "tuple")
 | dK {a : Addr} {kvs : List (Key × V)} (e : H a = some (.dK kvs)) : TyOf K H (.ref a) (.type "dict")
 | dT {a : Addr} {kvs : List (List Key × V)} (e : H a = some (.dT kvs)) : TyOf K H (.ref a) (.type "dict")
 | ins {a C dx : Addr} {fs : List (Str × V)} (e : H a = some (.ins C dx fs)) (cl : Cls K C) (ha : PySem.W.findIn K (.ref C) "__class__" = some (some (.builtin "object.__class__")))
   (hn : PySem.W.specialIn K (.builtin "object.__class__") "__get__" = some (some (.builtin "getset_descriptor.__get__"))) (htk : PySem.W.takesIn K (.builtin "object.__class__") = some true)
   (hm : PySem.W.mroIn K C (.type "object") = some true) : TyOf K H (.ref a) (.ref C)
theorem aDM {x : V} {u t : Value} (I : Inv X pins σ H s) (rx : bI x u) (ty : TyOf X.K H x t) (e : PySem.W.kitOne X.K t c = some b) (h : ∀ tk, Q (.bool b) { s with toks := tk }) :
  wpAny (model X.prog X.w) A (call (.builtin "isinstance") [u, c]) Q E s := by
 cases ty with
 | non => cases (show u = Value.none from rx); exact PySem.W.kia_one PySem.W.kitx_none I.kIn True.intro e (fun z => nomatch z) h
 | bl y => cases (show u = Value.bool y from rx); exact PySem.W.kia_one PySem.W.kitx_bool I.kIn True.intro e (fun z => nomatch z) h
 | int i => obtain ⟨t, q⟩ := (show ∃ t, u = Value.int i t from rx); cases q; exact PySem.W.kia_one PySem.W.kitx_int I.kIn True.intro e (fun z => nomatch z) h
 | str y => obtain ⟨t, q⟩ := (show ∃ t, u = Value.str y t from rx); cases q; exact PySem.W.kia_one PySem.W.kitx_str I.kIn True.intro e (fun z => nomatch z) h
 | flt y => obtain ⟨t, q⟩ := (show ∃ t, u = Value.float y t from rx); cases q; exact PySem.W.kia_one PySem.W.kitx_float I.kIn True.intro e (fun z => nomatch z) h
 | @lst a xs ea =>
  cases (show u = Value.ref a from rx)
  obtain ⟨_, _, n, _, h1⟩ := (show cW X.prog X.w H s.heap a (.lst xs) from I.hok a _ ea)
  exact PySem.W.kia_one PySem.W.kitx_list I.kIn ⟨_, h1, rfl⟩ e (fun z => nomatch z) h
 | @frz a ob xs ea =>
  cases (show u = Value.ref a from rx)
  obtain ⟨_, _, _, n, _, h1⟩ := (show cW X.prog X.w H s.heap a (.frz ob (.lst xs)) from I.hok a _ ea)
  exact PySem.W.kia_one PySem.W.kitx_list I.kIn ⟨_, h1, rfl⟩ e (fun z => nomatch z) h
 | @tup a xs ea =>
  cases (show u = Value.ref a from rx)
  obtain ⟨_, _, _, p⟩ := (show cW X.prog X.w H s.heap a (.tup xs) from I.hok a _ ea)
  obtain ⟨o, h1, h2, _⟩ := p
  exact PySem.W.kia_one PySem.W.kitx_tuple I.kIn ⟨o, h1, h2⟩ e (fun z => nomatch z) h
 | @dK a kvs ea =>
  cases (show u = Value.ref a from rx)
  obtain ⟨_, _, vs, _, p⟩ := (show cW X.prog X.w H s.heap a (.dK kvs) from I.hok a _ ea)
  obtain ⟨o, es, ep, h1, h2, _⟩ := p
  exact PySem.W.kia_one PySem.W.kitx_dict I.kIn ⟨o, h1, h2.1⟩ e (fun z => nomatch z) h
 | @dT a kvs ea =>
  cases (show u = Value.ref a from rx)
  obtain ⟨_, _, xs, _, o, es, ep, h1, h2, _⟩ := (show cW X.prog X.w H s.heap a (.dT kvs) from I.hok a _ ea)
  exact PySem.W.kia_one PySem.W.kitx_dict I.kIn ⟨o, h1, h2.1⟩ e (fun z => nomatch z) h
 | @ins a C dx fs ea cl ha hn htk hm =>
  cases (show u = Value.ref a from rx)
  obtain ⟨mA, O, _⟩ := rX I.hok ea
  obtain ⟨od, J, _⟩ := O.look
  exact PySem.W.kia_one (PySem.W.kitx_own (cl.get _) cl.hd ha hn htk hm) I.kIn J e (fun z => nomatch z) h
end
end L2
namespace L2
open PySem PySem.Spec PyProof.Rows
structure Room (k : Nat) (A : Around) : Prop where
 hd : A.handled = none
 dp : A.depth + 3 * k + 5 < recursionLimit
 un : A.units + 16 * k + 200 < cLine
theorem Room.mono {j k : Nat} {A : Around} (r : Room k A) (h : j ≤ k) : Room j A := ⟨r.hd, by have := r.dp; omega, by have := r.un; omega⟩
theorem Room.deeper {k : Nat} {A : Around} (r : Room (k + 1) A) (env : Env) : Room k (A.deeper env) :=
 ⟨r.hd, by have := r.dp; show A.depth + 1 + 3 * k + 5 < _; omega, by have := r.un; show A.units + 3 + 16 * k + 200 < _; omega⟩
theorem aAB {A : Around} {C : Addr} {us : List Value} {kw : List (Str × Value)} : (A.under (.builtin "type.__call__" ⟨.ref C :: us, kw⟩)).depth = A.depth + 1 := by
 first | rfl | simp [Around.under, Code.weight, Code.isCreation, Code.isGuard, Code.isCaller, Code.frames, Code.isFrame, guardIds]
theorem aAA {A : Around} {C : Addr} {us : List Value} {kw : List (Str × Value)} : (A.under (.builtin "type.__call__" ⟨.ref C :: us, kw⟩)).units = A.units + 1 := by
 first | rfl | simp [Around.under, Code.cUnits, Code.frames, Code.isFrame]
theorem Room.make {k : Nat} {A : Around} (r : Room (k + 1) A) (C : Addr) (us : List Value) (kw : List (Str × Value)) : Room k (A.under (.builtin "type.__call__" ⟨.ref C :: us, kw⟩)) :=
 ⟨r.hd, by have := r.dp; rw [aAB]; omega, by have := r.un; rw [aAA]; omega⟩
theorem Room.depth {k : Nat} {A : Around} (r : Room k A) : A.depth < recursionLimit := by have := r.dp; omega
theorem Room.units {k : Nat} {A : Around} (r : Room k A) : A.units + 64 < cLine := by have := r.un; omega
def aJP : TA := fun _ H Q => Q [] H
def aLO (ta : TE) (tr : TA) : TA := fun σ H Q => ta σ H fun x H1 => tr σ H1 fun xs H2 => Q (x :: xs) H2
section
variable {X : Cx} {e : Expr} {es : List Expr} {te : TE} {t : TA} {pos : Pos}
theorem aD : PA X [] aJP := fun _ _ _ _ H Q I h => Calls.spliced_nil ⟨[], H, I, .nil, h⟩
theorem aA (ha : PE X e te) (hr : PA X es t) (hs : starEach (e :: es) X.env = (false, eval e X.env) :: starEach es X.env := by rfl) : PA X (e :: es) (aLO te t) := by
 intro pos pins s σ H Q I h
 rw [hs]
 show wpAny _ _ (spliced ((false, eval e X.env) :: backTo pos (starEach es X.env))) _ _ s
 refine Calls.spliced_cons (thn (ha pins s σ H _ I h) fun u s1 ⟨x, H1, I1, r1, q1⟩ => ?_)
 exact thn (hr pos pins s1 σ H1 _ I1 q1) fun us s2 ⟨xs, H2, I2, r2, q2⟩ => ⟨x :: xs, H2, I2, .cons r1 r2, q2⟩
def aMX (t : TA) : TE := fun σ H Q => t σ H fun xs H1 => xs.length ≤ sizeLine ∧ ∀ p, H1 p = none → Q (.ref p) (upd H1 p (.tup xs))
def aNB (t : TA) : TE := fun σ H Q => t σ H fun xs H1 => xs.length ≤ sizeLine ∧ ∀ p, H1 p = none → Q (.ref p) (upd H1 p (.lst xs))
theorem cO {x1} (h : PA X es t) : PE X (.Tuple es x1 pos) (aMX t) := by
 intro pins s σ H Q I hq
 refine wpAny_Tuple_spliced (thn (h pos pins s σ H _ I hq) fun us s1 ⟨xs, H1, I1, r, z, q⟩ => ⟨by rw [← r.length]; exact z, ?_⟩)
 have hf : H1 s1.heap.objs.size = none := I1.hok.fresh (Nat.le_refl _)
 refine ⟨.ref s1.heap.objs.size, upd H1 s1.heap.objs.size (.tup xs), I1.laid (t' := s1.toks) (fun b u e => Heap.get?_push_of_some _ e) (Nat.le_refl _) ?_, rfl, q _ hf⟩
 exact ⟨z, us, r, ⟨_, Heap.get?_push_size _ rfl, rfl, _, rfl, rfl⟩⟩
theorem cG (h : PA X es t) : PE X (.List es pos) (aNB t) := by
 intro pins s σ H Q I hq
 refine wpAny_List_spliced (thn (h pos pins s σ H _ I hq) fun us s1 ⟨xs, H1, I1, r, z, q⟩ => ⟨by rw [← r.length]; exact z, ?_⟩)
 have hf : H1 s1.heap.objs.size = none := I1.hok.fresh (Nat.le_refl _)
 refine ⟨.ref s1.heap.objs.size, upd H1 s1.heap.objs.size (.lst xs), I1.laid (t' := s1.toks) (fun b u e => Heap.get?_push_of_some _ e) (Nat.le_refl _) ?_, rfl, q _ hf⟩
 exact ⟨z, us, 0, r, Heap.get?_push_size _ rfl⟩
end
abbrev Sp := List V → Hp → VK → XK → Prop
abbrev CXT := List Env → Hp → Shared → XK → Value → Shared → Prop
structure Env0 (P : Program) (w : World) (K : PySem.W.Frag) (mg : Str → Option Value) (base : Heap) (A : Around) (outer : List Env) (s : Shared) (H : Hp) : Prop where
 frames : A.frames = some outer
 mod : Mod K mg base
 bs : ∀ b o, base.get? b = some o → s.heap.get? b = some o ∧ H b = none
 bsz : base.objs.size ≤ s.heap.objs.size
 funs : s.heap.FunFrames base outer
 frf : ∀ b ∈ frs outer, H b = none
 hok : HOk P w H s.heap
 bare : AllBare s.gens
def CE (outer : List Env) (P : Program) (w : World) (H : Hp) (s : Shared) (Q : VK) (u : Value) (s' : Shared) : Prop :=
 ∃ v H', s'.os = s.os ∧ AllBare s'.gens ∧ Un (frs outer) [] H H' s.heap s'.heap ∧ HOk P w H' s'.heap ∧ bI v u ∧ Q v H'
def CR (CX : CXT) (outer : List Env) (P : Program) (w : World) (H : Hp) (s : Shared) (Q : VK) (E : XK) (r : Result) (s' : Shared) : Prop :=
 match r with
 | .ok (.ret u) => CE outer P w H s Q u s'
 | .ok _ => False
 | .error e => CX outer H s E e s'
structure FnOk (P : Program) (w : World) (K : PySem.W.Frag) (mg : Str → Option Value) (base : Heap) (CX : CXT) (k : Nat) (f : Addr) (fd : FuncData) (ps : List Str) (sp : Sp) : Prop where
 len : ∀ vs H Q E, sp vs H Q E → vs.length = ps.length
 run : ∀ (A : Around) (outer : List Env) (s : Shared) (H : Hp) (args : Args) (us : List Value) (vs : List V) (Q : VK) (E : XK), Room k A → Env0 P w K mg base A outer s H → BindsTo s fd args (ps.zip us) → bK vs us → sp vs H Q E →
  codeAny (model P w) A (.call (.ref f) args) (CR CX outer P w H s Q E) s
theorem FnOk.imp {P : Program} {w : World} {K : PySem.W.Frag} {mg : Str → Option Value} {base : Heap} {CX : CXT} {k : Nat} {f : Addr} {fd : FuncData} {ps : List Str} {sp sp' : Sp} (F : FnOk P w K mg base CX k f fd ps sp)
  (h : ∀ vs H Q E, sp' vs H Q E → sp vs H Q E) : FnOk P w K mg base CX k f fd ps sp' :=
 ⟨fun vs H Q E q => F.len vs H Q E (h _ _ _ _ q), fun A outer s H args us vs Q E hr he hb hv hs => F.run A outer s H args us vs Q E hr he hb hv (h _ _ _ _ hs)⟩
theorem Env0.make {P : Program} {w : World} {K : PySem.W.Frag} {mg : Str → Option Value} {base : Heap} {A : Around} {outer : List Env} {s : Shared} {H : Hp} (e : Env0 P w K mg base A outer s H) (C : Addr) (us : List Value) (kw : List (Str × Value)) :
  Env0 P w K mg base (A.under (.builtin "type.__call__" ⟨.ref C :: us, kw⟩)) outer s H := ⟨by first | exact e.frames | (simpa [Around.under, Code.envs, Code.isFrame, pushEnvs] using e.frames), e.mod, e.bs, e.bsz, e.funs, e.frf, e.hok, e.bare⟩
section
variable {X : Cx} {pins : List (Addr × Obj)} {σ : St} {H : Hp} {s s' : Shared}
theorem Inv.env0 (I : Inv X pins σ H s) : Env0 X.prog X.w X.K X.mg X.base X.A X.stack s H :=
 ⟨I.ok.frames, I.ok.mod, I.bs, Nat.le_trans I.ok.bsz I.sz, I.stack, I.stkFree, I.hok, I.bare⟩
theorem Inv.after {Q : VK} {u : Value} (I : Inv X pins σ H s) (h : CE X.stack X.prog X.w H s Q u s') : EP X pins σ Q u s' := by
 obtain ⟨v, H', os, bare, un, hok, r, q⟩ := h
 obtain ⟨hh, g, d, t, os'⟩ := s'
 obtain rfl : os' = s.os := os
 exact ⟨v, H', I.call (h' := hh) (g' := g) (d' := d) (t' := t) (ch := []) un hok bare (fun b z => absurd z (by simp)), r, q⟩
end
def aIY (sp : Sp) (dvs : List V) (E : XK) (t : TA) : TE := fun σ H Q => t σ H fun vs H1 => sp (vs ++ dvs) H1 Q E
def aBE (C : Addr) (m : Str) (sp : Sp) (dvs : List V) (E : XK) (ta : TE) (t : TA) : TE := fun σ H Q => ta σ H fun x H1 => ∃ a dx fs, x = .ref a ∧ H1 a = some (.ins C dx fs) ∧ fs.lookup m = none ∧
 t σ H1 fun vs H2 => sp (x :: (vs ++ dvs)) H2 Q E
def aIW (C : Addr) (sp : Sp) (dvs : List V) (E : XK) (t : TA) : TE := fun σ H Q => t σ H fun vs H1 => ∀ x dx, H1 x = none → H1 dx = none → dx ≠ x →
 sp (.ref x :: (vs ++ dvs)) (upd (upd H1 dx (.own x)) x (.ins C dx [])) (fun v H2 => v = .non ∧ Q (.ref x) H2) E
def iC (K : PySem.W.Frag) (fd : FuncData) (ps : List Str) (ds : List Value) : Prop :=
 ∀ (s : Shared) (us : List Value), K.In s.heap → (us ++ ds).length = ps.length → BindsTo s fd ⟨us, []⟩ (ps.zip (us ++ ds))
theorem iC.all {K : PySem.W.Frag} {fd : FuncData} {ps : List Str} (h : ∀ us : List Value, us.length = ps.length → bindArgs fd ⟨us, []⟩ = pure (ps.zip us)) : iC K fd ps [] := fun s us _ hl => by
 rw [List.append_nil] at hl ⊢
 exact .of_eq (h us hl)
def oV (CX : CXT) (X : Cx) (E : XK) : Prop := ∀ (pins : List (Addr × Obj)) (σ : St) (H : Hp) (s : Shared) (e : Value) (s' : Shared), Inv X pins σ H s → CX X.stack H s E e s' → X.xe e s'
section
variable {X : Cx} {CX : CXT} {k : Nat} {f C : Addr} {fd : FuncData} {ps : List Str} {sp : Sp} {dvs : List V} {ds : List Value} {E : XK} {x m : Str} {p pos apos : Pos} {e o : Expr} {es : List Expr} {ta : TE} {t : TA}
theorem zP {pins : List (Addr × Obj)} {σ : St} {H : Hp} {s : Shared} {Q : VK} {us : List Value} {vs : List V} (F : FnOk X.prog X.w X.K X.mg X.base CX k f fd ps sp) (hr : Room k X.A) (hb : iC X.K fd ps ds) (hd : bK dvs ds) (hx : oV CX X E)
  (I : Inv X pins σ H s) (r : bK vs us) (h : sp (vs ++ dvs) H Q E) : wpAny (model X.prog X.w) X.A (call (.ref f) us) (EP X pins σ Q) X.xe s := by
 have r2 : bK (vs ++ dvs) (us ++ ds) := r.append hd
 have hl : (us ++ ds).length = ps.length := by rw [← r2.length]; exact F.len _ _ _ _ h
 refine wpAny_call (codeAny_mono (F.run X.A X.stack s H ⟨us, []⟩ (us ++ ds) (vs ++ dvs) Q E hr I.env0 (hb s us I.kIn hl) r2 h) fun r s' hq => ?_)
 cases r with
 | error e => exact hx pins σ H s e s' I hq
 | ok fl =>
  cases fl with
  | ret u => exact I.after hq
  | next => exact False.elim hq
  | brk => exact False.elim hq
  | cont => exact False.elim hq
theorem aHY (F : FnOk X.prog X.w X.K X.mg X.base CX k f fd ps sp) (hr : Room k X.A) (hg : Gl X x) (hm : X.mg x = some (.ref f)) (hk : PySem.W.keepIn X.K (.ref f) = true) (hb : iC X.K fd ps ds) (hd : bK dvs ds) (hx : oV CX X E)
  (ha : PA X (e :: es) t) (hdb : (x == ("__debug__" : Str)) = false := by decide) (he : starEach (e :: es) X.env = (false, eval e X.env) :: starEach es X.env := by rfl) (hpl : (backTo pos (starEach es X.env)).any (·.1) = false := by rfl) :
  PE X (.Call (.Name x p) (e :: es) [] pos) (aIY sp dvs E t) := by
 intro pins s σ H Q I h
 refine wpAny_Call_Name_kw (wW I hg hm ?_ hdb)
 refine PySem.W.callWith_K (h₀ := X.base) I.ok.mod.kin hk (thn (ha pos pins s σ H _ I h) fun us s1 ⟨vs, H1, I1, r, q⟩ => ⟨I1.kIn, ?_⟩) he hpl
 exact zP F hr hb hd hx I1 r q
theorem aHV {pl : Sem Bool} (he : PE X o ta) (c : Cls X.K C) (hm : Meth X.K C m f) (F : FnOk X.prog X.w X.K X.mg X.base CX k f fd ps sp) (hr : Room k X.A) (hb : iC X.K fd ps ds) (hd : bK dvs ds) (hx : oV CX X E) (ha : PA X (e :: es) t)
  (hst : starEach (e :: es) X.env = (false, eval e X.env) :: starEach es X.env := by rfl) (hpl : (backTo pos (starEach es X.env)).any (·.1) = false := by rfl)
  (ht : eval (.Call (.Attribute o m apos) (e :: es) [] pos) X.env = (do
   let ov ← eval o X.env
   standAt apos.atName
   let (f, first) ← holding [ov] (getMethod ov m pl)
   callWith pos f first (backTo pos (starEach (e :: es) X.env)) (backToKw pos (keywordEach [] X.env))) := by rfl) :
  PE X (.Call (.Attribute o m apos) (e :: es) [] pos) (aBE C m sp dvs E ta t) := by
 intro pins s σ H Q I h
 refine PySem.W.methodCall_KW (pl := pl) (thn (he pins s σ H _ I h) fun u s1 ⟨x, H1, I1, rx, a, dx, fs, ex, ea, l, q⟩ => ?_) ht
 subst ex
 obtain rfl : u = Value.ref a := rx
 refine tV I1 ea c hm l ?_
 refine PySem.W.callWith_K (first := [.ref a]) (h₀ := X.base) I.ok.mod.kin hm.kp (thn (ha pos pins s1 σ H1 _ I1 q) fun us s2 ⟨vs, H2, I2, r, q2⟩ => ⟨I2.kIn, ?_⟩) hst hpl
 exact zP (us := .ref a :: us) (vs := .ref a :: vs) F hr hb hd hx I2 (.cons rfl r) q2
theorem aFP {pl : Sem Bool} (he : PE X o ta) (c : Cls X.K C) (hm : Meth X.K C m f) (F : FnOk X.prog X.w X.K X.mg X.base CX k f fd ps sp) (hr : Room k X.A) (hb : iC X.K fd ps ds) (hd : bK dvs ds) (hx : oV CX X E)
  (ht : eval (.Call (.Attribute o m apos) [] [] pos) X.env = (do
   let ov ← eval o X.env
   standAt apos.atName
   let (f, first) ← holding [ov] (getMethod ov m pl)
   callWith pos f first (backTo pos (starEach [] X.env)) (backToKw pos (keywordEach [] X.env))) := by rfl) :
  PE X (.Call (.Attribute o m apos) [] [] pos) (aBE C m sp dvs E ta aJP) := by
 intro pins s σ H Q I h
 refine PySem.W.methodCall_KW (pl := pl) (thn (he pins s σ H _ I h) fun u s1 ⟨x, H1, I1, rx, a, dx, fs, ex, ea, l, q⟩ => ?_) ht
 subst ex
 obtain rfl : u = Value.ref a := rx
 refine tV I1 ea c hm l ?_
 exact PySem.W.callWith_K0 (first := [.ref a]) I1.kIn hm.kp (zP (us := [.ref a]) (vs := [.ref a]) F hr hb hd hx I1 (.cons rfl .nil) q)
structure Mk (K : PySem.W.Frag) (C f : Addr) : Prop where
 makes : PySem.W.makesIn K C = true
 init : PySem.W.findIn K (.ref C) "__init__" = some (some (.ref f))
 fn : PySem.W.isFn K (.ref f) = true
 kp : PySem.W.keepIn K (.ref C) = true
theorem aFF {pins : List (Addr × Obj)} {σ : St} {H : Hp} {s : Shared} {Q : VK} {us : List Value} {vs : List V} (M : Mk X.K C f) (F : FnOk X.prog X.w X.K X.mg X.base CX k f fd ps sp) (hr : Room (k + 1) X.A) (hb : iC X.K fd ps ds) (hd : bK dvs ds)
  (hx : oV CX X E) (I : Inv X pins σ H s) (r : bK vs us)
  (h : ∀ x dx, H x = none → H dx = none → dx ≠ x → sp (.ref x :: (vs ++ dvs)) (upd (upd H dx (.own x)) x (.ins C dx [])) (fun v H2 => v = .non ∧ Q (.ref x) H2) E) :
  wpAny (model X.prog X.w) X.A (call (.ref C) us) (EP X pins σ Q) X.xe s := by
 have hq := h (s.heap.objs.size + 1) s.heap.objs.size (I.hok.fresh (Nat.le_succ _)) (I.hok.fresh (Nat.le_refl _)) (Nat.ne_of_lt (Nat.lt_succ_self _))
 have I2 := Inv.made (C := C) I
 have r2 : bK (V.ref (s.heap.objs.size + 1) :: (vs ++ dvs)) (Value.ref (s.heap.objs.size + 1) :: (us ++ ds)) := .cons rfl (r.append hd)
 have hl : (Value.ref (s.heap.objs.size + 1) :: us ++ ds).length = ps.length := by
  have e := r2.length
  rw [F.len _ _ _ _ hq] at e
  exact e.symm
 refine wpAny_call (aFX (f := f) I.kIn M.makes M.init (beq_iff_eq.mp M.fn) (codeAny_mono (F.run _ X.stack _ _ ⟨Value.ref (s.heap.objs.size + 1) :: us, []⟩ (Value.ref (s.heap.objs.size + 1) :: (us ++ ds)) _ _ E (hr.make C us [])
  (I2.env0.make C us []) (hb _ (Value.ref (s.heap.objs.size + 1) :: us) I2.kIn hl) r2 hq) fun r s' hq' => ?_))
 cases r with
 | error e => exact hx pins σ _ _ e s' I2 hq'
 | ok fl =>
  cases fl with
  | ret u =>
   obtain ⟨v, H', I3, rv, ev, q3⟩ := I2.after hq'
   subst ev
   exact ⟨rv, ⟨V.ref (s.heap.objs.size + 1), H', I3, rfl, q3⟩⟩
  | next => exact False.elim hq'
  | brk => exact False.elim hq'
  | cont => exact False.elim hq'
theorem aHW (M : Mk X.K C f) (F : FnOk X.prog X.w X.K X.mg X.base CX k f fd ps sp) (hr : Room (k + 1) X.A) (hg : Gl X x) (hm : X.mg x = some (.ref C)) (hb : iC X.K fd ps ds) (hd : bK dvs ds) (hx : oV CX X E)
  (ha : PA X (e :: es) t) (hdb : (x == ("__debug__" : Str)) = false := by decide) (he : starEach (e :: es) X.env = (false, eval e X.env) :: starEach es X.env := by rfl) (hpl : (backTo pos (starEach es X.env)).any (·.1) = false := by rfl) :
  PE X (.Call (.Name x p) (e :: es) [] pos) (aIW C sp dvs E t) := by
 intro pins s σ H Q I h
 refine wpAny_Call_Name_kw (wW I hg hm ?_ hdb)
 refine PySem.W.callWith_K (h₀ := X.base) I.ok.mod.kin M.kp (thn (ha pos pins s σ H _ I h) fun us s1 ⟨vs, H1, I1, r, q⟩ => ⟨I1.kIn, ?_⟩) he hpl
 exact aFF M F hr hb hd hx I1 r q
end
section
variable {X : Cx} {CX : CXT} {k : Nat} {f C : Addr} {fd : FuncData} {ps ks : List Str} {sp : Sp} {E : XK} {x m : Str} {p pos apos kpos : Pos} {e o : Expr} {es : List Expr} {kws : List Keyword} {te ta : TE} {t tk : TA} {nm : Option Str}
structure KBinds (K : PySem.W.Frag) (fd : FuncData) (ps ks : List Str) (g : List Value → List Value → List Value) (gV : List V → List V → List V) : Prop where
 to : ∀ (s : Shared) (us ws : List Value), K.In s.heap → (g us ws).length = ps.length → BindsTo s fd ⟨us, ks.zip ws⟩ (ps.zip (g us ws))
 rel : ∀ {vs : List V} {us : List Value} {zs : List V} {ws : List Value}, bK vs us → bK zs ws → bK (gV vs zs) (g us ws)
variable {g : List Value → List Value → List Value} {gV : List V → List V → List V}
end
structure FnScope (N P : List Str) (sc : Scope) : Prop where
 kind : sc.kind = .function
 co : sc.isCoroutine = false
 gen : sc.isGenerator = false
 nd : N.Nodup
 pre : N.take P.length = P
 par : ∀ x ∈ P, sc.names.lookup x = some .local ∨ sc.names.lookup x = some .cell
 nofree : ∀ y ∈ sc.names, y.2 ≠ .free
theorem wB {kindOf : Str → Option NameKind} {x : Str} : ∀ {binds : List (Str × Value)} {m : Str → Option Value}, (∀ v, (x, v) ∉ binds) → bindL kindOf binds m x = m x
 | [], _, _ => rfl
 | (n, v) :: r, m, h => by
  unfold bindL
  rw [wB fun w hw => h w (List.mem_cons_of_mem _ hw)]
  split
  ·have : x ≠ n := by rintro rfl; exact h v List.mem_cons_self
   simp [this]
  ·rfl
theorem wD {kindOf : Str → Option NameKind} {x : Str} : ∀ {binds : List (Str × Value)} {m : Str → Option Value}, (∀ v, (x, v) ∉ binds) → bindC kindOf binds m x = m x
 | [], _, _ => rfl
 | (n, v) :: r, m, h => by
  unfold bindC
  rw [wD fun w hw => h w (List.mem_cons_of_mem _ hw)]
  split
  ·rfl
  ·have : x ≠ n := by rintro rfl; exact h v List.mem_cons_self
   simp [this]
theorem wC {kindOf : Str → Option NameKind} {x : Str} {v : Value} : ∀ {P : List Str} {vs : List Value} {i : Nat} {m : Str → Option Value}, P.Nodup → P[i]? = some x → vs[i]? = some v → kindOf x = some .local →
  bindL kindOf (P.zip vs) m x = some v
 | [], _, _, _, _, h, _, _ => by simp at h
 | _ :: _, [], _, _, _, _, h, _ => by simp at h
 | p :: P, w :: vs, 0, m, nd, h1, h2, hk => by
  simp at h1 h2; subst h1; subst h2
  show bindL kindOf ((p, w) :: P.zip vs) m p = _
  unfold bindL
  rw [wB fun v hv => (List.nodup_cons.mp nd).1 (List.of_mem_zip hv).1, if_pos hk]
  simp
 | p :: P, w :: vs, i + 1, m, nd, h1, h2, hk => by
  show bindL kindOf ((p, w) :: P.zip vs) m x = _
  unfold bindL
  exact wC (i := i) (List.nodup_cons.mp nd).2 (by simpa using h1) (by simpa using h2) hk
theorem wE {kindOf : Str → Option NameKind} {x : Str} {v : Value} : ∀ {P : List Str} {vs : List Value} {i : Nat} {m : Str → Option Value}, P.Nodup → P[i]? = some x → vs[i]? = some v → kindOf x ≠ some .local →
  bindC kindOf (P.zip vs) m x = some v
 | [], _, _, _, _, h, _, _ => by simp at h
 | _ :: _, [], _, _, _, _, h, _ => by simp at h
 | p :: P, w :: vs, 0, m, nd, h1, h2, hk => by
  simp at h1 h2; subst h1; subst h2
  show bindC kindOf ((p, w) :: P.zip vs) m p = _
  unfold bindC
  rw [wD fun v hv => (List.nodup_cons.mp nd).1 (List.of_mem_zip hv).1, if_neg hk]
  simp
 | p :: P, w :: vs, i + 1, m, nd, h1, h2, hk => by
  show bindC kindOf ((p, w) :: P.zip vs) m x = _
  unfold bindC
  exact wE (i := i) (List.nodup_cons.mp nd).2 (by simpa using h1) (by simpa using h2) hk
def kX (N : List Str) (vs : List V) : St := vs.map some ++ List.replicate (N.length - vs.length) none
def uE (CX : CXT) (P : Program) (w : World) (K : PySem.W.Frag) (mg : Str → Option Value) (base : Heap) (N : List Str) (qual : Str) (scope : Scope) (f : Addr) (cd : Value) (A : Around) (outer : List Env) (s : Shared) (H : Hp) (E : XK) : Cx where
 prog := P
 w := w
 K := K
 mg := mg
 base := base
 A := A.deeper (envOfC qual scope s.heap.objs.size f cd)
 N := N
 s₀ := s
 H₀ := H
 env := envOfC qual scope s.heap.objs.size f cd
 outer := outer
 stack := envOfC qual scope s.heap.objs.size f cd :: outer
 ex := []
 calm := true
 fn := fun _ => true
 pn := []
 xe := fun e s' => wpAny (model P w) (A.deeper (envOfC qual scope s.heap.objs.size f cd)) (leaving (envOfC qual scope s.heap.objs.size f cd) e) (fun _ s'' => CX outer H s E e s'') (fun e' s'' => CX outer H s E e' s'') s'
theorem zE {sc : Scope} {n : Nat} {x : Str} (h : sc.names.lookup x = some .cell) : ∃ c, (cellsFrom n sc.names []).lookup x = some c := by
 have q := PySem.W.cellsFrom_some sc.names n [] (.inl h)
 exact Option.isSome_iff_exists.mp q
theorem aDN {CX : CXT} {P : Program} {w : World} {K : PySem.W.Frag} {mg : Str → Option Value} {base : Heap} {N ps : List Str} {qual : Str} {scope : Scope} {f : Addr} {cd : Value} {A : Around} {outer : List Env} {s s1 : Shared} {H : Hp} {E : XK} {us : List Value} {vs : List V}
  (S : FnScope N ps scope) (hd : A.handled = none) (e0 : Env0 P w K mg base A outer s H) (hl : vs.length = ps.length) (r : bK vs us)
  (x : InCallC s s.heap.objs.size (bindL (envOfC qual scope s.heap.objs.size f cd).kindOf (ps.zip us) fun _ => none) (cellsFrom (s.heap.objs.size + 1) scope.names []) (bindC (envOfC qual scope s.heap.objs.size f cd).kindOf (ps.zip us) fun _ => none) s1) :
  Inv (uE CX P w K mg base N qual scope f cd A outer s H E) [] (kX N vs) H s1 := by
 have hpl : ps.length ≤ N.length := by have := congrArg List.length S.pre; rw [List.length_take] at this; omega
 obtain ⟨h1, tk, rfl, hk⟩ := x.done
 have noA : ∀ b : Addr, b ∉ (uE CX P w K mg base N qual scope f cd A outer s H E).ex := fun b z => absurd (show b ∈ ([] : List Addr) from z) (by simp)
 refine ⟨⟨e0.mod, S.kind, rfl, rfl, Nat.le_refl _, fun y z c h1 h2 => ?_, fun y hy => ?_, fun y c _ h => ?_, fun _ => hd, Around.frames_deeper e0.frames, .inr ⟨rfl, rfl⟩, fun b z => absurd z (noA b), e0.bs, e0.bsz, fun b _ _ => noA b, fun b z => absurd z (noA b), e0.funs, e0.frf⟩,
  rfl, e0.bare, Un.kept hk, ⟨_, x.toInCall.ns, fun i y v h1 h2 h3 => ?_⟩, fun y c h => ⟨_, x.cell y c h⟩, e0.hok.fresh (Nat.le_refl _), fun y c h => ?_, fun p hp => absurd (show p ∈ ([] : List (Addr × Obj)) from hp) (by simp), e0.hok.kept hk, ?_⟩
 ·exact name_of_addr x.apart (PySem.mem_of_lookup h1) (PySem.mem_of_lookup h2)
 ·have hy : scope.names.lookup y = some .cell ∨ scope.names.lookup y = some .free := hy
  rcases hy with hy | hy
  ·exact zE hy
  ·exact absurd rfl (S.nofree _ (PySem.mem_of_lookup hy))
 ·exact Nat.le_of_lt (x.above y c (PySem.mem_of_lookup h))
 ·have hi : i < vs.length := by
   unfold kX at h2
   by_cases hi : i < vs.length
   ·exact hi
   ·rw [List.getElem?_append_right (by simpa using hi)] at h2
    rw [List.getElem?_replicate] at h2
    split at h2 <;> cases h2
  have ha : vs[i]? = some v := by
   unfold kX at h2
   rw [List.getElem?_append_left (by simpa using hi), List.getElem?_map] at h2
   cases e : vs[i]? with
   | none => rw [e] at h2; cases h2
   | some a => rw [e] at h2; cases h2; rfl
  obtain ⟨u, hu, rv⟩ := r.get ha
  have hp : ps[i]? = some y := by
   rw [← S.pre, List.getElem?_take_of_lt (by omega)]; exact h1
  have ndP : ps.Nodup := by rw [← S.pre]; exact S.nd.sublist (List.take_sublist _ _)
  refine ⟨u, rv, ?_⟩
  rcases S.par y (List.mem_of_getElem? hp) with k | k
  ·exact .inl ⟨k, wC ndP hp hu k⟩
  ·obtain ⟨c, e⟩ := zE (n := s.heap.objs.size + 1) k
   refine .inr ⟨.inl k, c, e, ?_⟩
   have q := x.cell y c e
   rw [wE ndP hp hu (by show scope.names.lookup y ≠ _; rw [k]; decide)] at q
   exact q
 ·exact e0.hok.fresh (Nat.le_of_lt (x.above y c (PySem.mem_of_lookup h)))
 ·unfold kX
  show _ = N.length
  rw [List.length_append, List.length_map, List.length_replicate]
  omega
theorem aMO {CX : CXT} {P : Program} {w : World} {K : PySem.W.Frag} {mg : Str → Option Value} {base : Heap} {k : Nat} {f : Addr} {name qual : Str} {params : Arguments} {body : List Stmt} {scope : Scope} {dV kV doc pm cdv ct oc : Value} {an od : Option Addr}
  {osl : Array (Option Value)} {N ps : List Str} {sp : Sp} (lk : K.lookup f = some ⟨oc, od, .func (PySem.W.fnOf name qual params body scope dV kV doc pm an cdv ct), osl⟩) (hcd : PySem.W.codeIn K cdv qual = true) (S : FnScope N ps scope)
  (len : ∀ vs H Q E, sp vs H Q E → vs.length = ps.length)
  (hbody : ∀ (A : Around) (outer : List Env) (s : Shared) (H : Hp) (vs : List V) (Q : VK) (E : XK), Room k (A.deeper (envOfC qual scope s.heap.objs.size f cdv)) → sp vs H Q E →
   ∃ t, PSs (uE CX P w K mg base N qual scope f cdv A outer s H E) body t ∧ t { nx := fun _ H' => Q .non H', rt := Q } (kX N vs) H) :
  FnOk P w K mg base CX (k + 1) f (PySem.W.fnOf name qual params body scope dV kV doc pm an cdv ct) ps sp := by
 refine ⟨len, fun A outer s H args us vs Q E hr e0 hb r hsp => ?_⟩
 have hl := len _ _ _ _ hsp
 have KX : K.In s.heap := e0.mod.kin.keeps fun b o e => (e0.bs b o e).1
 have lim : s.heap.NoLimit := e0.mod.nolimit.keeps fun b o e => (e0.bs b o e).1
 have hkind : ∀ y ∈ ps.zip us, scope.names.lookup y.1 = some .local ∨ (scope.names.lookup y.1 = some .cell ∧ ((cellsFrom (s.heap.objs.size + 1) scope.names []).lookup y.1).isSome = true) := fun ⟨n, v⟩ hy => by
  rcases S.par n (List.of_mem_zip hy).1 with q | q
  ·exact .inl q
  ·exact .inr ⟨q, PySem.W.cellsFrom_some _ _ _ (.inl q)⟩
 refine codeAny_call_function hr.depth (KX _ _ lk) rfl S.co S.gen rfl (PySem.W.codeRec_of KX hcd) (hb _ _ _ _ ?_)
 refine wpAny_newFunctionEnv_cells S.kind hkind fun env he s1 x => ?_
 subst he
 refine ⟨lim.keeps x.toInCall.keep, codeAny_func ?_⟩
 obtain ⟨t, ht, hq⟩ := hbody A outer s H vs Q E (hr.deeper _) hsp
 have I : Inv (uE CX P w K mg base N qual scope f cdv A outer s H E) [] (kX N vs) H s1 := aDN S hr.hd e0 hl r x
 refine wpAny_mono (ht [] s1 (kX N vs) H _ I hq) (fun fl s' hs => ?_) fun e s' hs => hs
 have fin : ∀ {σ' : St} {H' : Hp} {v : V} {u : Value}, Inv (uE CX P w K mg base N qual scope f cdv A outer s H E) [] σ' H' s' → bI v u → Q v H' → CE outer P w H s Q u s' :=
  fun {σ' H' v u} J rv q => ⟨v, H', J.os, J.bare, J.base, J.hok, rv, q⟩
 cases fl with
 | ret u =>
  obtain ⟨v, σ', H', J, rv, q⟩ := hs
  exact fin J rv q
 | next =>
  obtain ⟨σ', H', J, q⟩ := hs
  exact fin (v := V.non) (u := Value.none) J rfl q
 | brk =>
  obtain ⟨_, _, _, q⟩ := hs
  exact False.elim q
 | cont =>
  obtain ⟨_, _, _, q⟩ := hs
  exact False.elim q
end L2
namespace L2
open PySem PySem.Spec PyProof.Rows
section
variable {X : Cx} {x : Str} {p pos : Pos} {e : Expr} {es : List Expr} {t : TA} {id T : String} {r : List V → Hp → VK → Prop}
def tCB (r : List V → Hp → VK → Prop) (t : TA) : TE := fun σ H Q => t σ H fun vs H1 => r vs H1 Q
theorem aV (hc : hG X (.builtin id) r) (hg : Gl X x) (hm : X.mg x = none) (hv : bootBuiltins x = some (.builtin id)) (ha : PA X (e :: es) t) (hn : x ≠ "__name__" := by decide) (hdb : (x == ("__debug__" : Str)) = false := by decide)
  (he : starEach (e :: es) X.env = (false, eval e X.env) :: starEach es X.env := by rfl) (hpl : (backTo pos (starEach es X.env)).any (·.1) = false := by rfl) : PE X (.Call (.Name x p) (e :: es) [] pos) (tCB r t) := by
 intro pins s σ H Q I h
 refine wpAny_Call_Name_kw (qA I hg hm hv ?_ hn hdb)
 exact PyProof.Rows.callWith_builtin1 (thn (ha pos pins s σ H _ I h) fun us s1 ⟨vs, H1, I1, r1, q1⟩ => hc pins s1 σ H1 vs us Q I1 r1 q1) he hpl
theorem cL (hc : hG X (.type T) r) (hg : Gl X x) (hm : X.mg x = none) (hv : bootBuiltins x = some (.type T)) (ha : PA X (e :: es) t) (hn : x ≠ "__name__" := by decide) (hdb : (x == ("__debug__" : Str)) = false := by decide)
  (he : starEach (e :: es) X.env = (false, eval e X.env) :: starEach es X.env := by rfl) (hpl : (backTo pos (starEach es X.env)).any (·.1) = false := by rfl) : PE X (.Call (.Name x p) (e :: es) [] pos) (tCB r t) := by
 intro pins s σ H Q I h
 refine wpAny_Call_Name_kw (qA I hg hm hv ?_ hn hdb)
 exact PyProof.Rows.callWith_type1 (thn (ha pos pins s σ H _ I h) fun us s1 ⟨vs, H1, I1, r1, q1⟩ => hc pins s1 σ H1 vs us Q I1 r1 q1) he hpl
end
end L2
namespace L2
open PySem PySem.Spec PyProof.Rows
section
variable {κ : Type} [DecidableEq κ]
def dG (kvs : List (κ × V)) (k : κ) : Option V := (kvs.find? fun kv => decide (kv.1 = k)).map (·.2)
def iB (kvs : List (κ × V)) (k : κ) (v : V) : List (κ × V) :=
 if (kvs.any fun kv => decide (kv.1 = k)) = true then kvs.map (fun kv => if kv.1 = k then (kv.1, v) else kv) else kvs ++ [(k, v)]
def dropK (kvs : List (κ × V)) (k : κ) : List (κ × V) := kvs.filter fun kv => decide (kv.1 ≠ k)
theorem dE {p : κ × V} {r : List (κ × V)} {k : κ} (e : p.1 = k) : dG (p :: r) k = some p.2 := by simp [dG, List.find?_cons, e]
theorem dF {p : κ × V} {r : List (κ × V)} {k : κ} (e : ¬ p.1 = k) : dG (p :: r) k = dG r k := by simp [dG, List.find?_cons, e]
theorem jQ (k : κ) : ∀ kvs : List (κ × V), (kvs.any fun kv => decide (kv.1 = k)) = (dG kvs k).isSome
 | [] => rfl
 | p :: r => by
  rw [List.any_cons]
  by_cases e : p.1 = k
  ·simp only [dE e, decide_eq_true e, Bool.true_or, Option.isSome_some]
  ·rw [dF e, decide_eq_false e, Bool.false_or]; exact jQ k r
theorem xM (k j : κ) (y : V) : ∀ kvs : List (κ × V), dG (kvs.map fun kv => if kv.1 = k then (kv.1, y) else kv) j = (dG kvs j).map fun x => if j = k then y else x
 | [] => rfl
 | p :: r => by
  have ih := xM k j y r
  rw [List.map_cons]
  by_cases h : p.1 = k
  ·rw [if_pos h]
   by_cases e : p.1 = j
   ·rw [dE (p := (p.1, y)) e, dE e, Option.map_some, if_pos (e.symm.trans h)]
   ·rw [dF (p := (p.1, y)) e, dF e, ih]
  ·rw [if_neg h]
   by_cases e : p.1 = j
   ·rw [dE (p := p) e, dE e, Option.map_some, if_neg (fun z => h (e.trans z))]
   ·rw [dF (p := p) e, dF e, ih]
theorem uZ (k j : κ) (y : V) : ∀ kvs : List (κ × V), dG kvs k = none → dG (kvs ++ [(k, y)]) j = if j = k then some y else dG kvs j
 | [], _ => by
  by_cases e : k = j
  ·rw [if_pos e.symm]; exact dE (p := (k, y)) e
  ·rw [if_neg (fun z => e z.symm)]; exact dF (p := (k, y)) e
 | p :: r, hn => by
  rw [List.cons_append]
  have hk : ¬ p.1 = k := fun z => by rw [dE z] at hn; cases hn
  rw [dF hk] at hn
  have ih := uZ k j y r hn
  by_cases e : p.1 = j
  ·rw [dE e, dE e, if_neg (fun z => hk (e.trans z))]
  ·rw [dF e, dF e, ih]
theorem aEG (kvs : List (κ × V)) (k j : κ) (y : V) : dG (iB kvs k y) j = if j = k then some y else dG kvs j := by
 unfold iB
 by_cases a : (kvs.any fun kv => decide (kv.1 = k)) = true
 ·rw [if_pos a, xM]
  rw [jQ] at a
  by_cases e : j = k
  ·obtain ⟨x, hx⟩ := Option.isSome_iff_exists.mp a
   rw [if_pos e, e, hx, Option.map_some, if_pos rfl]
  ·rw [if_neg e]
   cases dG kvs j with
   | none => rfl
   | some x => rw [Option.map_some, if_neg e]
 ·rw [if_neg a]
  refine uZ k j y kvs ?_
  rw [jQ] at a
  cases q : dG kvs k with
  | none => rfl
  | some x => rw [q] at a; exact (a rfl).elim
theorem kN (kvs : List (κ × V)) (k : κ) (v : V) : (iB kvs k v).length ≤ kvs.length + 1 := by
 unfold iB
 split
 ·rw [List.length_map]; omega
 ·rw [List.length_append, List.length_cons, List.length_nil]; omega
theorem yD {kvs : List (κ × V)} {k : κ} (v : V) (h : dG kvs k = none) : iB kvs k v = kvs ++ [(k, v)] := by
 unfold iB
 rw [jQ, h]
 exact if_neg (by decide)
theorem mN.isSome_eq {o : Option V} {u : Option Value} (r : mN o u) : o.isSome = u.isSome := by
 cases o with
 | none => cases u with
  | none => rfl
  | some _ => exact (show False from r).elim
 | some _ => cases u with
  | none => exact (show False from r).elim
  | some _ => rfl
theorem mN.getD {o : Option V} {u : Option Value} {d : V} {d' : Value} (r : mN o u) (rd : bI d d') : bI (o.getD d) (u.getD d') := by
 cases o with
 | none => cases u with
  | none => exact rd
  | some _ => exact (show False from r).elim
 | some _ => cases u with
  | none => exact (show False from r).elim
  | some _ => exact r
theorem KV.val {kvs : List (κ × V)} {vs : List (κ × Value)} (r : KV kvs vs) (k : κ) : mN (dG kvs k) (valueAt vs k) := by
 unfold KV at r
 induction r with
 | nil => exact True.intro
 | @cons p q ps qs h t ih =>
  obtain ⟨h1, h2⟩ := h
  by_cases e : p.1 = k
  ·have e' : q.1 = k := h1.symm.trans e
   have b : valueAt (q :: qs) k = some q.2 := by simp [valueAt, List.find?_cons, e']
   rw [dE e, b]; exact h2
  ·have e' : ¬ q.1 = k := fun z => e (h1.trans z)
   have b : valueAt (q :: qs) k = valueAt qs k := by simp [valueAt, List.find?_cons, e']
   rw [dF e, b]; exact ih
theorem KV.any {kvs : List (κ × V)} {vs : List (κ × Value)} (r : KV kvs vs) (k : κ) : (kvs.any fun kv => decide (kv.1 = k)) = vs.any fun kv => decide (kv.1 = k) := by
 unfold KV at r
 induction r with
 | nil => rfl
 | cons h t ih => rw [List.any_cons, List.any_cons, ih, h.1]
theorem KV.repl {kvs : List (κ × V)} {vs : List (κ × Value)} (r : KV kvs vs) (k : κ) {y : V} {u : Value} (ry : bI y u) :
  KV (kvs.map fun kv => if kv.1 = k then (kv.1, y) else kv) (vs.map fun kv => if kv.1 = k then (kv.1, u) else kv) := by
 unfold KV at r ⊢
 induction r with
 | nil => exact .nil
 | @cons p q ps qs h t ih =>
  rw [List.map_cons, List.map_cons]
  refine .cons ?_ ih
  obtain ⟨h1, h2⟩ := h
  by_cases e : p.1 = k
  ·rw [if_pos e, if_pos (h1.symm.trans e)]; exact ⟨h1, ry⟩
  ·rw [if_neg e, if_neg (fun z => e (h1.trans z))]; exact ⟨h1, h2⟩
theorem KV.put {kvs : List (κ × V)} {vs : List (κ × Value)} (r : KV kvs vs) (k : κ) {y : V} {u : Value} (ry : bI y u) : KV (iB kvs k y) (stored vs k u) := by
 unfold iB stored
 rw [r.any k]
 by_cases e : (vs.any fun kv => decide (kv.1 = k)) = true
 ·rw [if_pos e, if_pos e]; exact r.repl k ry
 ·rw [if_neg e, if_neg e]; exact Paired.snoc r ⟨rfl, ry⟩
theorem KV.keys {kvs : List (κ × V)} {vs : List (κ × Value)} (r : KV kvs vs) : kvs.map (·.1) = vs.map (·.1) := by
 unfold KV at r
 induction r with
 | nil => rfl
 | cons h t ih => rw [List.map_cons, List.map_cons, ih, h.1]
theorem KV.length {kvs : List (κ × V)} {vs : List (κ × Value)} (r : KV kvs vs) : kvs.length = vs.length := Paired.length r
end
theorem qS {P : Program} {w : World} {k : Key} {u : Value} (r : bI (kV k) u) : (aX P w).is k u = true := by
 cases k with
 | inl i => obtain ⟨t, e⟩ := (show ∃ t, u = Value.int i t from r); subst e; exact yP P w i t
 | inr x => obtain ⟨t, e⟩ := (show ∃ t, u = Value.str x t from r); subst e; exact yO P w x t
theorem vK {P : Program} {w : World} : ∀ {ks : List Key} {us : List Value}, bK (ks.map kV) us → ItemsAre (aX P w) ks us
 | [], _, r => by rw [List.map_nil] at r; cases r; exact .nil
 | k :: ks, _, r => by
  rw [List.map_cons] at r
  cases r with
  | cons h t => exact .cons (qS h) (vK t)
abbrev KT (H : Hp) : List (List Key × V) → List (List Key × Addr × Value) → Prop := Paired fun p q => p.1 = q.1 ∧ H q.2.1 = some (.tup (p.1.map kV)) ∧ bI p.2 q.2.2
theorem KT.val {H : Hp} {kvs : List (List Key × V)} {xs : List (List Key × Addr × Value)} (r : KT H kvs xs) (k : List Key) : mN (dG kvs k) ((atKey xs k).map (·.2)) := by
 induction r with
 | nil => exact True.intro
 | @cons p q ps qs h t ih =>
  obtain ⟨h1, _, h2⟩ := h
  by_cases e : p.1 = k
  ·have e' : q.1 = k := h1.symm.trans e
   have b : atKey (q :: qs) k = some q.2 := by simp [atKey, List.find?_cons, e']
   rw [dE e, b]; exact h2
  ·have e' : ¬ q.1 = k := fun z => e (h1.trans z)
   have b : atKey (q :: qs) k = atKey qs k := by simp [atKey, List.find?_cons, e']
   rw [dF e, b]; exact ih
theorem KT.repl {H : Hp} {kvs : List (List Key × V)} {xs : List (List Key × Addr × Value)} (r : KT H kvs xs) (k : List Key) {y : V} {u : Value} (ry : bI y u) :
  KT H (kvs.map fun kv => if kv.1 = k then (kv.1, y) else kv) (xs.map (putAt k u)) := by
 induction r with
 | nil => exact .nil
 | @cons p q ps qs h t ih =>
  rw [List.map_cons, List.map_cons]
  refine .cons ?_ ih
  obtain ⟨h1, h2, h3⟩ := h
  unfold putAt
  by_cases e : p.1 = k
  ·rw [if_pos e, if_pos (h1.symm.trans e)]; exact ⟨h1, h2, ry⟩
  ·rw [if_neg e, if_neg (fun z => e (h1.trans z))]; exact ⟨h1, h2, h3⟩
theorem KT.put {H : Hp} {kvs : List (List Key × V)} {xs : List (List Key × Addr × Value)} (r : KT H kvs xs) (k : List Key) {b : Addr} {y : V} {u : Value} (hb : H b = some (.tup (k.map kV))) (ry : bI y u) :
  KT H (iB kvs k y) (storedH xs k b u) := by
 have e : (kvs.any fun kv => decide (kv.1 = k)) = (atKey xs k).isSome := by
  rw [jQ, (r.val k).isSome_eq, Option.isSome_map]
 unfold iB storedH
 rw [e]
 by_cases q : (atKey xs k).isSome = true
 ·rw [if_pos q, if_pos q]; exact r.repl k ry
 ·rw [if_neg q, if_neg q]; exact Paired.snoc r ⟨rfl, hb, ry⟩
theorem KT.keeps {H H' : Hp} {kvs : List (List Key × V)} {xs : List (List Key × Addr × Value)} (r : KT H kvs xs) (ht : ∀ b ys, H b = some (.tup ys) → H' b = some (.tup ys)) : KT H' kvs xs :=
 Paired.mapP r fun _ _ z => ⟨z.1, ht _ _ z.2.1, z.2.2⟩
section
variable {P : Program} {w : World} {H : Hp} {h : Heap} {a : Addr}
theorem aJF {u : HO} (ok : HOk P w H h) (e : Rd H a u) : cW P w H h a u := e.ok ok
theorem qW {kvs : List (Key × V)} (ok : HOk P w H h) (e : Rd H a (.dK kvs)) : kvs.length ≤ sizeLine ∧ (a == sysModules) = false ∧ ∃ vs, KV kvs vs ∧ h.DictOf (aX P w) a vs :=
 show cW P w H h a (.dK kvs) from aJF ok e
theorem aJL {kvs : List (Key × V)} (ok : HOk P w H h) (e : H a = some (.dK kvs)) : kvs.length ≤ sizeLine ∧ (a == sysModules) = false ∧ ∃ vs, KV kvs vs ∧ h.DictOf (aX P w) a vs := qW ok (.inl e)
theorem oR {ks : List Key} (ok : HOk P w H h) (e : H a = some (.tup (ks.map kV))) : (tupleKind (aX P w)).is h ks a := by
 obtain ⟨_, its, r, o, h1, h2, n, h3, _⟩ := (show cW P w H h a (.tup (ks.map kV)) from ok a _ e)
 exact ⟨o, its.toArray, n, h1, h2, h3, by simpa using vK r⟩
theorem qV {kvs : List (List Key × V)} (ok : HOk P w H h) (e : Rd H a (.dT kvs)) : kvs.length ≤ sizeLine ∧ (a == sysModules) = false ∧
  ∃ xs, KT H kvs xs ∧ h.DictOfH (tupleKind (aX P w)) a xs := by
 obtain ⟨z, y, xs, r, o, es, ep, h1, h2, h3, h4, h5⟩ := (show cW P w H h a (.dT kvs) from aJF ok e)
 refine ⟨z, y, xs, r, o, es, ep, h1, h2, h3, h4, fun x hx => ?_, h5⟩
 have all : ∀ {l : List (List Key × V)} {m : List (List Key × Addr × Value)}, KT H l m → ∀ x ∈ m, (tupleKind (aX P w)).is h x.1 x.2.1 := by
  intro l m q
  induction q with
  | nil => intro x hx; exact nomatch hx
  | @cons p q ps qs hq t ih =>
   intro x hx
   rcases List.mem_cons.mp hx with e | hx
   ·subst e
    exact oR ok (by rw [← hq.1]; exact hq.2.1)
   ·exact ih x hx
 exact all r x hx
theorem aMQ {kvs : List (List Key × V)} (ok : HOk P w H h) (e : H a = some (.dT kvs)) : kvs.length ≤ sizeLine ∧ (a == sysModules) = false ∧
  ∃ xs, KT H kvs xs ∧ h.DictOfH (tupleKind (aX P w)) a xs := qV ok (.inl e)
end
def mH (H : Hp) (a : Addr) (y : V) (r : Option V) : Prop :=
 (∃ kvs k, Rd H a (.dK kvs) ∧ y = kV k ∧ r = dG kvs k) ∨ ∃ kvs k b, Rd H a (.dT kvs) ∧ y = .ref b ∧ H b = some (.tup (k.map kV)) ∧ r = dG kvs k
def aAX (H : Hp) (a : Addr) (y v : V) (H' : Hp) : Prop :=
 (∃ kvs k, H a = some (.dK kvs) ∧ y = kV k ∧ kvs.length < sizeLine ∧ H' = upd H a (.dK (iB kvs k v))) ∨
 ∃ kvs k b, H a = some (.dT kvs) ∧ y = .ref b ∧ H b = some (.tup (k.map kV)) ∧ kvs.length < sizeLine ∧ H' = upd H a (.dT (iB kvs k v))
theorem mH.k {H : Hp} {a : Addr} {kvs : List (Key × V)} {k : Key} (e : H a = some (.dK kvs)) : mH H a (kV k) (dG kvs k) := .inl ⟨kvs, k, .inl e, rfl, rfl⟩
theorem aAX.k {H : Hp} {a : Addr} {kvs : List (Key × V)} {k : Key} {v : V} (e : H a = some (.dK kvs)) (hl : kvs.length < sizeLine) : aAX H a (kV k) v (upd H a (.dK (iB kvs k v))) := .inl ⟨kvs, k, e, rfl, hl, rfl⟩
section
variable {X : Cx} {pins : List (Addr × Obj)} {σ : St} {H : Hp} {s : Shared} {a : Addr} {y v : V} {u r : Value} {o : Option V} {A : Around} {E : Value → Shared → Prop}
theorem Inv.big (I : Inv X pins σ H s) : sysModules < s.heap.objs.size := by
 have h : mainGlobals < s.heap.objs.size := (I.mod.glob.keeps I.bk).lt
 exact Nat.lt_trans (by decide) h
theorem vV {Q : Value → Shared → Prop} (hu : A.units + 1 < cLine) (I : Inv X pins σ H s) (g : mH H a y (some v)) (ry : bI y u) (h : ∀ w' s', Inv X pins σ H s' → bI v w' → Q w' s') :
  wpAny (model X.prog X.w) A (getItem (.ref a) u) Q E s := by
 rcases g with ⟨kvs, k, e, ey, l⟩ | ⟨kvs, k, b, e, ey, eb, l⟩
 ·subst ey
  obtain ⟨z, hd, vs, rel, dd⟩ := qW I.hok e
  obtain ⟨w', hw, rw'⟩ := mN.some_of (v := v) (o := valueAt vs k) (by rw [l]; exact rel.val k)
  exact wpAny_getItem_of (qS ry) dd.mapOf hw (h w' _ (I.tok _) rw')
 ·subst ey
  cases (show u = Value.ref b from ry)
  obtain ⟨z, hd, xs, rel, dd⟩ := qV I.hok e
  obtain ⟨w', hw, rw'⟩ := mN.some_of (v := v) (o := (atKey xs k).map (·.2)) (by rw [l]; exact rel.val k)
  obtain ⟨p, hp, hp2⟩ := Option.map_eq_some_iff.mp hw
  refine wpAny_getItem_heap (tupleKind_room_in1 hu) (oR I.hok eb) dd hp ?_
  rw [hp2]
  exact h w' _ (I.tok _) rw'
theorem aNV {Q : Value → Shared → Prop} (hu : A.units + 1 < cLine) (I : Inv X pins σ H s) (g : mH H a y o) (ry : bI y u) (h : ∀ s', Inv X pins σ H s' → Q (.bool o.isSome) s') :
  wpAny (model X.prog X.w) A (compareOp .In u (.ref a)) Q E s := by
 rcases g with ⟨kvs, k, e, ey, l⟩ | ⟨kvs, k, b, e, ey, eb, l⟩
 ·subst ey
  obtain ⟨z, hd, vs, rel, dd⟩ := qW I.hok e
  refine wpAny_in_of (qS ry) hd dd.mapOf ?_
  rw [← (rel.val k).isSome_eq, ← l]
  exact h _ (I.tok _)
 ·subst ey
  cases (show u = Value.ref b from ry)
  obtain ⟨z, hd, xs, rel, dd⟩ := qV I.hok e
  refine wpAny_in_heap (tupleKind_room_in1 hu) (oR I.hok eb) hd dd ?_
  have q := (rel.val k).isSome_eq
  rw [Option.isSome_map] at q
  rw [← q, ← l]
  exact h _ (I.tok _)
theorem aIM {Q : Value → Shared → Prop} (hu : A.units + 1 < cLine) (I : Inv X pins σ H s) (g : mH H a y o) (ry : bI y u) (h : ∀ s', Inv X pins σ H s' → Q (.bool (!o.isSome)) s') :
  wpAny (model X.prog X.w) A (compareOp .NotIn u (.ref a)) Q E s := by
 rcases g with ⟨kvs, k, e, ey, l⟩ | ⟨kvs, k, b, e, ey, eb, l⟩
 ·subst ey
  obtain ⟨z, hd, vs, rel, dd⟩ := qW I.hok e
  refine wpAny_notIn_of (qS ry) hd dd.mapOf ?_
  rw [← (rel.val k).isSome_eq, ← l]
  exact h _ (I.tok _)
 ·subst ey
  cases (show u = Value.ref b from ry)
  obtain ⟨z, hd, xs, rel, dd⟩ := qV I.hok e
  refine wpAny_notIn_heap (tupleKind_room_in1 hu) (oR I.hok eb) hd dd ?_
  have q := (rel.val k).isSome_eq
  rw [Option.isSome_map] at q
  rw [← q, ← l]
  exact h _ (I.tok _)
theorem xB {h' : Heap} {t' : Nat} {ob : HO} (I : Inv X pins σ H s) (mu : Mut (H a)) (hs : Heap.SameBut a s.heap h') (he : ∃ q, h'.get? a = some q) (new : cW X.prog X.w (upd H a ob) h' a ob) :
  Inv X pins σ (upd H a ob) { s with heap := h', toks := t' } :=
 I.write (x := a) (e := a) mu (.inl rfl) (fun b q hb z => (hs.2 b hb).trans z) he new
theorem aGX {P : Program} {w : World} {H' : Hp} {h' : Heap} {kvs : List (Key × V)} {vs : List (Key × Value)} (z : kvs.length ≤ sizeLine) (hd : (a == sysModules) = false) (rel : KV kvs vs) (dd : h'.DictOf (aX P w) a vs) :
  cW P w H' h' a (.dK kvs) := ⟨z, hd, vs, rel, dd⟩
theorem vU {H' : Hp} {Q : Unit → Shared → Prop} (hu : A.units + 1 < cLine) (I : Inv X pins σ H s) (g : aAX H a y v H') (ry : bI y u) (rv : bI v r) (h : ∀ s', Inv X pins σ H' s' → Q () s') :
  wpAny (model X.prog X.w) A (setItem (.ref a) u r) Q E s := by
 rcases g with ⟨kvs, k, e, ey, l, eH⟩ | ⟨kvs, k, b, e, ey, eb, l, eH⟩
 ·subst ey eH
  obtain ⟨z, hd, vs, rel, dd⟩ := aJL I.hok e
  have hz : vs.length ≤ sizeLine := by rw [← rel.length]; exact z
  have hl : (iB kvs k v).length ≤ sizeLine := by have := kN kvs k v; omega
  refine wpAny_setItem_pairs (hsz := hz) (qS ry) dd fun h' dd' hs => h _ ?_
  have he : ∃ q, h'.get? a = some q := let ⟨q, _, _, hq, _⟩ := dd'; ⟨q, hq⟩
  exact xB I (by rw [e]; exact True.intro) hs he (aGX hl hd (rel.put k rv) dd')
 ·subst ey eH
  cases (show u = Value.ref b from ry)
  obtain ⟨z, hd, xs, rel, dd⟩ := aMQ I.hok e
  have hz : xs.length ≤ sizeLine := by rw [← Paired.length rel]; exact z
  have hl : (iB kvs k v).length ≤ sizeLine := by have := kN kvs k v; omega
  refine wpAny_setItem_heap (hsz := hz) (tupleKind_room_in1 hu) (oR I.hok eb) dd fun h' dd' hs => h _ ?_
  obtain ⟨q, es, ep, hq, h2, h3, h4, _, h5⟩ := dd'
  refine xB I (by rw [e]; exact True.intro) hs ⟨q, hq⟩ ⟨hl, hd, _, (rel.put k eb rv).keeps fun c ys ec => ?_, q, es, ep, hq, h2, h3, h4, h5⟩
  rw [aT (aBZ ec e (fun z => nomatch z))]
  exact ec
end
section
variable {X : Cx} {pins : List (Addr × Obj)} {σ : St} {H : Hp} {s : Shared} {a : Addr} {kvs : List (Key × V)} {k : Key} {u : Value} {A : Around} {E : Value → Shared → Prop}
end
def aMV (i : Expr) : Prop := ∀ ov iv, subscripted i false ov iv = operate [ov, iv] (getItem ov iv)
theorem aHM {prog : Program} {w : World} {A : Around} {E : Value → Shared → Prop} {s : Shared} {env : Env} {value slice : Expr} {pos : Pos} {T id : String} {Q : Value → Shared → Prop}
  (hl : typeLookup (.type T) "__getitem__" = pure (some (.builtin id))) (hs : aMV slice)
  (h : wpAny (model prog w) A (eval value env) (fun o s₁ => wpAny (model prog w) A (eval slice env) (fun i s₂ => s₂.TypeIs o T ∧ wpAny (model prog w) A (getItem o i) Q E s₂) E s₁) E s) :
  wpAny (model prog w) A (eval (.Subscript value slice pos) env) Q E s := by
 refine Subscript_ (wpAny_mono h (fun o s₁ h₁ => wpAny_mono h₁ (fun i s₂ h₂ => ?_) fun _ _ x => x) fun _ _ x => x)
 obtain ⟨hT, h₂⟩ := h₂
 unfold subscriptTail
 refine wpAny_bind ?_
 rw [getitemInPython_of_ne hT.not_modules]
 refine wpAny_bind (wpAny_specialOf hT hl ?_)
 have fin : wpAny (model prog w) A (subscripted slice false o i) (fun r s₃ => wpAny (model prog w) A (letTemporaryGo value o r >>= fun _ => pure r) Q E s₃) E s₂ := by
  rw [hs o i]
  exact wpAny_operating (wpAny_mono h₂ (fun r s₃ h₃ => wpAny_bind (wpAny_letTemporaryGo (wpAny_pure h₃))) fun _ _ x => x)
 first
  | exact wpAny_pure (wpAny_bind fin)
  | exact wpAny_bind (wpAny_pure (wpAny_bind fin))
  | exact wpAny_bind fin
theorem yZ {X : Cx} {pins : List (Addr × Obj)} {σ : St} {H : Hp} {s : Shared} {a : Addr} {y : V} {o : Option V} (I : Inv X pins σ H s) (g : mH H a y o) : s.TypeIs (.ref a) "dict" := by
 rcases g with ⟨kvs, k, e, _, _⟩ | ⟨kvs, k, b, e, _, _, _⟩
 ·obtain ⟨_, _, vs, _, dd⟩ := qW I.hok e
  exact dd.typeIs
 ·obtain ⟨_, _, xs, _, dd⟩ := qV I.hok e
  exact dd.typeIs
def aLN (td ty : TE) : TE := fun σ H Q => td σ H fun x H1 => ty σ H1 fun y H2 => ∃ a v, x = .ref a ∧ mH H2 a y (some v) ∧ Q v H2
def aNE (ty td : TE) : TE := fun σ H Q => ty σ H fun y H1 => td σ H1 fun x H2 => ∃ a o, x = .ref a ∧ mH H2 a y o ∧ Q (.bl o.isSome) H2
def aHL (ty td : TE) : TE := fun σ H Q => ty σ H fun y H1 => td σ H1 fun x H2 => ∃ a o, x = .ref a ∧ mH H2 a y o ∧ Q (.bl (!o.isSome)) H2
def aLS (td ty tv : TE) : TS := fun D σ H => tv σ H fun v H1 => td σ H1 fun x H2 => ty σ H2 fun y H3 => ∃ a H4, x = .ref a ∧ aAX H3 a y v H4 ∧ D.nx σ H4
def aLT (td ty tv : TE) (rd : V → V → Hp → VK → Prop) : TS := fun D σ H => td σ H fun x H1 => ty σ H1 fun y H2 => ∃ a v, x = .ref a ∧ mH H2 a y (some v) ∧
 tv σ H2 fun y2 H3 => rd v y2 H3 fun z H4 => ∃ H5, aAX H4 a y z H5 ∧ D.nx σ H5
section
variable {X : Cx} {o i e value : Expr} {pos pos' tpos : Pos} {td ty tv : TE}
theorem eQ (hu : X.A.units + 1 < cLine) (ho : PE X o td) (hi : PE X i ty) (hs : aMV i) : PE X (.Subscript o i pos) (aLN td ty) := by
 intro pins s σ H Q I h
 refine aHM PySem.F.slot_dict_getitem.lookup hs (thn (ho pins s σ H _ I h) fun u s1 ⟨x, H1, I1, rx, q1⟩ => thn (hi pins s1 σ H1 _ I1 q1) fun iv s2 ⟨y, H2, I2, ry, a, v, ex, g, q2⟩ => ?_)
 subst ex
 obtain rfl : u = Value.ref a := rx
 exact ⟨yZ I2 g, vV hu I2 g ry fun w' s3 I3 rw' => ⟨v, H2, I3, rw', q2⟩⟩
theorem aKG (hu : X.A.units + 1 < cLine) (hi : PE X i ty) (ho : PE X o td) : PC X .In i o (aNE ty td) := by
 intro pins s σ H Q I h
 refine thn (hi pins s σ H _ I h) fun iv s1 ⟨y, H1, I1, ry, q1⟩ => thn (ho pins s1 σ H1 _ I1 q1) fun u s2 ⟨x, H2, I2, rx, a, ov, ex, g, q2⟩ => ?_
 subst ex
 obtain rfl : u = Value.ref a := rx
 exact aNV hu I2 g ry fun s3 I3 => ⟨.bl ov.isSome, H2, I3, rfl, q2⟩
theorem aDD (hu : X.A.units + 1 < cLine) (hi : PE X i ty) (ho : PE X o td) : PC X .NotIn i o (aHL ty td) := by
 intro pins s σ H Q I h
 refine thn (hi pins s σ H _ I h) fun iv s1 ⟨y, H1, I1, ry, q1⟩ => thn (ho pins s1 σ H1 _ I1 q1) fun u s2 ⟨x, H2, I2, rx, a, ov, ex, g, q2⟩ => ?_
 subst ex
 obtain rfl : u = Value.ref a := rx
 exact aIM hu I2 g ry fun s3 I3 => ⟨.bl (!ov.isSome), H2, I3, rfl, q2⟩
theorem pI (hu : X.A.units + 1 < cLine) (ho : PE X o td) (hi : PE X i ty) (hv : PE X value tv) (hs : swapsWith value (some (.Subscript o i pos')) pos.line X.env = pure false) :
  PS X (.Assign [.Subscript o i pos'] value pos) (aLS td ty tv) := by
 intro pins s σ H D I h
 refine wpAny_Assign_Subscript (thn (hv pins s σ H _ I h) fun r s1 ⟨v, H1, I1, rv, q1⟩ => thn (ho pins s1 σ H1 _ I1 q1) fun u s2 ⟨x, H2, I2, rx, q2⟩ => thn (hi pins s2 σ H2 _ I2 q2) fun iv s3 ⟨y, H3, I3, ry, a, H4, ex, g, q3⟩ => ?_) hs
 subst ex
 obtain rfl : u = Value.ref a := rx
 exact vU hu I3 g ry rv fun s4 I4 => ⟨σ, H4, I4, q3⟩
theorem aHT {op : Operator} {rd : V → V → Hp → VK → Prop} (hu : X.A.units + 1 < cLine) (ho : PE X o td) (hi : PE X i ty) (hv : PE X value tv) (hop : aLD X op rd)
  (ha : ∀ ov iv new, augStore i ov iv new = (do holding [new, ov, iv] (setItem ov iv new); release [new, ov, iv] []; pure .next)) : PS X (.AugAssign (.Subscript o i tpos) op value pos) (aLT td ty tv rd) := by
 intro pins s σ H D I h
 refine wpAny_AugAssign_SubscriptAny (thn (ho pins s σ H _ I h) fun u s1 ⟨x, H1, I1, rx, q1⟩ => thn (hi pins s1 σ H1 _ I1 q1) fun iv s2 ⟨y, H2, I2, ry, a, v, ex, g, q2⟩ => ?_) ha
 subst ex
 obtain rfl : u = Value.ref a := rx
 refine vV hu I2 g ry fun w' s3 I3 rw' => thn (hv pins s3 σ H2 _ I3 q2) fun w2 s4 ⟨y2, H3, I4, ry2, q3⟩ => thn (hop pins s4 σ H3 v y2 w' w2 _ I4 rw' ry2 q3) fun w3 s5 ⟨z, H4, I5, rz, H5, g5, q4⟩ => ?_
 exact vU hu I5 g5 ry rz fun s6 I6 => ⟨σ, H5, I6, q4⟩
end
theorem yY {P : Program} {w : World} {H : Hp} (h : Heap) (hb : sysModules < h.objs.size) : cW P w H (h.push { cls := .type "dict", data := .dict #[] }) h.objs.size (.dK []) :=
 ⟨Nat.zero_le _, beq_eq_false_iff_ne.mpr (Ne.symm (Nat.ne_of_lt hb)), [], .nil, Heap.DictOf.new h⟩
def aJS : TE := fun _ H Q => ∀ p, H p = none → Q (.ref p) (upd H p (.dK []))
section
variable {X : Cx} {pos : Pos}
theorem aFR : PE X (.Dict [] [] pos) aJS := fun pins s σ H Q I h =>
 wpAny_Dict_empty ⟨.ref s.heap.objs.size, _, I.laid (a := s.heap.objs.size) (o := .dK []) (t' := s.toks) (fun _ _ q => Heap.get?_push_of_some _ q) (Nat.le_refl _) (yY s.heap I.big), rfl, h _ (I.hok.fresh (Nat.le_refl _))⟩
end
def zL : List (TE × TE) → St → Hp → (List (V × V) → Hp → Prop) → Prop
 | [], _, H, Q => Q [] H
 | (tk, tv) :: r, σ, H, Q => tk σ H fun x H1 => tv σ H1 fun y H2 => zL r σ H2 fun ps H3 => Q ((x, y) :: ps) H3
abbrev VV : List (V × V) → List (Value × Value) → Prop := Paired fun p q => bI p.1 q.1 ∧ bI p.2 q.2
def PPs (X : Cx) (pos : Pos) (keys : List (Option Expr)) (values : List Expr) (trs : List (TE × TE)) : Prop :=
 ∀ (pins : List (Addr × Obj)) (s : Shared) (σ : St) (H : Hp) (Q : List (V × V) → Hp → Prop), Inv X pins σ H s → zL trs σ H Q →
  wpAny (model X.prog X.w) X.A (evalPairs (pairTrees keys values X.env pos)) (fun vs s' => ∃ ps H', Inv X pins σ H' s' ∧ VV ps vs ∧ Q ps H') X.xe s
theorem aHU {X : Cx} {pos : Pos} : PPs X pos [] [] [] := fun pins s σ H Q I h => pairTrees_nil_walk ⟨[], H, I, .nil, h⟩
theorem aFN {X : Cx} {pos : Pos} {k v : Expr} {ks : List (Option Expr)} {vs : List Expr} {tk tv : TE} {trs : List (TE × TE)} (hk : PE X k tk) (hv : PE X v tv) (hr : PPs X pos ks vs trs) :
  PPs X pos (some k :: ks) (v :: vs) ((tk, tv) :: trs) := fun pins s σ H Q I h =>
 pairTrees_cons_walk (thn (hk pins s σ H _ I h) fun u s1 ⟨x, H1, I1, rx, q1⟩ => thn (hv pins s1 σ H1 _ I1 q1) fun w2 s2 ⟨y, H2, I2, ry, q2⟩ =>
  thn (hr pins s2 σ H2 _ I2 q2) fun ws s3 ⟨ps, H3, I3, rel, q3⟩ => ⟨(x, y) :: ps, H3, I3, .cons ⟨rx, ry⟩ rel, q3⟩)
def nE (kvs more : List (Key × V)) : List (Key × V) := more.foldl (fun acc kv => iB acc kv.1 kv.2) kvs
theorem KV.merge : ∀ {more : List (Key × V)} {rs : List (Key × Value)} {kvs : List (Key × V)} {vs : List (Key × Value)}, KV more rs → KV kvs vs → KV (nE kvs more) (merged vs rs) := by
 intro more rs kvs vs r
 unfold KV at r
 induction r generalizing kvs vs with
 | nil => intro q; exact q
 | @cons p q ps qs h t ih =>
  intro r0
  have e : KV (iB kvs p.1 p.2) (stored vs q.1 q.2) := by
   have := r0.put p.1 h.2
   rw [← h.1]; exact this
  exact ih e
theorem oA : ∀ (more kvs : List (Key × V)), (nE kvs more).length ≤ kvs.length + more.length
 | [], kvs => by show kvs.length ≤ kvs.length + 0; omega
 | p :: r, kvs => by
  have h1 := oA r (iB kvs p.1 p.2)
  have h2 := kN kvs p.1 p.2
  show (nE (iB kvs p.1 p.2) r).length ≤ _
  rw [List.length_cons]; omega
theorem uI {P : Program} {w : World} : ∀ {kvs : List (Key × V)} {ws : List (Value × Value)}, VV (kvs.map fun kv => (kV kv.1, kv.2)) ws → ∃ rs, Carries (aX P w) ws rs ∧ KV kvs rs
 | [], _, r => by rw [List.map_nil] at r; cases r; exact ⟨[], True.intro, .nil⟩
 | p :: kvs, _, r => by
  rw [List.map_cons] at r
  cases r with
  | @cons a b as bs h t =>
   obtain ⟨rs, c, q⟩ := uI (P := P) (w := w) t
   obtain ⟨b1, b2⟩ := b
   exact ⟨(p.1, b2) :: rs, ⟨qS h.1, rfl, c⟩, .cons ⟨rfl, h.2⟩ q⟩
def aLM (trs : List (TE × TE)) : TE := fun σ H Q => ∀ p, H p = none → zL trs σ (upd H p (.dK [])) fun ps H2 => H2 p = some (.dK []) ∧ ∃ kvs : List (Key × V), ps = kvs.map (fun kv => (kV kv.1, kv.2)) ∧ kvs.length ≤ 15 ∧ Q (.ref p) (upd H2 p (.dK (nE [] kvs)))
theorem aHX {X : Cx} {pos : Pos} {keys : List (Option Expr)} {values : List Expr} {trs : List (TE × TE)} (h : PPs X pos keys values trs) (hall : keys.all (·.isSome) = true) (hl : keys.length = values.length) (h0 : keys ≠ [])
  (h15 : keys.length ≤ 15) : PE X (.Dict keys values pos) (aLM trs) := by
 intro pins s σ H Q I q
 have hn := I.hok.fresh (Nat.le_refl s.heap.objs.size)
 have I1 := I.laid (a := s.heap.objs.size) (o := .dK []) (h' := s.heap.push { cls := .type "dict", data := .dict #[] }) (t' := s.toks) (fun _ _ q => Heap.get?_push_of_some _ q) (Nat.le_refl _) (yY s.heap I.big)
 refine wpAny_Dict_walk (knd := aX X.prog X.w) hall hl h0 h15 (thn (h pins _ σ _ _ I1 (q _ hn)) fun ws s2 ⟨ps, H2, I2, rel, e, kvs, ep, lk, q2⟩ => ?_)
 subst ep
 obtain ⟨rs, c, rk⟩ := uI (P := X.prog) (w := X.w) rel
 obtain ⟨z, hd, vs0, r0, dd⟩ := aJL I2.hok e
 cases r0
 refine ⟨rs, c, dd, fun h' dd' hs => ⟨.ref s.heap.objs.size, _, ?_, rfl, q2⟩⟩
 have hz : (nE [] kvs).length ≤ sizeLine := by
  have h1 := oA kvs []
  rw [List.length_nil] at h1
  rw [sizeLine_eq]; omega
 have he : ∃ q, h'.get? s.heap.objs.size = some q := let ⟨q, _, _, hq, _⟩ := dd'; ⟨q, hq⟩
 exact xB I2 (by rw [e]; exact True.intro) hs he (aGX hz hd (rk.merge .nil) dd')
structure M1 (X : Cx) (o : Expr) (m : Str) (apos : Pos) (e : Expr) (cpos : Pos) : Prop where
 base : attributeBase o m X.env (eval o X.env) = eval o X.env
 few : ((backTo cpos (starEach [e] X.env)).all (fun x => !x.1) && (backToKw cpos (keywordEach [] X.env)).all (fun x => x.1.isSome)
  && decide (([e] : List Expr).length + ([] : List Keyword).length + (if ([] : List Keyword).isEmpty then 0 else 1) < 30)) = true
 line : (apos.endLine == cpos.line) = true
 trees : backTo cpos (starEach [e] X.env) = [(false, eval e X.env)]
structure M2 (X : Cx) (o : Expr) (m : Str) (apos : Pos) (e f : Expr) (cpos : Pos) : Prop where
 base : attributeBase o m X.env (eval o X.env) = eval o X.env
 few : ((backTo cpos (starEach [e, f] X.env)).all (fun x => !x.1) && (backToKw cpos (keywordEach [] X.env)).all (fun x => x.1.isSome)
  && decide (([e, f] : List Expr).length + ([] : List Keyword).length + (if ([] : List Keyword).isEmpty then 0 else 1) < 30)) = true
 line : (apos.endLine == cpos.line) = true
 trees : backTo cpos (starEach [e, f] X.env) = [(false, eval e X.env), (false, eval f X.env)]
def IsD (H : Hp) (a : Addr) : Prop := (∃ kvs, Rd H a (.dK kvs)) ∨ ∃ kvs, Rd H a (.dT kvs)
theorem aGG {X : Cx} {pins : List (Addr × Obj)} {σ : St} {H : Hp} {s : Shared} {a : Addr} (I : Inv X pins σ H s) (d : IsD H a) :
  s.TypeIs (.ref a) "dict" ∧ (∀ b, Value.ref a = .ref b → ∃ ob, s.heap.get? b = some ob ∧ ob.dict = none) ∧ (a == sysModules) = false := by
 rcases d with ⟨kvs, e⟩ | ⟨kvs, e⟩
 ·obtain ⟨_, hd, vs, _, dd⟩ := qW I.hok e
  refine ⟨dd.typeIs, fun b q => ?_, hd⟩
  cases q
  obtain ⟨ob, _, _, h1, h2, _⟩ := dd
  exact ⟨ob, h1, h2.2.1⟩
 ·obtain ⟨_, hd, xs, _, dd⟩ := qV I.hok e
  refine ⟨dd.typeIs, fun b q => ?_, hd⟩
  cases q
  obtain ⟨ob, _, _, h1, h2, _⟩ := dd
  exact ⟨ob, h1, h2.2.1⟩
section
variable {X : Cx} {pins : List (Addr × Obj)} {σ : St} {H : Hp} {s : Shared} {a : Addr} {y d : V} {u r : Value} {o : Option V} {A : Around} {E : Value → Shared → Prop}
theorem aKT {Q : Value → Shared → Prop} (hu : A.units + 1 < cLine) (I : Inv X pins σ H s) (g : mH H a y o) (ry : bI y u) (h : ∀ w' s', Inv X pins σ H s' → bI (o.getD .non) w' → Q w' s') :
  wpAny (model X.prog X.w) A (call (.builtin "dict.get") [.ref a, u]) Q E s := by
 rcases g with ⟨kvs, k, e, ey, l⟩ | ⟨kvs, k, b, e, ey, eb, l⟩
 ·subst ey
  obtain ⟨z, hd, vs, rel, dd⟩ := qW I.hok e
  refine call_meetsIn PySem.F.slot_dict_get dd.typeIs PySem.F.entry_dict_get (PySem.F.args_dict_get_2 _ _) (meets_dict_get (aX X.prog X.w) a (qS ry) hd) ⟨_, dd.mapOf, h _ _ (I.tok _) ?_⟩
  rw [l]
  exact (rel.val k).getD rfl
 ·subst ey
  cases (show u = Value.ref b from ry)
  obtain ⟨z, hd, xs, rel, dd⟩ := qV I.hok e
  refine call_meetsIn PySem.F.slot_dict_get dd.typeIs PySem.F.entry_dict_get (PySem.F.args_dict_get_2 _ _) (meetsH_dict_get (tupleKind (aX X.prog X.w)) a b hd) ⟨tupleKind_room_in1 hu, k, xs, oR I.hok eb, dd, h _ _ (I.tok _) ?_⟩
  rw [l]
  exact (rel.val k).getD rfl
theorem aKS {Q : Value → Shared → Prop} (hu : A.units + 1 < cLine) (I : Inv X pins σ H s) (g : mH H a y o) (ry : bI y u) (rd : bI d r) (h : ∀ w' s', Inv X pins σ H s' → bI (o.getD d) w' → Q w' s') :
  wpAny (model X.prog X.w) A (call (.builtin "dict.get") [.ref a, u, r]) Q E s := by
 rcases g with ⟨kvs, k, e, ey, l⟩ | ⟨kvs, k, b, e, ey, eb, l⟩
 ·subst ey
  obtain ⟨z, hd, vs, rel, dd⟩ := qW I.hok e
  refine call_meetsIn PySem.F.slot_dict_get dd.typeIs PySem.F.entry_dict_get (PySem.F.args_dict_get_3 _ _ _) (meets_dict_get_default (aX X.prog X.w) a (qS ry) hd r) ⟨_, dd.mapOf, h _ _ (I.tok _) ?_⟩
  rw [l]
  exact (rel.val k).getD rd
 ·subst ey
  cases (show u = Value.ref b from ry)
  obtain ⟨z, hd, xs, rel, dd⟩ := qV I.hok e
  refine call_meetsIn PySem.F.slot_dict_get dd.typeIs PySem.F.entry_dict_get (PySem.F.args_dict_get_3 _ _ _) (meetsH_dict_get_default (tupleKind (aX X.prog X.w)) a b hd r) ⟨tupleKind_room_in1 hu, k, xs, oR I.hok eb, dd, h _ _ (I.tok _) ?_⟩
  rw [l]
  exact (rel.val k).getD rd
end
def aJU (td ty : TE) : TE := fun σ H Q => td σ H fun x H1 => ∃ a, x = .ref a ∧ IsD H1 a ∧ ty σ H1 fun y H2 => ∃ o, mH H2 a y o ∧ Q (o.getD .non) H2
def aJT (td ty tx : TE) : TE := fun σ H Q => td σ H fun x H1 => ∃ a, x = .ref a ∧ IsD H1 a ∧ ty σ H1 fun y H2 => tx σ H2 fun z H3 => ∃ o, mH H3 a y o ∧ Q (o.getD z) H3
section
variable {X : Cx} {o e f : Expr} {apos cpos : Pos} {td ty tx : TE}
theorem aFT (hu : X.A.units + 1 < cLine) (ho : PE X o td) (he : PE X e ty) (m : M1 X o "get" apos e cpos) : PE X (.Call (.Attribute o "get" apos) [e] [] cpos) (aJU td ty) := by
 intro pins s σ H Q I h
 refine wpAny_Call_method m.base m.few m.line PySem.F.plainAttrs_dict PySem.F.slot_dict_get PySem.F.type_dict_get (thn (ho pins s σ H _ I h) fun u s1 ⟨x, H1, I1, rx, a, ex, d, q1⟩ => ?_)
 subst ex
 obtain rfl : u = Value.ref a := rx
 obtain ⟨t1, t2, _⟩ := aGG I1 d
 refine ⟨t1, t2, ?_⟩
 rw [m.trees]
 refine Calls.callWith_builtin rfl (Calls.evalArgs_plain (Calls.spliced_cons (thn (he pins s1 σ H1 _ I1 q1) fun iv s2 ⟨y, H2, I2, ry, ov, g, q2⟩ => Calls.spliced_nil ?_)))
 exact aKT hu I2 g ry fun w' s3 I3 rw' => ⟨_, H2, I3, rw', q2⟩
theorem aFS (hu : X.A.units + 1 < cLine) (ho : PE X o td) (he : PE X e ty) (hf : PE X f tx) (m : M2 X o "get" apos e f cpos) : PE X (.Call (.Attribute o "get" apos) [e, f] [] cpos) (aJT td ty tx) := by
 intro pins s σ H Q I h
 refine wpAny_Call_method m.base m.few m.line PySem.F.plainAttrs_dict PySem.F.slot_dict_get PySem.F.type_dict_get (thn (ho pins s σ H _ I h) fun u s1 ⟨x, H1, I1, rx, a, ex, d, q1⟩ => ?_)
 subst ex
 obtain rfl : u = Value.ref a := rx
 obtain ⟨t1, t2, _⟩ := aGG I1 d
 refine ⟨t1, t2, ?_⟩
 rw [m.trees]
 refine Calls.callWith_builtin rfl (Calls.evalArgs_plain (Calls.spliced_cons (thn (he pins s1 σ H1 _ I1 q1) fun iv s2 ⟨y, H2, I2, ry, q2⟩ =>
  Calls.spliced_cons (thn (hf pins s2 σ H2 _ I2 q2) fun fv s3 ⟨z, H3, I3, rz, ov, g, q3⟩ => Calls.spliced_nil ?_))))
 exact aKS hu I3 g ry rz fun w' s4 I4 rw' => ⟨_, H3, I4, rw', q3⟩
end
section
variable {X : Cx} {pins : List (Addr × Obj)} {σ : St} {H : Hp} {s : Shared} {a : Addr} {kvs : List (Key × V)} {A : Around} {E : Value → Shared → Prop}
end
section
variable {X : Cx} {pins : List (Addr × Obj)} {σ : St} {H : Hp} {s : Shared} {a : Addr} {y : V} {u : Value} {A : Around} {E : Value → Shared → Prop}
end
end L2
namespace HT
open PySem PyProof.Rows
def aMD : List Int → List Int → Bool
 | [], [] => false
 | [], _ :: _ => true
 | _ :: _, [] => false
 | x :: xs, y :: ys => if x = y then aMD xs ys else decide (x < y)
section
open PySem.SeqAt
open PySem.AutoSeq1 (wpAny_loadPart')
open PySem.MeetsSeq PySem.MeetsSeq2 PySem.MeetsSeq3
end
section
variable {prog : Program} {w : World} {A : Around} {E : Value → Shared → Prop} {s : Shared}
def sIx (n d : Nat) : Option Int → Nat
 | none => d
 | some v => if v < 0 then (v + (n : Int)).toNat else min v.toNat n
theorem aJY (n d : Nat) (hd : d ≤ n) (o : Option Int) : sIx n d o ≤ n := by
 cases o with
 | none => exact hd
 | some v =>
  show (if v < 0 then (v + (n : Int)).toNat else min v.toNat n) ≤ n
  by_cases hv : v < 0
  ·rw [if_pos hv]; omega
  ·rw [if_neg hv]; exact Nat.min_le_right _ _
theorem aCI (v : Int) (n d : Nat) : (if v < 0 then max (v + (n : Int)) 0 else min v (n : Int)) = ((sIx n d (some v) : Nat) : Int) := by
 show (if v < 0 then max (v + (n : Int)) 0 else min v (n : Int)) = (((if v < 0 then (v + (n : Int)).toNat else min v.toNat n) : Nat) : Int)
 by_cases hv : v < 0
 ·simp only [if_pos hv]; omega
 ·simp only [if_neg hv]; omega
theorem aAU (lo hi : Option Int) (n : Nat) : Builtin.Slice.sliceAdjust lo hi 1 (n : Int) = (((sIx n 0 lo : Nat) : Int), ((sIx n n hi : Nat) : Int)) := by
 have h1 : ¬ ((1 : Int) < 0) := by omega
 unfold Builtin.Slice.sliceAdjust
 simp only [h1, if_false]
 refine Prod.ext ?_ ?_
 ·cases lo with
  | none => rfl
  | some v => exact aCI v n 0
 ·cases hi with
  | none => rfl
  | some v => exact aCI v n n
theorem zS (i j : Nat) : Builtin.Slice.slicePlaces (i : Int) (j : Int) 1 = j - i := by
 unfold Builtin.Slice.slicePlaces
 have h1 : (1 : Int) > 0 := by omega
 simp only [h1, if_true, Int.ediv_one]
 split <;> omega
theorem sG {v : Value} {o : Option Int} {Q : Option Int → Shared → Prop} (p : IsPart v o) (h : Q o s) : wpAny (model prog w) A (Builtin.Slice.slicePartIndex v) Q E s := by
 cases p with
 | none => exact slicePart_none h
 | int i t => exact slicePart_int h
theorem pV {sl : Addr} {vl vu : Value} {lo hi : Option Int} {n : Nat} {Q : Int × Int × Nat → Shared → Prop} (hs : s.heap.IsSliceOf sl vl vu .none) (pl : IsPart vl lo) (pu : IsPart vu hi)
  (h : Q (((sIx n 0 lo : Nat) : Int), 1, sIx n n hi - sIx n 0 lo) s) : wpAny (model prog w) A (Builtin.Slice.sliceApplied (.ref sl) (pure (n : Int))) Q E s := by
 obtain ⟨os, hos, hcs, hds⟩ := id hs
 unfold Builtin.Slice.sliceApplied Builtin.Slice.sliceFields
 refine wpAny_bind (wpAny_bind (wpAny_field hos hds (x := vl) rfl (wpAny_bind (wpAny_field hos hds (x := vu) rfl (wpAny_bind (wpAny_field hos hds (x := .none) rfl (wpAny_pure ?_)))))))
 refine wpAny_bind (slicePart_none ?_)
 show wpAny _ _ (if ((1 : Int) == 0) = true then _ else _) _ _ s
 rw [if_neg (by decide)]
 refine wpAny_bind (sG pl (wpAny_bind (sG pu (wpAny_bind (wpAny_pure ?_)))))
 show wpAny _ _ (match Builtin.Slice.sliceAdjust lo hi 1 (n : Int) with | (lo, hi) => pure (lo, (1 : Int), Builtin.Slice.slicePlaces lo hi 1)) _ _ s
 rw [aAU lo hi n]
 show wpAny _ _ (pure (((sIx n 0 lo : Nat) : Int), (1 : Int), Builtin.Slice.slicePlaces ((sIx n 0 lo : Nat) : Int) ((sIx n n hi : Nat) : Int) 1)) _ _ s
 rw [zS]
 exact wpAny_pure h
theorem aFO (xs : Array Value) (i k : Nat) : ((List.range k).filterMap fun (m : Nat) => xs[((i : Int) + (m : Int) * 1).toNat]?).toArray = ((xs.toList.drop i).take k).toArray := by
 have e : (fun (m : Nat) => xs[((i : Int) + (m : Int) * 1).toNat]?) = fun m => xs[i + m]? := by
  funext m
  have : ((i : Int) + (m : Int) * 1).toNat = i + m := by omega
  rw [this]
 rw [e]
 have := pick_run xs i k
 rw [List.filterMap_map] at this
 have e2 : ((fun x => xs[x]?) ∘ fun x => i + x) = fun m => xs[i + m]? := rfl
 rw [e2] at this
 rw [this]
theorem getItem_tuple_cut {t sl : Addr} {items : Array Value} {vl vu : Value} {lo hi : Option Int} {Q : Value → Shared → Prop} (ht : IsTup s.heap t items) (hs : s.heap.IsSliceOf sl vl vu .none) (pl : IsPart vl lo) (pu : IsPart vu hi)
  (hw : ¬ (sIx items.size 0 lo = 0 ∧ sIx items.size items.size hi = items.size))
  (h : Q (.ref s.heap.objs.size) { s with heap := s.heap.push { cls := .type "tuple", data := .seq ((items.toList.drop (sIx items.size 0 lo)).take (sIx items.size items.size hi - sIx items.size 0 lo)).toArray } })
  (hsz : items.size ≤ sizeLine) : wpAny (model prog w) A (getItem (.ref t) (.ref sl)) Q E s := by
 have htake : sizeOk (.seq ((items.toList.drop (sIx items.size 0 lo)).take (sIx items.size items.size hi - sIx items.size 0 lo)).toArray) := by
  show ((items.toList.drop (sIx items.size 0 lo)).take (sIx items.size items.size hi - sIx items.size 0 lo)).toArray.size ≤ sizeLine
  rw [List.size_toArray, List.length_take, List.length_drop, Array.length_toList]
  omega
 have hj : sIx items.size items.size hi ≤ items.size := aJY _ _ (Nat.le_refl _) hi
 obtain ⟨os, hos, hcs, hds⟩ := id hs
 have hTs : s.TypeIs (.ref sl) "slice" := ⟨os, hos, hcs⟩
 unfold getItem
 try with_reducible refine wpAny_holding ?_
 first | refine wpAny_bind (wpAny_pure ?_) | skip
 refine wpAny_bind (wpAny_sequenceKey ht.typeIs (by decide) ?_)
 refine wpAny_bind (wpAny_callSpecial?_slot (name := Str.ofString "__getitem__") ht.typeIs PyProof.Rows.slot_tuple_getitem
  (wpAny_call_entry PyProof.Rows.slot_tuple_getitem ht.typeIs entry_tuple_getitem ?_ (args_tuple_getitem _ _)))
 show wpAny _ _ (Builtin.Tuple.tupleItemsOf (.ref t) >>= _) _ _ s
 refine wpAny_bind (tupleItemsOf_ ht ?_)
 refine wpAny_bind (wpAny_typeOf hTs ?_)
 rw [if_pos (by decide)]
 refine wpAny_bind (pV hs pl pu ?_)
 have hno : ¬ ((((sIx items.size 0 lo : Nat) : Int) == 0 && (1 : Int) == 1 && (sIx items.size items.size hi - sIx items.size 0 lo) == items.size) = true) := by
  intro q
  rw [Bool.and_eq_true, Bool.and_eq_true] at q
  have q1 : ((sIx items.size 0 lo : Nat) : Int) = 0 := eq_of_beq q.1.1
  have q2 : sIx items.size items.size hi - sIx items.size 0 lo = items.size := eq_of_beq q.2
  exact hw ⟨by omega, by omega⟩
 show wpAny _ _ (if (((sIx items.size 0 lo : Nat) : Int) == 0 && (1 : Int) == 1 && (sIx items.size items.size hi - sIx items.size 0 lo) == items.size) = true then _ else _) _ _ s
 rw [if_neg hno, aFO]
 first
  | exact wpAny_bind (m := Builtin.Tuple.tupleExact _) (wpAny_newObj_type (wpAny_pure ⟨_, rfl, wpAny_pure h⟩) htake)
  | exact wpAny_bind (m := Builtin.Tuple.tupleExact _) (wpAny_newObj_type (wpAny_bind (wpAny_pure (wpAny_pure ⟨_, rfl, wpAny_pure h⟩))) htake)
  | exact wpAny_bind (wpAny_bind (m := Builtin.Tuple.tupleExact _) (wpAny_newObj_type (wpAny_pure (wpAny_pure ⟨_, rfl, wpAny_pure h⟩)) htake))
  | exact wpAny_bind (wpAny_bind (m := Builtin.Tuple.tupleExact _) (wpAny_newObj_type (wpAny_pure ⟨_, rfl, wpAny_pure h⟩) htake))
end
end HT
namespace L2
open PySem PySem.Spec PyProof.Rows
abbrev TO := St → Hp → (Option Int → Hp → Prop) → Prop
def PO (X : Cx) (e : Option Expr) (t : TO) : Prop :=
 ∀ (pins : List (Addr × Obj)) (s : Shared) (σ : St) (H : Hp) (Q : Option Int → Hp → Prop), Inv X pins σ H s → t σ H Q →
  wpAny (model X.prog X.w) X.A (evalPart e X.env) (fun u s' => ∃ o H', Inv X pins σ H' s' ∧ IsPart u o ∧ Q o H') X.xe s
def aHK : TO := fun _ H Q => Q none H
def aLI (t : TE) : TO := fun σ H Q => t σ H fun x H1 => ∃ i, x = .int i ∧ Q (some i) H1
theorem tT {ns : List Int} : ∀ {us : List Value}, bK (ns.map V.int) us → IntsAre us ns := by
 induction ns with
 | nil => intro us r; rw [List.map_nil] at r; cases r; exact .nil
 | cons n ns ih =>
  intro us r
  rw [List.map_cons] at r
  cases r with
  | cons r1 r2 =>
   obtain ⟨t, e⟩ := r1
   subst e
   exact .cons n t (ih r2)
section
variable {X : Cx} {e : Expr} {te : TE} {lo hi : Option Expr} {tl th : TO} {pos p2 : Pos}
theorem aBW : PO X none aHK := by
 intro pins s σ H Q I h
 rw [evalPart_none]
 exact wpAny_pure ⟨none, H, I, .none, h⟩
theorem rR (h : PE X e te) : PO X (some e) (aLI te) := by
 intro pins s σ H Q I hw
 rw [evalPart_some]
 refine thn (h pins s σ H _ I hw) fun u s1 ⟨x, H1, I1, r1, q1⟩ => ?_
 obtain ⟨i, rfl, q⟩ := q1
 obtain ⟨t, rfl⟩ := r1
 exact ⟨some i, H1, I1, .int i t, q⟩
def SlR (X : Cx) (r : V → Option Int → Option Int → Hp → VK → Prop) : Prop :=
 ∀ (pins : List (Addr × Obj)) (s : Shared) (σ : St) (H : Hp) (x : V) (v vl vu : Value) (lo hi : Option Int) (sl : Addr) (Q : VK), Inv X pins σ H s → bI x v → s.heap.IsSliceOf sl vl vu .none → IsPart vl lo → IsPart vu hi → r x lo hi H Q →
  ∃ T id, typeLookup (.type T) "__getitem__" = pure (some (.builtin id)) ∧ s.TypeIs v T ∧ wpAny (model X.prog X.w) X.A (getItem v (.ref sl)) (EP X pins σ Q) X.xe s
def tSl (r : V → Option Int → Option Int → Hp → VK → Prop) (te : TE) (tl th : TO) : TE := fun σ H Q => te σ H fun x H1 => tl σ H1 fun l H2 => th σ H2 fun u H3 => r x l u H3 Q
theorem sS {r : V → Option Int → Option Int → Hp → VK → Prop} (hr : SlR X r) (he : PE X e te) (hl : PO X lo tl) (hu : PO X hi th) : PE X (.Subscript e (.Slice lo hi none p2) pos) (tSl r te tl th) := by
 intro pins s σ H Q I h
 refine Subscript_ (thn (he pins s σ H _ I h) fun v s1 ⟨x, H1, I1, r1, q1⟩ => ?_)
 refine wpAny_Slice (thn (hl pins s1 σ H1 _ I1 q1) fun vl s2 ⟨l, H2, I2, pl, q2⟩ => thn (hu pins s2 σ H2 _ I2 q2) fun vu s3 ⟨u, H3, I3, pu, q3⟩ => ?_)
 rw [evalPart_none]
 refine wpAny_pure ?_
 have I4 : Inv X pins σ H3 { s3 with heap := s3.heap.push { cls := .type "slice", data := .fields #[vl, vu, .none] } } := I3.kept (t' := s3.toks) fun b ob q => Heap.get?_push_of_some _ q
 obtain ⟨T, id, hT, ht, hg⟩ := hr pins { s3 with heap := s3.heap.push { cls := .type "slice", data := .fields #[vl, vu, .none] } } σ H3 x v vl vu l u s3.heap.objs.size Q I4 r1 (Heap.IsSliceOf.new ..) pl pu q3
 show wpAny (model X.prog X.w) X.A (subscriptTail e (.Slice lo hi none p2) v (.ref s3.heap.objs.size)) (EP X pins σ Q) X.xe { s3 with heap := s3.heap.push { cls := .type "slice", data := .fields #[vl, vu, .none] } }
 exact tail_any (ops := [.ref s3.heap.objs.size, v]) ht hT hg (by with_unfolding_all rfl)
def aAP (xs : List V) (lo hi : Option Int) : List V := (xs.drop (HT.sIx xs.length 0 lo)).take (HT.sIx xs.length xs.length hi - HT.sIx xs.length 0 lo)
theorem zA (xs : List V) (lo hi : Option Int) : (aAP xs lo hi).length ≤ xs.length := by
 unfold aAP
 rw [List.length_take, List.length_drop]
 omega
def aLV (K : PySem.W.Frag) : V → Option Int → Option Int → Hp → VK → Prop := fun x lo hi H Q => ∃ a xs, x = .ref a ∧ SqT K H a xs ∧
 ¬ (HT.sIx xs.length 0 lo = 0 ∧ HT.sIx xs.length xs.length hi = xs.length) ∧ ∀ p, H p = none → Q (.ref p) (upd H p (.tup (aAP xs lo hi)))
theorem aJX : SlR X (aLV X.K) := by
 intro pins s σ H x v vl vu lo hi sl Q I rx hs pl pu h
 obtain ⟨a, xs, rfl, hx, hw, q⟩ := h
 cases rx
 obtain ⟨its, r, ht, hz⟩ := I.tuple hx
 have hlen : its.toArray.size = xs.length := by rw [List.size_toArray]; exact r.length.symm
 refine ⟨"tuple", _, PyProof.Rows.slot_tuple_getitem.lookup, ht.typeIs, ?_⟩
 refine HT.getItem_tuple_cut ht hs pl pu (by rw [hlen]; exact hw) ?_ (by rw [hlen]; exact hz)
 rw [hlen]
 refine ⟨.ref s.heap.objs.size, _, I.laid (t' := s.toks) (o := .tup (aAP xs lo hi)) (fun b ob q => Heap.get?_push_of_some _ q) (Nat.le_refl _) ?_, rfl, q _ (I.hok.fresh (Nat.le_refl _))⟩
 exact ⟨Nat.le_trans (zA xs lo hi) hz, _, (r.drop (HT.sIx xs.length 0 lo)).take (HT.sIx xs.length xs.length hi - HT.sIx xs.length 0 lo), qN.new _ _⟩
end
end L2
namespace L2
open PySem PySem.Spec PyProof.Rows
def ixN (n : Nat) (i : Int) : Option Nat := if 0 ≤ i then (if i < n then some i.toNat else none) else if -(n : Int) ≤ i then some (i + n).toNat else none
def atI {α : Type} (xs : List α) (i : Int) : Option α := (ixN xs.length i).bind fun j => xs[j]?
theorem aIF {n : Nat} {i : Int} {j : Nat} (h : ixN n i = some j) : seqIndex? i n = some j ∧ j < n ∧ -(n : Int) ≤ i ∧ i < n := by
 unfold ixN at h
 by_cases h0 : 0 ≤ i
 ·rw [if_pos h0] at h
  by_cases h1 : i < n
  ·rw [if_pos h1] at h
   have e : i.toNat = j := Option.some.inj h
   exact ⟨by rw [seqIndex_of h0 h1, e], by omega, by omega, h1⟩
  ·rw [if_neg h1] at h; cases h
 ·rw [if_neg h0] at h
  by_cases h1 : -(n : Int) ≤ i
  ·rw [if_pos h1] at h
   have e : (i + n).toNat = j := Option.some.inj h
   exact ⟨by rw [seqIndex_neg (by omega) h1, e], by omega, h1, by omega⟩
  ·rw [if_neg h1] at h; cases h
theorem xH {α : Type} {xs : List α} {i : Int} {v : α} (h : atI xs i = some v) : ∃ j, seqIndex? i xs.length = some j ∧ xs[j]? = some v ∧ j < xs.length ∧ -(xs.length : Int) ≤ i ∧ i < xs.length := by
 unfold atI at h
 cases e : ixN xs.length i with
 | none => rw [e] at h; cases h
 | some j =>
  rw [e] at h
  obtain ⟨h1, h2, h3, h4⟩ := aIF e
  exact ⟨j, h1, h, h2, h3, h4⟩
theorem aJ {α : Type} {xs : List α} {j : Nat} {v : α} (h : xs[j]? = some v) : atI xs (j : Int) = some v := by
 have hj : j < xs.length := (List.getElem?_eq_some_iff.mp h).1
 have e : ixN xs.length (j : Int) = some j := by
  unfold ixN
  rw [if_pos (by omega), if_pos (by omega)]; simp
 unfold atI; rw [e]; exact h
def aIS (b : Expr) : Prop := ∀ o i, subscripted b false o i = operate [o, i] (getItem o i)
def IxR (X : Cx) (r : R2) : Prop :=
 ∀ (value slice : Expr) (pins : List (Addr × Obj)) (s : Shared) (σ : St) (H : Hp) (x y : V) (v u : Value) (Q : VK), Inv X pins σ H s → bI x v → bI y u → r x y H Q →
  subscripted slice false v u = operate [v, u] (getItem v u) → wpAny (model X.prog X.w) X.A (subscriptTail value slice v u) (EP X pins σ Q) X.xe s
def MtR (X : Cx) (id : String) (r : V → List V → Hp → VK → Prop) : Prop :=
 ∀ (pins : List (Addr × Obj)) (s : Shared) (σ : St) (H : Hp) (x : V) (xs : List V) (v : Value) (us : List Value) (Q : VK), Inv X pins σ H s → bI x v → bK xs us → r x xs H Q →
  wpAny (model X.prog X.w) X.A (call (.builtin id) (v :: us)) (EP X pins σ Q) X.xe s
section
variable {X : Cx} {a b : Expr} {ta tb : TE} {pos : Pos}
theorem aY {r : R2} (hr : IxR X r) (ha : PE X a ta) (hb : PE X b tb) (hs : aIS b) : PE X (.Subscript a b pos) (tOp r ta tb) := by
 intro pins s σ H Q I h
 exact Subscript_ (aKY ha hb I h fun v u s2 x y H2 I2 rx ry q => hr a b pins s2 σ H2 x y v u Q I2 rx ry q (hs _ _))
def aLY (K : PySem.W.Frag) : R2 := fun x y H Q => ∃ p xs i v, x = .ref p ∧ y = .int i ∧ SqL K H p xs ∧ atI xs i = some v ∧ Q v H
def aLX (K : PySem.W.Frag) : R2 := fun x y H Q => ∃ p xs i v, x = .ref p ∧ y = .int i ∧ SqT K H p xs ∧ atI xs i = some v ∧ Q v H
def aNJ : R2 := fun x y H Q => ∃ z i c, x = .str z ∧ y = .int i ∧ z.length ≤ sizeLine ∧ atI z.cps.toList i = some c ∧ Q (.str ⟨#[c]⟩) H
theorem aIE : IxR X (aLY X.K) := by
 intro value slice pins s σ H x y v u Q I rx ry h hs
 obtain ⟨p, xs, i, z, rfl, rfl, hq, he, q⟩ := h
 cases rx
 obtain ⟨t, rfl⟩ := ry
 obtain ⟨its, r, pl, hz⟩ := I.list hq
 obtain ⟨j, h1, h2, h3, h4, h5⟩ := xH he
 obtain ⟨w, ew, rw'⟩ := r.get h2
 have hl := r.length
 have hn := tO
 have fin : EP X pins σ Q w s := ⟨z, H, I, rw', q⟩
 by_cases h0 : 0 ≤ i
 ·have hj : i.toNat = j := by
   rw [seqIndex_of h0 h5] at h1
   exact Option.some.inj h1
  exact item_listR pl.isList h0 (by omega) (by rw [hj]; simpa using ew) fin hs
 ·have hj : (i + (its.toArray.size : Int)).toNat = j := by
   rw [seqIndex_neg (by omega) h4] at h1
   rw [List.size_toArray, ← hl]
   exact Option.some.inj h1
  exact subscriptTail_builtinR (x := w) pl.isList.typeIs slot_list_getitem.lookup
   (wpAny_getItem_list_neg (Q := fun r s' => r = w ∧ EP X pins σ Q r s') pl.isList (by omega) (by rw [List.size_toArray] <;> omega) (by omega) (by rw [hj]; simpa using ew) ⟨rfl, fin⟩) hs
theorem aKO : IxR X (aLX X.K) := by
 intro value slice pins s σ H x y v u Q I rx ry h hs
 obtain ⟨p, xs, i, z, rfl, rfl, hq, he, q⟩ := h
 cases rx
 obtain ⟨t, rfl⟩ := ry
 obtain ⟨its, r, pl, hz⟩ := I.tuple hq
 obtain ⟨j, h1, h2, h3, h4, h5⟩ := xH he
 obtain ⟨w, ew, rw'⟩ := r.get h2
 have hl := r.length
 have hn := tO
 have fin : EP X pins σ Q w s := ⟨z, H, I, rw', q⟩
 exact subscriptTail_builtinR (x := w) pl.typeIs slot_tuple_getitem.lookup
  (getItem_tuple (j := j) (Q := fun r s' => r = w ∧ EP X pins σ Q r s') pl (by omega) (by omega) (by rw [List.size_toArray, ← hl]; exact h1) (by simpa using ew) ⟨rfl, fin⟩) hs
theorem aGD : IxR X aNJ := by
 intro value slice pins s σ H x y v u Q I rx ry h hs
 obtain ⟨z, i, c, rfl, rfl, hz, he, q⟩ := h
 obtain ⟨t, rfl⟩ := rx
 obtain ⟨t', rfl⟩ := ry
 obtain ⟨j, h1, h2, h3, h4, h5⟩ := xH he
 have hl : z.cps.toList.length = z.length := by simp [Str.length]
 rw [hl] at h1 h4 h5
 have hn := tO
 exact tail_any (typeIs_str s z t) slot_str_getitem.lookup (getItem_str (c := c) (by
  have e1 : decide (i < -(2 ^ 63 : Int)) = false := decide_eq_false (by omega)
  have e2 : decide (i ≥ 2 ^ 63) = false := decide_eq_false (by omega)
  rw [e1, e2, Bool.or_false]) (by rw [h1]; simpa using h2) ⟨.str ⟨#[c]⟩, H, I.tok _, ⟨_, rfl⟩, q⟩) hs
def pQ : V → Bool
 | .non => true
 | .bl _ => true
 | .int _ => true
 | .str _ => true
 | _ => false
def eqV : V → V → Bool
 | .non, .non => true
 | .bl a, .bl b => a == b
 | .bl a, .int b => (if a then 1 else 0) == b
 | .int a, .bl b => a == (if b then 1 else 0)
 | .int a, .int b => a == b
 | .str a, .str b => a == b
 | _, _ => false
theorem mG {A : Around} {s : Shared} {y x : V} {u v : Value} (ry : bI y u) (rx : bI x v) (fy : pQ y = true) (fx : pQ x = true) : SeqAt.EqAt A s u v (eqV y x) := by
 cases y with
 | non =>
  cases ry
  cases x with
  | non => cases rx; exact SeqAt.EqAt.same _
  | bl b => cases rx; exact SeqAt.EqAt.none_bool b
  | int b => obtain ⟨t, rfl⟩ := rx; exact SeqAt.EqAt.none_int b t
  | str b => obtain ⟨t, rfl⟩ := rx; exact SeqAt.EqAt.none_str b t
  | _ => exact absurd (show false = true from fx) Bool.false_ne_true
 | bl a =>
  cases ry
  cases x with
  | non => cases rx; exact SeqAt.EqAt.bool_none a
  | bl b => cases rx; exact SeqAt.EqAt.bool_bool a b
  | int b => obtain ⟨t, rfl⟩ := rx; exact SeqAt.EqAt.bool_int a b t
  | str b => obtain ⟨t, rfl⟩ := rx; exact SeqAt.EqAt.bool_str a b t
  | _ => exact absurd (show false = true from fx) Bool.false_ne_true
 | int a =>
  obtain ⟨t', rfl⟩ := ry
  cases x with
  | non => cases rx; exact SeqAt.EqAt.int_none a t'
  | bl b => cases rx; exact SeqAt.EqAt.int_bool a t' b
  | int b => obtain ⟨t, rfl⟩ := rx; exact SeqAt.EqAt.int_int a t' b t
  | str b => obtain ⟨t, rfl⟩ := rx; exact SeqAt.EqAt.int_str a t' b t
  | _ => exact absurd (show false = true from fx) Bool.false_ne_true
 | str a =>
  obtain ⟨t', rfl⟩ := ry
  cases x with
  | non => cases rx; exact SeqAt.EqAt.str_none a t'
  | bl b => cases rx; exact SeqAt.EqAt.str_bool a t' b
  | int b => obtain ⟨t, rfl⟩ := rx; exact SeqAt.EqAt.str_int a t' b t
  | str b => obtain ⟨t, rfl⟩ := rx; exact SeqAt.EqAt.str_str a t' b t
  | _ => exact absurd (show false = true from fx) Bool.false_ne_true
 | _ => exact absurd (show false = true from fy) Bool.false_ne_true
def eqU (x : V) (u : Value) : Bool := match u with
 | .none => eqV .non x
 | .bool b => eqV (.bl b) x
 | .int i _ => eqV (.int i) x
 | .str z _ => eqV (.str z) x
 | _ => false
theorem aGU {x y : V} {u : Value} (r : bI y u) (f : pQ y = true) : eqU x u = eqV y x := by
 cases y with
 | non => cases r; rfl
 | bl b => cases r; rfl
 | int i => obtain ⟨t, rfl⟩ := r; rfl
 | str z => obtain ⟨t, rfl⟩ := r; rfl
 | _ => exact absurd (show false = true from f) Bool.false_ne_true
theorem pR {x : V} : ∀ {xs : List V} {us : List Value}, bK xs us → xs.all pQ = true → us.any (eqU x) = xs.any fun y => eqV y x
 | _, _, .nil, _ => rfl
 | y :: xs, u :: us, .cons r t, f => by
  rw [List.all_cons, Bool.and_eq_true] at f
  rw [List.any_cons, List.any_cons, aGU r f.1, pR t f.2]
theorem nF {A : Around} {s : Shared} {x : V} {v : Value} (rx : bI x v) (fx : pQ x = true) : ∀ {xs : List V} {us : List Value}, bK xs us → xs.all pQ = true → ∀ u ∈ us, SeqAt.EqAt A s u v (eqU x u)
 | _, _, .nil, _ => fun u hu => by cases hu
 | y :: xs, u :: us, .cons r t, f => fun u' hu => by
  rw [List.all_cons, Bool.and_eq_true] at f
  rcases List.mem_cons.mp hu with rfl | hu
  ·rw [aGU r f.1]; exact mG r rx f.1 fx
  ·exact nF rx fx t f.2 u' hu
def inV (x : V) (xs : List V) : Bool := xs.any fun y => eqV y x
def rIn (K : PySem.W.Frag) (neg : Bool) : R2 := fun x y H Q => ∃ p xs, y = .ref p ∧ (SqL K H p xs ∨ SqT K H p xs) ∧ pQ x = true ∧ xs.all pQ = true ∧ Q (.bl (if neg then !inV x xs else inV x xs)) H
theorem aDH : OpR X (compareOp .In) (rIn X.K false) := by
 intro pins s σ H x y v u Q I rx ry h
 obtain ⟨p, xs, rfl, hq, fx, fs, q⟩ := h
 cases ry
 rcases hq with hq | hq
 ·obtain ⟨its, r, pl, hz⟩ := I.list hq
  refine SeqAt.in_listAt (eqU x) pl.isList (fun w hw => nF rx fx r fs w (by simpa using hw)) ⟨.bl _, H, I, rfl, ?_⟩
  rw [show its.toArray.any (eqU x) = its.any (eqU x) by simp, pR r fs]
  exact q
 ·obtain ⟨its, r, pl, hz⟩ := I.tuple hq
  refine SeqAt.in_tupleAt (eqU x) pl (fun w hw => nF rx fx r fs w (by simpa using hw)) ⟨.bl _, H, I, rfl, ?_⟩
  rw [show its.toArray.any (eqU x) = its.any (eqU x) by simp, pR r fs]
  exact q
theorem wP : OpR X (compareOp .NotIn) (rIn X.K true) := by
 intro pins s σ H x y v u Q I rx ry h
 obtain ⟨p, xs, rfl, hq, fx, fs, q⟩ := h
 cases ry
 rcases hq with hq | hq
 ·obtain ⟨its, r, pl, hz⟩ := I.list hq
  refine SeqAt.notIn_listAt (eqU x) pl.isList (fun w hw => nF rx fx r fs w (by simpa using hw)) ⟨.bl _, H, I, rfl, ?_⟩
  rw [show its.toArray.any (eqU x) = its.any (eqU x) by simp, pR r fs]
  exact q
 ·obtain ⟨its, r, pl, hz⟩ := I.tuple hq
  refine SeqAt.notIn_tupleAt (eqU x) pl (fun w hw => nF rx fx r fs w (by simpa using hw)) ⟨.bl _, H, I, rfl, ?_⟩
  rw [show its.toArray.any (eqU x) = its.any (eqU x) by simp, pR r fs]
  exact q
theorem xF : hG X (.builtin "len") (fun xs H Q => ∃ p ys, xs = [.ref p] ∧ (SqL X.K H p ys ∨ SqT X.K H p ys) ∧ Q (.int ys.length) H) := by
 intro pins s σ H xs us Q I r h
 obtain ⟨p, ys, rfl, hq, q⟩ := h
 obtain ⟨u, rfl, rx⟩ := xL r
 cases rx
 have hn := tO
 rcases hq with hq | hq
 ·obtain ⟨its, r', pl, hz⟩ := I.list hq
  have hlen := r'.length
  exact Calls.call_len_list pl.isList (by simp only [List.size_toArray] <;> omega) ⟨.int ys.length, H, I.tok _, ⟨s.toks + 1, by rw [List.size_toArray, hlen]⟩, q⟩
 ·obtain ⟨its, r', pl, hz⟩ := I.tuple hq
  have hlen := r'.length
  exact len_tuple pl (by simp only [List.size_toArray] <;> omega) ⟨.int ys.length, H, I.tok _, ⟨s.toks + 1, by rw [List.size_toArray, hlen]⟩, q⟩
theorem xE : hG X (.builtin "len") (fun xs H Q => ∃ z, xs = [.str z] ∧ z.length ≤ sizeLine ∧ Q (.int z.length) H) := by
 intro pins s σ H xs us Q I r h
 obtain ⟨z, rfl, hz, q⟩ := h
 obtain ⟨u, rfl, t, rfl⟩ := xL r
 have hn := tO
 exact len_str (by omega) ⟨.int z.length, H, I.tok _, ⟨_, rfl⟩, q⟩
theorem xD : hG X (.type "list") (fun xs H Q => ∃ p ys, xs = [.ref p] ∧ (SqL X.K H p ys ∨ SqT X.K H p ys) ∧ ∀ l, H l = none → Q (.ref l) (upd H l (.lst ys))) := by
 intro pins s σ H xs us Q I r h
 obtain ⟨p, ys, rfl, hq, q⟩ := h
 obtain ⟨u, rfl, rx⟩ := xL r
 cases rx
 have fin : ∀ (its : List Value), bK ys its → ys.length ≤ sizeLine → ∀ (h' : Heap) (c' : Nat), (∀ b o', s.heap.get? b = some o' → h'.get? b = some o') →
   h'.get? s.heap.objs.size = some { cls := .type "list", dict := none, data := .seq its.toArray c', slots := #[] } → EP X pins σ Q (.ref s.heap.objs.size) { s with heap := h' } := fun its r' hz h' c' kp e =>
  ⟨.ref s.heap.objs.size, _, I.laid (t' := s.toks) kp (Nat.le_refl _) (show cW X.prog X.w _ h' _ (.lst ys) from ⟨hz, its, c', r', e⟩), rfl, q _ (I.hok.fresh (Nat.le_refl _))⟩
 rcases hq with hq | hq
 ·obtain ⟨its, r', pl, hz⟩ := I.list hq
  have hlen := r'.length
  obtain ⟨o, ho, hc, n, hd⟩ := pl.isList
  exact call_list_seq p (.inl rfl) ho hc hd (fun h' c' kp e => fin its r' hz h' c' kp e) (by simp only [List.size_toArray] <;> omega)
 ·obtain ⟨its, r', pl, hz⟩ := I.tuple hq
  have hlen := r'.length
  obtain ⟨o, ho, hc, n, hd⟩ := pl
  exact call_list_seq p (.inr rfl) ho hc hd (fun h' c' kp e => fin its r' hz h' c' kp e) (by simp only [List.size_toArray] <;> omega)
def tyV (K : PySem.W.Frag) (T : String) (x : V) (H : Hp) : Prop := match x with
 | .str _ => T = "str"
 | .int _ => T = "int"
 | .ref p => (T = "list" ∧ ∃ xs, SqL K H p xs) ∨ (T = "tuple" ∧ ∃ o, K.lookup p = some o ∧ o.cls = .type "tuple" ∧ o.dict = none) ∨
   (T = "dict" ∧ ((∃ kvs, H p = some (.dK kvs)) ∨ ∃ kvs, H p = some (.dT kvs))) ∨ (T = "set" ∧ ∃ S n, H p = some (.set S n)) ∨ (T = "tuple" ∧ ∃ xs, H p = some (.tup xs))
 | _ => False
theorem aEL {pins : List (Addr × Obj)} {σ : St} {H : Hp} {s : Shared} {T : String} {x : V} {v : Value} (I : Inv X pins σ H s) (r : bI x v) (ty : tyV X.K T x H) :
  s.TypeIs v T ∧ ∀ a, v = .ref a → ∃ ob, s.heap.get? a = some ob ∧ ob.dict = none := by
 cases x with
 | str z =>
  obtain ⟨t, rfl⟩ := r
  cases (show T = "str" from ty)
  exact ⟨typeIs_str s z t, fun _ e => nomatch e⟩
 | int i =>
  obtain ⟨t, rfl⟩ := r
  cases (show T = "int" from ty)
  exact ⟨typeIs_int s i t, fun _ e => nomatch e⟩
 | ref p =>
  cases r
  rcases ty with ⟨rfl, xs, hq⟩ | ⟨rfl, o, hk, hc, hd⟩ | ⟨rfl, hk⟩ | ⟨rfl, S, n, hk⟩ | ⟨rfl, xs, hk⟩
  ·obtain ⟨its, _, pl, _⟩ := I.list hq
   refine ⟨pl.isList.typeIs, fun a e => ?_⟩
   cases e
   obtain ⟨o, n, e, c, hd, _⟩ := pl
   exact ⟨o, e, hd⟩
  ·refine ⟨⟨o, I.kIn p o hk, hc⟩, fun a e => ?_⟩
   cases e
   exact ⟨o, I.kIn _ o hk, hd⟩
  ·have z : ∃ o, s.heap.get? p = some o ∧ o.ExactDict := by
    rcases hk with ⟨kvs, hk⟩ | ⟨kvs, hk⟩
    ·obtain ⟨_, _, _, _, o, _, _, e, ex, _⟩ := I.hok p _ hk
     exact ⟨o, e, ex⟩
    ·obtain ⟨_, _, _, _, o, _, _, e, ex, _⟩ := I.hok p _ hk
     exact ⟨o, e, ex⟩
   obtain ⟨o, e, ex⟩ := z
   refine ⟨⟨o, e, ex.1⟩, fun a e2 => ?_⟩
   cases e2
   exact ⟨o, e, ex.2.1⟩
  ·obtain ⟨o, _, _, _, e, ex, _⟩ := I.hok p _ hk
   refine ⟨⟨o, e, ex.1⟩, fun a e2 => ?_⟩
   cases e2
   exact ⟨o, e, ex.2.1⟩
  ·obtain ⟨_, _, _, o, e, hc, _, _, hd⟩ := (show cW X.prog X.w H s.heap p (.tup xs) from I.hok p _ hk)
   refine ⟨⟨o, e, hc⟩, fun a e2 => ?_⟩
   cases e2
   exact ⟨o, e, hd⟩
 | _ => exact False.elim ty
def aNF (K : PySem.W.Frag) (T : String) (r : V → List V → Hp → VK → Prop) (to : TE) : TE := fun σ H Q => to σ H fun x H1 => tyV K T x H1 ∧ r x [] H1 Q
def tBM (K : PySem.W.Frag) (T : String) (r : V → List V → Hp → VK → Prop) (to : TE) (t : TA) : TE := fun σ H Q => to σ H fun x H1 => tyV K T x H1 ∧ t σ H1 fun xs H2 => r x xs H2 Q
variable {o e : Expr} {es : List Expr} {to : TE} {t : TA} {name : Str} {apos cpos : Pos} {T id : String} {r : V → List V → Hp → VK → Prop}
theorem aKF (pa : PlainAttrs T) (slot : Slot T name id) (hty : typeOf (.builtin id) = pure (.type "method_descriptor")) (hm : MtR X id r) (ho : PE X o to)
  (hbase : attributeBase o name X.env (eval o X.env) = eval o X.env := by rfl) (hline : (apos.endLine == cpos.line) = true := by rfl) : PE X (.Call (.Attribute o name apos) [] [] cpos) (aNF X.K T r to) := by
 intro pins s σ H Q I h
 refine wpAny_Call_method0_late hbase hline (thn (ho pins s σ H _ I h) fun v s1 ⟨x, H1, I1, r1, ty, q1⟩ => ?_)
 obtain ⟨h1, h2⟩ := aEL I1 r1 ty
 exact ⟨T, id, pa, slot, hty, h1, h2, Calls.callWith_builtin rfl (PySem.evalArgs_none (hm pins s1 σ H1 x [] v [] Q I1 r1 .nil q1))⟩
theorem mY (pa : PlainAttrs T) (slot : Slot T name id) (hty : typeOf (.builtin id) = pure (.type "method_descriptor")) (hm : MtR X id r) (ho : PE X o to) (ha : PA X (e :: es) t)
  (hbase : attributeBase o name X.env (eval o X.env) = eval o X.env := by rfl)
  (hfew : ((backTo cpos (starEach (e :: es) X.env)).all (fun x => !x.1) && (backToKw cpos (keywordEach [] X.env)).all (fun x => x.1.isSome)
   && decide ((e :: es).length + ([] : List Keyword).length + (if ([] : List Keyword).isEmpty then 0 else 1) < 30)) = true := by rfl)
  (hline : (apos.endLine == cpos.line) = true := by rfl) (hs : starEach (e :: es) X.env = (false, eval e X.env) :: starEach es X.env := by rfl) (hplain : (backTo cpos (starEach es X.env)).any (·.1) = false := by rfl) :
  PE X (.Call (.Attribute o name apos) (e :: es) [] cpos) (tBM X.K T r to t) := by
 intro pins s σ H Q I h
 refine wpAny_Call_method_late hbase hfew hline rfl (thn (ho pins s σ H _ I h) fun v s1 ⟨x, H1, I1, r1, ty, q1⟩ => ?_)
 obtain ⟨h1, h2⟩ := aEL I1 r1 ty
 refine ⟨T, id, pa, slot, hty, h1, h2, ?_⟩
 have hA := ha cpos pins s1 σ H1 _ I1 q1
 rw [hs] at hA ⊢
 refine Calls.callWith_builtin (by show (false || (backTo cpos (starEach es X.env)).any (·.1)) = false; rw [hplain] <;> rfl) (Calls.evalArgs_plain ?_)
 exact thn hA fun us s2 ⟨vs, H2, I2, r2, q2⟩ => hm pins s2 σ H2 x vs v us Q I2 r1 r2 q2
end
end L2
namespace L2
open PySem PySem.Spec PyProof.Rows
def MtM (X : Cx) (id : String) (r : V → List V → Hp → VK → Prop) : Prop :=
 ∀ (pins : List (Addr × Obj)) (s : Shared) (σ : St) (H : Hp) (x : V) (xs : List V) (v : Value) (us : List Value) (Q : VK), Inv X pins σ H s → bI x v → bK xs us → r x xs H Q →
  wpAny (model X.prog X.w) X.A (call (.builtin id) (v :: us)) (EP X pins σ Q) X.xe s
theorem bK.one : ∀ {x : V} {us : List Value}, bK [x] us → ∃ u, us = [u] ∧ bI x u
 | _, _, .cons r .nil => ⟨_, rfl, r⟩
theorem bK.two : ∀ {x y : V} {us : List Value}, bK [x, y] us → ∃ u v, us = [u, v] ∧ bI x u ∧ bI y v
 | _, _, _, .cons r (.cons q .nil) => ⟨_, _, rfl, r, q⟩
theorem bK.zero : ∀ {us : List Value}, bK [] us → us = []
 | _, .nil => rfl
theorem bK.eraseIdx : ∀ {xs : List V} {us : List Value} (i : Nat), bK xs us → bK (xs.eraseIdx i) (us.eraseIdx i)
 | _, _, _, .nil => .nil
 | _, _, 0, .cons _ t => t
 | _, _, i + 1, .cons r t => .cons r (bK.eraseIdx i t)
theorem vI {α : Type} : ∀ (l : List α) (i : Nat), (l.eraseIdx i).length ≤ l.length
 | [], _ => Nat.le_refl _
 | _ :: _, 0 => Nat.le_succ _
 | _ :: r, i + 1 => Nat.succ_le_succ (vI r i)
section
variable {X : Cx} {pins : List (Addr × Obj)} {σ : St} {H : Hp} {s : Shared} {l b : Addr} {xs ys zs : List V}
theorem Inv.lset {its its' : List Value} {n : Nat} {f : Array Value → Array Value} {t' : Nat} (I : Inv X pins σ H s) (hH : H l = some (.lst xs))
  (e : s.heap.get? l = some { cls := .type "list", data := .seq its.toArray n }) (hf : f its.toArray = its'.toArray) (hv : bK ys its') (hz : ys.length ≤ sizeLine) :
  Inv X pins σ (upd H l (.lst ys)) { s with heap := s.heap.update l (Obj.mapSeq f), toks := t' } := by
 have q := PySem.IsL.update e f
 rw [hf] at q
 refine I.write (x := l) (e := l) (by rw [hH]; exact trivial) (.inl rfl) (fun b' u hb hu => (Heap.get?_update_other s.heap (Obj.mapSeq f) (Ne.symm hb)).trans hu) ⟨_, q⟩ ?_
 exact ⟨hz, its', _, hv, q⟩
theorem Inv.lnew {its : List Value} {t' : Nat} (I : Inv X pins σ H s) (hv : bK ys its) (hz : ys.length ≤ sizeLine) :
  Inv X pins σ (upd H s.heap.objs.size (.lst ys)) { s with heap := s.heap.push { cls := .type "list", data := .seq its.toArray }, toks := t' } :=
 I.laid (fun _ _ q => Heap.get?_push_of_some _ q) (Nat.le_refl _) ⟨hz, its, 0, hv, Heap.get?_push_size _ rfl⟩
theorem Inv.fresh (I : Inv X pins σ H s) : H s.heap.objs.size = none := I.hok.fresh (Nat.le_refl _)
theorem Inv.lstM (I : Inv X pins σ H s) (hH : H l = some (.lst xs)) : xs.length ≤ sizeLine ∧ ∃ (its : List Value) (n : Nat), bK xs its ∧ xs.length = its.length ∧ s.heap.get? l = some { cls := .type "list", data := .seq its.toArray n } := by
 obtain ⟨z, its, n, r, e⟩ := I.hok l _ hH
 exact ⟨z, its, n, r, r.length, e⟩
end
section
variable {X : Cx}
def aHS : V → List V → Hp → VK → Prop := fun x vs H Q => ∃ l xs y, x = .ref l ∧ vs = [y] ∧ H l = some (.lst xs) ∧ xs.length < sizeLine ∧ Q .non (upd H l (.lst (xs ++ [y])))
theorem fT : MtM X "list.append" aHS := by
 intro pins s σ H x vs v us Q I rx rv h
 obtain ⟨l, xs, y, rfl, rfl, hH, hz, q⟩ := h
 cases rx
 obtain ⟨u, rfl, ru⟩ := rv.one
 obtain ⟨z, its, n, r, hl, e⟩ := I.lstM hH
 refine call_meets F.slot_list_append ⟨_, e, rfl⟩ F.entry_list_append (F.args_list_append_2 _ _) (PySem.list_append l its.toArray n u (by rw [List.size_toArray]; omega)) ⟨e, ?_⟩
 refine ⟨.non, _, I.lset (its' := its ++ [u]) hH e (by simp) (r.append (.cons ru .nil)) ?_, rfl, q⟩
 rw [List.length_append, List.length_singleton]
 omega
def aJZ : V → List V → Hp → VK → Prop := fun x vs H Q => ∃ l xs i k y, x = .ref l ∧ vs = [.int i] ∧ H l = some (.lst xs) ∧ -(2 ^ 63) ≤ i ∧ i < 2 ^ 63 ∧ seqIndex? i xs.length = some k ∧ xs[k]? = some y ∧ Q y (upd H l (.lst (xs.eraseIdx k)))
theorem aFW : MtM X "list.pop" aJZ := by
 intro pins s σ H x vs v us Q I rx rv h
 obtain ⟨l, xs, i, k, y, rfl, rfl, hH, h1, h2, hk, hy, q⟩ := h
 cases rx
 obtain ⟨u, rfl, ru⟩ := rv.one
 obtain ⟨t, rfl⟩ := ru
 obtain ⟨z, its, n, r, hl, e⟩ := I.lstM hH
 obtain ⟨w, hw, rw'⟩ := r.get hy
 refine call_meets F.slot_list_pop ⟨_, e, rfl⟩ F.entry_list_pop (F.args_list_pop_2 _ _)
  (MeetsSeq.list_pop_at l its.toArray n i t k w (fitsIndex_both h1 h2) (by rw [List.size_toArray, ← hl]; exact hk) (by rw [← Array.getElem?_toList]; exact hw) (by rw [List.size_toArray]; omega)) ⟨e, ?_⟩
 refine ⟨y, _, I.lset (its' := its.eraseIdx k) hH e ?_ (r.eraseIdx k) ?_, rw', q⟩
 ·show its.toArray.eraseIdxIfInBounds k = (its.eraseIdx k).toArray
  rw [List.eraseIdxIfInBounds_toArray]
 ·have := vI xs k
  omega
def aNK : R2 := fun x y H Q => ∃ l b xs zs, x = .ref l ∧ y = .ref b ∧ H l = some (.lst xs) ∧ H b = some (.lst zs) ∧ xs.length + zs.length ≤ sizeLine ∧ ∀ p, H p = none → Q (.ref p) (upd H p (.lst (xs ++ zs)))
theorem sX : OpR X (binaryOp .Add) aNK := by
 intro pins s σ H x y v u Q I rx ry h
 obtain ⟨l, b, xs, zs, rfl, rfl, hH, hB, hz, q⟩ := h
 cases rx
 cases ry
 obtain ⟨z, its, n, r, hl, e⟩ := I.lstM hH
 obtain ⟨z2, its2, n2, r2, hl2, e2⟩ := I.lstM hB
 refine PySem.P.add_list e e2 ?_ (by rw [List.size_toArray, List.size_toArray]; omega)
 have ea : its.toArray ++ its2.toArray = (its ++ its2).toArray := by simp
 rw [ea]
 exact ⟨.ref _, _, I.lnew (t' := s.toks) (r.append r2) (by rw [List.length_append]; omega), rfl, q _ I.fresh⟩
end
section
variable {prog : Program} {w : World} {A : Around} {E : Value → Shared → Prop} {s : Shared}
end
section
variable {X : Cx}
end
end L2
namespace Att
open PySem PySem.W PySem.Calls PyProof.Rows
theorem rM {P : Params} {h : Heap} : ∀ (ns : List Int) (vs : List Value), WellAll P h vs (ns.map WData.int) → IntsAre vs ns := by
 intro ns
 induction ns with
 | nil =>
  intro vs w
  rw [List.map_nil] at w
  cases w
  exact .nil
 | cons n ns ih =>
  intro vs w
  rw [List.map_cons] at w
  cases w with
  | cons a b =>
   cases a
   exact .cons _ _ (ih _ b)
theorem aCW {l : OpenLaw} {n : Nat} (hn : l.most = some n) {P : Params} {h : Heap} {args : List WData} {vals : List Value}
  (hpre : l.row.toRowW.claim.pre args = true) (hwl : WellAll P h vals args) :
  ∃ a vs ns, vals = [Value.ref a] ∧ args = [WData.list (ns.map WData.int)] ∧ h.get? a = some { cls := .type "list", data := .seq vs.toArray } ∧ IntsAre vs ns ∧ ns.length ≤ n := by
 have hsh : WShape.hasAll [] args [.list .int] = true := (pre_splitW hpre).1
 have hc : l.pre.holds [] { args := args } = true := (pre_splitW hpre).2
 obtain ⟨d, r, rfl, h1, h2⟩ := hasAllW_cons hsh
 obtain rfl := hasAllW_nil h2
 obtain ⟨xs, rfl, h3⟩ := hasW_list h1
 obtain ⟨ns, rfl⟩ := items_int h3
 have hlen : ns.length ≤ n := by
  unfold OpenLaw.pre at hc
  have h4 : (WTm.not (.lt (.lit (.int (n : Int))) (.len (.arg 0)))).holds [] { args := [.list (ns.map .int)] } = true := by
   have h4 := (holds_andW hc).1
   rw [hn] at h4
   exact h4
  have h5 := condW_of h4 (w_not (w_lt w_lit (w_len_list (w_arg rfl))))
  rw [List.length_map] at h5
  refine Nat.le_of_not_lt fun q => ?_
  have q' : (n : Int) < ((ns.length : Nat) : Int) := by omega
  first
   | (rw [decide_eq_true q'] at h5; exact absurd h5 (by decide))
   | (simp at h5; omega)
 cases hwl with
 | cons w1 w2 =>
  cases w2
  cases w1 with
  | list ho hall => exact ⟨_, _, ns, rfl, rfl, ho, rM ns _ hall, hlen⟩
theorem aDC (l : OpenLaw) (args : List WData) : l.row.toRowW.claim.post args (.bool true) args = true :=
 postW_of (r := l.row.toRowW) (X := (true == true))
  (show WShape.has [] (.bool true) .bool = true by first | rfl | decide | simp [WShape.has, WShape.arms, WShape.armsAll])
  (show (WTm.eq .res (.lit (.bool true))).value [] { args := args, res := some (.bool true), after := args } = some (.bool (true == true)) from w_eq_bool (w_res rfl) w_lit) rfl
theorem attach_call {l : OpenLaw} {n : Nat} {q : Program} {loose : List Str} {XP : (Str → Option Value) → Heap → Prop} {YP : World → Heap → Prop} {d : DefRec}
  (hn : l.most = some n) (hdf : d.params.defaults = [])
  (call : ∀ (w : World) (s₀ s₁ : Shared) (mg mb : Str → Option Value) (fa : Addr) (o : Obj) (pm cd doc : Value) (a : Addr) (vs : List Value) (ns : List Int),
   Ground q loose [] XP w s₀ mg mb s₁.heap → YP w s₁.heap →
   s₁.heap.get? fa = some o → o.data = .func (docDef d.name d.params d.body d.scope pm cd doc) → s₁.heap.CodeRec cd d.name → mg d.name = some (.ref fa) →
   s₁.heap.get? a = some { cls := .type "list", data := .seq vs.toArray } → IntsAre vs ns → ns.length ≤ n → s₁.gens = #[] →
   codeAny (model l.prog w) callerA (.call (.ref fa) ⟨[.ref a], []⟩) (fun r s' => r = .ok (.ret (.bool true)) ∧ OldK s₁.heap s'.heap ∧ s'.os = s₁.os ∧ AllBare s'.gens) s₁) :
  WalkO q loose XP YP l.row.toRowW d [] (fun f vs => PySem.call f vs) := by
 intro w s₀ s₁ mg mb G Y fa o pm cd doc dV kV ho hd hcd hD hmg hg args vals as hpre hlay hrd hwl hlo
 obtain rfl : dV = .none := Dflts.none hD hdf
 obtain rfl : kV = .none := Dflts.noKw hD
 obtain ⟨a, vs, ns, rfl, rfl, hobj, hints, hlen⟩ := aCW hn hpre hwl
 refine enter_call (codeAny_mono (call w s₀ s₁ mg mb fa o pm cd doc a vs ns G Y ho (fd_plain hd) hcd hmg hobj hints hlen hg) fun r s' hq => ?_)
 obtain ⟨rfl, h2, h3, h4⟩ := hq
 exact ⟨.inl ⟨.bool true, .bool true, [], rfl, fun _ => rfl, .bool true, aDC l _, fun _ => ⟨List.Pairwise.nil, fun _ hm => (nomatch hm)⟩⟩, h2, h3, h4⟩
section
variable {prog : Program} {w : World} {A : Around} {E : Value → Shared → Prop} {s : Shared} {K : Frag}
def noObjs (h : Heap) : Heap := { h with objs := #[] }
def ledger (h : Heap) (L d : Addr) : List (Addr × Obj) := (List.range h.objs.size).filterMap fun a => if a = L ∨ a = d then none else (h.get? a).map fun o => (a, o)
end
end Att
namespace L2
open PySem PySem.Spec PyProof.Rows
theorem uY : ∀ {vs : List Value} {ns : List Int}, IntsAre vs ns → bK (ns.map V.int) vs
 | _, _, .nil => .nil
 | _, _, .cons n t h => .cons ⟨t, rfl⟩ (uY h)
def aLC (H : Hp) : Prop := ∀ b, H b = none ∨ ∃ o xs, H b = some (.frz o (.lst xs))
theorem aFZ {P : Program} {w : World} {K : PySem.W.Frag} {mg mb : Str → Option Value} {CX : CXT} {k : Nat} {fa a : Addr} {fd : FuncData} {x : Str} {sp : Sp} {s₁ : Shared} {vs : List Value} {ns : List Int}
  (KX : K.In s₁.heap) (hns : s₁.heap.Ns mainGlobals mg) (hb : s₁.heap.Ns builtinsNs mb) (hbb : ∀ x : Str, x ≠ "__name__" → mb x = bootBuiltins x) (hlim : s₁.heap.NoLimit) (hg : s₁.gens = #[])
  (ha : s₁.heap.get? a = some { cls := .type "list", data := .seq vs.toArray }) (hi : IntsAre vs ns) (hl : ns.length ≤ sizeLine) (hr : Room k callerA)
  (F : ∀ base : Heap, K.In base → base.Ns mainGlobals mg → FnOk P w K mg base CX k fa fd [x] sp) (hbind : ∀ (s : Shared) (u : Value), BindsTo s fd ⟨[u], []⟩ [(x, u)])
  (hsp : ∀ H : Hp, aLC H → SqL K H a (ns.map V.int) → sp [.ref a] H (fun v _ => v = .bl true) fun _ _ _ => False)
  (hCX : ∀ H e s', CX [] H s₁ (fun _ _ _ => False) e s' → False) :
  codeAny (model P w) callerA (.call (.ref fa) ⟨[.ref a], []⟩) (fun r s' => r = .ok (.ret (.bool true)) ∧ OldK s₁.heap s'.heap ∧ s'.os = s₁.os ∧ AllBare s'.gens) s₁ := by
 have rv := uY hi
 have lenV := hi.length
 have core : ∀ H : Hp, aLC H → SqL K H a (ns.map V.int) → HOk P w H s₁.heap → (∀ b, H b ≠ none → b = a) → (H a ≠ none → K.lookup a = none) →
   codeAny (model P w) callerA (.call (.ref fa) ⟨[.ref a], []⟩) (fun r s' => r = .ok (.ret (.bool true)) ∧ OldK s₁.heap s'.heap ∧ s'.os = s₁.os ∧ AllBare s'.gens) s₁ := by
  intro H hO hS hok hA hK
  have base_of : ∀ {b : Addr} {o : Obj}, s₁.heap.get? b = some o → H b = none → (wY s₁.heap H).get? b = some o := fun e n => aGL e n
  have noA : ∀ {b : Addr} {o : Obj} {es : Array DictEntry} {ep : Nat}, s₁.heap.get? b = some o → o.data = .dict es ep → H b = none := fun {b o es ep} e d => by
   cases q : H b with
   | none => rfl
   | some u =>
    have e' : b = a := hA b (by rw [q]; simp)
    subst e'
    rw [ha] at e; cases e
    have d' : Data.seq vs.toArray _ = Data.dict es ep := d
    cases d'
  have nsK : ∀ {b : Addr} {m : Str → Option Value}, s₁.heap.Ns b m → (wY s₁.heap H).Ns b m := fun {b m} ⟨o, es, ep, e, d, r⟩ => ⟨o, es, ep, base_of e (noA e d), d, r⟩
  have hKb : K.In (wY s₁.heap H) := fun b o e => base_of (KX b o e) (by
   cases q : H b with
   | none => rfl
   | some u =>
    have e' : b = a := hA b (by rw [q]; simp)
    subst e'
    rw [hK (by rw [q]; simp)] at e; cases e)
  have hM : Mod K mg (wY s₁.heap H) := ⟨hKb, nsK hns, ⟨mb, nsK hb, hbb⟩, let ⟨mc, h1, h2⟩ := hlim; ⟨mc, nsK h1, h2⟩⟩
  have e0 : Env0 P w K mg (wY s₁.heap H) callerA [] s₁ H := ⟨rfl, hM, fun b o e => aIC e, Nat.le_of_eq (aDO _ _), trivial, fun b hb => absurd (show b ∈ ([] : List Addr) from hb) (by simp), hok, .of_eq hg⟩
  refine codeAny_mono ((F _ hKb (nsK hns)).run callerA [] s₁ H ⟨[.ref a], []⟩ [.ref a] [.ref a] _ _ hr e0 (hbind s₁ (.ref a)) (.cons rfl .nil) (hsp H hO hS)) fun r s' h => ?_
  cases r with
  | error e => exact (hCX H e s' h).elim
  | ok fl =>
   cases fl with
   | next => exact False.elim h
   | brk => exact False.elim h
   | cont => exact False.elim h
   | ret u =>
    obtain ⟨v, H', os, bare, un, hok', r', q⟩ := h
    have q' : v = .bl true := q
    subst q'
    obtain rfl : u = Value.bool true := r'
    refine ⟨rfl, OldK.of_keep fun b o e => ?_, os, bare⟩
    cases q : H b with
    | none => exact un.keep b o e q (by intro z; exact absurd (show b ∈ ([] : List Addr) from z) (by simp)) (by simp)
    | some u =>
     rcases hO b with z | ⟨ob, xs, z⟩
     ·rw [q] at z; cases z
     ·have z2 := un.frzs b ob _ z
      obtain ⟨e1, _⟩ := hok b _ z
      obtain ⟨e2, _⟩ := hok' b _ z2
      rw [e] at e1; cases e1
      exact e2
 cases hk : K.lookup a with
 | some o =>
  have e := KX a o hk
  rw [ha] at e
  cases e
  refine core (fun _ => none) (fun _ => .inl rfl) (.inr ⟨_, vs.toArray, _, hk, rfl, rfl, rfl, by rw [List.size_toArray, lenV]; exact hl, by simpa using rv⟩) (fun b u z => by have z' : (none : Option HO) = some u := z; cases z') (fun b z => absurd rfl z) fun z => absurd rfl z
 | none =>
  refine core (fun b => if b = a then some (.frz { cls := .type "list", data := .seq vs.toArray } (.lst (ns.map V.int))) else none) (fun b => ?_) (.inl (.inr ⟨{ cls := .type "list", data := .seq vs.toArray }, if_pos rfl⟩)) (fun b u z => ?_) (fun b z => ?_) fun _ => hk
  ·by_cases hb : b = a
   ·exact .inr ⟨_, _, if_pos hb⟩
   ·exact .inl (if_neg hb)
  ·by_cases hb : b = a
   ·have z' := (if_pos hb).symm.trans z
    cases z'
    subst hb
    exact ⟨ha, by rw [List.length_map]; exact hl, vs, _, rv, ha⟩
   ·have z' := (if_neg hb).symm.trans z
    cases z'
  ·by_cases hb : b = a
   ·exact hb
   ·exact absurd (if_neg hb) z
end L2
namespace L2
open PySem PySem.Spec PyProof.Rows
theorem walk_of {l : PySem.W.OpenLaw} {n k : Nat} {q : Program} {loose : List Str} {XP : (Str → Option Value) → Heap → Prop} {YP : World → Heap → Prop} {d : DefRec} {K : Params → PySem.W.Frag} {CX : World → CXT} {sp : World → Sp} {x : Str}
  (hn : l.most = some n) (hn2 : n ≤ sizeLine) (hdf : d.params.defaults = []) (hr : Room k callerA)
  (hY : ∀ (w : World) (h : Heap), YP w h → (K w.params).In h)
  (F : ∀ (w : World) (mg : Str → Option Value) (fa : Addr) (h : Heap), (K w.params).In h → h.Ns mainGlobals mg → mg d.name = some (.ref fa) →
   ∃ fd : FuncData, (∀ (s : Shared) (u : Value), BindsTo s fd ⟨[u], []⟩ [(x, u)]) ∧
    ∀ base : Heap, (K w.params).In base → base.Ns mainGlobals mg → FnOk l.prog w (K w.params) mg base (CX w) k fa fd [x] (sp w))
  (hsp : ∀ (w : World) (H : Hp) (a : Addr) (ns : List Int), ns.length ≤ n → aLC H → SqL (K w.params) H a (ns.map V.int) → sp w [.ref a] H (fun v _ => v = .bl true) fun _ _ _ => False)
  (hCX : ∀ (w : World) (H : Hp) (s : Shared) (e : Value) (s' : Shared), CX w [] H s (fun _ _ _ => False) e s' → False) :
  PySem.W.WalkO q loose XP YP l.row.toRowW d [] (fun f vs => PySem.call f vs) := by
 refine Att.attach_call hn hdf fun w s₀ s₁ mg mb fa o pm cd doc a vs ns G Y ho hd hcd hmg hobj hints hlen hg => ?_
 have KX := hY w _ Y
 obtain ⟨fd, hb, hF⟩ := F w mg fa _ KX G.T.g hmg
 exact aFZ KX G.T.g G.T.b G.T.builtins G.T.nolimit hg hobj hints (Nat.le_trans hlen hn2) hr hF hb (fun H hO hS => hsp w H a ns hlen hO hS) fun H e s' => hCX w H s₁ e s'
end L2
namespace L2
open PySem PySem.Spec PyProof.Rows
def dO (s : Stmt) (j : Nat) : Stmt := match s with
 | .ClassDef _ _ _ body _ _ _ _ _ _ _ => body.getD j (.Pass ⟨0, 0, 0, 0⟩)
 | _ => .Pass ⟨0, 0, 0, 0⟩
def aM (s : Stmt) : Arguments := match s with
 | .FunctionDef _ a _ _ _ _ _ _ _ _ => a
 | _ => { posonlyargs := [], args := [], vararg := none, kwonlyargs := [], kw_defaults := [], kwarg := none, defaults := [] }
def aL (s : Stmt) : List Stmt := match s with
 | .FunctionDef _ _ b _ _ _ _ _ _ _ => b
 | _ => []
def aF (s : Stmt) : Scope := match s with
 | .FunctionDef _ _ _ _ _ _ sc _ _ _ => sc
 | _ => { kind := .function, names := [], isGenerator := false, isCoroutine := false }
abbrev CX0 : CXT := fun _ _ _ _ _ _ => False
abbrev E0 : XK := fun _ _ _ => False
theorem aBX {X : Cx} : oV CX0 X E0 := fun _ _ _ _ _ _ _ h => h.elim
structure Fun (K : PySem.W.Frag) (x qual : Str) (st : Stmt) (f : Addr) (fd : FuncData) : Prop where
 ex : ∃ (oc : Value) (od : Option Addr) (kV doc pm : Value) (an : Option Addr) (cdv ct : Value) (osl : Array (Option Value)),
  fd = PySem.W.fnOf x qual (aM st) (aL st) (aF st) .none kV doc pm an cdv ct ∧ K.lookup f = some ⟨oc, od, .func fd, osl⟩ ∧ PySem.W.codeIn K cdv qual = true
 kp : PySem.W.keepIn K (.ref f) = true
section
variable {P : Program} {w : World} {K : PySem.W.Frag} {mg : Str → Option Value} {base : Heap}
theorem Fun.ok {x qual : Str} {st : Stmt} {f : Addr} {fd : FuncData} {N ps : List Str} {k : Nat} {sp : Sp} (F : Fun K x qual st f fd) (S : FnScope N ps (aF st)) (len : ∀ vs H Q E, sp vs H Q E → vs.length = ps.length)
  (hbody : ∀ (cdv : Value) (A : Around) (outer : List Env) (s : Shared) (H : Hp) (vs : List V) (Q : VK) (E : XK), Room k (A.deeper (envOfC qual (aF st) s.heap.objs.size f cdv)) → sp vs H Q E →
   ∃ t, PSs (uE CX0 P w K mg base N qual (aF st) f cdv A outer s H E).nox (aL st) t ∧ t { nx := fun _ H' => Q .non H', rt := Q } (kX N vs) H) : FnOk P w K mg base CX0 (k + 1) f fd ps sp := by
 obtain ⟨oc, od, kV, doc, pm, an, cdv, ct, osl, rfl, lk, hcd⟩ := F.ex
 refine aMO lk hcd S len fun A outer s H vs Q E hr hsp => ?_
 obtain ⟨t, h, q⟩ := hbody cdv A outer s H vs Q E hr hsp
 exact ⟨t, h.nox, q⟩
theorem Fun.binds {x qual : Str} {st : Stmt} {f : Addr} {fd : FuncData} {ps : List Str} (F : Fun K x qual st f fd)
  (h : ∀ (kV doc pm : Value) (an : Option Addr) (cdv ct : Value) (us : List Value), us.length = ps.length → bindArgs (PySem.W.fnOf x qual (aM st) (aL st) (aF st) .none kV doc pm an cdv ct) ⟨us, []⟩ = pure (ps.zip us)) : iC K fd ps [] := by
 obtain ⟨oc, od, kV, doc, pm, an, cdv, ct, osl, rfl, lk, hcd⟩ := F.ex
 exact .all (h kV doc pm an cdv ct)
theorem qF {x qual : Str} {st : Stmt} {f : Addr} {oc : Value} {od an : Option Addr} {osl : Array (Option Value)} {kV doc pm cdv ct : Value} (l : K.lookup f = some ⟨oc, od, .func (PySem.W.fnOf x qual (aM st) (aL st) (aF st) .none kV doc pm an cdv ct), osl⟩)
  (c : PySem.W.codeIn K cdv qual = true) (k : PySem.W.keepIn K (.ref f) = true) : Fun K x qual st f (PySem.W.fnOf x qual (aM st) (aL st) (aF st) .none kV doc pm an cdv ct) := ⟨⟨oc, od, kV, doc, pm, an, cdv, ct, osl, rfl, l, c⟩, k⟩
end
theorem kF {A : Around} {k : Nat} (hr : Room k A) : A.units + 1 < cLine := Nat.lt_of_le_of_lt (Nat.add_le_add_left (by decide : 1 ≤ 64) _) hr.units
section
variable {X : Cx}
theorem pv (i : Nat) {x : Str} {pos : Pos} (hN : X.N[i]? = some x := by rfl) (hv : Vis X.env.scope x := by first | exact Or.inl rfl | exact Or.inr (Or.inl rfl) | exact Or.inr (Or.inr rfl)) (hd : (x == ("__debug__" : Str)) = false := by decide)
  (hcd : (x == ("__classdict__" : Str)) = false := by decide) : PE X (.Name x pos) (aLG i) := aKD hN hv hd hcd
end
theorem bF {A B : Prop} (h : B) : if false = true then A else B := by
 rw [if_neg Bool.false_ne_true]
 exact h
theorem bU {A B : Prop} (h : A) : if true = true then A else B := by
 rw [if_pos rfl]
 exact h
theorem kD {c A B : Prop} [Decidable c] (h1 : c → A) (h2 : ¬ c → B) : if c then A else B := by
 by_cases h : c
 ·rw [if_pos h]
  exact h1 h
 ·rw [if_neg h]
  exact h2 h
def aI (H H' : Hp) : Prop := ∀ b o, H b = some o → H' b = some o
theorem aI.refl (H : Hp) : aI H H := fun _ _ h => h
theorem aI.trans {H H1 H2 : Hp} (a : aI H H1) (b : aI H1 H2) : aI H H2 := fun c o h => b c o (a c o h)
theorem aI.free {H H' : Hp} (e : aI H H') {l : Addr} (h : H' l = Option.none) : H l = Option.none := by
 cases q : H l with
 | none => rfl
 | some o =>
  rw [e l o q] at h
  cases h
theorem aI.seq {K : PySem.W.Frag} {H H' : Hp} {a : Addr} {xs : List V} (e : aI H H') (h : SqL K H a xs) : SqL K H' a xs := by
 rcases h with (h | ⟨o, h⟩) | h
 ·exact .inl (.inl (e _ _ h))
 ·exact .inl (.inr ⟨o, e _ _ h⟩)
 ·exact .inr h
end L2
namespace L2
open PySem PySem.Spec PyProof.Rows
section
variable {X : Cx}
end
section
variable {κ : Type} [DecidableEq κ]
theorem aEH {kvs : List (κ × V)} {k : κ} (h : dG kvs k = none) : ¬ k ∈ kvs.map (·.1) := by
 intro m
 obtain ⟨p, hp, e⟩ := List.mem_map.mp m
 have q : (kvs.any fun kv => decide (kv.1 = k)) = true := List.any_eq_true.mpr ⟨p, hp, decide_eq_true e⟩
 rw [jQ, h] at q
 exact absurd q (by simp)
theorem aBB {kvs : List (κ × V)} {k : κ} {v : V} (h : dG kvs k = some v) : k ∈ kvs.map (·.1) := by
 have q : (kvs.any fun kv => decide (kv.1 = k)) = true := by
  rw [jQ, h]
  all_goals rfl
 obtain ⟨p, hp, e⟩ := List.any_eq_true.mp q
 exact List.mem_map.mpr ⟨p, hp, of_decide_eq_true e⟩
end
end L2
namespace Tx
open PySem PySem.Builtin PySem.Builtin.Str
def cl (n d : Nat) : Option Int → Nat
 | none => d
 | some i => (max 0 (min (if i < 0 then i + n else i) n)).toNat
theorem cl_nat (n d k : Nat) : cl n d (some (k : Int)) = min k n := by
 show (max 0 (min (if (k : Int) < 0 then (k : Int) + n else (k : Int)) n)).toNat = min k n
 rw [if_neg (by omega)]
 omega
theorem aJM (n d : Nat) (hd : d ≤ n) : ∀ o, cl n d o ≤ n
 | none => hd
 | some i => by
  show (max 0 (min (if i < 0 then i + n else i) n)).toNat ≤ n
  omega
theorem aAG (lo hi : Option Int) (n : Nat) : strSliceIndices lo hi 1 n = (List.range (cl n n hi - cl n 0 lo)).map (cl n 0 lo + ·) := by
 have h1 : ∀ (v : Option Int) (d : Nat), d ≤ n → (match v with | none => (d : Int) | some i => if (1 : Int) > 0 then max 0 (min (if i < 0 then i + n else i) n) else max (-1) (min (if i < 0 then i + n else i) (n - 1))) = ((cl n d v : Nat) : Int) := by
  intro v d hd
  cases v with
  | none => rfl
  | some i =>
   show (if (1 : Int) > 0 then max 0 (min (if i < 0 then i + n else i) n) else max (-1) (min (if i < 0 then i + n else i) (n - 1))) = (((max 0 (min (if i < 0 then i + n else i) n)).toNat : Nat) : Int)
   rw [if_pos (by decide)]
   omega
 rw [← sliceRange_one]
 unfold strSliceIndices
 have a := h1 lo 0 (Nat.zero_le _)
 have b := h1 hi n (Nat.le_refl _)
 simp only [show (1 : Int) > 0 by decide, if_true] at a b ⊢
 congr 1
theorem slice_codes (x : Str) (lo hi : Option Int) : (Txt.slice x lo hi).cps.toList = (x.cps.toList.drop (cl x.length 0 lo)).take (cl x.length x.length hi - cl x.length 0 lo) := by
 unfold Txt.slice
 rw [aAG]
 split
 ·rename_i h
  have h' : cl x.length x.length hi - cl x.length 0 lo = x.length := by
   have := (Bool.and_eq_true_iff.mp h).2
   have := beq_iff_eq.mp this
   simpa using this
  have h2 := aJM x.length x.length (Nat.le_refl _) hi
  have h4 := aJM x.length 0 (Nat.zero_le _) lo
  have h3 : cl x.length 0 lo = 0 := by omega
  rw [h', h3, List.drop_zero, List.take_of_length_le]
  show x.cps.toList.length ≤ x.cps.size
  simp
 ·rw [pick_run]
theorem app_codes (a b : Str) : (a ++ b).cps.toList = a.cps.toList ++ b.cps.toList := by
 simp [Str.cps_append]
theorem app_len (a b : Str) : (a ++ b).length = a.length + b.length := Str.length_append a b
end Tx
set_option maxHeartbeats 4000000
namespace L2
open PySem PySem.Spec PyProof.Rows
theorem nH {env : Env} {f : (Str × NameKind) → List (Str × Addr) → Sem (ForInStep (List (Str × Addr)))}
  (hf : ∀ n k cs, f (n, k) cs = if (k == NameKind.free) = true then (cellOf env n >>= fun c => pure (ForInStep.yield ((n, c) :: cs))) else pure (ForInStep.yield cs)) :
  ∀ (names : List (Str × NameKind)) (acc : List (Str × Addr)),
  (∀ y ∈ names, y.2 = .free → ∃ c, env.cells.lookup y.1 = some c) →
  (∀ x c, acc.lookup x = some c → env.cells.lookup x = some c) →
  ∃ cl, forIn names acc f = (pure cl : Sem _) ∧ (∀ x c, cl.lookup x = some c → env.cells.lookup x = some c) ∧ (∀ x c, acc.lookup x = some c → ∃ d, cl.lookup x = some d) ∧
   ∀ x, (x, NameKind.free) ∈ names → ∃ c, cl.lookup x = some c
 | [], acc, _, ha => ⟨acc, rfl, ha, fun x c e => ⟨c, e⟩, fun x m => absurd m (by simp)⟩
 | (n, k) :: r, acc, hn, ha => by
  have hr : ∀ y ∈ r, y.2 = .free → ∃ c, env.cells.lookup y.1 = some c := fun y hy => hn y (List.mem_cons_of_mem _ hy)
  by_cases hk : k = .free
  ·subst hk
   obtain ⟨c, hc⟩ := hn (n, .free) List.mem_cons_self rfl
   have hcell : cellOf env n = pure c := by
    have hc' : env.cells.lookup n = some c := hc
    unfold cellOf
    rw [hc']
   have ha' : ∀ x d, List.lookup x ((n, c) :: acc) = some d → env.cells.lookup x = some d := fun x d e => by
    by_cases hx : (x == n) = true
    ·rw [List.lookup_cons, hx] at e
     obtain rfl := beq_iff_eq.mp hx
     cases e
     exact hc
    ·have hx' : (x == n) = false := by simpa using hx
     rw [List.lookup_cons, hx'] at e
     exact ha x d e
   obtain ⟨cl, e1, e2, e3, e4⟩ := nH hf r ((n, c) :: acc) hr ha'
   refine ⟨cl, ?_, e2, fun x d e => ?_, fun x m => ?_⟩
   ·rw [List.forIn_cons, hf, if_pos (beq_self_eq_true _), hcell, pure_bind, pure_bind]
    exact e1
   ·by_cases hx : (x == n) = true
    ·exact e3 x c (by rw [List.lookup_cons, hx])
    ·have hx' : (x == n) = false := by simpa using hx
     exact e3 x d (by rw [List.lookup_cons, hx']; exact e)
   ·rcases List.mem_cons.mp m with q | q
    ·have q' : x = n := congrArg Prod.fst q
     subst q'
     exact e3 x c (by rw [List.lookup_cons, beq_self_eq_true])
    ·exact e4 x q
  ·have hk' : (k == NameKind.free) = false := by simpa using hk
   obtain ⟨cl, e1, e2, e3, e4⟩ := nH hf r acc hr ha
   refine ⟨cl, ?_, e2, e3, fun x m => ?_⟩
   ·rw [List.forIn_cons, hf, hk', if_neg Bool.false_ne_true, pure_bind]
    exact e1
   ·rcases List.mem_cons.mp m with q | q
    ·exact absurd (congrArg Prod.snd q).symm hk
    ·exact e4 x q
theorem uH {scope : Scope} {env : Env} (h : ∀ y ∈ scope.names, y.2 = .free → ∃ c, env.cells.lookup y.1 = some c) :
  ∃ cl, closureFor scope env = pure cl ∧ (∀ x c, cl.lookup x = some c → env.cells.lookup x = some c) ∧ ∀ x, (x, NameKind.free) ∈ scope.names → ∃ c, cl.lookup x = some c := by
 obtain ⟨cl, e1, e2, _, e4⟩ := nH (env := env) (f := fun (x : Str × NameKind) cs => match x with | (name, kind) => if (kind == NameKind.free) = true then (cellOf env name >>= fun c => pure (ForInStep.yield ((name, c) :: cs))) else pure (ForInStep.yield cs)) (fun n k cs => rfl) scope.names [] h (fun x c e => by cases e)
 refine ⟨cl, ?_, e2, e4⟩
 have : closureFor scope env = (forIn scope.names [] (fun (x : Str × NameKind) cs => match x with | (name, kind) => if (kind == NameKind.free) = true then (cellOf env name >>= fun c => pure (ForInStep.yield ((name, c) :: cs))) else pure (ForInStep.yield cs)) >>= fun cs => pure cs) := by
  first | rfl | (unfold closureFor; rfl) | (unfold closureFor; simp only [pure_bind, bind_pure])
 rw [this, e1, pure_bind]
theorem jE {env : Env} : ∀ {names : List (Str × NameKind)} {x : Str}, names.lookup x = some .free →
  (names.map fun (n, k) => if (k == NameKind.free && env.scope.kind == .function && env.kindOf n == some .cell) then (n, NameKind.cell) else (n, k)).lookup x = some .cell ∨
  (names.map fun (n, k) => if (k == NameKind.free && env.scope.kind == .function && env.kindOf n == some .cell) then (n, NameKind.cell) else (n, k)).lookup x = some .free
 | [], _, h => by simp at h
 | (n, k) :: r, x, h => by
  have ih := @jE env r x
  show List.lookup x ((if (k == NameKind.free && env.scope.kind == .function && env.kindOf n == some .cell) = true then (n, NameKind.cell) else (n, k)) :: _) = _ ∨ List.lookup x ((if (k == NameKind.free && env.scope.kind == .function && env.kindOf n == some .cell) = true then (n, NameKind.cell) else (n, k)) :: _) = _
  cases hx : x == n with
  | true =>
   simp only [List.lookup_cons, hx] at h
   cases h
   by_cases hc : (NameKind.free == NameKind.free && env.scope.kind == .function && env.kindOf n == some .cell) = true
   ·rw [if_pos hc]; left; simp only [List.lookup_cons, hx]
   ·rw [if_neg hc]; right; simp only [List.lookup_cons, hx]
  | false =>
   simp only [List.lookup_cons, hx] at h
   by_cases hc : (k == NameKind.free && env.scope.kind == .function && env.kindOf n == some .cell) = true
   ·rw [if_pos hc]; simp only [List.lookup_cons, hx]; exact ih h
   ·rw [if_neg hc]; simp only [List.lookup_cons, hx]; exact ih h
theorem lF {env : Env} : ∀ {names : List (Str × NameKind)} {x : Str}, (∀ y ∈ names, y.2 ≠ .cell) →
  ((names.map fun (n, k) => if (k == NameKind.free && env.scope.kind == .function && env.kindOf n == some .cell) then (n, NameKind.cell) else (n, k)).lookup x = some .cell ∨
  (names.map fun (n, k) => if (k == NameKind.free && env.scope.kind == .function && env.kindOf n == some .cell) then (n, NameKind.cell) else (n, k)).lookup x = some .free) → (x, NameKind.free) ∈ names
 | [], _, _, h => by rcases h with h | h <;> simp at h
 | (n, k) :: r, x, hn, h => by
  have ih := @lF env r x (fun y hy => hn y (List.mem_cons_of_mem _ hy))
  have h' : List.lookup x ((if (k == NameKind.free && env.scope.kind == .function && env.kindOf n == some .cell) = true then (n, NameKind.cell) else (n, k)) :: (r.map fun (n, k) => if (k == NameKind.free && env.scope.kind == .function && env.kindOf n == some .cell) then (n, NameKind.cell) else (n, k))) = some .cell ∨
   List.lookup x ((if (k == NameKind.free && env.scope.kind == .function && env.kindOf n == some .cell) = true then (n, NameKind.cell) else (n, k)) :: (r.map fun (n, k) => if (k == NameKind.free && env.scope.kind == .function && env.kindOf n == some .cell) then (n, NameKind.cell) else (n, k))) = some .free := h
  cases hx : x == n with
  | true =>
   obtain rfl := beq_iff_eq.mp hx
   have hk : k = .free := by
    by_cases hc : (k == NameKind.free && env.scope.kind == .function && env.kindOf x == some .cell) = true
    ·have := (Bool.and_eq_true_iff.mp (Bool.and_eq_true_iff.mp hc).1).1
     exact beq_iff_eq.mp this
    ·rw [if_neg hc] at h'
     simp only [List.lookup_cons, hx] at h'
     rcases h' with e | e
     ·cases e; exact absurd rfl (hn (x, .cell) List.mem_cons_self)
     ·cases e; rfl
   subst hk
   exact List.mem_cons_self
  | false =>
   refine List.mem_cons_of_mem _ (ih ?_)
   by_cases hc : (k == NameKind.free && env.scope.kind == .function && env.kindOf n == some .cell) = true
   ·rw [if_pos hc] at h'; simp only [List.lookup_cons, hx] at h'; exact h'
   ·rw [if_neg hc] at h'; simp only [List.lookup_cons, hx] at h'; exact h'
structure BlkR where
 cl : List (Str × Addr)
 C : Addr
 s₀ : Shared
 H₀ : Hp
 ex : List Addr
abbrev blk (X : Cx) (scope : Scope) (N' : List Str) (R : BlkR) : Cx :=
 { prog := X.prog, w := X.w, K := X.K, mg := X.mg, base := X.base, A := X.A, N := N', s₀ := R.s₀, H₀ := R.H₀, env := compEnvC scope R.cl R.C X.env, outer := X.stack, stack := X.stack, ex := R.ex, fn := fun _ => false, calm := X.calm, pn := [], xe := fun _ _ => False }
def aHH (X : Cx) (ifs : List Expr) (t : TT) : Prop :=
 ∀ (pins : List (Addr × Obj)) (s : Shared) (σ : St) (H : Hp) (Q : Bool → Hp → Prop), Inv X pins σ H s → t σ H Q →
  wpAny (model X.prog X.w) X.A (forIn ifs true fun c r => if r = true then do let ok ← isTrue c X.env (eval c X.env); pure (ForInStep.yield ok) else pure (ForInStep.yield r)) (TP X pins σ Q) X.xe s
def aLH : TT := fun _ H Q => Q true H
theorem cI {X : Cx} : aHH X [] aLH := fun pins s σ H Q I h => wpAny_tests_nil ⟨H, I, h⟩
theorem gJ {X : Cx} {c : Expr} {t : TT} (h : PT X c t) : aHH X [c] t := fun pins s σ H Q I hw => wpAny_tests_one (h pins s σ H Q I hw)
def aCL (nt : Nat) (g : TG) : Prop := ∀ x σ H Q, g x σ H Q → g x σ H fun σ2 H2 => Q σ2 H2 ∧ σ2.length = σ.length ∧ ∀ i, nt ≤ i → σ2[i]? = σ[i]?
theorem aZ {nt i : Nat} (h : i < nt) : aCL nt (vM i) := fun x σ H Q q =>
 ⟨q, by simp, fun j hj => List.getElem?_set_ne (by omega)⟩
def nK (nt : Nat) (cap : List Nat) (σ : St) : St := List.replicate nt none ++ cap.map fun j => (σ[j]?).join
theorem aED {nt : Nat} {cap : List Nat} {σ : St} : (nK nt cap σ).length = nt + cap.length := by simp [nK]
theorem wA {nt : Nat} {cap : List Nat} {σ : St} {i : Nat} {v : V} (h : (nK nt cap σ)[i]? = some (some v)) : ∃ j, nt ≤ i ∧ cap[i - nt]? = some j ∧ σ[j]? = some (some v) := by
 unfold nK at h
 by_cases hi : i < nt
 ·rw [List.getElem?_append_left (by simpa using hi), List.getElem?_replicate] at h
  rw [if_pos hi] at h
  cases h
 ·rw [List.getElem?_append_right (by simp; omega), List.length_replicate, List.getElem?_map] at h
  cases e : cap[i - nt]? with
  | none => rw [e] at h; cases h
  | some j =>
   rw [e] at h
   refine ⟨j, by omega, rfl, ?_⟩
   have h' : (σ[j]?).join = some v := by simpa using h
   cases q : σ[j]? with
   | none => rw [q] at h'; cases h'
   | some o => rw [q] at h'; cases o with
    | none => cases h'
    | some z => cases h'; rfl
theorem uG {prog : Program} {w : World} {A : Around} {R : Result → Shared → Prop} {s : Shared} {elt target iter : Expr} {ifs : List Expr} {scope : Scope} {pos : Pos} {it acc : Value} {env : Env} (I : Nat → Shared → Prop)
  (turn : ∀ n s, I n s → wpAny (model prog w) A (pyNext it) (fun r s₁ => match r with
   | none => R (.ok .next) s₁
   | some v => wpAny (model prog w) A (letOwnedTupleGo target it v) (fun _ s₁ => wpAny (model prog w) A (assign target env v) (fun _ s₂ =>
     wpAny (model prog w) A (forIn ifs true fun c r => if r = true then do let ok ← isTrue c env (eval c env); pure (ForInStep.yield ok) else pure (ForInStep.yield r)) (fun ok s₃ =>
      if ok = true then wpAny (model prog w) A (eval elt env) (fun x s₄ =>
       wpAny (model prog w) A (call (.builtin "list.append") [acc, x]) (fun _ s₅ => ∃ m, m < n ∧ I m s₅) (notedBy (model prog w) A env fun e s' => R (.error e) s') s₄) (notedBy (model prog w) A env fun e s' => R (.error e) s') s₃
      else ∃ m, m < n ∧ I m s₃) (notedBy (model prog w) A env fun e s' => R (.error e) s') s₂) (notedBy (model prog w) A env fun e s' => R (.error e) s') s₁) (notedBy (model prog w) A env fun e s' => R (.error e) s') s₁) (notedBy (model prog w) A env fun e s' => R (.error e) s') s)
  (n : Nat) (h : I n s) :
  codeAny (model prog w) A (.compLoop (.ListComp elt [⟨target, iter, ifs, 0⟩] scope pos) 0 it acc env) R s := by
 refine codeAny_loop rfl I (fun n s hI => ?_) n h
 show wpAny _ A ((compTurn (.ListComp elt [⟨target, iter, ifs, 0⟩] scope pos) 0 it acc env).onRaise (fun x => do noteFrame x env; theTreesLotGoes x)) _ _ s
 refine wpAny_noted ?_
 rw [compTurn_list]
 refine wpAny_bind (wpAny_standAt (wpAny_bind (wpAny_mono (turn n s hI) (fun r s₁ h₁ => ?_) fun _ _ h' => h')))
 cases r with
 | none => exact wpAny_pure h₁
 | some v =>
  refine wpAny_bind (wpAny_mono h₁ (fun _ s₁' h₁' => ?_) fun _ _ h' => h')
  refine wpAny_bind (wpAny_mono h₁' (fun _ s₂ h₂ => wpAny_bind (wpAny_mono h₂ (fun ok s₃ h₃ => ?_) fun _ _ h' => h')) fun _ _ h' => h')
  cases ok with
  | false => exact wpAny_pure ⟨rfl, h₃⟩
  | true =>
   exact wpAny_bind (wpAny_bind (wpAny_mono h₃ (fun x s₄ h₄ => wpAny_bind (wpAny_mono h₄ (fun _ s₅ h₅ => wpAny_pure (wpAny_pure ⟨rfl, h₅⟩)) fun _ _ h' => h')) fun _ _ h' => h'))
abbrev CW := Nat → Nat → List V → Hp → Prop
def vA (σb : St) (J : It) (g : TG) (tt : TT) (te : TE) (W : CW) (fin : List V → Hp → Prop) (i m : Nat) (ys : List V) (H : Hp) : Prop :=
 (J.stop i H ∧ fin ys H) ∨
 (J.go i H ∧ ys.length < sizeLine ∧ ∀ x H', J.yld i H x H' → g x σb H' fun σ2 H2 => tt σ2 H2 fun b H3 =>
  if b = true then te σ2 H3 fun y H4 => ∃ m', m' < m ∧ W (i + 1) m' (ys ++ [y]) H4 else ∃ m', m' < m ∧ W (i + 1) m' ys H3)
structure BlkEnd (X : Cx) (pins : List (Addr × Obj)) (H : Hp) (C : Addr) (s : Shared) : Prop where
 ns : ∃ m, s.heap.Ns C m
 fr : H C = none
 ne : C ≠ X.env.locals
 ab : X.s₀.heap.objs.size ≤ C
 cl : ∀ x c, X.env.cells.lookup x = some c → c ≠ C
 pn : ∀ p ∈ X.pn ++ pins, p.1 ≠ C
theorem uF {X : Cx} {pins : List (Addr × Obj)} {σ : St} {s₂ : Shared} {H₂ : Hp} {elt iter tg : Expr} {ifs : List Expr} {scope : Scope} {pos : Pos} {N' : List Str} {nt : Nat} {cap : List Nat} {g : TG} {tt : TT} {te : TE} {cl : List (Str × Addr)}
  {it : Addr} {fp : List Addr} {tn : Nat → Heap → Prop} {J : It} {Q : List V → Hp → Prop} {E : Value → Shared → Prop}
  (hc : X.calm = true) (I₂ : Inv X pins σ H₂ s₂) (T : Turn X.prog X.w X.K tg J fp it tn) (st : tn 0 s₂.heap) (hf : ∀ b ∈ fp, xI X pins H₂ b)
  (hclk : ∀ x c, cl.lookup x = some c → X.env.cells.lookup x = some c) (hclh : ∀ x, (x, NameKind.free) ∈ scope.names → ∃ c, cl.lookup x = some c)
  (hcell : ∀ y ∈ scope.names, y.2 ≠ .cell) (hkind : scope.kind = .function)
  (hfr : ∀ y ∈ scope.names, y.2 = .free → (X.env.kindOf y.1 = some .cell ∨ X.env.kindOf y.1 = some .free))
  (hN : N'.length = nt + cap.length) (hcapN : ∀ (k j : Nat), cap[k]? = some j → N'[nt + k]? = X.N[j]?) (hcapF : ∀ x ∈ N'.drop nt, scope.names.lookup x = some .free)
  (hg : ∀ R, PG (blk X scope N' R) tg g) (hgk : aCL nt g) (ht : ∀ R, aHH (blk X scope N' R) ifs tt) (he : ∀ R, PE (blk X scope N' R) elt te)
  (h : ∃ W : CW, (∃ m, W 0 m [] H₂) ∧ ∀ i m ys H, W i m ys H → vA (nK nt cap σ) J g tt te W Q i m ys H)
  {RR : Value → Addr → Result → Shared → Prop}
  (hRR : ∀ D C s' H' ys, H' D = none → Q ys H' → Inv X pins σ (upd H' D (.lst ys)) s' → BlkEnd X pins (upd H' D (.lst ys)) C s' → RR (.ref D) C (.ok .next) s') :
  wpAny (model X.prog X.w) X.A (newList []) (fun acc s₃ => wpAny (model X.prog X.w) X.A (newFunctionEnv scope X.env.globals cl [] X.env.qual none .none (some X.env)) (fun cenv s₄ =>
   codeAny (model X.prog X.w) X.A (.compStart (.ListComp elt [⟨tg, iter, ifs, 0⟩] scope pos) 0 (.ref it) acc { cenv with scope := relabel scope X.env }) (RR acc cenv.locals) s₄) E s₃) E s₂ := by
 obtain ⟨W, ⟨m0, w0⟩, turn⟩ := h
 refine wpAny_newObj_type (wpAny_newFunctionEnv hcell (by intro y hy; simp at hy) (fun h₁ hns₁ hsb₁ => ?_) hkind)
 dsimp only at hns₁ hsb₁ ⊢
 generalize hH2 : s₂.heap.push { cls := .type "list", dict := none, data := .seq ([] : List Value).toArray } = Hx at hns₁ hsb₁ ⊢
 have hC : Hx.objs.size = s₂.heap.objs.size + 1 := by rw [← hH2, Heap.size_push]
 generalize hD : s₂.heap.objs.size = D at hC ⊢
 generalize hCC : Hx.objs.size = C at hns₁ hsb₁ hC ⊢
 have hDC : D ≠ C := by omega
 have below : ∀ b, b < s₂.heap.objs.size → b ≠ C ∧ b ≠ D := fun b hb => by omega
 have old : ∀ b o, s₂.heap.get? b = some o → h₁.get? b = some o := fun b o e => hsb₁.extBut b o (below b (Heap.lt_size e)).1 (Heap.get?_push_of_some _ (hH2 ▸ Heap.get?_push_of_some _ e))
 have hacc : h₁.get? D = some { cls := .type "list", data := .seq ([] : List Value).toArray } := hsb₁.extBut _ _ hDC (Heap.get?_push_of_some _ (by rw [← hH2, ← hD]; exact Heap.get?_push_size _ rfl))
 have freshD : H₂ D = none := I₂.hok.fresh (by omega)
 have freshC : H₂ C = none := I₂.hok.fresh (by omega)
 have fpo : ∀ b ∈ fp, ∃ o, s₂.heap.get? b = some o ∧ ∀ v, o.data ≠ .cell v := T.obj 0 _ st
 have fplt : ∀ b ∈ fp, b < s₂.heap.objs.size := fun b hb => let ⟨o, e, _⟩ := fpo b hb; Heap.lt_size e
 have celllt : ∀ x c, X.env.cells.lookup x = some c → c < s₂.heap.objs.size := fun x c e => let ⟨v, z⟩ := I₂.cell x c e; z.lt
 have pinlt : ∀ p ∈ X.pn ++ pins, p.1 < s₂.heap.objs.size := fun p hp => Heap.lt_size (I₂.pin p hp).1
 let R : BlkR := ⟨cl, C, s₂, H₂, fp⟩
 have okb : (blk X scope N' R).Ok := {
  mod := I₂.mod
  kind := hkind
  glob := I₂.ok.glob
  blt := I₂.ok.blt
  above := (by show s₂.heap.objs.size ≤ C; omega)
  inj := fun x y c e1 e2 => I₂.ok.inj x y c (hclk x c e1) (hclk y c e2)
  has := fun x hx => hclh x (lF hcell hx)
  cab := fun x c hx _ => by cases hx
  hd := I₂.ok.hd
  frames := I₂.ok.frames
  stk := .inl rfl
  exf := fun b hb => ⟨(below b (fplt b hb)).1, fun x c e => (hf b hb).2.2.2.2.1 x c (hclk x c e)⟩
  bs := I₂.bs
  bsz := Nat.le_trans I₂.ok.bsz I₂.sz
  noex := fun b o e hb => by
   rcases (hf b hb).2.2.2.1 with z | z
   ·exact I₂.ok.noex b o e z
   ·exact absurd (Nat.lt_of_lt_of_le (Heap.lt_size e) (Nat.le_trans I₂.ok.bsz z)) (Nat.lt_irrefl _)
  exfs := fun b hb z => by
   rcases List.mem_cons.mp (I₂.stkSub b z) with q | q
   ·exact (hf b hb).2.1 q
   ·exact (hf b hb).2.2.1 q
  funs := I₂.stack
  frf := I₂.stkFree }
 have nofs : ∀ a, s₂.heap.objs.size ≤ a → a ∉ frs X.stack := fun a ha z => by
  rcases List.mem_cons.mp (I₂.stkSub a z) with q | q
  ·exact absurd (Nat.lt_of_lt_of_le I₂.lt ha) (by rw [q]; exact Nat.lt_irrefl _)
  ·exact I₂.nofs ha q
 have hDle : s₂.heap.objs.size ≤ D := by omega
 have hCle : s₂.heap.objs.size ≤ C := by omega
 have stat : ∀ {H' : Hp} {ob : Obj}, (∀ b ∈ fp, H' b = none) → ∀ b ∈ fp, xI (blk X scope N' R) [(D, ob)] H' b := fun {H' ob} hn b hb =>
  ⟨hn b hb, (below b (fplt b hb)).1, okb.exfs b hb, .inl hb, fun x c e => (hf b hb).2.2.2.2.1 x c (hclk x c e), fun p hp => by
   have e : p = (D, ob) := by simpa using hp
   rw [e]
   exact Ne.symm (below b (fplt b hb)).2⟩
 have entry : ∀ tk, Inv (blk X scope N' R) [(D, { cls := .type "list", data := .seq ([] : List Value).toArray })] (nK nt cap σ) H₂ { s₂ with heap := h₁, toks := tk } := fun tk => {
  ok := okb
  os := rfl
  bare := I₂.bare
  base := Un.kept old
  loc := by
   refine ⟨_, hns₁, fun i x v e1 e2 e3 => ?_⟩
   obtain ⟨j, hi, hj, hv⟩ := wA e2
   have hx : X.N[j]? = some x := by
    rw [← hcapN _ _ hj, show nt + (i - nt) = i by omega]
    exact e1
   have hxm : x ∈ N'.drop nt := by
    refine List.mem_of_getElem? (i := i - nt) ?_
    rw [List.getElem?_drop, show nt + (i - nt) = i by omega]
    exact e1
   have hfree := hcapF x hxm
   have hmem : (x, NameKind.free) ∈ scope.names := by
    have : ∀ (l : List (Str × NameKind)), l.lookup x = some .free → (x, NameKind.free) ∈ l := by
     intro l
     induction l with
     | nil => intro q; cases q
     | cons a r ih =>
      intro q
      obtain ⟨n, k⟩ := a
      cases hxn : x == n with
      | true =>
       rw [List.lookup_cons, hxn] at q
       obtain rfl := beq_iff_eq.mp hxn
       cases q
       exact List.mem_cons_self
      | false =>
       rw [List.lookup_cons, hxn] at q
       exact List.mem_cons_of_mem _ (ih q)
    exact this _ hfree
   have hk := hfr (x, .free) hmem rfl
   obtain ⟨m, hn, hl⟩ := I₂.loc
   have vis : Vis X.env.scope x := by
    rcases hk with k | k
    ·exact .inr (.inl k)
    ·exact .inr (.inr k)
   obtain ⟨u, ru, lk⟩ := hl j x v hx hv vis
   refine ⟨u, ru, ?_⟩
   rcases lk with ⟨k, _⟩ | ⟨k, c, hc1, hc2⟩
   ·exfalso
    rcases hk with z | z
    ·rw [z] at k; cases k
    ·rw [z] at k; cases k
   ·obtain ⟨d, hd⟩ := hclh x hmem
    have hd' := hclk x d hd
    rw [hc1] at hd'
    cases hd'
    refine .inr ⟨jE hfree, c, hd, ?_⟩
    obtain ⟨o, ho, hdat⟩ := hc2
    exact ⟨o, old c o ho, hdat⟩
  cell := fun x c e => by
   obtain ⟨v, o, ho, hdat⟩ := I₂.cell x c (hclk x c e)
   exact ⟨v, o, old c o ho, hdat⟩
  free := freshC
  freeC := fun x c e => I₂.freeC x c (hclk x c e)
  pin := fun p hp => by
   have e : p = (D, { cls := .type "list", data := .seq ([] : List Value).toArray }) := by simpa using hp
   subst e
   exact ⟨hacc, freshD, hDC, nofs D hDle, fun v z => by cases z⟩
  hok := I₂.hok.kept old
  len := by rw [aED, hN] }
 have loop : ∀ tk, codeAny (model X.prog X.w) X.A (.compLoop (.ListComp elt [⟨tg, iter, ifs, 0⟩] scope pos) 0 (.ref it) (.ref D) (compEnvC scope cl C X.env)) (RR (.ref D) C) { s₂ with heap := h₁, toks := tk } := by
  intro tk
  refine uG (fun n s' => ∃ i ys H' its k, Inv (blk X scope N' R) [(D, { cls := .type "list", data := .seq its.toArray k })] (nK nt cap σ) H' s' ∧ tn i s'.heap ∧ (∀ b ∈ fp, H' b = none) ∧ bK ys its ∧ ys.length ≤ sizeLine ∧ W i n ys H') ?_ m0
   ⟨0, [], H₂, [], 0, entry tk, T.keep _ _ _ st fun b hb o e => old b o e, fun b hb => (hf b hb).1, .nil, Nat.zero_le _, w0⟩
  rintro n s3 ⟨i, ys, H3, its, k, I3, st3, fr3, rv, hz, w3⟩
  have pD := I3.pin (D, { cls := .type "list", data := .seq its.toArray k }) (by simp)
  rcases turn i n ys H3 w3 with ⟨stop, qn⟩ | ⟨go, hlt, step⟩
  ·-- the end
   refine wpAny_mono (T.done (blk X scope N' R) rfl rfl rfl hc i _ s3 _ H3 (fun _ _ => False) I3 (stat fr3) st3 stop) (fun r s4 ⟨hr, I4⟩ => ?_) fun _ _ z => z.elim
   subst hr
   have pD4 := I4.pin (D, { cls := .type "list", data := .seq its.toArray k }) (by simp)
   have b4 : Un (frs X.stack) fp H₂ H3 s₂.heap s4.heap := I4.base
   have u4 : Un (frs X.stack) fp H₂ (upd H3 D (.lst ys)) s₂.heap s4.heap := {
    keep := b4.keep
    slot := b4.slot
    free := fun b o e n hx => by
     rw [aT (below b (Heap.lt_size e)).2]
     exact b4.free b o e n hx
    there := b4.there
    tups := fun b xs e => by
     have z := b4.tups b xs e
     rw [aT (bG z pD4.2.1)]
     exact z
    frzs := fun b o u e => by
     have z := b4.frzs b o u e
     rw [aT (bG z pD4.2.1)]
     exact z
    tbls := fun b ps e => by
     obtain ⟨more, z⟩ := b4.tbls b ps e
     exact ⟨more, by rw [aT (bG z pD4.2.1)]; exact z⟩ }
   have hok4 : HOk X.prog X.w (upd H3 D (.lst ys)) s4.heap := fun b u e => by
    by_cases hb : b = D
    ·subst hb
     rw [aB] at e
     cases e
     exact ⟨hz, its, k, rv, pD4.1⟩
    ·rw [aT hb] at e
     exact (I4.hok b u e).stay (fun c v _ q => q) (fun c q => by rw [aT (bG q pD4.2.1)]; exact q) fun c xs q => by rw [aT (bG q pD4.2.1)]; exact q
   have I5 : Inv X pins σ (upd H3 D (.lst ys)) s4 := I₂.call' I4.os u4 hok4 I4.bare fun b hb => ⟨(hf b hb).2.2.2.1, (hf b hb).2.1, (hf b hb).2.2.2.2.1, (hf b hb).2.2.2.2.2⟩
   refine hRR D C s4 H3 ys pD4.2.1 qn I5 ?_
   obtain ⟨m, hn, _⟩ := I4.loc
   exact ⟨⟨m, hn⟩, by rw [aT (Ne.symm hDC)]; exact I4.free, fun z => absurd I₂.lt (by rw [← z]; exact Nat.not_lt.mpr hCle), Nat.le_trans I₂.sz hCle, fun x c e => Nat.ne_of_lt (Nat.lt_of_lt_of_le (celllt x c e) hCle), fun p hp => Nat.ne_of_lt (Nat.lt_of_lt_of_le (pinlt p hp) hCle)⟩
  ·-- a turn
   refine wpAny_mono (T.item (blk X scope N' R) rfl rfl rfl hc i _ s3 _ H3 (fun _ _ => False) I3 (stat fr3) st3 go) (fun r s4 ⟨u, hr, h4⟩ => ?_) fun _ _ z => z.elim
   subst hr
   refine wpAny_mono h4 (fun _ s5 ⟨x, H5, I5, r5, y5, st5, fr5⟩ => ?_) fun _ _ z => z.elim
   have I5' := I5.pinned (stat fr5) (T.obj _ _ st5)
   refine wpAny_mono (hg R _ s5 _ H5 x u _ I5' r5 (hgk _ _ _ _ (step x H5 y5))) (fun _ s6 ⟨σ6, H6, I6, q6, l6, k6⟩ => ?_) fun _ _ z => z.elim
   refine wpAny_mono (ht R _ s6 σ6 H6 _ I6 q6) (fun ok s7 ⟨H7, I7, q7⟩ => ?_) fun _ _ z => z.elim
   have weak : ∀ {H8 : Hp} {s8 : Shared} {ps : List (Addr × Obj)}, Inv (blk X scope N' R) ps σ6 H8 s8 → Inv (blk X scope N' R) ps (nK nt cap σ) H8 s8 := fun I8 => I8.weak (by rw [l6]) fun j v e => by
    obtain ⟨_, hj, _, _⟩ := wA e
    rw [k6 j hj]
    exact e
   have tnK : ∀ {H8 : Hp} {s8 : Shared} {σ8 : St}, Inv (blk X scope N' R) ([(D, { cls := .type "list", data := .seq its.toArray k })] ++ mW fp s5.heap) σ8 H8 s8 → tn (i + 1) s8.heap ∧ ∀ b ∈ fp, H8 b = none := fun {H8 s8 σ8} I8 =>
    ⟨T.keep _ _ _ st5 fun b hb o e => (I8.pin (b, o) (List.mem_append_right _ (List.mem_append_right _ (mE hb e)))).1, fun b hb => by
     obtain ⟨o, e, _⟩ := T.obj _ _ st5 b hb
     exact (I8.pin (b, o) (List.mem_append_right _ (List.mem_append_right _ (mE hb e)))).2.1⟩
   cases ok with
   | false =>
    rw [if_neg Bool.false_ne_true] at q7 ⊢
    obtain ⟨m', hm, w7⟩ := q7
    exact ⟨m', hm, i + 1, ys, H7, its, k, weak I7.unpinned, (tnK I7).1, (tnK I7).2, rv, hz, w7⟩
   | true =>
    rw [if_pos rfl] at q7 ⊢
    refine wpAny_mono (he R _ s7 σ6 H7 _ I7 q7) (fun xv s8 ⟨y, H8, I8, ry, q8⟩ => ?_) fun _ _ z => z.elim
    obtain ⟨m', hm, w8⟩ := q8
    have pD8 := I8.pin (D, { cls := .type "list", data := .seq its.toArray k }) (by simp)
    have hsz : its.toArray.size ≤ sizeLine := by rw [List.size_toArray, ← rv.length]; omega
    refine wpAny_list_append_plain (hsz := hsz) ⟨k, pD8.1⟩ fun h9 hl9 hs9 => ?_
    obtain ⟨k9, hl9⟩ := hl9
    have tn8 := tnK I8
    have I8' : Inv (blk X scope N' R) (mW fp s5.heap) (nK nt cap σ) H8 s8 := (weak I8).pins_of fun p hp => I8.pin p (List.mem_append_right _ (List.mem_append_right _ hp))
    have I9 : Inv (blk X scope N' R) (mW fp s5.heap) (nK nt cap σ) H8 { s8 with heap := h9 } := I8'.turned (it := D) (t' := s8.toks) (fun b o hb e => hs9.extBut b o hb e) pD8.2.1 pD8.2.2.1 (.inr hDle)
     (fun x c e => Nat.ne_of_lt (Nat.lt_of_lt_of_le (celllt x c (hclk x c e)) hDle)) fun p hp => by
      have hp' : p ∈ mW fp s5.heap := by simpa using hp
      exact Nat.ne_of_lt (Nat.lt_of_lt_of_le (fplt p.1 (vF hp').1) hDle)
    have e9 : h9.get? D = some { cls := .type "list", data := .seq (its ++ [xv]).toArray k9 } := by
     rw [hl9]
     simp
    refine ⟨m', hm, i + 1, ys ++ [y], H8, its ++ [xv], k9, I9.pins_of fun p hp => ?_, T.keep _ _ _ tn8.1 fun b hb o e => hs9.extBut b o (Nat.ne_of_lt (Nat.lt_of_lt_of_le (fplt b hb) hDle)) e, tn8.2, rv.append (.cons ry .nil), by rw [List.length_append]; exact hlt, w8⟩
    have e : p = (D, { cls := .type "list", data := .seq (its ++ [xv]).toArray k9 }) := by simpa using hp
    subst e
    exact ⟨e9, pD8.2.1, pD8.2.2.1, pD8.2.2.2.1, fun v z => by cases z⟩
 exact codeAny_compStart_list (loop _) (T.self _ 0 _ _ _ (T.keep _ _ _ st fun b hb o e => old b o e) (loop _))
def aIX (nt : Nat) (cap : List Nat) (wi : TI) (g : TG) (tt : TT) (te : TE) : TE := fun σ H Q => wi σ H fun J H1 => ∃ W : CW, (∃ m, W 0 m [] H1) ∧ ∀ i m ys H, W i m ys H → vA (nK nt cap σ) J g tt te W (fun ys H' => ∀ p, H' p = none → Q (.ref p) (upd H' p (.lst ys))) i m ys H
theorem kQ {α : Type} {l : List α} {p : α → Bool} (h : l.all p = true) : ∀ x ∈ l, p x = true := fun x hx => List.all_eq_true.mp h x hx
theorem cA {X : Cx} {elt iter tg : Expr} {ifs : List Expr} {scope : Scope} {pos : Pos} {wi : TI} {g : TG} {tt : TT} {te : TE} (N' : List Str) (nt : Nat) (cap : List Nat)
  (hc : X.calm = true) (hi : PI X tg iter wi) (hg : ∀ R, PG (blk X scope N' R) tg g) (hgk : aCL nt g) (ht : ∀ R, aHH (blk X scope N' R) ifs tt) (he : ∀ R, PE (blk X scope N' R) elt te)
  (hcell : (scope.names.all fun y => !(y.2 == .cell)) = true := by rfl) (hkind : scope.kind = .function := by rfl)
  (hnames : (scope.names.all fun y => !(y.2 == .local) || (scope.names.lookup y.1 == some .local)) = true := by rfl)
  (hfr : (scope.names.all fun y => !(y.2 == .free) || (X.env.kindOf y.1 == some .cell || X.env.kindOf y.1 == some .free)) = true := by rfl)
  (hN : N'.length = nt + cap.length := by rfl) (hcapN : (cap.map fun j => X.N[j]?) = (N'.drop nt).map some := by rfl) (hcapF : ((N'.drop nt).all fun x => scope.names.lookup x == some .free) = true := by rfl)
  (hs : ∀ x, foldedSetIterable iter X.env x = pure x := by intro _; rfl) :
  PE X (.ListComp elt [⟨tg, iter, ifs, 0⟩] scope pos) (aIX nt cap wi g tt te) := by
 intro pins s σ H Q I h
 have hfr' : ∀ y ∈ scope.names, y.2 = .free → (X.env.kindOf y.1 = some .cell ∨ X.env.kindOf y.1 = some .free) := fun y hy e => by
  have z := kQ hfr y hy
  rw [e] at z
  have z' : (X.env.kindOf y.1 == some .cell || X.env.kindOf y.1 == some .free) = true := z
  rcases Bool.or_eq_true_iff.mp z' with q | q
  ·exact .inl (beq_iff_eq.mp q)
  ·exact .inr (beq_iff_eq.mp q)
 have hcell' : ∀ y ∈ scope.names, y.2 ≠ .cell := fun y hy e => by
  have z := kQ hcell y hy
  rw [e] at z
  cases z
 obtain ⟨cl, hcl, hclk, hclh⟩ := uH (scope := scope) (env := X.env) fun y hy e => I.ok.has y.1 (hfr' y hy e)
 have hnames' : ∀ y ∈ scope.names, y.2 = .local → scope.names.lookup y.1 = some .local := fun y hy e => by
  have z := kQ hnames y hy
  rw [e] at z
  exact beq_iff_eq.mp z
 have hcapN' : ∀ (k j : Nat), cap[k]? = some j → N'[nt + k]? = X.N[j]? := fun k j e => by
  have z := congrArg (fun l : List (Option Str) => l[k]?) hcapN
  simp only [List.getElem?_map, e, Option.map_some, List.getElem?_drop] at z
  cases q : N'[nt + k]? with
  | none => rw [q] at z; cases z
  | some x => rw [q] at z; exact (Option.some.inj z).symm
 rw [eval_ListComp]
 refine wpAny_comprehension_free (use := none) rfl hs hcl hkind hnames' (thn (hi pins s σ H _ I h) fun v s1 h1 => thn h1 fun itv s2 h2 => ?_)
 obtain ⟨it, fp, tn, J, H2, e, I2, T, st2, f2, hw⟩ := h2
 subst e
 refine uF (RR := fun acc C => compPost (model X.prog X.w) X.A X.xe none (EP X pins σ Q) acc C) hc I2 T st2 f2 hclk hclh hcell' hkind hfr' hN hcapN' (fun x hx => beq_iff_eq.mp (kQ hcapF x hx)) hg hgk ht he hw ?_
 intro D C s' H' ys hD q I' B
 obtain ⟨m, hn⟩ := B.ns
 refine ⟨m, hn, fun h' hs' => ⟨.ref D, _, I'.turned (it := C) (t' := s'.toks) (fun b o hb e => hs'.extBut b o hb e) B.fr B.ne (.inr B.ab) B.cl B.pn, rfl, q D hD⟩⟩
end L2
namespace L2
open PySem PySem.Spec PyProof.Rows
section
variable {X : Cx}
def aKU : V → Option Value
 | .ty n => some (.type n)
 | .ref a => some (.ref a)
 | _ => none
theorem aHD {y : V} {c u : Value} (h : aKU y = some c) (r : bI y u) : u = c := by
 cases y with
 | ty n => cases h; exact r
 | ref a => cases h; exact r
 | non => cases h
 | bl b => cases h
 | int i => cases h
 | str x => cases h
 | byt b => cases h
 | flt b => cases h
theorem zF : hG X (.builtin "isinstance") (fun xs H Q => ∃ x y c t b, xs = [x, y] ∧ aKU y = some c ∧ TyOf X.K H x t ∧ PySem.W.kitOne X.K t c = some b ∧ Q (.bl b) H) := by
 intro pins s σ H xs us Q I r h
 obtain ⟨x, y, c, t, b, rfl, hc, ty, e, q⟩ := h
 obtain ⟨u, v, rfl, ru, rv⟩ := bK.two r
 obtain rfl := aHD hc rv
 exact aDM I ru ty e fun tk => ⟨.bl b, H, I.tok tk, rfl, q⟩
theorem qX : ∀ {bs : List Bool} {us : List Value}, bK (bs.map V.bl) us → LSm.BoolsAre us bs
 | [], us, r => by
  rw [List.map_nil] at r
  cases r
  exact .nil
 | b :: bs, us, r => by
  rw [List.map_cons] at r
  cases r with
  | cons r1 r2 =>
   cases r1
   exact .cons b (qX r2)
theorem kH (hc : X.calm = true) : hG X (.builtin "all") (fun xs H Q => ∃ (p : Addr) (bs : List Bool), xs = [.ref p] ∧ SqL X.K H p (bs.map V.bl) ∧ Q (.bl (bs.all id)) H) := by
 intro pins s σ H xs us Q I r h
 obtain ⟨p, bs, rfl, hq, q⟩ := h
 obtain ⟨u, rfl, ru⟩ := bK.one r
 cases ru
 obtain ⟨its, rv, pl, hz⟩ := I.list hq
 obtain ⟨m, F⟩ := I.fr
 have hb := qX rv
 have hl := pl.isList
 have hlt : p < s.heap.objs.size := by obtain ⟨_, e, _⟩ := hl; exact Heap.lt_size e
 refine call_all_walk (wpAny_pyIter_list hl ?_)
 refine ⟨s.heap.objs.size, [s.heap.objs.size, p], [s.heap.objs.size], its.toArray.size, _, _, fun i => (bs[i]?).getD true, rfl, Walks.list (A := X.A.in1) (I.ok.hd hc) _ p (Nat.ne_of_lt hlt) its.toArray,
  ⟨⟨_, Heap.get?_push_size _ rfl, rfl, rfl⟩, hl.push _⟩, fun i v s' Q' E' hP hQ => ?_, fun h' tk hk => ?_⟩
 ·obtain ⟨b, e, rfl⟩ := hb.get i v (by simpa using hP)
  simp only [e, Option.getD_some] at hQ
  exact wpAny_truthy_bool hQ
 ·have e : ((List.range its.toArray.size).all fun i => (bs[i]?).getD true) = bs.all id := by
   rw [List.size_toArray, hb.length]; exact LSm.range_all bs
  rw [e]
  exact ⟨.bl _, H, I.kept (LSm.kept_iter hk), rfl, q⟩
theorem aFB : SlR X (fun x lo hi H Q => ∃ z, x = .str z ∧ z.length ≤ sizeLine ∧ Q (.str (Txt.slice z lo hi)) H) := by
 intro pins s σ H x v vl vu lo hi sl Q I rx hs pl pu h
 obtain ⟨z, rfl, hz, q⟩ := h
 obtain ⟨t, rfl⟩ := rx
 refine ⟨"str", _, F.slot_str_getitem.lookup, typeIs_str _ _ _, ?_⟩
 have fin : ∀ (t' : Tok) (k : Nat), EP X pins σ Q (.str (Txt.slice z lo hi) t') { s with toks := k } := fun t' k => ⟨.str _, H, I.tok k, ⟨t', rfl⟩, q⟩
 cases pl with
 | none =>
  cases pu with
  | none => exact wpAny_getItem_str_slice (l := none) (u := none) (st := none) hs rfl (post_val_or_str ⟨Nat.le_trans (Txt.slice_le z _ _) hz, fun t' k => fin t' k⟩)
  | int j uj => exact wpAny_getItem_str_slice (l := none) (u := some (j, uj)) (st := none) hs rfl (post_val_or_str ⟨Nat.le_trans (Txt.slice_le z _ _) hz, fun t' k => fin t' k⟩)
 | int i ui =>
  cases pu with
  | none => exact wpAny_getItem_str_slice (l := some (i, ui)) (u := none) (st := none) hs rfl (post_val_or_str ⟨Nat.le_trans (Txt.slice_le z _ _) hz, fun t' k => fin t' k⟩)
  | int j uj => exact wpAny_getItem_str_slice (l := some (i, ui)) (u := some (j, uj)) (st := none) hs rfl (post_val_or_str ⟨Nat.le_trans (Txt.slice_le z _ _) hz, fun t' k => fin t' k⟩)
theorem bQ : OpR X (binaryOp .FloorDiv) (rI (fun _ j => 0 < j ∧ j.natAbs.log2 < 9000) fun i j => .int (i / j)) := opI fun i j _ _ _ _ _ hc q => by
 have h1 : (0 : Int) < j := hc.1
 exact floordiv_int (by omega) (by rw [Int.fdiv_eq_ediv_of_nonneg i (by omega)]; exact q) (.inl (PyProof.noPylong_of_log2 hc.2))
def Its (x : Str) : It where
 go := fun i _ => i < x.cps.size
 yld := fun i H v H' => H' = H ∧ ∃ c, x.cps[i]? = some c ∧ v = .str ⟨#[c]⟩
 stop := fun i _ => i = x.cps.size
theorem xO {P : Program} {w : World} {K : PySem.W.Frag} {tg : Expr} (it : Addr) (x : Str) (t : Tok) (ty : String)
  (W : ∀ A : Around, A.handled = none → Walks P w A it [it] [it] x.cps.size (SignAt x) (fun i h => h.IsStrIter it ty x t i))
  (hn : ["enumerate", "zip", "dict_itemiterator", "dict_reverseitemiterator", "odict_iterator", "itertools.zip_longest", "itertools.pairwise"].contains ty = false)
  (self : ∀ (A : Around) (i : Nat) (s : Shared) (Q : Value → Shared → Prop) (E : Value → Shared → Prop), s.heap.IsStrIter it ty x t i → Q (.ref it) s → wpAny (model P w) A (pyIter (.ref it)) Q E s) :
  Turn P w K tg (Its x) [it] it (fun i h => h.IsStrIter it ty x t i) where
 mem := by simp
 obj := fun i h st b hb => by
  have e : b = it := by simpa using hb
  subst e
  obtain ⟨o, e, c, d⟩ := st
  exact ⟨o, e, fun v z => by rw [d] at z; cases z⟩
 keep := fun i h h' st k => let ⟨o, ho, r⟩ := st; ⟨o, k it (by simp) o ho, r⟩
 item := by
  intro X hP hw hK hc i pins s σ H E I hf st hg
  subst hP hw hK
  obtain ⟨f0, f1, f2, f3, f4, f5⟩ := hf it (by simp)
  refine (W X.A (I.ok.hd hc)).item i s _ _ hg st fun v h' tk hv st' kk => ?_
  obtain ⟨c, u, hx, rfl⟩ := hv
  have I1 : Inv X pins σ H { s with heap := h', toks := tk } := I.turned (fun b o hb e => kk b o (by simpa using hb) e) f0 f1 f3 f4 f5
  obtain ⟨o, e, cc, d⟩ := id st'
  exact ⟨_, rfl, aCE (s := { s with heap := h', toks := tk }) e cc d hn ⟨.str ⟨#[c]⟩, H, I1, ⟨u, rfl⟩, ⟨rfl, c, hx, rfl⟩, st', fun b hb => (hf b hb).1⟩⟩
 done := by
  intro X hP hw hK hc i pins s σ H E I hf st hg
  subst hP hw hK
  obtain ⟨f0, f1, f2, f3, f4, f5⟩ := hf it (by simp)
  have hg' : i = x.cps.size := hg
  subst hg'
  exact (W X.A (I.ok.hd hc)).done s _ _ st fun h' tk kk => ⟨rfl, I.turned (fun b o hb e => kk b o (by simpa using hb) e) f0 f1 f3 f4 f5⟩
 self := self
def aNR (tl : TE) : TI := fun σ H R => tl σ H fun x H1 => ∃ z, x = .str z ∧ R (Its z) H1
theorem aKC {tg l : Expr} {tl : TE} (hl : PE X l tl) : PI X tg l (aNR tl) := by
 intro pins s σ H R I h
 refine thn (hl pins s σ H _ I h) fun v s1 ⟨x, H1, I1, r1, q1⟩ => ?_
 obtain ⟨z, e, q⟩ := q1
 subst e
 obtain ⟨t, rfl⟩ := r1
 have fp : ∀ b ∈ [s1.heap.objs.size], xI X pins H1 b := fun b hb => by
  have e : b = s1.heap.objs.size := by simpa using hb
  subst e
  exact I1.fpOk (Nat.le_refl _) (I1.hok.fresh (Nat.le_refl _))
 cases ha : z.cps.all (· < 128)
 ·refine wpAny_pyIter_wide ha ?_
  exact ⟨s1.heap.objs.size, [s1.heap.objs.size], _, _, H1, rfl, I1.kept (t' := s1.toks) fun b o e => Heap.get?_push_of_some _ e, xO _ z t "str_iterator" (fun A hA => Walks.strWide hA _ z t) (by decide) (fun A i s Q E st h => wpAny_pyIter_striter_wide st h),
   ⟨_, Heap.get?_push_size _ rfl, rfl, rfl⟩, fp, q⟩
 ·refine wpAny_pyIter_ascii ha ?_
  exact ⟨s1.heap.objs.size, [s1.heap.objs.size], _, _, H1, rfl, I1.kept (t' := s1.toks) fun b o e => Heap.get?_push_of_some _ e, xO _ z t "str_ascii_iterator" (fun A hA => Walks.strAscii hA _ z t) (by decide) (fun A i s Q E st h => wpAny_pyIter_striter_ascii st h),
   ⟨_, Heap.get?_push_size _ rfl, rfl, rfl⟩, fp, q⟩
end
theorem aHC {σb : St} {x : Str} {g : TG} {tt : TT} {te : TE} {fin : List V → Hp → Prop} {H : Hp} (hz : x.cps.size ≤ sizeLine) (Pv : Nat → List V → Hp → Prop) (h0 : Pv 0 [] H) (hl : ∀ i ys H, Pv i ys H → ys.length ≤ i)
  (hs : ∀ i c ys H (K : VK) (K' : Hp → Prop), x.cps[i]? = some c → Pv i ys H → (∀ y H4, Pv (i + 1) (ys ++ [y]) H4 → K y H4) → (∀ H3, Pv (i + 1) ys H3 → K' H3) →
   g (.str ⟨#[c]⟩) σb H fun σ2 H2 => tt σ2 H2 fun b H3 => if b = true then te σ2 H3 K else K' H3)
  (hd : ∀ ys H, Pv x.cps.size ys H → fin ys H) : ∃ W : CW, (∃ m, W 0 m [] H) ∧ ∀ i m ys H, W i m ys H → vA σb (Its x) g tt te W fin i m ys H := by
 refine ⟨fun i m ys H => m = x.cps.size - i ∧ i ≤ x.cps.size ∧ Pv i ys H, ⟨x.cps.size, by simp, Nat.zero_le _, h0⟩, ?_⟩
 rintro i m ys H ⟨rfl, hi, p⟩
 by_cases hlt : i < x.cps.size
 ·refine .inr ⟨hlt, ?_, fun v H' y => ?_⟩
  ·have := hl i ys H p; omega
  ·obtain ⟨e, c, hx, rfl⟩ := y
   subst e
   exact hs i c ys _ _ _ hx p (fun y H4 q => ⟨x.cps.size - (i + 1), by omega, rfl, hlt, q⟩) fun H3 q => ⟨x.cps.size - (i + 1), by omega, rfl, hlt, q⟩
 ·have e : i = x.cps.size := by omega
  subst e
  exact .inl ⟨rfl, hd ys H p⟩
theorem bP {F : PySem.W.Frag} {a : Addr} {xs : List V} {σb : St} {g : TG} {tt : TT} {te : TE} {fin : List V → Hp → Prop} {H : Hp} (hz : xs.length ≤ sizeLine) (Pv : Nat → List V → Hp → Prop) (h0 : Pv 0 [] H)
  (hl : ∀ i ys H, i ≤ xs.length → Pv i ys H → SqL F H a xs ∧ ys.length ≤ i)
  (hs : ∀ i x ys H (K : VK) (K' : Hp → Prop), xs[i]? = some x → Pv i ys H → (∀ y H4, Pv (i + 1) (ys ++ [y]) H4 → K y H4) → (∀ H3, Pv (i + 1) ys H3 → K' H3) →
   g x σb H fun σ2 H2 => tt σ2 H2 fun b H3 => if b = true then te σ2 H3 K else K' H3)
  (hd : ∀ ys H, Pv xs.length ys H → fin ys H) : ∃ W : CW, (∃ m, W 0 m [] H) ∧ ∀ i m ys H, W i m ys H → vA σb (Itl F a) g tt te W fin i m ys H := by
 refine ⟨fun i m ys H => m = xs.length - i ∧ i ≤ xs.length ∧ Pv i ys H, ⟨xs.length, by simp, Nat.zero_le _, h0⟩, ?_⟩
 rintro i m ys H ⟨rfl, hi, p⟩
 obtain ⟨q, ql⟩ := hl i ys H hi p
 by_cases hlt : i < xs.length
 ·refine .inr ⟨⟨xs, xs[i], q, by simp [hlt]⟩, by omega, fun x H' y => ?_⟩
  obtain ⟨e, y⟩ := y
  subst e
  exact hs i x ys _ _ _ (y xs q) p (fun y H4 q => ⟨xs.length - (i + 1), by omega, rfl, hlt, q⟩) fun H3 q => ⟨xs.length - (i + 1), by omega, rfl, hlt, q⟩
 ·have e : i = xs.length := by omega
  subst e
  exact .inl ⟨⟨xs, q, Nat.le_refl _⟩, hd ys H p⟩
theorem aAQ {lo : Int} {n : Nat} {σb : St} {g : TG} {tt : TT} {te : TE} {fin : List V → Hp → Prop} {H : Hp} (hz : n ≤ sizeLine) (Pv : Nat → List V → Hp → Prop) (h0 : Pv 0 [] H) (hl : ∀ i ys H, Pv i ys H → ys.length ≤ i)
  (hs : ∀ i ys H (K : VK) (K' : Hp → Prop), i < n → Pv i ys H → (∀ y H4, Pv (i + 1) (ys ++ [y]) H4 → K y H4) → (∀ H3, Pv (i + 1) ys H3 → K' H3) →
   g (.int (lo + i)) σb H fun σ2 H2 => tt σ2 H2 fun b H3 => if b = true then te σ2 H3 K else K' H3)
  (hd : ∀ ys H, Pv n ys H → fin ys H) : ∃ W : CW, (∃ m, W 0 m [] H) ∧ ∀ i m ys H, W i m ys H → vA σb (Itr lo n) g tt te W fin i m ys H := by
 refine ⟨fun i m ys H => m = n - i ∧ i ≤ n ∧ Pv i ys H, ⟨n, by simp, Nat.zero_le _, h0⟩, ?_⟩
 rintro i m ys H ⟨rfl, hi, p⟩
 by_cases hlt : i < n
 ·refine .inr ⟨hlt, ?_, fun v H' y => ?_⟩
  ·have := hl i ys H p; omega
  ·obtain ⟨e, y⟩ := y
   subst e y
   exact hs i ys _ _ _ hlt p (fun y H4 q => ⟨n - (i + 1), by omega, rfl, hlt, q⟩) fun H3 q => ⟨n - (i + 1), by omega, rfl, hlt, q⟩
 ·have e : i = n := by omega
  subst e
  exact .inl ⟨Nat.le_refl _, hd ys H p⟩
end L2
namespace L2
open PySem PySem.Spec PyProof.Rows
structure DefAt (K : PySem.W.Frag) (mg : Str → Option Value) (x : Str) (st : Stmt) (ps : List Str) : Prop where
 ex : ∃ (f : Addr) (fd : FuncData), Fun K x x st f fd ∧ iC K fd ps [] ∧ mg x = some (.ref f)
structure Fc (P : Program) (w : World) (K : PySem.W.Frag) (mg : Str → Option Value) (base : Heap) (k : Nat) (x : Str) (ps : List Str) (sp : Sp) : Prop where
 ex : ∃ (f : Addr) (fd : FuncData), FnOk P w K mg base CX0 k f fd ps sp ∧ iC K fd ps [] ∧ mg x = some (.ref f) ∧ PySem.W.keepIn K (.ref f) = true
section
variable {P : Program} {w : World} {K : PySem.W.Frag} {mg : Str → Option Value} {base : Heap}
theorem DefAt.fc {x : Str} {st : Stmt} {N ps : List Str} {k : Nat} {sp : Sp} (D : DefAt K mg x st ps) (S : FnScope N ps (aF st)) (len : ∀ vs H Q E, sp vs H Q E → vs.length = ps.length)
  (hbody : ∀ (f : Addr) (cdv : Value) (A : Around) (outer : List Env) (s : Shared) (H : Hp) (vs : List V) (Q : VK) (E : XK), Room k (A.deeper (envOfC x (aF st) s.heap.objs.size f cdv)) → sp vs H Q E →
   ∃ t, PSs (uE CX0 P w K mg base N x (aF st) f cdv A outer s H E).nox (aL st) t ∧ t { nx := fun _ H' => Q .non H', rt := Q } (kX N vs) H) : Fc P w K mg base (k + 1) x ps sp := by
 obtain ⟨f, fd, F, b, m⟩ := D.ex
 exact ⟨f, fd, F.ok S len fun cdv A outer s H vs Q E hr h => hbody f cdv A outer s H vs Q E hr h, b, m, F.kp⟩
theorem bL {h : Heap} {x : Str} {st : Stmt} {ps : List Str} {f : Addr} {oc : Value} {od an : Option Addr} {osl : Array (Option Value)} {kV doc pm cdv ct : Value} (X : K.In h) (G : h.Ns mainGlobals mg)
  (a : PySem.W.nsIn K mainGlobals x = some (some (.ref f))) (l : K.lookup f = some ⟨oc, od, .func (PySem.W.fnOf x x (aM st) (aL st) (aF st) .none kV doc pm an cdv ct), osl⟩)
  (c : PySem.W.codeIn K cdv x = true) (k : PySem.W.keepIn K (.ref f) = true)
  (hb : ∀ (kV doc pm : Value) (an : Option Addr) (cdv ct : Value) (us : List Value), us.length = ps.length → bindArgs (PySem.W.fnOf x x (aM st) (aL st) (aF st) .none kV doc pm an cdv ct) ⟨us, []⟩ = pure (ps.zip us)) : DefAt K mg x st ps :=
 ⟨f, _, qF l c k, (qF l c k).binds hb, PySem.W.mg_of X G a⟩
end
section
variable {X : Cx} {k : Nat} {ps : List Str} {sp : Sp} {x : Str} {p pos : Pos} {e : Expr} {es : List Expr} {t : TA}
theorem bO (F : Fc X.prog X.w X.K X.mg X.base k x ps sp) (hr : Room k X.A) (ha : PA X (e :: es) t) (hg : Gl X x := by rfl) (hdb : (x == ("__debug__" : Str)) = false := by decide)
  (he : starEach (e :: es) X.env = (false, eval e X.env) :: starEach es X.env := by rfl) (hpl : (backTo pos (starEach es X.env)).any (·.1) = false := by rfl) :
  PE X (.Call (.Name x p) (e :: es) [] pos) (aIY sp [] E0 t) := by
 obtain ⟨f, fd, G, b, m, kp⟩ := F.ex
 exact aHY G hr hg m kp b .nil aBX ha hdb he hpl
end
def sp1 (f : V → Hp → VK → Prop) : Sp := fun vs H Q _ => ∃ x, vs = [x] ∧ f x H Q
def sp2 (f : V → V → Hp → VK → Prop) : Sp := fun vs H Q _ => ∃ x y, vs = [x, y] ∧ f x y H Q
def sp3 (f : V → V → V → Hp → VK → Prop) : Sp := fun vs H Q _ => ∃ x y z, vs = [x, y, z] ∧ f x y z H Q
theorem nZ {f : V → Hp → VK → Prop} : ∀ vs H Q E, sp1 f vs H Q E → vs.length = 1 := fun vs H Q E ⟨x, e, _⟩ => by rw [e]; rfl
theorem jH {f : V → V → Hp → VK → Prop} : ∀ vs H Q E, sp2 f vs H Q E → vs.length = 2 := fun vs H Q E ⟨x, y, e, _⟩ => by rw [e]; rfl
theorem yS {f : V → V → V → Hp → VK → Prop} : ∀ vs H Q E, sp3 f vs H Q E → vs.length = 3 := fun vs H Q E ⟨x, y, z, e, _⟩ => by rw [e]; rfl
theorem cF : bootBuiltins "isinstance" = some (.builtin "isinstance") := by decide +kernel
theorem iK : bootBuiltins "all" = some (.builtin "all") := by decide +kernel
theorem cM : bootBuiltins "len" = some (.builtin "len") := by decide +kernel
theorem iJ : bootBuiltins "max" = some (.builtin "max") := by decide +kernel
theorem nW : bootBuiltins "min" = some (.builtin "min") := by decide +kernel
theorem qM : bootBuiltins "str" = some (.type "str") := by decide +kernel
theorem vZ : bootBuiltins "int" = some (.type "int") := by decide +kernel
theorem aAT : bootBuiltins "bool" = some (.type "bool") := by decide +kernel
theorem eC : bootBuiltins "list" = some (.type "list") := by decide +kernel
theorem zG : bootBuiltins "tuple" = some (.type "tuple") := by decide +kernel
theorem gW : bootBuiltins "dict" = some (.type "dict") := by decide +kernel
theorem vY : bootBuiltins "set" = some (.type "set") := by decide +kernel
inductive Pl (K : PySem.W.Frag) (H : Hp) : V → Prop where
 | non : Pl K H .non
 | bl (b : Bool) : Pl K H (.bl b)
 | int (i : Int) : Pl K H (.int i)
 | str (x : Str) : Pl K H (.str x)
 | lst {a : Addr} {xs : List V} (e : H a = some (.lst xs)) : Pl K H (.ref a)
 | frz {a : Addr} {o : Obj} {xs : List V} (e : H a = some (.frz o (.lst xs))) : Pl K H (.ref a)
 | tup {a : Addr} {xs : List V} (e : H a = some (.tup xs)) : Pl K H (.ref a)
 | dK {a : Addr} {kvs : List (Key × V)} (e : H a = some (.dK kvs)) : Pl K H (.ref a)
theorem lH (K : PySem.W.Frag) (n : String) : PySem.W.kitOne K (.type n) (.type n) = some true := by
 unfold PySem.W.kitOne
 rw [if_pos (by simp)]
end L2
namespace L2
open PySem PySem.Spec PyProof.Rows
def jC (mg : Str → Option Value) (x : Str) (v : V) : Prop := ∃ u, mg x = some u ∧ bI v u
theorem nY {X : Cx} {x : Str} {v : V} {pos : Pos} (h : jC X.mg x v) (hg : Gl X x := by rfl) (hd : (x == ("__debug__" : Str)) = false := by decide) : PE X (.Name x pos) (tC v) := by
 obtain ⟨u, hm, r⟩ := h
 exact rT hg hm r hd
theorem iN {K : PySem.W.Frag} {mg : Str → Option Value} {h : Heap} {x : Str} {v : V} {u : Value} (X : K.In h) (G : h.Ns mainGlobals mg) (a : PySem.W.nsIn K mainGlobals x = some (some u)) (r : bI v u) : jC mg x v := ⟨u, PySem.W.mg_of X G a, r⟩
end L2
namespace L2
open PySem PySem.Spec PyProof.Rows
def qH : HO → Bool
 | .lst _ => true
 | .dK _ => true
 | .set _ _ => true
 | .ext _ => true
 | .rng _ _ => true
 | _ => false
def iX (H' H'' : Hp) : Prop := ∀ b, H'' b = H' b ∨ (H'' b = none ∧ ∃ o, H' b = some o ∧ qH o = true)
theorem iX.refl (H : Hp) : iX H H := fun _ => .inl rfl
theorem iX.trans {H1 H2 H3 : Hp} (a : iX H1 H2) (b : iX H2 H3) : iX H1 H3 := fun c => by
 rcases b c with e | ⟨e, o, q, d⟩
 ·rcases a c with e' | ⟨e', o, q, d⟩
  ·exact .inl (e.trans e')
  ·exact .inr ⟨e.trans e', o, q, d⟩
 ·rcases a c with e' | ⟨e', _⟩
  ·exact .inr ⟨e, o, e' ▸ q, d⟩
  ·rw [e'] at q; cases q
theorem iX.new {H : Hp} {p : Addr} {o : HO} (h : H p = none) (d : qH o = true) : iX (upd H p o) H := fun b => by
 by_cases hb : b = p
 ·subst hb
  exact .inr ⟨h, o, aB, d⟩
 ·exact .inl (aT hb).symm
theorem iX.lst {H : Hp} {p : Addr} {xs : List V} (h : H p = none) : iX (upd H p (.lst xs)) H := iX.new h rfl
def eD (Q : VK) : VK := fun v H' => ∃ H'', iX H' H'' ∧ Q v H''
theorem eD.of {Q : VK} {v : V} {H H' : Hp} (d : iX H' H) (q : Q v H) : eD Q v H' := ⟨H, d, q⟩
theorem HOk.drop {P : Program} {w : World} {H' H'' : Hp} {h : Heap} (d : iX H' H'') (ok : HOk P w H' h) : HOk P w H'' h := fun b o e => by
 have e' : H' b = some o := by
  rcases d b with z | ⟨z, _⟩
  ·exact z.symm.trans e
  ·rw [z] at e; cases e
 refine (ok b o e').stay (fun _ _ _ q => q) (fun c q => ?_) fun c xs q => ?_
 ·rcases d c with z | ⟨_, o', z', dr⟩
  ·exact z.trans q
  ·rw [q] at z'; cases z'; cases dr
 ·rcases d c with z | ⟨_, o', z', dr⟩
  ·exact z.trans q
  ·rw [q] at z'; cases z'; cases dr
theorem Un.drop {fs ex : List Addr} {H H' H'' : Hp} {h h' : Heap} (d : iX H' H'') (u : Un fs ex H H' h h') : Un fs ex H H'' h h' where
 keep := u.keep
 slot := u.slot
 free := fun b o e n hx => by
  rcases d b with z | ⟨z, _⟩
  ·exact z.trans (u.free b o e n hx)
  ·exact z
 there := u.there
 tups := fun b xs e => by
  have q := u.tups b xs e
  rcases d b with z | ⟨_, o', z', dr⟩
  ·exact z.trans q
  ·rw [q] at z'; cases z'; cases dr
 frzs := fun b o v e => by
  have q := u.frzs b o v e
  rcases d b with z | ⟨_, o', z', dr⟩
  ·exact z.trans q
  ·rw [q] at z'; cases z'; cases dr
 tbls := fun b ps e => by
  obtain ⟨m, q⟩ := u.tbls b ps e
  rcases d b with z | ⟨_, o', z', dr⟩
  ·exact ⟨m, z.trans q⟩
  ·rw [q] at z'; cases z'; cases dr
theorem FnOk.drop {P : Program} {w : World} {K : PySem.W.Frag} {mg : Str → Option Value} {base : Heap} {k : Nat} {f : Addr} {fd : FuncData} {ps : List Str} {sp : Sp} (len : ∀ vs H Q E, sp vs H Q E → vs.length = ps.length)
  (F : FnOk P w K mg base CX0 k f fd ps (fun vs H Qd E => ∃ Q, sp vs H Q E ∧ Qd = eD Q)) : FnOk P w K mg base CX0 k f fd ps sp := by
 refine ⟨len, fun A outer s H args us vs Q E hr he hb hv hs => codeAny_mono (F.run A outer s H args us vs (eD Q) E hr he hb hv ⟨Q, hs, rfl⟩) fun r s' h => ?_⟩
 cases r with
 | error e => exact h
 | ok fl =>
  cases fl with
  | ret u =>
   obtain ⟨v, H', os, bare, un, hok, rv, H'', d, q⟩ := h
   exact ⟨v, H'', os, bare, un.drop d, hok.drop d, rv, q⟩
  | next => exact h
  | brk => exact h
  | cont => exact h
theorem DefAt.fcD {P : Program} {w : World} {K : PySem.W.Frag} {mg : Str → Option Value} {base : Heap} {x : Str} {st : Stmt} {N ps : List Str} {k : Nat} {sp : Sp} (D : DefAt K mg x st ps) (S : FnScope N ps (aF st)) (len : ∀ vs H Q E, sp vs H Q E → vs.length = ps.length)
  (hbody : ∀ (f : Addr) (cdv : Value) (A : Around) (outer : List Env) (s : Shared) (H : Hp) (vs : List V) (Q : VK) (E : XK), Room k (A.deeper (envOfC x (aF st) s.heap.objs.size f cdv)) → sp vs H Q E →
   ∃ t, PSs (uE CX0 P w K mg base N x (aF st) f cdv A outer s H E).nox (aL st) t ∧ t { nx := fun _ H' => eD Q .non H', rt := eD Q } (kX N vs) H) : Fc P w K mg base (k + 1) x ps sp := by
 obtain ⟨f, fd, F, b, m⟩ := D.ex
 refine ⟨f, fd, FnOk.drop len (F.ok S (fun vs H Q E ⟨Q', h, _⟩ => len vs H Q' E h) fun cdv A outer s H vs Q E hr ⟨Q', h, e⟩ => ?_), b, m, F.kp⟩
 subst e
 exact hbody f cdv A outer s H vs Q' E hr h
end L2
namespace L2
open PySem PySem.Spec PyProof.Rows
theorem aI.upd {H : Hp} {p : Addr} {o : HO} (h : H p = none) : aI H (upd H p o) := fun b u e => by
 rw [aT (bG e h)]
 exact e
def aBM (K : PySem.W.Frag) : Sp := sp1 fun x H Q => ∃ (a : Addr) (ns : List Int), x = .ref a ∧ SqL K H a (ns.map V.int) ∧ ns.length ≤ 63 ∧ ∀ H', Q (.bl true) H'
theorem walk_law {l : PySem.W.OpenLaw} {q : Program} {loose : List Str} {XP : (Str → Option Value) → Heap → Prop} {YP : World → Heap → Prop} {d : DefRec} {K : Params → PySem.W.Frag} (k : Nat) (hr : Room k callerA) (hn : l.most = some 63) (hdf : d.params.defaults = [])
  (hY : ∀ (w : World) (h : Heap), YP w h → (K w.params).In h)
  (F : ∀ (w : World) (mg : Str → Option Value) (fa : Addr) (h : Heap), (K w.params).In h → h.Ns mainGlobals mg → mg d.name = some (.ref fa) →
   ∃ fd : FuncData, (∀ (s : Shared) (u : Value), BindsTo s fd ⟨[u], []⟩ [("_law_script", u)]) ∧ ∀ base : Heap, (K w.params).In base → base.Ns mainGlobals mg → FnOk l.prog w (K w.params) mg base CX0 k fa fd ["_law_script"] (aBM (K w.params))) :
  PySem.W.WalkO q loose XP YP l.row.toRowW d [] (fun f vs => PySem.call f vs) :=
 L2.walk_of (n := 63) (k := k) (x := "_law_script") (CX := fun _ => CX0) (sp := fun w => aBM (K w.params)) hn (by decide) hdf hr hY F (fun _ _ a ns hl _ hS => ⟨_, rfl, a, ns, rfl, hS, hl, fun _ => rfl⟩) fun _ _ _ _ _ z => z
end L2
namespace L2
open PySem PySem.Spec PyProof.Rows
theorem pJ {X : Cx} {x : Str} {n : String} {pos : Pos} (hm : X.mg x = none) (hv : bootBuiltins x = some (.type n)) (hg : Gl X x := by rfl) (hn : x ≠ "__name__" := by decide) (hd : (x == ("__debug__" : Str)) = false := by decide) : PE X (.Name x pos) (tC (.ty n)) :=
 aHZ hg hm hv rfl hn hd
end L2
namespace L2
theorem aN {n : Nat} (h : Nat.ble n 1000 = true) : n ≤ PySem.sizeLine := Nat.le_trans (Nat.le_of_ble_eq_true h) (by decide)
end L2
namespace L2
open PySem PySem.Spec PyProof.Rows
def Ite (K : PySem.W.Frag) (a : Addr) : It where
 go := fun i H => ∃ xs x, SqL K H a xs ∧ xs[i]? = some x
 yld := fun i H v H' => ∃ p x, H p = none ∧ v = .ref p ∧ H' = upd H p (.tup [.int i, x]) ∧ ∀ ys, SqL K H a ys → ys[i]? = some x
 stop := fun i H => ∃ xs, SqL K H a xs ∧ xs.length ≤ i
end L2
namespace L2
open PySem PySem.Spec PyProof.Rows
inductive Dv where
 | non | bl (b : Bool) | int (i : Int) | str (x : Str) | lst (ds : List Dv) | tup (ds : List Dv) | dct (ks : List Key) (ds : List Dv)
mutual
def Is (H : Hp) : Dv → V → Prop
 | .non, v => v = .non
 | .bl b, v => v = .bl b
 | .int i, v => v = .int i
 | .str x, v => v = .str x
 | .lst ds, v => ∃ a vs, v = .ref a ∧ H a = some (.lst vs) ∧ IsL H ds vs
 | .tup ds, v => ∃ a vs, v = .ref a ∧ H a = some (.tup vs) ∧ IsL H ds vs
 | .dct ks ds, v => ∃ a vs, v = .ref a ∧ H a = some (.dK (ks.zip vs)) ∧ vs.length = ks.length ∧ IsL H ds vs
def IsL (H : Hp) : List Dv → List V → Prop
 | [], vs => vs = []
 | d :: ds, vs => ∃ v r, vs = v :: r ∧ Is H d v ∧ IsL H ds r
end
def aKP : HO → Bool
 | .lst _ => true
 | .tup _ => true
 | .dK _ => true
 | _ => false
def aCK (H H' : Hp) : Prop := ∀ b o, H b = some o → aKP o = true → H' b = some o
mutual
theorem Is.sameD {H H' : Hp} (S : aCK H H') : ∀ (d : Dv) (v : V), Is H d v → Is H' d v
 | .non, _, h => h
 | .bl _, _, h => h
 | .int _, _, h => h
 | .str _, _, h => h
 | .lst ds, _, ⟨a, vs, e, o, h⟩ => ⟨a, vs, e, S _ _ o rfl, IsL.sameD S ds vs h⟩
 | .tup ds, _, ⟨a, vs, e, o, h⟩ => ⟨a, vs, e, S _ _ o rfl, IsL.sameD S ds vs h⟩
 | .dct ks ds, _, ⟨a, vs, e, o, l, h⟩ => ⟨a, vs, e, S _ _ o rfl, l, IsL.sameD S ds vs h⟩
theorem IsL.sameD {H H' : Hp} (S : aCK H H') : ∀ (ds : List Dv) (vs : List V), IsL H ds vs → IsL H' ds vs
 | [], _, h => h
 | d :: ds, _, ⟨v, r, e, h, t⟩ => ⟨v, r, e, Is.sameD S d v h, IsL.sameD S ds r t⟩
end
theorem Is.same {H H' : Hp} (S : aI H H') (d : Dv) (v : V) (h : Is H d v) : Is H' d v := Is.sameD (fun b o e _ => S b o e) d v h
theorem IsL.same {H H' : Hp} (S : aI H H') (ds : List Dv) (vs : List V) (h : IsL H ds vs) : IsL H' ds vs := IsL.sameD (fun b o e _ => S b o e) ds vs h
mutual
def pP : Dv → Bool
 | .lst _ => false
 | .dct _ _ => false
 | .tup ds => qT ds
 | _ => true
def qT : List Dv → Bool
 | [] => true
 | d :: ds => pP d && qT ds
end
def kI (H H' : Hp) : Prop := ∀ a xs, H a = some (.tup xs) → H' a = some (.tup xs)
mutual
theorem Is.keep {H H' : Hp} (S : kI H H') : ∀ (d : Dv) (v : V), pP d = true → Is H d v → Is H' d v
 | .non, _, _, h => h
 | .bl _, _, _, h => h
 | .int _, _, _, h => h
 | .str _, _, _, h => h
 | .lst ds, _, f, _ => by cases f
 | .tup ds, _, f, ⟨a, vs, e, o, h⟩ => ⟨a, vs, e, S _ _ o, IsL.keep S ds vs f h⟩
 | .dct ks ds, _, f, _ => by cases f
theorem IsL.keep {H H' : Hp} (S : kI H H') : ∀ (ds : List Dv) (vs : List V), qT ds = true → IsL H ds vs → IsL H' ds vs
 | [], _, _, h => h
 | d :: ds, _, f, ⟨v, r, e, h, t⟩ => ⟨v, r, e, Is.keep S d v (Bool.and_eq_true_iff.mp f).1 h, IsL.keep S ds r (Bool.and_eq_true_iff.mp f).2 t⟩
end
mutual
def deq : Dv → Dv → Bool
 | .non, .non => true
 | .bl a, .bl b => a == b
 | .bl a, .int b => (if a then 1 else 0) == b
 | .int a, .bl b => a == (if b then 1 else 0)
 | .int a, .int b => a == b
 | .str a, .str b => a == b
 | .lst a, .lst b => uX a b
 | .tup a, .tup b => uX a b
 | _, _ => false
def uX : List Dv → List Dv → Bool
 | [], [] => true
 | a :: r, b :: q => deq a b && uX r q
 | _, _ => false
end
mutual
def aW : Nat → Dv → Bool
 | _, .dct _ _ => false
 | 0, .lst _ => false
 | 0, .tup _ => false
 | n + 1, .lst ds => cR n ds
 | n + 1, .tup ds => cR n ds
 | _, _ => true
def cR : Nat → List Dv → Bool
 | _, [] => true
 | n, d :: ds => aW n d && cR n ds
end
mutual
theorem uC : ∀ (n : Nat) (d : Dv), aW n d = true → deq d d = true
 | _, .non, _ => rfl
 | _, .bl b, _ => beq_self_eq_true b
 | _, .int i, _ => beq_self_eq_true i
 | _, .str x, _ => beq_self_eq_true x
 | 0, .lst ds, f => by simp [aW] at f
 | 0, .tup ds, f => by simp [aW] at f
 | n + 1, .lst ds, f => qI n ds (by simpa [aW] using f)
 | n + 1, .tup ds, f => qI n ds (by simpa [aW] using f)
 | n, .dct ks ds, f => by simp [aW] at f
theorem qI : ∀ (n : Nat) (ds : List Dv), cR n ds = true → uX ds ds = true
 | _, [], _ => rfl
 | n, d :: ds, f => by
  rw [cR, Bool.and_eq_true] at f
  show (deq d d && uX ds ds) = true
  rw [uC n d f.1, qI n ds f.2]; rfl
end
theorem IsL.length {H : Hp} : ∀ {ds : List Dv} {vs : List V}, IsL H ds vs → vs.length = ds.length
 | [], _, h => by rw [show _ = [] from h]; rfl
 | d :: ds, _, ⟨v, r, e, _, t⟩ => by rw [e, List.length_cons, List.length_cons, IsL.length t]
mutual
theorem Is.inj {H : Hp} : ∀ (d e : Dv) (v : V), Is H d v → Is H e v → (∃ n, aW n d = true) → (∃ n, aW n e = true) → d = e
 | .non, e, v, h, h', _, _ => by
  cases e <;> simp_all [Is]
 | .bl b, e, v, h, h', _, _ => by
  cases e <;> simp_all [Is]
 | .int b, e, v, h, h', _, _ => by
  cases e <;> simp_all [Is]
 | .str b, e, v, h, h', _, _ => by
  cases e <;> simp_all [Is]
 | .lst ds, e, v, ⟨a, vs, q, o, h⟩, h', ⟨n, f⟩, ⟨m, g⟩ => by
  subst q
  cases e with
  | lst es =>
   obtain ⟨a', vs', q', o', h'⟩ := h'
   cases q'
   rw [o] at o'
   cases o'
   cases n with
   | zero => simp [aW] at f
   | succ n =>
    cases m with
    | zero => simp [aW] at g
    | succ m => rw [IsL.inj ds es vs h h' ⟨n, by simpa [aW] using f⟩ ⟨m, by simpa [aW] using g⟩]
  | tup es =>
   obtain ⟨a', vs', q', o', h'⟩ := h'
   cases q'
   rw [o] at o'
   cases o'
  | dct ks es => simp [aW] at g
  | _ => simp_all [Is]
 | .tup ds, e, v, ⟨a, vs, q, o, h⟩, h', ⟨n, f⟩, ⟨m, g⟩ => by
  subst q
  cases e with
  | tup es =>
   obtain ⟨a', vs', q', o', h'⟩ := h'
   cases q'
   rw [o] at o'
   cases o'
   cases n with
   | zero => simp [aW] at f
   | succ n =>
    cases m with
    | zero => simp [aW] at g
    | succ m => rw [IsL.inj ds es vs h h' ⟨n, by simpa [aW] using f⟩ ⟨m, by simpa [aW] using g⟩]
  | lst es =>
   obtain ⟨a', vs', q', o', h'⟩ := h'
   cases q'
   rw [o] at o'
   cases o'
  | dct ks es => simp [aW] at g
  | _ => simp_all [Is]
 | .dct ks ds, e, v, _, h', ⟨n, f⟩, _ => by simp [aW] at f
theorem IsL.inj {H : Hp} : ∀ (ds es : List Dv) (vs : List V), IsL H ds vs → IsL H es vs → (∃ n, cR n ds = true) → (∃ n, cR n es = true) → ds = es
 | [], es, vs, h, h', _, _ => by
  rw [show vs = [] from h] at h'
  cases es with
  | nil => rfl
  | cons e es => obtain ⟨v, r, q, _⟩ := h'; cases q
 | d :: ds, es, vs, ⟨v, r, q, h, t⟩, h', ⟨n, f⟩, ⟨m, g⟩ => by
  subst q
  cases es with
  | nil => cases (show v :: r = [] from h')
  | cons e es =>
   obtain ⟨v', r', q', h', t'⟩ := h'
   cases q'
   rw [cR, Bool.and_eq_true] at f g
   rw [Is.inj d e v h h' ⟨n, f.1⟩ ⟨m, g.1⟩, IsL.inj ds es r t t' ⟨n, f.2⟩ ⟨m, g.2⟩]
end
theorem IsL.get {H : Hp} : ∀ {ds : List Dv} {vs : List V} {i : Nat} {d : Dv}, IsL H ds vs → ds[i]? = some d → ∃ v, vs[i]? = some v ∧ Is H d v
 | [], _, _, _, _, e => by simp at e
 | d :: ds, _, 0, d', ⟨v, r, e, h, t⟩, q => by
  simp at q
  subst q e
  exact ⟨v, rfl, h⟩
 | d :: ds, _, i + 1, d', ⟨v, r, e, h, t⟩, q => by
  subst e
  obtain ⟨u, h1, h2⟩ := IsL.get (i := i) t (by simpa using q)
  exact ⟨u, by simpa using h1, h2⟩
theorem oU : ∀ (ds es : List Dv), ds.length = es.length → (List.range ds.length).all (fun j => deq (ds.getD j .non) (es.getD j .non)) = uX ds es
 | [], [], _ => rfl
 | d :: ds, e :: es, h => by
  have ih := oU ds es (by simpa using h)
  rw [List.length_cons, List.range_succ_eq_map, List.all_cons, List.all_map]
  show (deq d e && (List.range ds.length).all (fun j => deq (ds.getD j .non) (es.getD j .non))) = (deq d e && uX ds es)
  rw [ih]
 | [], _ :: _, h => by simp at h
 | _ :: _, [], h => by simp at h
theorem uD : ∀ (ds es : List Dv), ds.length ≠ es.length → uX ds es = false
 | [], [], h => absurd rfl h
 | d :: ds, e :: es, h => by
  show (deq d e && uX ds es) = false
  rw [uD ds es (fun q => h (by simp [q]))]
  simp
 | [], _ :: _, _ => rfl
 | _ :: _, [], _ => rfl
theorem nJ : ∀ {n : Nat} {ds : List Dv} {i : Nat} {d : Dv}, cR n ds = true → ds[i]? = some d → aW n d = true
 | n, [], _, _, _, e => by simp at e
 | n, d :: ds, 0, d', f, e => by
  simp at e
  subst e
  rw [cR, Bool.and_eq_true] at f
  exact f.1
 | n, d :: ds, i + 1, d', f, e => by
  rw [cR, Bool.and_eq_true] at f
  exact nJ (i := i) f.2 (by simpa using e)
theorem IsL.snoc {H : Hp} {d : Dv} {v : V} (h : Is H d v) : ∀ {ds : List Dv} {vs : List V}, IsL H ds vs → IsL H (ds ++ [d]) (vs ++ [v])
 | [], _, e => by
  rw [show _ = [] from e]
  exact ⟨v, [], rfl, h, rfl⟩
 | d' :: ds, _, ⟨v', r, e, h', t⟩ => by
  subst e
  exact ⟨v', r ++ [v], rfl, h', IsL.snoc h t⟩
theorem IsL.rev {H : Hp} : ∀ {ds : List Dv} {vs : List V}, IsL H ds vs → IsL H ds.reverse vs.reverse
 | [], _, e => by rw [show _ = [] from e]; exact rfl
 | d :: ds, _, ⟨v, r, e, h, t⟩ => by
  subst e
  rw [List.reverse_cons, List.reverse_cons]
  exact IsL.snoc h (IsL.rev t)
theorem gL : ∀ {ds : List Dv}, (∀ d ∈ ds, pP d = true) → qT ds = true
 | [], _ => rfl
 | d :: ds, h => by
  rw [qT, h d List.mem_cons_self, gL fun e m => h e (List.mem_cons_of_mem _ m)]
  rfl
theorem kI.lst {H : Hp} {l : Addr} {xs : List V} {o : HO} (h : H l = some (.lst xs)) : kI H (upd H l o) := fun a ys e => by
 have : a ≠ l := aBZ e h (by intro z; cases z)
 rw [aT this]
 exact e
theorem aI.over {H H' : Hp} {l : Addr} {o : HO} (S : aI H H') (hl : H l = none) : aI H (L2.upd H' l o) := fun b u e => by
 rw [aT (bG e hl)]
 exact S b u e
theorem oT {n : Nat} : ∀ {ds : List Dv}, (∀ d ∈ ds, aW n d = true) → cR n ds = true
 | [], _ => by rw [cR]
 | d :: ds, h => by
  rw [cR, h d List.mem_cons_self, oT fun e m => h e (List.mem_cons_of_mem _ m)]
  rfl
inductive View (s : Shared) (H : Hp) : Dv → Value → Prop where
 | non : View s H .non .none
 | bl (b : Bool) : View s H (.bl b) (.bool b)
 | int (i : Int) (t : Tok) : View s H (.int i) (.int i t)
 | str (x : Str) (t : Tok) : View s H (.str x) (.str x t)
 | lst {ds : List Dv} {l : Addr} {its : List Value} {vs : List V} (hl : s.heap.IsList l its.toArray) (r : bK vs its) (h : IsL H ds vs) : View s H (.lst ds) (.ref l)
 | tup {ds : List Dv} {l : Addr} {its : List Value} {vs : List V} (hl : s.heap.IsTuple l its.toArray) (r : bK vs its) (h : IsL H ds vs) : View s H (.tup ds) (.ref l)
section
variable {X : Cx} {pins : List (Addr × Obj)} {σ : St} {H : Hp} {s : Shared}
theorem Is.view (I : Inv X pins σ H s) {n : Nat} {d : Dv} {v : V} {u : Value} (f : aW n d = true) (h : Is H d v) (r : bI v u) : View s H d u := by
 cases d with
 | non => cases (show v = .non from h); cases r; exact .non
 | bl b => cases (show v = .bl b from h); cases r; exact .bl b
 | int b => cases (show v = .int b from h); obtain ⟨t, rfl⟩ := r; exact .int b t
 | str b => cases (show v = .str b from h); obtain ⟨t, rfl⟩ := r; exact .str b t
 | lst ds =>
  obtain ⟨a, vs, rfl, o, h⟩ := h
  cases r
  obtain ⟨its, rv, pl, hz⟩ := I.list (SqL.of o)
  exact .lst pl.isList rv h
 | tup ds =>
  obtain ⟨a, vs, rfl, o, h⟩ := h
  cases r
  obtain ⟨its, rv, pl, hz⟩ := I.tuple (SqT.of o)
  exact .tup pl rv h
 | dct ks ds => simp [aW] at f
open PySem.SeqAt in
theorem mF {n : Nat} {A : Around} (hu : A.units + n < cLine)
  (ih : ∀ (d e : Dv) (v v' : V) (u u' : Value) (A : Around), A.units + n < cLine → aW n d = true → aW n e = true → Is H d v → Is H e v' → bI v u → bI v' u' → EqAt A s u u' (deq d e))
  {ds es : List Dv} {vs vs' : List V} {its its' : List Value} (f : cR n ds = true) (g : cR n es = true) (h : IsL H ds vs) (h' : IsL H es vs') (r : bK vs its) (r' : bK vs' its')
  (j : Nat) (h1 : j < its.toArray.size) (h2 : j < its'.toArray.size) : EqAt A s its.toArray[j] its'.toArray[j] (deq (ds.getD j .non) (es.getD j .non)) := by
 have l1 := r.length
 have l2 := r'.length
 have l3 := h.length
 have l4 := h'.length
 rw [List.size_toArray] at h1 h2
 have e1 : ds[j]? = some (ds.getD j .non) := by
  rw [List.getD_eq_getElem?_getD, List.getElem?_eq_getElem (by omega)]; rfl
 have e2 : es[j]? = some (es.getD j .non) := by
  rw [List.getD_eq_getElem?_getD, List.getElem?_eq_getElem (by omega)]; rfl
 obtain ⟨v, q1, i1⟩ := h.get e1
 obtain ⟨v', q2, i2⟩ := h'.get e2
 obtain ⟨u, p1, k1⟩ := r.get q1
 obtain ⟨u', p2, k2⟩ := r'.get q2
 have z1 : its.toArray[j] = u := by
  have := List.getElem?_eq_some_iff.mp p1
  obtain ⟨_, e⟩ := this
  simpa using e
 have z2 : its'.toArray[j] = u' := by
  have := List.getElem?_eq_some_iff.mp p2
  obtain ⟨_, e⟩ := this
  simpa using e
 rw [z1, z2]
 exact ih _ _ v v' u u' A hu (nJ f e1) (nJ g e2) i1 i2 k1 k2
open PySem.SeqAt in
theorem aFJ (I : Inv X pins σ H s) {n : Nat}
  (ih : ∀ (d e : Dv) (v v' : V) (u u' : Value) (A : Around), A.units + n < cLine → aW n d = true → aW n e = true → Is H d v → Is H e v' → bI v u → bI v' u' → EqAt A s u u' (deq d e))
  (d e : Dv) (v v' : V) (u u' : Value) (A : Around) (hu : A.units + (n + 1) < cLine) (f : aW (n + 1) d = true) (g : aW (n + 1) e = true) (h : Is H d v) (h' : Is H e v') (r : bI v u) (r' : bI v' u') :
  RcAt A s u u' (deq d e) ∧ RcNeAt A s u u' (!deq d e) := by
 have hu0 : A.units < cLine := by omega
 have hu1 : A.in1.units + n < cLine := by show A.units + 1 + n < cLine; omega
 have w := Is.view I f h r
 have w' := Is.view I g h' r'
 cases w with
 | non =>
  cases w' with
  | non => exact ⟨RcAt.none_none, RcNeAt.none_none⟩
  | bl b => exact ⟨RcAt.none_bool _, RcNeAt.none_bool _⟩
  | int b t => exact ⟨RcAt.none_int _ _, RcNeAt.none_int _ _⟩
  | str b t => exact ⟨RcAt.none_str _ _, RcNeAt.none_str _ _⟩
  | lst hl _ _ => exact ⟨RcAt.none_list hl hu0, RcNeAt.none_list hl hu0⟩
  | tup hl _ _ => exact ⟨RcAt.none_tuple hl hu0, RcNeAt.none_tuple hl hu0⟩
 | bl a =>
  cases w' with
  | non => exact ⟨RcAt.bool_none _, RcNeAt.bool_none _⟩
  | bl b => exact ⟨RcAt.bool_bool _ _, RcNeAt.bool_bool _ _⟩
  | int b t => exact ⟨RcAt.bool_int _ _ _, RcNeAt.bool_int _ _ _⟩
  | str b t => exact ⟨RcAt.bool_str _ _ _, RcNeAt.bool_str _ _ _⟩
  | lst hl _ _ => exact ⟨RcAt.bool_list _ hl hu0, RcNeAt.bool_list _ hl hu0⟩
  | tup hl _ _ => exact ⟨RcAt.bool_tuple _ hl hu0, RcNeAt.bool_tuple _ hl hu0⟩
 | int a t =>
  cases w' with
  | non => exact ⟨RcAt.int_none _ _, RcNeAt.int_none _ _⟩
  | bl b => exact ⟨RcAt.int_bool _ _ _, RcNeAt.int_bool _ _ _⟩
  | int b t => exact ⟨RcAt.int_int _ _ _ _, RcNeAt.int_int _ _ _ _⟩
  | str b t => exact ⟨RcAt.int_str _ _ _ _, RcNeAt.int_str _ _ _ _⟩
  | lst hl _ _ => exact ⟨RcAt.int_list _ _ hl hu0, RcNeAt.int_list _ _ hl hu0⟩
  | tup hl _ _ => exact ⟨RcAt.int_tuple _ _ hl hu0, RcNeAt.int_tuple _ _ hl hu0⟩
 | str a t =>
  cases w' with
  | non => exact ⟨RcAt.str_none _ _, RcNeAt.str_none _ _⟩
  | bl b => exact ⟨RcAt.str_bool _ _ _, RcNeAt.str_bool _ _ _⟩
  | int b t => exact ⟨RcAt.str_int _ _ _ _, RcNeAt.str_int _ _ _ _⟩
  | str b t => exact ⟨RcAt.str_str _ _ _ _, RcNeAt.str_str _ _ _ _⟩
  | lst hl _ _ => exact ⟨RcAt.str_list _ _ hl hu0, RcNeAt.str_list _ _ hl hu0⟩
  | tup hl _ _ => exact ⟨RcAt.str_tuple _ _ hl hu0, RcNeAt.str_tuple _ _ hl hu0⟩
 | @lst ds l its vs hl rv hi =>
  cases w' with
  | non => exact ⟨RcAt.list_none hl hu0, RcNeAt.list_none hl hu0⟩
  | bl b => exact ⟨RcAt.list_bool _ hl hu0, RcNeAt.list_bool _ hl hu0⟩
  | int b t => exact ⟨RcAt.list_int _ _ hl hu0, RcNeAt.list_int _ _ hl hu0⟩
  | str b t => exact ⟨RcAt.list_str _ _ hl hu0, RcNeAt.list_str _ _ hl hu0⟩
  | @lst es l' its' vs' hl' rv' hi' =>
   have f' : cR n ds = true := by simpa [aW] using f
   have g' : cR n es = true := by simpa [aW] using g
   have l1 := rv.length
   have l2 := rv'.length
   have l3 := hi.length
   have l4 := hi'.length
   by_cases hq : ds.length = es.length
   ·have hsz : its.toArray.size = its'.toArray.size := by rw [List.size_toArray, List.size_toArray]; omega
    have key : (List.range its.toArray.size).all (fun j => deq (ds.getD j .non) (es.getD j .non)) = deq (.lst ds) (.lst es) := by
     rw [List.size_toArray, show its.length = ds.length by omega]
     exact oU ds es hq
    rw [← key]
    exact ⟨RcAt.lists hl hl' hsz hu0 (mF hu1 ih f' g' hi hi' rv rv'), RcNeAt.lists hl hl' hsz hu0 (mF hu1 ih f' g' hi hi' rv rv')⟩
   ·have key : deq (.lst ds) (.lst es) = false := uD ds es hq
    have hsz : (its.toArray.size != its'.toArray.size) = true := by
     rw [List.size_toArray, List.size_toArray, bne_iff_ne]; omega
    rw [key]
    exact ⟨RcAt.lists_lengths hl hl' hsz hu0, RcNeAt.lists_lengths hl hl' hsz hu0⟩
  | tup hl' _ _ => exact ⟨RcAt.list_tuple hl hl' hu0, RcNeAt.list_tuple hl hl' hu0⟩
 | @tup ds l its vs hl rv hi =>
  cases w' with
  | non => exact ⟨RcAt.tuple_none hl hu0, RcNeAt.tuple_none hl hu0⟩
  | bl b => exact ⟨RcAt.tuple_bool _ hl hu0, RcNeAt.tuple_bool _ hl hu0⟩
  | int b t => exact ⟨RcAt.tuple_int _ _ hl hu0, RcNeAt.tuple_int _ _ hl hu0⟩
  | str b t => exact ⟨RcAt.tuple_str _ _ hl hu0, RcNeAt.tuple_str _ _ hl hu0⟩
  | lst hl' _ _ => exact ⟨RcAt.tuple_list hl hl' hu0, RcNeAt.tuple_list hl hl' hu0⟩
  | @tup es l' its' vs' hl' rv' hi' =>
   have f' : cR n ds = true := by simpa [aW] using f
   have g' : cR n es = true := by simpa [aW] using g
   have l1 := rv.length
   have l2 := rv'.length
   have l3 := hi.length
   have l4 := hi'.length
   have key : ((List.range (min its.toArray.size its'.toArray.size)).all (fun j => deq (ds.getD j .non) (es.getD j .non)) && its.toArray.size == its'.toArray.size) = deq (.tup ds) (.tup es) := by
    rw [List.size_toArray, List.size_toArray, show its.length = ds.length by omega, show its'.length = es.length by omega]
    show _ = uX ds es
    by_cases hq : ds.length = es.length
    ·rw [← hq, Nat.min_self, oU ds es hq]
     simp
    ·rw [uD ds es hq, beq_eq_false_iff_ne.mpr hq]
     simp
   rw [← key]
   exact ⟨RcAt.tuples hl hl' hu0 (mF hu1 ih f' g' hi hi' rv rv'), RcNeAt.tuples hl hl' hu0 (mF hu1 ih f' g' hi hi' rv rv')⟩
open PySem.SeqAt in
theorem Is.eqAt (I : Inv X pins σ H s) : ∀ (n : Nat) (d e : Dv) (v v' : V) (u u' : Value) (A : Around), A.units + n < cLine → aW n d = true → aW n e = true → Is H d v → Is H e v' → bI v u → bI v' u' → EqAt A s u u' (deq d e) := by
 intro n
 induction n with
 | zero =>
  intro d e v v' u u' A hu f g h h' r r'
  cases d with
  | lst _ => simp [aW] at f
  | tup _ => simp [aW] at f
  | dct _ _ => simp [aW] at f
  | non =>
   cases e with
   | lst _ => simp [aW] at g
   | tup _ => simp [aW] at g
   | dct _ _ => simp [aW] at g
   | _ => cases h; cases h'; exact mG r r' rfl rfl
  | bl b =>
   cases e with
   | lst _ => simp [aW] at g
   | tup _ => simp [aW] at g
   | dct _ _ => simp [aW] at g
   | _ => cases h; cases h'; exact mG r r' rfl rfl
  | int b =>
   cases e with
   | lst _ => simp [aW] at g
   | tup _ => simp [aW] at g
   | dct _ _ => simp [aW] at g
   | _ => cases h; cases h'; exact mG r r' rfl rfl
  | str b =>
   cases e with
   | lst _ => simp [aW] at g
   | tup _ => simp [aW] at g
   | dct _ _ => simp [aW] at g
   | _ => cases h; cases h'; exact mG r r' rfl rfl
 | succ n ih =>
  intro d e v v' u u' A hu f g h h' r r'
  have rc := (aFJ I ih d e v v' u u' A hu f g h h' r r').1
  have w := Is.view I f h r
  have w' := Is.view I g h' r'
  have fin : ∀ (l l' : Addr), u = .ref l → u' = .ref l' → EqAt A s u u' (deq d e) := by
   rintro l l' rfl rfl
   by_cases hq : l = l'
   ·subst hq
    have e1 : v = .ref l := r.inj (show bI (.ref l) (.ref l) from rfl)
    have e2 : v' = .ref l := r'.inj (show bI (.ref l) (.ref l) from rfl)
    subst e1 e2
    have e3 := Is.inj d e _ h h' ⟨_, f⟩ ⟨_, g⟩
    subst e3
    rw [uC _ d f]
    exact EqAt.same _
   ·exact EqAt.of_refs hq rc
  cases w with
  | lst hl _ _ =>
   cases w' with
   | lst hl' _ _ => exact fin _ _ rfl rfl
   | tup hl' _ _ => exact fin _ _ rfl rfl
   | non => exact EqAt.list_none hl (by omega)
   | bl b => exact EqAt.list_bool _ hl (by omega)
   | int b t => exact EqAt.list_int _ _ hl (by omega)
   | str b t => exact EqAt.list_str _ _ hl (by omega)
  | tup hl _ _ =>
   cases w' with
   | lst hl' _ _ => exact fin _ _ rfl rfl
   | tup hl' _ _ => exact fin _ _ rfl rfl
   | non => exact EqAt.tuple_none hl (by omega)
   | bl b => exact EqAt.tuple_bool _ hl (by omega)
   | int b t => exact EqAt.tuple_int _ _ hl (by omega)
   | str b t => exact EqAt.tuple_str _ _ hl (by omega)
  | non =>
   cases w' with
   | lst hl' _ _ => exact EqAt.none_list hl' (by omega)
   | tup hl' _ _ => exact EqAt.none_tuple hl' (by omega)
   | _ => cases h; cases h'; exact mG r r' rfl rfl
  | bl b =>
   cases w' with
   | lst hl' _ _ => exact EqAt.bool_list _ hl' (by omega)
   | tup hl' _ _ => exact EqAt.bool_tuple _ hl' (by omega)
   | _ => cases h; cases h'; exact mG r r' rfl rfl
  | int b t =>
   cases w' with
   | lst hl' _ _ => exact EqAt.int_list _ _ hl' (by omega)
   | tup hl' _ _ => exact EqAt.int_tuple _ _ hl' (by omega)
   | _ => cases h; cases h'; exact mG r r' rfl rfl
  | str b t =>
   cases w' with
   | lst hl' _ _ => exact EqAt.str_list _ _ hl' (by omega)
   | tup hl' _ _ => exact EqAt.str_tuple _ _ hl' (by omega)
   | _ => cases h; cases h'; exact mG r r' rfl rfl
end
def aKA (neg : Bool) : R2 := fun x y H Q => ∃ d e, Is H d x ∧ Is H e y ∧ aW 30 d = true ∧ aW 30 e = true ∧ Q (.bl (if neg then !deq d e else deq d e)) H
theorem aKI {X : Cx} (hu : X.A.units + 64 < cLine) : OpR X (compareOp .Eq) (aKA false) := by
 intro pins s σ H x y v u Q I rx ry h
 obtain ⟨d, e, h, h', f, g, q⟩ := h
 exact (aFJ (n := 29) I (Is.eqAt I 29) d e x y v u X.A (by omega) f g h h' rx ry).1 _ _ _ _ ⟨.bl _, H, I, rfl, q⟩
theorem aKH {X : Cx} (hu : X.A.units + 64 < cLine) : OpR X (compareOp .NotEq) (aKA true) := by
 intro pins s σ H x y v u Q I rx ry h
 obtain ⟨d, e, h, h', f, g, q⟩ := h
 exact (aFJ (n := 29) I (Is.eqAt I 29) d e x y v u X.A (by omega) f g h h' rx ry).2 _ _ _ _ ⟨.bl _, H, I, rfl, q⟩
end L2
namespace L2
open PySem PySem.Spec PyProof.Rows
instance keyMem (k : Key) (l : List Key) : Decidable (k ∈ l) := decidable_of_iff (l.any (fun x => decide (x = k)) = true) (by simp)
def eR (key : Nat → Key) : Nat → List Key
 | 0 => []
 | i + 1 => if key i ∈ eR key i then eR key i else eR key i ++ [key i]
theorem rV (key : Nat → Key) : ∀ i, (eR key i).length ≤ i
 | 0 => Nat.le_refl _
 | i + 1 => by
  have ih := rV key i
  show (if key i ∈ eR key i then eR key i else eR key i ++ [key i]).length ≤ i + 1
  split
  ·omega
  ·rw [List.length_append, List.length_singleton]; omega
theorem yQ (key : Nat → Key) (k : Key) : ∀ i, k ∈ eR key i ↔ ∃ j, j < i ∧ key j = k
 | 0 => by
  constructor
  ·intro h; cases h
  ·rintro ⟨j, h, _⟩; omega
 | i + 1 => by
  have ih := yQ key k i
  show k ∈ (if key i ∈ eR key i then eR key i else eR key i ++ [key i]) ↔ _
  have step : (k ∈ eR key i ∨ k = key i) ↔ ∃ j, j < i + 1 ∧ key j = k := by
   rw [ih]
   constructor
   ·rintro (⟨j, h, e⟩ | e)
    ·exact ⟨j, by omega, e⟩
    ·exact ⟨i, by omega, e.symm⟩
   ·rintro ⟨j, h, e⟩
    by_cases hj : j = i
    ·subst hj; exact .inr e.symm
    ·exact .inl ⟨j, by omega, e⟩
  rw [← step]
  split
  ·rename_i h
   constructor
   ·exact .inl
   ·rintro (h' | rfl)
    ·exact h'
    ·exact h
  ·rw [List.mem_append, List.mem_singleton]
theorem vG (key : Nat → Key) : ∀ n, (eR key n).length = n ↔ ∀ i j, i < j → j < n → key i ≠ key j
 | 0 => ⟨fun _ i j _ h => absurd h (Nat.not_lt_zero _), fun _ => rfl⟩
 | n + 1 => by
  have ih := vG key n
  have le := rV key n
  have mm := yQ key (key n) n
  show (if key n ∈ eR key n then eR key n else eR key n ++ [key n]).length = n + 1 ↔ _
  split
  ·rename_i h
   constructor
   ·intro e; omega
   ·intro e
    obtain ⟨j, hj, q⟩ := mm.mp h
    exact absurd q (e j n hj (Nat.lt_succ_self n))
  ·rename_i h
   rw [List.length_append, List.length_singleton, Nat.add_right_cancel_iff, ih]
   constructor
   ·intro e i j hi hj
    by_cases q : j = n
    ·subst q
     exact fun z => h (mm.mpr ⟨i, hi, z⟩)
    ·exact e i j hi (by omega)
   ·intro e i j hi hj
    exact e i j hi (by omega)
def qJ (ks : List Key) : List Key := eR (fun i => ks.getD i (.inl 0)) ks.length
theorem vS (ks : List Key) : (qJ ks).length = ks.length ↔ ks.Nodup := by
 unfold qJ
 rw [vG, List.nodup_iff_pairwise_ne, List.pairwise_iff_getElem]
 constructor
 ·intro h i j hi hj hij
  have := h i j hij hj
  simpa [List.getD_eq_getElem?_getD, hi, hj] using this
 ·intro h i j hij hj
  have hi : i < ks.length := by omega
  have := h i j hi hj hij
  simpa [List.getD_eq_getElem?_getD, hi, hj] using this
theorem aIK (ks : List Key) : (qJ ks).length ≤ ks.length := rV _ _
def aAV (P : Program) (w : World) (a : Addr) (S : Key → Bool) (n : Nat) : HO := .ext fun h => h.SetOf (aX P w) a S n
theorem aAV.ok {P : Program} {w : World} {H : Hp} {h : Heap} {a : Addr} {S : Key → Bool} {n : Nat} (x : h.SetOf (aX P w) a S n) : cW P w H h a (aAV P w a S n) :=
 ⟨x, let ⟨o, _, _, _, ho, _⟩ := x; ⟨o, ho⟩, fun _ _ ⟨o, es, ep, t, ho, r⟩ k => ⟨o, es, ep, t, k o ho, r⟩⟩
theorem aGB {P : Program} {w : World} {k : Key} {v : Value} (h : (aX P w).is k v = true) : v.scannable = true := by
 rcases cT h with ⟨i, t, rfl, rfl⟩ | ⟨x, t, rfl, rfl⟩ <;> rfl
section
variable {P : Program} {w : World} {A : Around} {R : Result → Shared → Prop} {I : Addr} {fp wr : List Addr} {G : Array GenState → Array GenState → Prop} {n : Nat} {Pv : Nat → Value → Prop} {Stt : Nat → Shared → Prop}
theorem zN {h : Heap} {a : Addr} {S S' : Key → Bool} {n n' : Nat} (x : h.SetOf (aX P w) a S n) (e : ∀ k, S k = S' k) (q : n = n') : h.SetOf (aX P w) a S' n' := by
 obtain rfl : S = S' := funext e
 subst q
 exact x
theorem aFE (W : WalksS P w A.in1 I fp wr G n Pv Stt) (D : Addr) (hD : D ∉ fp) (key : Nat → Key) (hv : ∀ i v, Pv i v → (aX P w).is (key i) v = true) (hb : n + 1 < scanBound) (fin : ∀ s s', Moved (D :: wr) G s s' → s'.heap.SetOf (aX P w) D (fun k => decide (k ∈ eR key n)) (eR key n).length → True) :
  ∀ (m i : Nat) (s : Shared), n - i = m → i ≤ n → Stt i s → s.heap.SetOf (aX P w) D (fun k => decide (k ∈ eR key i)) (eR key i).length →
   (∀ s', Moved (D :: wr) G s s' → s'.heap.SetOf (aX P w) D (fun k => decide (k ∈ eR key n)) (eR key n).length → R (.ok (.ret .none)) s') →
   codeAny (model P w) A (.builtin "set.update.loop" ⟨[.ref D, .ref I], []⟩) R s := by
 have hDw : D ∉ wr := fun z => hD (W.sub _ z)
 have sub : ∀ b ∈ wr, b ∈ D :: wr := fun b z => List.mem_cons_of_mem _ z
 have moved : ∀ {s s' : Shared} {S : Key → Bool} {c : Nat}, Moved wr G s s' → s.heap.SetOf (aX P w) D S c → s'.heap.SetOf (aX P w) D S c := fun mv ⟨o, es, ep, t, ho, r⟩ => ⟨o, es, ep, t, mv.heap D _ hDw ho, r⟩
 intro m
 induction m with
 | zero =>
  intro i s e1 e2 st hS hR
  obtain rfl : i = n := by omega
  refine codeAny_builtin PyProof.Rows.F.entry_set_update_loop ?_
  rw [Around.under_plainId PyProof.Rows.F.plain_set_update_loop _]
  show wpAny _ A.in1 (pyNext (.ref I) >>= _) _ _ s
  refine wpAny_bind (W.done s _ _ st fun s' mv => ?_)
  exact wpAny_pure (hR s' (mv.mono sub) (moved mv hS))
 | succ m ih =>
  intro i s e1 e2 st hS hR
  have lt : i < n := by omega
  refine codeAny_builtin PyProof.Rows.F.entry_set_update_loop ?_
  rw [Around.under_plainId PyProof.Rows.F.plain_set_update_loop _]
  show wpAny _ A.in1 (pyNext (.ref I) >>= _) _ _ s
  refine wpAny_bind (W.item i s _ _ lt st fun v s' pv st' mv => ?_)
  have hk := hv i v pv
  have hS1 := moved mv hS
  show wpAny _ A.in1 (holding [v] (setAdd D v) >>= _) _ _ s'
  refine wpAny_bind (wpAny_holding ?_)
  unfold setAdd
  refine wpAny_holding (wpAny_bind ((aX P w).pyHash (k := key i) hk ?_))
  have room : (eR key i).length + 1 < scanBound := by have := rV key i; omega
  refine wpAny_setAddHashed_of (knd := aX P w) (s := { s' with toks := s'.toks + 1 }) hk (aGB hk) hS1 room fun h' sb hS2 => ?_
  have hS3 : h'.SetOf (aX P w) D (fun k => decide (k ∈ eR key (i + 1))) (eR key (i + 1)).length := by
   refine zN hS2 (fun k => ?_) ?_
   ·show (decide (k ∈ eR key i) || decide (k = key i)) = decide (k ∈ if key i ∈ eR key i then eR key i else eR key i ++ [key i])
    by_cases z : key i ∈ eR key i
    ·rw [if_pos z]
     by_cases y : k = key i
     ·subst y; simp [z]
     ·simp [y]
    ·rw [if_neg z]
     simp
   ·show (if decide (key i ∈ eR key i) = true then (eR key i).length else (eR key i).length + 1) = (if key i ∈ eR key i then eR key i else eR key i ++ [key i]).length
    by_cases z : key i ∈ eR key i
    ·rw [if_pos z, if_pos (decide_eq_true z)]
    ·rw [if_neg z, if_neg (by simpa using z)]
     simp
  refine wpAny_pure ⟨plainId_quiet PyProof.Rows.F.plain_set_update_loop _, ih (i + 1) _ (by omega) lt (W.frame _ s' _ _ st' (Nat.le_succ _) fun b hb o e => ?_) hS3 fun s2 mv2 hS4 => ?_⟩
  ·rw [sb.2 b (fun z : b = D => hD (by rw [← z]; exact hb))]
   exact e
  ·refine hR s2 (Moved.trans W.gtrans ((mv.mono sub).then_heap (Nat.le_succ _) fun b o hb e => ?_) mv2) hS4
   rw [sb.2 b (fun z : b = D => hb (by rw [z]; exact List.mem_cons_self))]
   exact e
end
section
variable {P : Program} {w : World} {A : Around} {E : Value → Shared → Prop} {s : Shared}
abbrev tM (led : Bool) : Obj := { cls := .type "set", dict := none, data := .set #[] 0 (.fresh 0 0 led) }
set_option maxHeartbeats 8000000 in
theorem xX {l : Addr} {its : List Value} {ks : List Key} {Q : Value → Shared → Prop} (hh : A.handled = none) (hl : s.heap.IsList l its.toArray) (hk : ∀ i v, its[i]? = some v → (aX P w).is (ks.getD i (.inl 0)) v = true) (hn : its.length = ks.length) (hb : its.length + 1 < scanBound)
  (h : ∀ (h' : Heap) (tk : Nat), h'.SetOf (aX P w) s.heap.objs.size (fun k => decide (k ∈ qJ ks)) (qJ ks).length → (∀ b o, s.heap.get? b = some o → h'.get? b = some o) → Q (.ref s.heap.objs.size) { s with heap := h', toks := tk }) :
  wpAny (model P w) A (call (.type "set") [.ref l]) Q E s := by
 obtain ⟨c, tl, hmro⟩ := PySem.F.called_set.mro
 have m1 := PySem.F.called_set.made
 have m2 := PySem.F.called_set.sub
 refine wpAny_call (codeAny_of_tree ?_)
 show wpAny _ _ (callAny (.type "set") _) _ _ _
 refine wpAny_pure ⟨Code.quiet_builtin _ (by decide +kernel), codeAny_builtin PySem.F.entry_type_call ?_⟩
 rw [Around.under_plain (weight_type_call_type "set" [.ref l] []) rfl]
 have m3 := PySem.F.called_set.notType
 have m4 := PySem.F.called_set.canCreate
 have m5 := PySem.F.typeCall_set_1 (.ref l)
 repeat (any_goals (first | assumption | wp_step))
 refine codeAny_mono (code_set_new_1 (.ref l) (E := E) (Q₁ := fun ob s1 => ∃ led : Bool, ob = .ref s.heap.objs.size ∧ s1 = { s with heap := s.heap.push (tM led) }) fun led => ⟨led, rfl, rfl⟩) fun r s1 hr => ?_
 cases r with
 | error e => exact hr
 | ok fl =>
  cases fl with
  | ret ob =>
   obtain ⟨led, rfl, rfl⟩ := hr
   have hS : (s.heap.push (tM led)).get? s.heap.objs.size = some (tM led) := Heap.get?_push_size _ rfl
   have hT : Shared.TypeIs { s with heap := s.heap.push (tM led) } (.ref s.heap.objs.size) "set" := ⟨_, hS, rfl⟩
   have m6 := PySem.F.called_set.init.lookup
   have m7 := PySem.F.called_set.init.bind (.ref s.heap.objs.size)
   repeat (any_goals (first | assumption | wp_step))
   refine codeAny_mono (codeAny_call_builtin (R := wants (fun r s2 => r = .none ∧ ∃ h' tk, s2 = { s with heap := h', toks := tk } ∧ h'.SetOf (aX P w) s.heap.objs.size (fun k => decide (k ∈ qJ ks)) (qJ ks).length ∧ (∀ b o, s.heap.get? b = some o → h'.get? b = some o)) E)
    PySem.F.called_set.init.plain PySem.F.entry_set_init (check_set_init_1 hT ?_)) fun r2 s2 hr2 => ?_
   ·obtain ⟨⟨oc, od, oda, osl⟩, hol, hcl, nl, hdl⟩ := hl
    simp only at hcl hdl
    subst hcl hdl
    have hol1 : (s.heap.push (tM led)).get? l = some { cls := .type "list", dict := od, data := .seq its.toArray nl, slots := osl } := Heap.get?_push_of_some _ hol
    have m8 := PySem.F.sub_list_set
    have m9 := PySem.F.sub_list_frozenset
    have m10 : (Value.type "list" == Value.type "dict") = false := by decide
    have hl1 : (s.heap.push (tM led)).IsList l its.toArray := ⟨_, hol1, rfl, nl, rfl⟩
    have lS : l < s.heap.objs.size := Heap.lt_size hol
    unfold Builtin.«set.__init__» noKeywords Builtin.Frozenset.updateFrom
    generalize hPI : pyIter = PI
    wp_walk
    subst hPI
    refine wpAny_pyIter_list hl1 (wpAny_bind (wpAny_runValue ?_))
    have hh3 : A.in1.in1.in1.handled = none := by simp [hh]
    have nI : l ≠ (s.heap.push (tM led)).objs.size := by rw [Heap.size_push]; exact Nat.ne_of_lt (Nat.lt_succ_of_lt lS)
    have nS : s.heap.objs.size ∉ [(s.heap.push (tM led)).objs.size, l] := by
     rw [Heap.size_push]
     simp only [List.mem_cons, List.mem_singleton, List.not_mem_nil, or_false, not_or]
     exact ⟨Nat.ne_of_lt (Nat.lt_succ_self _), Nat.ne_of_gt lS⟩
    have sz : its.toArray.size = ks.length := by rw [List.size_toArray, hn]
    refine aFE ((Walks.list hh3 _ l nI its.toArray).toS) s.heap.objs.size nS (fun i => ks.getD i (.inl 0)) (fun i v pv => hk i v (by simpa using pv)) (by rw [List.size_toArray]; exact hb) (fun _ _ _ _ => trivial) (its.toArray.size - 0) 0 _ (by omega) (Nat.zero_le _)
     ⟨⟨_, Heap.get?_push_size _ rfl, rfl, rfl⟩, (hl1.push _)⟩ ?_ ?_
    ·have g : ((s.heap.push (tM led)).push { cls := .type "list_iterator", data := .fields #[.ref l, .int 0 0] }).get? s.heap.objs.size = some (tM led) := Heap.get?_push_of_some _ hS
     exact ⟨_, #[], 0, _, g, ⟨rfl, rfl, rfl⟩, rfl, fun e he => by simp at he, fun k => by simp [eR], by decide, by rfl, rfl⟩
    ·intro s3 mv hS3
     obtain ⟨h3, g3, d3, t3, o3⟩ := s3
     have e1 : g3 = s.gens := mv.gens
     have e2 : d3 = s.drawn := mv.drawn
     have e3 : o3 = s.os := mv.os
     subst e1 e2 e3
     rw [sz] at hS3
     show wpAny _ _ _ _ _ _
     refine wpAny_pure ?_
     show wpAny _ _ (ret Value.none) _ _ _
     refine wpAny_pure ⟨rfl, h3, t3, rfl, hS3, fun b o e => ?_⟩
     have lb := Heap.lt_size e
     have b1 : b ≠ s.heap.objs.size := Nat.ne_of_lt lb
     have b2 : b ≠ (s.heap.push (tM led)).objs.size := by rw [Heap.size_push]; exact Nat.ne_of_lt (Nat.lt_succ_of_lt lb)
     exact mv.heap b o (by simp only [List.mem_cons, List.mem_singleton, List.not_mem_nil, or_false, not_or]; exact ⟨b1, b2⟩) (Heap.get?_push_of_some _ (Heap.get?_push_of_some _ e))
   ·cases r2 with
    | error e => exact hr2
    | ok f2 =>
     cases f2 with
     | ret r =>
      obtain ⟨rfl, h', tk, rfl, hS2, hk2⟩ := hr2
      repeat (any_goals (first | assumption | wp_step))
      exact h _ _ hS2 hk2
     | _ => exact hr2.elim
  | _ => exact hr.elim
end
section
variable {X : Cx}
theorem aCC {P : Program} {w : World} : ∀ {ks : List Key} {us : List Value}, bK (ks.map kV) us → ∀ i v, us[i]? = some v → (aX P w).is (ks.getD i (.inl 0)) v = true
 | [], us, r, i, v, e => by
  rw [List.map_nil] at r
  cases r
  simp at e
 | k :: ks, us, r, i, v, e => by
  rw [List.map_cons] at r
  cases r with
  | cons r1 r2 =>
   cases i with
   | zero =>
    simp at e
    subst e
    cases k with
    | inl z => obtain ⟨t, rfl⟩ := r1; exact qD z t
    | inr z => obtain ⟨t, rfl⟩ := r1; exact qC z t
   | succ i =>
    have := aCC (P := P) (w := w) r2 i v (by simpa using e)
    simpa using this
theorem oF (hc : X.calm = true) : hG X (.type "set") (fun xs H Q => ∃ (p : Addr) (ks : List Key), xs = [.ref p] ∧ SqL X.K H p (ks.map kV) ∧ ks.length ≤ 1000 ∧
  ∀ l, H l = none → Q (.ref l) (upd H l (aAV X.prog X.w l (fun k => decide (k ∈ qJ ks)) (qJ ks).length))) := by
 intro pins s σ H xs us Q I r h
 obtain ⟨p, ks, rfl, hq, hn, q⟩ := h
 obtain ⟨u, rfl, ru⟩ := bK.one r
 cases ru
 obtain ⟨its, rv, pl, hz⟩ := I.list hq
 have hlen := rv.length
 rw [List.length_map] at hlen
 refine xX (ks := ks) (I.ok.hd hc) pl.isList (aCC rv) hlen.symm (by unfold scanBound; omega) fun h' tk hS hk => ?_
 exact ⟨.ref s.heap.objs.size, _, I.laid (t' := tk) hk (Nat.le_refl _) (aAV.ok hS), rfl, q _ (I.hok.fresh (Nat.le_refl _))⟩
theorem call_len_set : hG X (.builtin "len") (fun xs H Q => ∃ l S n, xs = [.ref l] ∧ H l = some (aAV X.prog X.w l S n) ∧ n ≤ 1000 ∧ Q (.int n) H) := by
 intro pins s σ H xs us Q I r h
 obtain ⟨l, S, n, rfl, e, hn, q⟩ := h
 obtain ⟨u, rfl, ru⟩ := bK.one r
 cases ru
 obtain ⟨⟨o, es, ep, t, ho, hex, hd, hel, hmem, hb, hf, hes⟩, _⟩ := I.hok l _ e
 refine PySem.call_len_set ho hex hd hf (by rw [hes]; omega) ⟨.int n, H, I.tok _, ⟨s.toks + 1, by rw [hes]⟩, q⟩
end
end L2
namespace L2
open PySem PySem.Spec PyProof.Rows
section
variable {X : Cx}
theorem vJ {k : Key} {v : Value} (h : tQ k v = true) : bI (kV k) v := by
 rcases cT h with ⟨i, t, rfl, rfl⟩ | ⟨x, t, rfl, rfl⟩
 ·exact ⟨t, rfl⟩
 ·exact ⟨t, rfl⟩
theorem rN : ∀ {xs : List V} {us : List Value}, us.length = xs.length → (∀ (j : Nat) (u : Value) (x : V), us[j]? = some u → xs[j]? = some x → bI x u) → bK xs us
 | [], [], _, _ => .nil
 | x :: xs, u :: us, hl, h => .cons (h 0 u x rfl rfl) (rN (by simpa using hl) fun j v y e1 e2 => h (j + 1) v y (by simpa using e1) (by simpa using e2))
 | [], _ :: _, hl, _ => by simp at hl
 | _ :: _, [], hl, _ => by simp at hl
theorem KV.get : ∀ {kvs : List (Key × V)} {vs : List (Key × Value)} {i : Nat} {p : Key × Value}, KV kvs vs → vs[i]? = some p → ∃ q, kvs[i]? = some q ∧ q.1 = p.1 ∧ bI q.2 p.2
 | _, _, _, _, .nil, e => by simp at e
 | _, _, 0, _, .cons r _, e => by simp at e; subst e; exact ⟨_, rfl, r.1, r.2⟩
 | _, _, i + 1, p, .cons _ t, e => by
  obtain ⟨q, h1, h2⟩ := KV.get (i := i) (p := p) t (by simpa using e)
  exact ⟨q, by simpa using h1, h2⟩
theorem uJ (hc : X.calm = true) : hG X (.type "list") (fun xs H Q => ∃ p kvs, xs = [.ref p] ∧ Rd H p (.dK kvs) ∧ ∀ l, H l = none → Q (.ref l) (upd H l (.lst (kvs.map fun kv => kV kv.1)))) := by
 intro pins s σ H xs us Q I r h
 obtain ⟨p, kvs, rfl, hq, q⟩ := h
 obtain ⟨u, rfl, ru⟩ := bK.one r
 cases ru
 obtain ⟨hz, lo, vs, kv, hD⟩ := hq.ok I.hok
 obtain ⟨ep, hat⟩ := hD.dictAt
 have hl := KV.length kv
 refine PySem.W.kdl_call (PySem.W.kdl_dict (knd := aX X.prog X.w) (kvs := vs) (ep := ep) lo) (I.ok.hd hc) hat (by omega) fun h' tk acc c hk hg hi => ?_
 refine ⟨.ref s.heap.objs.size, _, I.laid (t' := tk) hk (Nat.le_refl _) (show cW X.prog X.w _ h' _ (.lst (kvs.map fun kv => kV kv.1)) from ⟨by rw [List.length_map]; exact hz, acc.toList, c, ?_, by simpa using hg⟩), rfl, q _ (I.hok.fresh (Nat.le_refl _))⟩
 refine rN (by rw [List.length_map, Array.length_toList, hi.1, hl]) fun j u x e1 e2 => ?_
 obtain ⟨k, y, e3, e4⟩ := hi.2 j u (by rw [← Array.getElem?_toList]; exact e1)
 obtain ⟨z, e5, e6, _⟩ := KV.get kv e3
 rw [List.getElem?_map, e5] at e2
 have e2' : kV z.1 = x := by simpa using e2
 subst e2'
 rw [show z.1 = k from e6]
 exact vJ e4
def zI (v d : Addr) : HO := .ext fun h => h.IsValuesView v d
theorem zI.ok {P : Program} {w : World} {H : Hp} {h : Heap} {v d : Addr} (x : h.IsValuesView v d) : cW P w H h v (zI v d) :=
 ⟨x, let ⟨o, ho, _⟩ := x; ⟨o, ho⟩, fun _ _ ⟨o, ho, r⟩ k => ⟨o, k o ho, r⟩⟩
theorem aDK : MtR X "dict.values" (fun x vs H Q => ∃ d kvs, x = .ref d ∧ vs = [] ∧ Rd H d (.dK kvs) ∧ ∀ v, H v = none → Q (.ref v) (upd H v (zI v d))) := by
 intro pins s σ H x vs v us Q I rx rv h
 obtain ⟨d, kvs, rfl, rfl, hq, q⟩ := h
 cases rx
 have hus := rv.zero
 subst hus
 obtain ⟨hz, lo, ws, kv, hD⟩ := hq.ok I.hok
 refine call_meetsIn PySem.F.slot_dict_values hD.typeIs PySem.F.entry_dict_values (PySem.F.args_dict_values_1 _) (meets_dict_values (aX X.prog X.w) d lo) ⟨⟨ws, hD⟩, ?_⟩
 exact ⟨.ref s.heap.objs.size, _, I.laid (t' := s.toks) (fun b ob e => Heap.get?_push_of_some _ e) (Nat.le_refl _) (zI.ok ⟨_, Heap.get?_push_size _ rfl, rfl, rfl⟩), rfl, q _ (I.hok.fresh (Nat.le_refl _))⟩
theorem qL (hc : X.calm = true) : hG X (.type "list") (fun xs H Q => ∃ v d kvs, xs = [.ref v] ∧ H v = some (zI v d) ∧ Rd H d (.dK kvs) ∧ ∀ l, H l = none → Q (.ref l) (upd H l (.lst (kvs.map (·.2))))) := by
 intro pins s σ H xs us Q I r h
 obtain ⟨v, d, kvs, rfl, ev, hq, q⟩ := h
 obtain ⟨u, rfl, ru⟩ := bK.one r
 cases ru
 obtain ⟨hz, lo, vs, kv, hD⟩ := hq.ok I.hok
 obtain ⟨hv, _⟩ := I.hok v _ ev
 obtain ⟨ep, hat⟩ := hD.dictAt
 have hl := KV.length kv
 refine PySem.W.kdl_call (PySem.W.kdl_values (knd := aX X.prog X.w) (kvs := vs) (ep := ep)) (I.ok.hd hc) ⟨hv, hat⟩ (by omega) fun h' tk acc c hk hg hi => ?_
 refine ⟨.ref s.heap.objs.size, _, I.laid (t' := tk) hk (Nat.le_refl _) (show cW X.prog X.w _ h' _ (.lst (kvs.map (·.2))) from ⟨by rw [List.length_map]; exact hz, acc.toList, c, ?_, by simpa using hg⟩), rfl, q _ (I.hok.fresh (Nat.le_refl _))⟩
 refine rN (by rw [List.length_map, Array.length_toList, hi.1, hl]) fun j u x e1 e2 => ?_
 obtain ⟨k, e3⟩ := hi.2 j u (by rw [← Array.getElem?_toList]; exact e1)
 obtain ⟨z, e5, _, e6⟩ := KV.get kv e3
 rw [List.getElem?_map, e5] at e2
 have e2' : z.2 = x := by simpa using e2
 subst e2'
 exact e6
end
section
variable {X : Cx} {e se : Expr} {te ts : TE} {p2 pos : Pos}
end
end L2
namespace L2
open PySem PySem.Spec PyProof.Rows
theorem tN : typeLookup (.type "list") "keys" = pure none := by rw [typeLookup_type, builtinLookup_eq_fast]; kernel_rfl
section
variable {P : Program} {w : World} {A : Around} {E : Value → Shared → Prop} {s : Shared}
theorem wU {a : Addr} {xs : Array Value} {k : Nat} {sl : Array (Option Value)} {Q : Option Value → Shared → Prop} (hA : A.handled = none) (hx : s.heap.get? a = some { cls := .type "list", dict := none, data := .seq xs k, slots := sl })
  (h : ∀ h' tk, (∀ b o, s.heap.get? b = some o → h'.get? b = some o) → Q none { s with heap := h', toks := tk }) : wpAny (model P w) A (getAttr? (.ref a) "keys") Q E s := by
 obtain ⟨hp, g, d, tk, os⟩ := s
 have hT : ∀ tk', (⟨hp, g, d, tk', os⟩ : Shared).TypeIs (.ref a) "list" := fun _ => ⟨_, hx, rfl⟩
 have f1 := sub_AttributeError
 have f3 := F.slot_list_getattribute.lookup
 have f4 := F.slot_list_getattribute.bind (.ref a)
 have f5 := am_list_getattr_none
 unfold getAttr? getAttrBy? getAttrBy
 repeat (any_goals (first | assumption | exact hT _ | ((with_reducible show wpAny _ _ (call (Value.builtin "list.__getattribute__") _ _) _ _ _); refine call_meets F.slot_list_getattribute (hT _) am_entry_list_getattribute (F.args_list_getattribute_2 _ _) (meets_getattribute_miss_list a xs k sl "keys" _ tN (by decide +kernel)) ⟨hx, hA, fun h' tk' e hx' => ?_⟩) | wp_step))
 obtain ⟨t', u', he⟩ := hx'.there
 show wpAny _ _ (getattributeRaised _ _ _ _ _ _ _) _ _ _
 unfold getattributeRaised
 repeat (any_goals (first | assumption | wp_step))
 exact h _ _ hx'.keeps
end
theorem mO : entryFor table "dict.update.loop" = some Builtin.«dict.update.loop» := entryFor_of_tree (by kernel_rfl)
theorem hJ : plainId "dict.update.loop" = true := by decide +kernel
section
variable {P : Program} {w : World} {A : Around} {R : Result → Shared → Prop} {I : Addr} {fp wr : List Addr} {G : Array GenState → Array GenState → Prop} {n : Nat} {Pv : Nat → Value → Prop} {Stt : Nat → Shared → Prop}
theorem aDW (W : WalksS P w A.in1 I fp wr G n Pv Stt) (D : Addr) (hD : D ∉ fp) (res : Value) (kvs : List (Key × Value)) (hn : kvs.length = n) (hz : n ≤ sizeLine) (s₀ : Shared)
  (hv : ∀ (i : Nat) (v : Value), Pv i v → ∃ (a : Addr) (k : Key) (kv x : Value) (ob : Obj) (c : Nat), v = .ref a ∧ a ∉ D :: wr ∧ s₀.heap.get? a = some ob ∧ ob.cls = .type "tuple" ∧ ob.data = .seq #[kv, x] c ∧ kvs[i]? = some (k, x) ∧ (aX P w).is k kv = true) :
  ∀ (m i : Nat) (s : Shared), n - i = m → i ≤ n → Stt i s → (∀ b o, b ∉ D :: wr → s₀.heap.get? b = some o → s.heap.get? b = some o) → s.heap.DictOf (aX P w) D (merged [] (kvs.take i)) →
   (∀ s', Moved (D :: wr) G s s' → s'.heap.DictOf (aX P w) D (merged [] kvs) → R (.ok (.ret res)) s') →
   codeAny (model P w) A (.builtin "dict.update.loop" ⟨[.ref D, .ref I, rawInt i, res], []⟩) R s := by
 have hDw : D ∉ wr := fun z => hD (W.sub _ z)
 have sub : ∀ b ∈ wr, b ∈ D :: wr := fun b z => List.mem_cons_of_mem _ z
 have moved : ∀ {s s' : Shared} {l : List (Key × Value)}, Moved wr G s s' → s.heap.DictOf (aX P w) D l → s'.heap.DictOf (aX P w) D l := fun mv ⟨o, es, ep, ho, r⟩ => ⟨o, es, ep, mv.heap D _ hDw ho, r⟩
 intro m
 induction m with
 | zero =>
  intro i s e1 e2 st kp hS hR
  obtain rfl : i = n := by omega
  rw [List.take_of_length_le (by omega)] at hS
  refine codeAny_builtin mO ?_
  rw [Around.under_plainId hJ _]
  show wpAny _ A.in1 (pyNext (.ref I) >>= _) _ _ s
  refine wpAny_bind (W.done s _ _ st fun s' mv => ?_)
  show wpAny _ A.in1 (Builtin.Dict.addKeywords D [] >>= _) _ _ s'
  refine wpAny_bind (wpAny_pure ?_)
  exact wpAny_pure (hR s' (mv.mono sub) (moved mv hS))
 | succ m ih =>
  intro i s e1 e2 st kp hS hR
  have lt : i < n := by omega
  refine codeAny_builtin mO ?_
  rw [Around.under_plainId hJ _]
  show wpAny _ A.in1 (pyNext (.ref I) >>= _) _ _ s
  refine wpAny_bind (W.item i s _ _ lt st fun v s' pv st' mv => ?_)
  obtain ⟨a, k, kv, x, ob, c, rfl, ha, hg, hc, hd, hi, hk⟩ := hv i v pv
  have hS1 := moved mv hS
  have hg1 : s'.heap.get? a = some ob := mv.heap a ob (fun z => ha (sub a z)) (kp a ob ha hg)
  have hT : s'.TypeIs (.ref a) "tuple" := ⟨ob, hg1, hc⟩
  refine wpAny_bind (wpAny_holding (wpAny_bind (wpAny_tryCatch ?_)))
  unfold Builtin.Dict.pairItems
  refine wpAny_bind (wpAny_typeOf hT ?_)
  rw [if_pos (by decide)]
  refine wpAny_bind (wpAny_seqItems hg1 hd (wpAny_pure ?_))
  show wpAny _ _ (holding [kv, x] (dictSet D kv x)) _ _ s'
  refine wpAny_holding (wpAny_dictSet_pairs hk hS1 (fun h' hS2 sb => ?_) ?_)
  ·have e : merged [] (kvs.take (i + 1)) = stored (merged [] (kvs.take i)) k x := merged_take_succ [] kvs i (k, x) hi
   rw [← e] at hS2
   refine wpAny_pure ⟨plainId_quiet hJ _, ih (i + 1) _ (by omega) lt (W.frame _ s' _ _ st' (Nat.le_succ _) fun b hb o e => ?_) (fun b o hb e => ?_) hS2 fun s2 mv2 hS4 => ?_⟩
   ·rw [sb.2 b (fun z : b = D => hD (by rw [← z]; exact hb))]
    exact e
   ·rw [sb.2 b (fun z : b = D => hb (by rw [z]; exact List.mem_cons_self))]
    exact mv.heap b o (fun z => hb (sub b z)) (kp b o hb e)
   ·refine hR s2 (Moved.trans W.gtrans ((mv.mono sub).then_heap (Nat.le_succ _) fun b o hb e => ?_) mv2) hS4
    rw [sb.2 b (fun z : b = D => hb (by rw [z]; exact List.mem_cons_self))]
    exact e
  ·have := merged_length_le ([] : List (Key × Value)) (kvs.take i)
   rw [List.length_take] at this
   simp only [List.length_nil] at this
   omega
end
section
variable {P : Program} {w : World} {A : Around} {E : Value → Shared → Prop} {s : Shared}
theorem uW {l : Addr} {its : List Value} {kvs : List (Key × Value)} {Q : Value → Shared → Prop} (hh : A.handled = none) (hl : PlainL s.heap l its.toArray) (hn : its.length = kvs.length) (hz : its.length ≤ sizeLine)
  (hv : ∀ (i : Nat) (v : Value), its[i]? = some v → ∃ (a : Addr) (k : Key) (kv x : Value) (ob : Obj) (c : Nat), v = .ref a ∧ s.heap.get? a = some ob ∧ ob.cls = .type "tuple" ∧ ob.data = .seq #[kv, x] c ∧ kvs[i]? = some (k, x) ∧ (aX P w).is k kv = true)
  (h : ∀ (h' : Heap) (tk : Nat), h'.DictOf (aX P w) s.heap.objs.size (merged [] kvs) → (∀ b o, s.heap.get? b = some o → h'.get? b = some o) → Q (.ref s.heap.objs.size) { s with heap := h', toks := tk }) :
  wpAny (model P w) A (call (.type "dict") [.ref l]) Q E s := by
 refine callType_codes (Q₁ := fun (obj : Value) (s₁ : Shared) => obj = Value.ref s.heap.objs.size ∧ s₁ = { s with heap := s.heap.push { cls := .type "dict", data := .dict #[] } }) F.kt_called_dict (F.kt_typeCall_dict_1 _) F.entry_dict_init (kt_code_dict_new _ ⟨rfl, rfl⟩) ?_
 rintro obj s₁ ⟨rfl, rfl⟩
 have hnew : (s.heap.push { cls := .type "dict", data := .dict #[] }).DictOf (aX P w) s.heap.objs.size [] := Heap.DictOf.new s.heap
 obtain ⟨⟨oc, od, oda, osl⟩, nl, hol, hcl, hod, hdl⟩ := id hl
 simp only at hcl hod hdl
 subst hcl hod hdl
 have lS : l < s.heap.objs.size := Heap.lt_size hol
 have hol1 := Heap.get?_push_of_some (h := s.heap) { cls := .type "dict", data := .dict #[] } hol
 refine ⟨hnew.typeIs, F.args_dict_init_2 _ _, ?_⟩
 unfold Builtin.«dict.__init__»
 refine wpAny_bind ?_
 unfold Builtin.Dict.selfAndRest
 refine wpAny_bind (wpAny_notOrdered_dict hnew.typeIs ?_)
 show wpAny _ _ (pure (s.heap.objs.size, [Value.ref l])) _ _ _
 refine wpAny_pure ?_
 show wpAny _ _ (Builtin.Dict.updateFrom "dict.__init__" s.heap.objs.size (.ref l) [] .none) _ _ _
 unfold Builtin.Dict.updateFrom
 refine wpAny_bind (wpAny_typeOf (T := "list") ⟨_, hol1, rfl⟩ ?_)
 rw [if_pos (by decide)]
 refine wpAny_bind (wU (by simp [hh]) hol1 fun h1 t1 k1 => ?_)
 show wpAny _ _ (rule _ >>= _) _ _ _
 refine wpAny_bind (wpAny_rule ?_)
 have hol2 := k1 _ _ hol1
 have hl2 : h1.IsList l its.toArray := ⟨_, hol2, rfl, nl, rfl⟩
 refine wpAny_bind (wpAny_pyIter_list (s := { s with heap := h1, toks := t1 }) hl2 ?_)
 have sz1 : s.heap.objs.size < h1.objs.size := by
  obtain ⟨o, es, ep, ho, _⟩ := hnew
  exact Heap.lt_size (k1 _ _ ho)
 have nI : l ≠ h1.objs.size := Nat.ne_of_lt (Heap.lt_size hol2)
 have nD : s.heap.objs.size ∉ [h1.objs.size, l] := by
  simp only [List.mem_cons, List.mem_singleton, List.not_mem_nil, or_false, not_or]
  exact ⟨Nat.ne_of_lt sz1, Nat.ne_of_gt lS⟩
 refine wpAny_pure ⟨plainId_quiet hJ _, ?_⟩
 have hh2 : A.in1.in1.handled = none := by simp [hh]
 refine aDW ((Walks.list hh2 _ l nI its.toArray).toS) s.heap.objs.size nD .none kvs (by rw [List.size_toArray, hn]) (by rw [List.size_toArray]; exact hz) { s with heap := h1.push { cls := .type "list_iterator", data := .fields #[.ref l, .int 0 0] }, toks := t1 } (fun i v pv => ?_) (its.toArray.size - 0) 0 _ (by omega) (Nat.zero_le _)
  ⟨⟨_, Heap.get?_push_size _ rfl, rfl, rfl⟩, (hl2.push _)⟩ (fun _ _ _ e => e) ?_ ?_
 ·obtain ⟨a, k, kv, x, ob, c, rfl, hg, hc, hd, hi, hk⟩ := hv i v (by simpa using pv)
  have la := Heap.lt_size hg
  refine ⟨a, k, kv, x, ob, c, rfl, ?_, Heap.get?_push_of_some _ (k1 _ _ (Heap.get?_push_of_some _ hg)), hc, hd, hi, hk⟩
  simp only [List.mem_cons, List.mem_singleton, List.not_mem_nil, or_false, not_or]
  exact ⟨Nat.ne_of_lt la, Nat.ne_of_lt (Nat.lt_trans la sz1)⟩
 ·obtain ⟨o, es, ep, ho, r⟩ := hnew
  exact ⟨o, es, ep, Heap.get?_push_of_some _ (k1 _ _ ho), r⟩
 ·intro s3 mv hS3
  obtain ⟨h3, g3, d3, t3, o3⟩ := s3
  have e1 : g3 = s.gens := mv.gens
  have e2 : d3 = s.drawn := mv.drawn
  have e3 : o3 = s.os := mv.os
  subst e1 e2 e3
  refine ⟨rfl, h h3 t3 hS3 fun b o e => ?_⟩
  have lb := Heap.lt_size e
  refine mv.heap b o ?_ (Heap.get?_push_of_some _ (k1 _ _ (Heap.get?_push_of_some _ e)))
  simp only [List.mem_cons, List.mem_singleton, List.not_mem_nil, or_false, not_or]
  exact ⟨Nat.ne_of_lt lb, Nat.ne_of_lt (Nat.lt_trans lb sz1)⟩
end
def bV (H : Hp) (ys : List V) (kvs : List (Key × V)) : Prop := Paired (fun (y : V) (kv : Key × V) => ∃ a, y = .ref a ∧ H a = some (.tup [kV kv.1, kv.2])) ys kvs
theorem bV.nil (H : Hp) : bV H [] [] := Paired.nil
theorem bV.len {H : Hp} {ys : List V} {kvs : List (Key × V)} (h : bV H ys kvs) : ys.length = kvs.length := Paired.length h
theorem bV.same {H H' : Hp} (S : aI H H') : ∀ {ys : List V} {kvs : List (Key × V)}, bV H ys kvs → bV H' ys kvs
 | _, _, Paired.nil => Paired.nil
 | _, _, Paired.cons ⟨a, e, o⟩ t => Paired.cons ⟨a, e, S _ _ o⟩ (bV.same S t)
theorem bV.snoc {H : Hp} {ys : List V} {kvs : List (Key × V)} {p : Addr} {k : Key} {v : V} (h : bV H ys kvs) (hp : H p = none) : bV (upd H p (.tup [kV k, v])) (ys ++ [.ref p]) (kvs ++ [(k, v)]) :=
 Paired.snoc (h.same (aI.upd hp)) ⟨p, rfl, aB⟩
section
variable {X : Cx}
theorem aHR {P : Program} {w : World} {k : Key} {u : Value} (r : bI (kV k) u) : (aX P w).is k u = true := by
 cases k with
 | inl z => obtain ⟨t, rfl⟩ := r; exact qD z t
 | inr z => obtain ⟨t, rfl⟩ := r; exact qC z t
theorem pK {pins : List (Addr × Obj)} {σ : St} {H : Hp} {s : Shared} (I : Inv X pins σ H s) : ∀ {ys : List V} {kvs : List (Key × V)} {its : List Value}, bV H ys kvs → bK ys its →
  ∃ vk : List (Key × Value), KV kvs vk ∧ its.length = vk.length ∧ ∀ (i : Nat) (v : Value), its[i]? = some v → ∃ (a : Addr) (k : Key) (kv x : Value) (ob : Obj) (c : Nat), v = .ref a ∧ s.heap.get? a = some ob ∧ ob.cls = .type "tuple" ∧ ob.data = .seq #[kv, x] c ∧ vk[i]? = some (k, x) ∧ (aX X.prog X.w).is k kv = true
 | _, _, _, Paired.nil, Paired.nil => ⟨[], Paired.nil, rfl, fun i v e => by simp at e⟩
 | _, (k, v0) :: kvs, u :: its, Paired.cons ⟨a, e, o⟩ t, Paired.cons r rs => by
  obtain ⟨vk, h1, h2, h3⟩ := pK I t rs
  subst e
  cases r
  obtain ⟨tis, rt, ⟨ob, g, hc, c, hd⟩, _⟩ := I.tuple (SqT.of o)
  obtain ⟨ku, xu, rfl, rk, rx⟩ := bK.two rt
  refine ⟨(k, xu) :: vk, Paired.cons ⟨rfl, rx⟩ h1, by simp [h2], fun i v e => ?_⟩
  cases i with
  | zero =>
   simp at e
   subst e
   exact ⟨a, k, ku, xu, ob, c, rfl, g, hc, hd, rfl, aHR rk⟩
  | succ i =>
   obtain ⟨a', k', kv', x', ob', c', q⟩ := h3 i v (by simpa using e)
   exact ⟨a', k', kv', x', ob', c', by simpa using q⟩
theorem cZ (hc : X.calm = true) : hG X (.type "dict") (fun xs H Q => ∃ (p : Addr) (ys : List V) (kvs : List (Key × V)), xs = [.ref p] ∧ SqL X.K H p ys ∧ bV H ys kvs ∧ kvs.length ≤ 1000 ∧ (kvs.map (·.1)).Nodup ∧ ∀ l, H l = none → Q (.ref l) (upd H l (.dK kvs))) := by
 intro pins s σ H xs us Q I r h
 obtain ⟨p, ys, kvs, rfl, hq, hp, hn, nd, q⟩ := h
 obtain ⟨u, rfl, ru⟩ := bK.one r
 cases ru
 obtain ⟨its, rv, pl, hz⟩ := I.list hq
 obtain ⟨vk, kv, el, hv⟩ := pK I hp rv
 have big : (1000 : Nat) ≤ sizeLine := by decide
 have l1 := KV.length kv
 have ek : vk.map (·.1) = kvs.map (·.1) := (KV.keys kv).symm
 refine uW (kvs := vk) (I.ok.hd hc) pl el (by omega) hv fun h' tk hD hk => ?_
 rw [merged_nil_of_nodup vk (by rw [ek]; exact nd)] at hD
 refine ⟨.ref s.heap.objs.size, _, I.laid (t' := tk) hk (Nat.le_refl _) (show cW X.prog X.w _ h' _ (.dK kvs) from ⟨by omega, ?_, vk, kv, hD⟩), rfl, q _ (I.hok.fresh (Nat.le_refl _))⟩
 have b := I.big
 exact beq_eq_false_iff_ne.mpr (Nat.ne_of_gt b)
end
end L2
namespace L2
open PySem PySem.Spec PyProof.Rows
structure MethAt (K : PySem.W.Frag) (C : Addr) (m qual : Str) (st : Stmt) (ps : List Str) : Prop where
 ex : ∃ (f : Addr) (fd : FuncData), Fun K m qual st f fd ∧ iC K fd ps [] ∧ Meth K C m f
structure InitAt (K : PySem.W.Frag) (C : Addr) (qual : Str) (st : Stmt) (ps : List Str) : Prop where
 ex : ∃ (f : Addr) (fd : FuncData), Fun K "__init__" qual st f fd ∧ iC K fd ps [] ∧ Mk K C f
structure Mc (P : Program) (w : World) (K : PySem.W.Frag) (mg : Str → Option Value) (base : Heap) (k : Nat) (C : Addr) (m : Str) (ps : List Str) (sp : Sp) : Prop where
 ex : ∃ (f : Addr) (fd : FuncData), FnOk P w K mg base CX0 k f fd ps sp ∧ iC K fd ps [] ∧ Meth K C m f
structure Ic (P : Program) (w : World) (K : PySem.W.Frag) (mg : Str → Option Value) (base : Heap) (k : Nat) (C : Addr) (ps : List Str) (sp : Sp) : Prop where
 ex : ∃ (f : Addr) (fd : FuncData), FnOk P w K mg base CX0 k f fd ps sp ∧ iC K fd ps [] ∧ Mk K C f
section
variable {P : Program} {w : World} {K : PySem.W.Frag} {mg : Str → Option Value} {base : Heap} {C : Addr} {m qual : Str} {st : Stmt} {N ps : List Str} {k : Nat} {sp : Sp}
theorem MethAt.mc (D : MethAt K C m qual st ps) (S : FnScope N ps (aF st)) (len : ∀ vs H Q E, sp vs H Q E → vs.length = ps.length)
  (hbody : ∀ (f : Addr) (cdv : Value) (A : Around) (outer : List Env) (s : Shared) (H : Hp) (vs : List V) (Q : VK) (E : XK), Room k (A.deeper (envOfC qual (aF st) s.heap.objs.size f cdv)) → sp vs H Q E →
   ∃ t, PSs (uE CX0 P w K mg base N qual (aF st) f cdv A outer s H E).nox (aL st) t ∧ t { nx := fun _ H' => Q .non H', rt := Q } (kX N vs) H) : Mc P w K mg base (k + 1) C m ps sp := by
 obtain ⟨f, fd, F, b, mm⟩ := D.ex
 exact ⟨f, fd, F.ok S len fun cdv A outer s H vs Q E hr h => hbody f cdv A outer s H vs Q E hr h, b, mm⟩
theorem InitAt.ic (D : InitAt K C qual st ps) (S : FnScope N ps (aF st)) (len : ∀ vs H Q E, sp vs H Q E → vs.length = ps.length)
  (hbody : ∀ (f : Addr) (cdv : Value) (A : Around) (outer : List Env) (s : Shared) (H : Hp) (vs : List V) (Q : VK) (E : XK), Room k (A.deeper (envOfC qual (aF st) s.heap.objs.size f cdv)) → sp vs H Q E →
   ∃ t, PSs (uE CX0 P w K mg base N qual (aF st) f cdv A outer s H E).nox (aL st) t ∧ t { nx := fun _ H' => Q .non H', rt := Q } (kX N vs) H) : Ic P w K mg base (k + 1) C ps sp := by
 obtain ⟨f, fd, F, b, mm⟩ := D.ex
 exact ⟨f, fd, F.ok S len fun cdv A outer s H vs Q E hr h => hbody f cdv A outer s H vs Q E hr h, b, mm⟩
theorem Mc.imp {sp' : Sp} (F : Mc P w K mg base k C m ps sp) (h : ∀ vs H Q E, sp' vs H Q E → sp vs H Q E) : Mc P w K mg base k C m ps sp' := by
 obtain ⟨f, fd, G, b, mm⟩ := F.ex
 exact ⟨f, fd, G.imp h, b, mm⟩
theorem eG {f : Addr} {oc : Value} {od an : Option Addr} {osl : Array (Option Value)} {kV doc pm cdv ct : Value} (a : PySem.W.findIn K (.ref C) m = some (some (.ref f))) (i : PySem.W.isFn K (.ref f) = true)
  (l : K.lookup f = some ⟨oc, od, .func (PySem.W.fnOf m qual (aM st) (aL st) (aF st) .none kV doc pm an cdv ct), osl⟩) (c : PySem.W.codeIn K cdv qual = true) (kp : PySem.W.keepIn K (.ref f) = true)
  (hb : ∀ (kV doc pm : Value) (an : Option Addr) (cdv ct : Value) (us : List Value), us.length = ps.length → bindArgs (PySem.W.fnOf m qual (aM st) (aL st) (aF st) .none kV doc pm an cdv ct) ⟨us, []⟩ = pure (ps.zip us)) : MethAt K C m qual st ps :=
 ⟨f, _, qF l c kp, (qF l c kp).binds hb, ⟨a, i, kp⟩⟩
theorem aCD {f : Addr} {oc : Value} {od an : Option Addr} {osl : Array (Option Value)} {kV doc pm cdv ct : Value} (a : PySem.W.findIn K (.ref C) "__init__" = some (some (.ref f))) (i : PySem.W.isFn K (.ref f) = true)
  (l : K.lookup f = some ⟨oc, od, .func (PySem.W.fnOf "__init__" qual (aM st) (aL st) (aF st) .none kV doc pm an cdv ct), osl⟩) (c : PySem.W.codeIn K cdv qual = true) (kp : PySem.W.keepIn K (.ref f) = true)
  (mk : PySem.W.makesIn K C = true) (kc : PySem.W.keepIn K (.ref C) = true)
  (hb : ∀ (kV doc pm : Value) (an : Option Addr) (cdv ct : Value) (us : List Value), us.length = ps.length → bindArgs (PySem.W.fnOf "__init__" qual (aM st) (aL st) (aF st) .none kV doc pm an cdv ct) ⟨us, []⟩ = pure (ps.zip us)) : InitAt K C qual st ps :=
 ⟨f, _, qF l c kp, (qF l c kp).binds hb, ⟨mk, a, i, kc⟩⟩
end
section
variable {X : Cx} {k : Nat} {ps : List Str} {sp : Sp} {x m : Str} {p pos apos : Pos} {o e : Expr} {es : List Expr} {ta : TE} {t : TA} {C : Addr}
theorem uS {pl : Sem Bool} (c : Cls X.K C) (F : Mc X.prog X.w X.K X.mg X.base k C m ps sp) (hr : Room k X.A) (ho : PE X o ta) (ha : PA X (e :: es) t)
  (hst : starEach (e :: es) X.env = (false, eval e X.env) :: starEach es X.env := by rfl) (hpl : (backTo pos (starEach es X.env)).any (·.1) = false := by rfl)
  (ht : eval (.Call (.Attribute o m apos) (e :: es) [] pos) X.env = (do
   let ov ← eval o X.env
   standAt apos.atName
   let (f, first) ← holding [ov] (getMethod ov m pl)
   callWith pos f first (backTo pos (starEach (e :: es) X.env)) (backToKw pos (keywordEach [] X.env))) := by rfl) :
  PE X (.Call (.Attribute o m apos) (e :: es) [] pos) (aBE C m sp [] E0 ta t) := by
 obtain ⟨f, fd, G, b, mm⟩ := F.ex
 exact aHV (pl := pl) ho c mm G hr b .nil aBX ha hst hpl ht
theorem jD {pl : Sem Bool} (c : Cls X.K C) (F : Mc X.prog X.w X.K X.mg X.base k C m ps sp) (hr : Room k X.A) (ho : PE X o ta)
  (ht : eval (.Call (.Attribute o m apos) [] [] pos) X.env = (do
   let ov ← eval o X.env
   standAt apos.atName
   let (f, first) ← holding [ov] (getMethod ov m pl)
   callWith pos f first (backTo pos (starEach [] X.env)) (backToKw pos (keywordEach [] X.env))) := by rfl) :
  PE X (.Call (.Attribute o m apos) [] [] pos) (aBE C m sp [] E0 ta aJP) := by
 obtain ⟨f, fd, G, b, mm⟩ := F.ex
 exact aFP (pl := pl) ho c mm G hr b .nil aBX ht
theorem aJI (hm : X.mg x = some (.ref C)) (F : Ic X.prog X.w X.K X.mg X.base k C ps sp) (hr : Room (k + 1) X.A) (ha : PA X (e :: es) t) (hg : Gl X x := by rfl) (hdb : (x == ("__debug__" : Str)) = false := by decide)
  (he : starEach (e :: es) X.env = (false, eval e X.env) :: starEach es X.env := by rfl) (hpl : (backTo pos (starEach es X.env)).any (·.1) = false := by rfl) :
  PE X (.Call (.Name x p) (e :: es) [] pos) (aIW C sp [] E0 t) := by
 obtain ⟨f, fd, G, b, mm⟩ := F.ex
 exact aHW mm G hr hg hm b .nil aBX ha hdb he hpl
end
section
variable {X : Cx} {K : PySem.W.Frag}
theorem aQ (e : X.K = K) : IxR X (aLX K) := by subst e; exact aKO
theorem dM (e : X.K = K) : IxR X (aLY K) := by subst e; exact aIE
theorem aHO (e : X.K = K) : SlR X (aLV K) := by subst e; exact aJX
theorem eB (e : X.K = K) : OpR X (compareOp .In) (rIn K false) := by subst e; exact aDH
theorem gK (e : X.K = K) : OpR X (compareOp .NotIn) (rIn K true) := by subst e; exact wP
theorem bW (e : X.K = K) : hG X (.builtin "len") (fun xs H Q => ∃ p ys, xs = [.ref p] ∧ (SqL K H p ys ∨ SqT K H p ys) ∧ Q (.int ys.length) H) := by subst e; exact xF
theorem dD (e : X.K = K) : hG X (.builtin "isinstance") (fun xs H Q => ∃ x y c t b, xs = [x, y] ∧ aKU y = some c ∧ TyOf K H x t ∧ PySem.W.kitOne K t c = some b ∧ Q (.bl b) H) := by subst e; exact zF
theorem iO (e : X.K = K) : hG X (.type "list") (fun xs H Q => ∃ p ys, xs = [.ref p] ∧ (SqL K H p ys ∨ SqT K H p ys) ∧ ∀ l, H l = none → Q (.ref l) (upd H l (.lst ys))) := by subst e; exact xD
end
theorem lW {j : Int} (h : decide (0 < j) = true) : 0 < j := of_decide_eq_true h
end L2
namespace L2
open PySem PySem.Spec PyProof.Rows
theorem oN {X : Cx} {i : Nat} {x : Str} {elt iter tg : Expr} {ifs : List Expr} {scope : Scope} {pos pos' cpos : Pos} {wi : TI} {g : TG} {tt : TT} {te : TE} (hXN : X.N.Nodup) (hix : X.N[i]? = some x) (N' : List Str) (nt : Nat) (cap : List Nat)
  (hc : X.calm = true) (hi : PI X tg iter wi) (hg : ∀ R, PG (blk X scope N' R) tg g) (hgk : aCL nt g) (ht : ∀ R, aHH (blk X scope N' R) ifs tt) (he : ∀ R, PE (blk X scope N' R) elt te)
  (hx : Loc X.env.scope x := by exact Or.inl rfl) (hfn : X.fn x = true ∨ X.env.scope.names.lookup x = some .local := by first | exact .inl rfl | exact .inr rfl | assumption)
  (hsw : swapsWith (.ListComp elt [⟨tg, iter, ifs, 0⟩] scope cpos) (some (.Name x pos')) pos.line X.env = pure true := by rfl)
  (hcell : (scope.names.all fun y => !(y.2 == .cell)) = true := by rfl) (hkind : scope.kind = .function := by rfl)
  (hnames : (scope.names.all fun y => !(y.2 == .local) || (scope.names.lookup y.1 == some .local)) = true := by rfl)
  (hfr : (scope.names.all fun y => !(y.2 == .free) || (X.env.kindOf y.1 == some .cell || X.env.kindOf y.1 == some .free)) = true := by rfl)
  (hN : N'.length = nt + cap.length := by rfl) (hcapN : (cap.map fun j => X.N[j]?) = (N'.drop nt).map some := by rfl) (hcapF : ((N'.drop nt).all fun x => scope.names.lookup x == some .free) = true := by rfl)
  (hs : ∀ x, foldedSetIterable iter X.env x = pure x := by intro _; rfl) :
  PS X (.Assign [.Name x pos'] (.ListComp elt [⟨tg, iter, ifs, 0⟩] scope cpos) pos) (aJV (aIX nt cap wi g tt te) (vM i)) := by
 intro pins s σ H Ds I h
 have hfr' : ∀ y ∈ scope.names, y.2 = .free → (X.env.kindOf y.1 = some .cell ∨ X.env.kindOf y.1 = some .free) := fun y hy e => by
  have z := kQ hfr y hy
  rw [e] at z
  have z' : (X.env.kindOf y.1 == some .cell || X.env.kindOf y.1 == some .free) = true := z
  rcases Bool.or_eq_true_iff.mp z' with q | q
  ·exact .inl (beq_iff_eq.mp q)
  ·exact .inr (beq_iff_eq.mp q)
 have hcell' : ∀ y ∈ scope.names, y.2 ≠ .cell := fun y hy e => by
  have z := kQ hcell y hy
  rw [e] at z
  cases z
 obtain ⟨cl, hcl, hclk, hclh⟩ := uH (scope := scope) (env := X.env) fun y hy e => I.ok.has y.1 (hfr' y hy e)
 have hnames' : ∀ y ∈ scope.names, y.2 = .local → scope.names.lookup y.1 = some .local := fun y hy e => by
  have z := kQ hnames y hy
  rw [e] at z
  exact beq_iff_eq.mp z
 have hcapN' : ∀ (k j : Nat), cap[k]? = some j → N'[nt + k]? = X.N[j]? := fun k j e => by
  have z := congrArg (fun l : List (Option Str) => l[k]?) hcapN
  simp only [List.getElem?_map, e, Option.map_some, List.getElem?_drop] at z
  cases q : N'[nt + k]? with
  | none => rw [q] at z; cases z
  | some x => rw [q] at z; exact (Option.some.inj z).symm
 rw [exec_Assign_Name_used _ _ _ _ hsw]
 refine wpAny_bind (wpAny_standAt (wpAny_bind ?_))
 show wpAny _ X.A (do let _ ← comprehension (.ListComp elt [⟨tg, iter, ifs, 0⟩] scope cpos) scope X.env _ (newList []) false (eval iter X.env) (some (assign (.Name x pos') X.env))) _ _ s
 refine wpAny_bind (wpAny_mono (wpAny_comprehension_free (use := some (assign (.Name x pos') X.env)) (Q := fun _ s' => SP X pins Ds .next s') rfl hs hcl hkind hnames'
  (thn (hi pins s σ H _ I h) fun v s1 h1 => thn h1 fun itv s2 h2 => ?_)) (fun _ s' hq => wpAny_pure (wpAny_pure hq)) fun _ _ e => e)
 obtain ⟨it, fp, tn, J, H2, e, I2, T, st2, f2, hw⟩ := h2
 subst e
 refine uF (RR := fun acc C => compPost (model X.prog X.w) X.A X.xe (some (assign (.Name x pos') X.env)) (fun _ s' => SP X pins Ds .next s') acc C) hc I2 T st2 f2 hclk hclh hcell' hkind hfr' hN hcapN' (fun x hx => beq_iff_eq.mp (kQ hcapF x hx)) hg hgk ht he hw ?_
 intro D C s' H' ys hD q I' B
 obtain ⟨m, hn⟩ := B.ns
 obtain ⟨oC, es, ep, hoC, hdC, hrest⟩ := id hn
 have nofs : C ∉ X.fs := fun hb => by
  obtain ⟨_, o, ho, _⟩ := I'.ok.funs.mem hb
  exact absurd (Nat.lt_of_lt_of_le (Heap.lt_size ho) B.ab) (Nat.lt_irrefl _)
 have IC : Inv X ((C, oC) :: pins) σ (upd H' D (.lst ys)) s' := I'.pins_of fun p hp => by
  rcases List.mem_cons.mp hp with rfl | hp
  ·exact ⟨hoC, B.fr, B.ne, nofs, fun v z => by rw [hdC] at z; cases z⟩
  ·exact I'.pin p (List.mem_append_right _ hp)
 show wpAny _ X.A (assign (.Name x pos') X.env (.ref D)) _ _ _
 refine thn (aO hXN hix hx hfn ((C, oC) :: pins) s' σ (upd H' D (.lst ys)) (.ref D) (.ref D) Ds.nx IC rfl (q D hD)) fun _ s'' h'' => ?_
 obtain ⟨σ2, H3, I3, q3⟩ := h''
 have pC := I3.pin (C, oC) (List.mem_append_right _ List.mem_cons_self)
 refine ⟨m, hn.at' (fun o e => ?_), fun h4 hs4 => ⟨σ2, H3, ?_, q3⟩⟩
 ·rw [hoC] at e
  cases e
  exact pC.1
 ·have I4 : Inv X pins σ2 H3 s'' := I3.pins_of fun p hp => I3.pin p (List.mem_append_right _ (List.mem_cons_of_mem _ hp))
  exact I4.turned (it := C) (t' := s''.toks) (fun b o hb e => hs4.extBut b o hb e) pC.2.1 B.ne (.inr B.ab) B.cl B.pn
end L2
namespace L2
open PySem PySem.Spec PyProof.Rows
section
variable {X : Cx}
end
structure InstC (K : PySem.W.Frag) (C : Addr) : Prop where
 ha : PySem.W.findIn K (.ref C) "__class__" = some (some (.builtin "object.__class__"))
 hn : PySem.W.specialIn K (.builtin "object.__class__") "__get__" = some (some (.builtin "getset_descriptor.__get__"))
 htk : PySem.W.takesIn K (.builtin "object.__class__") = some true
 hm : PySem.W.mroIn K C (.type "object") = some true
theorem MethAt.mcD {P : Program} {w : World} {K : PySem.W.Frag} {mg : Str → Option Value} {base : Heap} {C : Addr} {m qual : Str} {st : Stmt} {N ps : List Str} {k : Nat} {sp : Sp} (D : MethAt K C m qual st ps) (S : FnScope N ps (aF st)) (len : ∀ vs H Q E, sp vs H Q E → vs.length = ps.length)
  (hbody : ∀ (f : Addr) (cdv : Value) (A : Around) (outer : List Env) (s : Shared) (H : Hp) (vs : List V) (Q : VK) (E : XK), Room k (A.deeper (envOfC qual (aF st) s.heap.objs.size f cdv)) → sp vs H Q E →
   ∃ t, PSs (uE CX0 P w K mg base N qual (aF st) f cdv A outer s H E).nox (aL st) t ∧ t { nx := fun _ H' => eD Q .non H', rt := eD Q } (kX N vs) H) : Mc P w K mg base (k + 1) C m ps sp := by
 obtain ⟨f, fd, F, b, mm⟩ := D.ex
 refine ⟨f, fd, FnOk.drop len (F.ok S (fun vs H Q E ⟨Q', h, _⟩ => len vs H Q' E h) fun cdv A outer s H vs Q E hr ⟨Q', h, e⟩ => ?_), b, mm⟩
 subst e
 exact hbody f cdv A outer s H vs Q' E hr h
theorem iX.under {H : Hp} {p q : Addr} {o u : HO} (hp : H p = none) (d : qH o = true) (hq : L2.upd H p o q = none) : iX (L2.upd (L2.upd H p o) q u) (L2.upd H q u) := fun b => by
 by_cases hb : b = q
 ·subst hb
  left
  rw [aB, aB]
 ·rw [aT hb, aT hb]
  by_cases hc : b = p
  ·subst hc
   right
   exact ⟨hp, o, aB, d⟩
  ·left
   rw [aT hc]
end L2
namespace Ld
open PySem L2
def iG (c : Nat) : Bool := decide (97 ≤ c) && decide (c ≤ 122)
def fC (z : Str) : Bool := decide (1 ≤ z.length) && decide (z.length ≤ 8) && !decide (z = "sea") && z.cps.toList.all iG
def isInt : Dv → Bool
 | .int _ => true
 | _ => false
def aGH : Dv → Bool
 | .bl _ => true
 | _ => false
def aMH : Dv → Bool
 | .str _ => true
 | _ => false
def aMI : Dv → Bool
 | .lst _ => true
 | _ => false
def aMG : Dv → Bool
 | .tup _ => true
 | _ => false
def rY (n : Int) : Dv → Bool
 | .tup ds => decide ((ds.length : Int) = n)
 | _ => false
def aMC (n : Int) : Dv → Bool
 | .lst ds => decide (1 ≤ ds.length) && decide ((ds.length : Int) ≤ n)
 | _ => false
def oS : Dv → Bool
 | .str z => fC z
 | _ => false
def hgt (i : Int) : Bool := decide (-1000000 ≤ i) && decide (i ≤ 1000000)
def amt (i : Int) : Bool := decide (0 ≤ i) && decide (i ≤ 1000000)
def eN : Dv → Bool
 | .int i => hgt i
 | _ => false
def lL : Dv → Bool
 | .int i => amt i
 | _ => false
def bZ (zs : List Str) : Dv → Bool
 | .str z => decide (z ∈ zs)
 | _ => false
def cU : Dv → Option Str
 | .tup (.str z :: _) => some z
 | _ => none
def cD : Dv → Bool
 | .tup [a, b, c] => oS a && (eN b && lL c)
 | _ => false
def lP : Dv → Bool
 | .lst ds => (decide (1 ≤ ds.length) && decide (ds.length ≤ 12)) && (ds.all cD && decide ((ds.map cU).Nodup))
 | _ => false
def nL (zs : List Str) (a b : Dv) : Bool := bZ zs a && (bZ zs b && !deq a b)
def nG (c : Dv) : Dv → Bool
 | .non => true
 | .int i => hgt i && (match c with | .int j => decide (i < j) | _ => false)
 | _ => false
def cY (zs : List Str) : Dv → Bool
 | .tup [n, a, b, c, r, s] => oS n && nL zs a b && (eN c && (lL r && nG c s))
 | _ => false
def nM (zs : List Str) : Dv → Bool
 | .lst ds => (decide (1 ≤ ds.length) && decide (ds.length ≤ 40)) && (ds.all (cY zs) && decide ((ds.map cU).Nodup))
 | _ => false
mutual
def dR : Dv → Bool
 | .str z => decide (z.length ≤ 1000)
 | .lst ds => decide (ds.length ≤ 1000) && fV ds
 | .tup ds => decide (ds.length ≤ 1000) && fV ds
 | _ => true
def fV : List Dv → Bool
 | [] => true
 | d :: ds => dR d && fV ds
end
theorem gR : ∀ {ds : List Dv} {d : Dv}, fV ds = true → d ∈ ds → dR d = true
 | [], _, _, m => by cases m
 | e :: ds, d, f, m => by
  rw [fV, Bool.and_eq_true] at f
  rcases List.mem_cons.mp m with rfl | m
  ·exact f.1
  ·exact gR f.2 m
theorem pU {ds : List Dv} (h : dR (.tup ds) = true) : fV ds = true := (Bool.and_eq_true_iff.mp (show (decide (ds.length ≤ 1000) && fV ds) = true from h)).2
theorem oW (K : PySem.W.Frag) {H : Hp} {d : Dv} {x : V} (h : Is H d x) : ∃ t, TyOf K H x t ∧ PySem.W.kitOne K t (.type "int") = some (isInt d || aGH d) ∧ PySem.W.kitOne K t (.type "bool") = some (aGH d) ∧
  PySem.W.kitOne K t (.type "str") = some (aMH d) ∧ PySem.W.kitOne K t (.type "list") = some (aMI d) ∧ PySem.W.kitOne K t (.type "tuple") = some (aMG d) := by
 cases d with
 | non => cases (show x = .non from h); exact ⟨_, .non, rfl, rfl, rfl, rfl, rfl⟩
 | bl b => cases (show x = .bl b from h); exact ⟨_, .bl b, rfl, lH _ _, rfl, rfl, rfl⟩
 | int i => cases (show x = .int i from h); exact ⟨_, .int i, lH _ _, rfl, rfl, rfl, rfl⟩
 | str z => cases (show x = .str z from h); exact ⟨_, .str z, rfl, rfl, lH _ _, rfl, rfl⟩
 | lst ds => obtain ⟨a, vs, rfl, e, _⟩ := h; exact ⟨_, .lst e, rfl, rfl, rfl, lH _ _, rfl⟩
 | tup ds => obtain ⟨a, vs, rfl, e, _⟩ := h; exact ⟨_, .tup e, rfl, rfl, rfl, rfl, lH _ _⟩
 | dct ks ds => obtain ⟨a, vs, rfl, e, _⟩ := h; exact ⟨_, .dK e, rfl, rfl, rfl, rfl, rfl⟩
theorem wV : ("abcdefghijklmnopqrstuvwxyz" : Str).cps.toList = [97, 98, 99, 100, 101, 102, 103, 104, 105, 106, 107, 108, 109, 110, 111, 112, 113, 114, 115, 116, 117, 118, 119, 120, 121, 122] := by decide +kernel
theorem aAH (c : Nat) : (!(Builtin.Str.occurrences ("abcdefghijklmnopqrstuvwxyz" : Str) ⟨#[c]⟩ 0 ("abcdefghijklmnopqrstuvwxyz" : Str).length 1).isEmpty) = iG c := by
 rw [PySem.StrLaws.found_one, wV]
 have h1 : ∀ d, d ∈ ([97, 98, 99, 100, 101, 102, 103, 104, 105, 106, 107, 108, 109, 110, 111, 112, 113, 114, 115, 116, 117, 118, 119, 120, 121, 122] : List Nat) → 97 ≤ d ∧ d ≤ 122 := by decide
 have h2 : ∀ k, k < 26 → (97 + k) ∈ ([97, 98, 99, 100, 101, 102, 103, 104, 105, 106, 107, 108, 109, 110, 111, 112, 113, 114, 115, 116, 117, 118, 119, 120, 121, 122] : List Nat) := by decide
 unfold iG
 by_cases h : 97 ≤ c ∧ c ≤ 122
 ·have e := h2 (c - 97) (by omega)
  rw [show 97 + (c - 97) = c by omega] at e
  rw [decide_eq_true e, decide_eq_true h.1, decide_eq_true h.2]
  rfl
 ·have e : ¬ c ∈ ([97, 98, 99, 100, 101, 102, 103, 104, 105, 106, 107, 108, 109, 110, 111, 112, 113, 114, 115, 116, 117, 118, 119, 120, 121, 122] : List Nat) := fun m => h (h1 c m)
  rw [decide_eq_false e]
  by_cases h' : 97 ≤ c
  ·rw [decide_eq_true h', decide_eq_false (fun z => h ⟨h', z⟩)]
   rfl
  ·rw [decide_eq_false h']
   rfl
def aK (d : Dv) : Str := (cU d).getD ""
def lK (d : Dv) : Key := .inr (aK d)
theorem aGS {d : Dv} {z : Str} (h : cU d = some z) : aK d = z := by unfold aK; rw [h]; rfl
def lG (d1 d2 : Addr) : List (Str × V) := cX "dyke_rows" (.ref d2) (cX "field_rows" (.ref d1) [])
theorem aMP : ¬ (("field_rows" : Str) = "dyke_rows") := by decide +kernel
theorem rW (d1 d2 : Addr) : (lG d1 d2).lookup ("field_rows" : Str) = some (.ref d1) := by
 unfold lG
 rw [aU, if_neg aMP, aU, if_pos rfl]
theorem aCB (d1 d2 : Addr) : (lG d1 d2).lookup ("dyke_rows" : Str) = some (.ref d2) := by
 unfold lG
 rw [aU, if_pos rfl]
theorem dL (d1 d2 : Addr) {m : Str} (h1 : ¬ m = "dyke_rows") (h2 : ¬ m = "field_rows") : (lG d1 d2).lookup m = none := by
 unfold lG
 rw [aU, if_neg h1, aU, if_neg h2]
 all_goals rfl
def uM (H : Hp) (a : Addr) (ds : List Dv) : Prop := ∃ kvs, H a = some (.dK kvs) ∧ kvs.map (·.1) = ds.map lK ∧ IsL H ds (kvs.map (·.2))
theorem uM.same {H H' : Hp} (S : aI H H') {a : Addr} {ds : List Dv} (h : uM H a ds) : uM H' a ds := by
 obtain ⟨kvs, e, k, i⟩ := h
 exact ⟨kvs, S _ _ e, k, IsL.same S _ _ i⟩
structure LandAt (C : Addr) (H : Hp) (x : Addr) (fs ds : List Dv) : Prop where
 ex : ∃ dx d1 d2, H x = some (.ins C dx (lG d1 d2)) ∧ uM H d1 fs ∧ uM H d2 ds
 okf : lP (.lst fs) = true
 okd : nM ("sea" :: fs.map aK) (.lst ds) = true
theorem LandAt.same {C : Addr} {H H' : Hp} (S : aI H H') {x : Addr} {fs ds : List Dv} (h : LandAt C H x fs ds) : LandAt C H' x fs ds := by
 obtain ⟨⟨dx, d1, d2, e, t1, t2⟩, a, b⟩ := h
 exact ⟨⟨dx, d1, d2, S _ _ e, t1.same S, t2.same S⟩, a, b⟩
theorem wH : ∀ {kvs : List (Key × V)} {H : Hp} {ds : List Dv} {d : Dv}, kvs.map (·.1) = ds.map lK → IsL H ds (kvs.map (·.2)) → (ds.map aK).Nodup → d ∈ ds → ∃ v, dG kvs (.inr (aK d)) = some v ∧ Is H d v
 | [], _, [], _, _, _, _, m => by cases m
 | [], _, _ :: _, _, e, _, _, _ => by simp at e
 | _ :: _, _, [], _, _, _, _, m => by cases m
 | (k, v) :: kvs, H, d0 :: ds, d, e, i, n, m => by
  obtain ⟨v', r, e1, h0, t⟩ := i
  rw [List.map_cons] at e1
  cases e1
  rw [List.map_cons, List.map_cons, List.cons.injEq] at e
  have ek : k = lK d0 := e.1
  rw [List.map_cons, List.nodup_cons] at n
  by_cases q : aK d = aK d0
  ·have : d = d0 := by
    rcases List.mem_cons.mp m with rfl | m
    ·rfl
    ·exact absurd (List.mem_map.mpr ⟨d, m, q⟩) n.1
   subst this
   refine ⟨v, ?_, h0⟩
   unfold dG
   rw [List.find?_cons, ek]
   simp [lK]
  ·have m' : d ∈ ds := by
    rcases List.mem_cons.mp m with rfl | m
    ·exact absurd rfl q
    ·exact m
   obtain ⟨u, e2, h2⟩ := wH (kvs := kvs) e.2 t n.2 m'
   refine ⟨u, ?_, h2⟩
   unfold dG at e2 ⊢
   have hk : ¬ k = Sum.inr (aK d) := by
    rw [ek]
    intro z
    exact q (Sum.inr.inj z).symm
   rw [List.find?_cons, decide_eq_false (show ¬ (k, v).1 = Sum.inr (aK d) from hk)]
   exact e2
theorem lO : ∀ {ds : List Dv} {p : Dv → Bool}, (∀ d, p d = true → ∃ z, cU d = some z) → ds.all p = true → ds.map cU = (ds.map aK).map some
 | [], _, _, _ => rfl
 | d :: ds, p, hp, h => by
  rw [List.all_cons, Bool.and_eq_true] at h
  obtain ⟨z, e⟩ := hp d h.1
  rw [List.map_cons, List.map_cons, List.map_cons, lO hp h.2, aGS e, e]
theorem iF (zs : List Str) : (zs.map some).Nodup ↔ zs.Nodup := by
 induction zs with
 | nil => simp
 | cons z zs ih =>
  rw [List.map_cons, List.nodup_cons, List.nodup_cons, ih]
  simp
theorem bJ {d : Dv} (h : cD d = true) : ∃ z g e, d = .tup [.str z, .int g, .int e] ∧ fC z = true ∧ hgt g = true ∧ amt e = true := by
 unfold cD at h
 split at h
 ·rename_i a b c
  rw [Bool.and_eq_true, Bool.and_eq_true] at h
  obtain ⟨h1, h2, h3⟩ := h
  cases a with
  | str z =>
   cases b with
   | int g =>
    cases c with
    | int e => exact ⟨z, g, e, rfl, h1, h2, h3⟩
    | _ => cases h3
   | _ => cases h2
  | _ => cases h1
 ·cases h
theorem qU (d : Dv) (h : cD d = true) : ∃ z, cU d = some z := by
 obtain ⟨z, _, _, rfl, _⟩ := bJ h
 exact ⟨z, rfl⟩
theorem bR {zs : List Str} {d : Dv} (h : cY zs d = true) : ∃ n a b c r s, d = .tup [.str n, .str a, .str b, .int c, .int r, s] ∧ fC n = true ∧ a ∈ zs ∧ b ∈ zs ∧ a ≠ b ∧ hgt c = true ∧ amt r = true ∧ nG (.int c) s = true := by
 unfold cY at h
 split at h
 ·rename_i n a b c r s
  rw [Bool.and_eq_true, Bool.and_eq_true, Bool.and_eq_true, Bool.and_eq_true] at h
  obtain ⟨⟨h1, h2⟩, h3, h4, h5⟩ := h
  unfold nL at h2
  rw [Bool.and_eq_true, Bool.and_eq_true] at h2
  obtain ⟨h6, h7, h8⟩ := h2
  cases n with
  | str n =>
   cases a with
   | str a =>
    cases b with
    | str b =>
     cases c with
     | int c =>
      cases r with
      | int r =>
       refine ⟨n, a, b, c, r, s, rfl, h1, of_decide_eq_true h6, of_decide_eq_true h7, ?_, h3, h4, h5⟩
       intro z
       subst z
       have : (!(a == a)) = true := h8
       rw [beq_self_eq_true] at this
       cases this
      | _ => cases h4
     | _ => cases h3
    | _ => cases h7
   | _ => cases h6
  | _ => cases h1
 ·cases h
theorem uA {zs : List Str} (d : Dv) (h : cY zs d = true) : ∃ z, cU d = some z := by
 obtain ⟨z, _, _, _, _, _, rfl, _⟩ := bR h
 exact ⟨z, rfl⟩
structure GoodF (fs : List Dv) : Prop where
 l1 : 1 ≤ fs.length
 l2 : fs.length ≤ 12
 all : ∀ d ∈ fs, cD d = true
 nd : (fs.map aK).Nodup
structure GoodD (zs : List Str) (ds : List Dv) : Prop where
 l1 : 1 ≤ ds.length
 l2 : ds.length ≤ 40
 all : ∀ d ∈ ds, cY zs d = true
 nd : (ds.map aK).Nodup
theorem nR (fs : List Dv) : lP (.lst fs) = true ↔ GoodF fs := by
 show ((decide (1 ≤ fs.length) && decide (fs.length ≤ 12)) && (fs.all cD && decide ((fs.map cU).Nodup))) = true ↔ _
 rw [Bool.and_eq_true, Bool.and_eq_true, Bool.and_eq_true, decide_eq_true_iff, decide_eq_true_iff, decide_eq_true_iff]
 constructor
 ·rintro ⟨⟨a, b⟩, c, d⟩
  rw [lO qU c, iF] at d
  exact ⟨a, b, List.all_eq_true.mp c, d⟩
 ·rintro ⟨a, b, c, d⟩
  have c' := List.all_eq_true.mpr c
  refine ⟨⟨a, b⟩, c', ?_⟩
  rw [lO qU c', iF]
  exact d
theorem lN (zs : List Str) (ds : List Dv) : nM zs (.lst ds) = true ↔ GoodD zs ds := by
 show ((decide (1 ≤ ds.length) && decide (ds.length ≤ 40)) && (ds.all (cY zs) && decide ((ds.map cU).Nodup))) = true ↔ _
 rw [Bool.and_eq_true, Bool.and_eq_true, Bool.and_eq_true, decide_eq_true_iff, decide_eq_true_iff, decide_eq_true_iff]
 constructor
 ·rintro ⟨⟨a, b⟩, c, d⟩
  rw [lO uA c, iF] at d
  exact ⟨a, b, List.all_eq_true.mp c, d⟩
 ·rintro ⟨a, b, c, d⟩
  have c' := List.all_eq_true.mpr c
  refine ⟨⟨a, b⟩, c', ?_⟩
  rw [lO uA c', iF]
  exact d
def tS : Dv → Bool
 | .non => true
 | _ => false
def bC : Dv → Bool
 | .tup [_, _, _, _, _, s] => !tS s
 | _ => false
theorem yU {H : Hp} {d : Dv} {v : V} (h : Is H d v) : decide (v = .non) = tS d := by
 cases d with
 | non => cases (show v = .non from h); rfl
 | bl b => cases (show v = .bl b from h); exact decide_eq_false (by intro z; cases z)
 | int b => cases (show v = .int b from h); exact decide_eq_false (by intro z; cases z)
 | str b => cases (show v = .str b from h); exact decide_eq_false (by intro z; cases z)
 | lst b => obtain ⟨a, vs, rfl, _⟩ := h; exact decide_eq_false (by intro z; cases z)
 | tup b => obtain ⟨a, vs, rfl, _⟩ := h; exact decide_eq_false (by intro z; cases z)
 | dct b c => obtain ⟨a, vs, rfl, _⟩ := h; exact decide_eq_false (by intro z; cases z)
theorem nN : ∀ {ds : List Dv}, (∀ d ∈ ds, dR d = true) → fV ds = true
 | [], _ => rfl
 | d :: ds, h => by
  rw [fV, h d List.mem_cons_self, nN fun e m => h e (List.mem_cons_of_mem _ m)]
  rfl
end Ld
namespace Mt02
open PySem L2 Ld
def aNX (i : Nat) : Nat := if i < 18 then 97 + i else 98 + i
def rst (c : Int) : Nat → Int
 | 0 => c / 3
 | j + 1 => rst c j / 25
def num (o : Nat → Int) (c p b : Int) (k j : Nat) : Int := if (j : Int) = b then c / 17 + ((k : Int) / 25) else if (j : Int) = p then c / 11 + (k : Int) else o j
def aMT (o : Nat → Int) (c p b : Int) (k j : Nat) : Nat := aNX (num o c p b k j % 25).toNat
def nm (o : Nat → Int) (c p b : Int) (n k : Nat) : Str := ⟨((List.range n).map (aMT o c p b k)).toArray⟩
structure Names (zs : List Str) (n : Nat) : Prop where
 len : zs.length = n
 nd : zs.Nodup
 good : ∀ z ∈ zs, fC z = true
end Mt02
namespace Mt04
open PySem L2 Ld
def aHB : Dv → Int
 | .tup [_, _, _, .int c, _, _] => c
 | _ => 0
def hOf : Dv → Int
 | .tup [_, .int h] => h
 | _ => 0
def aIN (ds : List Dv) (z : Str) : Int := (ds.find? fun d => decide (aK d = z)).elim 0 aHB
def aGF (ds : List Dv) : Dv → Bool
 | .tup [.str z, .int h] => decide (z ∈ ds.map aK) && (hgt h && decide (aIN ds z ≤ h))
 | _ => false
def areWorks (ds : List Dv) : Dv → Bool
 | .lst ws => ws.all (aGF ds) && decide ((ws.map cU).Nodup)
 | _ => false
structure GoodW (ds ws : List Dv) : Prop where
 all : ∀ d ∈ ws, aGF ds d = true
 nd : (ws.map aK).Nodup
def wAt (ws : List Dv) (z : Str) : Option Int := (ws.find? fun d => decide (aK d = z)).map hOf
def aNM (ws : List Dv) : Dv → Dv
 | .tup [.str n, a, b, .int c, r, s] => .tup [.str n, a, b, .int ((wAt ws n).getD c), r, s]
 | d => d
def raisedD (ds ws : List Dv) : List Dv := ds.map (aNM ws)
def kvOf (d : Dv) : Key × V := (lK d, .int (hOf d))
end Mt04
namespace Mt22
open PySem L2 Ld
structure St where
 nm : Str
 near : Str
 far : Str
 h : Int
abbrev Lo := Str → Option Int
def sea : Str := "sea"
def lo0 : Lo := fun z => if z = sea then some (-1000000) else none
def gZ (lo : Lo) (s : St) : Lo := match lo s.near with
 | none => lo
 | some a => fun z => if z = s.far then some (match lo s.far with | none => max a s.h | some b => min (max a s.h) b) else lo z
def aLU (S : List St) (lo : Lo) : Lo := S.foldl gZ lo
def gS (S : List St) : Nat → Lo
 | 0 => lo0
 | n + 1 => aLU S (gS S n)
inductive Walk (S : List St) : Nat → Str → Int → Prop
 | sea : Walk S 0 Mt22.sea (-1000000)
 | step {k : Nat} {a : Int} {s : St} (w : Walk S k s.near a) (m : s ∈ S) : Walk S (k + 1) s.far (max a s.h)
def Le (lo lo' : Lo) : Prop := ∀ z c, lo' z = some c → ∃ d, lo z = some d ∧ d ≤ c
theorem Le.refl (lo : Lo) : Le lo lo := fun z c e => ⟨c, e, Int.le_refl _⟩
theorem Le.trans {a b c : Lo} (h1 : Le a b) (h2 : Le b c) : Le a c := fun z x e => by
 obtain ⟨d, e1, l1⟩ := h2 z x e
 obtain ⟨f, e2, l2⟩ := h1 z d e1
 exact ⟨f, e2, Int.le_trans l2 l1⟩
theorem yC (lo : Lo) (s : St) : Le (gZ lo s) lo := fun z c e => by
 unfold gZ
 cases hn : lo s.near with
 | none => exact ⟨c, e, Int.le_refl _⟩
 | some a =>
  dsimp only
  by_cases hz : z = s.far
  ·subst hz
   rw [if_pos rfl, e]
   exact ⟨_, rfl, Int.min_le_right _ _⟩
  ·rw [if_neg hz]
   exact ⟨c, e, Int.le_refl _⟩
theorem aCY {lo : Lo} {s : St} {a : Int} (h : lo s.near = some a) : ∃ d, gZ lo s s.far = some d ∧ d ≤ max a s.h := by
 unfold gZ
 rw [h]
 dsimp only
 rw [if_pos rfl]
 cases lo s.far with
 | none => exact ⟨_, rfl, Int.le_refl _⟩
 | some b => exact ⟨_, rfl, Int.min_le_left _ _⟩
theorem tX : ∀ (S : List St) (lo : Lo), Le (S.foldl gZ lo) lo
 | [], lo => Le.refl lo
 | s :: S, lo => (tX S _).trans (yC lo s)
theorem vN : ∀ {S : List St} {lo : Lo} {s : St} {a : Int}, s ∈ S → lo s.near = some a → ∃ d, S.foldl gZ lo s.far = some d ∧ d ≤ max a s.h
 | t :: S, lo, s, a, m, h => by
  rcases List.mem_cons.mp m with rfl | m
  ·obtain ⟨d, e, l⟩ := aCY h
   obtain ⟨f, e2, l2⟩ := tX S (gZ lo s) _ _ e
   exact ⟨f, e2, Int.le_trans l2 l⟩
  ·obtain ⟨a', e, l⟩ := yC lo t _ _ h
   obtain ⟨d, e2, l2⟩ := vN (S := S) (lo := gZ lo t) m e
   exact ⟨d, e2, by omega⟩
theorem aCX (S : List St) (n : Nat) : Le (gS S (n + 1)) (gS S n) := tX S _
theorem vE (S : List St) : ∀ n, Le (gS S n) lo0
 | 0 => Le.refl _
 | n + 1 => (aCX S n).trans (vE S n)
theorem aCM {S : List St} {k : Nat} {v : Str} {b : Int} (w : Walk S k v b) : ∀ n, k ≤ n → ∃ c, gS S n v = some c ∧ c ≤ b := by
 induction w with
 | sea => exact fun n _ => vE S n _ _ (by unfold lo0; rw [if_pos rfl])
 | step w m ih =>
  intro n hn
  cases n with
  | zero => omega
  | succ n =>
   obtain ⟨c, e, l⟩ := ih n (by omega)
   obtain ⟨d, e2, l2⟩ := vN (S := S) (lo := gS S n) m e
   exact ⟨d, e2, by omega⟩
def Att (S : List St) (lo : Lo) : Prop := ∀ z c, lo z = some c → ∃ k, Walk S k z c
theorem aCZ {S : List St} {lo : Lo} {s : St} (m : s ∈ S) (h : Att S lo) : Att S (gZ lo s) := fun z c e => by
 unfold gZ at e
 cases hn : lo s.near with
 | none => rw [hn] at e; exact h z c e
 | some a =>
  rw [hn] at e
  dsimp only at e
  by_cases hz : z = s.far
  ·subst hz
   rw [if_pos rfl] at e
   obtain ⟨k, w⟩ := h _ _ hn
   have w' := Walk.step w m
   cases hf : lo s.far with
   | none =>
    rw [hf] at e
    cases e
    exact ⟨_, w'⟩
   | some b =>
    rw [hf] at e
    cases e
    show ∃ k, Walk S k s.far (min (max a s.h) b)
    rcases Int.le_total (max a s.h) b with l | l
    ·rw [Int.min_eq_left l]; exact ⟨_, w'⟩
    ·rw [Int.min_eq_right l]; exact h _ _ hf
  ·rw [if_neg hz] at e
   exact h z c e
theorem vO {S : List St} : ∀ {R : List St} {lo : Lo}, (∀ s ∈ R, s ∈ S) → Att S lo → Att S (R.foldl gZ lo)
 | [], _, _, h => h
 | s :: R, lo, m, h => vO (R := R) (fun t mt => m t (List.mem_cons_of_mem _ mt)) (aCZ (m s List.mem_cons_self) h)
theorem sR (S : List St) : ∀ n, Att S (gS S n)
 | 0 => fun z c e => by
  unfold gS lo0 at e
  by_cases hz : z = sea
  ·subst hz
   rw [if_pos rfl] at e
   cases e
   exact ⟨0, .sea⟩
  ·rw [if_neg hz] at e
   cases e
 | n + 1 => vO (fun _ m => m) (sR S n)
inductive Path (S : List St) : List Str → Str → Int → Prop
 | sea : Path S [] Mt22.sea (-1000000)
 | step {p : List Str} {a : Int} {s : St} (w : Path S p s.near a) (m : s ∈ S) (n : s.far ∉ p) : Path S (s.far :: p) s.far (max a s.h)
theorem aIA {S : List St} {p : List Str} {u : Str} {a : Int} (w : Path S p u a) : ∀ v ∈ p, ∃ q b, Path S q v b ∧ b ≤ a := by
 induction w with
 | sea => exact fun v m => by cases m
 | step w m n ih =>
  intro v hv
  rcases List.mem_cons.mp hv with rfl | hv
  ·exact ⟨_, _, .step w m n, Int.le_refl _⟩
  ·obtain ⟨q, b, h, l⟩ := ih v hv
   exact ⟨q, b, h, by omega⟩
theorem aCN {S : List St} {k : Nat} {v : Str} {b : Int} (w : Walk S k v b) : ∃ p c, Path S p v c ∧ c ≤ b := by
 induction w with
 | sea => exact ⟨_, _, .sea, Int.le_refl _⟩
 | @step k a s w m ih =>
  obtain ⟨p, c, h, l⟩ := ih
  by_cases hv : s.far ∈ p
  ·obtain ⟨q, d, h2, l2⟩ := aIA h _ hv
   exact ⟨q, d, h2, by omega⟩
  ·exact ⟨_, _, .step h m hv, by omega⟩
theorem aDE {S : List St} {p : List Str} {v : Str} {b : Int} (w : Path S p v b) : Walk S p.length v b := by
 induction w with
 | sea => exact .sea
 | step w m n ih => exact .step ih m
theorem zU {S : List St} {p : List Str} {v : Str} {b : Int} (w : Path S p v b) : p.Nodup ∧ ∀ z ∈ p, ∃ s ∈ S, s.far = z := by
 induction w with
 | sea => exact ⟨by simp, fun z m => by cases m⟩
 | step w m n ih =>
  refine ⟨List.nodup_cons.mpr ⟨n, ih.1⟩, fun z hz => ?_⟩
  rcases List.mem_cons.mp hz with rfl | hz
  ·exact ⟨_, m, rfl⟩
  ·exact ih.2 z hz
theorem aAD {α : Type} [DecidableEq α] : ∀ {P N : List α}, P.Nodup → (∀ x ∈ P, x ∈ N) → P.length ≤ N.length
 | [], N, _, _ => Nat.zero_le _
 | x :: P, N, nd, sub => by
  have hx := sub x List.mem_cons_self
  rw [List.nodup_cons] at nd
  have := aAD (P := P) (N := N.erase x) nd.2 fun y m => (List.mem_erase_of_ne (a := y) (b := x) (fun e => nd.1 (by rw [← e]; exact m))).mpr (sub y (List.mem_cons_of_mem _ m))
  rw [List.length_erase_of_mem hx] at this
  have hp := List.length_pos_of_mem hx
  rw [List.length_cons]
  omega
structure Flood (S : List St) (lo : Lo) : Prop where
 att : Att S lo
 low : ∀ k v b, Walk S k v b → ∃ c, lo v = some c ∧ c ≤ b
theorem wO {S : List St} {N : List Str} (far : ∀ s ∈ S, s.far ∈ N) : Flood S (gS S N.length) where
 att := sR S _
 low k v b w := by
  obtain ⟨p, c, h, l⟩ := aCN w
  obtain ⟨nd, sub⟩ := zU h
  have hl : p.length ≤ N.length := aAD nd fun z m => by
   obtain ⟨s, ms, rfl⟩ := sub z m
   exact far s ms
  obtain ⟨d, e, l2⟩ := aCM (aDE h) N.length hl
  exact ⟨d, e, Int.le_trans l2 l⟩
inductive Come (S : List St) (L : Int) : Str → Prop
 | sea : Come S L Mt22.sea
 | step {s : St} (w : Come S L s.near) (m : s ∈ S) (h : s.h < L) : Come S L s.far
end Mt22
namespace MtF
open PySem L2 Ld Mt04 Mt22
def aFC : Dv → Dv
 | .tup [_, _, _, _, _, s] => s
 | _ => .non
def yV : Dv → Int
 | .int i => i
 | _ => 0
def mM : Dv → Str
 | .tup [_, .str a, _, _, _, _] => a
 | _ => ""
def fA : Dv → Str
 | .tup [_, _, .str b, _, _, _] => b
 | _ => ""
def cB (op : List Str) (d : Dv) : Int := if aK d ∈ op then yV (aFC d) else aHB d
def xA : Dv → Int
 | .tup [_, .int g, _] => g
 | _ => 0
def bA (fs : List Dv) (z : Str) : Int := (fs.find? fun d => decide (aK d = z)).elim 0 xA
theorem nU {ds : List Dv} (nd : (ds.map aK).Nodup) {d : Dv} (m : d ∈ ds) : (ds.find? fun e => decide (aK e = aK d)) = some d := by
 induction ds with
 | nil => cases m
 | cons e ds ih =>
  rw [List.map_cons, List.nodup_cons] at nd
  rw [List.find?_cons]
  rcases List.mem_cons.mp m with rfl | m
  ·rw [decide_eq_true rfl]
  ·have hne : aK e ≠ aK d := fun c => nd.1 (c ▸ List.mem_map.mpr ⟨d, m, rfl⟩)
   rw [decide_eq_false hne]
   exact ih nd.2 m
theorem jN {fs : List Dv} (nd : (fs.map aK).Nodup) {d : Dv} (m : d ∈ fs) : bA fs (aK d) = xA d := by
 show (fs.find? fun e => decide (aK e = aK d)).elim 0 xA = _
 rw [nU nd m]
 rfl
def fU (fs : List Dv) (op : List Str) (d : Dv) (near far : Str) : List Mt22.St := if far = "sea" then [] else [⟨aK d, near, far, max (cB op d) (bA fs far)⟩]
def lQ (fs : List Dv) (op : List Str) (d : Dv) : List Mt22.St := fU fs op d (mM d) (fA d) ++ fU fs op d (fA d) (mM d)
def bH (fs ds : List Dv) (op : List Str) : List Mt22.St := ds.flatMap (lQ fs op)
def dB (s : Mt22.St) : Dv := .tup [.str s.nm, .str s.near, .str s.far, .int s.h]
def flo (fs ds : List Dv) (op : List Str) : Mt22.Lo := gS (bH fs ds op) fs.length
def sU : Option Int → V
 | some i => .int i
 | none => .non
theorem xQ (fs : List Dv) (op : List Str) (d : Dv) : (lQ fs op d).length ≤ 2 := by
 unfold lQ fU
 rw [List.length_append]
 split <;> split <;> simp
theorem lR (fs : List Dv) (op : List Str) : ∀ ds : List Dv, (bH fs ds op).length ≤ 2 * ds.length
 | [] => Nat.le_refl _
 | d :: ds => by
  have h1 := xQ fs op d
  have h2 := lR fs op ds
  unfold bH at h2 ⊢
  rw [List.flatMap_cons, List.length_append, List.length_cons]
  omega
theorem zZ {fs : List Dv} {op : List Str} {d : Dv} {near far : Str} {s : Mt22.St} : s ∈ fU fs op d near far ↔ far ≠ "sea" ∧ s = ⟨aK d, near, far, max (cB op d) (bA fs far)⟩ := by
 unfold fU
 split
 ·rename_i h
  simp [h]
 ·rename_i h
  simp [h]
theorem jL {fs ds : List Dv} {op : List Str} {s : Mt22.St} : s ∈ bH fs ds op ↔ ∃ d ∈ ds, (fA d ≠ "sea" ∧ s = ⟨aK d, mM d, fA d, max (cB op d) (bA fs (fA d))⟩) ∨ (mM d ≠ "sea" ∧ s = ⟨aK d, fA d, mM d, max (cB op d) (bA fs (mM d))⟩) := by
 unfold bH lQ
 simp only [List.mem_flatMap, List.mem_append, zZ]
theorem tY {fs ds : List Dv} {op : List Str} (gd : GoodD ("sea" :: fs.map aK) ds) {s : Mt22.St} (h : s ∈ bH fs ds op) : s.far ∈ fs.map aK := by
 obtain ⟨d, m, h⟩ := jL.mp h
 obtain ⟨n, a, b, c, r, sl, rfl, _, ha, hb, _⟩ := bR (gd.all d m)
 rcases h with ⟨hn, rfl⟩ | ⟨hn, rfl⟩
 ·rcases List.mem_cons.mp hb with e | m
  ·exact absurd e hn
  ·exact m
 ·rcases List.mem_cons.mp ha with e | m
  ·exact absurd e hn
  ·exact m
theorem nT {fs ds : List Dv} {op : List Str} (gd : GoodD ("sea" :: fs.map aK) ds) : Flood (bH fs ds op) (flo fs ds op) := by
 have := wO (S := bH fs ds op) (N := fs.map aK) fun s m => tY gd m
 rw [List.length_map] at this
 exact this
end MtF
namespace Mt21
open PySem L2 Ld Mt02
def ab (i : Int) : Nat := 97 + (i % 26).toNat
theorem wF (i : Int) : iG (ab i) = true := by
 have h0 := Int.emod_nonneg i (show (26 : Int) ≠ 0 by decide)
 have h1 := Int.emod_lt_of_pos i (show (0 : Int) < 26 by decide)
 unfold ab iG
 rw [decide_eq_true (by omega), decide_eq_true (by omega)]
 rfl
theorem aIR : ("abcdefghijklmnopqrstuvwxyz" : Str).cps.toList = (List.range 26).map fun i => 97 + i := by decide +kernel
theorem aJO (i : Int) : atI ("abcdefghijklmnopqrstuvwxyz" : Str).cps.toList (i % 26) = some (ab i) := by
 have h0 := Int.emod_nonneg i (show (26 : Int) ≠ 0 by decide)
 have h1 := Int.emod_lt_of_pos i (show (0 : Int) < 26 by decide)
 obtain ⟨k, hk⟩ := Int.eq_ofNat_of_zero_le h0
 unfold ab
 rw [hk, aIR]
 refine aJ ?_
 rw [List.getElem?_map, List.getElem?_range (by omega)]
 rfl
def sZ (i : Int) : Str := ⟨#[ab i]⟩
theorem tR : ∀ (ys : List Str) (acc : Array Nat), (ys.foldl (fun acc p => acc ++ ("" : Str).cps ++ p.cps) acc).toList = acc.toList ++ (ys.map fun y => y.cps.toList).flatten
 | [], acc => by simp
 | y :: ys, acc => by
  rw [List.foldl_cons, tR ys]
  have : ("" : Str).cps = #[] := by decide +kernel
  rw [this]
  simp
theorem aAF (ys : List Str) : (Txt.join "" ys).cps.toList = (ys.map fun y => y.cps.toList).flatten := by
 cases ys with
 | nil =>
  show (Str.empty.cps).toList = []
  decide +kernel
 | cons y ys =>
  show (List.foldl (fun acc p => acc ++ ("" : Str).cps ++ p.cps) y.cps ys).toList = _
  rw [tR]
  simp
theorem rZ (z : Str) (k : Nat) (h : k ≤ z.length) : (Txt.slice z none (some (k : Int))).cps.toList = z.cps.toList.take k := by
 rw [Tx.slice_codes, Tx.cl_nat]
 show (z.cps.toList.drop 0).take (min k z.length - 0) = _
 rw [List.drop_zero, Nat.sub_zero, Nat.min_eq_left h]
theorem uB (z : Str) (k : Nat) (h : k ≤ z.length) : (Txt.slice z (some (k : Int)) none).cps.toList = z.cps.toList.drop k := by
 rw [Tx.slice_codes, Tx.cl_nat, Nat.min_eq_left h]
 show (z.cps.toList.drop k).take (z.length - k) = _
 rw [List.take_of_length_le]
 rw [List.length_drop]
 show z.cps.toList.length - k ≤ z.length - k
 simp [Str.length]
theorem jM (z : Str) : z.length = z.cps.toList.length := by simp [Str.length]
theorem yM {f : Nat → Str} {n : Nat} (h : ∀ k l, k < n → l < n → f k = f l → k = l) : ((List.range n).map f).Nodup := by
 rw [List.nodup_iff_pairwise_ne, List.pairwise_map]
 refine List.Pairwise.imp_of_mem ?_ (List.pairwise_lt_range (n := n))
 intro k l hk hl hkl he
 have := h k l (List.mem_range.mp hk) (List.mem_range.mp hl) he
 omega
structure Put (z b : Str) (at' : Nat) (x y : Int) : Prop where
 codes : z.cps.toList = b.cps.toList.take at' ++ [ab x, ab y] ++ b.cps.toList.drop at'
end Mt21
namespace Mt33
open PySem L2 Ld Mt04 Mt22 MtF
def aMW (S : List Mt22.St) (rs : List Str) (r : Option Int) : Prop :=
 (r = none ∧ ∀ s ∈ S, s.near ∉ rs → s.far ∈ rs → False) ∨ ∃ M, r = some M ∧ (∃ s ∈ S, s.near ∉ rs ∧ s.far ∈ rs ∧ s.h = M) ∧ ∀ s ∈ S, s.near ∉ rs → s.far ∈ rs → M ≤ s.h
def fB (lo : Mt22.Lo) (c : Option Int) (z : Str) : Bool := match lo z with
 | none => true
 | some d => match c with
  | none => false
  | some c => decide (c ≤ d)
def fW (fs ds : List Dv) (op : List Str) (z : Str) : List Str := (fs.map aK).filter (fB (flo fs ds op) (flo fs ds op z))
theorem xK {S : List Mt22.St} {rs : List Str} (hs : Mt22.sea ∉ rs) {k : Nat} {v : Str} {b : Int} (w : Walk S k v b) : v ∈ rs → ∃ s ∈ S, s.near ∉ rs ∧ s.far ∈ rs ∧ s.h ≤ b := by
 induction w with
 | sea => intro m; exact absurd m hs
 | @step k a s w m ih =>
  intro mf
  by_cases hn : s.near ∈ rs
  ·obtain ⟨s', ms, x, y, z⟩ := ih hn
   exact ⟨s', ms, x, y, by omega⟩
  ·exact ⟨s, m, hn, mf, by omega⟩
theorem aFI {fs ds : List Dv} {op : List Str} (gf : GoodF fs) (gd : GoodD ("sea" :: fs.map aK) ds) (hl : ∀ s ∈ bH fs ds op, -1000000 ≤ s.h) {z : Str} (mz : z ∈ fs.map aK) : aMW (bH fs ds op) (fW fs ds op z) (flo fs ds op z) := by
 have fl := nT (op := op) gd
 have hsea : Mt22.sea ∉ fW fs ds op z := fun m => by
  obtain ⟨d, md, e⟩ := List.mem_map.mp (List.mem_filter.mp m).1
  obtain ⟨n, g, u, rfl, hn, _⟩ := bJ (gf.all d md)
  have e' : n = "sea" := e
  subst e'
  simp [fC] at hn
 have step : ∀ s ∈ bH fs ds op, s.near ∉ fW fs ds op z → ∃ d, flo fs ds op s.far = some d ∧ ∀ c, flo fs ds op z = some c → c ≤ d → c ≤ s.h := fun s ms hn => by
  have key : ∃ k a, Walk (bH fs ds op) k s.near a ∧ ∀ c, flo fs ds op z = some c → a < c ∨ a ≤ -1000000 := by
   by_cases e : s.near = Mt22.sea
   ·rw [e]
    exact ⟨0, -1000000, .sea, fun c _ => .inr (Int.le_refl _)⟩
   ·have mn : s.near ∈ fs.map aK := by
     obtain ⟨d, md, h⟩ := jL.mp ms
     obtain ⟨n, a, b, c, r, sl, rfl, _, ha, hb, _⟩ := bR (gd.all d md)
     rcases h with ⟨_, rfl⟩ | ⟨_, rfl⟩
     ·exact (List.mem_cons.mp ha).resolve_left e
     ·exact (List.mem_cons.mp hb).resolve_left e
    have ni : fB (flo fs ds op) (flo fs ds op z) s.near = false := by
     cases q : fB (flo fs ds op) (flo fs ds op z) s.near with
     | false => rfl
     | true => exact absurd (List.mem_filter.mpr ⟨mn, q⟩) hn
    unfold fB at ni
    cases hq : flo fs ds op s.near with
    | none => rw [hq] at ni; cases ni
    | some a =>
     obtain ⟨k, w⟩ := fl.att _ _ hq
     refine ⟨k, a, w, fun c hc => .inl ?_⟩
     rw [hq, hc] at ni
     have := of_decide_eq_false ni
     omega
  obtain ⟨k, a, w, h⟩ := key
  obtain ⟨d, hd, ld⟩ := fl.low _ _ _ (Walk.step w ms)
  refine ⟨d, hd, fun c hc hcd => ?_⟩
  have h0 := hl s ms
  rcases h c hc with h | h <;> omega
 cases hc : flo fs ds op z with
 | none =>
  refine .inl ⟨rfl, fun s ms hn hf => ?_⟩
  obtain ⟨d, hd, _⟩ := step s ms hn
  have := (List.mem_filter.mp hf).2
  unfold fB at this
  rw [hd, hc] at this
  cases this
 | some c =>
  have low : ∀ s ∈ bH fs ds op, s.near ∉ fW fs ds op z → s.far ∈ fW fs ds op z → c ≤ s.h := fun s ms hn hf => by
   obtain ⟨d, hd, h⟩ := step s ms hn
   have := (List.mem_filter.mp hf).2
   unfold fB at this
   rw [hd, hc] at this
   exact h c hc (of_decide_eq_true this)
  refine .inr ⟨c, rfl, ?_, low⟩
  obtain ⟨k, w⟩ := fl.att _ _ hc
  have zin : z ∈ fW fs ds op z := List.mem_filter.mpr ⟨mz, by unfold fB; rw [hc]; exact decide_eq_true (Int.le_refl _)⟩
  obtain ⟨s, ms, hn, hf, hle⟩ := xK hsea w zin
  exact ⟨s, ms, hn, hf, by have := low s ms hn hf; omega⟩
def aAY (fs ds : List Dv) (op rs : List Str) (ns : List Int) : Prop := (∀ a ∈ ns, ∃ s ∈ bH fs ds op, s.near ∉ rs ∧ s.far ∈ rs ∧ s.h = a) ∧ ∀ s ∈ bH fs ds op, s.near ∉ rs → s.far ∈ rs → s.h ∈ ns
theorem aAY.nil (fs : List Dv) (op rs : List Str) : aAY fs [] op rs [] := ⟨fun a m => (by cases m), fun s m => (by cases m)⟩
theorem aAY.snoc {fs ds : List Dv} {op rs : List Str} {ns xs : List Int} {d : Dv} (h : aAY fs ds op rs ns) (hs : Mt22.sea ∉ rs)
  (hx : ∀ a, a ∈ xs ↔ (mM d ∈ rs ∧ fA d ∉ rs ∧ a = max (cB op d) (bA fs (mM d))) ∨ (fA d ∈ rs ∧ mM d ∉ rs ∧ a = max (cB op d) (bA fs (fA d)))) : aAY fs (ds ++ [d]) op rs (ns ++ xs) := by
 have e : bH fs (ds ++ [d]) op = bH fs ds op ++ bH fs [d] op := List.flatMap_append ..
 refine ⟨fun a m => ?_, fun s m hn hf => ?_⟩
 ·rcases List.mem_append.mp m with m | m
  ·obtain ⟨s, ms, r⟩ := h.1 a m
   exact ⟨s, by rw [e]; exact List.mem_append_left _ ms, r⟩
  ·rcases (hx a).mp m with ⟨x, y, z⟩ | ⟨x, y, z⟩
   ·refine ⟨⟨aK d, fA d, mM d, max (cB op d) (bA fs (mM d))⟩, ?_, y, x, z.symm⟩
    rw [e]
    exact List.mem_append_right _ (jL.mpr ⟨d, List.mem_singleton.mpr rfl, .inr ⟨fun c => hs (by have c' : _ = Mt22.sea := c; rw [← c']; exact x), rfl⟩⟩)
   ·refine ⟨⟨aK d, mM d, fA d, max (cB op d) (bA fs (fA d))⟩, ?_, y, x, z.symm⟩
    rw [e]
    exact List.mem_append_right _ (jL.mpr ⟨d, List.mem_singleton.mpr rfl, .inl ⟨fun c => hs (by have c' : _ = Mt22.sea := c; rw [← c']; exact x), rfl⟩⟩)
 ·rw [e] at m
  rcases List.mem_append.mp m with m | m
  ·exact List.mem_append_left _ (h.2 s m hn hf)
  ·refine List.mem_append_right _ ((hx _).mpr ?_)
   obtain ⟨d', md, r⟩ := jL.mp m
   rw [List.mem_singleton] at md
   subst md
   rcases r with ⟨_, rfl⟩ | ⟨_, rfl⟩
   ·exact .inr ⟨hf, hn, rfl⟩
   ·exact .inl ⟨hf, hn, rfl⟩
end Mt33
namespace Mt31
open PySem L2 Ld Mt22
abbrev Cm := List (Str × Option Mt22.St)
def keys (cm : Cm) : List Str := cm.map (·.1)
structure Came (S : List Mt22.St) (cm : Cm) : Prop where
 nd : (keys cm).Nodup
 first : cm[0]? = some (Mt22.sea, none)
 prev : ∀ (i : Nat) (z : Str) (o : Option Mt22.St), 0 < i → cm[i]? = some (z, o) → ∃ s, o = some s ∧ s ∈ S ∧ s.far = z ∧ s.near ∈ keys (cm.take i)
def aAW (S : List Mt22.St) (cm : Cm) (p : Nat) : Prop := ∀ (i : Nat) (u : Str), i < p → (keys cm)[i]? = some u → ∀ s ∈ S, s.near = u → s.far ∈ keys cm
theorem lJ (a b : Cm) : keys (a ++ b) = keys a ++ keys b := List.map_append
theorem Came.pos {S : List Mt22.St} {cm : Cm} (h : Came S cm) : 0 < cm.length := (List.getElem?_eq_some_iff.mp h.first).1
theorem Came.snoc {S : List Mt22.St} {cm : Cm} (h : Came S cm) {s : Mt22.St} (ms : s ∈ S) (hn : s.near ∈ keys cm) (hf : s.far ∉ keys cm) : Came S (cm ++ [(s.far, some s)]) where
 nd := by
  rw [lJ, List.nodup_append]
  refine ⟨h.nd, by simp [keys], fun a ha b hb => ?_⟩
  have : b = s.far := by simpa [keys] using hb
  rw [this]
  exact fun e => hf (e ▸ ha)
 first := by rw [List.getElem?_append_left h.pos]; exact h.first
 prev i z o hi e := by
  by_cases hl : i < cm.length
  ·rw [List.getElem?_append_left hl] at e
   obtain ⟨t, h1, h2, h3, h4⟩ := h.prev i z o hi e
   exact ⟨t, h1, h2, h3, by rw [List.take_append_of_le_length (Nat.le_of_lt hl)]; exact h4⟩
  ·have hlen := (List.getElem?_eq_some_iff.mp e).1
   rw [List.length_append] at hlen
   have hi' : i = cm.length := by
    have : ([(s.far, some s)] : Cm).length = 1 := rfl
    omega
   subst hi'
   rw [List.getElem?_append_right (Nat.le_refl _), Nat.sub_self] at e
   cases e
   refine ⟨s, rfl, ms, rfl, ?_⟩
   rw [List.take_append_of_le_length (Nat.le_refl _), List.take_of_length_le (Nat.le_refl _)]
   exact hn
theorem aAW.snoc {S : List Mt22.St} {cm : Cm} {p : Nat} (h : aAW S cm p) (hp : p ≤ cm.length) (x : Str × Option Mt22.St) : aAW S (cm ++ [x]) p := fun i u hi e s ms en => by
 rw [lJ, List.getElem?_append_left (by unfold keys; rw [List.length_map]; omega)] at e
 rw [lJ]
 exact List.mem_append_left _ (h i u hi e s ms en)
theorem aDF {S : List Mt22.St} {cm : Cm} (h : Came S cm) (c : aAW S cm cm.length) {L : Int} (hL : ∀ s ∈ S, s.h < L) {z : Str} (r : Come S L z) : z ∈ keys cm := by
 induction r with
 | sea => exact List.mem_map.mpr ⟨_, List.mem_of_getElem? h.first, rfl⟩
 | step w m hh ih =>
  obtain ⟨i, hi⟩ := List.mem_iff_getElem?.mp ih
  have hl := (List.getElem?_eq_some_iff.mp hi).1
  unfold keys at hl
  rw [List.length_map] at hl
  exact c i _ hl hi _ m rfl
inductive Chain (S : List Mt22.St) : List Mt22.St → Str → Prop
 | nil : Chain S [] Mt22.sea
 | snoc {ss : List Mt22.St} {s : Mt22.St} (c : Chain S ss s.near) (m : s ∈ S) (n : s.far ∉ ss.map (·.far)) : Chain S (ss ++ [s]) s.far
def hm (ss : List Mt22.St) : Int := ss.foldl (fun a s => max a s.h) (-1000000)
theorem aAS {S : List Mt22.St} {ss : List Mt22.St} {v : Str} (c : Chain S ss v) : Walk S ss.length v (hm ss) := by
 induction c with
 | nil => exact .sea
 | snoc c m n ih =>
  unfold hm at ih ⊢
  rw [List.foldl_append, List.length_append]
  exact .step ih m
theorem vX {S : List Mt22.St} {ss : List Mt22.St} {v : Str} (c : Chain S ss v) : (∀ s ∈ ss, s ∈ S) ∧ (ss.map (·.far)).Nodup := by
 induction c with
 | nil => exact ⟨(fun s m => by cases m), by simp⟩
 | @snoc ss s c m n ih =>
  refine ⟨fun t mt => ?_, ?_⟩
  ·rcases List.mem_append.mp mt with mt | mt
   ·exact ih.1 t mt
   ·rw [List.mem_singleton.mp mt]; exact m
  ·rw [List.map_append, List.nodup_append]
   refine ⟨ih.2, by simp, fun a ha b hb => ?_⟩
   have hb' : b = s.far := List.mem_singleton.mp hb
   intro e
   have e' : a = s.far := e.trans hb'
   exact n (e' ▸ ha)
theorem Chain.sub {S R : List Mt22.St} (h : ∀ s ∈ S, s ∈ R) {ss : List Mt22.St} {v : Str} (c : Chain S ss v) : Chain R ss v := by
 induction c with
 | nil => exact .nil
 | snoc c m n ih => exact .snoc ih (h _ m) n
def aLB (S : List Mt22.St) (cm : Cm) (j : Nat) (z : Str) (tl : List Mt22.St) (side : Str) : Prop := ∀ ss, Chain S ss z → (∀ y ∈ ss.map (·.far), y ∈ keys (cm.take (j + 1))) → Chain S (ss ++ tl) side
theorem aCQ {S : List Mt22.St} {cm : Cm} (h : Came S cm) {i j : Nat} {z : Str} {s : Mt22.St} {tl : List Mt22.St} {side : Str} (hj : cm[j]? = some (z, some s)) (ms : s ∈ S) (hf : s.far = z) (hi : i < j) (hu : (keys cm)[i]? = some s.near) (t : aLB S cm j z tl side) : aLB S cm i s.near (s :: tl) side := fun ss c sub => by
 have e : ss ++ s :: tl = (ss ++ [s]) ++ tl := by rw [List.append_assoc]; rfl
 have kj : (keys cm)[j]? = some z := by unfold keys; rw [List.getElem?_map, hj]; rfl
 have ktake : ∀ n, keys (cm.take n) = (keys cm).take n := fun n => by unfold keys; rw [List.map_take]
 have fresh : s.far ∉ ss.map (·.far) := fun m => by
  have h1 := sub _ m
  rw [ktake, hf] at h1
  obtain ⟨k, hk⟩ := List.mem_iff_getElem?.mp h1
  have hkl := (List.getElem?_eq_some_iff.mp hk).1
  rw [List.length_take] at hkl
  rw [List.getElem?_take_of_lt (by omega)] at hk
  obtain ⟨h2, e2⟩ := List.getElem?_eq_some_iff.mp hk
  obtain ⟨h3, e3⟩ := List.getElem?_eq_some_iff.mp kj
  have := (List.getElem_inj h.nd).mp (e2.trans e3.symm)
  omega
 rw [e]
 refine t (ss ++ [s]) (hf ▸ Chain.snoc c ms fresh) fun y my => ?_
 rw [ktake]
 rw [List.map_append] at my
 rcases List.mem_append.mp my with my | my
 ·have := sub y my
  rw [ktake] at this
  obtain ⟨k, hk⟩ := List.mem_iff_getElem?.mp this
  have hkl := (List.getElem?_eq_some_iff.mp hk).1
  rw [List.length_take] at hkl
  rw [List.getElem?_take_of_lt (by omega)] at hk
  exact List.mem_of_getElem? (i := k) (by rw [List.getElem?_take_of_lt (by omega)]; exact hk)
 ·have : y = s.far := List.mem_singleton.mp my
  rw [this, hf]
  exact List.mem_of_getElem? (i := j) (by rw [List.getElem?_take_of_lt (by omega)]; exact kj)
theorem aJK {ss : List Mt22.St} {L : Int} (h0 : -1000000 ≤ L) (h : ∀ s ∈ ss, s.h ≤ L) : hm ss ≤ L := by
 unfold hm
 have : ∀ (ss : List Mt22.St) (a : Int), a ≤ L → (∀ s ∈ ss, s.h ≤ L) → ss.foldl (fun a s => max a s.h) a ≤ L := by
  intro ss
  induction ss with
  | nil => intro a ha _; exact ha
  | cons s r ih =>
   intro a ha hs
   exact ih (max a s.h) (by have := hs s List.mem_cons_self; omega) fun t m => hs t (List.mem_cons_of_mem _ m)
 exact this ss _ h0 h
theorem aMM (ss : List Mt22.St) : ∀ s ∈ ss, s.h ≤ hm ss := by
 unfold hm
 have : ∀ (ss : List Mt22.St) (a : Int), a ≤ ss.foldl (fun a s => max a s.h) a ∧ ∀ s ∈ ss, s.h ≤ ss.foldl (fun a s => max a s.h) a := by
  intro ss
  induction ss with
  | nil => intro a; exact ⟨Int.le_refl _, fun s m => by cases m⟩
  | cons s r ih =>
   intro a
   have h1 := ih (max a s.h)
   rw [List.foldl_cons]
   refine ⟨by omega, fun t m => ?_⟩
   rcases List.mem_cons.mp m with rfl | m
   ·omega
   ·exact h1.2 t m
 exact (this ss _).2
end Mt31
namespace Mt05
open PySem L2 Ld Mt02
def noS (z : Str) : Prop := ¬ (115 : Nat) ∈ z.cps.toList
structure NamesS (zs : List Str) (n : Nat) : Prop where
 nm : Names zs n
 nos : ∀ z ∈ zs, noS z
end Mt05
namespace Mt23
open PySem L2 Ld Mt02 Mt04 Mt22 MtF
def noHigher : Option Int → Option Int → Bool
 | some a, none => true
 | some a, some b => decide (a ≤ b)
 | none, none => true
 | none, some _ => false
def StepsLe (S S' : List Mt22.St) : Prop := ∀ s ∈ S', ∃ t ∈ S, t.near = s.near ∧ t.far = s.far ∧ t.h ≤ s.h
def aNH (d : Dv) : Bool := decide (Mt22.sea ∈ [mM d, fA d])
def firsts (ds : List Dv) (op : List Str) : List Int := (ds.filter aNH).map (cB op)
end Mt23
namespace L2
open PySem PySem.Spec PyProof.Rows
section
variable {X : Cx}
end
end L2
namespace L2
open PySem PySem.Spec PyProof.Rows
section
variable {X : Cx}
end
end L2
namespace L2
open PySem PySem.Spec PyProof.Rows
theorem aGK {prog : Program} {w : World} {A : Around} {E : Value → Shared → Prop} {s : Shared} {r : Addr} {Q : Bool → Shared → Prop} (hT : s.TypeIs (.ref r) "list_reverseiterator") (h : Q false s) :
  wpAny (model prog w) A (Builtin.List.listLengthHint (.ref r)) Q E s := by
 unfold Builtin.List.listLengthHint
 refine wpAny_bind (wpAny_specialOf hT (r := none) (by rfl) ?_)
 dsimp only
 rw [if_neg (by decide), if_neg (by decide)]
 refine wpAny_bind (wpAny_specialOf hT (r := some (.builtin "list_reverseiterator.__length_hint__")) (by rfl) ?_)
 dsimp only
 rw [show splitId "list_reverseiterator.__length_hint__" = some ("list_reverseiterator", "__length_hint__") from by decide +kernel]
 dsimp only
 refine wpAny_bind (wpAny_isInstance hT (b := true) (by rfl) ?_)
 rw [if_neg (by decide), if_pos (by decide +kernel), if_neg (by decide +kernel)]
 exact wpAny_pure h
theorem aAK {prog : Program} {w : World} {A : Around} {s : Shared} {R : Result → Shared → Prop} {I l : Addr} {items : Array Value} (hh : A.handled = none) (hI : s.heap.IsRevIter I l ((items.size : Int) - 1)) (hl : s.heap.IsList l items) (hne : l ≠ I) (hn : items.size ≤ sizeLine)
  (S : Addr) (hSI : S ≠ I) (hSl : S ≠ l) (res : Value) (c₀ : Nat) (hS : s.heap.get? S = some { cls := .type "list", data := .seq #[] c₀ })
  (hR : ∀ (h' : Heap) (tk : Nat) (acc' : Array Value) (c' : Nat), (∀ (b : Addr) (o : Obj), b ≠ S → b ≠ I → s.heap.get? b = some o → h'.get? b = some o) → h'.get? S = some { cls := .type "list", data := .seq acc' c' } → ItemsOf (fun i v => items[items.size - 1 - i]? = some v) acc' items.size → R (.ok (.ret res)) { s with heap := h', toks := tk }) :
  wpAny (model prog w) A.in1 (Builtin.List.listExtendWith (.ref S) (.ref I) res) (fun fin s' => match fin with | .done f => R (.ok f) s' | .again c' => c'.quiet = true ∧ codeAny (model prog w) A c' R s') (fun e s' => R (.error e) s') s := by
 have hT : s.TypeIs (.ref I) "list_reverseiterator" := hI.typeIs
 have hSf : ¬ S ∈ [I, l] := by simp [hSI, hSl]
 have W := Walks.listRev (prog := prog) (w := w) (A := A.in1) hh I l hne items
 have key : ∀ (h : Heap) (c₁ : Nat) (tk : Nat), (∀ (b : Addr) (o : Obj), b ≠ S → s.heap.get? b = some o → h.get? b = some o) → h.get? S = some { cls := .type "list", data := .seq #[] c₁ } →
   codeAny (model prog w) A (.builtin "list.extend.loop" { pos := [.ref S, .ref I, res] }) R { s with heap := h, toks := tk } := fun h c₁ tk hk hS₁ => by
  refine codeAny_extend_loopS W.toS hn S hSf res items.size 0 { s with heap := h, toks := tk } #[] c₁ rfl (Nat.zero_le _) ?_ hS₁ (ItemsOf.nil _) fun s' acc' c' hm hS' hacc => ?_
  ·refine ⟨Nat.zero_le _, ?_, ?_⟩
   ·have : ((items.size : Int) - 1 - ((0 : Nat) : Int)) = (items.size : Int) - 1 := by omega
    rw [this]
    obtain ⟨o, ho, r⟩ := hI
    exact ⟨o, hk _ _ (Ne.symm hSI) ho, r⟩
   ·obtain ⟨o, ho, r⟩ := hl
    exact ⟨o, hk _ _ (Ne.symm hSl) ho, r⟩
  ·rw [Moved.eq_with hm]
   refine hR s'.heap s'.toks acc' c' (fun b o h1 h2 e => hm.heap b o (fun hmem => ?_) (hk b o h1 e)) hS' hacc
   rcases List.mem_cons.mp hmem with e' | hmem
   ·exact h1 e'
   ·exact h2 (List.mem_singleton.mp hmem)
 unfold Builtin.List.listExtendWith
 refine wpAny_bind (wpAny_typeOf hT ?_)
 have e0 : Builtin.List.listSameRef (.ref S) (.ref I) = false := by
  show (S == I) = false
  exact beq_eq_false_iff_ne.mpr hSI
 rw [e0, if_neg (by decide +kernel)]
 refine wpAny_bind (wpAny_pyIter_revIter hI ?_)
 refine wpAny_bind (wpAny_holding (aGK hT ?_))
 have e0 : s = { s with heap := s.heap, toks := s.toks } := rfl
 refine wpAny_ite_split (fun _ => ?_) (fun _ => ?_)
 ·refine wpAny_bind (wpAny_rule (wpAny_bind ?_))
  unfold Builtin.List.listTouch
  refine wpAny_bind (wpAny_updateSeq hS rfl ?_)
  have hS₂ := Heap.get?_update_self (Obj.mapSeq fun x => x.push Value.none) hS rfl
  refine wpAny_updateSeq hS₂ rfl ?_
  have hS₃ := Heap.get?_update_self (Obj.mapSeq fun x => x.pop) hS₂ rfl
  refine wpAny_pure ⟨plainId_quiet F.plain_extend_loop _, key _ _ _ (fun b o hb e => ?_) hS₃⟩
  rw [Heap.get?_update_other _ _ (Ne.symm hb), Heap.get?_update_other _ _ (Ne.symm hb)]
  exact e
 ·exact wpAny_pure ⟨plainId_quiet F.plain_extend_loop _, key s.heap c₀ s.toks (fun b o _ e => e) hS⟩
theorem aGI {prog : Program} {w : World} {A : Around} {s : Shared} {R : Result → Shared → Prop} {I l : Addr} {items : Array Value} (hh : A.handled = none) (hI : s.heap.IsRevIter I l ((items.size : Int) - 1)) (hl : s.heap.IsList l items) (hne : l ≠ I) (hn : items.size ≤ sizeLine)
  (S : Addr) (hSI : S ≠ I) (hSl : S ≠ l) (hS : s.heap.get? S = some { cls := .type "list", data := .seq #[] })
  (hR : ∀ (h' : Heap) (tk : Nat) (acc' : Array Value) (c' : Nat), (∀ (b : Addr) (o : Obj), b ≠ S → b ≠ I → s.heap.get? b = some o → h'.get? b = some o) → h'.get? S = some { cls := .type "list", data := .seq acc' c' } → ItemsOf (fun i v => items[items.size - 1 - i]? = some v) acc' items.size → R (.ok (.ret .none)) { s with heap := h', toks := tk }) :
  wpAny (model prog w) A.in1 (Builtin.«list.__init__» { pos := [.ref S, .ref I] }) (fun fin s' => match fin with | .done f => R (.ok f) s' | .again c' => c'.quiet = true ∧ codeAny (model prog w) A c' R s') (fun e s' => R (.error e) s') s := by
 refine wpAny_bind (wpAny_bind (wpAny_seqItems hS rfl (wpAny_pure ?_)))
 refine wpAny_bind (wpAny_updateSeq hS rfl ?_)
 have hS₂ := Heap.get?_update_self (Obj.mapSeq fun x => #[]) hS rfl
 have oth : ∀ (b : Addr) (o : Obj), b ≠ S → s.heap.get? b = some o → (s.heap.update S (Obj.mapSeq fun x => #[])).get? b = some o := fun b o hb e => (Heap.get?_update_other s.heap (Obj.mapSeq fun x => #[]) (Ne.symm hb)).trans e
 refine wpAny_bind (wpAny_letGo ?_)
 refine aAK hh ?_ ?_ hne hn S hSI hSl .none _ hS₂ fun h' tk acc' c' hk hS' hacc => hR h' tk acc' c' (fun b o h1 h2 e => hk b o h1 h2 (oth b o h1 e)) hS' hacc
 ·obtain ⟨o, ho, r⟩ := hI
  exact ⟨o, oth _ _ (Ne.symm hSI) ho, r⟩
 ·obtain ⟨o, ho, r⟩ := hl
  exact ⟨o, oth _ _ (Ne.symm hSl) ho, r⟩
theorem yR {prog : Program} {w : World} {A : Around} {E : Value → Shared → Prop} {s : Shared} {Q : Value → Shared → Prop} {I l : Addr} {items : Array Value} (hh : A.handled = none) (hI : s.heap.IsRevIter I l ((items.size : Int) - 1)) (hl : s.heap.IsList l items) (hne : l ≠ I) (hn : items.size ≤ sizeLine)
  (hQ : ∀ (h' : Heap) (tk : Nat) (acc' : Array Value) (c' : Nat), (∀ (b : Addr) (o : Obj), b ≠ I → s.heap.get? b = some o → h'.get? b = some o) → h'.get? s.heap.objs.size = some { cls := .type "list", data := .seq acc' c' } → ItemsOf (fun i v => items[items.size - 1 - i]? = some v) acc' items.size → Q (.ref s.heap.objs.size) { s with heap := h', toks := tk }) :
  wpAny (model prog w) A (call (.type "list") [.ref I]) Q E s := by
 have lI : I < s.heap.objs.size := by obtain ⟨_, e, _⟩ := hI; exact Heap.lt_size e
 have ll : l < s.heap.objs.size := by obtain ⟨_, e, _⟩ := hl; exact Heap.lt_size e
 refine callType_codes F.called_list (F.typeCall_list_1 (.ref I)) F.entry_list_init (code_list_new (.ref I) (Q₁ := fun o s₁ => o = .ref s.heap.objs.size ∧ s₁ = { s with heap := s.heap.push { cls := .type "list", data := .seq #[] } }) ⟨rfl, rfl⟩) fun obj s₁ h₁ => ?_
 obtain ⟨rfl, rfl⟩ := h₁
 have hS := Heap.get?_push_size (o := { cls := Value.type "list", data := Data.seq #[] }) s.heap rfl
 refine ⟨⟨_, hS, rfl⟩, F.args_list_init_2 _ _, ?_⟩
 refine aGI (A := A.in1) hh ?_ ?_ hne hn s.heap.objs.size (Ne.symm (Nat.ne_of_lt lI)) (Ne.symm (Nat.ne_of_lt ll)) hS fun h' tk acc' c' hk hS' hacc => ⟨rfl, ?_⟩
 ·obtain ⟨o, ho, r⟩ := hI
  exact ⟨o, Heap.get?_push_of_some _ ho, r⟩
 ·obtain ⟨o, ho, r⟩ := hl
  exact ⟨o, Heap.get?_push_of_some _ ho, r⟩
 ·exact hQ h' tk acc' c' (fun b o h1 e => hk b o (Nat.ne_of_lt (Heap.lt_size e)) h1 (Heap.get?_push_of_some _ e)) hS' hacc
theorem uK : bootBuiltins "reversed" = some (.type "reversed") := by decide +kernel
section
variable {X : Cx} {e : Expr} {t : TA} {p1 p2 : Pos} {pos1 pos2 : Pos}
def aLW (K : PySem.W.Frag) : List V → Hp → VK → Prop := fun xs H Q => ∃ p ys, xs = [.ref p] ∧ SqL K H p ys ∧ ∀ l, H l = none → Q (.ref l) (upd H l (.lst ys.reverse))
theorem zT (hc : X.calm = true) (hg1 : Gl X "list") (hm1 : X.mg "list" = none) (hg2 : Gl X "reversed") (hm2 : X.mg "reversed" = none) (ha : PA X [e] t)
  (he1 : starEach [e] X.env = (false, eval e X.env) :: starEach [] X.env := by rfl)
  (he2 : starEach [.Call (.Name "reversed" p2) [e] [] pos2] X.env = (false, eval (.Call (.Name "reversed" p2) [e] [] pos2) X.env) :: starEach [] X.env := by rfl) :
  PE X (.Call (.Name "list" p1) [.Call (.Name "reversed" p2) [e] [] pos2] [] pos1) (tCB (aLW X.K) t) := by
 intro pins s σ H Q I h
 refine wpAny_Call_Name_kw (qA I hg1 hm1 eC ?_ (by decide) (by decide))
 refine PyProof.Rows.callWith_type1 ?_ he2 rfl
 rw [he2]
 show wpAny _ _ (spliced ((false, eval _ X.env) :: backTo pos1 (starEach [] X.env))) _ _ s
 refine Calls.spliced_cons ?_
 refine wpAny_Call_Name_kw (qA I hg2 hm2 uK ?_ (by decide) (by decide))
 refine PyProof.Rows.callWith_type1 (thn (ha pos2 pins s σ H _ I h) fun us s1 ⟨vs, H1, I1, r1, q1⟩ => ?_) he1 rfl
 obtain ⟨p, ys, rfl, hq, q⟩ := q1
 obtain ⟨u, rfl, ru⟩ := bK.one r1
 cases ru
 obtain ⟨its, rv, pl, hz⟩ := I1.list hq
 have hl := pl.isList
 have hlt : p < s1.heap.objs.size := by obtain ⟨_, e, _⟩ := hl; exact Heap.lt_size e
 refine call_reversed_list hl ?_
 refine Calls.spliced_nil ?_
 refine yR (l := p) (items := its.toArray) (I.ok.hd hc) ⟨_, Heap.get?_push_size _ rfl, rfl, rfl⟩ ?_ (Nat.ne_of_lt hlt) (by rw [List.size_toArray, ← rv.length]; exact hz) fun h' tk acc c hk hg hi => ?_
 ·obtain ⟨o, ho, r⟩ := hl
  exact ⟨o, Heap.get?_push_of_some _ ho, r⟩
 have hk' : ∀ (b : Addr) (o : Obj), s1.heap.get? b = some o → h'.get? b = some o := fun b o e => hk b o (Nat.ne_of_lt (Heap.lt_size e)) (Heap.get?_push_of_some _ e)
 have hge : s1.heap.objs.size ≤ (s1.heap.push (revObj p ((its.toArray.size : Int) - 1))).objs.size := by
  rw [show (s1.heap.push (revObj p ((its.toArray.size : Int) - 1))).objs.size = s1.heap.objs.size + 1 from Array.size_push ..]
  exact Nat.le_succ _
 refine ⟨.ref _, _, I1.laid (t' := tk) hk' hge (show cW X.prog X.w _ h' _ (.lst ys.reverse) from ⟨by rw [List.length_reverse]; exact hz, acc.toList, c, ?_, by simpa using hg⟩), rfl, q _ (I1.hok.fresh hge)⟩
 have hlen := rv.length
 have e0 : acc.size = its.length := by rw [hi.1, List.size_toArray]
 refine rN (by rw [List.length_reverse, Array.length_toList, e0, hlen]) fun j u x e1 e2 => ?_
 have e3 := hi.2 j u (by rw [← Array.getElem?_toList]; exact e1)
 have hj : j < ys.length := by
  have := (List.getElem?_eq_some_iff.mp e2).1
  rw [List.length_reverse] at this
  exact this
 rw [List.getElem?_reverse hj] at e2
 have e4 : its[ys.length - 1 - j]? = some u := by
  have : its.toArray[its.toArray.size - 1 - j]? = some u := e3
  rw [List.size_toArray] at this
  rw [hlen]
  simpa using this
 obtain ⟨u', e5, r5⟩ := rv.get e2
 rw [e4] at e5
 cases e5
 exact r5
end
end L2
namespace L2
open PySem PySem.Spec PyProof.Rows
theorem sA : ∀ {ys : List Str} {us : List Value}, bK (ys.map V.str) us → StrsAre us ys
 | [], us, r => by
  rw [List.map_nil] at r
  cases r
  exact .nil
 | b :: bs, us, r => by
  rw [List.map_cons] at r
  cases r with
  | cons r1 r2 =>
   obtain ⟨t, rfl⟩ := r1
   exact .cons b t (sA r2)
section
variable {X : Cx}
theorem aID : MtR X "str.join" (fun x vs H Q => ∃ z p ys, x = .str z ∧ vs = [.ref p] ∧ SqL X.K H p (ys.map V.str) ∧ (ys.map fun y => y.length).sum + ys.length * z.length ≤ 16777216 ∧ Q (.str (Txt.join z ys)) H) := by
 intro pins s σ H x xs v us Q I rx r h
 obtain ⟨z, p, ys, rfl, rfl, hq, hz, q⟩ := h
 obtain ⟨t, rfl⟩ := rx
 obtain ⟨u, rfl, ru⟩ := bK.one r
 cases ru
 obtain ⟨its, rv, pl, hl⟩ := I.list hq
 exact join_list pl.isList (sA rv) hz fun t' k => ⟨.str _, H, I.tok k, ⟨_, rfl⟩, q⟩
end
end L2
namespace L2
open PySem PySem.Spec PyProof.Rows
section
variable {X : Cx}
theorem aEB (hc : X.calm = true) : hG X (.builtin "max") (fun xs H Q => ∃ (p : Addr) (ns : List Int), xs = [.ref p] ∧ SqL X.K H p (ns.map V.int) ∧ 0 < ns.length ∧ ∀ M, M ∈ ns → (∀ a ∈ ns, a ≤ M) → Q (.int M) H) := by
 intro pins s σ H xs us Q I r h
 obtain ⟨p, ns, rfl, hq, h0, q⟩ := h
 obtain ⟨u, rfl, ru⟩ := bK.one r
 cases ru
 obtain ⟨its, rv, pl, hz⟩ := I.list hq
 have hi := tT rv
 obtain ⟨ys, ey⟩ := hi.allInts.items
 have en : ns = ys.toList.map fun x => x.1 := by
  have h1 := nums_intItems ys
  rw [← ey] at h1
  rw [← h1]
  exact hi.numsOf.symm
 have hl : s.heap.IsList p (intItems ys) := by rw [← ey]; exact pl.isList
 have hlen : ns.length = ys.size := by rw [en, List.length_map, Array.length_toList]
 refine max_intList (I.ok.hd hc) hl (by omega) fun v h' tk hv hk => ?_
 obtain ⟨t, rfl⟩ := intItems_at hv
 obtain ⟨g1, g2⟩ := argBest_gt (numAt ys) (ys.size - 1)
 refine ⟨.int _, H, I.kept (t' := tk) hk, ⟨_, rfl⟩, q _ ?_ fun a ma => ?_⟩
 ·rw [numAt_eq, ← en, List.getD_eq_getElem?_getD, List.getElem?_eq_getElem (show argBest (fun i j => decide (numAt ys i > numAt ys j)) (ys.size - 1) < ns.length by omega)]
  exact List.getElem_mem _
 ·obtain ⟨j, hj⟩ := List.mem_iff_getElem?.mp ma
  have hjl := (List.getElem?_eq_some_iff.mp hj).1
  have := g2 j (by omega)
  rw [numAt_eq, ← en, List.getD_eq_getElem?_getD, hj] at this
  exact this
def tL (K : PySem.W.Frag) (t : TE) : TT := fun σ H Q => t σ H fun x H1 => ∃ p xs, x = .ref p ∧ SqL K H1 p xs ∧ Q (!xs.isEmpty) H1
theorem aKB {e : Expr} {t : TE} (h : PE X e t) (he : ∀ whole, isTrue e X.env whole = (do let v ← whole; standAt e.pos; holding [v] (truthy v)) := by intro _; rfl) : PT X e (tL X.K t) := by
 intro pins s σ H Q I hw
 refine isTrue_plain (thn (h pins s σ H _ I hw) fun v s1 ⟨x, H1, I1, r1, q1⟩ => ?_) (he _)
 obtain ⟨p, xs, rfl, hq, q⟩ := q1
 cases r1
 obtain ⟨its, rv, pl, hz⟩ := I1.list hq
 have hlen := rv.length
 refine wpAny_truthy_list pl.isList ?_ ?_
 ·have : (sizeLine : Nat) < 2 ^ 63 := by decide
  rw [List.size_toArray]
  omega
 ·have e : its.toArray.isEmpty = xs.isEmpty := by
   cases xs with
   | nil => cases rv; rfl
   | cons x r => cases rv; rfl
  rw [e]
  exact ⟨H1, I1.tok _, q⟩
end
end L2
namespace L2
open PySem PySem.Spec PyProof.Rows
section
variable {prog : Program} {w : World} {A : Around} {R : Result → Shared → Prop} {I S : Addr} {fp wr : List Addr} {n : Nat} {P : Nat → Value → Prop} {St : Nat → Heap → Prop}
end
section
variable {prog : Program} {w : World} {A : Around} {E : Value → Shared → Prop} {s : Shared}
end
section
variable {X : Cx}
theorem yT (f : Nat → Int) : ∀ k, argBest (fun i j => decide (f i < f j)) k ≤ k ∧ ∀ j ≤ k, f (argBest (fun i j => decide (f i < f j)) k) ≤ f j
 | 0 => ⟨Nat.le_refl _, fun j h => by rw [Nat.le_zero.mp h]; exact Int.le_refl _⟩
 | k + 1 => by
  obtain ⟨a1, a2⟩ := yT f k
  unfold argBest
  by_cases q : f (k + 1) < f (argBest (fun i j => decide (f i < f j)) k)
  ·rw [if_pos (decide_eq_true q)]
   exact ⟨Nat.le_refl _, fun j m => by
    by_cases e : j = k + 1
    ·rw [e]; exact Int.le_refl _
    ·have := a2 j (by omega)
     omega⟩
  ·rw [if_neg (by rw [decide_eq_true_eq]; exact q)]
   exact ⟨by omega, fun j m => by
    by_cases e : j = k + 1
    ·rw [e]; omega
    ·exact a2 j (by omega)⟩
end
end L2
namespace L2
open PySem PySem.Spec PyProof.Rows
def Itd (d : Addr) (o : Obj) (kvs : List (Key × V)) : It :=
 ⟨fun i H => H d = some (.frz o (.dK kvs)) ∧ i < kvs.length, fun i H x H' => H' = H ∧ ∃ kv, kvs[i]? = some kv ∧ x = kV kv.1, fun i H => H d = some (.frz o (.dK kvs)) ∧ kvs.length ≤ i⟩
theorem aCP {P : Program} {w : World} {K : PySem.W.Frag} {tg : Expr} {d it : Addr} {o : Obj} {kvs : List (Key × V)} {vs : List (Key × Value)} {ep : Nat} {h0 : Heap} (kv : KV kvs vs) (hd0 : h0.get? d = some o) (hat : h0.DictAt (aX P w) d vs ep) :
  Turn P w K tg (Itd d o kvs) [it] it (fun i h => h.IsKeyIter it d i vs.length ep) where
 mem := by simp
 obj := fun i h st b hb => by
  have e : b = it := by simpa using hb
  subst e
  obtain ⟨ob, e, c, dd⟩ := st
  exact ⟨ob, e, fun v z => by rw [dd] at z; cases z⟩
 keep := fun i h h' st k => st.at fun ob e => k it (by simp) ob e
 item := by
  intro X hP hw hK hc i pins s σ H E I hf st hg
  subst hP hw hK
  obtain ⟨hH, hi⟩ := hg
  obtain ⟨f0, f1, f2, f3, f4, f5⟩ := hf it (by simp)
  have hget : s.heap.get? d = some o := (show cW X.prog X.w H s.heap d (.frz o (.dK kvs)) from I.hok d _ hH).1
  have hat' := hat.at' (h' := s.heap) fun ob e => by rw [hd0] at e; cases e; exact hget
  have hl := KV.length kv
  obtain ⟨⟨k, v⟩, hx⟩ : ∃ p, vs[i]? = some p := ⟨_, List.getElem?_eq_getElem (by omega)⟩
  obtain ⟨q, eq, e1, e2⟩ := KV.get kv hx
  refine wpAny_pyNext_dict_item st hat' hx fun key h' hkey st' sb => ?_
  have I1 : Inv X pins σ H { s with heap := h' } := I.turned (t' := s.toks) (fun b ob hb e => (sb.2 b hb).trans e) f0 f1 f3 f4 f5
  obtain ⟨ob, e, c, dd⟩ := id st'
  refine ⟨key, rfl, aCE (s := { s with heap := h' }) e c dd (by decide) ⟨kV q.1, H, I1, ?_, ⟨rfl, q, eq, rfl⟩, st', fun b hb => (hf b hb).1⟩⟩
  rw [show q.1 = k from e1]
  exact vJ hkey
 done := by
  intro X hP hw hK hc i pins s σ H E I hf st hg
  subst hP hw hK
  obtain ⟨hH, hi⟩ := hg
  obtain ⟨f0, f1, f2, f3, f4, f5⟩ := hf it (by simp)
  have hget : s.heap.get? d = some o := (show cW X.prog X.w H s.heap d (.frz o (.dK kvs)) from I.hok d _ hH).1
  have hat' := hat.at' (h' := s.heap) fun ob e => by rw [hd0] at e; cases e; exact hget
  have hl := KV.length kv
  exact wpAny_pyNext_dict_end (I.ok.hd hc) st hat' (List.getElem?_eq_none (by omega)) fun h' eb => ⟨rfl, I.turned (t' := s.toks) (fun b ob hb e => eb b ob hb e) f0 f1 f3 f4 f5⟩
 self := fun _ _ _ _ _ st h => wpAny_pyIter_keyiter st h
section
variable {X : Cx} {tg : Expr}
def aML (td : TE) : TI := fun σ H R => td σ H fun x H1 => ∃ d kvs, x = .ref d ∧ H1 d = some (.dK kvs) ∧ ∀ o, R (Itd d o kvs) (upd H1 d (.frz o (.dK kvs)))
theorem rS {l : Expr} {tl : TE} (hl : PE X l tl) : PI X tg l (aML tl) := by
 intro pins s σ H R I h
 refine thn (hl pins s σ H _ I h) fun v s1 ⟨x, H1, I1, r1, q1⟩ => ?_
 obtain ⟨d, kvs, e, hH, q⟩ := q1
 subst e
 cases r1
 have hok := I1.hok d _ hH
 obtain ⟨hz, lo, vs, kv, hD⟩ := id hok
 obtain ⟨ep, hat⟩ := hD.dictAt
 obtain ⟨o, es, ho, _⟩ := id hat
 refine wpAny_pyIter_dict lo hat ?_
 have I2 : Inv X pins σ (upd H1 d (.frz o (.dK kvs))) s1 := I1.write (x := d) (e := d) (o := .frz o (.dK kvs)) (h' := s1.heap) (t' := s1.toks) (by rw [hH]; exact trivial) (.inl rfl) (fun _ _ _ q => q) ⟨o, ho⟩ ⟨ho, hz, lo, vs, kv, hD⟩
 refine ⟨s1.heap.objs.size, [s1.heap.objs.size], _, _, upd H1 d (.frz o (.dK kvs)), rfl, I2.kept (t' := s1.toks) fun b ob e => Heap.get?_push_of_some _ e, aCP kv ho hat, ⟨_, Heap.get?_push_size _ rfl, rfl, rfl⟩, fun b hb => ?_, q o⟩
 have e : b = s1.heap.objs.size := by simpa using hb
 subst e
 exact I2.fpOk (Nat.le_refl _) (I2.hok.fresh (Nat.le_refl _))
theorem nV {d : Addr} {o : Obj} {kvs : List (Key × V)} {σb : St} {g : TG} {tt : TT} {te : TE} {fin : List V → Hp → Prop} {H : Hp} (hz : kvs.length ≤ sizeLine) (Pv : Nat → List V → Hp → Prop) (h0 : Pv 0 [] H)
  (hl : ∀ i ys H, i ≤ kvs.length → Pv i ys H → H d = some (.frz o (.dK kvs)) ∧ ys.length ≤ i)
  (hs : ∀ i kv ys H (K : VK) (K' : Hp → Prop), kvs[i]? = some kv → Pv i ys H → (∀ y H4, Pv (i + 1) (ys ++ [y]) H4 → K y H4) → (∀ H3, Pv (i + 1) ys H3 → K' H3) →
   g (kV kv.1) σb H fun σ2 H2 => tt σ2 H2 fun b H3 => if b = true then te σ2 H3 K else K' H3)
  (hd : ∀ ys H, Pv kvs.length ys H → fin ys H) : ∃ W : CW, (∃ m, W 0 m [] H) ∧ ∀ i m ys H, W i m ys H → vA σb (Itd d o kvs) g tt te W fin i m ys H := by
 refine ⟨fun i m ys H => m = kvs.length - i ∧ i ≤ kvs.length ∧ Pv i ys H, ⟨kvs.length, by simp, Nat.zero_le _, h0⟩, ?_⟩
 rintro i m ys H ⟨rfl, hi, p⟩
 obtain ⟨q, ql⟩ := hl i ys H hi p
 by_cases hlt : i < kvs.length
 ·refine .inr ⟨⟨q, hlt⟩, by omega, fun x H' y => ?_⟩
  obtain ⟨e, kv, ek, ex⟩ := y
  subst e ex
  exact hs i kv ys _ _ _ ek p (fun y H4 q => ⟨kvs.length - (i + 1), by omega, rfl, hlt, q⟩) fun H3 q => ⟨kvs.length - (i + 1), by omega, rfl, hlt, q⟩
 ·have e : i = kvs.length := by omega
  subst e
  exact .inl ⟨⟨q, Nat.le_refl _⟩, hd ys H p⟩
end
end L2
namespace L2
open PySem PySem.Spec PyProof.Rows
section
variable {X : Cx}
end
end L2
namespace L2
open PySem PySem.Spec PyProof.Rows
def CX2 (P : Program) (w : World) : CXT := fun outer H s E e s' => ∃ (ea : Addr) (cls a0 : Value) (B : Heap) (H' : Hp), e = .ref ea ∧ s'.os = s.os ∧ AllBare s'.gens ∧ Un (frs outer) [] H H' s.heap s'.heap ∧ HOk P w H' s'.heap ∧
 Heap.FlyingW B outer ea cls a0 s'.heap ∧ (∀ b o o', s.heap.get? b = some o → s'.heap.get? b = some o' → b ∉ frs outer → B.get? b = some o') ∧ (∀ b o', H' b ≠ none → s'.heap.get? b = some o' → B.get? b = some o') ∧ E cls none H'
section
variable {X : Cx} {pins : List (Addr × Obj)} {σ : St} {H H' : Hp} {s s' : Shared} {B h2 : Heap} {ea : Addr} {cls a0 : Value}
end
section
variable {P : Program} {w : World} {K : PySem.W.Frag} {mg : Str → Option Value} {base : Heap} {N : List Str} {qual : Str} {scope : Scope} {f : Addr} {cd : Value} {A : Around} {outer : List Env} {s : Shared} {H : Hp} {E : XK}
end
end L2
namespace L2
open PySem PySem.Spec PyProof.Rows
abbrev aLF : List Value := [.type "ValueError", .type "Exception", .type "BaseException", .type "object"]
structure ExcC (K : PySem.W.Frag) (C : Addr) : Prop where
 q : PySem.W.excIn K C aLF "ValueError.__new__" = true
section
variable {X : Cx} {C : Addr} {x : Str} {E : XK} {np cpos pos : Pos} {e : Expr} {es : List Expr} {t : TA}
end
def CAt (X : Cx) (pins : List (Addr × Obj)) (σ : St) (E : XK) (e : Value) (s' : Shared) : Prop := ∃ s1 H1, Inv X pins σ H1 s1 ∧ CX2 X.prog X.w X.stack H1 s1 E e s'
abbrev TX := XK → TE
section
variable {X : Cx} {k : Nat} {f C : Addr} {fd : FuncData} {ps : List Str} {sp : Sp} {E : XK} {x m : Str} {p pos apos : Pos} {e o : Expr} {es : List Expr} {ta : TE} {t : TA}
end
end L2
namespace L2
open PySem PySem.Spec PyProof.Rows
structure FcX (P : Program) (w : World) (K : PySem.W.Frag) (mg : Str → Option Value) (base : Heap) (k : Nat) (x : Str) (ps : List Str) (sp : Sp) : Prop where
 ex : ∃ (f : Addr) (fd : FuncData), FnOk P w K mg base (CX2 P w) k f fd ps sp ∧ iC K fd ps [] ∧ mg x = some (.ref f) ∧ PySem.W.keepIn K (.ref f) = true
structure McX (P : Program) (w : World) (K : PySem.W.Frag) (mg : Str → Option Value) (base : Heap) (k : Nat) (C : Addr) (m : Str) (ps : List Str) (sp : Sp) : Prop where
 ex : ∃ (f : Addr) (fd : FuncData), FnOk P w K mg base (CX2 P w) k f fd ps sp ∧ iC K fd ps [] ∧ Meth K C m f
structure IcX (P : Program) (w : World) (K : PySem.W.Frag) (mg : Str → Option Value) (base : Heap) (k : Nat) (C : Addr) (ps : List Str) (sp : Sp) : Prop where
 ex : ∃ (f : Addr) (fd : FuncData), FnOk P w K mg base (CX2 P w) k f fd ps sp ∧ iC K fd ps [] ∧ Mk K C f
section
variable {P : Program} {w : World} {K : PySem.W.Frag} {mg : Str → Option Value} {base : Heap} {C : Addr} {x m qual : Str} {st : Stmt} {N ps : List Str} {k : Nat} {sp sp' : Sp}
end
section
variable {X : Cx} {k : Nat} {C : Addr} {ps : List Str} {sp : Sp} {E : XK} {x m : Str} {p pos apos : Pos} {e o : Expr} {es : List Expr} {ta : TE} {t : TA}
abbrev TB := XK → TS
end
end L2
namespace L2
open PySem PySem.Spec PyProof.Rows
abbrev Cx.held (X : Cx) (ea : Addr) : Cx := { X with A := X.A.mark (some (.ref ea)), calm := false, xe := fun _ _ => False }
section
variable {X : Cx} {pins : List (Addr × Obj)} {σ : St} {H H' : Hp} {s s' : Shared} {ea : Addr}
end
section
variable {X : Cx} {C : Addr} {x : Str} {np hpos pos : Pos} {body suite : List Stmt} {b₀ : Stmt} {tb : TB} {ts : TS}
end
end L2
namespace L2
open PySem PySem.Spec PyProof.Rows
def aNU (a : Addr) (cls : Value) (h : Heap) : Prop := ∃ o vs, h.get? a = some o ∧ o.cls = cls ∧ o.data = .fields vs
def excO (a : Addr) (cls : Value) : HO := .ext (aNU a cls)
section
variable {X : Cx} {pins : List (Addr × Obj)} {σ : St} {H H' : Hp} {s s' : Shared} {B h2 : Heap} {ea : Addr} {cls a0 : Value}
end
section
variable {X : Cx} {C : Addr} {x n : Str} {np hpos pos : Pos} {body suite : List Stmt} {b₀ : Stmt} {tb : TB} {ts : TS} {i : Nat}
def Ends.gone (D : Ends) (i : Nat) : Ends := { nx := fun σ H => D.nx (σ.set i none) H, rt := D.rt, bk := fun σ H => D.bk (σ.set i none) H, ct := fun σ H => D.ct (σ.set i none) H }
end
end L2
namespace L2
open PySem PySem.Spec PyProof.Rows
section
open PySem.W PySem.Calls PySem.Builtin PySem.Builtin.ObjectAttr PySem.Builtin.Getset_descriptor
variable {prog : Program} {w : World} {A : Around} {E : Value → Shared → Prop} {s : Shared} {K : PySem.W.Frag} {x C : Addr}
end
structure ExA (K : PySem.W.Frag) (C : Addr) : Prop where
 ex : ExcC K C
 em : PySem.W.exmOne K (.ref C) (.ref C) = some true
structure ExI (K : PySem.W.Frag) (C : Addr) : Prop extends ExA K C where
 pg : PySem.W.plainGet K C "__class__" = true
 ic : InstC K C
end L2
namespace L2
open PySem PySem.Spec PyProof.Rows
section
open PySem.W PySem.Calls PySem.Builtin PySem.Builtin.ObjectAttr PySem.Builtin.Getset_descriptor
variable {prog : Program} {w : World} {A : Around} {E : Value → Shared → Prop} {s : Shared} {K : PySem.W.Frag} {x C : Addr}
end
structure ExJ (K : PySem.W.Frag) (C : Addr) : Prop extends ExA K C where
 ga : PySem.W.findIn K (.ref C) "__getattribute__" = some (some (.builtin "BaseException.__getattribute__"))
 gt : PySem.W.findIn K (.ref C) "__getattr__" = some none
 mb : PySem.W.mroIn K C (.type "BaseException") = some true
 ic : InstC K C
end L2
namespace L2
open PySem PySem.Spec PyProof.Rows
section
variable {X : Cx} {k : Nat} {ps : List Str} {sp : Sp} {x : Str} {p pos : Pos} {e : Expr} {es : List Expr} {t : TA} {E : XK}
end
end L2
namespace Mt46
open PySem L2 Ld Mt21
def units : List Int := [1, 3, 5, 7, 9, 11, 15, 17, 19, 21, 23, 25]
theorem aEI : ∀ u ∈ units, ∀ d ∈ List.range 26, d ≠ 0 → ((d : Int) * u) % 26 ≠ 0 := by decide +kernel
theorem aLA {i j : Int} (e : ab i = ab j) : i % 26 = j % 26 := by
 unfold ab at e
 have h1 := Int.emod_nonneg i (show (26 : Int) ≠ 0 by decide)
 have h2 := Int.emod_nonneg j (show (26 : Int) ≠ 0 by decide)
 omega
theorem aBC {u r : Int} (hu : u ∈ units) {k l : Nat} (hl : l < 26) (h : k < l) (e : ab ((k : Int) * u + r) = ab ((l : Int) * u + r)) : False := by
 have e1 := (Int.emod_eq_emod_iff_emod_sub_eq_zero).mp (aLA e.symm)
 have e2 : (l : Int) * u + r - ((k : Int) * u + r) = ((l - k : Nat) : Int) * u := by
  rw [Int.ofNat_sub (by omega), Int.sub_mul]
  omega
 rw [e2] at e1
 exact aEI u hu (l - k) (List.mem_range.mpr (by omega)) (by omega) e1
theorem aEJ {u r : Int} (hu : u ∈ units) {k l : Nat} (hk : k < 26) (hl : l < 26) (e : ab ((k : Int) * u + r) = ab ((l : Int) * u + r)) : k = l := by
 rcases Nat.lt_trichotomy k l with h | h | h
 ·exact (aBC hu hl h e).elim
 ·exact h
 ·exact (aBC hu hk h e.symm).elim
theorem aAC (a : Str) : ∀ l : List Str, l.Nodup → l.length ≤ (l.filter fun z => !decide (z = a)).length + 1
 | [], _ => by simp
 | z :: l, nd => by
  rw [List.nodup_cons] at nd
  by_cases h : z = a
  ·have e : (l.filter fun z => !decide (z = a)) = l := by
    rw [List.filter_eq_self]
    intro y my
    have : y ≠ a := fun e => nd.1 (by rw [h, ← e]; exact my)
    simp [this]
   rw [List.filter_cons_of_neg (by simp [h]), e]
   simp
  ·rw [List.filter_cons_of_pos (by simp [h])]
   have := aAC a l nd.2
   simp only [List.length_cons]
   omega
structure Nm (zs : List Str) : Prop where
 nd : zs.Nodup
 nm : ∀ z ∈ zs, fC z = true
 l1 : 25 ≤ zs.length
 l2 : zs.length ≤ 26
theorem aMA {b : Str} {sz pl : Nat} {u r : Int} {g : Nat → Str} (hb : b.cps.toList.all iG = true) (hl : b.length = sz) (h1 : 1 ≤ sz) (h8 : sz ≤ 8) (hp : pl < sz) (hu : u ∈ units)
  (pu : ∀ k, k < 26 → (g k).cps.toList = b.cps.toList.take pl ++ [ab ((k : Int) * u + r)] ++ b.cps.toList.drop (pl + 1)) : Nm (((List.range 26).map g).filter fun z => !decide (z = "sea")) := by
 have bl : b.cps.toList.length = sz := by rw [← jM]; exact hl
 have lg : ∀ k, k < 26 → (g k).length = sz := fun k hk => by
  rw [jM, pu k hk, List.length_append, List.length_append, List.length_take, List.length_drop, bl]
  show min pl sz + 1 + (sz - (pl + 1)) = sz
  omega
 have nd : ((List.range 26).map g).Nodup := yM fun k l hk hl e => by
  have e1 : (g k).cps.toList = (g l).cps.toList := by rw [e]
  rw [pu k hk, pu l hl, List.append_assoc, List.append_assoc] at e1
  have e2 := List.append_cancel_left e1
  rw [List.singleton_append, List.singleton_append] at e2
  exact aEJ hu hk hl (List.cons.inj e2).1
 have ln := aAC "sea" _ nd
 rw [List.length_map, List.length_range] at ln
 have lf := List.length_filter_le (fun z => !decide (z = ("sea" : Str))) ((List.range 26).map g)
 rw [List.length_map, List.length_range] at lf
 refine ⟨nd.sublist List.filter_sublist, fun z mz => ?_, by omega, lf⟩
 obtain ⟨m1, m2⟩ := List.mem_filter.mp mz
 obtain ⟨k, mk, rfl⟩ := List.mem_map.mp m1
 have hk := List.mem_range.mp mk
 have all : (g k).cps.toList.all iG = true := by
  rw [pu k hk, List.all_append, List.all_append]
  have hb' := List.all_eq_true.mp hb
  rw [List.all_eq_true.mpr fun x m => hb' x (List.mem_of_mem_take m), List.all_eq_true.mpr fun x m => hb' x (List.mem_of_mem_drop m)]
  simp [wF]
 unfold fC
 rw [lg k hk, decide_eq_true h1, decide_eq_true h8, m2, all]
 rfl
theorem aNW {i : Int} (h0 : 0 ≤ i) (h1 : i < 12) : ∃ u ∈ units, atI ([.int 1, .int 3, .int 5, .int 7, .int 9, .int 11, .int 15, .int 17, .int 19, .int 21, .int 23, .int 25] : List V) i = some (.int u) := by
 obtain ⟨k, rfl⟩ := Int.eq_ofNat_of_zero_le h0
 have hk : k < 12 := by omega
 have hk2 : k < units.length := hk
 refine ⟨units[k], List.getElem_mem hk2, aJ ?_⟩
 show (units.map V.int)[k]? = some (V.int units[k])
 rw [List.getElem?_map, List.getElem?_eq_getElem hk2]
 rfl
end Mt46
namespace L2
open PySem PySem.Spec PyProof.Rows
section
variable {X : Cx} {tg : Expr}
theorem aEA (hc : X.calm = true) : hG X (.builtin "min") (fun xs H Q => ∃ (p : Addr) (ns : List Int), xs = [.ref p] ∧ SqL X.K H p (ns.map V.int) ∧ 0 < ns.length ∧ ∀ M, M ∈ ns → (∀ a ∈ ns, M ≤ a) → Q (.int M) H) := by
 intro pins s σ H xs us Q I r h
 obtain ⟨p, ns, rfl, hq, h0, q⟩ := h
 obtain ⟨u, rfl, ru⟩ := bK.one r
 cases ru
 obtain ⟨its, rv, pl, hz⟩ := I.list hq
 have hi := tT rv
 obtain ⟨ys, ey⟩ := hi.allInts.items
 have en : ns = ys.toList.map fun x => x.1 := by
  have h1 := nums_intItems ys
  rw [← ey] at h1
  rw [← h1]
  exact hi.numsOf.symm
 have hl : s.heap.IsList p (intItems ys) := by rw [← ey]; exact pl.isList
 have hlen : ns.length = ys.size := by rw [en, List.length_map, Array.length_toList]
 refine min_intList (I.ok.hd hc) hl (by omega) fun v h' tk hv hk => ?_
 obtain ⟨tv, rfl⟩ := intItems_at hv
 obtain ⟨g1, g2⟩ := yT (numAt ys) (ys.size - 1)
 refine ⟨.int _, H, I.kept (t' := tk) hk, ⟨_, rfl⟩, q _ ?_ fun a ma => ?_⟩
 ·rw [numAt_eq, ← en, List.getD_eq_getElem?_getD, List.getElem?_eq_getElem (show argBest (fun i j => decide (numAt ys i < numAt ys j)) (ys.size - 1) < ns.length by omega)]
  exact List.getElem_mem _
 ·obtain ⟨j, hj⟩ := List.mem_iff_getElem?.mp ma
  have hjl := (List.getElem?_eq_some_iff.mp hj).1
  have := g2 j (by omega)
  rw [numAt_eq ys j, ← en, List.getD_eq_getElem?_getD, hj] at this
  exact this
end
end L2
namespace K48
open PySem L2
local macro_rules | `(tactic| trivial) => `(tactic| first | exact .inl rfl | exact .inr rfl | assumption)
def top (i : Nat) : Stmt := PySem.Challenge.pw_dykemoot_k48_whole_days_walked.main.body.getD i (.Pass ⟨0, 0, 0, 0⟩)
abbrev pF : Stmt := top 0
abbrev hU : Stmt := top 15
theorem uP : FnScope ["thing"] ["thing"] (aF hU) := ⟨rfl, rfl, rfl, by decide +kernel, rfl, by decide +kernel, by decide +kernel⟩
abbrev iS : Stmt := top 16
theorem wM : FnScope ["thing"] ["thing"] (aF iS) := ⟨rfl, rfl, rfl, by decide +kernel, rfl, by decide +kernel, by decide +kernel⟩
abbrev gA : Stmt := top 17
theorem sJ : FnScope ["thing"] ["thing"] (aF gA) := ⟨rfl, rfl, rfl, by decide +kernel, rfl, by decide +kernel, by decide +kernel⟩
abbrev gD : Stmt := top 18
theorem sM : FnScope ["thing"] ["thing"] (aF gD) := ⟨rfl, rfl, rfl, by decide +kernel, rfl, by decide +kernel, by decide +kernel⟩
abbrev fZ : Stmt := top 19
theorem mQ : FnScope ["thing", "names"] ["thing", "names"] (aF fZ) := ⟨rfl, rfl, rfl, by decide +kernel, rfl, by decide +kernel, by decide +kernel⟩
abbrev fJ : Stmt := top 20
theorem rB : FnScope ["thing", "most"] ["thing", "most"] (aF fJ) := ⟨rfl, rfl, rfl, by decide +kernel, rfl, by decide +kernel, by decide +kernel⟩
abbrev eT : Stmt := top 21
theorem pW : FnScope ["thing", "length"] ["thing", "length"] (aF eT) := ⟨rfl, rfl, rfl, by decide +kernel, rfl, by decide +kernel, by decide +kernel⟩
abbrev fI : Stmt := top 22
theorem rA : FnScope ["rows"] ["rows"] (aF fI) := ⟨rfl, rfl, rfl, by decide +kernel, rfl, by decide +kernel, by decide +kernel⟩
abbrev hV : Stmt := top 23
theorem uQ : FnScope ["thing"] ["thing"] (aF hV) := ⟨rfl, rfl, rfl, by decide +kernel, rfl, by decide +kernel, by decide +kernel⟩
abbrev fK : Stmt := top 24
theorem rC : FnScope ["thing"] ["thing"] (aF fK) := ⟨rfl, rfl, rfl, by decide +kernel, rfl, by decide +kernel, by decide +kernel⟩
abbrev gE : Stmt := top 25
theorem sN : FnScope ["one", "other", "sides"] ["one", "other", "sides"] (aF gE) := ⟨rfl, rfl, rfl, by decide +kernel, rfl, by decide +kernel, by decide +kernel⟩
abbrev iR : Stmt := top 26
theorem wL : FnScope ["thing", "crown"] ["thing", "crown"] (aF iR) := ⟨rfl, rfl, rfl, by decide +kernel, rfl, by decide +kernel, by decide +kernel⟩
abbrev iT : Stmt := top 27
theorem wN : FnScope ["thing", "sides"] ["thing", "sides"] (aF iT) := ⟨rfl, rfl, rfl, by decide +kernel, rfl, by decide +kernel, by decide +kernel⟩
abbrev gG : Stmt := top 28
theorem sO : FnScope ["thing", "sides"] ["thing", "sides"] (aF gG) := ⟨rfl, rfl, rfl, by decide +kernel, rfl, by decide +kernel, by decide +kernel⟩
abbrev hW : Stmt := dO (top 29) 0
theorem uR : FnScope ["self", "fields", "dykes"] ["self", "fields", "dykes"] (aF hW) := ⟨rfl, rfl, rfl, by decide +kernel, rfl, by decide +kernel, by decide +kernel⟩
abbrev gP : Stmt := dO (top 29) 1
abbrev fL : Stmt := dO (top 29) 2
theorem rD : FnScope ["self"] ["self"] (aF fL) := ⟨rfl, rfl, rfl, by decide +kernel, rfl, by decide +kernel, by decide +kernel⟩
abbrev cS : Stmt := dO (top 29) 3
theorem mL : FnScope ["self"] ["self"] (aF cS) := ⟨rfl, rfl, rfl, by decide +kernel, rfl, by decide +kernel, by decide +kernel⟩
abbrev eF : Stmt := dO (top 29) 4
abbrev eK : Stmt := dO (top 29) 5
theorem pE : FnScope ["self"] ["self"] (aF eK) := ⟨rfl, rfl, rfl, by decide +kernel, rfl, by decide +kernel, by decide +kernel⟩
abbrev eV : Stmt := dO (top 29) 6
theorem pX : FnScope ["self", "field"] ["self", "field"] (aF eV) := ⟨rfl, rfl, rfl, by decide +kernel, rfl, by decide +kernel, by decide +kernel⟩
abbrev iM : Stmt := dO (top 29) 7
abbrev gH : Stmt := dO (top 29) 8
theorem sP : FnScope ["self", "name"] ["self", "name"] (aF gH) := ⟨rfl, rfl, rfl, by decide +kernel, rfl, by decide +kernel, by decide +kernel⟩
abbrev gO : Stmt := dO (top 29) 9
abbrev dY : Stmt := top 31
theorem jS : FnScope ["land", "thing", "sluices"] ["land", "thing"] (aF dY) := ⟨rfl, rfl, rfl, by decide +kernel, rfl, by decide +kernel, by decide +kernel⟩
abbrev jU : Stmt := top 32
theorem xY : FnScope ["land", "opened"] ["land", "opened"] (aF jU) := ⟨rfl, rfl, rfl, by decide +kernel, rfl, by decide +kernel, by decide +kernel⟩
abbrev eI : Stmt := top 33
theorem dS : FnScope ["land", "stand_of", "steps", "dyke", "near", "far"] ["land", "stand_of"] (aF eI) := ⟨rfl, rfl, rfl, by decide +kernel, rfl, by decide +kernel, by decide +kernel⟩
abbrev dX : Stmt := top 34
theorem bS : FnScope ["land", "opened", "steps", "lowest", "turn", "name", "near", "far", "height", "reached"] ["land", "opened"] (aF dX) := ⟨rfl, rfl, rfl, by decide +kernel, rfl, by decide +kernel, by decide +kernel⟩
abbrev gC : Stmt := top 42
theorem sL : FnScope ["number", "turn"] ["number", "turn"] (aF gC) := ⟨rfl, rfl, rfl, by decide +kernel, rfl, by decide +kernel, by decide +kernel⟩
abbrev eJ : Stmt := top 43
theorem pB : FnScope ["thing", "fields"] ["thing", "fields"] (aF eJ) := ⟨rfl, rfl, rfl, by decide +kernel, rfl, by decide +kernel, by decide +kernel⟩
abbrev gB : Stmt := top 44
theorem sK : FnScope ["thing", "sluices", "fields"] ["thing", "sluices", "fields"] (aF gB) := ⟨rfl, rfl, rfl, by decide +kernel, rfl, by decide +kernel, by decide +kernel⟩
abbrev eU : Stmt := top 45
theorem iD : FnScope ["land", "thing", "sluices", "fields"] ["land", "thing"] (aF eU) := ⟨rfl, rfl, rfl, by decide +kernel, rfl, by decide +kernel, by decide +kernel⟩
abbrev dZ : Stmt := top 46
theorem oJ : FnScope ["land", "thing"] ["land", "thing"] (aF dZ) := ⟨rfl, rfl, rfl, by decide +kernel, rfl, by decide +kernel, by decide +kernel⟩
abbrev jX : Stmt := top 47
theorem yA : FnScope ["decrees"] ["decrees"] (aF jX) := ⟨rfl, rfl, rfl, by decide +kernel, rfl, by decide +kernel, by decide +kernel⟩
abbrev dA : Stmt := top 48
theorem mR : FnScope ["condition", "level", "wet", "day"] ["condition", "level", "wet", "day"] (aF dA) := ⟨rfl, rfl, rfl, by decide +kernel, rfl, by decide +kernel, by decide +kernel⟩
abbrev lB : Stmt := top 49
theorem zO : FnScope ["decree", "level", "wet", "day"] ["decree", "level", "wet", "day"] (aF lB) := ⟨rfl, rfl, rfl, by decide +kernel, rfl, by decide +kernel, by decide +kernel⟩
abbrev fY : Stmt := top 50
theorem jR : FnScope ["land", "decrees", "opened", "level", "wet", "day", "stand_open", "decree"] ["land", "decrees", "opened", "level", "wet", "day"] (aF fY) := ⟨rfl, rfl, rfl, by decide +kernel, rfl, by decide +kernel, by decide +kernel⟩
abbrev jW : Stmt := top 52
theorem xZ : FnScope ["height", "ground", "level", "was_wet"] ["height", "ground", "level", "was_wet"] (aF jW) := ⟨rfl, rfl, rfl, by decide +kernel, rfl, by decide +kernel, by decide +kernel⟩
abbrev fG : Stmt := top 53
theorem mI : FnScope ["land", "opened", "level", "before", "heights"] ["land", "opened", "level", "before"] (aF fG) := ⟨rfl, rfl, rfl, by decide +kernel, rfl, by decide +kernel, by decide +kernel⟩
abbrev fD : Stmt := dO (top 54) 0
theorem qY : FnScope ["self", "land", "decrees"] ["self", "land", "decrees"] (aF fD) := ⟨rfl, rfl, rfl, by decide +kernel, rfl, by decide +kernel, by decide +kernel⟩
abbrev fF : Stmt := dO (top 54) 1
theorem iY : FnScope ["self", "level", "land", "name"] ["self", "level"] (aF fF) := ⟨rfl, rfl, rfl, by decide +kernel, rfl, by decide +kernel, by decide +kernel⟩
abbrev gN : Stmt := dO (top 54) 2
abbrev dW : Stmt := dO (top 54) 3
theorem oI : FnScope ["self"] ["self"] (aF dW) := ⟨rfl, rfl, rfl, by decide +kernel, rfl, by decide +kernel, by decide +kernel⟩
abbrev fE : Stmt := dO (top 54) 4
theorem qZ : FnScope ["self"] ["self"] (aF fE) := ⟨rfl, rfl, rfl, by decide +kernel, rfl, by decide +kernel, by decide +kernel⟩
abbrev fQ : Stmt := dO (top 54) 5
abbrev eE : Stmt := dO (top 54) 6
abbrev gM : Stmt := dO (top 54) 7
abbrev jV : Stmt := top 56
theorem iP : FnScope ["starts", "steps", "came", "waiting", "near", "step"] ["starts", "steps"] (aF jV) := ⟨rfl, rfl, rfl, by decide +kernel, rfl, by decide +kernel, by decide +kernel⟩
abbrev iQ : Stmt := top 57
theorem jF : FnScope ["came", "side", "path", "step"] ["came", "side"] (aF iQ) := ⟨rfl, rfl, rfl, by decide +kernel, rfl, by decide +kernel, by decide +kernel⟩
abbrev jT : Stmt := top 59
theorem mP : FnScope ["land", "opened", "field", "height", "steps"] ["land", "opened", "field"] (aF jT) := ⟨rfl, rfl, rfl, by decide +kernel, rfl, by decide +kernel, by decide +kernel⟩
abbrev fH : Stmt := top 60
theorem iZ : FnScope ["land", "opened", "field", "heights", "least"] ["land", "opened", "field"] (aF fH) := ⟨rfl, rfl, rfl, by decide +kernel, rfl, by decide +kernel, by decide +kernel⟩
abbrev lD : Stmt := top 62
theorem oK : FnScope ["_law_script", "_law_k", "_law_number"] ["_law_script", "_law_k"] (aF lD) := ⟨rfl, rfl, rfl, by decide +kernel, rfl, by decide +kernel, by decide +kernel⟩
abbrev lC : Stmt := top 63
theorem eP : FnScope ["_law_cell", "_law_letters", "_law_size", "_law_place", "_law_by", "_law_base", "_law_found", "_law_k", "_law_sign"] ["_law_cell"] (aF lC) := ⟨rfl, rfl, rfl, by decide +kernel, rfl, by decide +kernel, by decide +kernel⟩
abbrev jZ : Stmt := top 64
theorem yB : FnScope ["_law_cell"] ["_law_cell"] (aF jZ) := ⟨rfl, rfl, rfl, by decide +kernel, rfl, by decide +kernel, by decide +kernel⟩
abbrev kA : Stmt := top 65
theorem gY : FnScope ["_law_script", "_law_most", "_law_names_here", "_law_fields_here", "_law_k", "_law_cell", "_law_dues"] ["_law_script", "_law_most"] (aF kA) := ⟨rfl, rfl, rfl, by decide +kernel, rfl, by decide +kernel, by decide +kernel⟩
abbrev lE : Stmt := top 66
theorem cP : FnScope ["_law_script", "_law_at", "_law_most", "_law_fields_here", "_law_names_here", "_law_sides", "_law_dykes_here", "_law_k", "_law_cell", "_law_one", "_law_others", "_law_other", "_law_crown", "_law_rate", "_law_sill"] ["_law_script", "_law_at", "_law_most", "_law_fields_here"] (aF lE) := ⟨rfl, rfl, rfl, by decide +kernel, rfl, by decide +kernel, by decide +kernel⟩
abbrev jY : Stmt := top 67
theorem eO : FnScope ["_law_dykes_here", "_law_opened_here", "_law_told_stands", "_law_name", "_law_one", "_law_other", "_law_crown", "_law_rate", "_law_sill"] ["_law_dykes_here", "_law_opened_here"] (aF jY) := ⟨rfl, rfl, rfl, by decide +kernel, rfl, by decide +kernel, by decide +kernel⟩
abbrev iU : Stmt := top 68
theorem dU : FnScope ["_law_script", "_law_at", "_law_most", "_law_fields_here", "_law_dykes_here", "_law_sluices", "_law_decrees_here", "_law_k", "_law_cell", "_law_conditions", "_law_j", "_law_spot"] ["_law_script", "_law_at", "_law_most", "_law_fields_here", "_law_dykes_here"] (aF iU) := ⟨rfl, rfl, rfl, by decide +kernel, rfl, by decide +kernel, by decide +kernel⟩
abbrev gI : Stmt := top 69
theorem dI : FnScope ["_law_cell", "_law_fields_here", "_law_height_here", "_law_name", "_law_turn", "_law_some"] ["_law_cell", "_law_fields_here"] (aF gI) := ⟨rfl, rfl, rfl, by decide +kernel, rfl, by decide +kernel, by decide +kernel⟩
abbrev pG : Stmt := top 72
theorem fX : FnScope ["_law_land", "_law_opened_here", "_law_name", "_law_way_here", "_law_told_stands", "_law_here", "_law_heights", "_law_step", "_law_one", "_law_other"] ["_law_land", "_law_opened_here", "_law_name"] (aF pG) := ⟨rfl, rfl, rfl, by decide +kernel, rfl, by decide +kernel, by decide +kernel⟩
abbrev mT : Stmt := top 73
theorem dQ : FnScope ["_law_land", "_law_opened_here", "_law_name", "_law_ring_here", "_law_told_stands", "_law_heights", "_law_step", "_law_one", "_law_other", "_law_crown", "_law_rate", "_law_sill", "_law_inner", "_law_outer"] ["_law_land", "_law_opened_here", "_law_name"] (aF mT) := ⟨rfl, rfl, rfl, by decide +kernel, rfl, by decide +kernel, by decide +kernel⟩
abbrev mU : Stmt := top 74
theorem lA : FnScope ["_law_land", "_law_opened_here", "_law_level", "_law_name", "_law_told", "_law_wet", "_law_before", "_law_way_here", "_law_ring_here"] ["_law_land", "_law_opened_here", "_law_level", "_law_name", "_law_told"] (aF mU) := ⟨rfl, rfl, rfl, by decide +kernel, rfl, by decide +kernel, by decide +kernel⟩
abbrev nO : Stmt := top 75
theorem dH : FnScope ["_law_script", "_law_fields_here", "_law_dykes_here", "_law_decrees_here", "_law_land", "_law_season", "_law_before", "_law_k", "_law_level", "_law_opened_here", "_law_wet", "_law_name", "_law_ground", "_law_dues"] ["_law_script"] (aF nO) := ⟨rfl, rfl, rfl, by decide +kernel, rfl, by decide +kernel, by decide +kernel⟩
structure Txt (K : PySem.W.Frag) (mg : Str → Option Value) (C : Addr) : Prop where
 cl_Land : Cls K C
 mg_Land : mg "Land" = some (.ref C)
 a_field_rows : gX K C "field_rows"
 a_dyke_rows : gX K C "dyke_rows"
 i_Land : InitAt K C "Land.__init__" hW ["self", "fields", "dykes"]
 m_land_p_fields : MethAt K C "fields" "Land.fields" gP ["self"]
 m_land_p_dykes : MethAt K C "dykes" "Land.dykes" fL ["self"]
 m_land_p_field_names : MethAt K C "field_names" "Land.field_names" cS ["self"]
 m_land_p_dyke_names : MethAt K C "dyke_names" "Land.dyke_names" eF ["self"]
 m_land_p_sluices : MethAt K C "sluices" "Land.sluices" eK ["self"]
 m_land_p_ground : MethAt K C "ground" "Land.ground" eV ["self", "field"]
 m_land_p_dues : MethAt K C "dues" "Land.dues" iM ["self", "field"]
 m_land_p_dyke : MethAt K C "dyke" "Land.dyke" gH ["self", "name"]
 m_land_p_raised : MethAt K C "raised" "Land.raised" gO ["self", "works"]
 k_Season : ∃ C_Season : Addr, Cls K C_Season ∧ mg "Season" = some (.ref C_Season) ∧ gX K C_Season "on_land" ∧ gX K C_Season "own_decrees" ∧ gX K C_Season "open_names" ∧ gX K C_Season "wet_names" ∧ gX K C_Season "day_count" ∧ gX K C_Season "wet_counts" ∧ InitAt K C_Season "Season.__init__" fD ["self", "land", "decrees"] ∧ MethAt K C_Season "day" "Season.day" fF ["self", "level"] ∧ MethAt K C_Season "days" "Season.days" gN ["self", "levels"] ∧ MethAt K C_Season "opened" "Season.opened" dW ["self"] ∧ MethAt K C_Season "wet" "Season.wet" fE ["self"] ∧ MethAt K C_Season "count" "Season.count" fQ ["self"] ∧ MethAt K C_Season "wet_days" "Season.wet_days" eE ["self"] ∧ MethAt K C_Season "onto" "Season.onto" gM ["self", "land"]
 d_p_wall : DefAt K mg "_wall" pF ["k"]
 d_p_is_whole : DefAt K mg "is_whole" hU ["thing"]
 d_p_is_name : DefAt K mg "is_name" iS ["thing"]
 d_p_is_height : DefAt K mg "is_height" gA ["thing"]
 d_p_is_amount : DefAt K mg "is_amount" gD ["thing"]
 d_p_is_one_of : DefAt K mg "is_one_of" fZ ["thing", "names"]
 d_p_is_list_of : DefAt K mg "is_list_of" fJ ["thing", "most"]
 d_p_is_tuple_of : DefAt K mg "is_tuple_of" eT ["thing", "length"]
 d_p_none_twice : DefAt K mg "none_twice" fI ["rows"]
 d_p_is_field : DefAt K mg "is_field" hV ["thing"]
 d_p_are_fields : DefAt K mg "are_fields" fK ["thing"]
 d_p_are_sides : DefAt K mg "are_sides" gE ["one", "other", "sides"]
 d_p_is_sill : DefAt K mg "is_sill" iR ["thing", "crown"]
 d_p_is_dyke : DefAt K mg "is_dyke" iT ["thing", "sides"]
 d_p_are_dykes : DefAt K mg "are_dykes" gG ["thing", "sides"]
 d_p_check_sluices : DefAt K mg "check_sluices" dY ["land", "thing"]
 d_p_stands : DefAt K mg "stands" jU ["land", "opened"]
 d_p_steps_inland : DefAt K mg "steps_inland" eI ["land", "stand_of"]
 d_p_flood_heights : DefAt K mg "flood_heights" dX ["land", "opened"]
 d_p_is_day_of : DefAt K mg "is_day_of" gC ["number", "turn"]
 d_p_is_condition : DefAt K mg "is_condition" eJ ["thing", "fields"]
 d_p_is_decree : DefAt K mg "is_decree" gB ["thing", "sluices", "fields"]
 d_p_are_decrees : DefAt K mg "are_decrees" eU ["land", "thing"]
 d_p_check_decrees : DefAt K mg "check_decrees" dZ ["land", "thing"]
 d_p_copied : DefAt K mg "copied" jX ["decrees"]
 d_p_condition_holds : DefAt K mg "condition_holds" dA ["condition", "level", "wet", "day"]
 d_p_holds : DefAt K mg "holds" lB ["decree", "level", "wet", "day"]
 d_p_opened_by : DefAt K mg "opened_by" fY ["land", "decrees", "opened", "level", "wet", "day"]
 d_p_is_wet : DefAt K mg "is_wet" jW ["height", "ground", "level", "was_wet"]
 d_p_wet_fields : DefAt K mg "wet_fields" fG ["land", "opened", "level", "before"]
 d_p_spread : DefAt K mg "spread" jV ["starts", "steps"]
 d_p_path_to : DefAt K mg "path_to" iQ ["came", "side"]
 d_p_way_to : DefAt K mg "way_to" jT ["land", "opened", "field"]
 d_p_ring_round : DefAt K mg "ring_round" fH ["land", "opened", "field"]
 d_l_mixed : DefAt K mg "_law_mixed" lD ["_law_script", "_law_k"]
 d_l_names : DefAt K mg "_law_names" lC ["_law_cell"]
 d_l_height : DefAt K mg "_law_height" jZ ["_law_cell"]
 d_l_fields : DefAt K mg "_law_fields" kA ["_law_script", "_law_most"]
 d_l_dykes : DefAt K mg "_law_dykes" lE ["_law_script", "_law_at", "_law_most", "_law_fields_here"]
 d_l_stands : DefAt K mg "_law_stands" jY ["_law_dykes_here", "_law_opened_here"]
 d_l_decrees : DefAt K mg "_law_decrees" iU ["_law_script", "_law_at", "_law_most", "_law_fields_here", "_law_dykes_here"]
 d_l_condition : DefAt K mg "_law_condition" gI ["_law_cell", "_law_fields_here"]
 d_l_way : DefAt K mg "_law_way" pG ["_law_land", "_law_opened_here", "_law_name"]
 d_l_ring : DefAt K mg "_law_ring" mT ["_law_land", "_law_opened_here", "_law_name"]
 d_l_good : DefAt K mg "_law_good" mU ["_law_land", "_law_opened_here", "_law_level", "_law_name", "_law_told"]
 d_p_law : DefAt K mg "law" nO ["_law_script"]
 g_DEEDS : ∃ a, mg "DEEDS" = some (.ref a) ∧ ∀ H : Hp, SqT K H a [(.str "open"), (.str "shut")]
 g_TIDES : ∃ a, mg "TIDES" = some (.ref a) ∧ ∀ H : Hp, SqT K H a [(.str "above"), (.str "below")]
 g_WATERS : ∃ a, mg "WATERS" = some (.ref a) ∧ ∀ H : Hp, SqT K H a [(.str "wet"), (.str "dry")]
 g_SEA : jC mg "SEA" (.str "sea")
 g_LETTERS : jC mg "LETTERS" (.str "abcdefghijklmnopqrstuvwxyz")
 g_MOST_LETTERS : jC mg "MOST_LETTERS" (.int 8)
 g_MOST_HEIGHT : jC mg "MOST_HEIGHT" (.int 1000000)
 g_MOST_AMOUNT : jC mg "MOST_AMOUNT" (.int 1000000)
 g_MOST_FIELDS : jC mg "MOST_FIELDS" (.int 12)
 g_MOST_DYKES : jC mg "MOST_DYKES" (.int 40)
 g_MOST_DECREES : jC mg "MOST_DECREES" (.int 60)
 g_MOST_CONDITIONS : jC mg "MOST_CONDITIONS" (.int 6)
 g_MOST_ROUND : jC mg "MOST_ROUND" (.int 100)
 n_all : mg "all" = none
 n_bool : mg "bool" = none
 n_dict : mg "dict" = none
 n_int : mg "int" = none
 n_isinstance : mg "isinstance" = none
 n_len : mg "len" = none
 n_list : mg "list" = none
 n_max : mg "max" = none
 n_min : mg "min" = none
 n_range : mg "range" = none
 n_reversed : mg "reversed" = none
 n_set : mg "set" = none
 n_str : mg "str" = none
 n_tuple : mg "tuple" = none
section
variable {P : Program} {w : World} {K : PySem.W.Frag} {mg : Str → Option Value} {base : Heap} {C : Addr}
open Ld
theorem bT : (1000 : Nat) ≤ sizeLine := by decide
def rO : Sp := sp1 fun x H Q => ∃ d, Is H d x ∧ Q (.bl (isInt d)) H
theorem kU (T : Txt K mg C) : Fc P w K mg base 1 "is_whole" ["thing"] rO := by
 refine T.d_p_is_whole.fc uP nZ (fun f cdv A outer s H vs Q E hr h => ?_)
 obtain ⟨x, rfl, d, hd, q⟩ := h
 obtain ⟨t, ty, e1, e2, _⟩ := oW K hd
 refine ⟨_, (aH (@aR _ _ _ _ (@cK _ _ _ _ _ _ _ (@aV _ _ _ _ _ _ _ _ _ (@dD _ (K) rfl) rfl T.n_isinstance cF (aA (pv 0) (aA (@pJ _ _ _ _ T.n_int vZ (by rfl) (by decide) (by decide)) aD)) (by decide) (by decide) (by rfl) (by rfl)) (@dJ _ _ _ _ _ (@aKE _ _ _ _ (@aV _ _ _ _ _ _ _ _ _ (@dD _ (K) rfl) rfl T.n_isinstance cF (aA (pv 0) (aA (@pJ _ _ _ _ T.n_bool aAT (by rfl) (by decide) (by decide)) aD)) (by decide) (by decide) (by rfl) (by rfl))))))), ?_⟩
 refine ⟨_, rfl, _, _, _, t, _, rfl, rfl, ty, e1, _, rfl, ?_⟩
 refine kD (fun h => ?_) (fun h => ?_)
 ·refine ⟨_, rfl, _, _, _, t, _, rfl, rfl, ty, e2, _, rfl, ?_⟩
  have e : (!aGH d) = isInt d := by cases d <;> simp_all [isInt, aGH]
  rw [e]
  exact q
 ·have e : isInt d = false := by cases d <;> simp_all [isInt, aGH]
  rw [e] at q
  exact q
def zM : Sp := sp1 fun x H Q => ∃ d, Is H d x ∧ dR d = true ∧ Q (.bl (oS d)) H
theorem pM (T : Txt K mg C) : Fc P w K mg base 1 "is_name" ["thing"] zM := by
 refine T.d_p_is_name.fcD wM nZ (fun f cdv A outer s H vs Q E hr h => ?_)
 obtain ⟨x, rfl, d, hd, hz, q⟩ := h
 obtain ⟨t, ty, e1, e2, e3, _⟩ := oW K hd
 have big := bT
 refine ⟨_, (aG (@cE _ _ _ _ _ _ _ _ (@PW.pt _ _ _ (@kJ _ _ _ _ _ _ _ (@dP _ _ _ _ (@cN _ _ _ (@aV _ _ _ _ _ _ _ _ _ (@dD _ (K) rfl) rfl T.n_isinstance cF (aA (pv 0) (aA (@pJ _ _ _ _ T.n_str qM (by rfl) (by decide) (by decide)) aD)) (by decide) (by decide) (by rfl) (by rfl)) (by intro _; rfl))) (@kS _ _ _ _ (@dP _ _ _ _ (@aFM _ _ _ _ _ _ _ _ _ _ _ _ kK kK aE (@aV _ _ _ _ _ _ _ _ _ xE rfl T.n_len cM (aA (pv 0) aD) (by decide) (by decide) (by rfl) (by rfl)) (@nY _ _ _ _ T.g_MOST_LETTERS (by rfl) (by decide)) (by with_unfolding_all rfl)))))) (aH (@aR _ _ _ _ mZ)) bE) (aH (@aR _ _ _ _ (@cK _ _ _ _ _ _ _ (@bX _ _ _ _ _ _ _ _ pL (pv 0) (@nY _ _ _ _ T.g_SEA (by rfl) (by decide)) (@bB _ _ (by decide) (by decide))) (@dJ _ _ _ _ _ (@aV _ _ _ _ _ _ _ _ _ (@kH _ rfl) rfl T.n_all iK (aA (@cA _ _ _ _ _ _ _ _ _ _ _ ["sign"] 1 [] rfl (@aKC _ _ _ _ (pv 0)) (fun R => @aO _ _ (0) _ (show List.Nodup (["sign"] : List Str) by decide +kernel) rfl (Or.inl rfl) (by trivial)) (@aZ _ _ (by decide)) (fun R => cI) (fun R => (@bX _ _ _ _ _ _ _ _ aDG (pv 0) (@nY _ _ _ _ T.g_LETTERS (by rfl) (by decide)) (by with_unfolding_all rfl))) (by rfl) (by rfl) (by rfl) (by rfl) (by rfl) (by rfl) (by rfl) (by intro _; rfl)) aD) (by decide) (by decide) (by rfl) (by rfl))))))), ?_⟩
 refine ⟨_, rfl, _, _, _, t, _, rfl, rfl, ty, e3, _, rfl, ?_⟩
 cases d with
 | str z =>
  cases (show x = .str z from hd)
  have hz : z.length ≤ 1000 := of_decide_eq_true hz
  have q : Q (.bl (fC z)) H := q
  have hzs : z.length ≤ sizeLine := by omega
  refine bF ?_
  refine ⟨_, rfl, z, rfl, hzs, _, _, rfl, rfl, _, rfl, ?_⟩
  refine kD (fun h1 => ?_) (fun h1 => ?_)
  ·refine ⟨_, _, rfl, rfl, _, rfl, ?_⟩
   have h1' : 1 ≤ z.length := by
    have := of_decide_eq_true h1
    omega
   refine kD (fun h2 => ?_) (fun h2 => ?_)
   ·have e : fC z = false := by
     have h2' : ¬ z.length ≤ 8 := by
      intro h3
      have : ((z.length : Nat) : Int) ≤ 8 := by omega
      simp [this] at h2
     simp [fC, h2']
    rw [e] at q
    exact eD.of (.refl _) q
   ·have h2' : z.length ≤ 8 := by
     have h3 : decide (((z.length : Nat) : Int) ≤ 8) = true := by
      cases h4 : decide (((z.length : Nat) : Int) ≤ 8) with
      | true => rfl
      | false => exact absurd (by rw [h4]; rfl) h2
     have := of_decide_eq_true h3
     omega
    refine ⟨_, rfl, rfl, _, rfl, ?_⟩
    refine kD (fun h3 => ?_) (fun h3 => ?_)
    ·have h3' : ¬ z = "sea" := by
      intro h4
      subst h4
      simp at h3
     refine ⟨_, rfl, z, rfl, ?_⟩
     refine aHC (Nat.le_trans hz (by decide)) (fun i ys H' => H' = H ∧ ys = (z.cps.toList.take i).map fun c => V.bl (iG c)) ⟨rfl, rfl⟩ ?_ ?_ ?_
     ·rintro i ys H' ⟨_, rfl⟩
      rw [List.length_map, List.length_take]
      omega
     ·rintro i c ys H' K1 K2 hc ⟨rfl, rfl⟩ k1 k2
      refine ⟨_, rfl, _, _, rfl, rfl, k1 _ _ ⟨rfl, ?_⟩⟩
      have hc' : z.cps.toList[i]? = some c := by simpa using hc
      rw [List.take_add_one, hc', aAH]
      simp
     ·rintro ys H' ⟨rfl, rfl⟩
      intro p hp'
      refine ⟨p, z.cps.toList.map iG, rfl, SqL.of ?_, ?_⟩
      ·rw [aB, List.take_of_length_le (by simp), List.map_map]
       rfl
      ·refine ⟨H', iX.lst hp', ?_⟩
       have e : fC z = (z.cps.toList.map iG).all id := by
        rw [List.all_map]
        simp [fC, h1', h2', h3']
       rw [← e]
       exact q
    ·have e : fC z = false := by
      have h4 : z = "sea" := by
       apply Classical.byContradiction
       intro h5
       exact h3 (by simp [h5])
      subst h4
      simp [fC]
     rw [e] at q
     exact eD.of (.refl _) q
  ·have e : fC z = false := by
    have h1' : ¬ 1 ≤ z.length := by
     intro h3
     exact h1 (decide_eq_true (by omega))
    simp [fC, h1']
   rw [e] at q
   exact ⟨_, rfl, eD.of (.refl _) q⟩
 | non => exact eD.of (.refl _) q
 | bl b => exact eD.of (.refl _) q
 | int i => exact eD.of (.refl _) q
 | lst a => exact eD.of (.refl _) q
 | tup a => exact eD.of (.refl _) q
 | dct a b => exact eD.of (.refl _) q
def kY : Sp := sp1 fun x H Q => ∃ d, Is H d x ∧ Q (.bl (eN d)) H
theorem fN (T : Txt K mg C) : Fc P w K mg base 2 "is_height" ["thing"] kY := by
 have G_p_is_whole : Fc P w K mg base 1 "is_whole" ["thing"] rO := kU T
 refine T.d_p_is_height.fc sJ nZ (fun f cdv A outer s H vs Q E hr h => ?_)
 obtain ⟨x, rfl, d, hd, q⟩ := h
 refine ⟨_, (aH (@aR _ _ _ _ (@cK _ _ _ _ _ _ _ (@bO _ _ _ _ _ _ _ _ _ _ G_p_is_whole (hr.mono (by decide)) (aA (pv 0) aD) (by rfl) (by decide) (by rfl) (by rfl)) (@dJ _ _ _ _ _ (@mX _ _ _ _ _ _ _ _ _ _ _ _ kK kK (@aJG _ _ _ _ _ _ aEK (@nY _ _ _ _ T.g_MOST_HEIGHT (by rfl) (by decide))) (pv 0) (@nY _ _ _ _ T.g_MOST_HEIGHT (by rfl) (by decide)) (by with_unfolding_all rfl)))))), ?_⟩
 refine ⟨_, rfl, _, rfl, d, hd, _, rfl, ?_⟩
 cases d with
 | int i =>
  cases (show x = .int i from hd)
  refine bU ?_
  have q : Q (.bl (decide (-1000000 ≤ i) && decide (i ≤ 1000000))) H := q
  refine ⟨_, rfl, _, rfl, _, _, rfl, rfl, _, rfl, ?_⟩
  refine kD (fun h1 => ?_) (fun h1 => ?_)
  ·refine ⟨_, _, rfl, rfl, ?_⟩
   rw [decide_eq_true (show -1000000 ≤ i from of_decide_eq_true h1), Bool.true_and] at q
   exact q
  ·rw [show decide (-1000000 ≤ i) = false from by simpa using h1, Bool.false_and] at q
   exact q
 | _ => exact bF q
def sF : Sp := sp1 fun x H Q => ∃ d, Is H d x ∧ Q (.bl (lL d)) H
theorem nB (T : Txt K mg C) : Fc P w K mg base 2 "is_amount" ["thing"] sF := by
 have G_p_is_whole : Fc P w K mg base 1 "is_whole" ["thing"] rO := kU T
 refine T.d_p_is_amount.fc sM nZ (fun f cdv A outer s H vs Q E hr h => ?_)
 obtain ⟨x, rfl, d, hd, q⟩ := h
 refine ⟨_, (aH (@aR _ _ _ _ (@cK _ _ _ _ _ _ _ (@bO _ _ _ _ _ _ _ _ _ _ G_p_is_whole (hr.mono (by decide)) (aA (pv 0) aD) (by rfl) (by decide) (by rfl) (by rfl)) (@dJ _ _ _ _ _ (@mX _ _ _ _ _ _ _ _ _ _ _ _ kK kK aE (pv 0) (@nY _ _ _ _ T.g_MOST_AMOUNT (by rfl) (by decide)) (by with_unfolding_all rfl)))))), ?_⟩
 refine ⟨_, rfl, _, rfl, d, hd, _, rfl, ?_⟩
 cases d with
 | int i =>
  cases (show x = .int i from hd)
  refine bU ?_
  have q : Q (.bl (decide (0 ≤ i) && decide (i ≤ 1000000))) H := q
  refine ⟨_, rfl, _, _, rfl, rfl, _, rfl, ?_⟩
  refine kD (fun h1 => ?_) (fun h1 => ?_)
  ·refine ⟨_, _, rfl, rfl, ?_⟩
   rw [decide_eq_true (show 0 ≤ i from of_decide_eq_true h1), Bool.true_and] at q
   exact q
  ·rw [show decide (0 ≤ i) = false from by simpa using h1, Bool.false_and] at q
   exact q
 | _ => exact bF q
def wJ (K : PySem.W.Frag) : Sp := sp2 fun x y H Q => ∃ (d : Dv) (p : Addr) (zs : List Str), Is H d x ∧ y = .ref p ∧ SqL K H p (zs.map V.str) ∧ Q (.bl (bZ zs d)) H
theorem eS (z : Str) (zs : List Str) : inV (.str z) (zs.map V.str) = decide (z ∈ zs) := by
 unfold inV
 rw [Bool.eq_iff_iff, List.any_eq_true, decide_eq_true_iff]
 constructor
 ·rintro ⟨y, hy, e⟩
  obtain ⟨u, hu, rfl⟩ := List.mem_map.mp hy
  have e' : (u == z) = true := e
  rw [← beq_iff_eq.mp e']
  exact hu
 ·intro h
  exact ⟨_, List.mem_map.mpr ⟨z, h, rfl⟩, beq_self_eq_true z⟩
theorem cQ (zs : List Str) : (zs.map V.str).all pQ = true := by
 rw [List.all_eq_true]
 intro y hy
 obtain ⟨u, _, rfl⟩ := List.mem_map.mp hy
 rfl
theorem nA (T : Txt K mg C) : Fc P w K mg base 1 "is_one_of" ["thing", "names"] (wJ K) := by
 refine T.d_p_is_one_of.fc mQ jH (fun f cdv A outer s H vs Q E hr h => ?_)
 obtain ⟨x, y, rfl, d, p, zs, hd, rfl, hp, q⟩ := h
 obtain ⟨t, ty, e1, e2, e3, _⟩ := oW K hd
 refine ⟨_, (aH (@aR _ _ _ _ (@cK _ _ _ _ _ _ _ (@aV _ _ _ _ _ _ _ _ _ (@dD _ (K) rfl) rfl T.n_isinstance cF (aA (pv 0) (aA (@pJ _ _ _ _ T.n_str qM (by rfl) (by decide) (by decide)) aD)) (by decide) (by decide) (by rfl) (by rfl)) (@dJ _ _ _ _ _ (@bX _ _ _ _ _ _ _ _ (@eB _ (K) rfl) (pv 0) (pv 1) (by with_unfolding_all rfl)))))), ?_⟩
 refine ⟨_, rfl, _, _, _, t, _, rfl, rfl, ty, e3, _, rfl, ?_⟩
 cases d with
 | str z =>
  cases (show x = .str z from hd)
  refine bU ⟨_, rfl, _, rfl, p, _, rfl, .inl hp, rfl, cQ zs, ?_⟩
  show Q (.bl (inV (.str z) (zs.map V.str))) H
  rw [eS]
  exact q
 | _ => exact bF q
def pA : Sp := sp2 fun x y H Q => ∃ (d : Dv) (n : Int), Is H d x ∧ y = .int n ∧ Q (.bl (aMC n d)) H
theorem jB (T : Txt K mg C) : Fc P w K mg base 1 "is_list_of" ["thing", "most"] pA := by
 refine T.d_p_is_list_of.fc rB jH (fun f cdv A outer s H vs Q E hr h => ?_)
 obtain ⟨x, y, rfl, d, n, hd, rfl, q⟩ := h
 obtain ⟨t, ty, e1, e2, e3, e4, _⟩ := oW K hd
 refine ⟨_, (aH (@aR _ _ _ _ (@cK _ _ _ _ _ _ _ (@aV _ _ _ _ _ _ _ _ _ (@dD _ (K) rfl) rfl T.n_isinstance cF (aA (pv 0) (aA (@pJ _ _ _ _ T.n_list eC (by rfl) (by decide) (by decide)) aD)) (by decide) (by decide) (by rfl) (by rfl)) (@dJ _ _ _ _ _ (@mX _ _ _ _ _ _ _ _ _ _ _ _ kK kK aE (@aV _ _ _ _ _ _ _ _ _ (@bW _ (K) rfl) rfl T.n_len cM (aA (pv 0) aD) (by decide) (by decide) (by rfl) (by rfl)) (pv 1) (by with_unfolding_all rfl)))))), ?_⟩
 refine ⟨_, rfl, _, _, _, t, _, rfl, rfl, ty, e4, _, rfl, ?_⟩
 cases d with
 | lst ds =>
  obtain ⟨a, vs, rfl, o, hl⟩ := hd
  have hlen := hl.length
  have q : Q (.bl (decide (1 ≤ ds.length) && decide ((ds.length : Int) ≤ n))) H := q
  refine bU ⟨_, rfl, a, vs, rfl, .inl (SqL.of o), _, _, rfl, rfl, _, rfl, ?_⟩
  rw [hlen]
  refine kD (fun h1 => ?_) (fun h1 => ?_)
  ·refine ⟨_, rfl, _, _, rfl, rfl, ?_⟩
   have h1' : 1 ≤ ds.length := by have := of_decide_eq_true h1; omega
   rw [decide_eq_true h1', Bool.true_and] at q
   exact q
  ·have h1' : ¬ 1 ≤ ds.length := fun c => h1 (decide_eq_true (by omega))
   rw [decide_eq_false h1', Bool.false_and] at q
   exact q
 | _ => exact bF q
def oZ : Sp := sp2 fun x y H Q => ∃ (d : Dv) (n : Int), Is H d x ∧ y = .int n ∧ Q (.bl (rY n d)) H
theorem fS (T : Txt K mg C) : Fc P w K mg base 1 "is_tuple_of" ["thing", "length"] oZ := by
 refine T.d_p_is_tuple_of.fc pW jH (fun f cdv A outer s H vs Q E hr h => ?_)
 obtain ⟨x, y, rfl, d, n, hd, rfl, q⟩ := h
 obtain ⟨t, ty, e1, e2, e3, e4, e5⟩ := oW K hd
 refine ⟨_, (aH (@aR _ _ _ _ (@cK _ _ _ _ _ _ _ (@aV _ _ _ _ _ _ _ _ _ (@dD _ (K) rfl) rfl T.n_isinstance cF (aA (pv 0) (aA (@pJ _ _ _ _ T.n_tuple zG (by rfl) (by decide) (by decide)) aD)) (by decide) (by decide) (by rfl) (by rfl)) (@dJ _ _ _ _ _ (@bX _ _ _ _ _ _ _ _ iV (@aV _ _ _ _ _ _ _ _ _ (@bW _ (K) rfl) rfl T.n_len cM (aA (pv 0) aD) (by decide) (by decide) (by rfl) (by rfl)) (pv 1) (@bB _ _ (by decide) (by decide))))))), ?_⟩
 refine ⟨_, rfl, _, _, _, t, _, rfl, rfl, ty, e5, _, rfl, ?_⟩
 cases d with
 | tup ds =>
  obtain ⟨a, vs, rfl, o, hl⟩ := hd
  have hlen := hl.length
  have q : Q (.bl (decide ((ds.length : Int) = n))) H := q
  refine bU ⟨_, rfl, a, vs, rfl, .inr (SqT.of o), _, rfl, rfl, ?_⟩
  rw [hlen]
  have e : decide (V.int (ds.length : Int) = V.int n) = decide ((ds.length : Int) = n) := by rw [kP, Bool.eq_iff_iff]; simp
  rw [e]
  exact q
 | _ => exact bF q
def wI : Sp := sp1 fun x H Q => ∃ (p : Addr) (vs : List V) (ds : List Dv) (zs : List Str), x = .ref p ∧ H p = some (.lst vs) ∧ IsL H ds vs ∧ ds.map cU = zs.map some ∧ zs.length ≤ 1000 ∧ Q (.bl (decide zs.Nodup)) H
theorem aDT {H : Hp} {d : Dv} {v : V} {z : Str} (h : Is H d v) (e : cU d = some z) : ∃ a r, v = .ref a ∧ H a = some (.tup (.str z :: r)) := by
 cases d with
 | tup ds =>
  cases ds with
  | nil => cases e
  | cons d0 ds =>
   cases d0 with
   | str y =>
    cases e
    obtain ⟨a, vs, rfl, o, v0, r, rfl, h0, _⟩ := h
    cases (show v0 = .str z from h0)
    exact ⟨a, r, rfl, o⟩
   | _ => cases e
 | _ => cases e
theorem jK (zs : List Str) : (zs.map (Sum.inr : Str → Key)).Nodup ↔ zs.Nodup := by
 induction zs with
 | nil => simp
 | cons z zs ih =>
  rw [List.map_cons, List.nodup_cons, List.nodup_cons, ih]
  simp
theorem aCA (zs : List Str) : (zs.map (Sum.inr : Str → Key)).map kV = zs.map V.str := by
 rw [List.map_map]; rfl
theorem mJ (T : Txt K mg C) : Fc P w K mg base 1 "none_twice" ["rows"] wI := by
 refine T.d_p_none_twice.fcD rA nZ (fun f cdv A outer s H vs Q E hr h => ?_)
 obtain ⟨x, rfl, p, us, ds, zs, rfl, hp, hi, hz, hn, q⟩ := h
 have big := bT
 have l1 := hi.length
 have l2 : ds.length = zs.length := by have := congrArg List.length hz; simpa using this
 refine ⟨_, (aH (@aR _ _ _ _ (@bX _ _ _ _ _ _ _ _ iV (@aV _ _ _ _ _ _ _ _ _ call_len_set rfl T.n_len cM (aA (@cL _ _ _ _ _ _ _ _ _ (@oF _ rfl) rfl T.n_set vY (aA (@cA _ _ _ _ _ _ _ _ _ _ _ ["row"] 1 [] rfl (@bM _ _ _ _ (pv 0)) (fun R => @aO _ _ (0) _ (show List.Nodup (["row"] : List Str) by decide +kernel) rfl (Or.inl rfl) (by trivial)) (@aZ _ _ (by decide)) (fun R => cI) (fun R => (@aY _ _ _ _ _ _ _ (@aQ _ (K) rfl) (pv 0) aE (fun _ _ => rfl))) (by rfl) (by rfl) (by rfl) (by rfl) (by rfl) (by rfl) (by rfl) (by intro _; rfl)) aD) (by decide) (by decide) (by rfl) (by rfl)) aD) (by decide) (by decide) (by rfl) (by rfl)) (@aV _ _ _ _ _ _ _ _ _ (@bW _ (K) rfl) rfl T.n_len cM (aA (pv 0) aD) (by decide) (by decide) (by rfl) (by rfl)) (@bB _ _ (by decide) (by decide))))), ?_⟩
 refine ⟨_, rfl, p, rfl, ⟨_, SqL.of hp⟩, ?_⟩
 refine bP (F := K) (xs := us) (by omega) (fun i ys H' => H' = H ∧ ys = (zs.take i).map V.str) ⟨rfl, rfl⟩ ?_ ?_ ?_
 ·rintro i ys H' hi' ⟨rfl, rfl⟩
  exact ⟨SqL.of hp, by rw [List.length_map, List.length_take]; omega⟩
 ·rintro i x ys H' K1 K2 hx ⟨rfl, rfl⟩ k1 k2
  have hil : i < us.length := (List.getElem?_eq_some_iff.mp hx).1
  obtain ⟨d, ed⟩ : ∃ d, ds[i]? = some d := ⟨_, List.getElem?_eq_getElem (by omega)⟩
  obtain ⟨z, ez⟩ : ∃ z, zs[i]? = some z := ⟨_, List.getElem?_eq_getElem (by omega)⟩
  obtain ⟨v, ev, iv⟩ := hi.get ed
  rw [hx] at ev
  cases ev
  have ef : cU d = some z := by
   have := congrArg (fun l => l[i]?) hz
   simpa [ed, ez] using this
  obtain ⟨a, r, rfl, o⟩ := aDT iv ef
  refine ⟨_, rfl, a, _, 0, .str z, rfl, rfl, SqT.of o, aJ (j := 0) rfl, k1 _ _ ⟨rfl, ?_⟩⟩
  rw [List.take_add_one, ez]
  simp
 ·rintro ys H' ⟨rfl, rfl⟩
  intro p1 hp1
  have hys : (zs.take us.length).map V.str = (zs.map (Sum.inr : Str → Key)).map kV := by
   rw [List.take_of_length_le (by omega), aCA]
  refine ⟨p1, zs.map Sum.inr, rfl, SqL.of (by rw [aB, hys]), by rw [List.length_map]; exact hn, fun p2 hp2 => ?_⟩
  have hle := aIK (zs.map (Sum.inr : Str → Key))
  rw [List.length_map] at hle
  have np : p ≠ p1 := bG hp hp1
  have np2 : p ≠ p2 := bG (show upd H' p1 _ p = _ from (aT np).trans hp) hp2
  refine ⟨p2, _, _, rfl, aB, by omega, _, rfl, p, us, rfl, .inl (SqL.of (by rw [aT np2, aT np]; exact hp)), rfl, ?_⟩
  have e : decide (V.int ((qJ (zs.map (Sum.inr : Str → Key))).length : Int) = V.int (us.length : Int)) = decide zs.Nodup := by
   rw [kP, Bool.eq_iff_iff, decide_eq_true_iff, ← jK, ← vS, List.length_map, beq_iff_eq]
   omega
  rw [e]
  exact eD.of ((iX.new hp2 rfl).trans (iX.lst hp1)) q
def aBR : Sp := sp1 fun x H Q => ∃ d, Is H d x ∧ dR d = true ∧ Q (.bl (cD d)) H
theorem uT (T : Txt K mg C) : Fc P w K mg base 3 "is_field" ["thing"] aBR := by
 have G_p_is_tuple_of : Fc P w K mg base 1 "is_tuple_of" ["thing", "length"] oZ := fS T
 have G_p_is_name : Fc P w K mg base 1 "is_name" ["thing"] zM := pM T
 have G_p_is_height : Fc P w K mg base 2 "is_height" ["thing"] kY := fN T
 have G_p_is_amount : Fc P w K mg base 2 "is_amount" ["thing"] sF := nB T
 refine T.d_p_is_field.fc uQ nZ (fun f cdv A outer s H vs Q E hr h => ?_)
 obtain ⟨x, rfl, d, hd, hs, q⟩ := h
 refine ⟨_, (aG (@cE _ _ _ _ _ _ _ _ (@dP _ _ _ _ (@cN _ _ _ (@bO _ _ _ _ _ _ _ _ _ _ G_p_is_tuple_of (hr.mono (by decide)) (aA (pv 0) (aA aE aD)) (by rfl) (by decide) (by rfl) (by rfl)) (by intro _; rfl))) (aH (@aR _ _ _ _ mZ)) bE) (aH (@aR _ _ _ _ (@cK _ _ _ _ _ _ _ (@bO _ _ _ _ _ _ _ _ _ _ G_p_is_name (hr.mono (by decide)) (aA (@aY _ _ _ _ _ _ _ (@aQ _ (K) rfl) (pv 0) aE (fun _ _ => rfl)) aD) (by rfl) (by decide) (by rfl) (by rfl)) (@cK _ _ _ _ _ _ _ (@bO _ _ _ _ _ _ _ _ _ _ G_p_is_height (hr.mono (by decide)) (aA (@aY _ _ _ _ _ _ _ (@aQ _ (K) rfl) (pv 0) aE (fun _ _ => rfl)) aD) (by rfl) (by decide) (by rfl) (by rfl)) (@dJ _ _ _ _ _ (@bO _ _ _ _ _ _ _ _ _ _ G_p_is_amount (hr.mono (by decide)) (aA (@aY _ _ _ _ _ _ _ (@aQ _ (K) rfl) (pv 0) aE (fun _ _ => rfl)) aD) (by rfl) (by decide) (by rfl) (by rfl)))))))), ?_⟩
 refine ⟨_, rfl, _, _, rfl, d, 3, hd, rfl, _, rfl, ?_⟩
 by_cases h3 : ∃ a b c, d = .tup [a, b, c]
 ·obtain ⟨a, b, c, rfl⟩ := h3
  obtain ⟨t, us, rfl, o, va, r1, rfl, ha, vb, r2, rfl, hb, vc, r3, rfl, hc, h0⟩ := hd
  cases (show r3 = [] from h0)
  have sa : dR a = true := by
   exact gR (pU hs) List.mem_cons_self
  have q : Q (.bl (oS a && (eN b && lL c))) H := q
  refine bF ⟨_, rfl, t, _, 0, va, rfl, rfl, SqT.of o, aJ (j := 0) rfl, _, rfl, a, ha, sa, _, rfl, ?_⟩
  cases ea : oS a with
  | false => rw [ea] at q; exact bF q
  | true =>
   rw [ea, Bool.true_and] at q
   refine bU ⟨_, rfl, t, _, 1, vb, rfl, rfl, SqT.of o, aJ (j := 1) rfl, _, rfl, b, hb, _, rfl, ?_⟩
   cases eb : eN b with
   | false => rw [eb] at q; exact bF q
   | true =>
    rw [eb, Bool.true_and] at q
    exact bU ⟨_, rfl, t, _, 2, vc, rfl, rfl, SqT.of o, aJ (j := 2) rfl, _, rfl, c, hc, q⟩
 ·have e1 : cD d = false := by
   unfold cD
   split
   ·rename_i a b c
    exact absurd ⟨a, b, c, rfl⟩ h3
   ·rfl
  have e2 : rY 3 d = false := by
   cases d with
   | tup ds =>
    refine decide_eq_false (fun e => ?_)
    have e' : ds.length = 3 := by omega
    match ds, e', h3 with
    | [a, b, c], _, h3 => exact h3 ⟨a, b, c, rfl⟩
   | _ => rfl
  dsimp only
  rw [e2]
  rw [e1] at q
  exact bU q
theorem qG {p : Dv → Bool} (hp : ∀ d, p d = true → ∃ z, cU d = some z) : ∀ {ds : List Dv}, ds.all p = true → ∃ zs : List Str, ds.map cU = zs.map some
 | [], _ => ⟨[], rfl⟩
 | d :: ds, h => by
  rw [List.all_cons, Bool.and_eq_true] at h
  obtain ⟨z, e⟩ := hp d h.1
  obtain ⟨zs, e2⟩ := qG hp h.2
  exact ⟨z :: zs, by rw [List.map_cons, List.map_cons, e, e2]⟩
theorem uV (d : Dv) (h : cD d = true) : ∃ z, cU d = some z := by
 unfold cD at h
 split at h
 ·rename_i a b c
  rw [Bool.and_eq_true] at h
  cases a with
  | str z => exact ⟨z, rfl⟩
  | _ => cases h.1
 ·cases h
def xU : Sp := sp1 fun x H Q => ∃ d, Is H d x ∧ dR d = true ∧ Q (.bl (lP d)) H
theorem rL (T : Txt K mg C) : Fc P w K mg base 4 "are_fields" ["thing"] xU := by
 have G_p_is_list_of : Fc P w K mg base 1 "is_list_of" ["thing", "most"] pA := jB T
 have G_p_is_field : Fc P w K mg base 3 "is_field" ["thing"] aBR := uT T
 have G_p_none_twice : Fc P w K mg base 1 "none_twice" ["rows"] wI := mJ T
 refine T.d_p_are_fields.fcD rC nZ (fun f cdv A outer s H vs Q E hr h => ?_)
 obtain ⟨x, rfl, d, hd, hs, q⟩ := h
 have big := bT
 refine ⟨_, (aH (@aR _ _ _ _ (@cK _ _ _ _ _ _ _ (@bO _ _ _ _ _ _ _ _ _ _ G_p_is_list_of (hr.mono (by decide)) (aA (pv 0) (aA (@nY _ _ _ _ T.g_MOST_FIELDS (by rfl) (by decide)) aD)) (by rfl) (by decide) (by rfl) (by rfl)) (@cK _ _ _ _ _ _ _ (@aV _ _ _ _ _ _ _ _ _ (@kH _ rfl) rfl T.n_all iK (aA (@cA _ _ _ _ _ _ _ _ _ _ _ ["row"] 1 [] rfl (@bM _ _ _ _ (pv 0)) (fun R => @aO _ _ (0) _ (show List.Nodup (["row"] : List Str) by decide +kernel) rfl (Or.inl rfl) (by trivial)) (@aZ _ _ (by decide)) (fun R => cI) (fun R => (@bO _ _ _ _ _ _ _ _ _ _ G_p_is_field (hr.mono (by decide)) (aA (pv 0) aD) (by rfl) (by decide) (by rfl) (by rfl))) (by rfl) (by rfl) (by rfl) (by rfl) (by rfl) (by rfl) (by rfl) (by intro _; rfl)) aD) (by decide) (by decide) (by rfl) (by rfl)) (@dJ _ _ _ _ _ (@bO _ _ _ _ _ _ _ _ _ _ G_p_none_twice (hr.mono (by decide)) (aA (pv 0) aD) (by rfl) (by decide) (by rfl) (by rfl))))))), ?_⟩
 refine ⟨_, rfl, _, _, rfl, d, 12, hd, rfl, _, rfl, ?_⟩
 cases d with
 | lst ds =>
  obtain ⟨p, us, rfl, o, hi⟩ := hd
  have l1 := hi.length
  have hs' := Bool.and_eq_true_iff.mp (show (decide (ds.length ≤ 1000) && fV ds) = true from hs)
  have l2 : ds.length ≤ 1000 := of_decide_eq_true hs'.1
  have q : Q (.bl ((decide (1 ≤ ds.length) && decide (ds.length ≤ 12)) && (ds.all cD && decide ((ds.map cU).Nodup)))) H := q
  have e0 : (decide (1 ≤ ds.length) && decide ((ds.length : Int) ≤ 12)) = (decide (1 ≤ ds.length) && decide (ds.length ≤ 12)) := by
   congr 1
   rw [Bool.eq_iff_iff, decide_eq_true_iff, decide_eq_true_iff]
   omega
  show if (decide (1 ≤ ds.length) && decide ((ds.length : Int) ≤ 12)) = true then _ else _
  rw [e0]
  refine kD (fun h1 => ?_) (fun h1 => ?_)
  ·rw [h1, Bool.true_and] at q
   refine ⟨_, rfl, p, rfl, ⟨_, SqL.of o⟩, ?_⟩
   refine bP (F := K) (xs := us) (by omega) (fun i ys H' => H' = H ∧ ys = (ds.take i).map fun d => V.bl (cD d)) ⟨rfl, rfl⟩ ?_ ?_ ?_
   ·rintro i ys H' hi' ⟨rfl, rfl⟩
    exact ⟨SqL.of o, by rw [List.length_map, List.length_take]; omega⟩
   ·rintro i x ys H' K1 K2 hx ⟨rfl, rfl⟩ k1 k2
    have hil : i < us.length := (List.getElem?_eq_some_iff.mp hx).1
    obtain ⟨d, ed⟩ : ∃ d, ds[i]? = some d := ⟨_, List.getElem?_eq_getElem (by omega)⟩
    obtain ⟨v, ev, iv⟩ := hi.get ed
    rw [hx] at ev
    cases ev
    refine ⟨_, rfl, _, rfl, d, iv, gR hs'.2 (List.mem_of_getElem? ed), k1 _ _ ⟨rfl, ?_⟩⟩
    rw [List.take_add_one, ed]
    simp
   ·rintro ys H' ⟨rfl, rfl⟩
    intro p1 hp1
    have np : p ≠ p1 := bG o hp1
    refine ⟨p1, ds.map cD, rfl, SqL.of ?_, _, rfl, ?_⟩
    ·rw [aB, List.take_of_length_le (by omega), List.map_map]
     rfl
    have e1 : (ds.map cD).all id = ds.all cD := by rw [List.all_map]; rfl
    rw [e1]
    refine kD (fun h2 => ?_) (fun h2 => ?_)
    ·rw [h2, Bool.true_and] at q
     obtain ⟨zs, ez⟩ := qG uV h2
     have l3 : zs.length = ds.length := by have := congrArg List.length ez; simpa using this.symm
     refine ⟨_, rfl, _, rfl, p, us, ds, zs, rfl, by rw [aT np]; exact o, IsL.same (aI.upd hp1) _ _ hi, ez, by omega, ?_⟩
     have e2 : decide zs.Nodup = decide (ds.map cU).Nodup := by rw [ez, Bool.eq_iff_iff, decide_eq_true_iff, decide_eq_true_iff, iF]
     rw [e2]
     exact eD.of (iX.lst hp1) q
    ·have h2' : ds.all cD = false := by simpa using h2
     rw [h2'] at q
     exact eD.of (iX.lst hp1) q
  ·have h1' : (decide (1 ≤ ds.length) && decide (ds.length ≤ 12)) = false := by simpa using h1
   rw [h1'] at q
   exact eD.of (.refl _) q
 | _ => exact bF (eD.of (.refl _) q)
def aBI (K : PySem.W.Frag) : Sp := sp3 fun x y u H Q => ∃ (a b : Dv) (p : Addr) (zs : List Str), Is H a x ∧ Is H b y ∧ u = .ref p ∧ SqL K H p (zs.map V.str) ∧ Q (.bl (nL zs a b)) H
theorem tG (T : Txt K mg C) : Fc P w K mg base 2 "are_sides" ["one", "other", "sides"] (aBI K) := by
 have G_p_is_one_of : Fc P w K mg base 1 "is_one_of" ["thing", "names"] (wJ K) := nA T
 refine T.d_p_are_sides.fc sN yS (fun f cdv A outer s H vs Q E hr h => ?_)
 obtain ⟨x, y, u, rfl, a, b, p, zs, ha, hb, rfl, hp, q⟩ := h
 refine ⟨_, (aH (@aR _ _ _ _ (@cK _ _ _ _ _ _ _ (@bO _ _ _ _ _ _ _ _ _ _ G_p_is_one_of (hr.mono (by decide)) (aA (pv 0) (aA (pv 2) aD)) (by rfl) (by decide) (by rfl) (by rfl)) (@cK _ _ _ _ _ _ _ (@bO _ _ _ _ _ _ _ _ _ _ G_p_is_one_of (hr.mono (by decide)) (aA (pv 1) (aA (pv 2) aD)) (by rfl) (by decide) (by rfl) (by rfl)) (@dJ _ _ _ _ _ (@bX _ _ _ _ _ _ _ _ pL (pv 0) (pv 1) (@bB _ _ (by decide) (by decide)))))))), ?_⟩
 have q : Q (.bl (bZ zs a && (bZ zs b && !deq a b))) H := q
 refine ⟨_, rfl, _, rfl, _, _, rfl, a, p, zs, ha, rfl, hp, _, rfl, ?_⟩
 cases ea : bZ zs a with
 | false => rw [ea] at q; exact bF q
 | true =>
  rw [ea, Bool.true_and] at q
  refine bU ⟨_, rfl, _, rfl, _, _, rfl, b, p, zs, hb, rfl, hp, _, rfl, ?_⟩
  cases eb : bZ zs b with
  | false => rw [eb] at q; exact bF q
  | true =>
   rw [eb, Bool.true_and] at q
   cases a with
   | str z =>
    cases b with
    | str z' =>
     cases (show x = .str z from ha)
     cases (show y = .str z' from hb)
     refine bU ⟨_, rfl, _, rfl, rfl, ?_⟩
     have e : (!decide (V.str z = V.str z')) = !deq (.str z) (.str z') := by rw [jI]; rfl
     rw [e]
     exact q
    | _ => cases eb
   | _ => cases ea
def aEQ : Sp := sp2 fun x y H Q => ∃ (d : Dv) (j : Int), Is H d x ∧ y = .int j ∧ Q (.bl (nG (.int j) d)) H
theorem wR (T : Txt K mg C) : Fc P w K mg base 3 "is_sill" ["thing", "crown"] aEQ := by
 have G_p_is_height : Fc P w K mg base 2 "is_height" ["thing"] kY := fN T
 refine T.d_p_is_sill.fc wL jH (fun f cdv A outer s H vs Q E hr h => ?_)
 obtain ⟨x, y, rfl, d, j, hd, rfl, q⟩ := h
 refine ⟨_, (aH (@aR _ _ _ _ (@aJH _ _ _ _ _ _ _ (@bX _ _ _ _ _ _ _ _ oO (pv 0) eZ (@bB _ _ (by decide) (by decide))) (@dJ _ _ _ _ _ (@cK _ _ _ _ _ _ _ (@bO _ _ _ _ _ _ _ _ _ _ G_p_is_height (hr.mono (by decide)) (aA (pv 0) aD) (by rfl) (by decide) (by rfl) (by rfl)) (@dJ _ _ _ _ _ (@bX _ _ _ _ _ _ _ _ qO (pv 0) (pv 1) (@bB _ _ (by decide) (by decide))))))))), ?_⟩
 refine ⟨_, rfl, rfl, _, rfl, ?_⟩
 cases d with
 | non =>
  cases (show x = .non from hd)
  rw [decide_eq_true rfl]
  exact bU q
 | int i =>
  cases (show x = .int i from hd)
  rw [decide_eq_false (show ¬ V.int i = V.non by intro z; cases z)]
  refine bF ⟨_, rfl, _, rfl, .int i, rfl, _, rfl, ?_⟩
  have q : Q (.bl (hgt i && decide (i < j))) H := q
  show if hgt i = true then _ else _
  cases e : hgt i with
  | false => rw [e] at q; exact bF q
  | true => rw [e, Bool.true_and] at q; exact bU ⟨_, rfl, _, rfl, _, _, rfl, rfl, q⟩
 | bl b =>
  cases (show x = .bl b from hd)
  rw [decide_eq_false (show ¬ V.bl b = V.non by intro z; cases z)]
  exact bF ⟨_, rfl, _, rfl, .bl b, rfl, _, rfl, bF q⟩
 | str b =>
  cases (show x = .str b from hd)
  rw [decide_eq_false (show ¬ V.str b = V.non by intro z; cases z)]
  exact bF ⟨_, rfl, _, rfl, .str b, rfl, _, rfl, bF q⟩
 | lst b =>
  obtain ⟨a, us, rfl, o⟩ := id hd
  rw [decide_eq_false (show ¬ V.ref a = V.non by intro z; cases z)]
  exact bF ⟨_, rfl, _, rfl, .lst b, hd, _, rfl, bF q⟩
 | tup b =>
  obtain ⟨a, us, rfl, o⟩ := id hd
  rw [decide_eq_false (show ¬ V.ref a = V.non by intro z; cases z)]
  exact bF ⟨_, rfl, _, rfl, .tup b, hd, _, rfl, bF q⟩
 | dct b c =>
  obtain ⟨a, us, rfl, o⟩ := id hd
  rw [decide_eq_false (show ¬ V.ref a = V.non by intro z; cases z)]
  exact bF ⟨_, rfl, _, rfl, .dct b c, hd, _, rfl, bF q⟩
def aEY (K : PySem.W.Frag) : Sp := sp2 fun x y H Q => ∃ (d : Dv) (p : Addr) (zs : List Str), Is H d x ∧ dR d = true ∧ y = .ref p ∧ SqL K H p (zs.map V.str) ∧ Q (.bl (cY zs d)) H
theorem wS (T : Txt K mg C) : Fc P w K mg base 4 "is_dyke" ["thing", "sides"] (aEY K) := by
 have G_p_is_tuple_of : Fc P w K mg base 1 "is_tuple_of" ["thing", "length"] oZ := fS T
 have G_p_is_name : Fc P w K mg base 1 "is_name" ["thing"] zM := pM T
 have G_p_are_sides : Fc P w K mg base 2 "are_sides" ["one", "other", "sides"] (aBI K) := tG T
 have G_p_is_height : Fc P w K mg base 2 "is_height" ["thing"] kY := fN T
 have G_p_is_amount : Fc P w K mg base 2 "is_amount" ["thing"] sF := nB T
 have G_p_is_sill : Fc P w K mg base 3 "is_sill" ["thing", "crown"] aEQ := wR T
 refine T.d_p_is_dyke.fc wN jH (fun f cdv A outer s H vs Q E hr h => ?_)
 obtain ⟨x, y, rfl, d, p, zs, hd, hs, rfl, hp, q⟩ := h
 refine ⟨_, (aG (@cE _ _ _ _ _ _ _ _ (@PW.pt _ _ _ (@kJ _ _ _ _ _ _ _ (@dP _ _ _ _ (@cN _ _ _ (@bO _ _ _ _ _ _ _ _ _ _ G_p_is_tuple_of (hr.mono (by decide)) (aA (pv 0) (aA aE aD)) (by rfl) (by decide) (by rfl) (by rfl)) (by intro _; rfl))) (@kJ _ _ _ _ _ _ _ (@dP _ _ _ _ (@cN _ _ _ (@bO _ _ _ _ _ _ _ _ _ _ G_p_is_name (hr.mono (by decide)) (aA (@aY _ _ _ _ _ _ _ (@aQ _ (K) rfl) (pv 0) aE (fun _ _ => rfl)) aD) (by rfl) (by decide) (by rfl) (by rfl)) (by intro _; rfl))) (@kS _ _ _ _ (@dP _ _ _ _ (@cN _ _ _ (@bO _ _ _ _ _ _ _ _ _ _ G_p_are_sides (hr.mono (by decide)) (aA (@aY _ _ _ _ _ _ _ (@aQ _ (K) rfl) (pv 0) aE (fun _ _ => rfl)) (aA (@aY _ _ _ _ _ _ _ (@aQ _ (K) rfl) (pv 0) aE (fun _ _ => rfl)) (aA (pv 1) aD))) (by rfl) (by decide) (by rfl) (by rfl)) (by intro _; rfl))))))) (aH (@aR _ _ _ _ mZ)) bE) (aH (@aR _ _ _ _ (@cK _ _ _ _ _ _ _ (@bO _ _ _ _ _ _ _ _ _ _ G_p_is_height (hr.mono (by decide)) (aA (@aY _ _ _ _ _ _ _ (@aQ _ (K) rfl) (pv 0) aE (fun _ _ => rfl)) aD) (by rfl) (by decide) (by rfl) (by rfl)) (@cK _ _ _ _ _ _ _ (@bO _ _ _ _ _ _ _ _ _ _ G_p_is_amount (hr.mono (by decide)) (aA (@aY _ _ _ _ _ _ _ (@aQ _ (K) rfl) (pv 0) aE (fun _ _ => rfl)) aD) (by rfl) (by decide) (by rfl) (by rfl)) (@dJ _ _ _ _ _ (@bO _ _ _ _ _ _ _ _ _ _ G_p_is_sill (hr.mono (by decide)) (aA (@aY _ _ _ _ _ _ _ (@aQ _ (K) rfl) (pv 0) aE (fun _ _ => rfl)) (aA (@aY _ _ _ _ _ _ _ (@aQ _ (K) rfl) (pv 0) aE (fun _ _ => rfl)) aD)) (by rfl) (by decide) (by rfl) (by rfl)))))))), ?_⟩
 refine ⟨_, rfl, _, _, rfl, d, 6, hd, rfl, _, rfl, ?_⟩
 by_cases h6 : ∃ n a b c r l, d = .tup [n, a, b, c, r, l]
 ·obtain ⟨n, a, b, c, r, l, rfl⟩ := h6
  obtain ⟨t, us, rfl, o, v0, r0, rfl, i0, v1, r1, rfl, i1, v2, r2, rfl, i2, v3, r3, rfl, i3, v4, r4, rfl, i4, v5, r5, rfl, i5, h0⟩ := hd
  cases (show r5 = [] from h0)
  have sn : dR n = true := by
   exact gR (pU hs) List.mem_cons_self
  have q : Q (.bl (oS n && nL zs a b && (eN c && (lL r && nG c l)))) H := q
  have at_ : ∀ (j : Nat) (v : V), ([v0, v1, v2, v3, v4, v5] : List V)[j]? = some v → atI [v0, v1, v2, v3, v4, v5] (j : Int) = some v := fun j v e => aJ e
  refine bF ⟨_, rfl, t, _, 0, v0, rfl, rfl, SqT.of o, at_ 0 _ rfl, _, rfl, n, i0, sn, _, rfl, ?_⟩
  cases en : oS n with
  | false => rw [en] at q; exact bU q
  | true =>
   rw [en, Bool.true_and] at q
   refine bF ⟨_, rfl, t, _, 1, v1, rfl, rfl, SqT.of o, at_ 1 _ rfl, _, rfl, t, _, 2, v2, rfl, rfl, SqT.of o, at_ 2 _ rfl, _, rfl, _, _, _, rfl, a, b, p, zs, i1, i2, rfl, hp, _, rfl, ?_⟩
   cases es : nL zs a b with
   | false => rw [es] at q; exact bU q
   | true =>
    rw [es, Bool.true_and] at q
    refine bF ⟨_, rfl, t, _, 3, v3, rfl, rfl, SqT.of o, at_ 3 _ rfl, _, rfl, c, i3, _, rfl, ?_⟩
    cases ec : eN c with
    | false => rw [ec] at q; exact bF q
    | true =>
     rw [ec, Bool.true_and] at q
     refine bU ⟨_, rfl, t, _, 4, v4, rfl, rfl, SqT.of o, at_ 4 _ rfl, _, rfl, r, i4, _, rfl, ?_⟩
     cases er : lL r with
     | false => rw [er] at q; exact bF q
     | true =>
      rw [er, Bool.true_and] at q
      cases c with
      | int j =>
       cases (show v3 = .int j from i3)
       exact bU ⟨_, rfl, t, _, 5, v5, rfl, rfl, SqT.of o, at_ 5 _ rfl, _, rfl, t, _, 3, _, rfl, rfl, SqT.of o, at_ 3 _ rfl, _, _, rfl, l, j, i5, rfl, q⟩
      | _ => cases ec
 ·have e1 : cY zs d = false := by
   unfold cY
   split
   ·rename_i n a b c r l
    exact absurd ⟨n, a, b, c, r, l, rfl⟩ h6
   ·rfl
  have e2 : rY 6 d = false := by
   cases d with
   | tup ds =>
    refine decide_eq_false (fun e => ?_)
    have e' : ds.length = 6 := by omega
    match ds, e', h6 with
    | [n, a, b, c, r, l], _, h6 => exact h6 ⟨n, a, b, c, r, l, rfl⟩
   | _ => rfl
  dsimp only
  rw [e2]
  rw [e1] at q
  exact bU q
theorem wX {zs : List Str} (d : Dv) (h : cY zs d = true) : ∃ z, cU d = some z := by
 unfold cY at h
 split at h
 ·rename_i n a b c r l
  rw [Bool.and_eq_true, Bool.and_eq_true] at h
  cases n with
  | str z => exact ⟨z, rfl⟩
  | _ => cases h.1.1
 ·cases h
def aBS (K : PySem.W.Frag) : Sp := sp2 fun x y H Q => ∃ (d : Dv) (p : Addr) (zs : List Str), Is H d x ∧ dR d = true ∧ y = .ref p ∧ H p = some (.lst (zs.map V.str)) ∧ Q (.bl (nM zs d)) H
theorem tH (T : Txt K mg C) : Fc P w K mg base 5 "are_dykes" ["thing", "sides"] (aBS K) := by
 have G_p_is_list_of : Fc P w K mg base 1 "is_list_of" ["thing", "most"] pA := jB T
 have G_p_is_dyke : Fc P w K mg base 4 "is_dyke" ["thing", "sides"] (aEY K) := wS T
 have G_p_none_twice : Fc P w K mg base 1 "none_twice" ["rows"] wI := mJ T
 refine T.d_p_are_dykes.fcD sO jH (fun f cdv A outer s H vs Q E hr h => ?_)
 obtain ⟨x, y, rfl, d, p0, zs0, hd, hs, rfl, hp0, q⟩ := h
 have big := bT
 refine ⟨_, (aH (@aR _ _ _ _ (@cK _ _ _ _ _ _ _ (@bO _ _ _ _ _ _ _ _ _ _ G_p_is_list_of (hr.mono (by decide)) (aA (pv 0) (aA (@nY _ _ _ _ T.g_MOST_DYKES (by rfl) (by decide)) aD)) (by rfl) (by decide) (by rfl) (by rfl)) (@cK _ _ _ _ _ _ _ (@aV _ _ _ _ _ _ _ _ _ (@kH _ rfl) rfl T.n_all iK (aA (@cA _ _ _ _ _ _ _ _ _ _ _ ["row", "sides"] 1 [1] rfl (@bM _ _ _ _ (pv 0)) (fun R => @aO _ _ (0) _ (show List.Nodup (["row", "sides"] : List Str) by decide +kernel) rfl (Or.inl rfl) (by trivial)) (@aZ _ _ (by decide)) (fun R => cI) (fun R => (@bO _ _ _ _ _ _ _ _ _ _ G_p_is_dyke (hr.mono (by decide)) (aA (pv 0) (aA (pv 1) aD)) (by rfl) (by decide) (by rfl) (by rfl))) (by rfl) (by rfl) (by rfl) (by rfl) (by rfl) (by rfl) (by rfl) (by intro _; rfl)) aD) (by decide) (by decide) (by rfl) (by rfl)) (@dJ _ _ _ _ _ (@bO _ _ _ _ _ _ _ _ _ _ G_p_none_twice (hr.mono (by decide)) (aA (pv 0) aD) (by rfl) (by decide) (by rfl) (by rfl))))))), ?_⟩
 refine ⟨_, rfl, _, _, rfl, d, 40, hd, rfl, _, rfl, ?_⟩
 cases d with
 | lst ds =>
  obtain ⟨p, us, rfl, o, hi⟩ := hd
  have l1 := hi.length
  have hs' := Bool.and_eq_true_iff.mp (show (decide (ds.length ≤ 1000) && fV ds) = true from hs)
  have l2 : ds.length ≤ 1000 := of_decide_eq_true hs'.1
  have q : Q (.bl ((decide (1 ≤ ds.length) && decide (ds.length ≤ 40)) && (ds.all (cY zs0) && decide ((ds.map cU).Nodup)))) H := q
  have e0 : (decide (1 ≤ ds.length) && decide ((ds.length : Int) ≤ 40)) = (decide (1 ≤ ds.length) && decide (ds.length ≤ 40)) := by
   congr 1
   rw [Bool.eq_iff_iff, decide_eq_true_iff, decide_eq_true_iff]
   omega
  show if (decide (1 ≤ ds.length) && decide ((ds.length : Int) ≤ 40)) = true then _ else _
  rw [e0]
  refine kD (fun h1 => ?_) (fun h1 => ?_)
  ·rw [h1, Bool.true_and] at q
   refine ⟨_, rfl, p, rfl, ⟨_, SqL.of o⟩, ?_⟩
   refine bP (F := K) (xs := us) (by omega) (fun i ys H' => H' = H ∧ ys = (ds.take i).map fun d => V.bl (cY zs0 d)) ⟨rfl, rfl⟩ ?_ ?_ ?_
   ·rintro i ys H' hi' ⟨rfl, rfl⟩
    exact ⟨SqL.of o, by rw [List.length_map, List.length_take]; omega⟩
   ·rintro i x ys H' K1 K2 hx ⟨rfl, rfl⟩ k1 k2
    have hil : i < us.length := (List.getElem?_eq_some_iff.mp hx).1
    obtain ⟨d, ed⟩ : ∃ d, ds[i]? = some d := ⟨_, List.getElem?_eq_getElem (by omega)⟩
    obtain ⟨v, ev, iv⟩ := hi.get ed
    rw [hx] at ev
    cases ev
    refine ⟨_, rfl, _, rfl, _, _, rfl, d, p0, zs0, iv, gR hs'.2 (List.mem_of_getElem? ed), rfl, SqL.of hp0, k1 _ _ ⟨rfl, ?_⟩⟩
    rw [List.take_add_one, ed]
    simp
   ·rintro ys H' ⟨rfl, rfl⟩
    intro p1 hp1
    have np : p ≠ p1 := bG o hp1
    refine ⟨p1, ds.map (cY zs0), rfl, SqL.of ?_, _, rfl, ?_⟩
    ·rw [aB, List.take_of_length_le (by omega), List.map_map]
     rfl
    have e1 : (ds.map (cY zs0)).all id = ds.all (cY zs0) := by rw [List.all_map]; rfl
    rw [e1]
    refine kD (fun h2 => ?_) (fun h2 => ?_)
    ·rw [h2, Bool.true_and] at q
     obtain ⟨zs, ez⟩ := qG wX h2
     have l3 : zs.length = ds.length := by have := congrArg List.length ez; simpa using this.symm
     refine ⟨_, rfl, _, rfl, p, us, ds, zs, rfl, by rw [aT np]; exact o, IsL.same (aI.upd hp1) _ _ hi, ez, by omega, ?_⟩
     have e2 : decide zs.Nodup = decide (ds.map cU).Nodup := by rw [ez, Bool.eq_iff_iff, decide_eq_true_iff, decide_eq_true_iff, iF]
     rw [e2]
     exact eD.of (iX.lst hp1) q
    ·have h2' : ds.all (cY zs0) = false := by simpa using h2
     rw [h2'] at q
     exact eD.of (iX.lst hp1) q
  ·have h1' : (decide (1 ≤ ds.length) && decide (ds.length ≤ 40)) = false := by simpa using h1
   rw [h1'] at q
   exact eD.of (.refl _) q
 | _ => exact bF (eD.of (.refl _) q)
def aEW (C : Addr) : Sp := sp3 fun x v1 v2 H Q => ∃ (p dx : Addr) (fs ds : List Dv), x = .ref p ∧ H p = some (.ins C dx []) ∧ Is H (.lst fs) v1 ∧ Is H (.lst ds) v2 ∧ dR (.lst fs) = true ∧ dR (.lst ds) = true ∧
 lP (.lst fs) = true ∧ nM ("sea" :: fs.map aK) (.lst ds) = true ∧ ∀ H', LandAt C H' p fs ds → (∀ b o, H b = some o → b ≠ p → H' b = some o) → Q .non H'
def oH (C : Addr) (sel : List Dv → List Dv → List Dv) : Sp := sp1 fun x H Q => ∃ (p : Addr) (fs ds : List Dv), x = .ref p ∧ LandAt C H p fs ds ∧ ∀ (l : Addr) (vs : List V) (H' : Hp), aI H H' → H l = none → H' l = some (.lst vs) → IsL H' (sel fs ds) vs → Q (.ref l) H'
def kR (C : Addr) (sel : List Dv → List Dv → List Str) : Sp := sp1 fun x H Q => ∃ (p : Addr) (fs ds : List Dv), x = .ref p ∧ LandAt C H p fs ds ∧ ∀ (l : Addr) (H' : Hp), aI H H' → H l = none → H' l = some (.lst ((sel fs ds).map V.str)) → Q (.ref l) H'
def aBL (C : Addr) (sel : List Dv → List Dv → List Dv) : Sp := sp1 fun x H Q => ∃ (p : Addr) (fs ds : List Dv), x = .ref p ∧ LandAt C H p fs ds ∧ ∀ (l : Addr) (vs : List V), H l = none → IsL H (sel fs ds) vs → Q (.ref l) (upd H l (.lst vs))
def aBH (C : Addr) (sel : List Dv → List Dv → List Str) : Sp := sp1 fun x H Q => ∃ (p : Addr) (fs ds : List Dv), x = .ref p ∧ LandAt C H p fs ds ∧ ∀ (l : Addr), H l = none → Q (.ref l) (upd H l (.lst ((sel fs ds).map V.str)))
theorem aFH {C : Addr} {sel : List Dv → List Dv → List Dv} : ∀ vs H Q E, oH C sel vs H Q E → aBL C sel vs H Q E := by
 rintro vs H Q E ⟨x, rfl, p, fs, ds, rfl, L, q⟩
 exact ⟨_, rfl, p, fs, ds, rfl, L, fun l us hl hi => q l us _ (aI.upd hl) hl aB (IsL.same (aI.upd hl) _ _ hi)⟩
theorem aEO {C : Addr} {sel : List Dv → List Dv → List Str} : ∀ vs H Q E, kR C sel vs H Q E → aBH C sel vs H Q E := by
 rintro vs H Q E ⟨x, rfl, p, fs, ds, rfl, L, q⟩
 exact ⟨_, rfl, p, fs, ds, rfl, L, fun l hl => q l _ (aI.upd hl) hl aB⟩
theorem pZ (T : Txt K mg C) : Mc P w K mg base 1 C "dykes" ["self"] (aBL C fun _ ds => ds) := by
 refine T.m_land_p_dykes.mcD rD nZ (fun f cdv A outer s H vs Q E hr h => ?_)
 obtain ⟨x, rfl, p, fs, ds, rfl, L, q⟩ := h
 obtain ⟨dx, d1, d2, hx, t1, ⟨k1, h1, e1, i1⟩⟩ := L.ex
 refine ⟨_, (aH (@aR _ _ _ _ (@cL _ _ _ _ _ _ _ _ _ (@qL _ rfl) rfl T.n_list eC (aA (@aKF _ _ _ _ _ _ _ _ _ PySem.F.plainAttrs_dict PySem.F.slot_dict_values PySem.F.type_dict_values aDK (@gT _ _ _ _ _ (pv 0) rfl) (by rfl) (by rfl)) aD) (by decide) (by decide) (by rfl) (by rfl)))), ?_⟩
 refine ⟨_, rfl, p, C, dx, _, _, rfl, hx, T.cl_Land, T.a_dyke_rows, aCB _ _, .inr (.inr (.inl ⟨rfl, .inl ⟨_, h1⟩⟩)), d2, k1, rfl, rfl, .inl h1, fun v hv => ?_⟩
 have nv : d2 ≠ v := bG h1 hv
 refine ⟨v, d2, k1, rfl, aB, .inl (by rw [aT nv]; exact h1), fun l hl => ?_⟩
 exact eD.of (iX.under hv rfl hl) (q l _ ((aI.upd hv).free hl) i1)
theorem eW (T : Txt K mg C) : Mc P w K mg base 1 C "dykes" ["self"] (oH C fun _ ds => ds) := (pZ T).imp aFH
theorem aAE {kvs : List (Key × V)} {ds : List Dv} (e : kvs.map (·.1) = ds.map lK) : (kvs.map fun kv => kV kv.1) = (ds.map aK).map V.str := by
 have h : (kvs.map fun kv => kV kv.1) = (kvs.map (·.1)).map kV := by rw [List.map_map]; rfl
 rw [h, e, List.map_map, List.map_map]
 rfl
theorem mC (T : Txt K mg C) : Mc P w K mg base 1 C "field_names" ["self"] (aBH C fun fs _ => fs.map aK) := by
 refine T.m_land_p_field_names.mc mL nZ (fun f cdv A outer s H vs Q E hr h => ?_)
 obtain ⟨x, rfl, p, fs, ds, rfl, L, q⟩ := h
 obtain ⟨dx, d1, d2, hx, ⟨k1, h1, e1, i1⟩, t2⟩ := L.ex
 refine ⟨_, (aH (@aR _ _ _ _ (@cL _ _ _ _ _ _ _ _ _ (@uJ _ rfl) rfl T.n_list eC (aA (@gT _ _ _ _ _ (pv 0) rfl) aD) (by decide) (by decide) (by rfl) (by rfl)))), ?_⟩
 refine ⟨_, rfl, p, C, dx, _, _, rfl, hx, T.cl_Land, T.a_field_rows, rW _ _, d1, k1, rfl, .inl h1, fun l hl => ?_⟩
 have := q l hl
 rw [aAE e1]
 exact this
theorem dN (T : Txt K mg C) : Mc P w K mg base 1 C "field_names" ["self"] (kR C fun fs _ => fs.map aK) := (mC T).imp aEO
theorem iW {H : Hp} {n a b : Str} {c r : Int} {s : Dv} {v : V} (h : Is H (.tup [.str n, .str a, .str b, .int c, .int r, s]) v) : ∃ t vs, v = .ref t ∧ H t = some (.tup [.str n, .str a, .str b, .int c, .int r, vs]) ∧ Is H s vs := by
 obtain ⟨t, us, rfl, o, v0, r0, rfl, i0, v1, r1, rfl, i1, v2, r2, rfl, i2, v3, r3, rfl, i3, v4, r4, rfl, i4, v5, r5, rfl, i5, h0⟩ := h
 cases (show r5 = [] from h0)
 cases (show v0 = _ from i0)
 cases (show v1 = _ from i1)
 cases (show v2 = _ from i2)
 cases (show v3 = _ from i3)
 cases (show v4 = _ from i4)
 exact ⟨t, v5, rfl, o, i5⟩
theorem jO {H : Hp} {n : Str} {g e : Int} {v : V} (h : Is H (.tup [.str n, .int g, .int e]) v) : ∃ t, v = .ref t ∧ H t = some (.tup [.str n, .int g, .int e]) := by
 obtain ⟨t, us, rfl, o, v0, r0, rfl, i0, v1, r1, rfl, i1, v2, r2, rfl, i2, h0⟩ := h
 cases (show r2 = [] from h0)
 cases (show v0 = _ from i0)
 cases (show v1 = _ from i1)
 cases (show v2 = _ from i2)
 exact ⟨t, rfl, o⟩
theorem hZ (T : Txt K mg C) : Mc P w K mg base 2 C "sluices" ["self"] (kR C fun _ ds => (ds.filter bC).map aK) := by
 have G_land_p_dykes : Mc P w K mg base 1 C "dykes" ["self"] (oH C fun _ ds => ds) := eW T
 refine T.m_land_p_sluices.mc pE nZ (fun f cdv A outer s H vs Q E hr h => ?_)
 obtain ⟨x, rfl, p, fs, ds, rfl, L, q⟩ := h
 have big := bT
 obtain ⟨dx, d1, d2, hx, _⟩ := L.ex
 have gd := (lN _ _).mp L.okd
 refine ⟨_, (aH (@aR _ _ _ _ (@cA _ _ _ _ _ _ _ _ _ _ _ ["dyke"] 1 [] rfl (@bM _ _ _ _ (@jD _ _ _ _ _ _ _ _ _ _ _ T.cl_Land G_land_p_dykes (hr.mono (by decide)) (pv 0) (by rfl))) (fun R => @aO _ _ (0) _ (show List.Nodup (["dyke"] : List Str) by decide +kernel) rfl (Or.inl rfl) (by trivial)) (@aZ _ _ (by decide)) (fun R => @gJ _ _ _ (@bD _ _ _ _ _ _ _ _ mB (@aY _ _ _ _ _ _ _ (@aQ _ (K) rfl) (pv 0) aE (fun _ _ => rfl)) eZ (@bB _ _ (by decide) (by decide)))) (fun R => (@aY _ _ _ _ _ _ _ (@aQ _ (K) rfl) (pv 0) aE (fun _ _ => rfl))) (by rfl) (by rfl) (by rfl) (by rfl) (by rfl) (by rfl) (by rfl) (by intro _; rfl)))), ?_⟩
 refine ⟨_, rfl, p, dx, _, rfl, hx, dL _ _ (by decide +kernel) (by decide +kernel), _, rfl, p, fs, ds, rfl, L, fun l us H1 S1 fl hl hi => ?_⟩
 have hi : IsL H1 ds us := hi
 have l1 := hi.length
 have l2 := gd.l2
 refine ⟨l, rfl, ⟨_, SqL.of hl⟩, ?_⟩
 refine bP (F := K) (xs := us) (by omega) (fun i ys H' => H' = H1 ∧ ys = (((ds.take i).filter bC).map aK).map V.str ∧ ys.length ≤ i) ⟨rfl, rfl, Nat.le_refl _⟩ ?_ ?_ ?_
 ·rintro i ys H' hi' ⟨rfl, rfl, hy⟩
  exact ⟨SqL.of hl, hy⟩
 ·rintro i x ys H' K1 K2 hx ⟨rfl, rfl, hy⟩ k1 k2
  have hil : i < us.length := (List.getElem?_eq_some_iff.mp hx).1
  obtain ⟨d, ed⟩ : ∃ d, ds[i]? = some d := ⟨_, List.getElem?_eq_getElem (by omega)⟩
  obtain ⟨v, ev, iv⟩ := hi.get ed
  rw [hx] at ev
  cases ev
  obtain ⟨n, a, b, c, r, sl, rfl, _⟩ := bR (gd.all d (List.mem_of_getElem? ed))
  obtain ⟨t, vs, rfl, o, iss⟩ := iW iv
  refine ⟨_, rfl, t, _, 5, vs, rfl, rfl, SqT.of o, aJ (j := 5) rfl, rfl, _, rfl, ?_⟩
  rw [yU iss]
  have e0 : bC (.tup [.str n, .str a, .str b, .int c, .int r, sl]) = !tS sl := rfl
  cases e : tS sl with
  | true =>
   refine bF (k2 _ ⟨rfl, ?_, by omega⟩)
   rw [List.take_add_one, ed]
   simp [e0, e]
  | false =>
   refine bU ⟨_, rfl, t, _, 0, .str n, rfl, rfl, SqT.of o, aJ (j := 0) rfl, k1 _ _ ⟨rfl, ?_, by rw [List.length_append, List.length_singleton]; omega⟩⟩
   rw [List.take_add_one, ed]
   simp [e0, e, aK, cU]
 ·rintro ys H' ⟨rfl, rfl, hy⟩
  intro l2 hl2
  refine q l2 _ (S1.trans (aI.upd hl2)) (S1.free hl2) ?_
  rw [aB, List.take_of_length_le (by omega)]
theorem bY {C : Addr} {H : Hp} {p : Addr} {fs ds : List Dv} (L : LandAt C H p fs ds) : GoodF fs ∧ GoodD ("sea" :: fs.map aK) ds := ⟨(nR _).mp L.okf, (lN _ _).mp L.okd⟩
def kZ (C : Addr) : Sp := sp2 fun x y H Q => ∃ (p : Addr) (fs ds : List Dv) (z : Str) (g e : Int), x = .ref p ∧ y = .str z ∧ LandAt C H p fs ds ∧ Dv.tup [.str z, .int g, .int e] ∈ fs ∧ Q (.int g) H
theorem eL (T : Txt K mg C) : Mc P w K mg base 1 C "ground" ["self", "field"] (kZ C) := by
 refine T.m_land_p_ground.mc pX jH (fun f cdv A outer s H vs Q E hr h => ?_)
 obtain ⟨x, y, rfl, p, fs, ds, z, g, e, rfl, rfl, L, m, q⟩ := h
 have hu := kF hr
 obtain ⟨dx, d1, d2, hx, ⟨k1, h1, e1, i1⟩, t2⟩ := L.ex
 obtain ⟨v, ev, iv⟩ := wH e1 i1 (bY L).1.nd m
 obtain ⟨t, rfl, o⟩ := jO iv
 refine ⟨_, (aH (@aR _ _ _ _ (@aY _ _ _ _ _ _ _ (@aQ _ (K) rfl) (@eQ _ _ _ _ _ _ hu (@gT _ _ _ _ _ (pv 0) rfl) (pv 1) (fun _ _ => rfl)) aE (fun _ _ => rfl)))), ?_⟩
 refine ⟨_, rfl, p, C, dx, _, _, rfl, hx, T.cl_Land, T.a_field_rows, rW _ _, _, rfl, d1, .ref t, rfl, ?_, t, _, 1, .int g, rfl, rfl, SqT.of o, aJ (j := 1) rfl, q⟩
 rw [← ev]
 exact mH.k (k := Sum.inr z) h1
def aBT (C : Addr) : Sp := sp2 fun x y H Q => ∃ (p : Addr) (fs ds : List Dv) (d : Dv), x = .ref p ∧ y = .str (aK d) ∧ LandAt C H p fs ds ∧ d ∈ ds ∧ ∀ v, Is H d v → Q v H
theorem tI (T : Txt K mg C) : Mc P w K mg base 1 C "dyke" ["self", "name"] (aBT C) := by
 refine T.m_land_p_dyke.mc sP jH (fun f cdv A outer s H vs Q E hr h => ?_)
 obtain ⟨x, y, rfl, p, fs, ds, d, rfl, rfl, L, m, q⟩ := h
 have hu := kF hr
 obtain ⟨dx, d1, d2, hx, t1, ⟨k1, h1, e1, i1⟩⟩ := L.ex
 obtain ⟨v, ev, iv⟩ := wH e1 i1 (bY L).2.nd m
 refine ⟨_, (aH (@aR _ _ _ _ (@eQ _ _ _ _ _ _ hu (@gT _ _ _ _ _ (pv 0) rfl) (pv 1) (fun _ _ => rfl)))), ?_⟩
 refine ⟨_, rfl, p, C, dx, _, _, rfl, hx, T.cl_Land, T.a_dyke_rows, aCB _ _, _, rfl, d2, v, rfl, ?_, q v iv⟩
 rw [← ev]
 exact mH.k (k := Sum.inr (aK d)) h1
theorem aBA {α β : Type} : ∀ {xs : List α} {ys : List β}, xs.length = ys.length → (xs.zip ys).map (·.1) = xs
 | [], [], _ => rfl
 | x :: xs, y :: ys, h => by rw [List.zip_cons_cons, List.map_cons, aBA (by simpa using h)]
 | [], _ :: _, h => by simp at h
 | _ :: _, [], h => by simp at h
theorem aAZ {α β : Type} : ∀ {xs : List α} {ys : List β}, xs.length = ys.length → (xs.zip ys).map (·.2) = ys
 | [], [], _ => rfl
 | x :: xs, y :: ys, h => by rw [List.zip_cons_cons, List.map_cons, aAZ (by simpa using h)]
 | [], _ :: _, h => by simp at h
 | _ :: _, [], h => by simp at h
def dC (ds : List Dv) (us : List V) : List (Key × V) := (ds.map lK).zip us
theorem lY {ds : List Dv} {us : List V} (h : us.length = ds.length) : (dC ds us).map (·.1) = ds.map lK := aBA (by rw [List.length_map]; exact h.symm)
theorem sT {ds : List Dv} {us : List V} (h : us.length = ds.length) : (dC ds us).map (·.2) = us := aAZ (by rw [List.length_map]; exact h.symm)
theorem nP {ds : List Dv} {us : List V} (h : us.length = ds.length) : (dC ds us).length = us.length := by
 unfold dC
 rw [List.length_zip, List.length_map]
 omega
theorem yF {ds : List Dv} {us : List V} {i : Nat} {d : Dv} {v : V} (e1 : ds[i]? = some d) (e2 : us[i]? = some v) : (dC ds us)[i]? = some (lK d, v) := by
 unfold dC
 rw [List.getElem?_zip_eq_some]
 exact ⟨by rw [List.getElem?_map, e1]; rfl, e2⟩
theorem nQ {ds : List Dv} (h : (ds.map aK).Nodup) : (ds.map lK).Nodup := by
 have e : ds.map lK = (ds.map aK).map Sum.inr := by rw [List.map_map]; rfl
 rw [e, jK]
 exact h
theorem uU (T : Txt K mg C) : Ic P w K mg base 6 C ["self", "fields", "dykes"] (aEW C) := by
 have G_p_are_fields : Fc P w K mg base 4 "are_fields" ["thing"] xU := rL T
 have G_p_are_dykes : Fc P w K mg base 5 "are_dykes" ["thing", "sides"] (aBS K) := tH T
 refine T.i_Land.ic uR yS (fun f cdv A outer s H vs Q E hr h => ?_)
 obtain ⟨x, v1, v2, rfl, p, dx, fs, ds, rfl, hx, hf, hd, sf, sd, okf, okd, q⟩ := h
 have big := bT
 have gf := (nR _).mp okf
 have gd := (lN _ _).mp okd
 have lf := gf.l2
 have ld := gd.l2
 obtain ⟨a1, us, rfl, o1, i1⟩ := id hf
 obtain ⟨a2, ws, rfl, o2, i2⟩ := id hd
 have l1 := i1.length
 have l2 := i2.length
 refine ⟨_, (aG (@cE _ _ _ _ _ _ _ _ (@dP _ _ _ _ (@cN _ _ _ (@bO _ _ _ _ _ _ _ _ _ _ G_p_are_fields (hr.mono (by decide)) (aA (pv 1) aD) (by rfl) (by decide) (by rfl) (by rfl)) (by intro _; rfl))) (aH mV) bE) (aG (@cE _ _ _ _ _ _ _ _ (@dP _ _ _ _ (@cN _ _ _ (@bO _ _ _ _ _ _ _ _ _ _ G_p_are_dykes (hr.mono (by decide)) (aA (pv 2) (aA (@aP _ _ _ _ _ _ _ _ sX (@cG _ _ _ _ (aA (@nY _ _ _ _ T.g_SEA (by rfl) (by decide)) aD)) (@cA _ _ _ _ _ _ _ _ _ _ _ ["field"] 1 [] rfl (@bM _ _ _ _ (pv 1)) (fun R => @aO _ _ (0) _ (show List.Nodup (["field"] : List Str) by decide +kernel) rfl (Or.inl rfl) (by trivial)) (@aZ _ _ (by decide)) (fun R => cI) (fun R => (@aY _ _ _ _ _ _ _ (@aQ _ (K) rfl) (pv 0) aE (fun _ _ => rfl))) (by rfl) (by rfl) (by rfl) (by rfl) (by rfl) (by rfl) (by rfl) (by intro _; rfl))) aD)) (by rfl) (by decide) (by rfl) (by rfl)) (by intro _; rfl))) (aH mV) bE) (aG (@kT _ _ _ _ _ _ _ _ (pv 0) (@cL _ _ _ _ _ _ _ _ _ (@cZ _ rfl) rfl T.n_dict gW (aA (@cA _ _ _ _ _ _ _ _ _ _ _ ["field"] 1 [] rfl (@bM _ _ _ _ (pv 1)) (fun R => @aO _ _ (0) _ (show List.Nodup (["field"] : List Str) by decide +kernel) rfl (Or.inl rfl) (by trivial)) (@aZ _ _ (by decide)) (fun R => cI) (fun R => (@cO _ _ _ _ _ (aA (@aY _ _ _ _ _ _ _ (@aQ _ (K) rfl) (pv 0) aE (fun _ _ => rfl)) (aA (pv 0) aD)))) (by rfl) (by rfl) (by rfl) (by rfl) (by rfl) (by rfl) (by rfl) (by intro _; rfl)) aD) (by decide) (by decide) (by rfl) (by rfl)) rfl) (aH (@kT _ _ _ _ _ _ _ _ (pv 0) (@cL _ _ _ _ _ _ _ _ _ (@cZ _ rfl) rfl T.n_dict gW (aA (@cA _ _ _ _ _ _ _ _ _ _ _ ["dyke"] 1 [] rfl (@bM _ _ _ _ (pv 2)) (fun R => @aO _ _ (0) _ (show List.Nodup (["dyke"] : List Str) by decide +kernel) rfl (Or.inl rfl) (by trivial)) (@aZ _ _ (by decide)) (fun R => cI) (fun R => (@cO _ _ _ _ _ (aA (@aY _ _ _ _ _ _ _ (@aQ _ (K) rfl) (pv 0) aE (fun _ _ => rfl)) (aA (pv 0) aD)))) (by rfl) (by rfl) (by rfl) (by rfl) (by rfl) (by rfl) (by rfl) (by intro _; rfl)) aD) (by decide) (by decide) (by rfl) (by rfl)) rfl))))), ?_⟩
 refine ⟨_, rfl, _, rfl, .lst fs, hf, sf, _, rfl, ?_⟩
 rw [okf]
 refine bF ?_
 refine ⟨_, rfl, aN rfl, fun p1 hp1 => ?_⟩
 have S1 := aI.upd (o := .lst [.str "sea"]) hp1
 refine ⟨_, rfl, a1, rfl, ⟨_, SqL.of (S1 _ _ o1)⟩, ?_⟩
 refine bP (F := K) (xs := us) (by omega) (fun i ys H' => H' = upd H p1 (.lst [.str "sea"]) ∧ ys = ((fs.take i).map aK).map V.str) ⟨rfl, rfl⟩ ?_ ?_ ?_
 ·rintro i ys H' hi' ⟨rfl, rfl⟩
  exact ⟨SqL.of (S1 _ _ o1), by rw [List.length_map, List.length_map, List.length_take]; omega⟩
 ·rintro i x ys H' K1 K2 hx' ⟨rfl, rfl⟩ k1 k2
  have hil : i < us.length := (List.getElem?_eq_some_iff.mp hx').1
  obtain ⟨d, ed⟩ : ∃ d, fs[i]? = some d := ⟨_, List.getElem?_eq_getElem (by omega)⟩
  obtain ⟨v, ev, iv⟩ := i1.get ed
  rw [hx'] at ev
  cases ev
  obtain ⟨z, g, e, rfl, _⟩ := bJ (gf.all d (List.mem_of_getElem? ed))
  obtain ⟨t, rfl, o⟩ := jO iv
  refine ⟨_, rfl, t, _, 0, .str z, rfl, rfl, SqT.of (S1 _ _ o), aJ (j := 0) rfl, k1 _ _ ⟨rfl, ?_⟩⟩
  rw [List.take_add_one, ed]
  simp [aK, cU]
 ·rintro ys H' ⟨rfl, rfl⟩
  intro p2 hp2
  rw [List.take_of_length_le (by omega)]
  have S2 := aI.upd (o := .lst ((fs.map aK).map V.str)) hp2
  refine ⟨p1, p2, _, _, rfl, rfl, S2 _ _ aB, aB, by simp only [List.length_map, List.length_cons, List.length_nil]; omega, fun p3 hp3 => ?_⟩
  have S3 := aI.upd (o := .lst ([.str "sea"] ++ (fs.map aK).map V.str)) hp3
  have S := S1.trans (S2.trans S3)
  generalize hH3 : upd (upd (upd H p1 (.lst [.str "sea"])) p2 (.lst ((fs.map aK).map V.str))) p3 (.lst ([.str "sea"] ++ (fs.map aK).map V.str)) = H3 at S
  have hp3' : H3 p3 = some (.lst ((("sea" : Str) :: fs.map aK).map V.str)) := by rw [← hH3, aB]; rfl
  refine ⟨_, _, rfl, .lst ds, p3, _, Is.same S _ _ hd, sd, rfl, hp3', _, rfl, ?_⟩
  rw [okd]
  refine bF ?_
  refine ⟨_, rfl, a1, rfl, ⟨_, SqL.of (S _ _ o1)⟩, ?_⟩
  refine bP (F := K) (xs := us) (by omega) (fun i ys H' => aI H3 H' ∧ bV H' ys ((dC fs us).take i)) ⟨aI.refl _, bV.nil _⟩ ?_ ?_ ?_
  ·rintro i ys H' hi' ⟨S4, pr⟩
   exact ⟨SqL.of (S4 _ _ (S _ _ o1)), by have := pr.len; rw [List.length_take] at this; omega⟩
  ·rintro i x ys H' K1 K2 hx' ⟨S4, pr⟩ k1 k2
   have hil : i < us.length := (List.getElem?_eq_some_iff.mp hx').1
   obtain ⟨d, ed⟩ : ∃ d, fs[i]? = some d := ⟨_, List.getElem?_eq_getElem (by omega)⟩
   obtain ⟨v, ev, iv⟩ := i1.get ed
   rw [hx'] at ev
   cases ev
   obtain ⟨z, g, e, rfl, _⟩ := bJ (gf.all d (List.mem_of_getElem? ed))
   obtain ⟨t, rfl, o⟩ := jO iv
   have ot := S4 _ _ (S _ _ o)
   refine ⟨_, rfl, t, _, 0, .str z, rfl, rfl, SqT.of ot, aJ (j := 0) rfl, _, rfl, aN rfl, fun pt hpt => k1 _ _ ⟨S4.trans (aI.upd hpt), ?_⟩⟩
   rw [List.take_add_one, yF ed hx']
   exact pr.snoc (k := Sum.inr z) hpt
  ·rintro ys H4 ⟨S4, pr⟩
   rw [List.take_of_length_le (by rw [nP l1]; omega)] at pr
   intro p4 hp4
   have S5 := aI.upd (o := .lst ys) hp4
   refine ⟨p4, ys, dC fs us, rfl, SqL.of aB, pr.same S5, by rw [nP l1]; omega, by rw [lY l1]; exact nQ gf.nd, fun d1 hd1 => ?_⟩
   have S6 := aI.upd (o := .dK (dC fs us)) hd1
   have SA := S.trans (S4.trans (S5.trans S6))
   have hd1' : upd (upd H4 p4 (.lst ys)) d1 (.dK (dC fs us)) d1 = some (.dK (dC fs us)) := aB
   generalize upd (upd H4 p4 (.lst ys)) d1 (.dK (dC fs us)) = H6 at SA hd1'
   refine ⟨_, rfl, p, C, dx, [], rfl, SA _ _ hx, T.cl_Land, T.a_field_rows, (by show 0 < 1000; decide), ?_⟩
   have SB : ∀ b o, H b = some o → b ≠ p → upd H6 p (.ins C dx (cX "field_rows" (.ref d1) [])) b = some o := fun b o e hb => by rw [aT hb]; exact SA _ _ e
   have nd1 : d1 ≠ p := aBZ hd1' (SA _ _ hx) (by intro z; cases z)
   have SD : aCK H (upd H6 p (.ins C dx (cX "field_rows" (.ref d1) []))) := fun b o e dt => SB b o e (fun z => by subst z; rw [hx] at e; cases e; cases dt)
   have hp7 : upd H6 p (.ins C dx (cX "field_rows" (.ref d1) [])) p = some (.ins C dx (cX "field_rows" (.ref d1) [])) := aB
   have hd7 : upd H6 p (.ins C dx (cX "field_rows" (.ref d1) [])) d1 = some (.dK (dC fs us)) := by rw [aT nd1]; exact hd1'
   generalize upd H6 p (.ins C dx (cX "field_rows" (.ref d1) [])) = H7 at SB SD hp7 hd7
   refine ⟨_, rfl, a2, rfl, ⟨_, SqL.of (SD _ _ o2 rfl)⟩, ?_⟩
   refine bP (F := K) (xs := ws) (by omega) (fun i ys H' => aI H7 H' ∧ bV H' ys ((dC ds ws).take i)) ⟨aI.refl _, bV.nil _⟩ ?_ ?_ ?_
   ·rintro i ys H' hi' ⟨S8, pr⟩
    exact ⟨SqL.of (S8 _ _ (SD _ _ o2 rfl)), by have := pr.len; rw [List.length_take] at this; omega⟩
   ·rintro i x ys H' K1 K2 hx' ⟨S8, pr⟩ k1 k2
    have hil : i < ws.length := (List.getElem?_eq_some_iff.mp hx').1
    obtain ⟨d, ed⟩ : ∃ d, ds[i]? = some d := ⟨_, List.getElem?_eq_getElem (by omega)⟩
    obtain ⟨v, ev, iv⟩ := i2.get ed
    rw [hx'] at ev
    cases ev
    obtain ⟨n, a, b, c, r, sl, rfl, _⟩ := bR (gd.all d (List.mem_of_getElem? ed))
    obtain ⟨t, vs, rfl, o, _⟩ := iW iv
    have ot := S8 _ _ (SD _ _ o rfl)
    refine ⟨_, rfl, t, _, 0, .str n, rfl, rfl, SqT.of ot, aJ (j := 0) rfl, _, rfl, aN rfl, fun pt hpt => k1 _ _ ⟨S8.trans (aI.upd hpt), ?_⟩⟩
    rw [List.take_add_one, yF ed hx']
    exact pr.snoc (k := Sum.inr n) hpt
   ·rintro ys H8 ⟨S8, pr⟩
    rw [List.take_of_length_le (by rw [nP l2]; omega)] at pr
    intro p9 hp9
    have S9 := aI.upd (o := .lst ys) hp9
    refine ⟨p9, ys, dC ds ws, rfl, SqL.of aB, pr.same S9, by rw [nP l2]; omega, by rw [lY l2]; exact nQ gd.nd, fun d2 hd2 => ?_⟩
    have S10 := aI.upd (o := .dK (dC ds ws)) hd2
    have SC := S8.trans (S9.trans S10)
    have hd2' : upd (upd H8 p9 (.lst ys)) d2 (.dK (dC ds ws)) d2 = some (.dK (dC ds ws)) := aB
    generalize upd (upd H8 p9 (.lst ys)) d2 (.dK (dC ds ws)) = H10 at SC hd2'
    refine ⟨_, rfl, p, C, dx, _, rfl, SC _ _ hp7, T.cl_Land, T.a_dyke_rows, (by show 1 < 1000; decide), ?_⟩
    have nd2 : d2 ≠ p := aBZ hd2' (SC _ _ hp7) (by intro z; cases z)
    have SE : aCK H (upd H10 p (.ins C dx (lG d1 d2))) := fun b o e dt => by
     have hb : b ≠ p := fun z => by subst z; rw [hx] at e; cases e; cases dt
     rw [aT hb]
     exact SC _ _ (SB _ _ e hb)
    refine q _ ⟨⟨dx, d1, d2, aB, ⟨_, (aT nd1).trans (SC _ _ hd7), lY l1, ?_⟩, ⟨_, (aT nd2).trans hd2', lY l2, ?_⟩⟩, okf, okd⟩ fun b o e hb => ?_
    ·rw [sT l1]
     exact IsL.sameD SE _ _ i1
    ·rw [sT l2]
     exact IsL.sameD SE _ _ i2
    ·show upd H10 p (.ins C dx (lG d1 d2)) b = some o
     rw [aT hb]
     exact SC _ _ (SB _ _ e hb)
open Mt02
def Scr (K : PySem.W.Frag) (H : Hp) (x : V) : Prop := ∃ (a : Addr) (ns : List Int), x = .ref a ∧ SqL K H a (ns.map V.int) ∧ ns.length ≤ 63
theorem Scr.same {K : PySem.W.Frag} {H H' : Hp} {x : V} (S : aI H H') (h : Scr K H x) : Scr K H' x := by
 obtain ⟨a, ns, e, q, l⟩ := h
 exact ⟨a, ns, e, S.seq q, l⟩
theorem at4 {a b c d i : Int} (h0 : 0 ≤ i) (h1 : i < 4) : ∃ m : Int, atI ([.int a, .int b, .int c, .int d] : List V) i = some (.int m) ∧ (m = a ∨ m = b ∨ m = c ∨ m = d) := by
 obtain ⟨k, rfl⟩ := Int.eq_ofNat_of_zero_le h0
 have hk : k < 4 := by omega
 match k, hk with
 | 0, _ => exact ⟨a, aJ rfl, .inl rfl⟩
 | 1, _ => exact ⟨b, aJ rfl, .inr (.inl rfl)⟩
 | 2, _ => exact ⟨c, aJ rfl, .inr (.inr (.inl rfl))⟩
 | 3, _ => exact ⟨d, aJ rfl, .inr (.inr (.inr rfl))⟩
structure Fds (fs : List Dv) (n : Nat) : Prop where
 l1 : 1 ≤ fs.length
 l2 : fs.length ≤ n
 all : ∀ d ∈ fs, cD d = true
 nd : (fs.map aK).Nodup
theorem aAJ {d : Dv} (h : cD d = true) : pP d = true := by
 obtain ⟨z, g, e, rfl, _⟩ := bJ h
 rfl
theorem aGT {z : Str} {g e : Int} (hz : fC z = true) (g0 : -1000000 ≤ g) (g1 : g ≤ 1000000) (e0 : 0 ≤ e) (e1 : e ≤ 1000000) : cD (.tup [.str z, .int g, .int e]) = true := by
 show (fC z && (hgt g && amt e)) = true
 unfold hgt amt
 rw [hz, decide_eq_true g0, decide_eq_true g1, decide_eq_true e0, decide_eq_true e1]
 rfl
structure Dks (zs : List Str) (ds : List Dv) (n : Nat) : Prop where
 l1 : 1 ≤ ds.length
 l2 : ds.length ≤ n
 all : ∀ d ∈ ds, cY zs d = true
 nd : (ds.map aK).Nodup
theorem aCT {c s : Dv} (h : nG c s = true) : pP s = true := by
 cases s with
 | non => rfl
 | int i => rfl
 | _ => cases h
theorem aDV {zs : List Str} {d : Dv} (h : cY zs d = true) : pP d = true := by
 obtain ⟨n, a, b, c, r, s, rfl, _, _, _, _, _, _, hs⟩ := bR h
 have := aCT hs
 show (true && (true && (true && (true && (true && (pP s && true)))))) = true
 rw [this]
 rfl
theorem aII {zs : List Str} {n a b : Str} {c r : Int} {s : Dv} (hn : fC n = true) (ha : a ∈ zs) (hb : b ∈ zs) (hab : a ≠ b) (hc : hgt c = true) (hr : amt r = true) (hs : nG (.int c) s = true) : cY zs (.tup [.str n, .str a, .str b, .int c, .int r, s]) = true := by
 show (fC n && (decide (a ∈ zs) && (decide (b ∈ zs) && !(a == b))) && (hgt c && (amt r && nG (.int c) s))) = true
 rw [hn, decide_eq_true ha, decide_eq_true hb, hc, hr, hs, beq_eq_false_iff_ne.mpr hab]
 rfl
theorem wZ {i : Int} (h0 : -1000000 ≤ i) (h1 : i ≤ 1000000) : hgt i = true := by
 unfold hgt
 rw [decide_eq_true h0, decide_eq_true h1]
 rfl
theorem aKZ {i : Int} (h0 : 0 ≤ i) (h1 : i ≤ 1000000) : amt i = true := by
 unfold amt
 rw [decide_eq_true h0, decide_eq_true h1]
 rfl
theorem rQ {z : Str} (h : fC z = true) : z ≠ "sea" := by
 intro e
 subst e
 simp [fC] at h
theorem aFD {fs : List Dv} {n : Nat} (h : Fds fs n) : ("sea" :: fs.map aK : List Str).Nodup := by
 rw [List.nodup_cons]
 refine ⟨fun m => ?_, h.nd⟩
 obtain ⟨d, md, e⟩ := List.mem_map.mp m
 obtain ⟨z, g, e', rfl, hz, _⟩ := bJ (h.all d md)
 exact rQ hz e
theorem at2 {a b i : Int} (h0 : 0 ≤ i) (h1 : i < 2) : ∃ m : Int, atI ([.int a, .int b] : List V) i = some (.int m) ∧ (m = a ∨ m = b) := by
 obtain ⟨k, rfl⟩ := Int.eq_ofNat_of_zero_le h0
 have hk : k < 2 := by omega
 match k, hk with
 | 0, _ => exact ⟨a, aJ rfl, .inl rfl⟩
 | 1, _ => exact ⟨b, aJ rfl, .inr rfl⟩
theorem aDU {fs : List Dv} {n : Nat} (h : Fds fs n) (hn : n ≤ 12) : lP (.lst fs) = true := (nR fs).mpr ⟨h.l1, Nat.le_trans h.l2 hn, h.all, h.nd⟩
theorem aGV {zs : List Str} {ds : List Dv} {n : Nat} (h : Dks zs ds n) (hn : n ≤ 40) : nM zs (.lst ds) = true := (lN zs ds).mpr ⟨h.l1, Nat.le_trans h.l2 hn, h.all, h.nd⟩
theorem oQ {z : Str} (h : fC z = true) : z.length ≤ 1000 := by
 unfold fC at h
 rw [Bool.and_eq_true, Bool.and_eq_true, Bool.and_eq_true] at h
 have := of_decide_eq_true h.1.1.2
 omega
theorem yX {d : Dv} (h : cD d = true) : dR d = true := by
 obtain ⟨z, g, e, rfl, hz, _⟩ := bJ h
 show (decide (3 ≤ 1000) && (decide (z.length ≤ 1000) && (true && (true && true)))) = true
 rw [decide_eq_true (oQ hz)]
 rfl
theorem sH {fs : List Dv} (hf : ∀ d ∈ fs, cD d = true) {a : Str} (h : a ∈ ("sea" :: fs.map aK : List Str)) : a.length ≤ 1000 := by
 rcases List.mem_cons.mp h with rfl | h
 ·decide +kernel
 ·obtain ⟨d, m, rfl⟩ := List.mem_map.mp h
  obtain ⟨z, g, e, rfl, hz, _⟩ := bJ (hf d m)
  exact oQ hz
theorem aAL {fs : List Dv} (hf : ∀ d ∈ fs, cD d = true) {d : Dv} (h : cY ("sea" :: fs.map aK) d = true) : dR d = true := by
 obtain ⟨n, a, b, c, r, s, rfl, hn, ha, hb, _, _, _, hs⟩ := bR h
 have e : dR s = true := by
  cases s with
  | non => rfl
  | int i => rfl
  | _ => cases hs
 show (decide (6 ≤ 1000) && (decide (n.length ≤ 1000) && (decide (a.length ≤ 1000) && (decide (b.length ≤ 1000) && (true && (true && (dR s && true))))))) = true
 rw [decide_eq_true (oQ hn), decide_eq_true (sH hf ha), decide_eq_true (sH hf hb), e]
 rfl
theorem vH {ds : List Dv} (h : ∀ d ∈ ds, dR d = true) (hl : ds.length ≤ 1000) : dR (.lst ds) = true := by
 show (decide (ds.length ≤ 1000) && fV ds) = true
 rw [decide_eq_true hl, nN h]
 rfl
theorem aGR {ds : List Dv} (h : ∀ d ∈ ds, aW 29 d = true) : aW 30 (.lst ds) = true := by
 have := oT h
 simpa [aW] using this
theorem yW (zs : List Str) : aW 30 (.lst (zs.map Dv.str)) = true := aGR fun d m => by
 obtain ⟨z, _, rfl⟩ := List.mem_map.mp m
 rfl
theorem aFV {d : Dv} {x y : V} {H : Hp} {Q : VK} (hx : Is H d x) (hy : Is H d y) (f : aW 30 d = true) (q : Q (.bl false) H) : aKA true x y H Q := ⟨d, d, hx, hy, f, f, by rw [uC 30 d f]; exact q⟩
open Ld
def vL : Dv → Dv → Bool
 | .int n, .int m => (decide (1 ≤ m) && decide (m ≤ 100)) && (decide (0 ≤ n) && decide (n < m))
 | _, _ => false
def iH (zs : List Str) : Dv → Bool
 | .tup [a] => bZ ["always"] a
 | .tup [a, b, c] => bZ ["day"] a && vL b c
 | .tup [a, b] => if bZ ["above", "below"] a then eN b else bZ ["wet", "dry"] a && bZ zs b
 | _ => false
def uL (zs : List Str) : Dv → Bool
 | .lst cs => (decide (1 ≤ cs.length) && decide ((cs.length : Int) ≤ 6)) && cs.all (iH zs)
 | _ => false
def oB (gs zs : List Str) : Dv → Bool
 | .tup [a, b, c] => (bZ ["open", "shut"] a && bZ gs b) && uL zs c
 | _ => false
def nX (gs zs : List Str) : Dv → Bool
 | .lst ds => decide (ds.length ≤ 60) && ds.all (oB gs zs)
 | _ => false
def sD (K : PySem.W.Frag) : Sp := sp2 fun x y H Q => ∃ (d : Dv) (p : Addr) (zs : List Str), Is H d x ∧ y = .ref p ∧ (SqL K H p (zs.map V.str) ∨ SqT K H p (zs.map V.str)) ∧ Q (.bl (bZ zs d)) H
theorem mK (T : Txt K mg C) : Fc P w K mg base 1 "is_one_of" ["thing", "names"] (sD K) := by
 refine T.d_p_is_one_of.fc mQ jH (fun f cdv A outer s H vs Q E hr h => ?_)
 obtain ⟨x, y, rfl, d, p, zs, hd, rfl, hp, q⟩ := h
 obtain ⟨t, ty, e1, e2, e3, _⟩ := oW K hd
 refine ⟨_, (aH (@aR _ _ _ _ (@cK _ _ _ _ _ _ _ (@aV _ _ _ _ _ _ _ _ _ (@dD _ (K) rfl) rfl T.n_isinstance cF (aA (pv 0) (aA (@pJ _ _ _ _ T.n_str qM (by rfl) (by decide) (by decide)) aD)) (by decide) (by decide) (by rfl) (by rfl)) (@dJ _ _ _ _ _ (@bX _ _ _ _ _ _ _ _ (@eB _ (K) rfl) (pv 0) (pv 1) (by with_unfolding_all rfl)))))), ?_⟩
 refine ⟨_, rfl, _, _, _, t, _, rfl, rfl, ty, e3, _, rfl, ?_⟩
 cases d with
 | str z =>
  cases (show x = .str z from hd)
  refine bU ⟨_, rfl, _, rfl, p, _, rfl, hp, rfl, cQ zs, ?_⟩
  show Q (.bl (inV (.str z) (zs.map V.str))) H
  rw [eS]
  exact q
 | _ => exact bF q
def aBU : Sp := sp2 fun x y H Q => ∃ a b : Dv, Is H a x ∧ Is H b y ∧ Q (.bl (vL a b)) H
theorem tF (T : Txt K mg C) : Fc P w K mg base 2 "is_day_of" ["number", "turn"] aBU := by
 have G_p_is_whole : Fc P w K mg base 1 "is_whole" ["thing"] rO := kU T
 refine T.d_p_is_day_of.fc sL jH (fun f cdv A outer s H vs Q E hr h => ?_)
 obtain ⟨x, y, rfl, a, b, ha, hb, q⟩ := h
 refine ⟨_, (aH (@aR _ _ _ _ (@cK _ _ _ _ _ _ _ (@bO _ _ _ _ _ _ _ _ _ _ G_p_is_whole (hr.mono (by decide)) (aA (pv 0) aD) (by rfl) (by decide) (by rfl) (by rfl)) (@cK _ _ _ _ _ _ _ (@bO _ _ _ _ _ _ _ _ _ _ G_p_is_whole (hr.mono (by decide)) (aA (pv 1) aD) (by rfl) (by decide) (by rfl) (by rfl)) (@cK _ _ _ _ _ _ _ (@mX _ _ _ _ _ _ _ _ _ _ _ _ kK kK aE (pv 1) (@nY _ _ _ _ T.g_MOST_ROUND (by rfl) (by decide)) (by with_unfolding_all rfl)) (@dJ _ _ _ _ _ (@mX _ _ _ _ _ _ _ _ _ _ _ _ kK qO aE (pv 0) (pv 1) (by with_unfolding_all rfl)))))))), ?_⟩
 refine ⟨_, rfl, _, rfl, a, ha, _, rfl, ?_⟩
 by_cases e : ∃ n m : Int, a = .int n ∧ b = .int m
 ·obtain ⟨n, m, rfl, rfl⟩ := e
  cases (show x = .int n from ha)
  cases (show y = .int m from hb)
  refine bU ⟨_, rfl, _, rfl, .int m, rfl, _, rfl, bU ?_⟩
  have q : Q (.bl ((decide (1 ≤ m) && decide (m ≤ 100)) && (decide (0 ≤ n) && decide (n < m)))) H := q
  refine ⟨_, rfl, _, _, rfl, rfl, _, rfl, ?_⟩
  cases e1 : decide (1 ≤ m) with
  | false =>
   rw [e1] at q
   exact bF ⟨_, rfl, bF q⟩
  | true =>
   rw [e1] at q
   refine bU ⟨_, _, rfl, rfl, _, rfl, ?_⟩
   cases e2 : decide (m ≤ 100) with
   | false =>
    rw [e2] at q
    exact bF q
   | true =>
    rw [e2] at q
    refine bU ⟨_, rfl, _, _, rfl, rfl, _, rfl, ?_⟩
    cases e3 : decide (0 ≤ n) with
    | false =>
     rw [e3] at q
     exact bF q
    | true =>
     rw [e3] at q
     exact bU ⟨_, rfl, _, _, rfl, rfl, q⟩
 ·have e0 : vL a b = false := by
   unfold vL
   split
   ·rename_i n m
    exact absurd ⟨n, m, rfl, rfl⟩ e
   ·rfl
  rw [e0] at q
  cases ia : isInt a with
  | false => exact bF q
  | true =>
   refine bU ⟨_, rfl, _, rfl, b, hb, _, rfl, ?_⟩
   cases ib : isInt b with
   | false => exact bF q
   | true =>
    cases a with
    | int n => cases b with
     | int m => exact absurd ⟨n, m, rfl, rfl⟩ e
     | _ => cases ib
    | _ => cases ia
def aFA (K : PySem.W.Frag) : Sp := sp2 fun x y H Q => ∃ (d : Dv) (p : Addr) (zs : List Str), Is H d x ∧ y = .ref p ∧ SqL K H p (zs.map V.str) ∧ ∀ H', aI H H' → Q (.bl (iH zs d)) H'
theorem pN (T : Txt K mg C) : Fc P w K mg base 3 "is_condition" ["thing", "fields"] (aFA K) := by
 have G_p_is_tuple_of : Fc P w K mg base 1 "is_tuple_of" ["thing", "length"] oZ := fS T
 have G_p_is_one_of : Fc P w K mg base 1 "is_one_of" ["thing", "names"] (sD K) := mK T
 have G_p_is_day_of : Fc P w K mg base 2 "is_day_of" ["number", "turn"] aBU := tF T
 have G_p_is_height : Fc P w K mg base 2 "is_height" ["thing"] kY := fN T
 obtain ⟨a_TIDES, m_TIDES, s_TIDES⟩ := T.g_TIDES
 obtain ⟨a_WATERS, m_WATERS, s_WATERS⟩ := T.g_WATERS
 refine T.d_p_is_condition.fc pB jH (fun f cdv A outer s H vs Q E hr h => ?_)
 obtain ⟨x, y, rfl, d, p, zs, hd, rfl, hp, q⟩ := h
 refine ⟨_, (aG (@cE _ _ _ _ _ _ _ _ (@cN _ _ _ (@bO _ _ _ _ _ _ _ _ _ _ G_p_is_tuple_of (hr.mono (by decide)) (aA (pv 0) (aA aE aD)) (by rfl) (by decide) (by rfl) (by rfl)) (by intro _; rfl)) (aH (@aR _ _ _ _ (@bO _ _ _ _ _ _ _ _ _ _ G_p_is_one_of (hr.mono (by decide)) (aA (@aY _ _ _ _ _ _ _ (@aQ _ (K) rfl) (pv 0) aE (fun _ _ => rfl)) (aA (@cO _ _ _ _ _ (aA cJ aD)) aD)) (by rfl) (by decide) (by rfl) (by rfl)))) bE) (aG (@cE _ _ _ _ _ _ _ _ (@cN _ _ _ (@bO _ _ _ _ _ _ _ _ _ _ G_p_is_tuple_of (hr.mono (by decide)) (aA (pv 0) (aA aE aD)) (by rfl) (by decide) (by rfl) (by rfl)) (by intro _; rfl)) (aH (@aR _ _ _ _ (@cK _ _ _ _ _ _ _ (@bO _ _ _ _ _ _ _ _ _ _ G_p_is_one_of (hr.mono (by decide)) (aA (@aY _ _ _ _ _ _ _ (@aQ _ (K) rfl) (pv 0) aE (fun _ _ => rfl)) (aA (@cO _ _ _ _ _ (aA cJ aD)) aD)) (by rfl) (by decide) (by rfl) (by rfl)) (@dJ _ _ _ _ _ (@bO _ _ _ _ _ _ _ _ _ _ G_p_is_day_of (hr.mono (by decide)) (aA (@aY _ _ _ _ _ _ _ (@aQ _ (K) rfl) (pv 0) aE (fun _ _ => rfl)) (aA (@aY _ _ _ _ _ _ _ (@aQ _ (K) rfl) (pv 0) aE (fun _ _ => rfl)) aD)) (by rfl) (by decide) (by rfl) (by rfl)))))) bE) (aG (@cE _ _ _ _ _ _ _ _ (@dP _ _ _ _ (@cN _ _ _ (@bO _ _ _ _ _ _ _ _ _ _ G_p_is_tuple_of (hr.mono (by decide)) (aA (pv 0) (aA aE aD)) (by rfl) (by decide) (by rfl) (by rfl)) (by intro _; rfl))) (aH (@aR _ _ _ _ mZ)) bE) (aG (@cE _ _ _ _ _ _ _ _ (@cN _ _ _ (@bO _ _ _ _ _ _ _ _ _ _ G_p_is_one_of (hr.mono (by decide)) (aA (@aY _ _ _ _ _ _ _ (@aQ _ (K) rfl) (pv 0) aE (fun _ _ => rfl)) (aA (@rT _ _ (.ref a_TIDES) _ _ rfl m_TIDES rfl (by decide)) aD)) (by rfl) (by decide) (by rfl) (by rfl)) (by intro _; rfl)) (aH (@aR _ _ _ _ (@bO _ _ _ _ _ _ _ _ _ _ G_p_is_height (hr.mono (by decide)) (aA (@aY _ _ _ _ _ _ _ (@aQ _ (K) rfl) (pv 0) aE (fun _ _ => rfl)) aD) (by rfl) (by decide) (by rfl) (by rfl)))) bE) (aH (@aR _ _ _ _ (@cK _ _ _ _ _ _ _ (@bO _ _ _ _ _ _ _ _ _ _ G_p_is_one_of (hr.mono (by decide)) (aA (@aY _ _ _ _ _ _ _ (@aQ _ (K) rfl) (pv 0) aE (fun _ _ => rfl)) (aA (@rT _ _ (.ref a_WATERS) _ _ rfl m_WATERS rfl (by decide)) aD)) (by rfl) (by decide) (by rfl) (by rfl)) (@dJ _ _ _ _ _ (@bO _ _ _ _ _ _ _ _ _ _ G_p_is_one_of (hr.mono (by decide)) (aA (@aY _ _ _ _ _ _ _ (@aQ _ (K) rfl) (pv 0) aE (fun _ _ => rfl)) (aA (pv 1) aD)) (by rfl) (by decide) (by rfl) (by rfl)))))))))), ?_⟩
 refine ⟨_, rfl, _, _, rfl, d, 1, hd, rfl, _, rfl, ?_⟩
 by_cases h1 : ∃ a, d = .tup [a]
 ·obtain ⟨a, rfl⟩ := h1
  obtain ⟨t, us, rfl, o, va, r1, rfl, ha, h0⟩ := hd
  cases (show r1 = [] from h0)
  refine bU ⟨_, rfl, t, _, 0, va, rfl, rfl, SqT.of o, aJ (j := 0) rfl, aN rfl, fun p1 hp1 => ?_⟩
  exact ⟨_, _, rfl, a, p1, ["always"], Is.same (aI.upd hp1) _ _ ha, rfl, .inr (SqT.of aB), q _ (aI.upd hp1)⟩
 have e1 : rY 1 d = false := by
  cases d with
  | tup ds =>
   refine decide_eq_false (fun e => ?_)
   have e' : ds.length = 1 := by omega
   match ds, e', h1 with
   | [a], _, h1 => exact h1 ⟨a, rfl⟩
  | _ => rfl
 rw [e1]
 refine bF ⟨_, rfl, _, _, rfl, d, 3, hd, rfl, _, rfl, ?_⟩
 by_cases h3 : ∃ a b c, d = .tup [a, b, c]
 ·obtain ⟨a, b, c, rfl⟩ := h3
  obtain ⟨t, us, rfl, o, va, r1, rfl, ha, vb, r2, rfl, hb, vc, r3, rfl, hc, h0⟩ := hd
  cases (show r3 = [] from h0)
  have q : ∀ H', aI H H' → Q (.bl (bZ ["day"] a && vL b c)) H' := q
  refine bU ⟨_, rfl, t, _, 0, va, rfl, rfl, SqT.of o, aJ (j := 0) rfl, aN rfl, fun p1 hp1 => ?_⟩
  have S := aI.upd (o := .tup [.str "day"]) hp1
  refine ⟨_, _, rfl, a, p1, ["day"], Is.same S _ _ ha, rfl, .inr (SqT.of aB), _, rfl, ?_⟩
  cases ea : bZ ["day"] a with
  | false =>
   rw [ea] at q
   exact bF (q _ S)
  | true =>
   rw [ea] at q
   exact bU ⟨_, rfl, t, _, 1, vb, rfl, rfl, SqT.of (S _ _ o), aJ (j := 1) rfl, _, rfl, t, _, 2, vc, rfl, rfl, SqT.of (S _ _ o), aJ (j := 2) rfl, _, _, rfl, b, c, Is.same S _ _ hb, Is.same S _ _ hc, q _ S⟩
 have e3 : rY 3 d = false := by
  cases d with
  | tup ds =>
   refine decide_eq_false (fun e => ?_)
   have e' : ds.length = 3 := by omega
   match ds, e', h3 with
   | [a, b, c], _, h3 => exact h3 ⟨a, b, c, rfl⟩
  | _ => rfl
 rw [e3]
 refine bF ⟨_, rfl, _, _, rfl, d, 2, hd, rfl, _, rfl, ?_⟩
 by_cases h2 : ∃ a b, d = .tup [a, b]
 ·obtain ⟨a, b, rfl⟩ := h2
  obtain ⟨t, us, rfl, o, va, r1, rfl, ha, vb, r2, rfl, hb, h0⟩ := hd
  cases (show r2 = [] from h0)
  have q : Q (.bl (if bZ ["above", "below"] a then eN b else bZ ["wet", "dry"] a && bZ zs b)) H := q H (aI.refl _)
  refine bF ⟨_, rfl, t, _, 0, va, rfl, rfl, SqT.of o, aJ (j := 0) rfl, _, _, rfl, a, a_TIDES, ["above", "below"], ha, rfl, .inr (s_TIDES H), _, rfl, ?_⟩
  cases ea : bZ ["above", "below"] a with
  | true =>
   rw [ea] at q
   exact bU ⟨_, rfl, t, _, 1, vb, rfl, rfl, SqT.of o, aJ (j := 1) rfl, _, rfl, b, hb, q⟩
  | false =>
   rw [ea] at q
   refine bF ⟨_, rfl, t, _, 0, va, rfl, rfl, SqT.of o, aJ (j := 0) rfl, _, _, rfl, a, a_WATERS, ["wet", "dry"], ha, rfl, .inr (s_WATERS H), _, rfl, ?_⟩
   have q : Q (.bl (bZ ["wet", "dry"] a && bZ zs b)) H := q
   cases eb : bZ ["wet", "dry"] a with
   | false =>
    rw [eb] at q
    exact bF (q)
   | true =>
    rw [eb] at q
    exact bU ⟨_, rfl, t, _, 1, vb, rfl, rfl, SqT.of o, aJ (j := 1) rfl, _, rfl, _, _, rfl, b, p, zs, hb, rfl, .inl hp, q⟩
 ·have e2 : rY 2 d = false := by
   cases d with
   | tup ds =>
    refine decide_eq_false (fun e => ?_)
    have e' : ds.length = 2 := by omega
    match ds, e', h2 with
    | [a, b], _, h2 => exact h2 ⟨a, b, rfl⟩
   | _ => rfl
  have e0 : iH zs d = false := by
   unfold iH
   split
   ·exact absurd ⟨_, rfl⟩ h1
   ·exact absurd ⟨_, _, _, rfl⟩ h3
   ·exact absurd ⟨_, _, rfl⟩ h2
   ·rfl
  rw [e2]
  have q := q H (aI.refl _)
  rw [e0] at q
  exact bU q
def aJB (K : PySem.W.Frag) : Sp := sp3 fun x y u H Q => ∃ (d : Dv) (p1 p2 : Addr) (gs zs : List Str), Is H d x ∧ dR d = true ∧ y = .ref p1 ∧ SqL K H p1 (gs.map V.str) ∧ u = .ref p2 ∧ SqL K H p2 (zs.map V.str) ∧ ∀ H', aI H H' → Q (.bl (oB gs zs d)) H'
theorem tE (T : Txt K mg C) : Fc P w K mg base 4 "is_decree" ["thing", "sluices", "fields"] (aJB K) := by
 have G_p_is_tuple_of : Fc P w K mg base 1 "is_tuple_of" ["thing", "length"] oZ := fS T
 have G_p_is_one_of : Fc P w K mg base 1 "is_one_of" ["thing", "names"] (sD K) := mK T
 have G_p_is_list_of : Fc P w K mg base 1 "is_list_of" ["thing", "most"] pA := jB T
 have G_p_is_condition : Fc P w K mg base 3 "is_condition" ["thing", "fields"] (aFA K) := pN T
 obtain ⟨a_DEEDS, m_DEEDS, s_DEEDS⟩ := T.g_DEEDS
 refine T.d_p_is_decree.fc sK yS (fun f cdv A outer s H vs Q E hr h => ?_)
 obtain ⟨x, y, u, rfl, d, p1, p2, gs, zs, hd, sd, rfl, hp1, rfl, hp2, q⟩ := h
 have big := bT
 refine ⟨_, (aG (@cE _ _ _ _ _ _ _ _ (@PW.pt _ _ _ (@kJ _ _ _ _ _ _ _ (@dP _ _ _ _ (@cN _ _ _ (@bO _ _ _ _ _ _ _ _ _ _ G_p_is_tuple_of (hr.mono (by decide)) (aA (pv 0) (aA aE aD)) (by rfl) (by decide) (by rfl) (by rfl)) (by intro _; rfl))) (@kJ _ _ _ _ _ _ _ (@dP _ _ _ _ (@cN _ _ _ (@bO _ _ _ _ _ _ _ _ _ _ G_p_is_one_of (hr.mono (by decide)) (aA (@aY _ _ _ _ _ _ _ (@aQ _ (K) rfl) (pv 0) aE (fun _ _ => rfl)) (aA (@rT _ _ (.ref a_DEEDS) _ _ rfl m_DEEDS rfl (by decide)) aD)) (by rfl) (by decide) (by rfl) (by rfl)) (by intro _; rfl))) (@kS _ _ _ _ (@dP _ _ _ _ (@cN _ _ _ (@bO _ _ _ _ _ _ _ _ _ _ G_p_is_one_of (hr.mono (by decide)) (aA (@aY _ _ _ _ _ _ _ (@aQ _ (K) rfl) (pv 0) aE (fun _ _ => rfl)) (aA (pv 1) aD)) (by rfl) (by decide) (by rfl) (by rfl)) (by intro _; rfl))))))) (aH (@aR _ _ _ _ mZ)) bE) (aH (@aR _ _ _ _ (@cK _ _ _ _ _ _ _ (@bO _ _ _ _ _ _ _ _ _ _ G_p_is_list_of (hr.mono (by decide)) (aA (@aY _ _ _ _ _ _ _ (@aQ _ (K) rfl) (pv 0) aE (fun _ _ => rfl)) (aA (@nY _ _ _ _ T.g_MOST_CONDITIONS (by rfl) (by decide)) aD)) (by rfl) (by decide) (by rfl) (by rfl)) (@dJ _ _ _ _ _ (@aV _ _ _ _ _ _ _ _ _ (@kH _ rfl) rfl T.n_all iK (aA (@cA _ _ _ _ _ _ _ _ _ _ _ ["part", "fields"] 1 [2] rfl (@bM _ _ _ _ (@aY _ _ _ _ _ _ _ (@aQ _ (K) rfl) (pv 0) aE (fun _ _ => rfl))) (fun R => @aO _ _ (0) _ (show List.Nodup (["part", "fields"] : List Str) by decide +kernel) rfl (Or.inl rfl) (by trivial)) (@aZ _ _ (by decide)) (fun R => cI) (fun R => (@bO _ _ _ _ _ _ _ _ _ _ G_p_is_condition (hr.mono (by decide)) (aA (pv 0) (aA (pv 1) aD)) (by rfl) (by decide) (by rfl) (by rfl))) (by rfl) (by rfl) (by rfl) (by rfl) (by rfl) (by rfl) (by rfl) (by intro _; rfl)) aD) (by decide) (by decide) (by rfl) (by rfl))))))), ?_⟩
 refine ⟨_, rfl, _, _, rfl, d, 3, hd, rfl, _, rfl, ?_⟩
 by_cases h3 : ∃ a b c, d = .tup [a, b, c]
 ·obtain ⟨a, b, c, rfl⟩ := h3
  obtain ⟨t, us, rfl, o, va, r1, rfl, ha, vb, r2, rfl, hb, vc, r3, rfl, hc, h0⟩ := hd
  cases (show r3 = [] from h0)
  have sc : dR c = true := gR (pU sd) (List.mem_cons_of_mem _ (List.mem_cons_of_mem _ List.mem_cons_self))
  have q : ∀ H', aI H H' → Q (.bl ((bZ ["open", "shut"] a && bZ gs b) && uL zs c)) H' := q
  refine bF ⟨_, rfl, t, _, 0, va, rfl, rfl, SqT.of o, aJ (j := 0) rfl, _, _, rfl, a, a_DEEDS, ["open", "shut"], ha, rfl, .inr (s_DEEDS H), _, rfl, ?_⟩
  cases ea : bZ ["open", "shut"] a with
  | false =>
   simp only [ea] at q
   exact bU (q _ (aI.refl _))
  | true =>
   simp only [ea] at q
   refine bF ⟨_, rfl, t, _, 1, vb, rfl, rfl, SqT.of o, aJ (j := 1) rfl, _, rfl, _, _, rfl, b, p1, gs, hb, rfl, .inl hp1, _, rfl, ?_⟩
   cases eb : bZ gs b with
   | false =>
    simp only [eb] at q
    exact bU (q _ (aI.refl _))
   | true =>
    simp only [eb] at q
    have q : ∀ H', aI H H' → Q (.bl (uL zs c)) H' := q
    refine bF ⟨_, rfl, t, _, 2, vc, rfl, rfl, SqT.of o, aJ (j := 2) rfl, _, _, rfl, c, 6, hc, rfl, _, rfl, ?_⟩
    cases c with
    | lst cs =>
     obtain ⟨l, vs, rfl, ol, hi⟩ := hc
     have lv := hi.length
     have l2 : cs.length ≤ 1000 := of_decide_eq_true (Bool.and_eq_true_iff.mp (show (decide (cs.length ≤ 1000) && fV cs) = true from sc)).1
     have q : ∀ H', aI H H' → Q (.bl ((decide (1 ≤ cs.length) && decide ((cs.length : Int) ≤ 6)) && cs.all (iH zs))) H' := q
     show if (decide (1 ≤ cs.length) && decide ((cs.length : Int) ≤ 6)) = true then _ else _
     cases el : (decide (1 ≤ cs.length) && decide ((cs.length : Int) ≤ 6)) with
     | false =>
      simp only [el] at q
      exact bF (q _ (aI.refl _))
     | true =>
      simp only [el, Bool.true_and] at q
      refine bU ⟨_, rfl, t, _, 2, .ref l, rfl, rfl, SqT.of o, aJ (j := 2) rfl, l, rfl, ⟨_, SqL.of ol⟩, ?_⟩
      refine bP (F := K) (xs := vs) (by omega) (fun i ys H' => aI H H' ∧ ys = (cs.take i).map fun d => V.bl (iH zs d)) ⟨aI.refl _, rfl⟩ ?_ ?_ ?_
      ·rintro i ys H' hi' ⟨S, rfl⟩
       exact ⟨SqL.of (S _ _ ol), by rw [List.length_map, List.length_take]; omega⟩
      ·rintro i xv ys H' K1 K2 hx ⟨S, rfl⟩ k1 k2
       have hil : i < vs.length := (List.getElem?_eq_some_iff.mp hx).1
       obtain ⟨d, ed⟩ : ∃ d, cs[i]? = some d := ⟨_, List.getElem?_eq_getElem (by omega)⟩
       obtain ⟨v, ev, iv⟩ := hi.get ed
       rw [hx] at ev
       cases ev
       refine ⟨_, rfl, _, rfl, _, _, rfl, d, p2, zs, Is.same S _ _ iv, rfl, S.seq hp2, fun H5 S5 => k1 _ _ ⟨S.trans S5, ?_⟩⟩
       rw [List.take_add_one, ed]
       simp
      ·rintro ys H' ⟨S, rfl⟩
       intro p4 hp4
       have q := q _ (S.trans (aI.upd (o := .lst ((cs.take vs.length).map fun d => V.bl (iH zs d))) hp4))
       refine ⟨p4, cs.map (iH zs), rfl, SqL.of ?_, ?_⟩
       ·rw [aB, List.take_of_length_le (by omega), List.map_map]
        rfl
       ·rw [List.all_map]
        exact q
    | _ => exact bF (q _ (aI.refl _))
 ·have e1 : oB gs zs d = false := by
   unfold oB
   split
   ·exact absurd ⟨_, _, _, rfl⟩ h3
   ·rfl
  have e2 : rY 3 d = false := by
   cases d with
   | tup ds =>
    refine decide_eq_false (fun e => ?_)
    have e' : ds.length = 3 := by omega
    match ds, e', h3 with
    | [a, b, c], _, h3 => exact h3 ⟨a, b, c, rfl⟩
   | _ => rfl
  rw [e2]
  have q := q H (aI.refl _)
  rw [e1] at q
  exact bU q
def aEZ (C : Addr) : Sp := sp2 fun x y H Q => ∃ (p : Addr) (fs ds : List Dv) (d : Dv), x = .ref p ∧ LandAt C H p fs ds ∧ Is H d y ∧ dR d = true ∧ ∀ H', aI H H' → Q (.bl (nX ((ds.filter bC).map aK) (fs.map aK) d)) H'
theorem pY (T : Txt K mg C) : Fc P w K mg base 5 "are_decrees" ["land", "thing"] (aEZ C) := by
 have G_land_p_sluices : Mc P w K mg base 2 C "sluices" ["self"] (kR C fun _ ds => (ds.filter bC).map aK) := hZ T
 have G_land_p_field_names : Mc P w K mg base 1 C "field_names" ["self"] (kR C fun fs _ => fs.map aK) := dN T
 have G_p_is_decree : Fc P w K mg base 4 "is_decree" ["thing", "sluices", "fields"] (aJB K) := tE T
 refine T.d_p_are_decrees.fc iD jH (fun f cdv A outer s H vs Q E hr h => ?_)
 obtain ⟨x, y, rfl, p, fs, ds, d, rfl, L, hd, sd, q⟩ := h
 have big := bT
 obtain ⟨t, ty, e1, e2, e3, e4, _⟩ := oW K hd
 refine ⟨_, (aG (@cE _ _ _ _ _ _ _ _ (@PW.pt _ _ _ (@kJ _ _ _ _ _ _ _ (@dP _ _ _ _ (@cN _ _ _ (@aV _ _ _ _ _ _ _ _ _ (@dD _ (K) rfl) rfl T.n_isinstance cF (aA (pv 1) (aA (@pJ _ _ _ _ T.n_list eC (by rfl) (by decide) (by decide)) aD)) (by decide) (by decide) (by rfl) (by rfl)) (by intro _; rfl))) (@kS _ _ _ _ (@bD _ _ _ _ _ _ _ _ aBY (@aV _ _ _ _ _ _ _ _ _ (@bW _ (K) rfl) rfl T.n_len cM (aA (pv 1) aD) (by decide) (by decide) (by rfl) (by rfl)) (@nY _ _ _ _ T.g_MOST_DECREES (by rfl) (by decide)) (@bB _ _ (by decide) (by decide)))))) (aH (@aR _ _ _ _ mZ)) bE) (aG (@aS _ _ (2) _ _ _ _ iD.nd rfl (Or.inr rfl) (@jD _ _ _ _ _ _ _ _ _ _ _ T.cl_Land G_land_p_sluices (hr.mono (by decide)) (pv 0) (by rfl)) (by rfl) (by trivial)) (aG (@aS _ _ (3) _ _ _ _ iD.nd rfl (Or.inr rfl) (@jD _ _ _ _ _ _ _ _ _ _ _ T.cl_Land G_land_p_field_names (hr.mono (by decide)) (pv 0) (by rfl)) (by rfl) (by trivial)) (aH (@aR _ _ _ _ (@aV _ _ _ _ _ _ _ _ _ (@kH _ rfl) rfl T.n_all iK (aA (@cA _ _ _ _ _ _ _ _ _ _ _ ["row", "sluices", "fields"] 1 [2, 3] rfl (@bM _ _ _ _ (pv 1)) (fun R => @aO _ _ (0) _ (show List.Nodup (["row", "sluices", "fields"] : List Str) by decide +kernel) rfl (Or.inl rfl) (by trivial)) (@aZ _ _ (by decide)) (fun R => cI) (fun R => (@bO _ _ _ _ _ _ _ _ _ _ G_p_is_decree (hr.mono (by decide)) (aA (pv 0) (aA (pv 1) (aA (pv 2) aD))) (by rfl) (by decide) (by rfl) (by rfl))) (by rfl) (by rfl) (by rfl) (by rfl) (by rfl) (by rfl) (by rfl) (by intro _; rfl)) aD) (by decide) (by decide) (by rfl) (by rfl))))))), ?_⟩
 refine ⟨_, rfl, _, _, _, t, _, rfl, rfl, ty, e4, _, rfl, ?_⟩
 cases d with
 | lst cs =>
  obtain ⟨l, us, rfl, o, hi⟩ := hd
  have l1 := hi.length
  have hs' := Bool.and_eq_true_iff.mp (show (decide (cs.length ≤ 1000) && fV cs) = true from sd)
  have l2 : cs.length ≤ 1000 := of_decide_eq_true hs'.1
  refine bF ⟨_, rfl, l, us, rfl, .inl (SqL.of o), _, _, rfl, rfl, _, rfl, ?_⟩
  rw [l1]
  refine kD (fun h1 => ?_) (fun h1 => ?_)
  ·have e : nX ((ds.filter bC).map aK) (fs.map aK) (.lst cs) = false := by
    have h1' : ¬ cs.length ≤ 60 := by
     have := of_decide_eq_true h1
     omega
    show (decide (cs.length ≤ 60) && _) = false
    rw [decide_eq_false h1']
    rfl
   have q := q H (aI.refl _)
   rw [e] at q
   exact q
  ·have h1' : cs.length ≤ 60 := by
    apply Classical.byContradiction
    intro c
    exact h1 (decide_eq_true (by omega))
   obtain ⟨dx, d1, d2, hx, _⟩ := L.ex
   refine ⟨_, rfl, p, dx, _, rfl, hx, dL _ _ (by decide +kernel) (by decide +kernel), _, rfl, p, fs, ds, rfl, L, fun ls H1 S1 fls hls => ?_⟩
   refine ⟨_, rfl, p, dx, _, rfl, S1 _ _ hx, dL _ _ (by decide +kernel) (by decide +kernel), _, rfl, p, fs, ds, rfl, L.same S1, fun lf H2 S2 flf hlf => ?_⟩
   have S := S1.trans S2
   have hi2 := IsL.same S _ _ hi
   refine ⟨_, rfl, l, rfl, ⟨_, SqL.of (S _ _ o)⟩, ?_⟩
   refine bP (F := K) (xs := us) (by omega) (fun i ys H' => aI H2 H' ∧ ys = (cs.take i).map fun d => V.bl (oB ((ds.filter bC).map aK) (fs.map aK) d)) ⟨aI.refl _, rfl⟩ ?_ ?_ ?_
   ·rintro i ys H' hi' ⟨S3, rfl⟩
    exact ⟨SqL.of (S3 _ _ (S _ _ o)), by rw [List.length_map, List.length_take]; omega⟩
   ·rintro i xv ys H' K1 K2 hxi ⟨S3, rfl⟩ k1 k2
    have hil : i < us.length := (List.getElem?_eq_some_iff.mp hxi).1
    obtain ⟨d, ed⟩ : ∃ d, cs[i]? = some d := ⟨_, List.getElem?_eq_getElem (by omega)⟩
    obtain ⟨v, ev, iv⟩ := hi2.get ed
    rw [hxi] at ev
    cases ev
    refine ⟨_, rfl, _, rfl, _, rfl, _, _, _, rfl, d, ls, lf, _, _, Is.same S3 _ _ iv, gR hs'.2 (List.mem_of_getElem? ed), rfl, SqL.of (S3 _ _ (S2 _ _ hls)), rfl, SqL.of (S3 _ _ hlf), fun H5 S5 => k1 _ _ ⟨S3.trans S5, ?_⟩⟩
    rw [List.take_add_one, ed]
    simp
   ·rintro ys H' ⟨S3, rfl⟩
    intro p4 hp4
    have q := q _ (S.trans (S3.trans (aI.upd (o := .lst ((cs.take us.length).map fun d => V.bl (oB ((ds.filter bC).map aK) (fs.map aK) d))) hp4)))
    refine ⟨p4, cs.map (oB ((ds.filter bC).map aK) (fs.map aK)), rfl, SqL.of ?_, ?_⟩
    ·rw [aB, List.take_of_length_le (by omega), List.map_map]
     rfl
    ·have e : nX ((ds.filter bC).map aK) (fs.map aK) (.lst cs) = (cs.map (oB ((ds.filter bC).map aK) (fs.map aK))).all id := by
      show (decide (cs.length ≤ 60) && cs.all _) = _
      rw [decide_eq_true h1', Bool.true_and, List.all_map]
      rfl
     rw [e] at q
     exact q
 | _ => exact bU (q H (aI.refl _))
open Mt22 MtF
def sE (C : Addr) : Sp := sp2 fun x y H Q => ∃ (p l : Addr) (fs ds : List Dv) (op : List Str), x = .ref p ∧ LandAt C H p fs ds ∧ y = .ref l ∧ H l = some (.lst (op.map V.str)) ∧ op.length ≤ 1000 ∧ (∀ z ∈ op, z ∈ (ds.filter bC).map aK) ∧ ∀ H', aI H H' → Q .non H'
theorem kB (T : Txt K mg C) : Fc P w K mg base 3 "check_sluices" ["land", "thing"] (sE C) := by
 have G_land_p_sluices : Mc P w K mg base 2 C "sluices" ["self"] (kR C fun _ ds => (ds.filter bC).map aK) := hZ T
 have G_p_is_one_of : Fc P w K mg base 1 "is_one_of" ["thing", "names"] (wJ K) := nA T
 refine T.d_p_check_sluices.fc jS jH (fun f cdv A outer s H vs Q E hr h => ?_)
 obtain ⟨x, y, rfl, p, l, fs, ds, op, rfl, L, rfl, hl, lo, sub, q⟩ := h
 have big := bT
 obtain ⟨dx, d1, d2, hx, _⟩ := L.ex
 refine ⟨_, (aG (@aS _ _ (2) _ _ _ _ jS.nd rfl (Or.inr rfl) (@jD _ _ _ _ _ _ _ _ _ _ _ T.cl_Land G_land_p_sluices (hr.mono (by decide)) (pv 0) (by rfl)) (by rfl) (by trivial)) (aH (@cE _ _ _ _ _ _ _ _ (@PW.pt _ _ _ (@kJ _ _ _ _ _ _ _ (@dP _ _ _ _ (@cN _ _ _ (@aV _ _ _ _ _ _ _ _ _ (@dD _ (K) rfl) rfl T.n_isinstance cF (aA (pv 1) (aA (@pJ _ _ _ _ T.n_list eC (by rfl) (by decide) (by decide)) aD)) (by decide) (by decide) (by rfl) (by rfl)) (by intro _; rfl))) (@kS _ _ _ _ (@dP _ _ _ _ (@cN _ _ _ (@aV _ _ _ _ _ _ _ _ _ (@kH _ rfl) rfl T.n_all iK (aA (@cA _ _ _ _ _ _ _ _ _ _ _ ["name", "sluices"] 1 [2] rfl (@bM _ _ _ _ (pv 1)) (fun R => @aO _ _ (0) _ (show List.Nodup (["name", "sluices"] : List Str) by decide +kernel) rfl (Or.inl rfl) (by trivial)) (@aZ _ _ (by decide)) (fun R => cI) (fun R => (@bO _ _ _ _ _ _ _ _ _ _ G_p_is_one_of (hr.mono (by decide)) (aA (pv 0) (aA (pv 1) aD)) (by rfl) (by decide) (by rfl) (by rfl))) (by rfl) (by rfl) (by rfl) (by rfl) (by rfl) (by rfl) (by rfl) (by intro _; rfl)) aD) (by decide) (by decide) (by rfl) (by rfl)) (by intro _; rfl)))))) (aH mV) bE))), ?_⟩
 refine ⟨_, rfl, p, dx, _, rfl, hx, dL _ _ (by decide +kernel) (by decide +kernel), _, rfl, p, fs, ds, rfl, L, fun ls H1 S1 fls hls => ?_⟩
 refine ⟨_, rfl, _, _, _, _, _, rfl, rfl, .lst (S1 _ _ hl), lH _ _, _, rfl, bF ?_⟩
 refine ⟨_, rfl, l, rfl, ⟨_, SqL.of (S1 _ _ hl)⟩, ?_⟩
 refine bP (F := K) (xs := op.map V.str) (by rw [List.length_map]; omega) (fun i ys H' => H1 = H' ∧ ys = (op.take i).map fun z => V.bl true) ⟨rfl, rfl⟩ ?_ ?_ ?_
 ·rintro i ys H' hi' ⟨rfl, rfl⟩
  exact ⟨SqL.of (S1 _ _ hl), by rw [List.length_map, List.length_take]; omega⟩
 ·rintro i xv ys H' K1 K2 hx ⟨rfl, rfl⟩ k1 k2
  obtain ⟨z, ez⟩ : ∃ z, op[i]? = some z := by
   have := (List.getElem?_eq_some_iff.mp hx).1
   rw [List.length_map] at this
   exact ⟨_, List.getElem?_eq_getElem this⟩
  rw [List.getElem?_map, ez] at hx
  cases hx
  refine ⟨_, rfl, _, rfl, _, _, rfl, .str z, ls, _, rfl, rfl, SqL.of hls, ?_⟩
  rw [show bZ ((ds.filter bC).map aK) (.str z) = true from decide_eq_true (sub z (List.mem_of_getElem? ez))]
  refine k1 _ _ ⟨rfl, ?_⟩
  rw [List.take_add_one, ez, List.map_append]
  rfl
 ·rintro ys H' ⟨rfl, rfl⟩
  rw [List.length_map, List.take_of_length_le (Nat.le_refl _)]
  intro p4 hp4
  refine ⟨p4, op.map fun _ => true, rfl, SqL.of ?_, _, rfl, ?_⟩
  ·rw [aB, List.map_map]
   rfl
  ·rw [show (op.map fun _ => true).all id = true from List.all_eq_true.mpr fun b m => by obtain ⟨z, _, rfl⟩ := List.mem_map.mp m; rfl]
   exact bF (q _ (S1.trans (aI.upd hp4)))
def iA (op : List Str) (ds : List Dv) : List (Key × V) := ds.map fun d => (Sum.inr (aK d), V.int (cB op d))
theorem vC (op : List Str) (ds : List Dv) : (iA op ds).map (·.1) = ds.map lK := by
 unfold iA
 rw [List.map_map]
 rfl
theorem gQ {f : Dv → V} : ∀ {ds : List Dv} {d : Dv}, (ds.map aK).Nodup → d ∈ ds → dG (ds.map fun d => ((Sum.inr (aK d) : Key), f d)) (Sum.inr (aK d)) = some (f d)
 | e :: ds, d, nd, m => by
  rw [List.map_cons] at nd ⊢
  rw [List.nodup_cons] at nd
  rcases List.mem_cons.mp m with rfl | m
  ·exact dE rfl
  ·rw [dF (fun c => nd.1 (by rw [Sum.inr.inj c]; exact List.mem_map.mpr ⟨d, m, rfl⟩))]
   exact gQ nd.2 m
def sC (C : Addr) : Sp := sp2 fun x y H Q => ∃ (p l : Addr) (fs ds : List Dv) (op : List Str), x = .ref p ∧ LandAt C H p fs ds ∧ y = .ref l ∧ H l = some (.lst (op.map V.str)) ∧ op.length ≤ 1000 ∧ (∀ z ∈ op, z ∈ (ds.filter bC).map aK) ∧
 ∀ (d : Addr) (H' : Hp), aI H H' → H d = none → H' d = some (.dK (iA op ds)) → Q (.ref d) H'
theorem xW {zs : List Str} {ds : List Dv} (gd : GoodD zs ds) {op : List Str} (sub : ∀ z ∈ op, z ∈ (ds.filter bC).map aK) {d : Dv} (m : d ∈ ds) (h : aK d ∈ op) : ∃ i, aFC d = .int i := by
 obtain ⟨e, me, en⟩ := List.mem_map.mp (sub _ h)
 rw [List.mem_filter] at me
 have : e = d := by
  have h1 := nU gd.nd me.1
  have h2 := nU gd.nd m
  rw [en, h2] at h1
  exact (Option.some.inj h1).symm
 subst this
 obtain ⟨n, a, b, c, r, s, rfl, _, _, _, _, _, _, hs⟩ := bR (gd.all e m)
 have h2 : (!tS s) = true := me.2
 cases s with
 | int i => exact ⟨i, rfl⟩
 | non => cases h2
 | _ => cases hs
theorem qP (T : Txt K mg C) : Fc P w K mg base 4 "stands" ["land", "opened"] (sC C) := by
 have G_p_check_sluices : Fc P w K mg base 3 "check_sluices" ["land", "thing"] (sE C) := kB T
 have G_land_p_dykes : Mc P w K mg base 1 C "dykes" ["self"] (oH C fun _ ds => ds) := eW T
 refine T.d_p_stands.fc xY jH (fun f cdv A outer s H vs Q E hr h => ?_)
 obtain ⟨x, y, rfl, p, l, fs, ds, op, rfl, L, rfl, hl, lo, sub, q⟩ := h
 have big := bT
 have gd := (bY L).2
 have d2 := gd.l2
 refine ⟨_, (aG (@fR _ _ _ _ (@bO _ _ _ _ _ _ _ _ _ _ G_p_check_sluices (hr.mono (by decide)) (aA (pv 0) (aA (pv 1) aD)) (by rfl) (by decide) (by rfl) (by rfl)) (by rfl)) (aH (@aR _ _ _ _ (@cL _ _ _ _ _ _ _ _ _ (@cZ _ rfl) rfl T.n_dict gW (aA (@cA _ _ _ _ _ _ _ _ _ _ _ ["dyke", "opened"] 1 [1] rfl (@bM _ _ _ _ (@jD _ _ _ _ _ _ _ _ _ _ _ T.cl_Land G_land_p_dykes (hr.mono (by decide)) (pv 0) (by rfl))) (fun R => @aO _ _ (0) _ (show List.Nodup (["dyke", "opened"] : List Str) by decide +kernel) rfl (Or.inl rfl) (by trivial)) (@aZ _ _ (by decide)) (fun R => cI) (fun R => (@cO _ _ _ _ _ (aA (@aY _ _ _ _ _ _ _ (@aQ _ (K) rfl) (pv 0) aE (fun _ _ => rfl)) (aA (@aFQ _ _ _ _ _ _ _ _ (@bD _ _ _ _ _ _ _ _ (@eB _ (K) rfl) (@aY _ _ _ _ _ _ _ (@aQ _ (K) rfl) (pv 0) aE (fun _ _ => rfl)) (pv 1) (by with_unfolding_all rfl)) (@aY _ _ _ _ _ _ _ (@aQ _ (K) rfl) (pv 0) aE (fun _ _ => rfl)) (@aY _ _ _ _ _ _ _ (@aQ _ (K) rfl) (pv 0) aE (fun _ _ => rfl))) aD)))) (by rfl) (by rfl) (by rfl) (by rfl) (by rfl) (by rfl) (by rfl) (by intro _; rfl)) aD) (by decide) (by decide) (by rfl) (by rfl))))), ?_⟩
 refine ⟨_, rfl, _, rfl, _, _, rfl, p, l, fs, ds, op, rfl, L, rfl, hl, lo, sub, fun H1 S1 => ?_⟩
 have L1 := L.same S1
 obtain ⟨dx, d1, d2', hx, _⟩ := L1.ex
 refine ⟨_, rfl, p, dx, _, rfl, hx, dL _ _ (by decide +kernel) (by decide +kernel), _, rfl, p, fs, ds, rfl, L1, fun lb vb H2 S2 flb hlb hib => ?_⟩
 have lvb : vb.length = ds.length := hib.length
 have T2 := S1.trans S2
 have hl2 := T2 _ _ hl
 refine ⟨lb, rfl, ⟨_, SqL.of hlb⟩, ?_⟩
 refine bP (F := K) (xs := vb) (by omega) (fun i ys H' => aI H2 H' ∧ bV H' ys (iA op (ds.take i))) ⟨aI.refl _, bV.nil _⟩ ?_ ?_ ?_
 ·rintro i ys H' hi' ⟨S', pa⟩
  have := pa.len
  unfold iA at this
  rw [List.length_map, List.length_take] at this
  exact ⟨SqL.of (S' _ _ hlb), by omega⟩
 ·rintro i xv ys H' K1 K2 hx' ⟨S', pa⟩ k1 k2
  have hil : i < vb.length := (List.getElem?_eq_some_iff.mp hx').1
  obtain ⟨d, ed⟩ : ∃ d, ds[i]? = some d := ⟨_, List.getElem?_eq_getElem (by omega)⟩
  obtain ⟨v, ev, iv⟩ := hib.get ed
  rw [hx'] at ev
  cases ev
  have md := List.mem_of_getElem? ed
  have si := fun h => xW gd sub md h
  obtain ⟨n, a', b', c, r, sl, rfl, _⟩ := bR (gd.all d md)
  obtain ⟨t, sv, rfl, o, isv⟩ := iW iv
  have ot := S' _ _ o
  have ek : iA op (ds.take (i + 1)) = iA op (ds.take i) ++ [(Sum.inr n, V.int (cB op (.tup [.str n, .str a', .str b', .int c, .int r, sl])))] := by
   unfold iA
   rw [List.take_add_one, ed, List.map_append]
   rfl
  have fin : ∀ v, v = V.int (cB op (.tup [.str n, .str a', .str b', .int c, .int r, sl])) → ∀ p3, H' p3 = none → K1 (.ref p3) (upd H' p3 (.tup [.str n, v])) := fun v e p3 hp3 => by
   subst e
   refine k1 _ _ ⟨S'.trans (aI.upd hp3), ?_⟩
   rw [ek]
   exact bV.snoc (k := Sum.inr n) pa hp3
  refine ⟨_, rfl, t, _, 0, .str n, rfl, rfl, SqT.of ot, aJ (j := 0) rfl, _, rfl, t, _, 0, .str n, rfl, rfl, SqT.of ot, aJ (j := 0) rfl, _, rfl, l, _, rfl, .inl (SqL.of (S' _ _ hl2)), rfl, cQ op, _, rfl, ?_⟩
  rw [if_neg Bool.false_ne_true, eS]
  refine kD (fun h1 => ?_) (fun h1 => ?_)
  ·have mo : n ∈ op := of_decide_eq_true h1
   obtain ⟨i2, e2⟩ := si mo
   have e2' : sl = .int i2 := e2
   subst e2'
   cases (show sv = .int i2 from isv)
   refine ⟨_, rfl, t, _, 5, .int i2, rfl, rfl, SqT.of ot, aJ (j := 5) rfl, aN rfl, fun p3 hp3 => fin _ ?_ p3 hp3⟩
   show V.int i2 = V.int (if n ∈ op then i2 else c)
   rw [if_pos mo]
  ·have mo : ¬ n ∈ op := fun c => h1 (decide_eq_true c)
   refine ⟨_, rfl, t, _, 3, .int c, rfl, rfl, SqT.of ot, aJ (j := 3) rfl, aN rfl, fun p3 hp3 => fin _ ?_ p3 hp3⟩
   show V.int c = V.int (if n ∈ op then yV sl else c)
   rw [if_neg mo]
 rintro ys H3 ⟨S3, pa⟩
 rw [List.take_of_length_le (by omega)] at pa
 intro p4 hp4
 have S4 := aI.upd (o := .lst ys) hp4
 refine ⟨p4, ys, iA op ds, rfl, SqL.of aB, pa.same S4, by unfold iA; rw [List.length_map]; omega, by rw [vC]; exact nQ gd.nd, fun cd hcd => ?_⟩
 have T4 := T2.trans (S3.trans S4)
 exact q cd _ (T4.trans (aI.upd hcd)) (T4.free hcd) aB
open Mt22 MtF
theorem aIL (a b : Str) : (!decide (V.str a = V.str b)) = !decide (a = b) := by
 by_cases h : a = b
 ·subst h; simp
 ·rw [decide_eq_false h, decide_eq_false (fun c => h (by cases c; rfl))]
theorem vQ {fs : List Dv} (gf : GoodF fs) {z : Str} (m : z ∈ fs.map aK) : ∃ g e, Dv.tup [.str z, .int g, .int e] ∈ fs ∧ bA fs z = g ∧ hgt g = true := by
 obtain ⟨d, md, rfl⟩ := List.mem_map.mp m
 obtain ⟨z, g, e, rfl, _, hg, _⟩ := bJ (gf.all d md)
 exact ⟨g, e, md, jN gf.nd md, hg⟩
theorem aAM {zs : List Str} {d : Dv} (h : cY zs d = true) : pP d = true := by
 obtain ⟨n, a, b, c, r, s, rfl, _, _, _, _, _, _, hs⟩ := bR h
 cases s with
 | non => rfl
 | int i => rfl
 | _ => cases hs
theorem pS (s : Mt22.St) : pP (dB s) = true := rfl
def sB (C : Addr) : Sp := sp2 fun x y H Q => ∃ (p sd : Addr) (fs ds : List Dv) (op : List Str), x = .ref p ∧ LandAt C H p fs ds ∧ y = .ref sd ∧ H sd = some (.dK (iA op ds)) ∧
 ∀ (l : Addr) (us : List V) (H' : Hp), aI H H' → H l = none → H' l = some (.lst us) → IsL H' ((bH fs ds op).map dB) us → Q (.ref l) H'
theorem kL (T : Txt K mg C) : Fc P w K mg base 2 "steps_inland" ["land", "stand_of"] (sB C) := by
 have G_land_p_dykes : Mc P w K mg base 1 C "dykes" ["self"] (oH C fun _ ds => ds) := eW T
 have G_land_p_ground : Mc P w K mg base 1 C "ground" ["self", "field"] (kZ C) := eL T
 refine T.d_p_steps_inland.fc dS jH (fun f cdv A outer s H vs Q E hr h => ?_)
 obtain ⟨x, y, rfl, p, sd, fs, ds, op, rfl, L, rfl, hsd, q⟩ := h
 have big := bT
 have hu := kF hr
 have gf := (bY L).1
 have gd := (bY L).2
 have d2 := gd.l2
 refine ⟨_, (aG (@aS _ _ (2) _ _ _ _ dS.nd rfl (Or.inl rfl) (@cG _ _ _ _ aD) (by rfl) (by trivial)) (aG (@eY _ _ _ _ _ _ _ _ PassesOwn.never rfl (@bM _ _ _ _ (@jD _ _ _ _ _ _ _ _ _ _ _ T.cl_Land G_land_p_dykes (hr.mono (by decide)) (pv 0) (by rfl))) (@aO _ _ (3) _ dS.nd rfl (Or.inl rfl) (by trivial)) (aH (@eY _ _ _ _ _ _ _ _ PassesOwn.never rfl (@bM _ _ _ _ (@cG _ _ _ _ (aA (@cO _ _ _ _ _ (aA (@aY _ _ _ _ _ _ _ (@aQ _ (K) rfl) (pv 3) aE (fun _ _ => rfl)) (aA (@aY _ _ _ _ _ _ _ (@aQ _ (K) rfl) (pv 3) aE (fun _ _ => rfl)) aD))) (aA (@cO _ _ _ _ _ (aA (@aY _ _ _ _ _ _ _ (@aQ _ (K) rfl) (pv 3) aE (fun _ _ => rfl)) (aA (@aY _ _ _ _ _ _ _ (@aQ _ (K) rfl) (pv 3) aE (fun _ _ => rfl)) aD))) aD)))) (@lX _ _ _ _ _ _ rfl (@bN _ _ _ _ _ (@aO _ _ (4) _ dS.nd rfl (Or.inl rfl) (by trivial)) (@bN _ _ _ _ _ (@aO _ _ (5) _ dS.nd rfl (Or.inl rfl) (by trivial)) jG (by rfl)) (by rfl)) (by rfl) (by rfl)) (aH (@cE _ _ _ _ _ _ _ _ (@bD _ _ _ _ _ _ _ _ pL (pv 5) (@nY _ _ _ _ T.g_SEA (by rfl) (by decide)) (@bB _ _ (by decide) (by decide))) (aH (@fR _ _ _ _ (@mY _ _ _ _ _ _ _ _ _ _ _ _ PySem.F.plainAttrs_list PySem.F.slot_list_append PySem.F.type_list_append fT (pv 2) (aA (@cO _ _ _ _ _ (aA (@aY _ _ _ _ _ _ _ (@aQ _ (K) rfl) (pv 3) aE (fun _ _ => rfl)) (aA (pv 4) (aA (pv 5) (aA (@aV _ _ _ _ _ _ _ _ _ (@jP _ rfl) rfl T.n_max iJ (aA (@eQ _ _ _ _ _ _ hu (pv 1) (@aY _ _ _ _ _ _ _ (@aQ _ (K) rfl) (pv 3) aE (fun _ _ => rfl)) (fun _ _ => rfl)) (aA (@uS _ _ _ _ _ _ _ _ _ _ _ _ _ _ T.cl_Land G_land_p_ground (hr.mono (by decide)) (pv 0) (aA (pv 5) aD) (by rfl) (by rfl) (by rfl)) aD)) (by decide) (by decide) (by rfl) (by rfl)) aD))))) aD) (by rfl) (by rfl) (by rfl) (by rfl) (by rfl)) (by rfl))) bE)) (by intro _; rfl))) (by intro _; rfl)) (aH (@aR _ _ _ _ (pv 2))))), ?_⟩
 refine ⟨aN rfl, fun l hl => ?_⟩
 have S1 := aI.upd (o := .lst []) hl
 have L1 := L.same S1
 obtain ⟨dx, d1, d2', hx, _⟩ := L1.ex
 have hl1 : upd H l (.lst []) l = some (.lst []) := aB
 generalize upd H l (.lst []) = H1 at S1 L1 hx hl1
 refine ⟨_, rfl, p, dx, _, rfl, hx, dL _ _ (by decide +kernel) (by decide +kernel), _, rfl, p, fs, ds, rfl, L1, fun lb vb H2 S2 flb hlb hib => ?_⟩
 have lvb : vb.length = ds.length := hib.length
 have T2 := S1.trans S2
 have nlb : l ≠ lb := bG hl1 flb
 have hds : qT ds = true := gL fun d m => aAM (gd.all d m)
 refine ⟨lb, rfl, ⟨_, SqL.of hlb⟩, fO (K := K) (a := lb) (xs := vb)
  (fun i σ H' => ∃ (v3 v4 v5 : Option V) (us : List V), σ = [some (.ref p), some (.ref sd), some (.ref l), v3, v4, v5] ∧ aI H H' ∧ H' lb = some (.lst vb) ∧ IsL H' ds vb ∧ H' l = some (.lst us) ∧ IsL H' ((bH fs (ds.take i) op).map dB) us)
  ⟨_, _, _, [], rfl, T2, hlb, hib, S2 _ _ hl1, rfl⟩ (fun i σ H' _ ⟨_, _, _, _, _, _, e, _⟩ => SqL.of e) ?_ ?_⟩
 ·rintro i xv σ H3 hi ⟨v3, v4, v5, us, rfl, S3, hlb3, hib3, hl3, ius⟩
  have hil : i < vb.length := (List.getElem?_eq_some_iff.mp hi).1
  obtain ⟨d, ed⟩ : ∃ d, ds[i]? = some d := ⟨_, List.getElem?_eq_getElem (by omega)⟩
  obtain ⟨v, ev, iv⟩ := hib3.get ed
  rw [hi] at ev
  cases ev
  have md := List.mem_of_getElem? ed
  have val := gQ (f := fun d => V.int (cB op d)) gd.nd md
  have elen := lR fs op (ds.take i)
  rw [List.length_take] at elen
  have eapp : bH fs (ds.take (i + 1)) op = bH fs (ds.take i) op ++ lQ fs op d := by
   unfold bH
   rw [List.take_add_one, ed, List.flatMap_append]
   simp
  obtain ⟨n, a', b', c, r, sl, rfl, _, ha, hb, _⟩ := bR (gd.all d md)
  obtain ⟨t, sv, rfl, o, isv⟩ := iW iv
  refine ⟨_, rfl, t, _, 1, .str a', rfl, rfl, SqT.of o, aJ (j := 1) rfl, _, rfl, t, _, 2, .str b', rfl, rfl, SqT.of o, aJ (j := 2) rfl, aN rfl, fun q1 hq1 => ?_⟩
  have R1 := aI.upd (o := .tup [.str a', .str b']) hq1
  have o1 := R1 _ _ o
  refine ⟨_, rfl, t, _, 2, .str b', rfl, rfl, SqT.of o1, aJ (j := 2) rfl, _, rfl, t, _, 1, .str a', rfl, rfl, SqT.of o1, aJ (j := 1) rfl, aN rfl, fun q2 hq2 => ?_⟩
  have R2 := aI.upd (o := .tup [.str b', .str a']) hq2
  refine ⟨aN rfl, fun q3 hq3 => ?_⟩
  have R3 := aI.upd (o := .lst [.ref q1, .ref q2]) hq3
  have R := R1.trans (R2.trans R3)
  have g1 : upd (upd (upd H3 q1 (.tup [.str a', .str b'])) q2 (.tup [.str b', .str a'])) q3 (.lst [.ref q1, .ref q2]) q1 = some (.tup [.str a', .str b']) := (R2.trans R3) _ _ aB
  have g2 : upd (upd (upd H3 q1 (.tup [.str a', .str b'])) q2 (.tup [.str b', .str a'])) q3 (.lst [.ref q1, .ref q2]) q2 = some (.tup [.str b', .str a']) := R3 _ _ aB
  have g3 : upd (upd (upd H3 q1 (.tup [.str a', .str b'])) q2 (.tup [.str b', .str a'])) q3 (.lst [.ref q1, .ref q2]) q3 = some (.lst [.ref q1, .ref q2]) := aB
  have nq3 : l ≠ q3 := bG ((R1.trans R2) _ _ hl3) hq3
  have S4 := S3.trans R
  have hlb4 := R _ _ hlb3
  have hib4 := IsL.same R _ _ hib3
  have hl4 := R _ _ hl3
  have ius4 := IsL.same R _ _ ius
  have o4 := R _ _ o
  generalize upd (upd (upd H3 q1 (.tup [.str a', .str b'])) q2 (.tup [.str b', .str a'])) q3 (.lst [.ref q1, .ref q2]) = H4 at g1 g2 g3 S4 hlb4 hib4 hl4 ius4 o4
  let sides : List (Str × Str) := [(a', b'), (b', a')]
  refine ⟨q3, rfl, ⟨_, SqL.of g3⟩, fO (K := K) (a := q3) (xs := [.ref q1, .ref q2])
   (fun j σ H' => ∃ (v4 v5 : Option V) (us : List V), σ = [some (.ref p), some (.ref sd), some (.ref l), some (.ref t), v4, v5] ∧ aI H H' ∧ H' lb = some (.lst vb) ∧ IsL H' ds vb ∧ H' t = some (.tup [.str n, .str a', .str b', .int c, .int r, sv]) ∧ H' q1 = some (.tup [.str a', .str b']) ∧ H' q2 = some (.tup [.str b', .str a']) ∧ H' q3 = some (.lst [.ref q1, .ref q2]) ∧ H' l = some (.lst us) ∧
    IsL H' ((bH fs (ds.take i) op ++ (sides.take j).flatMap fun s => fU fs op (.tup [.str n, .str a', .str b', .int c, .int r, sl]) s.1 s.2).map dB) us)
   ⟨_, _, us, rfl, S4, hlb4, hib4, o4, g1, g2, g3, hl4, by simpa using ius4⟩ (fun j σ H' _ ⟨_, _, _, _, _, _, _, _, _, _, e, _⟩ => SqL.of e) ?_ ?_⟩
  ·rintro j yv σ H5 hj ⟨w4, w5, us5, rfl, S5, hlb5, hib5, o5, g15, g25, g35, hl5, ius5⟩
   have hj2 : j < 2 := (List.getElem?_eq_some_iff.mp hj).1
   obtain ⟨q, near, far, rfl, es, hq, hf⟩ : ∃ (q : Addr) (near far : Str), yv = .ref q ∧ sides[j]? = some (near, far) ∧ H5 q = some (.tup [.str near, .str far]) ∧ far ∈ (("sea" : Str) :: fs.map aK) := by
    match j, hj2 with
    | 0, _ => cases hj; exact ⟨q1, a', b', rfl, rfl, g15, hb⟩
    | 1, _ => cases hj; exact ⟨q2, b', a', rfl, rfl, g25, ha⟩
   have eflat : (sides.take (j + 1)).flatMap (fun s => fU fs op (.tup [.str n, .str a', .str b', .int c, .int r, sl]) s.1 s.2) = (sides.take j).flatMap (fun s => fU fs op (.tup [.str n, .str a', .str b', .int c, .int r, sl]) s.1 s.2) ++ fU fs op (.tup [.str n, .str a', .str b', .int c, .int r, sl]) near far := by
    rw [List.take_add_one, es, List.flatMap_append]
    simp
   have elen5 : us5.length ≤ 2 * ds.length + 2 := by
    have h1 := ius5.length
    rw [List.length_map, List.length_append] at h1
    have h2 : ((sides.take j).flatMap fun s => fU fs op (.tup [.str n, .str a', .str b', .int c, .int r, sl]) s.1 s.2).length ≤ 2 := by
     match j, hj2 with
     | 0, _ => simp
     | 1, _ =>
      show ([(a', b')].flatMap _).length ≤ 2
      simp only [List.flatMap_cons, List.flatMap_nil, List.append_nil]
      unfold fU
      split <;> simp
    omega
   refine ⟨q, _, rfl, SqT.of hq, rfl, _, _, rfl, _, _, rfl, rfl, ?_⟩
   refine ⟨_, rfl, rfl, _, rfl, ?_⟩
   rw [aIL]
   refine kD (fun h1 => ?_) (fun h1 => ?_)
   ·have hne : ¬ far = "sea" := fun e => by rw [decide_eq_true e] at h1; cases h1
    have mf : far ∈ fs.map aK := (List.mem_cons.mp hf).resolve_left hne
    obtain ⟨g, e', mfs, eg, _⟩ := vQ gf mf
    have L5 := L.same S5
    obtain ⟨dx5, x1, x2, hx5, _⟩ := L5.ex
    refine ⟨_, rfl, .inl ⟨rfl, _, SqL.of hl5⟩, _, rfl, t, _, 0, .str n, rfl, rfl, SqT.of o5, aJ (j := 0) rfl, _, rfl, _, rfl, _, rfl, _, rfl, t, _, 0, .str n, rfl, rfl, SqT.of o5, aJ (j := 0) rfl, sd, _, rfl, .inl ⟨_, Sum.inr n, .inl (S5 _ _ hsd), rfl, val.symm⟩, _, rfl, p, dx5, _, rfl, hx5, dL _ _ (by decide +kernel) (by decide +kernel), _, rfl, _, _, rfl, p, fs, ds, far, g, e', rfl, rfl, L5, mfs, _, _, rfl, aN rfl, fun pt hpt => ?_⟩
    have emax : (if g > cB op (.tup [.str n, .str a', .str b', .int c, .int r, sl]) then g else cB op (.tup [.str n, .str a', .str b', .int c, .int r, sl])) = max (cB op (.tup [.str n, .str a', .str b', .int c, .int r, sl])) (bA fs far) := by
     rw [eg]
     split <;> omega
    dsimp only at hpt ⊢
    rw [emax] at *
    have R6 := aI.upd (o := .tup [.str n, .str near, .str far, .int (max (cB op (.tup [.str n, .str a', .str b', .int c, .int r, sl])) (bA fs far))]) hpt
    have hl6 := R6 _ _ hl5
    have KT := kI.lst (o := .lst (us5 ++ [.ref pt])) hl6
    refine ⟨l, us5, .ref pt, rfl, rfl, hl6, by omega, ?_⟩
    have ks := gL (ds := (bH fs (ds.take i) op ++ (sides.take (j + 1)).flatMap fun s => fU fs op (.tup [.str n, .str a', .str b', .int c, .int r, sl]) s.1 s.2).map dB) fun d m => by
     obtain ⟨s, _, rfl⟩ := List.mem_map.mp m
     exact pS s
    refine ⟨_, _, us5 ++ [.ref pt], rfl, (S5.trans R6).over hl, ?_, IsL.keep KT _ _ hds (IsL.same R6 _ _ hib5), ?_, ?_, ?_, ?_, aB, IsL.keep KT _ _ ks ?_⟩
    ·rw [aT (Ne.symm nlb)]; exact R6 _ _ hlb5
    ·rw [aT (fun e => by rw [e, hl5] at o5; cases o5)]; exact R6 _ _ o5
    ·rw [aT (fun e => by rw [e, hl5] at g15; cases g15)]; exact R6 _ _ g15
    ·rw [aT (fun e => by rw [e, hl5] at g25; cases g25)]; exact R6 _ _ g25
    ·rw [aT (Ne.symm nq3)]; exact R6 _ _ g35
    ·rw [eflat, ← List.append_assoc, List.map_append]
     have e1 : fU fs op (.tup [.str n, .str a', .str b', .int c, .int r, sl]) near far = [⟨n, near, far, max (cB op (.tup [.str n, .str a', .str b', .int c, .int r, sl])) (bA fs far)⟩] := by
      unfold fU
      rw [if_neg hne]
      rfl
     rw [e1]
     exact IsL.snoc (d := dB ⟨n, near, far, max (cB op (.tup [.str n, .str a', .str b', .int c, .int r, sl])) (bA fs far)⟩) (v := .ref pt) ⟨pt, _, rfl, aB, _, _, rfl, rfl, _, _, rfl, rfl, _, _, rfl, rfl, _, _, rfl, rfl, rfl⟩ (IsL.same R6 _ _ ius5)
   ·have he : far = "sea" := by
     by_cases h : far = "sea"
     ·exact h
     ·rw [decide_eq_false h] at h1
      exact absurd rfl h1
    refine ⟨_, _, us5, rfl, S5, hlb5, hib5, o5, g15, g25, g35, hl5, ?_⟩
    rw [eflat]
    unfold fU at ius5 ⊢
    rw [if_pos he, List.append_nil]
    exact ius5
  ·rintro σ H5 ⟨w4, w5, us5, rfl, S5, hlb5, hib5, o5, g15, g25, g35, hl5, ius5⟩
   refine ⟨_, _, _, us5, rfl, S5, hlb5, hib5, hl5, ?_⟩
   rw [eapp]
   have e : ((sides.take [V.ref q1, V.ref q2].length).flatMap fun s => fU fs op (.tup [.str n, .str a', .str b', .int c, .int r, sl]) s.1 s.2) = lQ fs op (.tup [.str n, .str a', .str b', .int c, .int r, sl]) := by
    show [(a', b'), (b', a')].flatMap _ = _
    simp [lQ, mM, fA]
   rw [e] at ius5
   exact ius5
 ·rintro σ H3 ⟨v3, v4, v5, us, rfl, S3, hlb3, hib3, hl3, ius⟩
  rw [List.take_of_length_le (by omega)] at ius
  exact ⟨_, rfl, q l us H3 S3 hl hl3 ius⟩
open Mt22 MtF
def aIT (H : Hp) (d : Addr) (lo : Mt22.Lo) (n : Nat) : Prop := ∃ kvs : List (Key × V), H d = some (.dK kvs) ∧ kvs.length ≤ n ∧ ∀ z : Str, dG kvs (Sum.inr z) = (lo z).map V.int
def kG (fs : List Dv) (lo : Mt22.Lo) : List (Key × V) := fs.map fun d => (Sum.inr (aK d), sU (lo (aK d)))
def rP (C : Addr) : Sp := sp2 fun x y H Q => ∃ (p l : Addr) (fs ds : List Dv) (op : List Str), x = .ref p ∧ LandAt C H p fs ds ∧ y = .ref l ∧ H l = some (.lst (op.map V.str)) ∧ op.length ≤ 1000 ∧ (∀ z ∈ op, z ∈ (ds.filter bC).map aK) ∧
 ∀ (d : Addr) (H' : Hp), aI H H' → H d = none → H' d = some (.dK (kG fs (flo fs ds op))) → Q (.ref d) H'
theorem zQ {lo : Mt22.Lo} {s : Mt22.St} (h : lo s.near = none) : gZ lo s = lo := by unfold gZ; rw [h]
theorem aDS {o : Option Int} {c : Int} : (o.map V.int).getD (.int c) = .int (o.getD c) := by cases o <;> rfl
theorem aDR (o : Option Int) : (o.map V.int).getD .non = sU o := by cases o <;> rfl
theorem gU (T : Txt K mg C) : Fc P w K mg base 5 "flood_heights" ["land", "opened"] (rP C) := by
 have G_p_stands : Fc P w K mg base 4 "stands" ["land", "opened"] (sC C) := qP T
 have G_p_steps_inland : Fc P w K mg base 2 "steps_inland" ["land", "stand_of"] (sB C) := kL T
 have G_land_p_field_names : Mc P w K mg base 1 C "field_names" ["self"] (kR C fun fs _ => fs.map aK) := dN T
 refine T.d_p_flood_heights.fc bS jH (fun f cdv A outer s H vs Q E hr h => ?_)
 obtain ⟨x, y, rfl, p, l, fs, ds, op, rfl, L, rfl, hl, lo, sub, q⟩ := h
 have big := bT
 have hu := kF hr
 have gf := (bY L).1
 have gd := (bY L).2
 have d2 := gd.l2
 have f2 := gf.l2
 have slen := lR fs op ds
 refine ⟨_, (aG (@aS _ _ (2) _ _ _ _ bS.nd rfl (Or.inl rfl) (@bO _ _ _ _ _ _ _ _ _ _ G_p_steps_inland (hr.mono (by decide)) (aA (pv 0) (aA (@bO _ _ _ _ _ _ _ _ _ _ G_p_stands (hr.mono (by decide)) (aA (pv 0) (aA (pv 1) aD)) (by rfl) (by decide) (by rfl) (by rfl)) aD)) (by rfl) (by decide) (by rfl) (by rfl)) (by rfl) (by trivial)) (aG (@aS _ _ (3) _ _ _ _ bS.nd rfl (Or.inr rfl) (@aHX _ _ _ _ _ (@aFN _ _ _ _ _ _ _ _ _ (@nY _ _ _ _ T.g_SEA (by rfl) (by decide)) (@aJG _ _ _ _ _ _ aEK (@nY _ _ _ _ T.g_MOST_HEIGHT (by rfl) (by decide))) aHU) rfl rfl (by simp) (Nat.le_of_ble_eq_true rfl)) (by rfl) (by trivial)) (aG (@eY _ _ _ _ _ _ _ _ PassesOwn.never rfl (@hE _ _ _ _ _ _ rfl T.n_range (aA (@aV _ _ _ _ _ _ _ _ _ (@bW _ (K) rfl) rfl T.n_len cM (aA (@jD _ _ _ _ _ _ _ _ _ _ _ T.cl_Land G_land_p_field_names (hr.mono (by decide)) (pv 0) (by rfl)) aD) (by decide) (by decide) (by rfl) (by rfl)) aD) (by rfl)) (@aO _ _ (4) _ bS.nd rfl (Or.inl rfl) (by trivial)) (aH (@eY _ _ _ _ _ _ _ _ PassesOwn.never rfl (@bM _ _ _ _ (pv 2)) (@lX _ _ _ _ _ _ rfl (@bN _ _ _ _ _ (@aO _ _ (5) _ bS.nd rfl (Or.inl rfl) (by trivial)) (@bN _ _ _ _ _ (@aO _ _ (6) _ bS.nd rfl (Or.inl rfl) (by trivial)) (@bN _ _ _ _ _ (@aO _ _ (7) _ bS.nd rfl (Or.inl rfl) (by trivial)) (@bN _ _ _ _ _ (@aO _ _ (8) _ bS.nd rfl (Or.inl rfl) (by trivial)) jG (by rfl)) (by rfl)) (by rfl)) (by rfl)) (by rfl) (by rfl)) (aH (@cE _ _ _ _ _ _ _ _ (@aFL _ _ _ _ _ _ (@aKG _ _ _ _ _ hu (pv 6) (pv 3)) (by first | exact nobehind _ (by decide) (by decide) | rfl)) (aG (@aS _ _ (9) _ _ _ _ bS.nd rfl (Or.inl rfl) (@aV _ _ _ _ _ _ _ _ _ (@jP _ rfl) rfl T.n_max iJ (aA (@eQ _ _ _ _ _ _ hu (pv 3) (pv 6) (fun _ _ => rfl)) (aA (pv 8) aD)) (by decide) (by decide) (by rfl) (by rfl)) (by rfl) (by trivial)) (aH (@pI _ _ _ _ _ _ _ _ _ hu (pv 3) (pv 7) (@aV _ _ _ _ _ _ _ _ _ (@qK _ rfl) rfl T.n_min nW (aA (pv 9) (aA (@aFS _ _ _ _ _ _ _ _ _ hu (pv 3) (pv 7) (pv 9) ⟨rfl, rfl, rfl, rfl⟩) aD)) (by decide) (by decide) (by rfl) (by rfl)) rfl))) bE)) (by intro _; rfl))) (by intro _; rfl)) (aH (@aR _ _ _ _ (@cL _ _ _ _ _ _ _ _ _ (@cZ _ rfl) rfl T.n_dict gW (aA (@cA _ _ _ _ _ _ _ _ _ _ _ ["name", "lowest"] 1 [3] rfl (@bM _ _ _ _ (@jD _ _ _ _ _ _ _ _ _ _ _ T.cl_Land G_land_p_field_names (hr.mono (by decide)) (pv 0) (by rfl))) (fun R => @aO _ _ (0) _ (show List.Nodup (["name", "lowest"] : List Str) by decide +kernel) rfl (Or.inl rfl) (by trivial)) (@aZ _ _ (by decide)) (fun R => cI) (fun R => (@cO _ _ _ _ _ (aA (pv 0) (aA (@aFT _ _ _ _ _ _ _ hu (pv 1) (pv 0) ⟨rfl, rfl, rfl, rfl⟩) aD)))) (by rfl) (by rfl) (by rfl) (by rfl) (by rfl) (by rfl) (by rfl) (by intro _; rfl)) aD) (by decide) (by decide) (by rfl) (by rfl))))))), ?_⟩
 refine ⟨_, rfl, _, rfl, _, rfl, _, _, rfl, p, l, fs, ds, op, rfl, L, rfl, hl, lo, sub, fun sd H1 S1 fsd hsd => ?_⟩
 refine ⟨_, _, rfl, p, sd, fs, ds, op, rfl, L.same S1, rfl, hsd, fun ls us H2 S2 fls hls ius => ?_⟩
 have lus := ius.length
 rw [List.length_map] at lus
 have T2 := S1.trans S2
 refine fun dl hdl => ?_
 refine ⟨_, rfl, aB, [(Sum.inr "sea", .int (-1000000))], rfl, by show 1 ≤ 15; decide, ?_⟩
 have S3 : aI H2 (upd (upd H2 dl (.dK [])) dl (.dK (nE [] [(Sum.inr "sea", .int (-1000000))]))) := (aI.upd hdl).over hdl
 have lo3 : aIT (upd (upd H2 dl (.dK [])) dl (.dK (nE [] [(Sum.inr "sea", .int (-1000000))]))) dl lo0 1 := by
  refine ⟨[(Sum.inr "sea", .int (-1000000))], aB, Nat.le_refl _, fun z => ?_⟩
  unfold lo0
  by_cases hz : z = Mt22.sea
  ·subst hz
   rw [if_pos rfl]
   exact dE rfl
  ·rw [if_neg hz, dF (fun e => hz (Sum.inr.inj e).symm)]
   rfl
 generalize upd (upd H2 dl (.dK [])) dl (.dK (nE [] [(Sum.inr "sea", .int (-1000000))])) = H3 at S3 lo3
 have L2' := L.same T2
 have L3 := L2'.same S3
 obtain ⟨dx, d1, d2', hx, _⟩ := L3.ex
 refine ⟨_, rfl, p, dx, _, rfl, hx, dL _ _ (by decide +kernel) (by decide +kernel), _, rfl, p, fs, ds, rfl, L3, fun ln H4 S4 fln hln => ?_⟩
 refine ⟨ln, _, rfl, .inl (SqL.of hln), (fs.length : Int), by rw [List.length_map, List.length_map], by omega, by omega, ?_⟩
 have lo4 : aIT H4 dl lo0 1 := by
  obtain ⟨kvs, e, r⟩ := lo3
  exact ⟨kvs, S4 _ _ e, r⟩
 refine iI (lo := 0) (n := fs.length) (fun i σ H' => ∃ v4 v5 v6 v7 v8 v9 : Option V, σ = [some (.ref p), some (.ref l), some (.ref ls), some (.ref dl), v4, v5, v6, v7, v8, v9] ∧ aI H2 H' ∧ aIT H' dl (gS (bH fs ds op) i) (1 + i * (bH fs ds op).length))
  ⟨_, _, _, _, _, _, rfl, S3.trans S4, by rw [Nat.zero_mul]; exact lo4⟩ ?_ ?_
 ·rintro i σ H5 hi ⟨v4, v5, v6, v7, v8, v9, rfl, S5, lo5⟩
  refine ⟨_, rfl, ls, rfl, ⟨_, SqL.of (S5 _ _ hls)⟩, fO (K := K) (a := ls) (xs := us)
   (fun j σ H' => ∃ v5 v6 v7 v8 v9 : Option V, σ = [some (.ref p), some (.ref l), some (.ref ls), some (.ref dl), some (.int (0 + (i : Int))), v5, v6, v7, v8, v9] ∧ aI H2 H' ∧ aIT H' dl (((bH fs ds op).take j).foldl gZ (gS (bH fs ds op) i)) (1 + i * (bH fs ds op).length + j))
   ⟨_, _, _, _, _, rfl, S5, lo5⟩ (fun j σ H' _ ⟨_, _, _, _, _, _, S, _⟩ => SqL.of (S _ _ hls)) ?_ ?_⟩
  ·rintro j xv σ H6 hj ⟨w5, w6, w7, w8, w9, rfl, S6, kvs, hk, lk, vk⟩
   have hjl : j < us.length := (List.getElem?_eq_some_iff.mp hj).1
   obtain ⟨st, es⟩ : ∃ st, (bH fs ds op)[j]? = some st := ⟨_, List.getElem?_eq_getElem (by omega)⟩
   obtain ⟨v, ev, iv⟩ := ius.get (show ((bH fs ds op).map dB)[j]? = some (dB st) by rw [List.getElem?_map, es]; rfl)
   rw [hj] at ev
   cases ev
   obtain ⟨t, ts, rfl, o, x0, r0, rfl, e0, x1, r1, rfl, e1, x2, r2, rfl, e2, x3, r3, rfl, e3, h0⟩ := iv
   cases (show r3 = [] from h0)
   cases (show x0 = .str st.nm from e0)
   cases (show x1 = .str st.near from e1)
   cases (show x2 = .str st.far from e2)
   cases (show x3 = .int st.h from e3)
   have o6 := S6 _ _ o
   have efold : ((bH fs ds op).take (j + 1)).foldl gZ (gS (bH fs ds op) i) = gZ (((bH fs ds op).take j).foldl gZ (gS (bH fs ds op) i)) st := by
    rw [List.take_add_one, es, List.foldl_append]
    rfl
   have lkb : kvs.length < sizeLine := by
    have big2 : (2000 : Nat) ≤ sizeLine := by decide
    have h1 : i * (bH fs ds op).length ≤ 12 * 80 := Nat.mul_le_mul (by omega) (by omega)
    omega
   generalize ((bH fs ds op).take j).foldl gZ (gS (bH fs ds op) i) = lw at vk efold
   refine ⟨t, _, rfl, SqT.of o6, rfl, _, _, rfl, _, _, rfl, _, _, rfl, _, _, rfl, rfl, ?_⟩
   refine ⟨_, rfl, _, rfl, dl, _, rfl, .inl ⟨kvs, Sum.inr st.near, .inl hk, rfl, rfl⟩, _, rfl, ?_⟩
   rw [vk]
   cases hn : lw st.near with
   | none =>
    refine bF ⟨_, _, _, _, _, rfl, S6, ?_⟩
    rw [efold, zQ hn]
    exact ⟨kvs, hk, by omega, vk⟩
   | some a =>
    refine bU ?_
    refine ⟨_, rfl, _, rfl, dl, .int a, rfl, .inl ⟨kvs, Sum.inr st.near, .inl hk, rfl, by rw [vk, hn]; rfl⟩, _, rfl, _, _, rfl, ?_⟩
    have emax : (if st.h > a then st.h else a) = max a st.h := by split <;> omega
    dsimp only
    rw [emax]
    refine ⟨_, rfl, _, rfl, dl, rfl, .inl ⟨_, .inl hk⟩, _, rfl, _, rfl, _, mH.k (k := Sum.inr st.far) hk, _, _, by rw [vk, aDS], ?_⟩
    refine ⟨_, rfl, _, rfl, dl, _, rfl, .inl ⟨kvs, Sum.inr st.far, hk, rfl, lkb, rfl⟩, ?_⟩
    have hdl6 : H2 dl = none := hdl
    refine ⟨_, _, _, _, _, rfl, S6.over hdl6, _, aB, ?_, fun z => ?_⟩
    ·have := kN kvs (Sum.inr st.far : Key) (V.int (if (lw st.far).getD (max a st.h) < max a st.h then (lw st.far).getD (max a st.h) else max a st.h))
     omega
    ·rw [aEG, efold]
     unfold gZ
     rw [hn]
     dsimp only
     by_cases hz : z = st.far
     ·subst hz
      rw [if_pos rfl, if_pos rfl]
      cases hf : lw st.far with
      | none =>
       show some (V.int (if max a st.h < max a st.h then _ else _)) = some (V.int (max a st.h))
       rw [if_neg (Int.lt_irrefl _)]
      | some b =>
       show some (V.int (if b < max a st.h then b else max a st.h)) = some (V.int (min (max a st.h) b))
       congr 2
       split <;> omega
     ·rw [if_neg (fun e => hz (Sum.inr.inj e)), if_neg hz]
      exact vk z
  ·rintro σ H6 ⟨w5, w6, w7, w8, w9, rfl, S6, lo6⟩
   rw [List.take_of_length_le (by omega)] at lo6
   refine ⟨_, _, _, _, _, _, rfl, S6, ?_⟩
   obtain ⟨kvs, hk, lk, vk⟩ := lo6
   exact ⟨kvs, hk, by rw [Nat.succ_mul]; omega, vk⟩
 ·rintro σ H5 ⟨v4, v5, v6, v7, v8, v9, rfl, S5, kvs, hk, lk, vk⟩
  have L5 := L2'.same S5
  obtain ⟨dx5, x1, x2, hx5, _⟩ := L5.ex
  refine ⟨_, rfl, p, dx5, _, rfl, hx5, dL _ _ (by decide +kernel) (by decide +kernel), _, rfl, p, fs, ds, rfl, L5, fun lm H6 S6 flm hlm => ?_⟩
  have hk6 := S6 _ _ hk
  refine ⟨lm, rfl, ⟨_, SqL.of hlm⟩, ?_⟩
  refine bP (F := K) (xs := (fs.map aK).map V.str) (by rw [List.length_map, List.length_map]; omega) (fun i ys H' => aI H6 H' ∧ bV H' ys (kG (fs.take i) (flo fs ds op))) ⟨aI.refl _, bV.nil _⟩ ?_ ?_ ?_
  ·rintro i ys H' hi' ⟨S', pa⟩
   have := pa.len
   unfold kG at this
   rw [List.length_map, List.length_take] at this
   exact ⟨SqL.of (S' _ _ hlm), by omega⟩
  ·rintro i xv ys H' K1 K2 hx' ⟨S', pa⟩ k1 k2
   have hil := (List.getElem?_eq_some_iff.mp hx').1
   rw [List.length_map, List.length_map] at hil
   obtain ⟨d, ed⟩ : ∃ d, fs[i]? = some d := ⟨_, List.getElem?_eq_getElem hil⟩
   rw [List.getElem?_map, List.getElem?_map, ed] at hx'
   cases hx'
   have ek : kG (fs.take (i + 1)) (flo fs ds op) = kG (fs.take i) (flo fs ds op) ++ [(Sum.inr (aK d), sU (flo fs ds op (aK d)))] := by
    unfold kG
    rw [List.take_add_one, ed, List.map_append]
    rfl
   refine ⟨_, rfl, _, rfl, dl, rfl, .inl ⟨_, .inl (S' _ _ hk6)⟩, _, rfl, _, mH.k (k := Sum.inr (aK d)) (S' _ _ hk6), ?_⟩
   rw [vk, aDR]
   refine ⟨aN rfl, fun p3 hp3 => k1 _ _ ⟨S'.trans (aI.upd hp3), ?_⟩⟩
   rw [ek]
   exact bV.snoc (k := Sum.inr (aK d)) pa hp3
  rintro ys H7 ⟨S7, pa⟩
  rw [List.length_map, List.length_map, List.take_of_length_le (Nat.le_refl _)] at pa
  intro p4 hp4
  have S8 := aI.upd (o := .lst ys) hp4
  have T8 := T2.trans (S5.trans (S6.trans (S7.trans S8)))
  refine ⟨p4, ys, kG fs (flo fs ds op), rfl, SqL.of aB, pa.same S8, by unfold kG; rw [List.length_map]; omega, ?_, fun cd hcd => ?_⟩
  ·have e : (kG fs (flo fs ds op)).map (·.1) = fs.map lK := by
    unfold kG
    rw [List.map_map]
    rfl
   rw [e]
   exact nQ gf.nd
  ·exact q cd _ (T8.trans (aI.upd hcd)) (T8.free hcd) aB
structure GoodC (zs : List Str) (d : Dv) : Prop where
 ok : iH zs d = true
 sm : dR d = true
 fl : aW 27 d = true
structure GoodX (gs zs : List Str) (d : Dv) : Prop where
 ok : oB gs zs d = true
 sm : dR d = true
 fl : aW 29 d = true
 sh : ∃ (a g : Str) (cs : List Dv), d = .tup [.str a, .str g, .lst cs] ∧ bZ ["open", "shut"] (.str a) = true ∧ g ∈ gs ∧ 1 ≤ cs.length ∧ cs.length ≤ 6 ∧ (∀ c ∈ cs, GoodC zs c) ∧ a.length ≤ 1000 ∧ g.length ≤ 1000
theorem aGO {gs zs : List Str} {a g : Str} {cs : List Dv} (ha : bZ ["open", "shut"] (.str a) = true) (sa : a.length ≤ 1000) (hg : g ∈ gs) (sg : g.length ≤ 1000) (l1 : 1 ≤ cs.length) (l6 : cs.length ≤ 6) (hc : ∀ c ∈ cs, GoodC zs c) : GoodX gs zs (.tup [.str a, .str g, .lst cs]) := by
 refine ⟨?_, ?_, ?_, a, g, cs, rfl, ha, hg, l1, l6, hc, sa, sg⟩
 ·show ((bZ ["open", "shut"] (.str a) && bZ gs (.str g)) && ((decide (1 ≤ cs.length) && decide ((cs.length : Int) ≤ 6)) && cs.all (iH zs))) = true
  rw [ha, show bZ gs (.str g) = true from decide_eq_true hg, decide_eq_true l1, decide_eq_true (by omega : (cs.length : Int) ≤ 6), List.all_eq_true.mpr fun c m => (hc c m).ok]
  rfl
 ·show (decide (3 ≤ 1000) && (decide (a.length ≤ 1000) && (decide (g.length ≤ 1000) && ((decide (cs.length ≤ 1000) && fV cs) && true)))) = true
  rw [decide_eq_true sa, decide_eq_true sg, decide_eq_true (by omega : cs.length ≤ 1000), nN fun c m => (hc c m).sm]
  rfl
 ·have h : cR 27 cs = true := oT fun c m => (hc c m).fl
  show (aW 28 (.str a) && (aW 28 (.str g) && (aW 28 (.lst cs) && true))) = true
  have h2 : aW 28 (.lst cs) = true := by simpa [aW] using h
  rw [h2]
  rfl
def sp4 (f : V → V → V → V → Hp → VK → Prop) : Sp := fun vs H Q _ => ∃ x y z u, vs = [x, y, z, u] ∧ f x y z u H Q
theorem aFY {f : V → V → V → V → Hp → VK → Prop} : ∀ vs H Q E, sp4 f vs H Q E → vs.length = 4 := fun vs H Q E ⟨x, y, z, u, e, _⟩ => by rw [e]; rfl
inductive Cd where
 | always | above (h : Int) | below (h : Int) | wet (z : Str) | dry (z : Str) | day (n m : Int)
def Cd.vs : Cd → List Dv
 | .always => [.str "always"]
 | .above h => [.str "above", .int h]
 | .below h => [.str "below", .int h]
 | .wet z => [.str "wet", .str z]
 | .dry z => [.str "dry", .str z]
 | .day n m => [.str "day", .int n, .int m]
def Cd.dv (c : Cd) : Dv := .tup c.vs
def Cd.ok : Cd → Prop
 | .day n m => 0 ≤ n ∧ n < m
 | _ => True
def Cd.so (l : Int) (ws : List Str) (d : Int) : Cd → Bool
 | .always => true
 | .above h => decide (h < l)
 | .below h => decide (l < h)
 | .wet z => decide (z ∈ ws)
 | .dry z => !decide (z ∈ ws)
 | .day n m => d % m == n
theorem kE {a b : Str} {p q : Prop} (h : decide (a = b) = false) (hq : q) : if decide (V.str a = V.str b) = true then p else q := by
 rw [if_neg]
 ·exact hq
 ·intro e
  have := of_decide_eq_true e
  cases this
  simp at h
theorem tU {a b : Str} {p q : Prop} (h : decide (a = b) = true) (hp : p) : if decide (V.str a = V.str b) = true then p else q := by
 rw [if_pos]
 ·exact hp
 ·rw [of_decide_eq_true h]
  exact decide_eq_true rfl
theorem aDZ {H : Hp} {x : V} (h : Is H Cd.always.dv x) : ∃ t, x = .ref t ∧ H t = some (.tup [.str "always"]) := by
 obtain ⟨t, us, rfl, o, a, r, rfl, rfl, h0⟩ := h
 cases (show r = [] from h0)
 exact ⟨t, rfl, o⟩
theorem xC {H : Hp} {x : V} {k : Str} {d : Dv} (h : Is H (.tup [.str k, d]) x) : ∃ t v, x = .ref t ∧ H t = some (.tup [.str k, v]) ∧ Is H d v := by
 obtain ⟨t, us, rfl, o, a, r, rfl, rfl, v, r', rfl, hv, h0⟩ := h
 cases (show r' = [] from h0)
 exact ⟨t, v, rfl, o, hv⟩
theorem aHG {H : Hp} {x : V} {h : Int} (e : Is H (Cd.above h).dv x) : ∃ t, x = .ref t ∧ H t = some (.tup [.str "above", .int h]) := by
 obtain ⟨t, v, rfl, o, rfl⟩ := xC e
 exact ⟨t, rfl, o⟩
theorem aHF {H : Hp} {x : V} {h : Int} (e : Is H (Cd.below h).dv x) : ∃ t, x = .ref t ∧ H t = some (.tup [.str "below", .int h]) := by
 obtain ⟨t, v, rfl, o, rfl⟩ := xC e
 exact ⟨t, rfl, o⟩
theorem aKV {H : Hp} {x : V} {h : Str} (e : Is H (Cd.wet h).dv x) : ∃ t, x = .ref t ∧ H t = some (.tup [.str "wet", .str h]) := by
 obtain ⟨t, v, rfl, o, rfl⟩ := xC e
 exact ⟨t, rfl, o⟩
theorem aKW {H : Hp} {x : V} {h : Str} (e : Is H (Cd.dry h).dv x) : ∃ t, x = .ref t ∧ H t = some (.tup [.str "dry", .str h]) := by
 obtain ⟨t, v, rfl, o, rfl⟩ := xC e
 exact ⟨t, rfl, o⟩
theorem aKX {H : Hp} {x : V} {n m : Int} (e : Is H (Cd.day n m).dv x) : ∃ t, x = .ref t ∧ H t = some (.tup [.str "day", .int n, .int m]) := by
 obtain ⟨t, us, rfl, o, a, r, rfl, rfl, v, r', rfl, rfl, v2, r2, rfl, rfl, h0⟩ := e
 cases (show r2 = [] from h0)
 exact ⟨t, rfl, o⟩
def aBV (K : PySem.W.Frag) : Sp := sp4 fun x l wv d H Q => ∃ (c : Cd) (ws : List Str) (lv dv : Int) (b : Addr), Is H c.dv x ∧ c.ok ∧ l = .int lv ∧ wv = .ref b ∧ H b = some (.lst (ws.map V.str)) ∧ d = .int dv ∧ Q (.bl (c.so lv ws dv)) H
theorem nC (T : Txt K mg C) : Fc P w K mg base 1 "condition_holds" ["condition", "level", "wet", "day"] (aBV K) := by
 refine T.d_p_condition_holds.fc mR aFY (fun f cdv A outer s H vs Q E hr h => ?_)
 obtain ⟨x, l, wv, d, rfl, c, ws, lv, dv, b, hx, ok, rfl, rfl, hb, rfl, q⟩ := h
 refine ⟨_, (aG (@cE _ _ _ _ _ _ _ _ (@bD _ _ _ _ _ _ _ _ iV (@aY _ _ _ _ _ _ _ (@aQ _ (K) rfl) (pv 0) aE (fun _ _ => rfl)) cJ (@bB _ _ (by decide) (by decide))) (aH (@aR _ _ _ _ (@bX _ _ _ _ _ _ _ _ aBY (pv 1) (@aY _ _ _ _ _ _ _ (@aQ _ (K) rfl) (pv 0) aE (fun _ _ => rfl)) (@bB _ _ (by decide) (by decide))))) bE) (aG (@cE _ _ _ _ _ _ _ _ (@bD _ _ _ _ _ _ _ _ iV (@aY _ _ _ _ _ _ _ (@aQ _ (K) rfl) (pv 0) aE (fun _ _ => rfl)) cJ (@bB _ _ (by decide) (by decide))) (aH (@aR _ _ _ _ (@bX _ _ _ _ _ _ _ _ qO (pv 1) (@aY _ _ _ _ _ _ _ (@aQ _ (K) rfl) (pv 0) aE (fun _ _ => rfl)) (@bB _ _ (by decide) (by decide))))) bE) (aG (@cE _ _ _ _ _ _ _ _ (@bD _ _ _ _ _ _ _ _ iV (@aY _ _ _ _ _ _ _ (@aQ _ (K) rfl) (pv 0) aE (fun _ _ => rfl)) cJ (@bB _ _ (by decide) (by decide))) (aH (@aR _ _ _ _ (@bX _ _ _ _ _ _ _ _ (@eB _ (K) rfl) (@aY _ _ _ _ _ _ _ (@aQ _ (K) rfl) (pv 0) aE (fun _ _ => rfl)) (pv 2) (by with_unfolding_all rfl)))) bE) (aG (@cE _ _ _ _ _ _ _ _ (@bD _ _ _ _ _ _ _ _ iV (@aY _ _ _ _ _ _ _ (@aQ _ (K) rfl) (pv 0) aE (fun _ _ => rfl)) cJ (@bB _ _ (by decide) (by decide))) (aH (@aR _ _ _ _ (@bX _ _ _ _ _ _ _ _ (@gK _ (K) rfl) (@aY _ _ _ _ _ _ _ (@aQ _ (K) rfl) (pv 0) aE (fun _ _ => rfl)) (pv 2) (by with_unfolding_all rfl)))) bE) (aG (@cE _ _ _ _ _ _ _ _ (@bD _ _ _ _ _ _ _ _ iV (@aY _ _ _ _ _ _ _ (@aQ _ (K) rfl) (pv 0) aE (fun _ _ => rfl)) cJ (@bB _ _ (by decide) (by decide))) (aH (@aR _ _ _ _ (@bX _ _ _ _ _ _ _ _ iV (@aP _ _ _ _ _ _ _ _ cH (pv 3) (@aY _ _ _ _ _ _ _ (@aQ _ (K) rfl) (pv 0) aE (fun _ _ => rfl))) (@aY _ _ _ _ _ _ _ (@aQ _ (K) rfl) (pv 0) aE (fun _ _ => rfl)) (@bB _ _ (by decide) (by decide))))) bE) (aH (@aR _ _ _ _ mZ))))))), ?_⟩
 cases c with
 | always  =>
  obtain ⟨t, o⟩ := aDZ hx
  obtain ⟨rfl, o⟩ := o
  refine ⟨_, rfl, t, _, 0, .str "always", rfl, rfl, SqT.of o, aJ (j := 0) rfl, rfl, _, rfl, kE (by decide +kernel) ?_⟩
  refine ⟨_, rfl, t, _, 0, .str "always", rfl, rfl, SqT.of o, aJ (j := 0) rfl, rfl, _, rfl, kE (by decide +kernel) ?_⟩
  refine ⟨_, rfl, t, _, 0, .str "always", rfl, rfl, SqT.of o, aJ (j := 0) rfl, rfl, _, rfl, kE (by decide +kernel) ?_⟩
  refine ⟨_, rfl, t, _, 0, .str "always", rfl, rfl, SqT.of o, aJ (j := 0) rfl, rfl, _, rfl, kE (by decide +kernel) ?_⟩
  refine ⟨_, rfl, t, _, 0, .str "always", rfl, rfl, SqT.of o, aJ (j := 0) rfl, rfl, _, rfl, kE (by decide +kernel) ?_⟩
  exact q
 | above h =>
  obtain ⟨t, o⟩ := aHG hx
  obtain ⟨rfl, o⟩ := o
  refine ⟨_, rfl, t, _, 0, .str "above", rfl, rfl, SqT.of o, aJ (j := 0) rfl, rfl, _, rfl, tU (by decide +kernel) ?_⟩
  exact ⟨_, rfl, _, rfl, t, _, 1, .int h, rfl, rfl, SqT.of o, aJ (j := 1) rfl, _, _, rfl, rfl, q⟩
 | below h =>
  obtain ⟨t, o⟩ := aHF hx
  obtain ⟨rfl, o⟩ := o
  refine ⟨_, rfl, t, _, 0, .str "below", rfl, rfl, SqT.of o, aJ (j := 0) rfl, rfl, _, rfl, kE (by decide +kernel) ?_⟩
  refine ⟨_, rfl, t, _, 0, .str "below", rfl, rfl, SqT.of o, aJ (j := 0) rfl, rfl, _, rfl, tU (by decide +kernel) ?_⟩
  exact ⟨_, rfl, _, rfl, t, _, 1, .int h, rfl, rfl, SqT.of o, aJ (j := 1) rfl, _, _, rfl, rfl, q⟩
 | wet z =>
  obtain ⟨t, o⟩ := aKV hx
  obtain ⟨rfl, o⟩ := o
  refine ⟨_, rfl, t, _, 0, .str "wet", rfl, rfl, SqT.of o, aJ (j := 0) rfl, rfl, _, rfl, kE (by decide +kernel) ?_⟩
  refine ⟨_, rfl, t, _, 0, .str "wet", rfl, rfl, SqT.of o, aJ (j := 0) rfl, rfl, _, rfl, kE (by decide +kernel) ?_⟩
  refine ⟨_, rfl, t, _, 0, .str "wet", rfl, rfl, SqT.of o, aJ (j := 0) rfl, rfl, _, rfl, tU (by decide +kernel) ?_⟩
  exact ⟨_, rfl, t, _, 1, .str z, rfl, rfl, SqT.of o, aJ (j := 1) rfl, _, rfl, b, _, rfl, .inl (SqL.of hb), rfl, cQ ws, by rw [eS]; exact q⟩
 | dry z =>
  obtain ⟨t, o⟩ := aKW hx
  obtain ⟨rfl, o⟩ := o
  refine ⟨_, rfl, t, _, 0, .str "dry", rfl, rfl, SqT.of o, aJ (j := 0) rfl, rfl, _, rfl, kE (by decide +kernel) ?_⟩
  refine ⟨_, rfl, t, _, 0, .str "dry", rfl, rfl, SqT.of o, aJ (j := 0) rfl, rfl, _, rfl, kE (by decide +kernel) ?_⟩
  refine ⟨_, rfl, t, _, 0, .str "dry", rfl, rfl, SqT.of o, aJ (j := 0) rfl, rfl, _, rfl, kE (by decide +kernel) ?_⟩
  refine ⟨_, rfl, t, _, 0, .str "dry", rfl, rfl, SqT.of o, aJ (j := 0) rfl, rfl, _, rfl, tU (by decide +kernel) ?_⟩
  exact ⟨_, rfl, t, _, 1, .str z, rfl, rfl, SqT.of o, aJ (j := 1) rfl, _, rfl, b, _, rfl, .inl (SqL.of hb), rfl, cQ ws, by rw [eS]; exact q⟩
 | day n m =>
  obtain ⟨t, o⟩ := aKX hx
  obtain ⟨rfl, o⟩ := o
  refine ⟨_, rfl, t, _, 0, .str "day", rfl, rfl, SqT.of o, aJ (j := 0) rfl, rfl, _, rfl, kE (by decide +kernel) ?_⟩
  refine ⟨_, rfl, t, _, 0, .str "day", rfl, rfl, SqT.of o, aJ (j := 0) rfl, rfl, _, rfl, kE (by decide +kernel) ?_⟩
  refine ⟨_, rfl, t, _, 0, .str "day", rfl, rfl, SqT.of o, aJ (j := 0) rfl, rfl, _, rfl, kE (by decide +kernel) ?_⟩
  refine ⟨_, rfl, t, _, 0, .str "day", rfl, rfl, SqT.of o, aJ (j := 0) rfl, rfl, _, rfl, kE (by decide +kernel) ?_⟩
  refine ⟨_, rfl, t, _, 0, .str "day", rfl, rfl, SqT.of o, aJ (j := 0) rfl, rfl, _, rfl, tU (by decide +kernel) ?_⟩
  refine ⟨_, rfl, _, rfl, t, _, 2, .int m, rfl, rfl, SqT.of o, aJ (j := 2) rfl, _, _, rfl, rfl, (by have := ok.1; have := ok.2; show 0 < m; omega), _, rfl, t, _, 1, .int n, rfl, rfl, SqT.of o, aJ (j := 1) rfl, rfl, ?_⟩
  rw [kP]
  exact q
def aCJ (cs : List Cd) : Prop := ∀ c ∈ cs, c.ok
def aKR (a g : Str) (cs : List Cd) : Dv := .tup [.str a, .str g, .lst (cs.map Cd.dv)]
theorem aAO {H : Hp} {x : V} {a g : Str} {cs : List Cd} (h : Is H (aKR a g cs) x) : ∃ t l us, x = .ref t ∧ H t = some (.tup [.str a, .str g, .ref l]) ∧ H l = some (.lst us) ∧ IsL H (cs.map Cd.dv) us := by
 obtain ⟨t, us, rfl, o, v0, r0, rfl, rfl, v1, r1, rfl, rfl, v2, r2, rfl, ⟨l, us', rfl, ol, hl⟩, h0⟩ := h
 cases (show r2 = [] from h0)
 exact ⟨t, l, us', rfl, o, ol, hl⟩
def aBQ (K : PySem.W.Frag) : Sp := sp4 fun x l wv d H Q => ∃ (a g : Str) (cs : List Cd) (ws : List Str) (lv dv : Int) (b : Addr), Is H (aKR a g cs) x ∧ aCJ cs ∧ cs.length ≤ 6 ∧ l = .int lv ∧ wv = .ref b ∧ H b = some (.lst (ws.map V.str)) ∧ d = .int dv ∧ Q (.bl (cs.all (Cd.so lv ws dv))) H
theorem zV (T : Txt K mg C) : Fc P w K mg base 2 "holds" ["decree", "level", "wet", "day"] (aBQ K) := by
 have G_p_condition_holds : Fc P w K mg base 1 "condition_holds" ["condition", "level", "wet", "day"] (aBV K) := nC T
 refine T.d_p_holds.fcD zO aFY (fun f cdv A outer s H vs Q E hr h => ?_)
 obtain ⟨x, l, wv, d, rfl, a, g, cs, ws, lv, dv, b, hx, ok, lc, rfl, rfl, hb, rfl, q⟩ := h
 obtain ⟨t, l, us, rfl, o, ol, hl⟩ := aAO hx
 have big := bT
 have lu := hl.length
 rw [List.length_map] at lu
 refine ⟨_, (aH (@aR _ _ _ _ (@aV _ _ _ _ _ _ _ _ _ (@kH _ rfl) rfl T.n_all iK (aA (@cA _ _ _ _ _ _ _ _ _ _ _ ["condition", "level", "wet", "day"] 1 [1, 2, 3] rfl (@bM _ _ _ _ (@aY _ _ _ _ _ _ _ (@aQ _ (K) rfl) (pv 0) aE (fun _ _ => rfl))) (fun R => @aO _ _ (0) _ (show List.Nodup (["condition", "level", "wet", "day"] : List Str) by decide +kernel) rfl (Or.inl rfl) (by trivial)) (@aZ _ _ (by decide)) (fun R => cI) (fun R => (@bO _ _ _ _ _ _ _ _ _ _ G_p_condition_holds (hr.mono (by decide)) (aA (pv 0) (aA (pv 1) (aA (pv 2) (aA (pv 3) aD)))) (by rfl) (by decide) (by rfl) (by rfl))) (by rfl) (by rfl) (by rfl) (by rfl) (by rfl) (by rfl) (by rfl) (by intro _; rfl)) aD) (by decide) (by decide) (by rfl) (by rfl)))), ?_⟩
 refine ⟨_, rfl, t, _, 2, .ref l, rfl, rfl, SqT.of o, aJ (j := 2) rfl, l, rfl, ⟨_, SqL.of ol⟩, ?_⟩
 refine bP (F := K) (xs := us) (by omega) (fun i ys H' => H' = H ∧ ys = (cs.take i).map fun c => V.bl (c.so lv ws dv)) ⟨rfl, rfl⟩ ?_ ?_ ?_
 ·rintro i ys H' hi' ⟨rfl, rfl⟩
  exact ⟨SqL.of ol, by rw [List.length_map, List.length_take]; omega⟩
 ·rintro i x ys H' K1 K2 hxi ⟨rfl, rfl⟩ k1 k2
  have hil : i < us.length := (List.getElem?_eq_some_iff.mp hxi).1
  obtain ⟨c, ec⟩ : ∃ c, cs[i]? = some c := ⟨_, List.getElem?_eq_getElem (by omega)⟩
  obtain ⟨v, ev, iv⟩ := hl.get (show (cs.map Cd.dv)[i]? = some c.dv by rw [List.getElem?_map, ec]; rfl)
  rw [hxi] at ev
  cases ev
  refine ⟨_, rfl, _, rfl, _, rfl, _, rfl, _, _, _, _, rfl, c, ws, lv, dv, b, iv, ok c (List.mem_of_getElem? ec), rfl, rfl, hb, rfl, k1 _ _ ⟨rfl, ?_⟩⟩
  rw [List.take_add_one, ec, List.map_append]
  rfl
 ·rintro ys H' ⟨rfl, rfl⟩
  intro p hp
  rw [List.take_of_length_le (by omega)]
  refine ⟨p, cs.map (Cd.so lv ws dv), rfl, SqL.of ?_, ?_⟩
  ·rw [aB, List.map_map]
   rfl
  ·rw [List.all_map]
   exact eD.of (iX.lst hp) q
theorem aIO {zs : List Str} {d : Dv} (h : iH zs d = true) : ∃ c : Cd, d = c.dv ∧ c.ok := by
 unfold iH at h
 split at h
 ·rename_i a
  cases a with
  | str z =>
   have := List.mem_singleton.mp (of_decide_eq_true (show decide (z ∈ (["always"] : List Str)) = true from h))
   subst this
   exact ⟨.always, rfl, trivial⟩
  | _ => cases h
 ·rename_i a b c
  rw [Bool.and_eq_true] at h
  cases a with
  | str z =>
   have := List.mem_singleton.mp (of_decide_eq_true (show decide (z ∈ (["day"] : List Str)) = true from h.1))
   subst this
   have h2 := h.2
   unfold vL at h2
   split at h2
   ·rename_i n m
    rw [Bool.and_eq_true, Bool.and_eq_true, Bool.and_eq_true] at h2
    exact ⟨.day n m, rfl, of_decide_eq_true h2.2.1, of_decide_eq_true h2.2.2⟩
   ·cases h2
  | _ => cases h.1
 ·rename_i a b
  cases a with
  | str z =>
   cases e : bZ ["above", "below"] (.str z) with
   | true =>
    rw [e] at h
    have hb : eN b = true := h
    cases b with
    | int i =>
     have m := of_decide_eq_true (show decide (z ∈ (["above", "below"] : List Str)) = true from e)
     rcases List.mem_cons.mp m with rfl | m
     ·exact ⟨.above i, rfl, trivial⟩
     ·have := List.mem_singleton.mp m
      subst this
      exact ⟨.below i, rfl, trivial⟩
    | _ => cases hb
   | false =>
    rw [e] at h
    have h' : (bZ ["wet", "dry"] (.str z) && bZ zs b) = true := h
    rw [Bool.and_eq_true] at h'
    cases b with
    | str y =>
     have m := of_decide_eq_true (show decide (z ∈ (["wet", "dry"] : List Str)) = true from h'.1)
     rcases List.mem_cons.mp m with rfl | m
     ·exact ⟨.wet y, rfl, trivial⟩
     ·have := List.mem_singleton.mp m
      subst this
      exact ⟨.dry y, rfl, trivial⟩
    | _ => cases h'.2
  | _ => cases h
 ·cases h
theorem zB {zs : List Str} : ∀ {cs : List Dv}, (∀ c ∈ cs, iH zs c = true) → ∃ ks : List Cd, cs = ks.map Cd.dv ∧ aCJ ks
 | [], _ => ⟨[], rfl, fun c m => by cases m⟩
 | c :: cs, h => by
  obtain ⟨k, e, ok⟩ := aIO (h c List.mem_cons_self)
  obtain ⟨ks, es, oks⟩ := zB fun d m => h d (List.mem_cons_of_mem _ m)
  refine ⟨k :: ks, by rw [e, es]; rfl, fun d m => ?_⟩
  rcases List.mem_cons.mp m with rfl | m
  ·exact ok
  ·exact oks d m
abbrev Dk := Str × Str × List Cd
def dkD (x : Dk) : Dv := aKR x.1 x.2.1 x.2.2
def xR (lv : Int) (ws : List Str) (dy : Int) (st : Str → Bool) (x : Dk) : Str → Bool :=
 if x.2.2.all (Cd.so lv ws dy) then fun z => if z = x.2.1 then decide (x.1 = "open") else st z else st
def iL (lv : Int) (ws : List Str) (dy : Int) (xs : List Dk) (st : Str → Bool) : Str → Bool := xs.foldl (xR lv ws dy) st
def inS (op : List Str) : Str → Bool := fun z => decide (z ∈ op)
def yG (lv : Int) (ws : List Str) (dy : Int) (gs op : List Str) (xs : List Dk) : List Str := gs.filter (iL lv ws dy xs (inS op))
theorem zH {lv : Int} {ws : List Str} {dy : Int} {xs : List Dk} {x : Dk} {st : Str → Bool} : iL lv ws dy (xs ++ [x]) st = xR lv ws dy (iL lv ws dy xs st) x := by
 unfold iL
 rw [List.foldl_append]
 rfl
def kW (gs : List Str) (st : Str → Bool) : List (Key × V) := gs.map fun z => (Sum.inr z, V.bl (st z))
theorem lM (gs : List Str) (st : Str → Bool) : (kW gs st).length = gs.length := List.length_map _
theorem aGM {gs : List Str} {st : Str → Bool} {z : Str} (m : z ∈ gs) : dG (kW gs st) (Sum.inr z) = some (.bl (st z)) := by
 induction gs with
 | nil => cases m
 | cons a r ih =>
  show dG ((Sum.inr a, V.bl (st a)) :: kW r st) (Sum.inr z) = _
  by_cases h : a = z
  ·subst h
   exact dE rfl
  ·rw [dF (fun e => h (Sum.inr.inj e))]
   rcases List.mem_cons.mp m with e | m'
   ·exact absurd e.symm h
   ·exact ih m'
theorem aGN {gs : List Str} {st : Str → Bool} {g : Str} {b : Bool} (m : g ∈ gs) : iB (kW gs st) (Sum.inr g) (.bl b) = kW gs fun z => if z = g then b else st z := by
 unfold iB
 have : ((kW gs st).any fun kv => decide (kv.1 = Sum.inr g)) = true := by
  rw [List.any_eq_true]
  exact ⟨(Sum.inr g, .bl (st g)), List.mem_map.mpr ⟨g, m, rfl⟩, decide_eq_true rfl⟩
 rw [if_pos this]
 unfold kW
 rw [List.map_map]
 refine List.map_congr_left fun z _ => ?_
 show (if (Sum.inr z : Key) = Sum.inr g then (Sum.inr z, V.bl b) else (Sum.inr z, V.bl (st z))) = (Sum.inr z, V.bl (if z = g then b else st z))
 by_cases h : z = g
 ·rw [if_pos (by rw [h]), if_pos h]
 ·rw [if_neg (fun e => h (Sum.inr.inj e)), if_neg h]
def wK (C : Addr) : Sp := sp2 fun x y H Q => ∃ (p : Addr) (fs ds : List Dv) (d : Dv), x = .ref p ∧ LandAt C H p fs ds ∧ Is H d y ∧ dR d = true ∧ nX ((ds.filter bC).map aK) (fs.map aK) d = true ∧ ∀ H', aI H H' → Q .non H'
theorem kC (T : Txt K mg C) : Fc P w K mg base 6 "check_decrees" ["land", "thing"] (wK C) := by
 have G_p_are_decrees : Fc P w K mg base 5 "are_decrees" ["land", "thing"] (aEZ C) := pY T
 refine T.d_p_check_decrees.fc oJ jH (fun f cdv A outer s H vs Q E hr h => ?_)
 obtain ⟨x, y, rfl, p, fs, ds, d, rfl, L, hd, sd, ok, q⟩ := h
 refine ⟨_, (aH (@cE _ _ _ _ _ _ _ _ (@dP _ _ _ _ (@cN _ _ _ (@bO _ _ _ _ _ _ _ _ _ _ G_p_are_decrees (hr.mono (by decide)) (aA (pv 0) (aA (pv 1) aD)) (by rfl) (by decide) (by rfl) (by rfl)) (by intro _; rfl))) (aH mV) bE)), ?_⟩
 refine ⟨_, rfl, _, rfl, _, _, rfl, p, fs, ds, d, rfl, L, hd, sd, fun H1 S1 => ⟨_, rfl, ?_⟩⟩
 rw [ok]
 exact bF (q H1 S1)
def sp6 (f : V → V → V → V → V → V → Hp → VK → Prop) : Sp := fun vs H Q _ => ∃ x y z u w' r, vs = [x, y, z, u, w', r] ∧ f x y z u w' r H Q
theorem aNN {f : V → V → V → V → V → V → Hp → VK → Prop} : ∀ vs H Q E, sp6 f vs H Q E → vs.length = 6 := fun vs H Q E ⟨x, y, z, u, w', r, e, _⟩ => by rw [e]; rfl
structure Decs (H : Hp) (l : Addr) (gs zs : List Str) (xs : List Dk) : Prop where
 ex : ∃ vs, H l = some (.lst vs) ∧ IsL H (xs.map dkD) vs
 ok : ∀ x ∈ xs, GoodX gs zs (dkD x)
 cd : ∀ x ∈ xs, aCJ x.2.2 ∧ x.2.2.length ≤ 6 ∧ x.2.1 ∈ gs
theorem Decs.same {H H' : Hp} (S : aI H H') {l : Addr} {gs zs : List Str} {xs : List Dk} (h : Decs H l gs zs xs) : Decs H' l gs zs xs := by
 obtain ⟨vs, e, i⟩ := h.ex
 exact ⟨⟨vs, S _ _ e, IsL.same S _ _ i⟩, h.ok, h.cd⟩
theorem vT {gs zs : List Str} {xs : List Dk} (h : ∀ x ∈ xs, GoodX gs zs (dkD x)) (hl : xs.length ≤ 60) : nX gs zs (.lst (xs.map dkD)) = true := by
 show (decide ((xs.map dkD).length ≤ 60) && (xs.map dkD).all (oB gs zs)) = true
 rw [decide_eq_true (by rw [List.length_map]; exact hl), List.all_eq_true.mpr fun d m => by obtain ⟨x, mx, rfl⟩ := List.mem_map.mp m; exact (h x mx).ok]
 rfl
theorem aCF {gs zs : List Str} {xs : List Dk} (h : ∀ x ∈ xs, GoodX gs zs (dkD x)) (hl : xs.length ≤ 1000) : dR (.lst (xs.map dkD)) = true := by
 show (decide ((xs.map dkD).length ≤ 1000) && fV (xs.map dkD)) = true
 rw [decide_eq_true (by rw [List.length_map]; exact hl), nN fun d m => by obtain ⟨x, mx, rfl⟩ := List.mem_map.mp m; exact (h x mx).sm]
 rfl
theorem aGQ {ds : List Dv} (h : (ds.map aK).Nodup) : ((ds.filter bC).map aK).Nodup := h.sublist (List.Sublist.map _ List.filter_sublist)
def xT (C : Addr) : Sp := sp6 fun x y z u w' r H Q => ∃ (p l lo lw : Addr) (fs ds : List Dv) (xs : List Dk) (op ws : List Str) (lv dy : Int), x = .ref p ∧ LandAt C H p fs ds ∧ y = .ref l ∧ Decs H l ((ds.filter bC).map aK) (fs.map aK) xs ∧ xs.length ≤ 60 ∧
 z = .ref lo ∧ H lo = some (.lst (op.map V.str)) ∧ op.length ≤ 1000 ∧ (∀ z ∈ op, z ∈ (ds.filter bC).map aK) ∧ u = .int lv ∧ w' = .ref lw ∧ H lw = some (.lst (ws.map V.str)) ∧ r = .int dy ∧
 ∀ (l' : Addr) (H' : Hp), aI H H' → H l' = none → H' l' = some (.lst ((yG lv ws dy ((ds.filter bC).map aK) op xs).map V.str)) → Q (.ref l') H'
theorem tD (T : Txt K mg C) : Fc P w K mg base 7 "opened_by" ["land", "decrees", "opened", "level", "wet", "day"] (xT C) := by
 have G_p_check_decrees : Fc P w K mg base 6 "check_decrees" ["land", "thing"] (wK C) := kC T
 have G_p_check_sluices : Fc P w K mg base 3 "check_sluices" ["land", "thing"] (sE C) := kB T
 have G_land_p_sluices : Mc P w K mg base 2 C "sluices" ["self"] (kR C fun _ ds => (ds.filter bC).map aK) := hZ T
 have G_p_holds : Fc P w K mg base 2 "holds" ["decree", "level", "wet", "day"] (aBQ K) := zV T
 refine T.d_p_opened_by.fc jR aNN (fun f cdv A outer s H vs Q E hr h => ?_)
 obtain ⟨x, y, z, u, w', r, rfl, p, l, lo, lw, fs, ds, xs, op, ws, lv, dy, rfl, L, rfl, dc, l60, rfl, hlo, lop, sub, rfl, rfl, hlw, rfl, q⟩ := h
 have big := bT
 have hu := kF hr
 obtain ⟨vs, hl, il⟩ := dc.ex
 have lvs := il.length
 rw [List.length_map] at lvs
 have nd := aGQ (bY L).2.nd
 have lgs : ((ds.filter bC).map aK).length ≤ 40 := by
  rw [List.length_map]
  exact Nat.le_trans (List.length_filter_le _ _) (bY L).2.l2
 generalize hgs : (ds.filter bC).map aK = gs at *
 refine ⟨_, (aG (@fR _ _ _ _ (@bO _ _ _ _ _ _ _ _ _ _ G_p_check_decrees (hr.mono (by decide)) (aA (pv 0) (aA (pv 1) aD)) (by rfl) (by decide) (by rfl) (by rfl)) (by rfl)) (aG (@fR _ _ _ _ (@bO _ _ _ _ _ _ _ _ _ _ G_p_check_sluices (hr.mono (by decide)) (aA (pv 0) (aA (pv 2) aD)) (by rfl) (by decide) (by rfl) (by rfl)) (by rfl)) (aG (@aS _ _ (6) _ _ _ _ jR.nd rfl (Or.inr rfl) (@cL _ _ _ _ _ _ _ _ _ (@cZ _ rfl) rfl T.n_dict gW (aA (@cA _ _ _ _ _ _ _ _ _ _ _ ["name", "opened"] 1 [2] rfl (@bM _ _ _ _ (@jD _ _ _ _ _ _ _ _ _ _ _ T.cl_Land G_land_p_sluices (hr.mono (by decide)) (pv 0) (by rfl))) (fun R => @aO _ _ (0) _ (show List.Nodup (["name", "opened"] : List Str) by decide +kernel) rfl (Or.inl rfl) (by trivial)) (@aZ _ _ (by decide)) (fun R => cI) (fun R => (@cO _ _ _ _ _ (aA (pv 0) (aA (@bX _ _ _ _ _ _ _ _ (@eB _ (K) rfl) (pv 0) (pv 1) (by with_unfolding_all rfl)) aD)))) (by rfl) (by rfl) (by rfl) (by rfl) (by rfl) (by rfl) (by rfl) (by intro _; rfl)) aD) (by decide) (by decide) (by rfl) (by rfl)) (by rfl) (by trivial)) (aG (@eY _ _ _ _ _ _ _ _ PassesOwn.never rfl (@bM _ _ _ _ (pv 1)) (@aO _ _ (7) _ jR.nd rfl (Or.inl rfl) (by trivial)) (aH (@cE _ _ _ _ _ _ _ _ (@cN _ _ _ (@bO _ _ _ _ _ _ _ _ _ _ G_p_holds (hr.mono (by decide)) (aA (pv 7) (aA (pv 3) (aA (pv 4) (aA (pv 5) aD)))) (by rfl) (by decide) (by rfl) (by rfl)) (by intro _; rfl)) (aH (@pI _ _ _ _ _ _ _ _ _ hu (pv 6) (@aY _ _ _ _ _ _ _ (@aQ _ (K) rfl) (pv 7) aE (fun _ _ => rfl)) (@bX _ _ _ _ _ _ _ _ iV (@aY _ _ _ _ _ _ _ (@aQ _ (K) rfl) (pv 7) aE (fun _ _ => rfl)) cJ (@bB _ _ (by decide) (by decide))) rfl)) bE)) (by intro _; rfl)) (aH (@aR _ _ _ _ (@cA _ _ _ _ _ _ _ _ _ _ _ ["name", "stand_open"] 1 [6] rfl (@rS _ _ _ _ (pv 6)) (fun R => @aO _ _ (0) _ (show List.Nodup (["name", "stand_open"] : List Str) by decide +kernel) rfl (Or.inl rfl) (by trivial)) (@aZ _ _ (by decide)) (fun R => @gJ _ _ _ (@cN _ _ _ (@eQ _ _ _ _ _ _ hu (pv 1) (pv 0) (fun _ _ => rfl)) (by intro _; rfl))) (fun R => (pv 0)) (by rfl) (by rfl) (by rfl) (by rfl) (by rfl) (by rfl) (by rfl) (by intro _; rfl)))))))), ?_⟩
 refine ⟨_, rfl, _, rfl, _, _, rfl, p, fs, ds, .lst (xs.map dkD), rfl, L, ⟨l, vs, rfl, hl, il⟩, aCF dc.ok (by omega), by rw [hgs]; exact vT dc.ok l60, fun H1 S1 => ?_⟩
 refine ⟨_, rfl, _, rfl, _, _, rfl, p, lo, fs, ds, op, rfl, L.same S1, rfl, S1 _ _ hlo, lop, by rw [hgs]; exact sub, fun H2 S2 => ?_⟩
 have T2 := S1.trans S2
 obtain ⟨dx, d1, d2, hx, _⟩ := (L.same T2).ex
 refine ⟨_, rfl, p, dx, _, rfl, hx, dL _ _ (by decide +kernel) (by decide +kernel), _, rfl, p, fs, ds, rfl, L.same T2, fun ls H3 S3 fls hls => ?_⟩
 have hls : H3 ls = some (.lst (gs.map V.str)) := by rw [← hgs]; exact hls
 have T3 := T2.trans S3
 refine ⟨ls, rfl, ⟨_, SqL.of hls⟩, ?_⟩
 refine bP (F := K) (xs := gs.map V.str) (by rw [List.length_map]; omega) (fun i ys H' => aI H3 H' ∧ bV H' ys ((kW gs (inS op)).take i)) ⟨aI.refl _, bV.nil _⟩ ?_ ?_ ?_
 ·rintro i ys H' hi' ⟨S, pr⟩
  exact ⟨SqL.of (S _ _ hls), by have := pr.len; rw [List.length_take] at this; omega⟩
 ·rintro i xv ys H' K1 K2 hxi ⟨S, pr⟩ k1 k2
  obtain ⟨z, ez⟩ : ∃ z, gs[i]? = some z := by
   have := (List.getElem?_eq_some_iff.mp hxi).1
   rw [List.length_map] at this
   exact ⟨_, List.getElem?_eq_getElem this⟩
  rw [List.getElem?_map, ez] at hxi
  cases hxi
  refine ⟨_, rfl, _, rfl, _, rfl, lo, _, rfl, .inl (SqL.of ((T3.trans S) _ _ hlo)), rfl, cQ op, ?_⟩
  rw [eS]
  refine ⟨aN rfl, fun t ht => k1 _ _ ⟨S.trans (aI.upd ht), ?_⟩⟩
  have e : (kW gs (inS op))[i]? = some (Sum.inr z, .bl (decide (z ∈ op))) := by
   unfold kW
   rw [List.getElem?_map, ez]
   rfl
  rw [List.take_add_one, e]
  exact pr.snoc (k := Sum.inr z) ht
 rintro ys H4 ⟨S4, pr⟩
 rw [List.length_map, List.take_of_length_le (by rw [lM]; exact Nat.le_refl _)] at pr
 intro p4 hp4
 have S5 := aI.upd (o := .lst ys) hp4
 refine ⟨p4, ys, kW gs (inS op), rfl, SqL.of aB, pr.same S5, by rw [lM]; omega, ?_, fun d hd => ?_⟩
 ·have e : (kW gs (inS op)).map (·.1) = gs.map (Sum.inr : Str → Key) := by unfold kW; rw [List.map_map]; rfl
  rw [e, jK]
  exact nd
 have T5 := T3.trans (S4.trans S5)
 have fd : H d = none := T5.free hd
 have S6 := aI.upd (o := .dK (kW gs (inS op))) hd
 have T6 := T5.trans S6
 have hd6 : upd (upd H4 p4 (.lst ys)) d (.dK (kW gs (inS op))) d = some (.dK (kW gs (inS op))) := aB
 generalize upd (upd H4 p4 (.lst ys)) d (.dK (kW gs (inS op))) = H6 at T6 hd6
 clear S6 T5 S5 pr S4 T3 S3 hls hx T2 S2 S1 hd hp4
 refine ⟨_, rfl, l, rfl, ⟨_, SqL.of (T6 _ _ hl)⟩, ?_⟩
 refine fO (K := K) (a := l) (xs := vs) (fun i σ H' => ∃ v7, σ = [some (.ref p), some (.ref l), some (.ref lo), some (.int lv), some (.ref lw), some (.int dy), some (.ref d), v7] ∧ H' d = some (.dK (kW gs (iL lv ws dy (xs.take i) (inS op)))) ∧ aI H H')
  ⟨_, rfl, hd6, T6⟩ (fun i σ H' _ ⟨_, _, _, S⟩ => SqL.of (S _ _ hl)) ?_ ?_
 ·rintro i xv σ H' hxi ⟨v7, rfl, hd', S⟩
  have hil : i < vs.length := (List.getElem?_eq_some_iff.mp hxi).1
  obtain ⟨x, ex⟩ : ∃ x, xs[i]? = some x := ⟨_, List.getElem?_eq_getElem (by omega)⟩
  obtain ⟨v, ev, iv0⟩ := il.get (show (xs.map dkD)[i]? = some (dkD x) by rw [List.getElem?_map, ex]; rfl)
  rw [hxi] at ev
  cases ev
  have iv := Is.same S _ _ iv0
  obtain ⟨okc, l6, mg'⟩ := dc.cd x (List.mem_of_getElem? ex)
  obtain ⟨a, g, ks⟩ := x
  obtain ⟨t, lc, us, rfl, o, _, _⟩ := aAO iv
  refine ⟨_, rfl, _, rfl, _, rfl, _, rfl, _, _, _, _, rfl, a, g, ks, ws, lv, dy, lw, iv, okc, l6, rfl, rfl, S _ _ hlw, rfl, _, rfl, ?_⟩
  have es : iL lv ws dy (xs.take (i + 1)) (inS op) = xR lv ws dy (iL lv ws dy (xs.take i) (inS op)) (a, g, ks) := by
   rw [List.take_add_one, ex]
   exact zH
  cases hh : ks.all (Cd.so lv ws dy) with
  | false =>
   refine bF ⟨_, rfl, ?_, S⟩
   rw [es]
   unfold xR
   rw [if_neg (by show ¬ ks.all (Cd.so lv ws dy) = true; rw [hh]; exact Bool.false_ne_true)]
   exact hd'
  | true =>
   refine bU ⟨_, rfl, t, _, 0, .str a, rfl, rfl, SqT.of o, aJ (j := 0) rfl, rfl, _, rfl, _, rfl, t, _, 1, .str g, rfl, rfl, SqT.of o, aJ (j := 1) rfl, d, _, rfl, aAX.k (k := Sum.inr g) hd' (by rw [lM]; omega), ?_⟩
   refine ⟨_, rfl, ?_, S.over fd⟩
   rw [aB, es]
   have e2 : decide (V.str a = V.str "open") = decide (a = "open") := by
    rw [Bool.eq_iff_iff, decide_eq_true_iff, decide_eq_true_iff]
    exact ⟨fun h => V.str.inj h, fun h => by rw [h]⟩
   rw [e2, aGN mg']
   unfold xR
   rw [if_pos (show ks.all (Cd.so lv ws dy) = true from hh)]
 rintro σ H7 ⟨v7, rfl, hd7, S7⟩
 rw [List.take_of_length_le (by omega)] at hd7
 refine ⟨_, rfl, d, _, rfl, hd7, fun o => ?_⟩
 have S8 : aI H (upd H7 d (.frz o (.dK (kW gs (iL lv ws dy xs (inS op)))))) := S7.over fd
 refine nV (by rw [lM]; omega) (fun i ys H' => upd H7 d (.frz o (.dK (kW gs (iL lv ws dy xs (inS op))))) = H' ∧ ys = ((gs.take i).filter (iL lv ws dy xs (inS op))).map V.str) ⟨rfl, rfl⟩ ?_ ?_ ?_
 ·rintro i ys H' hi' ⟨rfl, rfl⟩
  refine ⟨aB, ?_⟩
  rw [List.length_map]
  have := List.length_filter_le (iL lv ws dy xs (inS op)) (gs.take i)
  rw [List.length_take] at this
  omega
 ·rintro i kv ys H' K1 K2 hk ⟨rfl, rfl⟩ k1 k2
  obtain ⟨z, ez⟩ : ∃ z, gs[i]? = some z := by
   have := (List.getElem?_eq_some_iff.mp hk).1
   rw [lM] at this
   exact ⟨_, List.getElem?_eq_getElem this⟩
  unfold kW at hk
  rw [List.getElem?_map, ez] at hk
  cases hk
  have mz := List.mem_of_getElem? ez
  refine ⟨_, rfl, _, rfl, d, .bl (iL lv ws dy xs (inS op) z), rfl, .inl ⟨_, Sum.inr z, .inr ⟨o, aB⟩, rfl, (aGM mz).symm⟩, _, rfl, ?_⟩
  cases hz : iL lv ws dy xs (inS op) z with
  | false =>
   refine bF (k2 _ ⟨rfl, ?_⟩)
   rw [List.take_add_one, ez, List.filter_append]
   show _ = ((_ ++ [z].filter _).map V.str)
   rw [List.filter_cons_of_neg (by rw [hz]; exact Bool.false_ne_true), List.filter_nil, List.append_nil]
  | true =>
   refine bU ⟨_, rfl, k1 _ _ ⟨rfl, ?_⟩⟩
   rw [List.take_add_one, ez, List.filter_append]
   show _ = ((_ ++ [z].filter _).map V.str)
   rw [List.filter_cons_of_pos (by exact hz), List.filter_nil, List.map_append]
   rfl
 ·rintro ys H' ⟨rfl, rfl⟩
  rw [lM, List.take_of_length_le (Nat.le_refl _)]
  intro l' hl'
  exact q l' _ (S8.trans (aI.upd hl')) (S8.free hl') aB
open Mt22 MtF Mt31
def CV (H : Hp) (o : Option Mt22.St) (v : V) : Prop := match o with
 | none => v = .non
 | some s => Is H (dB s) v
theorem CV.same {H H' : Hp} (S : aI H H') {o : Option Mt22.St} {v : V} (h : CV H o v) : CV H' o v := by
 cases o with
 | none => exact h
 | some s => exact Is.same S _ _ h
theorem CV.keep {H H' : Hp} (S : kI H H') {o : Option Mt22.St} {v : V} (h : CV H o v) : CV H' o v := by
 cases o with
 | none => exact h
 | some s => exact Is.keep S _ _ (pS s) h
structure CamKV (H : Hp) (kvs : List (Key × V)) (cm : Cm) : Prop where
 len : kvs.length = cm.length
 at' : ∀ (i : Nat) (z : Str) (o : Option Mt22.St), cm[i]? = some (z, o) → ∃ v, kvs[i]? = some (Sum.inr z, v) ∧ CV H o v
theorem CamKV.keys {H : Hp} {kvs : List (Key × V)} {cm : Cm} (h : CamKV H kvs cm) : kvs.map (·.1) = (Mt31.keys cm).map Sum.inr := by
 apply List.ext_getElem?
 intro i
 unfold Mt31.keys
 rw [List.getElem?_map, List.getElem?_map, List.getElem?_map]
 cases e : cm[i]? with
 | none =>
  rw [List.getElem?_eq_none_iff] at e
  rw [List.getElem?_eq_none (by rw [h.len]; exact e)]
  rfl
 | some x =>
  obtain ⟨z, o⟩ := x
  obtain ⟨v, ev, _⟩ := h.at' i z o e
  rw [ev]
  rfl
theorem CamKV.keep {H H' : Hp} (S : kI H H') {kvs : List (Key × V)} {cm : Cm} (h : CamKV H kvs cm) : CamKV H' kvs cm :=
 ⟨h.len, fun i z o e => by obtain ⟨v, e1, c⟩ := h.at' i z o e; exact ⟨v, e1, c.keep S⟩⟩
theorem xN {κ : Type} [DecidableEq κ] : ∀ {kvs : List (κ × V)} {i : Nat} {k : κ} {v : V}, (kvs.map (·.1)).Nodup → kvs[i]? = some (k, v) → dG kvs k = some v
 | p :: r, 0, k, v, nd, e => by cases e; exact dE rfl
 | p :: r, i + 1, k, v, nd, e => by
  rw [List.map_cons, List.nodup_cons] at nd
  have e' : r[i]? = some (k, v) := e
  rw [dF (fun c => nd.1 (by rw [c]; exact List.mem_map.mpr ⟨_, List.mem_of_getElem? e', rfl⟩))]
  exact xN nd.2 e'
theorem zX {zs : List Str} (h : zs.Nodup) : (zs.map (Sum.inr : Str → Key)).Nodup := (jK zs).mpr h
theorem CamKV.val {H : Hp} {S : List Mt22.St} {kvs : List (Key × V)} {cm : Cm} (h : CamKV H kvs cm) (c : Came S cm) {i : Nat} {z : Str} {o : Option Mt22.St} (e : cm[i]? = some (z, o)) : ∃ v, dG kvs (Sum.inr z) = some v ∧ CV H o v := by
 obtain ⟨v, ev, cv⟩ := h.at' i z o e
 exact ⟨v, xN (by rw [h.keys]; exact zX c.nd) ev, cv⟩
theorem CamKV.none {H : Hp} {kvs : List (Key × V)} {cm : Cm} (h : CamKV H kvs cm) {z : Str} (n : ¬ z ∈ Mt31.keys cm) : dG kvs (Sum.inr z) = none := by
 cases e : dG kvs (Sum.inr z) with
 | none => rfl
 | some v =>
  have := aBB e
  rw [h.keys] at this
  obtain ⟨y, my, ey⟩ := List.mem_map.mp this
  cases ey
  exact absurd my n
theorem CamKV.some {H : Hp} {kvs : List (Key × V)} {cm : Cm} (h : CamKV H kvs cm) {z : Str} (n : z ∈ Mt31.keys cm) : (dG kvs (Sum.inr z)).isSome = true := by
 cases e : dG kvs (Sum.inr z) with
 | some v => rfl
 | none =>
  have := aEH e
  rw [h.keys] at this
  exact absurd (List.mem_map.mpr ⟨z, n, rfl⟩) this
theorem aNQ (x : V) (r : List V) : seqIndex? 0 (x :: r).length = some 0 := by
 rw [List.length_cons]
 unfold seqIndex?
 simp
 try omega
theorem oY {H : Hp} {s : Mt22.St} {v : V} (h : Is H (dB s) v) : ∃ t, v = .ref t ∧ H t = some (.tup [.str s.nm, .str s.near, .str s.far, .int s.h]) := by
 obtain ⟨t, us, rfl, o, v0, r0, rfl, i0, v1, r1, rfl, i1, v2, r2, rfl, i2, v3, r3, rfl, i3, h0⟩ := h
 cases (show r3 = [] from h0)
 cases (show v0 = _ from i0)
 cases (show v1 = _ from i1)
 cases (show v2 = _ from i2)
 cases (show v3 = _ from i3)
 exact ⟨t, rfl, o⟩
theorem jI (a b : Str) : decide (V.str a = V.str b) = decide (a = b) := by
 by_cases h : a = b
 ·subst h; simp
 ·rw [decide_eq_false h, decide_eq_false (fun c => h (by cases c; rfl))]
def xS : Sp := sp2 fun x y H Q => ∃ (ls lt : Addr) (us : List V) (S : List Mt22.St) (V0 : List Str), x = .ref ls ∧ y = .ref lt ∧ H ls = some (.lst [.str "sea"]) ∧ H lt = some (.lst us) ∧ IsL H (S.map dB) us ∧ S.length ≤ 80 ∧ V0.length ≤ 13 ∧ Mt22.sea ∈ V0 ∧ (∀ s ∈ S, s.far ∈ V0) ∧
 ∀ (d : Addr) (cm : Cm) (kvs : List (Key × V)) (H' : Hp), aI H H' → H d = none → H' d = some (.dK kvs) → CamKV H' kvs cm → Came S cm → aAW S cm cm.length → cm.length ≤ 13 → Q (.ref d) H'
theorem yI (T : Txt K mg C) : Fc P w K mg base 1 "spread" ["starts", "steps"] xS := by
 refine T.d_p_spread.fc iP jH (fun f cdv A outer s H vs Q E hr h => ?_)
 obtain ⟨x, y, rfl, ls, lt, us, S, V0, rfl, rfl, hls, hlt, ius, lS, lV, sV, farV, q⟩ := h
 have big := bT
 have hu := kF hr
 have lus := ius.length
 rw [List.length_map] at lus
 have lcm : ∀ cm : Cm, Came S cm → (∀ z ∈ keys cm, z ∈ V0) → cm.length ≤ 13 := fun cm c sub => by
  have := aAD c.nd sub
  unfold keys at this
  rw [List.length_map] at this
  omega
 refine ⟨_, (aG (@aS _ _ (2) _ _ _ _ iP.nd rfl (Or.inl rfl) (@cL _ _ _ _ _ _ _ _ _ (@cZ _ rfl) rfl T.n_dict gW (aA (@cA _ _ _ _ _ _ _ _ _ _ _ ["side"] 1 [] rfl (@bM _ _ _ _ (pv 0)) (fun R => @aO _ _ (0) _ (show List.Nodup (["side"] : List Str) by decide +kernel) rfl (Or.inl rfl) (by trivial)) (@aZ _ _ (by decide)) (fun R => cI) (fun R => (@cO _ _ _ _ _ (aA (pv 0) (aA eZ aD)))) (by rfl) (by rfl) (by rfl) (by rfl) (by rfl) (by rfl) (by rfl) (by intro _; rfl)) aD) (by decide) (by decide) (by rfl) (by rfl)) (by rfl) (by trivial)) (aG (@aS _ _ (3) _ _ _ _ iP.nd rfl (Or.inl rfl) (@cL _ _ _ _ _ _ _ _ _ (@iO _ (K) rfl) rfl T.n_list eC (aA (pv 0) aD) (by decide) (by decide) (by rfl) (by rfl)) (by rfl) (by trivial)) (aG (@yE _ _ _ _ _ _ PassesOwn.never (aKB (pv 3)) (aG (@aS _ _ (4) _ _ _ _ iP.nd rfl (Or.inl rfl) (@mY _ _ _ _ _ _ _ _ _ _ _ _ PySem.F.plainAttrs_list PySem.F.slot_list_pop PySem.F.type_list_pop aFW (pv 3) (aA aE aD) (by rfl) (by rfl) (by rfl) (by rfl) (by rfl)) (by rfl) (by trivial)) (aH (@eY _ _ _ _ _ _ _ _ PassesOwn.never rfl (@bM _ _ _ _ (pv 1)) (@aO _ _ (5) _ iP.nd rfl (Or.inl rfl) (by trivial)) (aH (@cE _ _ _ _ _ _ _ _ (@PW.pt _ _ _ (@oM _ _ _ _ _ _ _ (@bD _ _ _ _ _ _ _ _ iV (@aY _ _ _ _ _ _ _ (@aQ _ (K) rfl) (pv 5) aE (fun _ _ => rfl)) (pv 4) (@bB _ _ (by decide) (by decide))) (@lT _ _ _ _ (@aFL _ _ _ _ _ _ (@aDD _ _ _ _ _ hu (@aY _ _ _ _ _ _ _ (@aQ _ (K) rfl) (pv 5) aE (fun _ _ => rfl)) (pv 2)) (by first | exact nobehind _ (by decide) (by decide) | rfl))))) (aG (@pI _ _ _ _ _ _ _ _ _ hu (pv 2) (@aY _ _ _ _ _ _ _ (@aQ _ (K) rfl) (pv 5) aE (fun _ _ => rfl)) (pv 5) rfl) (aH (@fR _ _ _ _ (@mY _ _ _ _ _ _ _ _ _ _ _ _ PySem.F.plainAttrs_list PySem.F.slot_list_append PySem.F.type_list_append fT (pv 3) (aA (@aY _ _ _ _ _ _ _ (@aQ _ (K) rfl) (pv 5) aE (fun _ _ => rfl)) aD) (by rfl) (by rfl) (by rfl) (by rfl) (by rfl)) (by rfl)))) bE)) (by intro _; rfl))))) (aH (@aR _ _ _ _ (pv 2)))))), ?_⟩
 refine ⟨_, rfl, ls, rfl, ⟨_, SqL.of hls⟩, ?_⟩
 refine bP (F := K) (xs := [.str "sea"]) (by show 1 ≤ _; omega) (fun i ys H' => aI H H' ∧ bV H' ys (([(Sum.inr "sea", .non)] : List (Key × V)).take i)) ⟨aI.refl _, bV.nil _⟩ ?_ ?_ ?_
 ·rintro i ys H' hi' ⟨S', pa⟩
  have := pa.len
  rw [List.length_take] at this
  exact ⟨SqL.of (S' _ _ hls), by omega⟩
 ·rintro i xv ys H' K1 K2 hx' ⟨S', pa⟩ k1 k2
  have hil : i < 1 := (List.getElem?_eq_some_iff.mp hx').1
  have hi0 : i = 0 := by omega
  subst hi0
  cases hx'
  refine ⟨_, rfl, aN rfl, fun p3 hp3 => k1 _ _ ⟨S'.trans (aI.upd hp3), ?_⟩⟩
  exact bV.snoc (k := Sum.inr "sea") pa hp3
 rintro ys H1 ⟨S1, pa⟩
 intro p4 hp4
 have S2 := aI.upd (o := .lst ys) hp4
 refine ⟨p4, ys, [(Sum.inr "sea", .non)], rfl, SqL.of aB, pa.same S2, by show 1 ≤ 1000; decide, by simp, fun d hd => ?_⟩
 have S3 := aI.upd (o := .dK [(Sum.inr "sea", .non)]) hd
 have T3 := S1.trans (S2.trans S3)
 have hd0 := (S1.trans S2).free hd
 refine ⟨_, rfl, ls, _, rfl, .inl (SqL.of (T3 _ _ hls)), fun lw hlw => ?_⟩
 have S4 := aI.upd (o := .lst [.str "sea"]) hlw
 have T4 := T3.trans S4
 have hd4 : upd (upd (upd H1 p4 (.lst ys)) d (.dK [(Sum.inr "sea", .non)])) lw (.lst [.str "sea"]) d = some (.dK [(Sum.inr "sea", .non)]) := S4 _ _ aB
 have hw4 : upd (upd (upd H1 p4 (.lst ys)) d (.dK [(Sum.inr "sea", .non)])) lw (.lst [.str "sea"]) lw = some (.lst ((([Mt22.sea] : List Str)).map V.str)) := aB
 have hlw0 := T3.free hlw
 have ndw : d ≠ lw := bG (show upd (upd H1 p4 (.lst ys)) d (.dK [(Sum.inr "sea", .non)]) d = some _ from aB) hlw
 generalize upd (upd (upd H1 p4 (.lst ys)) d (.dK [(Sum.inr "sea", .non)])) lw (.lst [.str "sea"]) = H4 at T4 hd4 hw4
 have c0 : Came S [(Mt22.sea, none)] := ⟨by simp [keys], rfl, fun i z o hi e => by
  have := (List.getElem?_eq_some_iff.mp e).1
  have : ([(Mt22.sea, (none : Option Mt22.St))] : Cm).length = 1 := rfl
  omega⟩
 have k0 : CamKV H4 [(Sum.inr "sea", .non)] [(Mt22.sea, none)] := ⟨rfl, fun i z o e => by
  have hi : i < 1 := (List.getElem?_eq_some_iff.mp e).1
  have hi0 : i = 0 := by omega
  subst hi0
  cases e
  exact ⟨.non, rfl, rfl⟩⟩
 refine xJ (fun σ H' => ∃ (v4 v5 : Option V) (p : Nat) (cm : Cm) (kvs : List (Key × V)), σ = [some (.ref ls), some (.ref lt), some (.ref d), some (.ref lw), v4, v5] ∧ aI H H' ∧ H' d = some (.dK kvs) ∧ CamKV H' kvs cm ∧ Came S cm ∧ (∀ z ∈ keys cm, z ∈ V0) ∧ p ≤ cm.length ∧ H' lw = some (.lst (((keys cm).drop p).map V.str)) ∧ aAW S cm p)
  (fun _ H' => match H' d, H' lw with | some (.dK kvs), some (.lst ws) => 14 - (kvs.length - ws.length) | _, _ => 0) ⟨_, _, 0, [(Mt22.sea, none)], _, rfl, T4, hd4, k0, c0, (fun z m => by rw [show z = Mt22.sea by simpa [keys] using m]; exact sV), Nat.zero_le _, hw4, (fun i u hi => absurd hi (by omega))⟩ ?_ ?_
 ·rintro σ H5 ⟨v4, v5, p, cm, kvs, rfl, S5, hd5, ck, c, sub, hp, hw5, op⟩
  have l13 := lcm cm c sub
  refine ⟨_, rfl, lw, _, rfl, SqL.of hw5, ?_⟩
  have kl : (keys cm).length = cm.length := by unfold keys; rw [List.length_map]
  by_cases hpl : p < cm.length
  ·obtain ⟨u, eu⟩ : ∃ u, (keys cm)[p]? = some u := ⟨_, List.getElem?_eq_getElem (by omega)⟩
   have ed : (keys cm).drop p = u :: (keys cm).drop (p + 1) := by
    obtain ⟨h1, h2⟩ := List.getElem?_eq_some_iff.mp eu
    rw [← h2]
    exact (List.getElem_cons_drop h1).symm
   rw [ed] at hw5 ⊢
   refine bU ?_
   refine ⟨_, rfl, .inl ⟨rfl, _, SqL.of hw5⟩, lw, _, 0, 0, .str u, rfl, rfl, hw5, by decide, by decide, aNQ _ _, rfl, ?_⟩
   have hw6 : upd H5 lw (.lst (((u :: (keys cm).drop (p + 1)).map V.str).eraseIdx 0)) lw = some (.lst (((keys cm).drop (p + 1)).map V.str)) := aB
   have hd6 : upd H5 lw (.lst (((u :: (keys cm).drop (p + 1)).map V.str).eraseIdx 0)) d = some (.dK kvs) := by rw [aT ndw]; exact hd5
   have ck6 := ck.keep (kI.lst (o := .lst (((u :: (keys cm).drop (p + 1)).map V.str).eraseIdx 0)) hw5)
   have S6 : aI H (upd H5 lw (.lst (((u :: (keys cm).drop (p + 1)).map V.str).eraseIdx 0))) := S5.over hlw0
   generalize upd H5 lw (.lst (((u :: (keys cm).drop (p + 1)).map V.str).eraseIdx 0)) = H6 at hw6 hd6 ck6 S6
   refine ⟨_, rfl, lt, rfl, ⟨_, SqL.of (S6 _ _ hlt)⟩, fO (K := K) (a := lt) (xs := us)
    (fun j σ H' => ∃ (v5 : Option V) (more : Cm) (kvs : List (Key × V)), σ = [some (.ref ls), some (.ref lt), some (.ref d), some (.ref lw), some (.str u), v5] ∧ aI H H' ∧ H' d = some (.dK kvs) ∧ CamKV H' kvs (cm ++ more) ∧ Came S (cm ++ more) ∧ (∀ z ∈ keys (cm ++ more), z ∈ V0) ∧ H' lw = some (.lst (((keys (cm ++ more)).drop (p + 1)).map V.str)) ∧ aAW S (cm ++ more) p ∧ ∀ s ∈ S.take j, s.near = u → s.far ∈ keys (cm ++ more))
    ⟨_, [], kvs, rfl, S6, hd6, by rw [List.append_nil]; exact ck6, by rw [List.append_nil]; exact c, by rw [List.append_nil]; exact sub, by rw [List.append_nil]; exact hw6, by rw [List.append_nil]; exact op, (fun s m => by cases m)⟩ (fun j σ H' _ ⟨_, _, _, _, S', _⟩ => SqL.of (S' _ _ hlt)) ?_ ?_⟩
   ·rintro j xv σ H7 hj ⟨w5, more, kvs7, rfl, S7, hd7, ck7, c7, sub7, hw7, op7, cl7⟩
    have hjl : j < us.length := (List.getElem?_eq_some_iff.mp hj).1
    obtain ⟨st, es⟩ : ∃ st, S[j]? = some st := ⟨_, List.getElem?_eq_getElem (by omega)⟩
    obtain ⟨v, ev, iv⟩ := ius.get (show (S.map dB)[j]? = some (dB st) by rw [List.getElem?_map, es]; rfl)
    rw [hj] at ev
    cases ev
    have ms := List.mem_of_getElem? es
    obtain ⟨t, rfl, o⟩ := oY iv
    have o7 := S7 _ _ o
    have et : S.take (j + 1) = S.take j ++ [st] := by rw [List.take_add_one, es]; rfl
    have l7 := lcm _ c7 sub7
    have kl7 : (keys (cm ++ more)).length = (cm ++ more).length := by unfold keys; rw [List.length_map]
    have lw7 : (((keys (cm ++ more)).drop (p + 1)).map V.str).length ≤ 13 := by rw [List.length_map, List.length_drop]; omega
    have uk : u ∈ keys (cm ++ more) := by rw [lJ]; exact List.mem_append_left _ (List.mem_of_getElem? eu)
    refine ⟨_, rfl, t, _, 1, .str st.near, rfl, rfl, SqT.of o7, aJ (j := 1) rfl, _, rfl, rfl, _, rfl, ?_⟩
    rw [jI]
    refine kD (fun c1 => ?_) (fun c1 => ?_)
    ·have e1 : st.near = u := of_decide_eq_true c1
     refine ⟨_, rfl, t, _, 2, .str st.far, rfl, rfl, SqT.of o7, aJ (j := 2) rfl, _, rfl, d, _, rfl, .inl ⟨kvs7, Sum.inr st.far, .inl hd7, rfl, rfl⟩, _, rfl, ?_⟩
     by_cases hk : st.far ∈ keys (cm ++ more)
     ·rw [ck7.some hk]
      refine bF ⟨_, more, kvs7, rfl, S7, hd7, ck7, c7, sub7, hw7, op7, fun s m en => ?_⟩
      rw [et] at m
      rcases List.mem_append.mp m with m | m
      ·exact cl7 s m en
      ·rw [List.mem_singleton.mp m]; exact hk
     ·have hno := ck7.none hk
      rw [hno]
      refine bU ?_
      have lkv : kvs7.length < sizeLine := by rw [ck7.len]; omega
      refine ⟨_, rfl, _, rfl, _, rfl, t, _, 2, .str st.far, rfl, rfl, SqT.of o7, aJ (j := 2) rfl, d, _, rfl, .inl ⟨kvs7, Sum.inr st.far, hd7, rfl, lkv, rfl⟩, ?_⟩
      rw [yD _ hno]
      have KT1 : kI H7 (upd H7 d (.dK (kvs7 ++ [(Sum.inr st.far, .ref t)]))) := fun b ys e => by
       rw [aT (fun eb => by rw [eb, hd7] at e; cases e)]
       exact e
      have hw8 : upd H7 d (.dK (kvs7 ++ [(Sum.inr st.far, .ref t)])) lw = some (.lst (((keys (cm ++ more)).drop (p + 1)).map V.str)) := by rw [aT (Ne.symm ndw)]; exact hw7
      have o8 : upd H7 d (.dK (kvs7 ++ [(Sum.inr st.far, .ref t)])) t = some (.tup [.str st.nm, .str st.near, .str st.far, .int st.h]) := KT1 _ _ o7
      have hd8 : upd H7 d (.dK (kvs7 ++ [(Sum.inr st.far, .ref t)])) d = some (.dK (kvs7 ++ [(Sum.inr st.far, .ref t)])) := aB
      have S8 : aI H (upd H7 d (.dK (kvs7 ++ [(Sum.inr st.far, .ref t)]))) := S7.over hd0
      have ck8 := ck7.keep KT1
      generalize upd H7 d (.dK (kvs7 ++ [(Sum.inr st.far, .ref t)])) = H8 at hw8 o8 hd8 S8 ck8
      refine ⟨_, rfl, .inl ⟨rfl, _, SqL.of hw8⟩, _, rfl, t, _, 2, .str st.far, rfl, rfl, SqT.of o8, aJ (j := 2) rfl, lw, _, .str st.far, rfl, rfl, hw8, by omega, ?_⟩
      have KT2 := kI.lst (o := .lst (((keys (cm ++ more)).drop (p + 1)).map V.str ++ [.str st.far])) hw8
      have c9 := c7.snoc ms (by rw [e1]; exact uk) hk
      rw [List.append_assoc] at c9
      have kk : keys (cm ++ (more ++ [(st.far, some st)])) = keys (cm ++ more) ++ [st.far] := by rw [← List.append_assoc, lJ]; rfl
      refine ⟨_, more ++ [(st.far, some st)], kvs7 ++ [(Sum.inr st.far, .ref t)], rfl, S8.over hlw0, by rw [aT ndw]; exact hd8, ?_, c9, ?_, ?_, ?_, ?_⟩
      ·rw [← List.append_assoc]
       have ck9 := ck8.keep KT2
       refine ⟨by rw [List.length_append, List.length_append, ck9.len]; rfl, fun i z o' e => ?_⟩
       by_cases hi : i < (cm ++ more).length
       ·rw [List.getElem?_append_left hi] at e
        obtain ⟨v, ev, cv⟩ := ck9.at' i z o' e
        exact ⟨v, by rw [List.getElem?_append_left (by rw [ck9.len]; exact hi)]; exact ev, cv⟩
       ·have hle := (List.getElem?_eq_some_iff.mp e).1
        rw [List.length_append] at hle
        have h1' : ([(st.far, some st)] : Cm).length = 1 := rfl
        have hie : i = (cm ++ more).length := by omega
        subst hie
        rw [List.getElem?_append_right (Nat.le_refl _), Nat.sub_self] at e
        cases e
        refine ⟨.ref t, by rw [List.getElem?_append_right (by rw [ck9.len]; exact Nat.le_refl _), ck9.len, Nat.sub_self]; rfl, ?_⟩
        exact ⟨t, _, rfl, KT2 _ _ o8, _, _, rfl, rfl, _, _, rfl, rfl, _, _, rfl, rfl, _, _, rfl, rfl, rfl⟩
      ·intro z m
       rw [kk] at m
       rcases List.mem_append.mp m with m | m
       ·exact sub7 z m
       ·rw [List.mem_singleton.mp m]; exact farV st ms
      ·rw [aB, kk, List.drop_append_of_le_length (by rw [kl7, List.length_append]; omega), List.map_append]
       rfl
      ·rw [← List.append_assoc]
       exact op7.snoc (by rw [List.length_append]; omega) _
      ·intro s m en
       rw [kk]
       rw [et] at m
       rcases List.mem_append.mp m with m | m
       ·exact List.mem_append_left _ (cl7 s m en)
       ·rw [List.mem_singleton.mp m]; exact List.mem_append_right _ (List.mem_singleton.mpr rfl)
    ·refine ⟨_, more, kvs7, rfl, S7, hd7, ck7, c7, sub7, hw7, op7, fun s m en => ?_⟩
     rw [et] at m
     rcases List.mem_append.mp m with m | m
     ·exact cl7 s m en
     ·rw [List.mem_singleton.mp m] at en
      exact absurd (decide_eq_true en) c1
   ·rintro σ H7 ⟨w5, more, kvs7, rfl, S7, hd7, ck7, c7, sub7, hw7, op7, cl7⟩
    rw [List.take_of_length_le (by omega)] at cl7
    have l7 := lcm _ c7 sub7
    have kl7 : (keys (cm ++ more)).length = (cm ++ more).length := by unfold keys; rw [List.length_map]
    have ca : (cm ++ more).length = cm.length + more.length := List.length_append
    refine ⟨⟨_, _, p + 1, cm ++ more, kvs7, rfl, S7, hd7, ck7, c7, sub7, by omega, hw7, fun i u' hi e s ms en => ?_⟩, ?_⟩
    ·by_cases hip : i < p
     ·exact op7 i u' hip e s ms en
     ·have hie : i = p := by omega
      subst hie
      rw [lJ, List.getElem?_append_left (by omega), eu] at e
      cases e
      exact cl7 s ms en
    ·rw [hd7, hw7, hd5, hw5]
     dsimp only
     rw [ck7.len, ck.len, List.length_map, List.length_map, List.length_drop, List.length_cons, List.length_drop]
     omega
  ·have hpe : p = cm.length := by omega
   subst hpe
   rw [show (keys cm).drop cm.length = [] from List.drop_eq_nil_of_le (by omega)]
   refine bF ⟨_, rfl, q d cm kvs H5 S5 hd0 hd5 ck c op l13⟩
 ·intro σ H Q Q' h hc
  obtain ⟨v, e, p, xs, e2, hq, q⟩ := hc
  exact ⟨v, e, p, xs, e2, hq, h _ _ q⟩
open Mt22 MtF Mt31
def aET : Sp := sp2 fun x y H Q => ∃ (d : Addr) (kvs : List (Key × V)) (cm : Cm) (S : List Mt22.St) (side : Str), x = .ref d ∧ y = .str side ∧ H d = some (.dK kvs) ∧ CamKV H kvs cm ∧ Came S cm ∧ cm.length ≤ 13 ∧ side ∈ keys cm ∧
 ∀ (l : Addr) (us : List V) (ss : List Mt22.St) (H' : Hp), aI H H' → H l = none → H' l = some (.lst us) → IsL H' (ss.map dB) us → Chain S ss side → ss.length ≤ 13 → Q (.ref l) H'
theorem aGC {cm : Cm} {z : Str} (m : z ∈ keys cm) : ∃ (i : Nat) (o : Option Mt22.St), cm[i]? = some (z, o) := by
 obtain ⟨i, hi⟩ := List.mem_iff_getElem?.mp m
 unfold keys at hi
 rw [List.getElem?_map] at hi
 cases e : cm[i]? with
 | none => rw [e] at hi; cases hi
 | some x =>
  rw [e] at hi
  obtain ⟨a, o⟩ := x
  cases hi
  exact ⟨i, o, e⟩
theorem wQ (T : Txt K mg C) : Fc P w K mg base 1 "path_to" ["came", "side"] aET := by
 refine T.d_p_path_to.fc jF jH (fun f cdv A outer s H vs Q E hr h => ?_)
 obtain ⟨x, y, rfl, d, kvs, cm, S, side, rfl, rfl, hd, ck, c, l13, ms, q⟩ := h
 have big := bT
 have hu := kF hr
 obtain ⟨j0, o0, e0⟩ := aGC ms
 obtain ⟨v0, ev0, cv0⟩ := ck.val c e0
 have hj0 := (List.getElem?_eq_some_iff.mp e0).1
 refine ⟨_, (aG (@aS _ _ (2) _ _ _ _ jF.nd rfl (Or.inl rfl) (@cG _ _ _ _ aD) (by rfl) (by trivial)) (aG (@aS _ _ (3) _ _ _ _ jF.nd rfl (Or.inl rfl) (@eQ _ _ _ _ _ _ hu (pv 0) (pv 1) (fun _ _ => rfl)) (by rfl) (by trivial)) (aG (@yE _ _ _ _ _ _ PassesOwn.never (@bD _ _ _ _ _ _ _ _ mB (pv 3) eZ (@bB _ _ (by decide) (by decide))) (aG (@fR _ _ _ _ (@mY _ _ _ _ _ _ _ _ _ _ _ _ PySem.F.plainAttrs_list PySem.F.slot_list_append PySem.F.type_list_append fT (pv 2) (aA (pv 3) aD) (by rfl) (by rfl) (by rfl) (by rfl) (by rfl)) (by rfl)) (aH (@aS _ _ (3) _ _ _ _ jF.nd rfl (Or.inl rfl) (@eQ _ _ _ _ _ _ hu (pv 0) (@aY _ _ _ _ _ _ _ (@aQ _ (K) rfl) (pv 3) aE (fun _ _ => rfl)) (fun _ _ => rfl)) (by rfl) (by trivial))))) (aH (@aR _ _ _ _ (zT rfl rfl T.n_list rfl T.n_reversed (aA (pv 2) aD))))))), ?_⟩
 refine ⟨aN rfl, fun lp hlp => ?_⟩
 have S1 := aI.upd (o := .lst []) hlp
 have h1 : upd H lp (.lst []) lp = some (.lst []) := aB
 generalize upd H lp (.lst []) = H1 at S1 h1
 refine ⟨_, rfl, _, rfl, d, v0, rfl, .inl ⟨kvs, Sum.inr side, .inl (S1 _ _ hd), rfl, ev0.symm⟩, ?_⟩
 refine xJ (fun σ H' => ∃ (j : Nat) (z : Str) (o : Option Mt22.St) (v : V) (ps : List Mt22.St) (us : List V), σ = [some (.ref d), some (.str side), some (.ref lp), some v] ∧ aI H H' ∧ H' lp = some (.lst us) ∧ IsL H' (ps.map dB) us ∧ cm[j]? = some (z, o) ∧ CV H' o v ∧ aLB S cm j z ps.reverse side ∧ ps.length + j < cm.length)
  (fun _ H' => match H' lp with | some (.lst us) => 14 - us.length | _ => 0) ⟨j0, side, o0, v0, [], [], rfl, S1, h1, rfl, e0, cv0.same S1, (fun ss ch _ => by rw [List.reverse_nil, List.append_nil]; exact ch), by show 0 + j0 < _; omega⟩ ?_ ?_
 ·rintro σ H2 ⟨j, z, o, v, ps, us, rfl, S2, h2, ius, ej, cv, tl, lj⟩
  have lus := ius.length
  rw [List.length_map] at lus
  refine ⟨_, rfl, rfl, _, rfl, ?_⟩
  cases o with
  | none =>
   have hv : v = .non := cv
   subst hv
   have hj : j = 0 := by
    cases j with
    | zero => rfl
    | succ j =>
     obtain ⟨s', h', _⟩ := c.prev (j + 1) z none (by omega) ej
     cases h'
   subst hj
   have hz : z = Mt22.sea := by
    have := c.first
    rw [ej] at this
    cases this
    rfl
   subst hz
   have ch := tl [] .nil (fun y m => by cases m)
   rw [List.nil_append] at ch
   rw [decide_eq_true rfl]
   refine bF ⟨_, rfl, lp, us, rfl, SqL.of h2, fun l hl => ?_⟩
   refine q l us.reverse ps.reverse _ (S2.trans (aI.upd hl)) (S2.free hl) aB ?_ ch (by rw [List.length_reverse]; omega)
   rw [List.map_reverse]
   exact IsL.rev (IsL.same (aI.upd hl) _ _ ius)
  | some s =>
   obtain ⟨t, rfl, ot⟩ := oY cv
   have hj : 0 < j := by
    cases j with
    | zero =>
     have := c.first
     rw [ej] at this
     cases this
    | succ j => omega
   obtain ⟨s', es', mS, hf, hn⟩ := c.prev j z (some s) hj ej
   cases es'
   obtain ⟨i, oi, ei⟩ := aGC hn
   have hil := (List.getElem?_eq_some_iff.mp ei).1
   rw [List.length_take] at hil
   have hij : i < j := by omega
   rw [List.getElem?_take_of_lt hij] at ei
   obtain ⟨v', ev', cv'⟩ := ck.val c ei
   have ki : (keys cm)[i]? = some s.near := by unfold keys; rw [List.getElem?_map, ei]; rfl
   have hne : (!decide (V.ref t = V.non)) = true := by rw [decide_eq_false (by intro c; cases c)]; rfl
   rw [hne]
   refine bU ?_
   refine ⟨_, rfl, .inl ⟨rfl, _, SqL.of h2⟩, _, rfl, lp, us, .ref t, rfl, rfl, h2, by omega, ?_⟩
   have KT := kI.lst (o := .lst (us ++ [.ref t])) h2
   have S3 : aI H (upd H2 lp (.lst (us ++ [.ref t]))) := S2.over hlp
   refine ⟨_, rfl, _, rfl, t, _, 1, .str s.near, rfl, rfl, SqT.of (KT _ _ ot), aJ (j := 1) rfl, d, v', rfl, .inl ⟨kvs, Sum.inr s.near, .inl (S3 _ _ hd), rfl, ev'.symm⟩, ?_⟩
   refine ⟨⟨i, s.near, oi, v', ps ++ [s], us ++ [.ref t], rfl, S3, aB, ?_, ei, cv'.same S3, ?_, by rw [List.length_append]; show _ + 1 + _ < _; omega⟩, ?_⟩
   ·refine IsL.keep KT _ _ (gL fun d m => ?_) ?_
    ·obtain ⟨s, _, rfl⟩ := List.mem_map.mp m
     exact pS s
    ·rw [List.map_append]
     exact IsL.snoc (d := dB s) (v := .ref t) cv ius
   ·rw [List.reverse_append]
    exact aCQ c ej mS hf hij ki tl
   ·rw [h2, aB]
    dsimp only
    rw [List.length_append]
    show 14 - (us.length + 1) < 14 - us.length
    omega
 ·intro σ H Q Q' h hc
  obtain ⟨v, e, hq, k, e2, q⟩ := hc
  exact ⟨v, e, hq, k, e2, h _ _ q⟩
def aBG (C : Addr) : Sp := sp3 fun x y u H Q => ∃ (p l : Addr) (fs ds : List Dv) (op : List Str) (z : Str), x = .ref p ∧ LandAt C H p fs ds ∧ y = .ref l ∧ H l = some (.lst (op.map V.str)) ∧ op.length ≤ 1000 ∧ (∀ z ∈ op, z ∈ (ds.filter bC).map aK) ∧ u = .str z ∧ z ∈ fs.map aK ∧
 (∀ H', aI H H' → flo fs ds op z = none → Q .non H') ∧
 ∀ (c : Int) (lw : Addr) (ss : List Mt22.St) (H' : Hp), flo fs ds op z = some c → aI H H' → H lw = none → H' lw = some (.lst ((ss.map (·.nm)).map V.str)) → Chain (bH fs ds op) ss z → (∀ s ∈ ss, s.h ≤ c) → ss.length ≤ 13 → Q (.ref lw) H'
theorem zJ {S : List Mt22.St} {L : Int} {k : Nat} {z : Str} {b : Int} (w : Walk S k z b) (h : b ≤ L) : Come (S.filter fun s => decide (s.h ≤ L)) (L + 1) z := by
 induction w with
 | sea => exact .sea
 | @step k a s w m ih => exact .step (ih (by omega)) (List.mem_filter.mpr ⟨m, decide_eq_true (by omega)⟩) (by omega)
theorem yH (T : Txt K mg C) : Fc P w K mg base 6 "way_to" ["land", "opened", "field"] (aBG C) := by
 have G_p_flood_heights : Fc P w K mg base 5 "flood_heights" ["land", "opened"] (rP C) := gU T
 have G_p_stands : Fc P w K mg base 4 "stands" ["land", "opened"] (sC C) := qP T
 have G_p_steps_inland : Fc P w K mg base 2 "steps_inland" ["land", "stand_of"] (sB C) := kL T
 have G_p_spread : Fc P w K mg base 1 "spread" ["starts", "steps"] xS := yI T
 have G_p_path_to : Fc P w K mg base 1 "path_to" ["came", "side"] aET := wQ T
 refine T.d_p_way_to.fc mP yS (fun f cdv A outer s H vs Q E hr h => ?_)
 obtain ⟨x, y, u, rfl, p, l, fs, ds, op, z, rfl, L, rfl, hl, lo, sub, rfl, mz, q0, q1⟩ := h
 have big := bT
 have hu := kF hr
 have gf := (bY L).1
 have gd := (bY L).2
 have f2 := gf.l2
 have d2 := gd.l2
 have slen := lR fs op ds
 refine ⟨_, (aG (@aS _ _ (3) _ _ _ _ mP.nd rfl (Or.inr rfl) (@eQ _ _ _ _ _ _ hu (@bO _ _ _ _ _ _ _ _ _ _ G_p_flood_heights (hr.mono (by decide)) (aA (pv 0) (aA (pv 1) aD)) (by rfl) (by decide) (by rfl) (by rfl)) (pv 2) (fun _ _ => rfl)) (by rfl) (by trivial)) (aG (@cE _ _ _ _ _ _ _ _ (@bD _ _ _ _ _ _ _ _ oO (pv 3) eZ (@bB _ _ (by decide) (by decide))) (aH (@aR _ _ _ _ eZ)) bE) (aG (@oN _ (4) _ _ _ _ _ _ _ _ _ _ _ _ _ mP.nd rfl ["step", "height"] 1 [3] rfl (@bM _ _ _ _ (@bO _ _ _ _ _ _ _ _ _ _ G_p_steps_inland (hr.mono (by decide)) (aA (pv 0) (aA (@bO _ _ _ _ _ _ _ _ _ _ G_p_stands (hr.mono (by decide)) (aA (pv 0) (aA (pv 1) aD)) (by rfl) (by decide) (by rfl) (by rfl)) aD)) (by rfl) (by decide) (by rfl) (by rfl))) (fun R => @aO _ _ (0) _ (show List.Nodup (["step", "height"] : List Str) by decide +kernel) rfl (Or.inl rfl) (by trivial)) (@aZ _ _ (by decide)) (fun R => @gJ _ _ _ (@bD _ _ _ _ _ _ _ _ kK (@aY _ _ _ _ _ _ _ (@aQ _ (K) rfl) (pv 0) aE (fun _ _ => rfl)) (pv 1) (@bB _ _ (by decide) (by decide)))) (fun R => (pv 0)) (by exact Or.inl rfl) (by trivial) (by rfl) (by rfl) (by rfl) (by rfl) (by rfl) (by rfl) (by rfl) (by rfl) (by intro _; rfl)) (aH (@aR _ _ _ _ (@cA _ _ _ _ _ _ _ _ _ _ _ ["step"] 1 [] rfl (@bM _ _ _ _ (@bO _ _ _ _ _ _ _ _ _ _ G_p_path_to (hr.mono (by decide)) (aA (@bO _ _ _ _ _ _ _ _ _ _ G_p_spread (hr.mono (by decide)) (aA (@cG _ _ _ _ (aA (@nY _ _ _ _ T.g_SEA (by rfl) (by decide)) aD)) (aA (pv 4) aD)) (by rfl) (by decide) (by rfl) (by rfl)) (aA (pv 2) aD)) (by rfl) (by decide) (by rfl) (by rfl))) (fun R => @aO _ _ (0) _ (show List.Nodup (["step"] : List Str) by decide +kernel) rfl (Or.inl rfl) (by trivial)) (@aZ _ _ (by decide)) (fun R => cI) (fun R => (@aY _ _ _ _ _ _ _ (@aQ _ (K) rfl) (pv 0) aE (fun _ _ => rfl))) (by rfl) (by rfl) (by rfl) (by rfl) (by rfl) (by rfl) (by rfl) (by intro _; rfl))))))), ?_⟩
 refine ⟨_, rfl, _, rfl, _, _, rfl, p, l, fs, ds, op, rfl, L, rfl, hl, lo, sub, fun dh H1 S1 fdh hdh => ?_⟩
 obtain ⟨d, md, rfl⟩ := List.mem_map.mp mz
 have val := gQ (f := fun d => sU (flo fs ds op (aK d))) gf.nd md
 refine ⟨_, rfl, dh, _, rfl, .inl ⟨_, Sum.inr (aK d), .inl hdh, rfl, val.symm⟩, ?_⟩
 refine ⟨_, rfl, rfl, _, rfl, ?_⟩
 cases hf : flo fs ds op (aK d) with
 | none => exact bU (q0 H1 S1 hf)
 | some c =>
  refine bF ?_
  refine ⟨_, rfl, _, rfl, _, rfl, _, _, rfl, p, l, fs, ds, op, rfl, L.same S1, rfl, S1 _ _ hl, lo, sub, fun sd H2 S2 fsd hsd => ?_⟩
  refine ⟨_, _, rfl, p, sd, fs, ds, op, rfl, (L.same S1).same S2, rfl, hsd, fun lt us H3 S3 flt hlt ius => ?_⟩
  have lus := ius.length
  rw [List.length_map] at lus
  refine ⟨lt, rfl, ⟨_, SqL.of hlt⟩, ?_⟩
  refine bP (F := K) (xs := us) (by omega) (fun i ys H' => H3 = H' ∧ IsL H3 ((((bH fs ds op).take i).filter fun s => decide (s.h ≤ c)).map dB) ys ∧ ys.length ≤ i) ⟨rfl, rfl, Nat.le_refl _⟩ ?_ ?_ ?_
  ·rintro i ys H' hi' ⟨rfl, iy, ll⟩
   exact ⟨SqL.of hlt, ll⟩
  ·rintro i xv ys H' K1 K2 hx' ⟨rfl, iy, ll⟩ k1 k2
   have hil : i < us.length := (List.getElem?_eq_some_iff.mp hx').1
   obtain ⟨st, es⟩ : ∃ st, (bH fs ds op)[i]? = some st := ⟨_, List.getElem?_eq_getElem (by omega)⟩
   obtain ⟨v, ev, iv⟩ := ius.get (show ((bH fs ds op).map dB)[i]? = some (dB st) by rw [List.getElem?_map, es]; rfl)
   rw [hx'] at ev
   cases ev
   obtain ⟨t, rfl, o⟩ := oY iv
   refine ⟨_, rfl, t, _, 3, .int st.h, rfl, rfl, SqT.of o, aJ (j := 3) rfl, _, rfl, _, _, rfl, rfl, _, rfl, ?_⟩
   refine kD (fun h1 => ?_) (fun h1 => ?_)
   ·refine ⟨_, rfl, k1 _ _ ⟨rfl, ?_, by rw [List.length_append]; show _ + 1 ≤ _; omega⟩⟩
    rw [List.take_add_one, es, List.filter_append]
    show IsL _ ((_ ++ [st].filter _).map dB) _
    rw [List.filter_cons_of_pos (p := fun s : Mt22.St => decide (s.h ≤ c)) (a := st) h1, List.filter_nil, List.map_append]
    exact IsL.snoc (d := dB st) iv iy
   ·refine k2 _ ⟨rfl, ?_, by omega⟩
    rw [List.take_add_one, es, List.filter_append]
    show IsL _ ((_ ++ [st].filter _).map dB) _
    rw [List.filter_cons_of_neg (p := fun s : Mt22.St => decide (s.h ≤ c)) (a := st) h1, List.filter_nil, List.append_nil]
    exact iy
  rintro ys H' ⟨rfl, iy, ll⟩
  rw [List.take_of_length_le (by omega)] at iy
  intro p4 hp4
  have S4 := aI.upd (o := .lst ys) hp4
  have T3 := S1.trans (S2.trans S3)
  have hsub : ∀ s ∈ (bH fs ds op).filter (fun s => decide (s.h ≤ c)), s ∈ bH fs ds op := fun s m => (List.mem_filter.mp m).1
  refine ⟨aN rfl, fun pa hpa => ?_⟩
  have S5 := aI.upd (o := .lst [.str "sea"]) hpa
  have T5 := S4.trans S5
  have lfil := List.length_filter_le (fun s : Mt22.St => decide (s.h ≤ c)) (bH fs ds op)
  refine ⟨_, rfl, _, _, rfl, pa, p4, ys, (bH fs ds op).filter (fun s => decide (s.h ≤ c)), "sea" :: fs.map aK, rfl, rfl, aB, S5 _ _ aB, IsL.same T5 _ _ iy, by omega, by rw [List.length_cons, List.length_map]; omega, List.mem_cons_self, (fun s m => List.mem_cons_of_mem _ (tY gd (hsub s m))), fun dc cm kvs H6 S6 fdc hdc ck ca op' l13 => ?_⟩
  have ink : aK d ∈ keys cm := by
   obtain ⟨k, w⟩ := (nT gd).att _ _ hf
   exact aDF ca op' (L := c + 1) (fun s m => by have := of_decide_eq_true (List.mem_filter.mp m).2; omega) (zJ w (Int.le_refl c))
  refine ⟨_, rfl, _, _, rfl, dc, kvs, cm, _, aK d, rfl, rfl, hdc, ck, ca, l13, ink, fun lp up ss H7 S7 flp hlp iup ch lss => ?_⟩
  have lup := iup.length
  rw [List.length_map] at lup
  refine ⟨lp, rfl, ⟨_, SqL.of hlp⟩, ?_⟩
  refine bP (F := K) (xs := up) (by omega) (fun i ys H' => H7 = H' ∧ ys = ((ss.take i).map (·.nm)).map V.str) ⟨rfl, rfl⟩ ?_ ?_ ?_
  ·rintro i ys H' hi' ⟨rfl, rfl⟩
   exact ⟨SqL.of hlp, by rw [List.length_map, List.length_map, List.length_take]; omega⟩
  ·rintro i xv ys H' K1 K2 hx' ⟨rfl, rfl⟩ k1 k2
   have hil : i < up.length := (List.getElem?_eq_some_iff.mp hx').1
   obtain ⟨st, es⟩ : ∃ st, ss[i]? = some st := ⟨_, List.getElem?_eq_getElem (by omega)⟩
   obtain ⟨v, ev, iv⟩ := iup.get (show (ss.map dB)[i]? = some (dB st) by rw [List.getElem?_map, es]; rfl)
   rw [hx'] at ev
   cases ev
   obtain ⟨t, rfl, o⟩ := oY iv
   refine ⟨_, rfl, t, _, 0, .str st.nm, rfl, rfl, SqT.of o, aJ (j := 0) rfl, k1 _ _ ⟨rfl, ?_⟩⟩
   rw [List.take_add_one, es, List.map_append, List.map_append]
   rfl
  rintro ys' H' ⟨rfl, rfl⟩
  rw [List.take_of_length_le (by omega)]
  intro lw hlw
  have S8 := aI.upd (o := .lst ((ss.map (·.nm)).map V.str)) hlw
  have T7 := T3.trans (T5.trans (S6.trans S7))
  exact q1 c lw ss _ hf (T7.trans S8) (T7.free hlw) aB (ch.sub hsub) (fun s m => of_decide_eq_true (List.mem_filter.mp ((vX ch).1 s m)).2) lss
open Mt22 MtF Mt33
theorem iE {q : Str → Bool} {fs : List Dv} {i : Nat} {e : Dv} (ee : fs[i]? = some e) : (((fs.take (i + 1)).map aK).filter q).map V.str = (((fs.take i).map aK).filter q).map V.str ++ (if q (aK e) = true then [V.str (aK e)] else []) := by
 rw [List.take_add_one, ee, List.map_append, List.filter_append, List.map_append]
 show _ ++ (List.filter q [aK e]).map V.str = _
 by_cases h : q (aK e) = true
 ·rw [if_pos h, List.filter_cons_of_pos h]; rfl
 ·rw [if_neg h, List.filter_cons_of_neg h]; rfl
def aES (C : Addr) : Sp := sp3 fun x y u H Q => ∃ (p l : Addr) (fs ds : List Dv) (op : List Str) (z : Str), x = .ref p ∧ LandAt C H p fs ds ∧ y = .ref l ∧ H l = some (.lst (op.map V.str)) ∧ op.length ≤ 1000 ∧ (∀ z ∈ op, z ∈ (ds.filter bC).map aK) ∧ u = .str z ∧ z ∈ fs.map aK ∧
 ∀ (lr : Addr) (H' : Hp), aI H H' → H lr = none → H' lr = some (.lst ((fW fs ds op z).map V.str)) → Q (.ref lr) H'
theorem rK (T : Txt K mg C) : Fc P w K mg base 6 "ring_round" ["land", "opened", "field"] (aES C) := by
 have G_p_flood_heights : Fc P w K mg base 5 "flood_heights" ["land", "opened"] (rP C) := gU T
 refine T.d_p_ring_round.fc iZ yS (fun f cdv A outer s H vs Q E hr h => ?_)
 obtain ⟨x, y, u, rfl, p, l, fs, ds, op, z, rfl, L, rfl, hl, lo, sub, rfl, mz, q⟩ := h
 have big := bT
 have hu := kF hr
 have gf := (bY L).1
 have gd := (bY L).2
 have f2 := gf.l2
 refine ⟨_, (aG (@aS _ _ (3) _ _ _ _ iZ.nd rfl (Or.inr rfl) (@bO _ _ _ _ _ _ _ _ _ _ G_p_flood_heights (hr.mono (by decide)) (aA (pv 0) (aA (pv 1) aD)) (by rfl) (by decide) (by rfl) (by rfl)) (by rfl) (by trivial)) (aG (@aS _ _ (4) _ _ _ _ iZ.nd rfl (Or.inr rfl) (@eQ _ _ _ _ _ _ hu (pv 3) (pv 2) (fun _ _ => rfl)) (by rfl) (by trivial)) (aG (@cE _ _ _ _ _ _ _ _ (@bD _ _ _ _ _ _ _ _ oO (pv 4) eZ (@bB _ _ (by decide) (by decide))) (aH (@aR _ _ _ _ (@cA _ _ _ _ _ _ _ _ _ _ _ ["name", "heights"] 1 [3] rfl (@rS _ _ _ _ (pv 3)) (fun R => @aO _ _ (0) _ (show List.Nodup (["name", "heights"] : List Str) by decide +kernel) rfl (Or.inl rfl) (by trivial)) (@aZ _ _ (by decide)) (fun R => @gJ _ _ _ (@bD _ _ _ _ _ _ _ _ oO (@eQ _ _ _ _ _ _ hu (pv 1) (pv 0) (fun _ _ => rfl)) eZ (@bB _ _ (by decide) (by decide)))) (fun R => (pv 0)) (by rfl) (by rfl) (by rfl) (by rfl) (by rfl) (by rfl) (by rfl) (by intro _; rfl)))) bE) (aH (@aR _ _ _ _ (@cA _ _ _ _ _ _ _ _ _ _ _ ["name", "heights", "least"] 1 [3, 4] rfl (@rS _ _ _ _ (pv 3)) (fun R => @aO _ _ (0) _ (show List.Nodup (["name", "heights", "least"] : List Str) by decide +kernel) rfl (Or.inl rfl) (by trivial)) (@aZ _ _ (by decide)) (fun R => @gJ _ _ _ (@PW.pt _ _ _ (@kJ _ _ _ _ _ _ _ (@bD _ _ _ _ _ _ _ _ oO (@eQ _ _ _ _ _ _ hu (pv 1) (pv 0) (fun _ _ => rfl)) eZ (@bB _ _ (by decide) (by decide))) (@kS _ _ _ _ (@bD _ _ _ _ _ _ _ _ aJJ (@eQ _ _ _ _ _ _ hu (pv 1) (pv 0) (fun _ _ => rfl)) (pv 2) (@bB _ _ (by decide) (by decide))))))) (fun R => (pv 0)) (by rfl) (by rfl) (by rfl) (by rfl) (by rfl) (by rfl) (by rfl) (by intro _; rfl))))))), ?_⟩
 refine ⟨_, rfl, _, rfl, _, _, rfl, p, l, fs, ds, op, rfl, L, rfl, hl, lo, sub, fun dh H1 S1 fdh hdh => ?_⟩
 obtain ⟨d, md, rfl⟩ := List.mem_map.mp mz
 have val : ∀ d ∈ fs, dG (kG fs (flo fs ds op)) (Sum.inr (aK d)) = some (sU (flo fs ds op (aK d))) := fun d m => gQ (f := fun d => sU (flo fs ds op (aK d))) gf.nd m
 refine ⟨_, rfl, _, rfl, dh, _, rfl, .inl ⟨_, Sum.inr (aK d), .inl hdh, rfl, (val d md).symm⟩, ?_⟩
 refine ⟨_, rfl, rfl, _, rfl, ?_⟩
 have lkv : (kG fs (flo fs ds op)).length = fs.length := List.length_map ..
 cases hf : flo fs ds op (aK d) with
 | none =>
  refine bU ?_
  refine ⟨_, rfl, dh, _, rfl, hdh, fun o => ?_⟩
  have S2 : aI H (upd H1 dh (.frz o (.dK (kG fs (flo fs ds op))))) := S1.over fdh
  refine nV (by omega) (fun i ys H' => upd H1 dh (.frz o (.dK (kG fs (flo fs ds op)))) = H' ∧ ys = (((fs.take i).map aK).filter (fB (flo fs ds op) none)).map V.str) ⟨rfl, rfl⟩ ?_ ?_ ?_
  ·rintro i ys H' hi' ⟨rfl, rfl⟩
   refine ⟨aB, ?_⟩
   rw [List.length_map]
   have := List.length_filter_le (fB (flo fs ds op) none) ((fs.take i).map aK)
   rw [List.length_map, List.length_take] at this
   omega
  ·rintro i kv ys H' K1 K2 hk ⟨rfl, rfl⟩ k1 k2
   obtain ⟨e, ee⟩ : ∃ e, fs[i]? = some e := ⟨_, List.getElem?_eq_getElem (by have := (List.getElem?_eq_some_iff.mp hk).1; omega)⟩
   unfold kG at hk
   rw [List.getElem?_map, ee] at hk
   cases hk
   have me := List.mem_of_getElem? ee
   refine ⟨_, rfl, _, rfl, dh, _, rfl, .inl ⟨_, Sum.inr (aK e), .inr ⟨o, aB⟩, rfl, (val e me).symm⟩, rfl, _, rfl, ?_⟩
   have eq : fB (flo fs ds op) none (aK e) = decide (sU (flo fs ds op (aK e)) = V.non) := by
    unfold fB
    cases flo fs ds op (aK e) with
    | none => exact (decide_eq_true rfl).symm
    | some c => exact (decide_eq_false (by intro c; cases c)).symm
   rw [← eq]
   refine kD (fun h1 => ⟨_, rfl, k1 _ _ ⟨rfl, ?_⟩⟩) (fun h1 => k2 _ ⟨rfl, ?_⟩)
   ·rw [iE ee, if_pos h1]; rfl
   ·rw [iE ee, if_neg h1, List.append_nil]
  ·rintro ys H' ⟨rfl, rfl⟩
   rw [lkv, List.take_of_length_le (Nat.le_refl _)]
   intro lr hlr
   refine q lr _ (S2.trans (aI.upd hlr)) (S2.free hlr) ?_
   rw [aB]
   unfold fW
   rw [hf]
 | some c =>
  refine bF ?_
  refine ⟨_, rfl, dh, _, rfl, hdh, fun o => ?_⟩
  have S2 : aI H (upd H1 dh (.frz o (.dK (kG fs (flo fs ds op))))) := S1.over fdh
  refine nV (by omega) (fun i ys H' => upd H1 dh (.frz o (.dK (kG fs (flo fs ds op)))) = H' ∧ ys = (((fs.take i).map aK).filter (fB (flo fs ds op) (some c))).map V.str) ⟨rfl, rfl⟩ ?_ ?_ ?_
  ·rintro i ys H' hi' ⟨rfl, rfl⟩
   refine ⟨aB, ?_⟩
   rw [List.length_map]
   have := List.length_filter_le (fB (flo fs ds op) (some c)) ((fs.take i).map aK)
   rw [List.length_map, List.length_take] at this
   omega
  ·rintro i kv ys H' K1 K2 hk ⟨rfl, rfl⟩ k1 k2
   obtain ⟨e, ee⟩ : ∃ e, fs[i]? = some e := ⟨_, List.getElem?_eq_getElem (by have := (List.getElem?_eq_some_iff.mp hk).1; omega)⟩
   unfold kG at hk
   rw [List.getElem?_map, ee] at hk
   cases hk
   have me := List.mem_of_getElem? ee
   refine ⟨_, rfl, _, rfl, dh, _, rfl, .inl ⟨_, Sum.inr (aK e), .inr ⟨o, aB⟩, rfl, (val e me).symm⟩, rfl, _, rfl, ?_⟩
   cases he : flo fs ds op (aK e) with
   | none =>
    have eq : fB (flo fs ds op) (some c) (aK e) = true := by unfold fB; rw [he]
    refine bU (bU ⟨_, rfl, k1 _ _ ⟨rfl, ?_⟩⟩)
    rw [iE ee, if_pos eq]; rfl
   | some a =>
    have val' := val e me
    rw [he] at val'
    refine bF ?_
    refine ⟨_, rfl, _, rfl, dh, _, rfl, .inl ⟨_, Sum.inr (aK e), .inr ⟨o, aB⟩, rfl, val'.symm⟩, _, rfl, _, _, rfl, rfl, _, rfl, ?_⟩
    have eq : fB (flo fs ds op) (some c) (aK e) = decide (c ≤ a) := by unfold fB; rw [he]
    rw [← eq]
    refine kD (fun h1 => ⟨_, rfl, k1 _ _ ⟨rfl, ?_⟩⟩) (fun h1 => k2 _ ⟨rfl, ?_⟩)
    ·rw [iE ee, if_pos h1]; rfl
    ·rw [iE ee, if_neg h1, List.append_nil]
  ·rintro ys H' ⟨rfl, rfl⟩
   rw [lkv, List.take_of_length_le (Nat.le_refl _)]
   intro lr hlr
   refine q lr _ (S2.trans (aI.upd hlr)) (S2.free hlr) ?_
   rw [aB]
   unfold fW
   rw [hf]
open Mt22 MtF
def uO (h : Option Int) (g lv : Int) (was : Bool) : Bool :=
 match h with
 | some c => decide (c < lv) || (was && !decide (c = g))
 | none => was
def aBP : Sp := sp4 fun x y z u H Q => ∃ (h : Option Int) (g lv : Int) (b : Bool), x = sU h ∧ y = .int g ∧ z = .int lv ∧ u = .bl b ∧ Q (.bl (uO h g lv b)) H
theorem yJ (T : Txt K mg C) : Fc P w K mg base 1 "is_wet" ["height", "ground", "level", "was_wet"] aBP := by
 refine T.d_p_is_wet.fc xZ aFY (fun f cdv A outer s H vs Q E hr h => ?_)
 obtain ⟨x, y, z, u, rfl, h, g, lv, b, rfl, rfl, rfl, rfl, q⟩ := h
 refine ⟨_, (aG (@cE _ _ _ _ _ _ _ _ (@PW.pt _ _ _ (@oM _ _ _ _ _ _ _ (@bD _ _ _ _ _ _ _ _ mB (pv 0) eZ (@bB _ _ (by decide) (by decide))) (@lT _ _ _ _ (@bD _ _ _ _ _ _ _ _ qO (pv 0) (pv 2) (@bB _ _ (by decide) (by decide)))))) (aH (@aR _ _ _ _ mZ)) bE) (aH (@aR _ _ _ _ (@cK _ _ _ _ _ _ _ (pv 3) (@dJ _ _ _ _ _ (@bX _ _ _ _ _ _ _ _ pL (pv 0) (pv 1) (@bB _ _ (by decide) (by decide)))))))), ?_⟩
 refine ⟨_, rfl, rfl, _, rfl, ?_⟩
 cases h with
 | none =>
  refine bF ?_
  refine ⟨_, rfl, _, rfl, ?_⟩
  cases b with
  | false => exact bF q
  | true => exact bU ⟨_, rfl, _, rfl, rfl, q⟩
 | some c =>
  refine bU ⟨_, rfl, _, rfl, _, _, rfl, rfl, _, rfl, ?_⟩
  have q : Q (.bl (decide (c < lv) || (b && !decide (c = g)))) H := q
  cases h1 : decide (c < lv) with
  | true =>
   rw [h1] at q
   exact bU q
  | false =>
   rw [h1] at q
   refine bF ⟨_, rfl, _, rfl, ?_⟩
   cases b with
   | false => exact bF q
   | true =>
    refine bU ⟨_, rfl, _, rfl, rfl, ?_⟩
    have e : decide (V.int c = V.int g) = decide (c = g) := by
     rw [Bool.eq_iff_iff, decide_eq_true_iff, decide_eq_true_iff]
     exact ⟨fun h => V.int.inj h, fun h => by rw [h]⟩
    show Q (.bl (!decide (V.int c = V.int g))) H
    rw [e]
    exact q
def aEE (fs ds : List Dv) (op : List Str) (lv : Int) (bf : List Str) : List Str := (fs.map aK).filter fun z => uO (flo fs ds op z) (bA fs z) lv (decide (z ∈ bf))
def aEP (C : Addr) : Sp := sp4 fun x y z u H Q => ∃ (p l lb : Addr) (fs ds : List Dv) (op bf : List Str) (lv : Int), x = .ref p ∧ LandAt C H p fs ds ∧ y = .ref l ∧ H l = some (.lst (op.map V.str)) ∧ op.length ≤ 1000 ∧ (∀ z ∈ op, z ∈ (ds.filter bC).map aK) ∧ z = .int lv ∧ u = .ref lb ∧ H lb = some (.lst (bf.map V.str)) ∧
 ∀ (lr : Addr) (H' : Hp), aI H H' → H lr = none → H' lr = some (.lst ((aEE fs ds op lv bf).map V.str)) → Q (.ref lr) H'
theorem rJ (T : Txt K mg C) : Fc P w K mg base 6 "wet_fields" ["land", "opened", "level", "before"] (aEP C) := by
 have G_p_flood_heights : Fc P w K mg base 5 "flood_heights" ["land", "opened"] (rP C) := gU T
 have G_p_is_wet : Fc P w K mg base 1 "is_wet" ["height", "ground", "level", "was_wet"] aBP := yJ T
 have G_land_p_ground : Mc P w K mg base 1 C "ground" ["self", "field"] (kZ C) := eL T
 refine T.d_p_wet_fields.fc mI aFY (fun f cdv A outer s H vs Q E hr h => ?_)
 obtain ⟨x, y, z, u, rfl, p, l, lb, fs, ds, op, bf, lv, rfl, L, rfl, hl, lo, sub, rfl, rfl, hlb, q⟩ := h
 have big := bT
 have hu := kF hr
 have gf := (bY L).1
 have f2 := gf.l2
 obtain ⟨dx, d1, d2, hx, _⟩ := L.ex
 refine ⟨_, (aG (@aS _ _ (4) _ _ _ _ mI.nd rfl (Or.inr rfl) (@bO _ _ _ _ _ _ _ _ _ _ G_p_flood_heights (hr.mono (by decide)) (aA (pv 0) (aA (pv 1) aD)) (by rfl) (by decide) (by rfl) (by rfl)) (by rfl) (by trivial)) (aH (@aR _ _ _ _ (@cA _ _ _ _ _ _ _ _ _ _ _ ["name", "land", "level", "before", "heights"] 1 [0, 2, 3, 4] rfl (@rS _ _ _ _ (pv 4)) (fun R => @aO _ _ (0) _ (show List.Nodup (["name", "land", "level", "before", "heights"] : List Str) by decide +kernel) rfl (Or.inl rfl) (by trivial)) (@aZ _ _ (by decide)) (fun R => @gJ _ _ _ (@cN _ _ _ (@bO _ _ _ _ _ _ _ _ _ _ G_p_is_wet (hr.mono (by decide)) (aA (@eQ _ _ _ _ _ _ hu (pv 4) (pv 0) (fun _ _ => rfl)) (aA (@uS _ _ _ _ _ _ _ _ _ _ _ _ _ _ T.cl_Land G_land_p_ground (hr.mono (by decide)) (pv 1) (aA (pv 0) aD) (by rfl) (by rfl) (by rfl)) (aA (pv 2) (aA (@bX _ _ _ _ _ _ _ _ (@eB _ (K) rfl) (pv 0) (pv 3) (by with_unfolding_all rfl)) aD)))) (by rfl) (by decide) (by rfl) (by rfl)) (by intro _; rfl))) (fun R => (pv 0)) (by rfl) (by rfl) (by rfl) (by rfl) (by rfl) (by rfl) (by rfl) (by intro _; rfl))))), ?_⟩
 refine ⟨_, rfl, _, rfl, _, _, rfl, p, l, fs, ds, op, rfl, L, rfl, hl, lo, sub, fun dh H1 S1 fdh hdh => ?_⟩
 have val : ∀ d ∈ fs, dG (kG fs (flo fs ds op)) (Sum.inr (aK d)) = some (sU (flo fs ds op (aK d))) := fun d m => gQ (f := fun d => sU (flo fs ds op (aK d))) gf.nd m
 have lkv : (kG fs (flo fs ds op)).length = fs.length := List.length_map ..
 refine ⟨_, rfl, dh, _, rfl, hdh, fun o => ?_⟩
 have S2 : aI H (upd H1 dh (.frz o (.dK (kG fs (flo fs ds op))))) := S1.over fdh
 refine nV (by omega) (fun i ys H' => upd H1 dh (.frz o (.dK (kG fs (flo fs ds op)))) = H' ∧ ys = (((fs.take i).map aK).filter fun z => uO (flo fs ds op z) (bA fs z) lv (decide (z ∈ bf))).map V.str) ⟨rfl, rfl⟩ ?_ ?_ ?_
 ·rintro i ys H' hi' ⟨rfl, rfl⟩
  refine ⟨aB, ?_⟩
  rw [List.length_map]
  have := List.length_filter_le (fun z => uO (flo fs ds op z) (bA fs z) lv (decide (z ∈ bf))) ((fs.take i).map aK)
  rw [List.length_map, List.length_take] at this
  omega
 ·rintro i kv ys H' K1 K2 hk ⟨rfl, rfl⟩ k1 k2
  obtain ⟨e, ee⟩ : ∃ e, fs[i]? = some e := ⟨_, List.getElem?_eq_getElem (by have := (List.getElem?_eq_some_iff.mp hk).1; omega)⟩
  unfold kG at hk
  rw [List.getElem?_map, ee] at hk
  cases hk
  have me := List.mem_of_getElem? ee
  obtain ⟨z, g, du, rfl, hz, _⟩ := bJ (gf.all e me)
  have eg : bA fs z = g := jN gf.nd me
  refine ⟨_, rfl, _, rfl, dh, _, rfl, .inl ⟨_, Sum.inr z, .inr ⟨o, aB⟩, rfl, (val _ me).symm⟩, _, rfl, p, dx, _, rfl, S2 _ _ hx, dL _ _ (by decide +kernel) (by decide +kernel), _, rfl, _, _, rfl, p, fs, ds, z, g, du, rfl, rfl, L.same S2, me, ?_⟩
  refine ⟨_, rfl, _, rfl, _, rfl, lb, _, rfl, .inl (SqL.of (S2 _ _ hlb)), rfl, cQ bf, ?_⟩
  refine ⟨_, _, _, _, rfl, flo fs ds op z, g, lv, inV (.str z) (bf.map V.str), rfl, rfl, rfl, rfl, _, rfl, ?_⟩
  rw [eS]
  refine kD (fun h1 => ⟨_, rfl, k1 _ _ ⟨rfl, ?_⟩⟩) (fun h1 => k2 _ ⟨rfl, ?_⟩)
  ·rw [iE ee, if_pos (by show uO (flo fs ds op z) (bA fs z) lv (decide (z ∈ bf)) = true; rw [eg]; exact h1)]; rfl
  ·rw [iE ee, if_neg (by show ¬ uO (flo fs ds op z) (bA fs z) lv (decide (z ∈ bf)) = true; rw [eg]; exact h1), List.append_nil]
 ·rintro ys H' ⟨rfl, rfl⟩
  rw [lkv, List.take_of_length_le (Nat.le_refl _)]
  intro lr hlr
  exact q lr _ (S2.trans (aI.upd hlr)) (S2.free hlr) aB
def xV : Sp := sp1 fun x H Q => ∃ (l : Addr) (gs zs : List Str) (xs : List Dk), x = .ref l ∧ Decs H l gs zs xs ∧ xs.length ≤ 1000 ∧ ∀ (l' : Addr) (H' : Hp), aI H H' → H l' = none → Decs H' l' gs zs xs → Q (.ref l') H'
theorem yK (T : Txt K mg C) : Fc P w K mg base 1 "copied" ["decrees"] xV := by
 refine T.d_p_copied.fc yA nZ (fun f cdv A outer s H vs Q E hr h => ?_)
 obtain ⟨x, rfl, l, gs, zs, xs, rfl, dc, lx, q⟩ := h
 have big := bT
 obtain ⟨us, hl, il⟩ := dc.ex
 have lus := il.length
 rw [List.length_map] at lus
 refine ⟨_, (aH (@aR _ _ _ _ (@cA _ _ _ _ _ _ _ _ _ _ _ ["decree"] 1 [] rfl (@bM _ _ _ _ (pv 0)) (fun R => @aO _ _ (0) _ (show List.Nodup (["decree"] : List Str) by decide +kernel) rfl (Or.inl rfl) (by trivial)) (@aZ _ _ (by decide)) (fun R => cI) (fun R => (@cO _ _ _ _ _ (aA (@aY _ _ _ _ _ _ _ (@aQ _ (K) rfl) (pv 0) aE (fun _ _ => rfl)) (aA (@aY _ _ _ _ _ _ _ (@aQ _ (K) rfl) (pv 0) aE (fun _ _ => rfl)) (aA (@cL _ _ _ _ _ _ _ _ _ (@iO _ (K) rfl) rfl T.n_list eC (aA (@aY _ _ _ _ _ _ _ (@aQ _ (K) rfl) (pv 0) aE (fun _ _ => rfl)) aD) (by decide) (by decide) (by rfl) (by rfl)) aD))))) (by rfl) (by rfl) (by rfl) (by rfl) (by rfl) (by rfl) (by rfl) (by intro _; rfl)))), ?_⟩
 refine ⟨_, rfl, l, rfl, ⟨_, SqL.of hl⟩, ?_⟩
 refine bP (F := K) (xs := us) (by omega) (fun i ys H' => aI H H' ∧ IsL H' ((xs.take i).map dkD) ys) ⟨aI.refl _, rfl⟩ ?_ ?_ ?_
 ·rintro i ys H' hi' ⟨S, iy⟩
  have := iy.length
  rw [List.length_map, List.length_take] at this
  exact ⟨SqL.of (S _ _ hl), by omega⟩
 ·rintro i xv ys H' K1 K2 hx ⟨S, iy⟩ k1 k2
  have hil : i < us.length := (List.getElem?_eq_some_iff.mp hx).1
  obtain ⟨x, ex⟩ : ∃ x, xs[i]? = some x := ⟨_, List.getElem?_eq_getElem (by omega)⟩
  obtain ⟨v, ev, iv⟩ := il.get (show (xs.map dkD)[i]? = some (dkD x) by rw [List.getElem?_map, ex]; rfl)
  rw [hx] at ev
  cases ev
  obtain ⟨a, g, cs⟩ := x
  obtain ⟨t, lc, cus, rfl, o, hlc, ic⟩ := aAO iv
  refine ⟨_, rfl, t, _, 0, .str a, rfl, rfl, SqT.of (S _ _ o), aJ (j := 0) rfl, _, rfl, t, _, 1, .str g, rfl, rfl, SqT.of (S _ _ o), aJ (j := 1) rfl, _, rfl, t, _, 2, .ref lc, rfl, rfl, SqT.of (S _ _ o), aJ (j := 2) rfl, lc, cus, rfl, .inl (SqL.of (S _ _ hlc)), fun l1 hl1 => ?_⟩
  have A1 := aI.upd (o := .lst cus) hl1
  refine ⟨aN rfl, fun pt hpt => ?_⟩
  have A2 := aI.upd (o := .tup [.str a, .str g, .ref l1]) hpt
  have SS := S.trans (A1.trans A2)
  refine k1 _ _ ⟨SS, ?_⟩
  rw [List.take_add_one, ex, List.map_append]
  refine IsL.snoc ?_ (IsL.same (A1.trans A2) _ _ iy)
  exact ⟨pt, _, rfl, aB, _, _, rfl, rfl, _, _, rfl, rfl, _, _, rfl, ⟨l1, cus, rfl, A2 _ _ aB, IsL.same SS _ _ ic⟩, rfl⟩
 ·rintro ys H' ⟨S, iy⟩
  rw [List.take_of_length_le (by omega)] at iy
  intro l' hl'
  have A := aI.upd (o := .lst ys) hl'
  exact q l' _ (S.trans A) (S.free hl') ⟨⟨ys, aB, IsL.same A _ _ iy⟩, dc.ok, dc.cd⟩
mutual
def noD : Dv → Bool
 | .dct _ _ => false
 | .lst ds => zY ds
 | .tup ds => zY ds
 | _ => true
def zY : List Dv → Bool
 | [] => true
 | d :: ds => noD d && zY ds
end
def aIG : HO → Bool
 | .lst _ => true
 | .tup _ => true
 | _ => false
def uN (H H' : Hp) : Prop := ∀ b o, H b = some o → aIG o = true → H' b = some o
mutual
theorem Is.sameLT {H H' : Hp} (S : uN H H') : ∀ (d : Dv) (v : V), noD d = true → Is H d v → Is H' d v
 | .non, _, _, h => h
 | .bl _, _, _, h => h
 | .int _, _, _, h => h
 | .str _, _, _, h => h
 | .lst ds, _, f, ⟨a, vs, e, o, h⟩ => ⟨a, vs, e, S _ _ o rfl, IsL.sameLT S ds vs f h⟩
 | .tup ds, _, f, ⟨a, vs, e, o, h⟩ => ⟨a, vs, e, S _ _ o rfl, IsL.sameLT S ds vs f h⟩
 | .dct ks ds, _, f, _ => by cases f
theorem IsL.sameLT {H H' : Hp} (S : uN H H') : ∀ (ds : List Dv) (vs : List V), zY ds = true → IsL H ds vs → IsL H' ds vs
 | [], _, _, h => h
 | d :: ds, _, f, ⟨v, r, e, h, t⟩ => ⟨v, r, e, Is.sameLT S d v (Bool.and_eq_true_iff.mp f).1 h, IsL.sameLT S ds r (Bool.and_eq_true_iff.mp f).2 t⟩
end
theorem pO : ∀ {ds : List Dv}, (∀ d ∈ ds, noD d = true) → zY ds = true
 | [], _ => rfl
 | d :: ds, h => by
  rw [zY, h d List.mem_cons_self, pO fun e m => h e (List.mem_cons_of_mem _ m)]
  rfl
theorem aIJ (x : Dk) : noD (dkD x) = true := by
 show (true && (true && (zY (x.2.2.map Cd.dv) && true))) = true
 rw [pO fun d m => by obtain ⟨c, _, rfl⟩ := List.mem_map.mp m; cases c <;> rfl]
 rfl
theorem Decs.sameLT {H H' : Hp} (S : uN H H') {l : Addr} {gs zs : List Str} {xs : List Dk} (h : Decs H l gs zs xs) : Decs H' l gs zs xs := by
 obtain ⟨vs, e, i⟩ := h.ex
 exact ⟨⟨vs, S _ _ e rfl, IsL.sameLT S _ _ (pO fun d m => by obtain ⟨x, _, rfl⟩ := List.mem_map.mp m; exact aIJ x) i⟩, h.ok, h.cd⟩
theorem vP {d : Dv} (h : cD d = true) : noD d = true := by
 obtain ⟨z, g, e, rfl, _⟩ := bJ h
 rfl
theorem aGW {zs : List Str} {d : Dv} (h : cY zs d = true) : noD d = true := by
 obtain ⟨n, a, b, c, r, s, rfl, _, _, _, _, _, _, hs⟩ := bR h
 cases s with
 | non => rfl
 | int i => rfl
 | _ => cases hs
def aLQ : List Str := ["on_land", "own_decrees", "open_names", "wet_names", "day_count", "wet_counts"]
structure SeaF (F : List (Str × V)) (pl ld lo lw dw : Addr) (n : Int) : Prop where
 f1 : F.lookup ("on_land" : Str) = some (.ref pl)
 f2 : F.lookup ("own_decrees" : Str) = some (.ref ld)
 f3 : F.lookup ("open_names" : Str) = some (.ref lo)
 f4 : F.lookup ("wet_names" : Str) = some (.ref lw)
 f5 : F.lookup ("day_count" : Str) = some (.int n)
 f6 : F.lookup ("wet_counts" : Str) = some (.ref dw)
 no : ∀ m : Str, ¬ m ∈ aLQ → F.lookup m = none
 len : F.length ≤ 6
theorem pH (f : Str) (v : V) : ∀ F : List (Str × V), (∃ u, F.lookup f = some u) → (cX f v F).length = F.length
 | [], ⟨u, h⟩ => by cases h
 | (g, x) :: F, h => by
  unfold cX
  by_cases e : g = f
  ·subst e
   simp
  ·have hb : (f == g) = false := by rw [beq_eq_false_iff_ne]; exact fun z => e z.symm
   have h' : ∃ u, F.lookup f = some u := by
    obtain ⟨u, hu⟩ := h
    rw [List.lookup_cons, hb] at hu
    exact ⟨u, hu⟩
   simp [e, pH f v F h']
theorem SeaF.put {F : List (Str × V)} {pl ld lo lw dw : Addr} {n : Int} (h : SeaF F pl ld lo lw dw n) (lo' : Addr) : SeaF (cX "open_names" (.ref lo') F) pl ld lo' lw dw n := by
 refine ⟨?_, ?_, ?_, ?_, ?_, ?_, fun m hm => ?_, ?_⟩
 ·rw [aU, if_neg (by decide +kernel)]; exact h.f1
 ·rw [aU, if_neg (by decide +kernel)]; exact h.f2
 ·rw [aU, if_pos rfl]
 ·rw [aU, if_neg (by decide +kernel)]; exact h.f4
 ·rw [aU, if_neg (by decide +kernel)]; exact h.f5
 ·rw [aU, if_neg (by decide +kernel)]; exact h.f6
 ·rw [aU, if_neg (fun e => hm (by rw [e]; decide +kernel))]; exact h.no m hm
 ·rw [pH _ _ _ ⟨_, h.f3⟩]; exact h.len
theorem SeaF.putW {F : List (Str × V)} {pl ld lo lw dw : Addr} {n : Int} (h : SeaF F pl ld lo lw dw n) (lw' : Addr) : SeaF (cX "wet_names" (.ref lw') F) pl ld lo lw' dw n := by
 refine ⟨?_, ?_, ?_, ?_, ?_, ?_, fun m hm => ?_, ?_⟩
 ·rw [aU, if_neg (by decide +kernel)]; exact h.f1
 ·rw [aU, if_neg (by decide +kernel)]; exact h.f2
 ·rw [aU, if_neg (by decide +kernel)]; exact h.f3
 ·rw [aU, if_pos rfl]
 ·rw [aU, if_neg (by decide +kernel)]; exact h.f5
 ·rw [aU, if_neg (by decide +kernel)]; exact h.f6
 ·rw [aU, if_neg (fun e => hm (by rw [e]; decide +kernel))]; exact h.no m hm
 ·rw [pH _ _ _ ⟨_, h.f4⟩]; exact h.len
theorem SeaF.putN {F : List (Str × V)} {pl ld lo lw dw : Addr} {n : Int} (h : SeaF F pl ld lo lw dw n) (n' : Int) : SeaF (cX "day_count" (.int n') F) pl ld lo lw dw n' := by
 refine ⟨?_, ?_, ?_, ?_, ?_, ?_, fun m hm => ?_, ?_⟩
 ·rw [aU, if_neg (by decide +kernel)]; exact h.f1
 ·rw [aU, if_neg (by decide +kernel)]; exact h.f2
 ·rw [aU, if_neg (by decide +kernel)]; exact h.f3
 ·rw [aU, if_neg (by decide +kernel)]; exact h.f4
 ·rw [aU, if_pos rfl]
 ·rw [aU, if_neg (by decide +kernel)]; exact h.f6
 ·rw [aU, if_neg (fun e => hm (by rw [e]; decide +kernel))]; exact h.no m hm
 ·rw [pH _ _ _ ⟨_, h.f5⟩]; exact h.len
def fP (zs : List Str) (cnt : Str → Int) : List (Key × V) := zs.map fun z => (Sum.inr z, V.int (cnt z))
structure SeaAt (CS C : Addr) (H : Hp) (p dw pl : Addr) (fs ds : List Dv) (xs : List Dk) (op wt : List Str) (n : Int) (cnt : Str → Int) : Prop where
 ex : ∃ dx F ld lo lw, H p = some (.ins CS dx F) ∧ SeaF F pl ld lo lw dw n ∧ Decs H ld ((ds.filter bC).map aK) (fs.map aK) xs ∧ H lo = some (.lst (op.map V.str)) ∧ H lw = some (.lst (wt.map V.str))
 land : LandAt C H pl fs ds
 dwt : H dw = some (.dK (fP (fs.map aK) cnt))
 sub : ∀ z ∈ op, z ∈ (ds.filter bC).map aK
 lop : op.length ≤ 1000
 lx : xs.length ≤ 60
theorem SeaAt.same {CS C : Addr} {H H' : Hp} (S : aI H H') {p dw pl : Addr} {fs ds : List Dv} {xs : List Dk} {op wt : List Str} {n : Int} {cnt : Str → Int} (h : SeaAt CS C H p dw pl fs ds xs op wt n cnt) : SeaAt CS C H' p dw pl fs ds xs op wt n cnt := by
 obtain ⟨dx, F, ld, lo, lw, e, sf, dc, h1, h2⟩ := h.ex
 exact ⟨⟨dx, F, ld, lo, lw, S _ _ e, sf, dc.same S, S _ _ h1, S _ _ h2⟩, h.land.same S, S _ _ h.dwt, h.sub, h.lop, h.lx⟩
def aBJ (CS C : Addr) : Sp := sp1 fun x H Q => ∃ (p dw pl : Addr) (fs ds : List Dv) (xs : List Dk) (op wt : List Str) (n : Int) (cnt : Str → Int), x = .ref p ∧ SeaAt CS C H p dw pl fs ds xs op wt n cnt ∧ ∀ (l : Addr), H l = none → Q (.ref l) (upd H l (.lst (op.map V.str)))
theorem oP (T : Txt K mg C) {CS : Addr} (hCS : mg "Season" = some (.ref CS)) : Mc P w K mg base 1 CS "opened" ["self"] (aBJ CS C) := by
 obtain ⟨C_Season, cl_Season, mg_Season, na_on_land, na_own_decrees, na_open_names, na_wet_names, na_day_count, na_wet_counts, i_Season, m_season_p_day, m_season_p_days, m_season_p_opened, m_season_p_wet, m_season_p_count, m_season_p_wet_days, m_season_p_onto⟩ := T.k_Season
 rw [hCS] at mg_Season
 cases mg_Season
 refine m_season_p_opened.mc oI nZ (fun f cdv A outer s H vs Q E hr h => ?_)
 obtain ⟨x, rfl, p, dw, pl, fs, ds, xs, op, wt, n, cnt, rfl, SA, q⟩ := h
 obtain ⟨dx, F, ld, lo, lw, e, sf, dc, h1, h2⟩ := SA.ex
 refine ⟨_, (aH (@aR _ _ _ _ (@cL _ _ _ _ _ _ _ _ _ (@iO _ (K) rfl) rfl T.n_list eC (@aA _ _ _ _ _ (@gT _ _ _ _ _ (pv 0) rfl) aD (by rfl)) (by decide) (by decide) (by rfl) (by rfl)))), ?_⟩
 exact ⟨_, rfl, p, CS, dx, F, _, rfl, e, cl_Season, na_open_names, sf.f3, lo, _, rfl, .inl (SqL.of h1), q⟩
def aER (CS C : Addr) : Sp := sp1 fun x H Q => ∃ (p dw pl : Addr) (fs ds : List Dv) (xs : List Dk) (op wt : List Str) (n : Int) (cnt : Str → Int), x = .ref p ∧ SeaAt CS C H p dw pl fs ds xs op wt n cnt ∧ ∀ (l : Addr), H l = none → Q (.ref l) (upd H l (.lst (wt.map V.str)))
theorem rG (T : Txt K mg C) {CS : Addr} (hCS : mg "Season" = some (.ref CS)) : Mc P w K mg base 1 CS "wet" ["self"] (aER CS C) := by
 obtain ⟨C_Season, cl_Season, mg_Season, na_on_land, na_own_decrees, na_open_names, na_wet_names, na_day_count, na_wet_counts, i_Season, m_season_p_day, m_season_p_days, m_season_p_opened, m_season_p_wet, m_season_p_count, m_season_p_wet_days, m_season_p_onto⟩ := T.k_Season
 rw [hCS] at mg_Season
 cases mg_Season
 refine m_season_p_wet.mc qZ nZ (fun f cdv A outer s H vs Q E hr h => ?_)
 obtain ⟨x, rfl, p, dw, pl, fs, ds, xs, op, wt, n, cnt, rfl, SA, q⟩ := h
 obtain ⟨dx, F, ld, lo, lw, e, sf, dc, h1, h2⟩ := SA.ex
 refine ⟨_, (aH (@aR _ _ _ _ (@cL _ _ _ _ _ _ _ _ _ (@iO _ (K) rfl) rfl T.n_list eC (@aA _ _ _ _ _ (@gT _ _ _ _ _ (pv 0) rfl) aD (by rfl)) (by decide) (by decide) (by rfl) (by rfl)))), ?_⟩
 exact ⟨_, rfl, p, CS, dx, F, _, rfl, e, cl_Season, na_wet_names, sf.f4, lw, _, rfl, .inl (SqL.of h2), q⟩
def cV (p : Addr) (H H' : Hp) : Prop := ∀ b o, H b = some o → b ≠ p → H' b = some o
theorem cV.lt {p : Addr} {H H' : Hp} {o : HO} (hp : H p = some o) (ho : aIG o = false) (X : cV p H H') : uN H H' := fun b o' e l => X b o' e (fun z => by
 rw [z, hp] at e
 cases e
 rw [ho] at l
 cases l)
theorem cV.then {p : Addr} {H H' H'' : Hp} (X : cV p H H') (S : aI H' H'') : cV p H H'' := fun b o e n => S _ _ (X b o e n)
theorem cV.put {p : Addr} {H H' : Hp} {o : HO} (X : cV p H H') : cV p H (upd H' p o) := fun b o' e n => by rw [aT n]; exact X b o' e n
theorem aI.x {p : Addr} {H H' : Hp} (S : aI H H') : cV p H H' := fun b o e _ => S _ _ e
theorem aFG {H : Hp} {q : Dv → Bool} (hq : ∀ d, q d = true → ∃ r, d = .tup r) : ∀ {ds : List Dv} {kvs : List (Key × V)}, IsL H ds (kvs.map (·.2)) → (∀ d ∈ ds, q d = true) → 1 ≤ ds.length → ∃ kv ∈ kvs, ∃ a, kv.2 = V.ref a
 | [], _, _, _, h => absurd h (by decide)
 | d :: ds, [], ⟨v, r, e, _⟩, _, _ => by cases e
 | d :: ds, kv :: kvs, ⟨v, r, e, h, _⟩, g, _ => by
  rw [List.map_cons] at e
  cases e
  obtain ⟨r, rfl⟩ := hq d (g d List.mem_cons_self)
  obtain ⟨a, vs, ea, _⟩ := h
  exact ⟨kv, List.mem_cons_self, a, ea⟩
theorem aBD {H H' : Hp} {p d : Addr} {o : HO} {ds : List Dv} {q : Dv → Bool} (hq : ∀ d, q d = true → ∃ r, d = .tup r) (hp : H p = some o) (ho : aIG o = false) (hk : ∀ kvs, o = .dK kvs → ∀ kv ∈ kvs, ∃ i, kv.2 = V.int i) (X : cV p H H') (t : uM H d ds) (g : ∀ d ∈ ds, q d = true) (nD : ∀ d ∈ ds, noD d = true) (l : 1 ≤ ds.length) : uM H' d ds := by
 obtain ⟨kvs, e, k, i⟩ := t
 refine ⟨kvs, X _ _ e (fun z => ?_), k, IsL.sameLT (X.lt hp ho) _ _ (pO nD) i⟩
 rw [z, hp] at e
 cases e
 obtain ⟨kv, m, a, ea⟩ := aFG hq i g l
 obtain ⟨j, ej⟩ := hk kvs rfl kv m
 rw [ea] at ej
 cases ej
theorem tP {C p pl : Addr} {H H' : Hp} {o : HO} {fs ds : List Dv} (hp : H p = some o) (ho : aIG o = false) (hk : ∀ kvs, o = .dK kvs → ∀ kv ∈ kvs, ∃ i, kv.2 = V.int i) (np : pl ≠ p) (X : cV p H H') (L : LandAt C H pl fs ds) : LandAt C H' pl fs ds := by
 obtain ⟨dx, d1, d2, hx, t1, t2⟩ := L.ex
 obtain ⟨gf, gd⟩ := bY L
 refine ⟨⟨dx, d1, d2, X _ _ hx np, ?_, ?_⟩, L.okf, L.okd⟩
 ·exact aBD (q := cD) (fun d h => by obtain ⟨z, g, e, rfl, _⟩ := bJ h; exact ⟨_, rfl⟩) hp ho hk X t1 gf.all (fun d m => vP (gf.all d m)) gf.l1
 ·exact aBD (q := cY ("sea" :: fs.map aK)) (fun d h => by obtain ⟨n, a, b, c, r, s, rfl, _⟩ := bR h; exact ⟨_, rfl⟩) hp ho hk X t2 gd.all (fun d m => aGW (gd.all d m)) gd.l1
theorem aAN {gs zs : List Str} {xs : List Dk} {H : Hp} {l : Addr} (h : Decs H l gs zs xs) (hl : xs.length ≤ 60) : dR (.lst (xs.map dkD)) = true ∧ nX gs zs (.lst (xs.map dkD)) = true := ⟨aCF h.ok (by omega), vT h.ok hl⟩
def aBK (CS C : Addr) : Sp := sp3 fun x y z H Q => ∃ (p dx pl ld : Addr) (fs ds : List Dv) (xs : List Dk), x = .ref p ∧ H p = some (.ins CS dx []) ∧ y = .ref pl ∧ LandAt C H pl fs ds ∧ z = .ref ld ∧ Decs H ld ((ds.filter bC).map aK) (fs.map aK) xs ∧ xs.length ≤ 60 ∧
 ∀ (dw : Addr) (H' : Hp), SeaAt CS C H' p dw pl fs ds xs [] [] 0 (fun _ => 0) → H dw = none → cV p H H' → Q .non H'
theorem aGA (d1 d2 : Addr) : lG d1 d2 ≠ [] := fun e => by
 have := rW d1 d2
 rw [e] at this
 cases this
theorem lU (f : Str) (v : V) : ∀ F : List (Str × V), (cX f v F).length ≤ F.length + 1
 | [] => Nat.le_refl _
 | (g, x) :: F => by
  have ih := lU f v F
  unfold cX
  by_cases e : g = f
  ·subst e
   simp
  ·simp [e]
   exact ih
def sF1 (pl : Addr) : List (Str × V) := cX "on_land" (.ref pl) []
def sF2 (pl ld : Addr) : List (Str × V) := cX "own_decrees" (.ref ld) (sF1 pl)
def sF3 (pl ld lo : Addr) : List (Str × V) := cX "open_names" (.ref lo) (sF2 pl ld)
def sF4 (pl ld lo lw : Addr) : List (Str × V) := cX "wet_names" (.ref lw) (sF3 pl ld lo)
def sF5 (pl ld lo lw : Addr) (n : Int) : List (Str × V) := cX "day_count" (.int n) (sF4 pl ld lo lw)
def sF6 (pl ld lo lw dw : Addr) (n : Int) : List (Str × V) := cX "wet_counts" (.ref dw) (sF5 pl ld lo lw n)
theorem sQ (pl ld lo lw dw : Addr) (n : Int) : (sF1 pl).length ≤ 1 ∧ (sF2 pl ld).length ≤ 2 ∧ (sF3 pl ld lo).length ≤ 3 ∧ (sF4 pl ld lo lw).length ≤ 4 ∧ (sF5 pl ld lo lw n).length ≤ 5 ∧ (sF6 pl ld lo lw dw n).length ≤ 6 := by
 have h1 : (sF1 pl).length ≤ 1 := lU "on_land" (.ref pl) []
 have h2 := lU "own_decrees" (.ref ld) (sF1 pl)
 have h3 := lU "open_names" (.ref lo) (sF2 pl ld)
 have h4 := lU "wet_names" (.ref lw) (sF3 pl ld lo)
 have h5 := lU "day_count" (.int n) (sF4 pl ld lo lw)
 have h6 := lU "wet_counts" (.ref dw) (sF5 pl ld lo lw n)
 unfold sF6 sF5 sF4 sF3 sF2 at *
 omega
theorem aCV (pl ld lo lw dw : Addr) (n : Int) : SeaF (sF6 pl ld lo lw dw n) pl ld lo lw dw n := by
 have hl := (sQ pl ld lo lw dw n).2.2.2.2.2
 unfold sF6 sF5 sF4 sF3 sF2 sF1 at hl ⊢
 have q : ∀ (m f : Str) (v : V) (F : List (Str × V)), ¬ m = f → (cX f v F).lookup m = F.lookup m := fun m f v F h => by rw [aU, if_neg h]
 have r : ∀ (f : Str) (v : V) (F : List (Str × V)), (cX f v F).lookup f = some v := fun f v F => by rw [aU, if_pos rfl]
 refine ⟨?_, ?_, ?_, ?_, ?_, ?_, fun m hm => ?_, hl⟩
 ·rw [q _ _ _ _ (by decide +kernel), q _ _ _ _ (by decide +kernel), q _ _ _ _ (by decide +kernel), q _ _ _ _ (by decide +kernel), q _ _ _ _ (by decide +kernel), r]
 ·rw [q _ _ _ _ (by decide +kernel), q _ _ _ _ (by decide +kernel), q _ _ _ _ (by decide +kernel), q _ _ _ _ (by decide +kernel), r]
 ·rw [q _ _ _ _ (by decide +kernel), q _ _ _ _ (by decide +kernel), q _ _ _ _ (by decide +kernel), r]
 ·rw [q _ _ _ _ (by decide +kernel), q _ _ _ _ (by decide +kernel), r]
 ·rw [q _ _ _ _ (by decide +kernel), r]
 ·rw [r]
 ·unfold aLQ at hm
  simp only [List.mem_cons, List.not_mem_nil, or_false, not_or] at hm
  obtain ⟨m1, m2, m3, m4, m5, m6⟩ := hm
  rw [q _ _ _ _ m6, q _ _ _ _ m5, q _ _ _ _ m4, q _ _ _ _ m3, q _ _ _ _ m2, q _ _ _ _ m1]
  rfl
theorem rF (T : Txt K mg C) {CS : Addr} (hCS : mg "Season" = some (.ref CS)) : Ic P w K mg base 7 CS ["self", "land", "decrees"] (aBK CS C) := by
 obtain ⟨C_Season, cl_Season, mg_Season, na_on_land, na_own_decrees, na_open_names, na_wet_names, na_day_count, na_wet_counts, i_Season, m_season_p_day, m_season_p_days, m_season_p_opened, m_season_p_wet, m_season_p_count, m_season_p_wet_days, m_season_p_onto⟩ := T.k_Season
 rw [hCS] at mg_Season
 cases mg_Season
 have G_p_check_decrees : Fc P w K mg base 6 "check_decrees" ["land", "thing"] (wK C) := kC T
 have G_p_copied : Fc P w K mg base 1 "copied" ["decrees"] xV := yK T
 have G_land_p_field_names : Mc P w K mg base 1 C "field_names" ["self"] (kR C fun fs _ => fs.map aK) := dN T
 refine i_Season.ic qY yS (fun f cdv A outer s H vs Q E hr h => ?_)
 obtain ⟨x, y, z, rfl, p, dx, pl, ld, fs, ds, xs, rfl, hp, rfl, L, rfl, dc, l60, q⟩ := h
 have big := bT
 have np : pl ≠ p := fun e => by
  obtain ⟨dx', d1, d2, hx, _⟩ := L.ex
  rw [e, hp] at hx
  exact aGA d1 d2 (HO.ins.inj (Option.some.inj hx)).2.2.symm
 obtain ⟨us, hl, il⟩ := dc.ex
 obtain ⟨sm, ok⟩ := aAN dc l60
 have gf := (bY L).1
 have f2 := gf.l2
 have noK : ∀ {o : HO} {F : List (Str × V)}, o = .ins CS dx F → ∀ kvs, o = .dK kvs → ∀ kv ∈ kvs, ∃ i, kv.2 = V.int i := fun e kvs e' => by rw [e] at e'; cases e'
 refine ⟨_, (aG (@fR _ _ _ _ (@bO _ _ _ _ _ _ _ _ _ _ G_p_check_decrees (hr.mono (by decide)) (aA (pv 1) (aA (pv 2) aD)) (by rfl) (by decide) (by rfl) (by rfl)) (by rfl)) (aG (@kT _ _ _ _ _ _ _ _ (pv 0) (pv 1) rfl) (aG (@kT _ _ _ _ _ _ _ _ (pv 0) (@bO _ _ _ _ _ _ _ _ _ _ G_p_copied (hr.mono (by decide)) (aA (pv 2) aD) (by rfl) (by decide) (by rfl) (by rfl)) rfl) (aG (@kT _ _ _ _ _ _ _ _ (pv 0) (@cG _ _ _ _ aD) rfl) (aG (@kT _ _ _ _ _ _ _ _ (pv 0) (@cG _ _ _ _ aD) rfl) (aG (@kT _ _ _ _ _ _ _ _ (pv 0) aE rfl) (aH (@kT _ _ _ _ _ _ _ _ (pv 0) (@cL _ _ _ _ _ _ _ _ _ (@cZ _ rfl) rfl T.n_dict gW (aA (@cA _ _ _ _ _ _ _ _ _ _ _ ["name"] 1 [] rfl (@bM _ _ _ _ (@jD _ _ _ _ _ _ _ _ _ _ _ T.cl_Land G_land_p_field_names (hr.mono (by decide)) (pv 1) (by rfl))) (fun R => @aO _ _ (0) _ (show List.Nodup (["name"] : List Str) by decide +kernel) rfl (Or.inl rfl) (by trivial)) (@aZ _ _ (by decide)) (fun R => cI) (fun R => (@cO _ _ _ _ _ (aA (pv 0) (aA aE aD)))) (by rfl) (by rfl) (by rfl) (by rfl) (by rfl) (by rfl) (by rfl) (by intro _; rfl)) aD) (by decide) (by decide) (by rfl) (by rfl)) rfl)))))))), ?_⟩
 refine ⟨_, rfl, _, rfl, _, _, rfl, pl, fs, ds, .lst (xs.map dkD), rfl, L, ⟨ld, us, rfl, hl, il⟩, sm, ok, fun H1 S1 => ?_⟩
 refine ⟨_, rfl, _, rfl, p, CS, dx, [], rfl, S1 _ _ hp, cl_Season, na_on_land, by decide, ?_⟩
 have X1 : cV p H (upd H1 p (.ins CS dx (sF1 pl))) := (aI.x S1).put
 have hp1 : upd H1 p (.ins CS dx (sF1 pl)) p = some (.ins CS dx (sF1 pl)) := aB
 change aCR _ _ _ _ (upd H1 p (.ins CS dx (sF1 pl)))
 generalize upd H1 p (.ins CS dx (sF1 pl)) = H2 at X1 hp1
 have dc1 := dc.sameLT (X1.lt hp rfl)
 refine ⟨_, rfl, _, rfl, ld, _, _, xs, rfl, dc1, by omega, fun l3 H3 S3 nl3 dc3 => ?_⟩
 have sl := sQ pl l3 l3 l3 l3 0
 refine ⟨_, rfl, p, CS, dx, sF1 pl, rfl, S3 _ _ hp1, cl_Season, na_own_decrees, by omega, ?_⟩
 have X2 : cV p H (upd H3 p (.ins CS dx (sF2 pl l3))) := (X1.then S3).put
 have hp2 : upd H3 p (.ins CS dx (sF2 pl l3)) p = some (.ins CS dx (sF2 pl l3)) := aB
 have dc4 : Decs (upd H3 p (.ins CS dx (sF2 pl l3))) l3 _ _ xs := dc3.sameLT ((aI.x (aI.refl H3)).put.lt (S3 _ _ hp1) rfl)
 change aCR _ _ _ _ (upd H3 p (.ins CS dx (sF2 pl l3)))
 generalize upd H3 p (.ins CS dx (sF2 pl l3)) = H4 at X2 hp2 dc4
 refine ⟨aN rfl, fun lo hlo => ?_⟩
 have S5 := aI.upd (o := .lst []) hlo
 have sl := sQ pl l3 lo lo lo 0
 refine ⟨_, rfl, p, CS, dx, sF2 pl l3, rfl, S5 _ _ hp2, cl_Season, na_open_names, by omega, ?_⟩
 have nlo : lo ≠ p := fun z => by rw [z, hp2] at hlo; cases hlo
 have X3 : cV p H4 (upd (upd H4 lo (.lst [])) p (.ins CS dx (sF3 pl l3 lo))) := (aI.x S5).put
 have hp3 : upd (upd H4 lo (.lst [])) p (.ins CS dx (sF3 pl l3 lo)) p = some (.ins CS dx (sF3 pl l3 lo)) := aB
 have hlo3 : upd (upd H4 lo (.lst [])) p (.ins CS dx (sF3 pl l3 lo)) lo = some (.lst []) := by rw [aT nlo, aB]
 change aCR _ _ _ _ (upd (upd H4 lo (.lst [])) p (.ins CS dx (sF3 pl l3 lo)))
 generalize upd (upd H4 lo (.lst [])) p (.ins CS dx (sF3 pl l3 lo)) = H5 at X3 hp3 hlo3
 have dc5 := dc4.sameLT (X3.lt hp2 rfl)
 have Y3 : cV p H H5 := fun b o e n => X3 _ _ (X2 b o e n) n
 refine ⟨aN rfl, fun lw hlw => ?_⟩
 have S6 := aI.upd (o := .lst []) hlw
 have sl := sQ pl l3 lo lw lo 0
 refine ⟨_, rfl, p, CS, dx, sF3 pl l3 lo, rfl, S6 _ _ hp3, cl_Season, na_wet_names, by omega, ?_⟩
 have nlw : lw ≠ p := fun z => by rw [z, hp3] at hlw; cases hlw
 have X4 : cV p H5 (upd (upd H5 lw (.lst [])) p (.ins CS dx (sF4 pl l3 lo lw))) := (aI.x S6).put
 have hp4 : upd (upd H5 lw (.lst [])) p (.ins CS dx (sF4 pl l3 lo lw)) p = some (.ins CS dx (sF4 pl l3 lo lw)) := aB
 have hlw4 : upd (upd H5 lw (.lst [])) p (.ins CS dx (sF4 pl l3 lo lw)) lw = some (.lst []) := by rw [aT nlw, aB]
 change aCR _ _ _ _ (upd (upd H5 lw (.lst [])) p (.ins CS dx (sF4 pl l3 lo lw)))
 generalize upd (upd H5 lw (.lst [])) p (.ins CS dx (sF4 pl l3 lo lw)) = H6 at X4 hp4 hlw4
 have dc6 := dc5.sameLT (X4.lt hp3 rfl)
 have hlo4 := X4 _ _ hlo3 nlo
 have Y4 : cV p H H6 := fun b o e n => X4 _ _ (Y3 b o e n) n
 refine ⟨_, rfl, p, CS, dx, sF4 pl l3 lo lw, rfl, hp4, cl_Season, na_day_count, by omega, ?_⟩
 have X5 : cV p H6 (upd H6 p (.ins CS dx (sF5 pl l3 lo lw 0))) := (aI.x (aI.refl H6)).put
 have hp5 : upd H6 p (.ins CS dx (sF5 pl l3 lo lw 0)) p = some (.ins CS dx (sF5 pl l3 lo lw 0)) := aB
 change Ends.nx _ _ (upd H6 p (.ins CS dx (sF5 pl l3 lo lw 0)))
 generalize upd H6 p (.ins CS dx (sF5 pl l3 lo lw 0)) = H7 at X5 hp5
 have dc7 := dc6.sameLT (X5.lt hp4 rfl)
 have hlo5 := X5 _ _ hlo4 nlo
 have hlw5 := X5 _ _ hlw4 nlw
 have Y5 : cV p H H7 := fun b o e n => X5 _ _ (Y4 b o e n) n
 have L7 := tP hp rfl (noK rfl) np Y5 L
 obtain ⟨dxl, e1, e2, hxl, _⟩ := L7.ex
 refine ⟨_, rfl, pl, dxl, _, rfl, hxl, dL _ _ (by decide +kernel) (by decide +kernel), _, rfl, pl, fs, ds, rfl, L7, fun ln H8 S8 nln hln => ?_⟩
 refine ⟨ln, rfl, ⟨_, SqL.of hln⟩, ?_⟩
 have lcn : (fP (fs.map aK) (fun _ => 0)).length = fs.length := by unfold fP; rw [List.length_map, List.length_map]
 refine bP (F := K) (xs := (fs.map aK).map V.str) (by rw [List.length_map, List.length_map]; omega) (fun i ys H' => aI H8 H' ∧ bV H' ys ((fP (fs.map aK) (fun _ => 0)).take i)) ⟨aI.refl _, bV.nil _⟩ ?_ ?_ ?_
 ·rintro i ys H' hi' ⟨S, pr⟩
  exact ⟨SqL.of (S _ _ hln), by have := pr.len; rw [List.length_take] at this; omega⟩
 ·rintro i xv ys H' K1 K2 hxi ⟨S, pr⟩ k1 k2
  obtain ⟨z, ez⟩ : ∃ z, (fs.map aK)[i]? = some z := by
   have := (List.getElem?_eq_some_iff.mp hxi).1
   rw [List.length_map] at this
   exact ⟨_, List.getElem?_eq_getElem this⟩
  rw [List.getElem?_map, ez] at hxi
  cases hxi
  refine ⟨_, rfl, aN rfl, fun t ht => k1 _ _ ⟨S.trans (aI.upd ht), ?_⟩⟩
  have e : (fP (fs.map aK) (fun _ => 0))[i]? = some (Sum.inr z, .int 0) := by
   unfold fP
   rw [List.getElem?_map, ez]
   rfl
  rw [List.take_add_one, e]
  exact pr.snoc (k := Sum.inr z) ht
 rintro ys H9 ⟨S9, pr⟩
 rw [List.take_of_length_le (by rw [lcn, List.length_map, List.length_map]; exact Nat.le_refl _)] at pr
 intro p4 hp4'
 have S10 := aI.upd (o := .lst ys) hp4'
 refine ⟨p4, ys, fP (fs.map aK) (fun _ => 0), rfl, SqL.of aB, pr.same S10, by rw [lcn]; omega, ?_, fun dw hdw => ?_⟩
 ·have e : (fP (fs.map aK) (fun _ => 0)).map (·.1) = (fs.map aK).map (Sum.inr : Str → Key) := by unfold fP; rw [List.map_map]; rfl
  rw [e, jK]
  exact gf.nd
 have S11 := aI.upd (o := .dK (fP (fs.map aK) (fun _ => 0))) hdw
 have S12 := S8.trans (S9.trans (S10.trans S11))
 have hdw12 : upd (upd H9 p4 (.lst ys)) dw (.dK (fP (fs.map aK) (fun _ => 0))) dw = some (.dK (fP (fs.map aK) (fun _ => 0))) := aB
 have ndw : H7 dw = none := (S8.trans (S9.trans S10)).free hdw
 generalize upd (upd H9 p4 (.lst ys)) dw (.dK (fP (fs.map aK) (fun _ => 0))) = H12 at S12 hdw12
 have sl := sQ pl l3 lo lw dw 0
 refine ⟨_, rfl, p, CS, dx, sF5 pl l3 lo lw 0, rfl, S12 _ _ hp5, cl_Season, na_wet_counts, by omega, ?_⟩
 have X6 : cV p H7 (upd H12 p (.ins CS dx (sF6 pl l3 lo lw dw 0))) := (aI.x S12).put
 have ndp : dw ≠ p := fun z => by rw [z, hp5] at ndw; cases ndw
 refine q dw _ ⟨⟨dx, sF6 pl l3 lo lw dw 0, l3, lo, lw, aB, aCV _ _ _ _ _ _, dc7.sameLT (X6.lt hp5 rfl), X6 _ _ hlo5 nlo, X6 _ _ hlw5 nlw⟩, tP hp5 rfl (noK rfl) np X6 L7, by show upd _ _ _ _ = _; rw [aT ndp]; exact hdw12, (fun z m => by cases m), by decide, l60⟩ ?_ (fun b o e n => X6 _ _ (Y5 b o e n) n)
 cases e : H dw with
 | none => rfl
 | some o =>
  have := Y5 _ _ e ndp
  rw [ndw] at this
  cases this
theorem aDX {zs : List Str} {c : Str → Int} {g : Str} {b : Int} (m : g ∈ zs) : iB (fP zs c) (Sum.inr g) (.int b) = fP zs fun z => if z = g then b else c z := by
 unfold iB
 have : ((fP zs c).any fun kv => decide (kv.1 = Sum.inr g)) = true := by
  rw [List.any_eq_true]
  exact ⟨(Sum.inr g, .int (c g)), List.mem_map.mpr ⟨g, m, rfl⟩, decide_eq_true rfl⟩
 rw [if_pos this]
 unfold fP
 rw [List.map_map]
 refine List.map_congr_left fun z _ => ?_
 show (if (Sum.inr z : Key) = Sum.inr g then (Sum.inr z, V.int b) else (Sum.inr z, V.int (c z))) = (Sum.inr z, V.int (if z = g then b else c z))
 by_cases h : z = g
 ·rw [if_pos (by rw [h]), if_pos h]
 ·rw [if_neg (fun e => h (Sum.inr.inj e)), if_neg h]
theorem vW {c : Str → Int} : ∀ {zs : List Str} {g : Str}, g ∈ zs → dG (fP zs c) (Sum.inr g) = some (.int (c g))
 | [], _, m => by cases m
 | z :: zs, g, m => by
  unfold dG fP
  rw [List.map_cons, List.find?_cons]
  by_cases h : z = g
  ·subst h
   rw [decide_eq_true (show (Sum.inr z : Key) = Sum.inr z from rfl)]
   rfl
  ·rw [decide_eq_false (show ¬ (Sum.inr z : Key) = Sum.inr g from fun e => h (Sum.inr.inj e))]
   have m' : g ∈ zs := by
    rcases List.mem_cons.mp m with e | e
    ·exact absurd e.symm h
    ·exact e
   exact vW (zs := zs) m'
theorem aAR {zs : List Str} {c : Str → Int} : ∀ kv ∈ fP zs c, ∃ i, kv.2 = V.int i := fun kv m => by
 obtain ⟨z, _, rfl⟩ := List.mem_map.mp m
 exact ⟨_, rfl⟩
def wG (p dw : Addr) (H H' : Hp) : Prop := ∀ b o, H b = some o → b ≠ p → b ≠ dw → H' b = some o
def zC (wt : List Str) (cnt : Str → Int) : Str → Int := fun z => if z ∈ wt then cnt z + 1 else cnt z
theorem aDY {wt : List Str} {i : Nat} {z : Str} {cnt : Str → Int} (nd : wt.Nodup) (e : wt[i]? = some z) : (fun y => if y = z then zC (wt.take i) cnt z + 1 else zC (wt.take i) cnt y) = zC (wt.take (i + 1)) cnt := by
 funext y
 obtain ⟨hi, ez⟩ := List.getElem?_eq_some_iff.mp e
 have nz : ¬ z ∈ wt.take i := fun m => by
  obtain ⟨j, hj, ej⟩ := List.mem_iff_getElem.mp m
  rw [List.getElem_take] at ej
  rw [List.length_take] at hj
  have := (List.getElem_inj nd).mp (ej.trans ez.symm)
  omega
 unfold zC
 rw [List.take_add_one, e]
 by_cases h : y = z
 ·subst h
  rw [if_pos rfl, if_neg nz, if_pos (List.mem_append_right _ (by simp))]
 ·rw [if_neg h]
  by_cases h2 : y ∈ wt.take i
  ·rw [if_pos h2, if_pos (List.mem_append_left _ h2)]
  ·rw [if_neg h2, if_neg (fun m => by
    rcases List.mem_append.mp m with m | m
    ·exact h2 m
    ·simp at m
     exact h m)]
def jA (ds : List Dv) (xs : List Dk) (op wt : List Str) (n lv : Int) : List Str := yG lv wt n ((ds.filter bC).map aK) op xs
def eX (fs ds : List Dv) (xs : List Dk) (op wt : List Str) (n lv : Int) : List Str := aEE fs ds (jA ds xs op wt n lv) lv wt
def aJD (CS C : Addr) : Sp := sp2 fun x y H Q => ∃ (p dw pl : Addr) (fs ds : List Dv) (xs : List Dk) (op wt : List Str) (n lv : Int) (cnt : Str → Int), x = .ref p ∧ SeaAt CS C H p dw pl fs ds xs op wt n cnt ∧ y = .int lv ∧ hgt lv = true ∧
 ∀ (t lo lw : Addr) (H0 H' : Hp), wG p dw H H0 → SeaAt CS C H0 p dw pl fs ds xs (jA ds xs op wt n lv) (eX fs ds xs op wt n lv) (n + 1) (zC (eX fs ds xs op wt n lv) cnt) → aI H0 H' → H0 t = none → H0 lo = none → H0 lw = none → lo ≠ lw → t ≠ lo → t ≠ lw →
  H' t = some (.tup [.ref lo, .ref lw]) → H' lo = some (.lst ((jA ds xs op wt n lv).map V.str)) → H' lw = some (.lst ((eX fs ds xs op wt n lv).map V.str)) → Q (.ref t) H'
theorem rH (T : Txt K mg C) {CS : Addr} (hCS : mg "Season" = some (.ref CS)) : Mc P w K mg base 8 CS "day" ["self", "level"] (aJD CS C) := by
 have G_season_p_opened : Mc P w K mg base 1 CS "opened" ["self"] (aBJ CS C) := oP T hCS
 have G_season_p_wet : Mc P w K mg base 1 CS "wet" ["self"] (aER CS C) := rG T hCS
 have G_p_is_height : Fc P w K mg base 2 "is_height" ["thing"] kY := fN T
 have G_p_opened_by : Fc P w K mg base 7 "opened_by" ["land", "decrees", "opened", "level", "wet", "day"] (xT C) := tD T
 have G_p_wet_fields : Fc P w K mg base 6 "wet_fields" ["land", "opened", "level", "before"] (aEP C) := rJ T
 obtain ⟨C_Season, cl_Season, mg_Season, na_on_land, na_own_decrees, na_open_names, na_wet_names, na_day_count, na_wet_counts, i_Season, m_season_p_day, m_season_p_days, m_season_p_opened, m_season_p_wet, m_season_p_count, m_season_p_wet_days, m_season_p_onto⟩ := T.k_Season
 rw [hCS] at mg_Season
 cases mg_Season
 refine m_season_p_day.mc iY jH (fun f cdv A outer s H vs Q E hr h => ?_)
 obtain ⟨x, y, rfl, p, dw, pl, fs, ds, xs, op, wt, n, lv, cnt, rfl, SA, rfl, hlv, q⟩ := h
 obtain ⟨dx, F, ld, lo, lw, hp, sf, dc, hlo, hlw⟩ := SA.ex
 have L := SA.land
 have gf := (bY L).1
 have gd := (bY L).2
 have f2 := gf.l2
 have d2 := gd.l2
 have big := bT
 have hu := kF hr
 have np : pl ≠ p := fun e => by
  obtain ⟨dx', d1, d2, hx, _⟩ := L.ex
  rw [e, hp] at hx
  have e' := (HO.ins.inj (Option.some.inj hx)).2.2
  have := sf.no "field_rows" (by decide +kernel)
  rw [e', rW] at this
  cases this
 have noK : ∀ {o : HO} {F : List (Str × V)}, o = .ins CS dx F → ∀ kvs, o = .dK kvs → ∀ kv ∈ kvs, ∃ i, kv.2 = V.int i := fun e kvs e' => by rw [e] at e'; cases e'
 refine ⟨_, (aG (@cE _ _ _ _ _ _ _ _ (@dP _ _ _ _ (@cN _ _ _ (@bO _ _ _ _ _ _ _ _ _ _ G_p_is_height (hr.mono (by decide)) (aA (pv 1) aD) (by rfl) (by decide) (by rfl) (by rfl)) (by intro _; rfl))) (aH mV) bE) (aG (@aS _ _ (2) _ _ _ _ iY.nd rfl (Or.inl rfl) (@gT _ _ _ _ _ (pv 0) rfl) (by rfl) (by trivial)) (aG (@kT _ _ _ _ _ _ _ _ (pv 0) (@bO _ _ _ _ _ _ _ _ _ _ G_p_opened_by (hr.mono (by decide)) (@aA _ _ _ _ _ (pv 2) (@aA _ _ _ _ _ (@gT _ _ _ _ _ (pv 0) rfl) (@aA _ _ _ _ _ (@gT _ _ _ _ _ (pv 0) rfl) (@aA _ _ _ _ _ (pv 1) (@aA _ _ _ _ _ (@gT _ _ _ _ _ (pv 0) rfl) (@aA _ _ _ _ _ (@gT _ _ _ _ _ (pv 0) rfl) aD (by rfl)) (by rfl)) (by rfl)) (by rfl)) (by rfl)) (by rfl)) (by rfl) (by decide) (by rfl) (by rfl)) rfl) (aG (@kT _ _ _ _ _ _ _ _ (pv 0) (@bO _ _ _ _ _ _ _ _ _ _ G_p_wet_fields (hr.mono (by decide)) (aA (pv 2) (aA (@gT _ _ _ _ _ (pv 0) rfl) (aA (pv 1) (@aA _ _ _ _ _ (@gT _ _ _ _ _ (pv 0) rfl) aD (by rfl))))) (by rfl) (by decide) (by rfl) (by rfl)) rfl) (aG (@aDB _ _ _ _ _ _ _ _ _ _ (pv 0) aE aGJ) (aG (@eY _ _ _ _ _ _ _ _ PassesOwn.never rfl (@bM _ _ _ _ (@gT _ _ _ _ _ (pv 0) rfl)) (@aO _ _ (3) _ iY.nd rfl (Or.inl rfl) (by trivial)) (aH (@aHT _ _ _ _ _ _ _ _ _ _ _ hu (@gT _ _ _ _ _ (pv 0) rfl) (pv 3) aE aGJ (fun _ _ _ => rfl))) (by intro _; rfl)) (aH (@aR _ _ _ _ (@cO _ _ _ _ _ (aA (@jD _ _ _ _ _ _ _ _ _ _ _ cl_Season G_season_p_opened (hr.mono (by decide)) (pv 0) (by rfl)) (aA (@jD _ _ _ _ _ _ _ _ _ _ _ cl_Season G_season_p_wet (hr.mono (by decide)) (pv 0) (by rfl)) aD))))))))))), ?_⟩
 refine ⟨_, rfl, _, rfl, .int lv, rfl, _, rfl, ?_⟩
 rw [show eN (.int lv) = true from hlv]
 refine bF ?_
 refine ⟨_, rfl, p, CS, dx, F, _, rfl, hp, cl_Season, na_on_land, sf.f1, ?_⟩
 refine ⟨_, rfl, _, rfl, p, CS, dx, F, _, rfl, hp, cl_Season, na_own_decrees, sf.f2, _, rfl, p, CS, dx, F, _, rfl, hp, cl_Season, na_open_names, sf.f3, _, rfl, _, rfl, p, CS, dx, F, _, rfl, hp, cl_Season, na_wet_names, sf.f4, _, rfl, p, CS, dx, F, _, rfl, hp, cl_Season, na_day_count, sf.f5, ?_⟩
 refine ⟨_, _, _, _, _, _, rfl, pl, ld, lo, lw, fs, ds, xs, op, wt, lv, n, rfl, L, rfl, dc, SA.lx, rfl, hlo, SA.lop, SA.sub, rfl, rfl, hlw, rfl, fun lo1 H1 S1 nlo1 hlo1 => ?_⟩
 have hlo1 : H1 lo1 = some (.lst ((jA ds xs op wt n lv).map V.str)) := hlo1
 refine ⟨_, rfl, p, CS, dx, F, rfl, S1 _ _ hp, cl_Season, na_open_names, by have := sf.len; omega, ?_⟩
 have sf1 := sf.put lo1
 have nlop : lo1 ≠ p := fun z => by rw [z, hp] at nlo1; cases nlo1
 have X1 : cV p H1 (upd H1 p (.ins CS dx (cX "open_names" (.ref lo1) F))) := (aI.x (aI.refl H1)).put
 have hp1 : upd H1 p (.ins CS dx (cX "open_names" (.ref lo1) F)) p = some (.ins CS dx (cX "open_names" (.ref lo1) F)) := aB
 generalize cX "open_names" (.ref lo1) F = F1 at sf1 X1 hp1 ⊢
 generalize upd H1 p (.ins CS dx F1) = H2 at X1 hp1 ⊢
 have X2 : cV p H H2 := fun b o e m => X1 _ _ (S1 _ _ e) m
 have nlwp : lw ≠ p := fun z => by rw [z, hp] at hlw; cases hlw
 have ndwp : dw ≠ p := fun z => by have := SA.dwt; rw [z, hp] at this; cases this
 have L2 := tP hp rfl (noK rfl) np X2 L
 have dc2 := dc.sameLT (X2.lt hp rfl)
 have hlo2 := X1 _ _ hlo1 nlop
 have lgs : ((ds.filter bC).map aK).length ≤ 40 := by
  rw [List.length_map]
  exact Nat.le_trans (List.length_filter_le _ _) d2
 have lop1 : (jA ds xs op wt n lv).length ≤ 1000 := Nat.le_trans (List.length_filter_le _ _) (by omega)
 have sub1 : ∀ z ∈ jA ds xs op wt n lv, z ∈ (ds.filter bC).map aK := fun z m => (List.mem_filter.mp m).1
 refine ⟨_, rfl, _, rfl, p, CS, dx, F1, _, rfl, hp1, cl_Season, na_open_names, sf1.f3, _, rfl, _, rfl, p, CS, dx, F1, _, rfl, hp1, cl_Season, na_wet_names, sf1.f4, _, _, _, _, rfl, pl, lo1, lw, fs, ds, jA ds xs op wt n lv, wt, lv, rfl, L2, rfl, hlo2, lop1, sub1, rfl, rfl, X2 _ _ hlw nlwp, fun lw1 H3 S3 nlw1 hlw1 => ?_⟩
 have hlw1 : H3 lw1 = some (.lst ((eX fs ds xs op wt n lv).map V.str)) := hlw1
 refine ⟨_, rfl, p, CS, dx, F1, rfl, S3 _ _ hp1, cl_Season, na_wet_names, by have := sf1.len; omega, ?_⟩
 have sf2 := sf1.putW lw1
 have nlw1p : lw1 ≠ p := fun z => by rw [z, hp1] at nlw1; cases nlw1
 have X3 : cV p H3 (upd H3 p (.ins CS dx (cX "wet_names" (.ref lw1) F1))) := (aI.x (aI.refl H3)).put
 have hp2 : upd H3 p (.ins CS dx (cX "wet_names" (.ref lw1) F1)) p = some (.ins CS dx (cX "wet_names" (.ref lw1) F1)) := aB
 generalize cX "wet_names" (.ref lw1) F1 = F2 at sf2 X3 hp2 ⊢
 generalize upd H3 p (.ins CS dx F2) = H4 at X3 hp2 ⊢
 refine ⟨_, rfl, p, CS, dx, F2, .int n, rfl, hp2, cl_Season, na_day_count, sf2.f5, n, 1, rfl, rfl, dx, F2, hp2, by have := sf2.len; omega, ?_⟩
 have sf3 := sf2.putN (n + 1)
 have X4 : cV p H4 (upd H4 p (.ins CS dx (cX "day_count" (.int (n + 1)) F2))) := (aI.x (aI.refl H4)).put
 have hp3 : upd H4 p (.ins CS dx (cX "day_count" (.int (n + 1)) F2)) p = some (.ins CS dx (cX "day_count" (.int (n + 1)) F2)) := aB
 generalize cX "day_count" (.int (n + 1)) F2 = F3 at sf3 X4 hp3 ⊢
 generalize upd H4 p (.ins CS dx F3) = H5 at X4 hp3 ⊢
 have X5 : cV p H2 H5 := fun b o e m => X4 _ _ (X3 _ _ (S3 _ _ e) m) m
 have X6 : cV p H H5 := fun b o e m => X5 _ _ (X2 _ _ e m) m
 have L5 := tP hp1 rfl (noK rfl) np X5 L2
 have dc5 := dc2.sameLT (X5.lt hp1 rfl)
 have hlo5 := X5 _ _ hlo2 nlop
 have hlw5 : H5 lw1 = some (.lst ((eX fs ds xs op wt n lv).map V.str)) := X4 _ _ (X3 _ _ hlw1 nlw1p) nlw1p
 have hdw5 := X6 _ _ SA.dwt ndwp
 have ndw : (eX fs ds xs op wt n lv).Nodup := gf.nd.sublist List.filter_sublist
 have mwt : ∀ z ∈ eX fs ds xs op wt n lv, z ∈ fs.map aK := fun z m => (List.mem_filter.mp m).1
 have lcn : ∀ c, (fP (fs.map aK) c).length = fs.length := fun c => by unfold fP; rw [List.length_map, List.length_map]
 refine ⟨_, rfl, p, CS, dx, F3, _, rfl, hp3, cl_Season, na_wet_names, sf3.f4, lw1, rfl, ⟨_, SqL.of hlw5⟩, ?_⟩
 refine fO (K := K) (a := lw1) (xs := (eX fs ds xs op wt n lv).map V.str) (fun i σ H' => ∃ v3, σ = [some (.ref p), some (.int lv), some (.ref pl), v3] ∧ H' dw = some (.dK (fP (fs.map aK) (zC ((eX fs ds xs op wt n lv).take i) cnt))) ∧ cV dw H5 H')
  ⟨_, rfl, by rw [show zC (List.take 0 (eX fs ds xs op wt n lv)) cnt = cnt from funext fun z => if_neg (by simp)]; exact hdw5, fun b o e _ => e⟩ (fun i σ H' _ ⟨_, _, _, X⟩ => SqL.of (X _ _ hlw5 (fun z => by rw [z, hdw5] at hlw5; cases hlw5))) ?_ ?_
 ·rintro i xv σ H' hxi ⟨v3, rfl, hd', X⟩
  obtain ⟨z, ez⟩ : ∃ z, (eX fs ds xs op wt n lv)[i]? = some z := by
   have := (List.getElem?_eq_some_iff.mp hxi).1
   rw [List.length_map] at this
   exact ⟨_, List.getElem?_eq_getElem this⟩
  rw [List.getElem?_map, ez] at hxi
  cases hxi
  have mz := mwt z (List.mem_of_getElem? ez)
  refine ⟨_, rfl, p, CS, dx, F3, _, rfl, X _ _ hp3 ndwp.symm, cl_Season, na_wet_counts, sf3.f6, _, rfl, dw, _, rfl, (by rw [← vW mz]; exact mH.k (k := Sum.inr z) hd'), _, 1, rfl, rfl, _, aAX.k (k := Sum.inr z) hd' (by rw [lcn]; omega), ?_⟩
  refine ⟨_, rfl, ?_, X.put⟩
  rw [aB, aDX mz, aDY ndw ez]
 ·rintro σ H' ⟨v3, rfl, hd', X⟩
  rw [List.length_map, List.take_of_length_le (Nat.le_refl _)] at hd'
  have hp6 := X _ _ hp3 ndwp.symm
  have nl1 : lo1 ≠ dw := fun z => by rw [z, hdw5] at hlo5; cases hlo5
  have nl2 : lw1 ≠ dw := fun z => by rw [z, hdw5] at hlw5; cases hlw5
  have ndpl : pl ≠ dw := fun z => by
   obtain ⟨dx', e1, e2, hx, _⟩ := L5.ex
   rw [z, hdw5] at hx
   cases hx
  have SA' : SeaAt CS C H' p dw pl fs ds xs (jA ds xs op wt n lv) (eX fs ds xs op wt n lv) (n + 1) (zC (eX fs ds xs op wt n lv) cnt) :=
   ⟨⟨dx, F3, ld, lo1, lw1, hp6, sf3, dc5.sameLT (X.lt hdw5 rfl), X _ _ hlo5 nl1, X _ _ hlw5 nl2⟩, tP hdw5 rfl (fun kvs e => by cases e; exact aAR) ndpl X L5, hd', sub1, lop1, SA.lx⟩
  have Y : wG p dw H H' := fun b o e m1 m2 => X _ _ (X6 _ _ e m1) m2
  refine ⟨_, rfl, p, dx, F3, rfl, hp6, sf3.no _ (by decide +kernel), _, rfl, p, dw, pl, fs, ds, xs, _, _, _, _, rfl, SA', fun l1 hl1 => ?_⟩
  have A1 := aI.upd (o := .lst ((jA ds xs op wt n lv).map V.str)) hl1
  refine ⟨_, rfl, p, dx, F3, rfl, A1 _ _ hp6, sf3.no _ (by decide +kernel), _, rfl, p, dw, pl, fs, ds, xs, _, _, _, _, rfl, SA'.same A1, fun l2 hl2 => ?_⟩
  have A2 := aI.upd (o := .lst ((eX fs ds xs op wt n lv).map V.str)) hl2
  refine ⟨aN rfl, fun t ht => ?_⟩
  have A3 := aI.upd (o := .tup [.ref l1, .ref l2]) ht
  have n12 : l1 ≠ l2 := fun z => by rw [← z, aB] at hl2; cases hl2
  have n2t : t ≠ l2 := fun z => by rw [z, aB] at ht; cases ht
  have n1t : t ≠ l1 := fun z => by rw [z, aT n12, aB] at ht; cases ht
  exact q t l1 l2 H' _ Y SA' (A1.trans (A2.trans A3)) ((A1.trans A2).free ht) hl1 (A1.free hl2) n12 n1t n2t aB ((A2.trans A3) _ _ aB) (A3 _ _ aB)
open Mt21 Mt46
def aEU (K : PySem.W.Frag) : Sp := sp2 fun x y H Q => ∃ k : Int, Scr K H x ∧ y = .int k ∧ 0 ≤ k ∧ ∀ m : Int, 0 ≤ m → Q (.int m) H
theorem mD (T : Txt K mg C) : Fc P w K mg base 1 "_law_mixed" ["_law_script", "_law_k"] (aEU K) := by
 refine T.d_l_mixed.fc oK jH (fun f cdv A outer s H vs Q E hr h => ?_)
 obtain ⟨x, y, rfl, k, ⟨a, ns, rfl, hS, hl⟩, rfl, hk, q⟩ := h
 obtain ⟨j, rfl⟩ := Int.eq_ofNat_of_zero_le hk
 refine ⟨_, (aG (@aS _ _ (2) _ _ _ _ oK.nd rfl (Or.inl rfl) aE (by rfl) (by trivial)) (aG (@cE _ _ _ _ _ _ _ _ (@bD _ _ _ _ _ _ _ _ qO (pv 1) (@aV _ _ _ _ _ _ _ _ _ (@bW _ (K) rfl) rfl T.n_len cM (aA (pv 0) aD) (by decide) (by decide) (by rfl) (by rfl)) (@bB _ _ (by decide) (by decide))) (aH (@aS _ _ (2) _ _ _ _ oK.nd rfl (Or.inl rfl) (@aY _ _ _ _ _ _ _ (@dM _ (K) rfl) (pv 0) (pv 1) (fun _ _ => rfl)) (by rfl) (by trivial))) bE) (aH (@aR _ _ _ _ (@aP _ _ _ _ _ _ _ _ cH (@aP _ _ _ _ _ _ _ _ sW (pv 2) aE) (@aP _ _ _ _ _ _ _ _ eA aE aE)))))), ?_⟩
 have p24 : (0 : Int) < 10 ^ (24 : Int).toNat := by decide
 have fin : ∀ m : Int, Q (.int (m % 10 ^ (24 : Int).toNat)) H := fun m => q _ (Int.emod_nonneg _ (by decide))
 refine ⟨_, rfl, _, rfl, a, _, rfl, .inl hS, _, _, rfl, rfl, _, rfl, ?_⟩
 rw [List.length_map]
 refine kD (fun h1 => ?_) (fun h1 => ?_)
 ·have h1' : j < ns.length := by
   have := of_decide_eq_true h1
   omega
  refine ⟨_, rfl, _, rfl, a, _, _, .int (ns.getD j 0), rfl, rfl, hS, aJ ?_, ?_⟩
  ·rw [List.getElem?_map, List.getElem?_eq_getElem h1', List.getD_eq_getElem?_getD, List.getElem?_eq_getElem h1']
   rfl
  exact ⟨_, rfl, _, _, rfl, rfl, .inr ⟨by decide, by decide⟩, _, _, rfl, rfl, ⟨by decide, by decide, by decide⟩, _, _, rfl, rfl, p24, fin _⟩
 ·exact ⟨_, rfl, _, _, rfl, rfl, .inr ⟨by decide, by decide⟩, _, _, rfl, rfl, ⟨by decide, by decide, by decide⟩, _, _, rfl, rfl, p24, fin _⟩
def aEX : Sp := sp1 fun x H Q => ∃ n : Int, x = .int n ∧ ∀ m : Int, hgt m = true → Q (.int m) H
theorem kM (T : Txt K mg C) : Fc P w K mg base 1 "_law_height" ["_law_cell"] aEX := by
 refine T.d_l_height.fc yB nZ (fun f cdv A outer s H vs Q E hr h => ?_)
 obtain ⟨x, rfl, n, rfl, q⟩ := h
 have p6' : (10 : Int) ^ (6 : Int).toNat = 1000000 := by decide
 refine ⟨_, (aG (@cE _ _ _ _ _ _ _ _ (@bD _ _ _ _ _ _ _ _ iV (@aP _ _ _ _ _ _ _ _ cH (pv 0) aE) aE (@bB _ _ (by decide) (by decide))) (aH (@aR _ _ _ _ (@aP _ _ _ _ _ _ _ _ lZ (@aP _ _ _ _ _ _ _ _ cH (@aP _ _ _ _ _ _ _ _ bQ (pv 0) aE) aE) (@aP _ _ _ _ _ _ _ _ eA aE aE)))) bE) (aH (@aR _ _ _ _ (@aP _ _ _ _ _ _ _ _ lZ (@aP _ _ _ _ _ _ _ _ cH (@aP _ _ _ _ _ _ _ _ bQ (pv 0) aE) aE) aE)))), ?_⟩
 refine ⟨_, rfl, _, _, rfl, rfl, (lW rfl), rfl, _, rfl, ?_⟩
 rw [kP]
 refine kD (fun h1 => ?_) (fun h1 => ?_)
 ·refine ⟨_, rfl, _, _, rfl, rfl, ⟨by decide, by decide⟩, _, _, rfl, rfl, (lW rfl), _, _, rfl, rfl, ⟨by decide, by decide, by decide⟩, _, _, rfl, rfl, q _ ?_⟩
  rw [p6']
  have a0 := Int.emod_nonneg (n / 4) (show (2000001 : Int) ≠ 0 by decide)
  have a1 := Int.emod_lt_of_pos (n / 4) (show (0 : Int) < 2000001 by decide)
  exact wZ (by omega) (by omega)
 ·refine ⟨_, rfl, _, _, rfl, rfl, ⟨by decide, by decide⟩, _, _, rfl, rfl, (lW rfl), _, _, rfl, rfl, q _ ?_⟩
  have a0 := Int.emod_nonneg (n / 4) (show (7 : Int) ≠ 0 by decide)
  have a1 := Int.emod_lt_of_pos (n / 4) (show (0 : Int) < 7 by decide)
  exact wZ (by omega) (by omega)
theorem aMF : ("abcdefghijklmnopqrstuvwxyz" : Str).length = 26 := by decide +kernel
def aJW : Sp := sp1 fun x H Q => ∃ c : Int, x = .int c ∧ ∀ (zs : List Str) (l : Addr) (H' : Hp), Nm zs → aI H H' → H l = none → H' l = some (.lst (zs.map V.str)) → Q (.ref l) H'
theorem tJ (T : Txt K mg C) : Fc P w K mg base 1 "_law_names" ["_law_cell"] aJW := by
 refine T.d_l_names.fc eP nZ (fun f cdv A outer s H vs Q E hr h => ?_)
 obtain ⟨x, rfl, c, rfl, q⟩ := h
 have big := bT
 have l26 := aMF
 have hss : ("abcdefghijklmnopqrstuvwxyz" : Str).length ≤ sizeLine := by rw [l26]; omega
 refine ⟨_, (@aG _ _ _ _ _ (@aS _ _ (1) _ _ _ _ eP.nd rfl (Or.inr rfl) cJ (by rfl) (by first | exact .inl rfl | exact .inr rfl | assumption)) (@aG _ _ _ _ _ (@aS _ _ (2) _ _ _ _ eP.nd rfl (Or.inl rfl) (@aP _ _ _ _ _ _ _ _ fM aE (@aP _ _ _ _ _ _ _ _ cH (pv 0) aE)) (by rfl) (by first | exact .inl rfl | exact .inr rfl | assumption)) (@aG _ _ _ _ _ (@aS _ _ (3) _ _ _ _ eP.nd rfl (Or.inl rfl) (@aP _ _ _ _ _ _ _ _ cH (@aP _ _ _ _ _ _ _ _ bQ (pv 0) aE) (pv 2)) (by rfl) (by first | exact .inl rfl | exact .inr rfl | assumption)) (@aG _ _ _ _ _ (@aS _ _ (4) _ _ _ _ eP.nd rfl (Or.inl rfl) (@aY _ _ _ _ _ _ _ (@dM _ (K) rfl) (@cG _ _ _ _ (@aA _ _ _ _ _ aE (@aA _ _ _ _ _ aE (@aA _ _ _ _ _ aE (@aA _ _ _ _ _ aE (@aA _ _ _ _ _ aE (@aA _ _ _ _ _ aE (@aA _ _ _ _ _ aE (@aA _ _ _ _ _ aE (@aA _ _ _ _ _ aE (@aA _ _ _ _ _ aE (@aA _ _ _ _ _ aE (@aA _ _ _ _ _ aE aD (by rfl)) (by rfl)) (by rfl)) (by rfl)) (by rfl)) (by rfl)) (by rfl)) (by rfl)) (by rfl)) (by rfl)) (by rfl)) (by rfl))) (@aP _ _ _ _ _ _ _ _ cH (@aP _ _ _ _ _ _ _ _ bQ (pv 0) aE) aE) (fun _ _ => rfl)) (by rfl) (by first | exact .inl rfl | exact .inr rfl | assumption)) (@aG _ _ _ _ _ (@aS _ _ (5) _ _ _ _ eP.nd rfl (Or.inl rfl) (@mY _ _ _ _ _ _ _ _ _ _ _ _ PySem.F.plainAttrs_str PySem.F.slot_str_join PySem.F.type_str_join aID cJ (aA (@cA _ _ _ _ _ _ _ _ _ _ _ ["_law_j", "_law_cell", "_law_letters"] 1 [0, 1] rfl (@hE _ _ _ _ _ _ rfl T.n_range (aA (pv 2) aD) (by rfl)) (fun R => @aO _ _ (0) _ (show List.Nodup (["_law_j", "_law_cell", "_law_letters"] : List Str) by decide +kernel) rfl (Or.inl rfl) (by first | exact .inl rfl | exact .inr rfl | assumption)) (@aZ _ _ (by decide)) (fun R => cI) (fun R => (@aY _ _ _ _ _ _ _ aGD (pv 2) (@aP _ _ _ _ _ _ _ _ cH (@aP _ _ _ _ _ _ _ _ fM (@aP _ _ _ _ _ _ _ _ bQ (pv 1) aE) (@aP _ _ _ _ _ _ _ _ sW (pv 0) (pv 0))) aE) (fun _ _ => rfl))) (by rfl) (by rfl) (by rfl) (by rfl) (by rfl) (by rfl) (by rfl) (by intro _; rfl)) aD) (by rfl) (by rfl) (by rfl) (by rfl) (by rfl)) (by rfl) (by first | exact .inl rfl | exact .inr rfl | assumption)) (@aG _ _ _ _ _ (@aS _ _ (6) _ _ _ _ eP.nd rfl (Or.inl rfl) (@cG _ _ _ _ aD) (by rfl) (by first | exact .inl rfl | exact .inr rfl | assumption)) (@aG _ _ _ _ _ (@eY _ _ _ _ _ _ _ _ PassesOwn.never rfl (@hE _ _ _ _ _ _ rfl T.n_range (@aA _ _ _ _ _ aE aD (by rfl)) (by rfl)) (@aO _ _ (7) _ eP.nd rfl (Or.inl rfl) (by first | exact .inl rfl | exact .inr rfl | assumption)) (@aG _ _ _ _ _ (@aS _ _ (8) _ _ _ _ eP.nd rfl (Or.inl rfl) (@aY _ _ _ _ _ _ _ aGD (pv 1) (@aP _ _ _ _ _ _ _ _ cH (@aP _ _ _ _ _ _ _ _ fM (@aP _ _ _ _ _ _ _ _ sW (pv 7) (pv 4)) (@aP _ _ _ _ _ _ _ _ bQ (pv 0) aE)) aE) (fun _ _ => rfl)) (by rfl) (by first | exact .inl rfl | exact .inr rfl | assumption)) (@aH _ _ _ (@fR _ _ _ _ (@mY _ _ _ _ _ _ _ _ _ _ _ _ PySem.F.plainAttrs_list PySem.F.slot_list_append PySem.F.type_list_append fT (pv 6) (aA (@aP _ _ _ _ _ _ _ _ sY (@aP _ _ _ _ _ _ _ _ sY (@sS _ _ _ _ _ _ _ _ _ _ aFB (pv 5) aBW (@rR _ _ _ (pv 3))) (pv 8)) (@sS _ _ _ _ _ _ _ _ _ _ aFB (pv 5) (@rR _ _ _ (@aP _ _ _ _ _ _ _ _ fM (pv 3) aE)) aBW)) aD) (by rfl) (by rfl) (by rfl) (by rfl) (by rfl)) (by rfl)))) (by intro _; rfl)) (@aH _ _ _ (@aR _ _ _ _ (@cA _ _ _ _ _ _ _ _ _ _ _ ["_law_name"] 1 [] rfl (@bM _ _ _ _ (pv 6)) (fun R => @aO _ _ (0) _ (show List.Nodup (["_law_name"] : List Str) by decide +kernel) rfl (Or.inl rfl) (by first | exact .inl rfl | exact .inr rfl | assumption)) (@aZ _ _ (by decide)) (fun R => @gJ _ _ _ (@bD _ _ _ _ _ _ _ _ pL (pv 0) cJ (@bB _ _ (by decide) (by decide)))) (fun R => (pv 0)) (by rfl) (by rfl) (by rfl) (by rfl) (by rfl) (by rfl) (by rfl) (by intro _; rfl))))))))))), ?_⟩
 have z0 : 0 ≤ c % 8 := Int.emod_nonneg _ (by decide)
 have z1 : c % 8 < 8 := Int.emod_lt_of_pos _ (by decide)
 obtain ⟨sz, hsz⟩ := Int.eq_ofNat_of_zero_le (show 0 ≤ 1 + c % 8 by omega)
 refine ⟨_, rfl, _, _, rfl, rfl, (lW rfl), _, _, rfl, rfl, ?_⟩
 dsimp only
 rw [hsz]
 have szp : (0 : Int) < (sz : Int) := by omega
 refine ⟨_, rfl, _, _, rfl, rfl, ⟨by decide, by decide⟩, _, rfl, _, _, rfl, rfl, szp, ?_⟩
 have a0 : 0 ≤ c / 8 % (sz : Int) := Int.emod_nonneg _ (by omega)
 have a1 : c / 8 % (sz : Int) < (sz : Int) := Int.emod_lt_of_pos _ (by omega)
 obtain ⟨at', hat⟩ := Int.eq_ofNat_of_zero_le a0
 dsimp only
 rw [hat]
 refine ⟨aN rfl, fun pb hpb => ?_⟩
 have S0 := aI.upd (o := .lst [.int 1, .int 3, .int 5, .int 7, .int 9, .int 11, .int 15, .int 17, .int 19, .int 21, .int 23, .int 25]) hpb
 obtain ⟨u, mu, eu⟩ := aNW (i := c / 64 % 12) (Int.emod_nonneg _ (by decide)) (Int.emod_lt_of_pos _ (by decide))
 refine ⟨_, rfl, _, _, rfl, rfl, ⟨by decide, by decide⟩, _, _, rfl, rfl, (lW rfl), pb, _, _, .int u, rfl, rfl, SqL.of aB, eu, ?_⟩
 generalize upd H pb (.lst [.int 1, .int 3, .int 5, .int 7, .int 9, .int 11, .int 15, .int 17, .int 19, .int 21, .int 23, .int 25]) = H0 at S0
 refine ⟨rfl, _, rfl, _, rfl, by omega, by omega, ?_⟩
 refine aAQ (lo := 0) (n := sz) (by omega) (fun i ys H' => H0 = H' ∧ ys = ((List.range i).map fun (j : Nat) => sZ (c / 768 + (j : Int) * (j : Int))).map V.str) ⟨rfl, rfl⟩ ?_ ?_ ?_
 ·rintro i ys H' ⟨rfl, rfl⟩
  simp
 ·rintro i ys H' K1 K2 hi ⟨rfl, rfl⟩ k1 k2
  refine ⟨_, rfl, _, rfl, _, _, rfl, rfl, ⟨by decide, by decide⟩, _, rfl, _, rfl, _, _, rfl, rfl, .inl ⟨by omega, by omega⟩, _, _, rfl, rfl, _, _, rfl, rfl, (lW rfl), _, _, ab (c / 768 + (0 + (i : Int)) * (0 + (i : Int))), rfl, rfl, hss, aJO _, k1 _ _ ⟨rfl, ?_⟩⟩
  rw [List.range_succ, List.map_append, List.map_append]
  show _ ++ [V.str (sZ _)] = _ ++ [V.str (sZ _)]
  rw [Int.zero_add]
 rintro ys H' ⟨rfl, rfl⟩
 intro p1 hp1
 have S1 := aI.upd (o := .lst (((List.range sz).map fun (j : Nat) => sZ (c / 768 + (j : Int) * (j : Int))).map V.str)) hp1
 have lsum : ((((List.range sz).map fun (j : Nat) => sZ (c / 768 + (j : Int) * (j : Int)))).map fun y => y.length).sum = sz := by
  rw [List.map_map]
  show ((List.range sz).map fun _ => 1).sum = sz
  have e : ∀ m : Nat, ((List.range m).map fun _ => 1).sum = m := fun m => by
   induction m with
   | zero => rfl
   | succ m ih => rw [List.range_succ, List.map_append, List.sum_append, ih]; rfl
  exact e sz
 refine ⟨"", p1, (List.range sz).map fun (j : Nat) => sZ (c / 768 + (j : Int) * (j : Int)), rfl, rfl, SqL.of aB, by rw [lsum, List.length_map, List.length_range, show ("" : Str).length = 0 by decide +kernel]; omega, ?_⟩
 generalize hb : Txt.join "" ((List.range sz).map fun (j : Nat) => sZ (c / 768 + (j : Int) * (j : Int))) = b
 have bc : b.cps.toList = (List.range sz).map fun (j : Nat) => ab (c / 768 + (j : Int) * (j : Int)) := by
  rw [← hb, aAF, List.map_map]
  show (((List.range sz).map fun j => [ab _]).flatten) = _
  induction (List.range sz) with
  | nil => rfl
  | cons x r ih => rw [List.map_cons, List.flatten_cons, ih, List.map_cons]; rfl
 have bl : b.length = sz := by rw [jM, bc, List.length_map, List.length_range]
 have ball : b.cps.toList.all iG = true := by
  rw [bc, List.all_eq_true]
  intro x hx
  obtain ⟨j, _, rfl⟩ := List.mem_map.mp hx
  exact wF _
 have bs : b.length ≤ sizeLine := by omega
 refine ⟨aN rfl, fun l hl => ?_⟩
 have S2 := aI.upd (o := .lst []) hl
 have hl0 := S1.free hl
 have ub : 1 ≤ u ∧ u ≤ 25 := (show ∀ u ∈ units, 1 ≤ u ∧ u ≤ 25 by decide +kernel) u mu
 refine ⟨_, rfl, by omega, by omega, ?_⟩
 refine iI (lo := 0) (n := 26) (fun i σ H' => ∃ (v7 v8 : Option V) (g : Nat → Str), σ = [some (.int c), some (.str "abcdefghijklmnopqrstuvwxyz"), some (.int sz), some (.int at'), some (.int u), some (.str b), some (.ref l), v7, v8] ∧ aI H0 H' ∧ H' l = some (.lst (((List.range i).map g).map V.str)) ∧ ∀ k, k < i → (g k).cps.toList = b.cps.toList.take at' ++ [ab ((k : Int) * u + c / 19968)] ++ b.cps.toList.drop (at' + 1))
  ⟨_, _, fun _ => "", rfl, S1.trans S2, aB, (fun k hk => absurd hk (by omega))⟩ ?_ ?_
 ·rintro i σ H3 hi ⟨v7, v8, g, rfl, S3, hl3, pu⟩
  have ku : 0 ≤ (0 + (i : Int)) * u := Int.mul_nonneg (by omega) (by omega)
  refine ⟨_, rfl, _, rfl, _, rfl, _, _, rfl, rfl, .inl ⟨by omega, by omega⟩, _, rfl, _, _, rfl, rfl, ⟨by decide, by decide⟩, _, _, rfl, rfl, _, _, rfl, rfl, (lW rfl), _, _, ab ((0 + (i : Int)) * u + c / 19968), rfl, rfl, hss, aJO _, ?_⟩
  have tl : (Txt.slice b none (some (at' : Int))).length ≤ 8 := by
   rw [jM, rZ b at' (by omega), List.length_take]
   omega
  have dl : (Txt.slice b (some ((at' : Int) + 1)) none).length ≤ 8 := by
   rw [show ((at' : Int) + 1) = ((at' + 1 : Nat) : Int) from rfl, jM, uB b (at' + 1) (by omega), List.length_drop, ← jM]
   omega
  have ia : (sZ ((0 + (i : Int)) * u + c / 19968)).length = 1 := rfl
  have sh1 : (sZ ((0 + (i : Int)) * u + c / 19968)).cps.toList = [ab ((0 + (i : Int)) * u + c / 19968)] := rfl
  refine ⟨_, rfl, .inl ⟨rfl, _, SqL.of hl3⟩, _, rfl, _, rfl, _, rfl, b, rfl, bs, _, rfl, _, _, rfl, rfl, ?_, _, rfl, _, rfl, _, _, rfl, rfl, _, rfl, b, rfl, bs, _, _, rfl, rfl, ?_, l, _, _, rfl, rfl, hl3, by rw [List.length_map, List.length_map, List.length_range]; omega, ?_⟩
  ·refine Nat.le_trans (Nat.add_le_add tl (Nat.le_of_eq ia)) (by omega)
  ·rw [Tx.app_len]
   refine Nat.le_trans (Nat.add_le_add (Nat.add_le_add tl (Nat.le_of_eq ia)) dl) (by omega)
  ·refine ⟨_, _, fun k => if k = i then Txt.slice b none (some (at' : Int)) ++ sZ ((0 + (i : Int)) * u + c / 19968) ++ Txt.slice b (some ((at' : Int) + 1)) none else g k, rfl, S3.over ?_, ?_, fun k hk => ?_⟩
   ·exact hl0
   ·rw [aB, List.range_succ, List.map_append, List.map_append]
    have e1 : (List.range i).map (fun k => if k = i then Txt.slice b none (some (at' : Int)) ++ sZ ((0 + (i : Int)) * u + c / 19968) ++ Txt.slice b (some ((at' : Int) + 1)) none else g k) = (List.range i).map g := List.map_congr_left fun k m => by
     rw [if_neg (by have := List.mem_range.mp m; omega)]
    rw [e1]
    show _ = some (HO.lst (_ ++ [V.str (if i = i then _ else _)]))
    rw [if_pos rfl]
    rfl
   ·by_cases hki : k = i
    ·subst hki
     dsimp only
     rw [if_pos rfl]
     rw [Tx.app_codes, Tx.app_codes, rZ b at' (by omega), show ((at' : Int) + 1) = ((at' + 1 : Nat) : Int) from rfl, uB b (at' + 1) (by omega), sh1, Int.zero_add]
    ·dsimp only
     rw [if_neg hki]
     exact pu k (by omega)
 ·rintro σ H3 ⟨v7, v8, g, rfl, S3, hl3, pu⟩
  have NM := aMA (g := g) (r := c / 19968) ball bl (by omega) (by omega) (by omega) mu pu
  refine ⟨_, rfl, l, rfl, ⟨_, SqL.of hl3⟩, ?_⟩
  generalize hzs : (List.range 26).map g = zs at *
  have lz : zs.length = 26 := by rw [← hzs, List.length_map, List.length_range]
  refine bP (F := K) (xs := zs.map V.str) (by rw [List.length_map]; omega) (fun i ys H' => H3 = H' ∧ ys = ((zs.take i).filter fun z => !decide (z = ("sea" : Str))).map V.str ∧ ys.length ≤ i) ⟨rfl, rfl, Nat.le_refl _⟩ ?_ ?_ ?_
  ·rintro i ys H' hi' ⟨rfl, rfl, hy⟩
   exact ⟨SqL.of hl3, hy⟩
  ·rintro i xv ys H' K1 K2 hx ⟨rfl, rfl, hy⟩ k1 k2
   obtain ⟨z, ez⟩ : ∃ z, zs[i]? = some z := by
    have := (List.getElem?_eq_some_iff.mp hx).1
    rw [List.length_map] at this
    exact ⟨_, List.getElem?_eq_getElem this⟩
   rw [List.getElem?_map, ez] at hx
   cases hx
   refine ⟨_, rfl, rfl, _, rfl, ?_⟩
   show if (!decide (V.str z = V.str "sea")) = true then _ else _
   rw [jI]
   have et : ((zs.take (i + 1)).filter fun z => !decide (z = ("sea" : Str))) = ((zs.take i).filter fun z => !decide (z = ("sea" : Str))) ++ (if (!decide (z = ("sea" : Str))) = true then [z] else []) := by
    rw [List.take_add_one, ez, List.filter_append]
    cases hb : (!decide (z = ("sea" : Str))) <;> simp_all
   cases hb : (!decide (z = ("sea" : Str))) with
   | true =>
    rw [hb] at et
    refine bU ⟨_, rfl, k1 _ _ ⟨rfl, ?_, by rw [List.length_append, List.length_singleton]; omega⟩⟩
    rw [et, List.map_append]
    rfl
   | false =>
    rw [hb] at et
    refine bF (k2 _ ⟨rfl, ?_, by omega⟩)
    rw [et]
    simp
  rintro ys H' ⟨rfl, rfl, hy⟩
  rw [List.length_map, List.take_of_length_le (Nat.le_refl _)]
  intro l2 hl2
  exact q _ l2 _ NM (S0.trans (S3.trans (aI.upd hl2))) (S0.free (S3.free hl2)) aB
theorem kO {i : Int} (h : hgt i = true) : -1000000 ≤ i ∧ i ≤ 1000000 := by
 unfold hgt at h
 rw [Bool.and_eq_true, decide_eq_true_iff, decide_eq_true_iff] at h
 exact h
theorem gL : ∀ {ds : List Dv}, (∀ d ∈ ds, pP d = true) → qT ds = true
 | [], _ => rfl
 | d :: ds, h => by
  rw [qT, h d List.mem_cons_self, gL fun e m => h e (List.mem_cons_of_mem _ m)]
  rfl
def aIZ (K : PySem.W.Frag) : Sp := sp2 fun x y H Q => ∃ n : Nat, Scr K H x ∧ y = .int n ∧ 1 ≤ n ∧ n ≤ 12 ∧ ∀ (l : Addr) (vs : List V) (fs : List Dv) (H' : Hp), aI H H' → H l = none → H' l = some (.lst vs) → IsL H' fs vs → Fds fs n → Q (.ref l) H'
theorem yL (T : Txt K mg C) : Fc P w K mg base 2 "_law_fields" ["_law_script", "_law_most"] (aIZ K) := by
 have G_l_names : Fc P w K mg base 1 "_law_names" ["_law_cell"] aJW := tJ T
 have G_l_mixed : Fc P w K mg base 1 "_law_mixed" ["_law_script", "_law_k"] (aEU K) := mD T
 have G_l_height : Fc P w K mg base 1 "_law_height" ["_law_cell"] aEX := kM T
 refine T.d_l_fields.fc gY jH (fun f cdv A outer s H vs Q E hr h => ?_)
 obtain ⟨x, y, rfl, n, ⟨a, ns, rfl, hS, hns⟩, rfl, n1, n12, q⟩ := h
 have scr : Scr K H (.ref a) := ⟨a, ns, rfl, hS, hns⟩
 have big := bT
 refine ⟨_, (aG (@aS _ _ (2) _ _ _ _ gY.nd rfl (Or.inl rfl) (@bO _ _ _ _ _ _ _ _ _ _ G_l_names (hr.mono (by decide)) (aA (@bO _ _ _ _ _ _ _ _ _ _ G_l_mixed (hr.mono (by decide)) (aA (pv 0) (@aA _ _ _ _ _ aE aD (by rfl))) (by rfl) (by decide) (by rfl) (by rfl)) aD) (by rfl) (by decide) (by rfl) (by rfl)) (by rfl) (by trivial)) (aG (@aS _ _ (3) _ _ _ _ gY.nd rfl (Or.inl rfl) (@cG _ _ _ _ aD) (by rfl) (by trivial)) (aG (@eY _ _ _ _ _ _ _ _ PassesOwn.never rfl (@hE _ _ _ _ _ _ rfl T.n_range (aA (@aP _ _ _ _ _ _ _ _ fM aE (@aP _ _ _ _ _ _ _ _ cH (@bO _ _ _ _ _ _ _ _ _ _ G_l_mixed (hr.mono (by decide)) (aA (pv 0) (@aA _ _ _ _ _ aE aD (by rfl))) (by rfl) (by decide) (by rfl) (by rfl)) (pv 1))) aD) (by rfl)) (@aO _ _ (4) _ gY.nd rfl (Or.inl rfl) (by trivial)) (aG (@aS _ _ (5) _ _ _ _ gY.nd rfl (Or.inl rfl) (@bO _ _ _ _ _ _ _ _ _ _ G_l_mixed (hr.mono (by decide)) (aA (pv 0) (aA (@aP _ _ _ _ _ _ _ _ fM aE (pv 4)) aD)) (by rfl) (by decide) (by rfl) (by rfl)) (by rfl) (by trivial)) (aG (@aS _ _ (6) _ _ _ _ gY.nd rfl (Or.inl rfl) (@aY _ _ _ _ _ _ _ (@dM _ (K) rfl) (@cG _ _ _ _ (aA aE (aA aE (aA (@aP _ _ _ _ _ _ _ _ fM aE (@aP _ _ _ _ _ _ _ _ cH (@aP _ _ _ _ _ _ _ _ bQ (pv 5) aE) aE)) (aA (@aP _ _ _ _ _ _ _ _ cH (@aP _ _ _ _ _ _ _ _ bQ (pv 5) aE) (@aP _ _ _ _ _ _ _ _ fM (@aP _ _ _ _ _ _ _ _ eA aE aE) aE)) aD))))) (@aP _ _ _ _ _ _ _ _ cH (pv 5) aE) (fun _ _ => rfl)) (by rfl) (by trivial)) (aH (@fR _ _ _ _ (@mY _ _ _ _ _ _ _ _ _ _ _ _ PySem.F.plainAttrs_list PySem.F.slot_list_append PySem.F.type_list_append fT (pv 3) (aA (@cO _ _ _ _ _ (aA (@aY _ _ _ _ _ _ _ (@dM _ (K) rfl) (pv 2) (pv 4) (fun _ _ => rfl)) (aA (@bO _ _ _ _ _ _ _ _ _ _ G_l_height (hr.mono (by decide)) (aA (@aP _ _ _ _ _ _ _ _ bQ (pv 5) (@aP _ _ _ _ _ _ _ _ eA aE aE)) aD) (by rfl) (by decide) (by rfl) (by rfl)) (aA (pv 6) aD)))) aD) (by rfl) (by rfl) (by rfl) (by rfl) (by rfl)) (by rfl))))) (by intro _; rfl)) (aH (@aR _ _ _ _ (pv 3)))))), ?_⟩
 refine ⟨_, rfl, _, _, rfl, 0, scr, rfl, by decide, fun m0 hm0 => ?_⟩
 refine ⟨_, rfl, m0, rfl, fun zs ln H1 NM S1 nln hln => ?_⟩
 refine ⟨aN rfl, fun l hl => ?_⟩
 have S2 := aI.upd (o := .lst []) hl
 have nl : H l = none := S1.free hl
 have hl2 : upd H1 l (.lst []) l = some (.lst []) := aB
 have T2 := S1.trans S2
 have hln2 := S2 _ _ hln
 have nll : ln ≠ l := fun z => by rw [z, hl2] at hln2; have := (HO.lst.inj (Option.some.inj hln2)); have h1 := NM.l1; rw [← List.length_map (f := V.str), ← this] at h1; exact absurd h1 (by decide)
 generalize upd H1 l (.lst []) = H2 at T2 hl2 hln2
 refine ⟨_, rfl, _, _, rfl, 1, scr.same T2, rfl, by decide, fun m1 hm1 => ?_⟩
 have np : (0 : Int) < (n : Int) := by omega
 have r0 : 0 ≤ m1 % (n : Int) := Int.emod_nonneg _ (by omega)
 have r1 : m1 % (n : Int) < (n : Int) := Int.emod_lt_of_pos _ np
 obtain ⟨cnt, hcnt⟩ := Int.eq_ofNat_of_zero_le (show 0 ≤ 1 + m1 % (n : Int) by omega)
 refine ⟨_, rfl, _, _, rfl, rfl, np, _, _, rfl, rfl, _, rfl, by show -(2 ^ 62) ≤ 1 + m1 % (n : Int); omega, by show 1 + m1 % (n : Int) < 2 ^ 62; omega, ?_⟩
 rw [show (1 + m1 % (n : Int)).toNat = cnt by omega]
 have nz := NM.l1
 refine iI (lo := 0) (n := cnt) (fun i σ H' => ∃ (v4 v5 v6 : Option V) (vs : List V) (es : List Dv), σ = [some (.ref a), some (.int n), some (.ref ln), some (.ref l), v4, v5, v6] ∧ cV l H2 H' ∧ H' l = some (.lst vs) ∧ IsL H' es vs ∧ es.map aK = zs.take i ∧ es.length = i ∧ ∀ d ∈ es, cD d = true) ⟨_, _, _, [], [], rfl, (fun b o e _ => e), hl2, rfl, rfl, rfl, fun d m => by cases m⟩ ?_ ?_
 ·rintro i σ H' hi ⟨v4, v5, v6, ys, es, rfl, X, hly, iy, en, le, all⟩
  have SH : aI H H' := fun b o e => X _ _ (T2 _ _ e) (fun z => by rw [z, nl] at e; cases e)
  have ly := iy.length
  obtain ⟨z, ez⟩ : ∃ z, zs[i]? = some z := ⟨_, List.getElem?_eq_getElem (by omega)⟩
  have zi : (0 : Int) + (i : Int) = (i : Int) := Int.zero_add _
  refine ⟨_, rfl, _, rfl, _, _, rfl, rfl, _, _, rfl, _, scr.same SH, rfl, by show 0 ≤ 2 + (0 + (i : Int)); omega, fun mc hmc => ?_⟩
  have p6' : (10 : Int) ^ (6 : Int).toNat = 1000000 := by decide
  have pm6 : (0 : Int) < 10 ^ (6 : Int).toNat + 1 := by decide
  refine ⟨_, rfl, _, _, rfl, rfl, ⟨by decide, by decide⟩, _, _, rfl, rfl, (lW rfl), _, _, rfl, rfl, _, rfl, _, _, rfl, rfl, ⟨by decide, by decide⟩, _, _, rfl, rfl, ⟨by decide, by decide, by decide⟩, _, _, rfl, rfl, _, _, rfl, rfl, pm6, aN rfl, fun p1 hp1 => ?_⟩
  have A1 := aI.upd (o := .lst [.int 0, .int 1, .int (1 + mc / 16 % 5), .int (mc / 16 % (10 ^ (6 : Int).toNat + 1))]) hp1
  obtain ⟨du, edu, hdu⟩ := at4 (a := 0) (b := 1) (c := 1 + mc / 16 % 5) (d := mc / 16 % (10 ^ (6 : Int).toNat + 1)) (i := mc % 4) (Int.emod_nonneg _ (by decide)) (Int.emod_lt_of_pos _ (by decide))
  have du01 : 0 ≤ du ∧ du ≤ 1000000 := by
   have b0 := Int.emod_nonneg (mc / 16) (show (5 : Int) ≠ 0 by decide)
   have b1 := Int.emod_lt_of_pos (mc / 16) (show (0 : Int) < 5 by decide)
   rw [p6'] at hdu
   have c0 := Int.emod_nonneg (mc / 16) (show (1000000 + 1 : Int) ≠ 0 by decide)
   have c1 := Int.emod_lt_of_pos (mc / 16) (show (0 : Int) < 1000000 + 1 by decide)
   rcases hdu with rfl | rfl | rfl | rfl <;> omega
  refine ⟨_, rfl, _, _, rfl, rfl, (lW rfl), p1, _, _, .int du, rfl, rfl, SqL.of aB, edu, ?_⟩
  generalize upd H' p1 (.lst [.int 0, .int 1, .int (1 + mc / 16 % 5), .int (mc / 16 % (10 ^ (6 : Int).toNat + 1))]) = H4 at A1 ⊢
  refine ⟨_, rfl, .inl ⟨rfl, _, SqL.of (A1 _ _ hly)⟩, ?_⟩
  refine ⟨_, rfl, _, rfl, ln, _, _, .str z, rfl, rfl, SqL.of (A1 _ _ (X _ _ hln2 nll)), (by rw [zi]; exact aJ (by rw [List.getElem?_map, ez]; rfl)), ?_⟩
  refine ⟨_, rfl, _, _, rfl, rfl, ⟨by decide, by decide, by decide⟩, _, _, rfl, rfl, ⟨by decide, by decide⟩, _, rfl, _, rfl, fun g hg => ?_⟩
  refine ⟨_, rfl, aN rfl, fun t ht => ?_⟩
  have A2 := aI.upd (o := .tup [.str z, .int g, .int du]) ht
  have A := A1.trans A2
  have hl5 := A _ _ hly
  refine ⟨l, _, _, rfl, rfl, hl5, by omega, ?_⟩
  have nmz := NM.nm z (List.mem_of_getElem? ez)
  have ntl : t ≠ l := fun e => by rw [e, A1 _ _ hly] at ht; cases ht
  have kp : kI H' (upd (upd H4 t (.tup [.str z, .int g, .int du])) l (.lst (ys ++ [.ref t]))) := fun b xs e => by
   rw [aT (fun z => by rw [z, hly] at e; cases e)]
   exact A _ _ e
  have hh := kO hg
  refine ⟨_, _, _, ys ++ [.ref t], es ++ [.tup [.str z, .int g, .int du]], rfl, (X.then A).put, aB, IsL.snoc ?_ (IsL.keep kp _ _ (gL fun d m => aAJ (all d m)) iy), ?_, by rw [List.length_append, le]; rfl, ?_⟩
  ·exact ⟨t, _, rfl, by rw [aT ntl, aB], _, _, rfl, rfl, _, _, rfl, rfl, _, _, rfl, rfl, rfl⟩
  ·rw [List.map_append, en, List.take_add_one, ez]
   rfl
  ·intro d md
   rcases List.mem_append.mp md with md | md
   ·exact all d md
   ·rw [List.mem_singleton.mp md]
    exact aGT nmz hh.1 hh.2 du01.1 du01.2
 ·rintro σ H' ⟨v4, v5, v6, ys, es, rfl, X, hly, iy, en, le, all⟩
  have SH : aI H H' := fun b o e => X _ _ (T2 _ _ e) (fun z => by rw [z, nl] at e; cases e)
  refine ⟨_, rfl, q l ys es H' SH nl hly iy ⟨by omega, by omega, all, ?_⟩⟩
  rw [en]
  exact NM.nd.sublist (List.take_sublist _ _)
open Mt21 Mt46
theorem vD {c : TT} {a b u : TS} {D : Ends} {σ : L2.St} {H : Hp} (R : L2.St → Hp → Prop) (h : ∀ σ' H', R σ' H' → u D σ' H') (k : ∀ D' : Ends, (∀ σ' H', R σ' H' → D'.nx σ' H') → aJR c a b D' σ H) : aCR (aJR c a b) u D σ H := k { D with nx := u D } h
theorem aNP {b : Bool} {A B X : Prop} (hA : A) (hX : A → b = false → X) : if b = true then (if true = true then A else B) else X := by
 cases b with
 | true => rw [if_pos rfl, if_pos rfl]; exact hA
 | false => rw [if_neg (by intro z; cases z)]; exact hX hA rfl
def aJA (K : PySem.W.Frag) : Sp := sp4 fun x y z u H Q => ∃ (ia im : Nat) (lf : Addr) (vf : List V) (fs : List Dv) (nf : Nat), Scr K H x ∧ y = .int ia ∧ ia ≤ 63 ∧ z = .int im ∧ 1 ≤ im ∧ im ≤ 20 ∧ u = .ref lf ∧ H lf = some (.lst vf) ∧ IsL H fs vf ∧ Fds fs nf ∧ nf ≤ 12 ∧
 ∀ (l : Addr) (us : List V) (ds : List Dv) (H' : Hp), aI H H' → H l = none → H' l = some (.lst us) → IsL H' ds us → Dks ("sea" :: fs.map aK) ds im → Q (.ref l) H'
theorem zW (T : Txt K mg C) : Fc P w K mg base 2 "_law_dykes" ["_law_script", "_law_at", "_law_most", "_law_fields_here"] (aJA K) := by
 have G_l_names : Fc P w K mg base 1 "_law_names" ["_law_cell"] aJW := tJ T
 have G_l_mixed : Fc P w K mg base 1 "_law_mixed" ["_law_script", "_law_k"] (aEU K) := mD T
 have G_l_height : Fc P w K mg base 1 "_law_height" ["_law_cell"] aEX := kM T
 refine T.d_l_dykes.fc cP aFY (fun f cdv A outer s H vs Q E hr h => ?_)
 obtain ⟨x, y, z, u, rfl, ia, im, lf, vf, fs, nf, ⟨a, ns, rfl, hS, hns⟩, rfl, ia63, rfl, im1, im20, rfl, hlf, iff, gf, nf12, q⟩ := h
 have scr : Scr K H (.ref a) := ⟨a, ns, rfl, hS, hns⟩
 have big := bT
 have lvf := iff.length
 have f1 := gf.l1
 have f2 := gf.l2
 have snd := aFD gf
 refine ⟨_, (aG (@aS _ _ (4) _ _ _ _ cP.nd rfl (Or.inl rfl) (@bO _ _ _ _ _ _ _ _ _ _ G_l_names (hr.mono (by decide)) (aA (@aP _ _ _ _ _ _ _ _ bQ (@bO _ _ _ _ _ _ _ _ _ _ G_l_mixed (hr.mono (by decide)) (aA (pv 0) (@aA _ _ _ _ _ aE aD (by rfl))) (by rfl) (by decide) (by rfl) (by rfl)) (@aP _ _ _ _ _ _ _ _ eA aE aE)) aD) (by rfl) (by decide) (by rfl) (by rfl)) (by rfl) (by trivial)) (aG (@aS _ _ (5) _ _ _ _ cP.nd rfl (Or.inl rfl) (@aP _ _ _ _ _ _ _ _ sX (@cG _ _ _ _ (aA cJ aD)) (@cA _ _ _ _ _ _ _ _ _ _ _ ["_law_field"] 1 [] rfl (@bM _ _ _ _ (pv 3)) (fun R => @aO _ _ (0) _ (show List.Nodup (["_law_field"] : List Str) by decide +kernel) rfl (Or.inl rfl) (by trivial)) (@aZ _ _ (by decide)) (fun R => cI) (fun R => (@aY _ _ _ _ _ _ _ (@aQ _ (K) rfl) (pv 0) aE (fun _ _ => rfl))) (by rfl) (by rfl) (by rfl) (by rfl) (by rfl) (by rfl) (by rfl) (by intro _; rfl))) (by rfl) (by trivial)) (aG (@aS _ _ (6) _ _ _ _ cP.nd rfl (Or.inl rfl) (@cG _ _ _ _ aD) (by rfl) (by trivial)) (aG (@eY _ _ _ _ _ _ _ _ PassesOwn.never rfl (@hE _ _ _ _ _ _ rfl T.n_range (aA (@aV _ _ _ _ _ _ _ _ _ (@jP _ rfl) rfl T.n_max iJ (aA aE (aA (@aV _ _ _ _ _ _ _ _ _ (@qK _ rfl) rfl T.n_min nW (aA (pv 2) (aA (@aP _ _ _ _ _ _ _ _ lZ (@aV _ _ _ _ _ _ _ _ _ (@bW _ (K) rfl) rfl T.n_len cM (aA (pv 0) aD) (by decide) (by decide) (by rfl) (by rfl)) (pv 1)) aD)) (by decide) (by decide) (by rfl) (by rfl)) aD)) (by decide) (by decide) (by rfl) (by rfl)) aD) (by rfl)) (@aO _ _ (7) _ cP.nd rfl (Or.inl rfl) (by trivial)) (aG (@aS _ _ (8) _ _ _ _ cP.nd rfl (Or.inl rfl) (@bO _ _ _ _ _ _ _ _ _ _ G_l_mixed (hr.mono (by decide)) (aA (pv 0) (aA (@aP _ _ _ _ _ _ _ _ fM (pv 1) (pv 7)) aD)) (by rfl) (by decide) (by rfl) (by rfl)) (by rfl) (by trivial)) (aG (@aS _ _ (9) _ _ _ _ cP.nd rfl (Or.inr rfl) (@aY _ _ _ _ _ _ _ (@dM _ (K) rfl) (pv 5) (@aP _ _ _ _ _ _ _ _ cH (pv 8) (@aV _ _ _ _ _ _ _ _ _ (@bW _ (K) rfl) rfl T.n_len cM (aA (pv 5) aD) (by decide) (by decide) (by rfl) (by rfl))) (fun _ _ => rfl)) (by rfl) (by trivial)) (aG (@oN _ (10) _ _ _ _ _ _ _ _ _ _ _ _ _ cP.nd rfl ["_law_side", "_law_one"] 1 [9] rfl (@bM _ _ _ _ (pv 5)) (fun R => @aO _ _ (0) _ (show List.Nodup (["_law_side", "_law_one"] : List Str) by decide +kernel) rfl (Or.inl rfl) (by trivial)) (@aZ _ _ (by decide)) (fun R => @gJ _ _ _ (@bD _ _ _ _ _ _ _ _ pL (pv 0) (pv 1) (@bB _ _ (by decide) (by decide)))) (fun R => (pv 0)) (by exact Or.inl rfl) (by trivial) (by rfl) (by rfl) (by rfl) (by rfl) (by rfl) (by rfl) (by rfl) (by rfl) (by intro _; rfl)) (aG (@aS _ _ (11) _ _ _ _ cP.nd rfl (Or.inl rfl) (@aY _ _ _ _ _ _ _ (@dM _ (K) rfl) (pv 10) (@aP _ _ _ _ _ _ _ _ cH (@aP _ _ _ _ _ _ _ _ bQ (pv 8) aE) (@aV _ _ _ _ _ _ _ _ _ (@bW _ (K) rfl) rfl T.n_len cM (aA (pv 10) aD) (by decide) (by decide) (by rfl) (by rfl))) (fun _ _ => rfl)) (by rfl) (by trivial)) (aG (@aS _ _ (12) _ _ _ _ cP.nd rfl (Or.inl rfl) (@bO _ _ _ _ _ _ _ _ _ _ G_l_height (hr.mono (by decide)) (aA (@aP _ _ _ _ _ _ _ _ bQ (pv 8) aE) aD) (by rfl) (by decide) (by rfl) (by rfl)) (by rfl) (by trivial)) (aG (@aS _ _ (13) _ _ _ _ cP.nd rfl (Or.inl rfl) (@aY _ _ _ _ _ _ _ (@dM _ (K) rfl) (@cG _ _ _ _ (aA aE (aA aE (aA (@aP _ _ _ _ _ _ _ _ fM aE (@aP _ _ _ _ _ _ _ _ cH (@aP _ _ _ _ _ _ _ _ bQ (pv 8) (@aP _ _ _ _ _ _ _ _ eA aE aE)) aE)) (aA (@aP _ _ _ _ _ _ _ _ cH (@aP _ _ _ _ _ _ _ _ bQ (pv 8) (@aP _ _ _ _ _ _ _ _ eA aE aE)) (@aP _ _ _ _ _ _ _ _ fM (@aP _ _ _ _ _ _ _ _ eA aE aE) aE)) aD))))) (@aP _ _ _ _ _ _ _ _ cH (@aP _ _ _ _ _ _ _ _ bQ (pv 8) (@aP _ _ _ _ _ _ _ _ eA aE aE)) aE) (fun _ _ => rfl)) (by rfl) (by trivial)) (aG (@aS _ _ (14) _ _ _ _ cP.nd rfl (Or.inl rfl) (@aP _ _ _ _ _ _ _ _ lZ (@aP _ _ _ _ _ _ _ _ lZ (pv 12) aE) (@aY _ _ _ _ _ _ _ (@dM _ (K) rfl) (@cG _ _ _ _ (aA aE (aA aE (aA aE (aA (@aP _ _ _ _ _ _ _ _ eA aE aE) aD))))) (@aP _ _ _ _ _ _ _ _ cH (@aP _ _ _ _ _ _ _ _ bQ (pv 8) (@aP _ _ _ _ _ _ _ _ eA aE aE)) aE) (fun _ _ => rfl))) (by rfl) (by trivial)) (aG (@cE _ _ _ _ _ _ _ _ (@PW.pt _ _ _ (@kJ _ _ _ _ _ _ _ (@bD _ _ _ _ _ _ _ _ iV (@aP _ _ _ _ _ _ _ _ cH (@aP _ _ _ _ _ _ _ _ bQ (pv 8) (@aP _ _ _ _ _ _ _ _ eA aE aE)) aE) aE (@bB _ _ (by decide) (by decide))) (@kS _ _ _ _ (@bD _ _ _ _ _ _ _ _ qO (pv 14) (@aP _ _ _ _ _ _ _ _ lZ aE (@aP _ _ _ _ _ _ _ _ eA aE aE)) (@bB _ _ (by decide) (by decide)))))) (aH (@aS _ _ (14) _ _ _ _ cP.nd rfl (Or.inl rfl) eZ (by rfl) (by trivial))) bE) (aH (@fR _ _ _ _ (@mY _ _ _ _ _ _ _ _ _ _ _ _ PySem.F.plainAttrs_list PySem.F.slot_list_append PySem.F.type_list_append fT (pv 6) (aA (@cO _ _ _ _ _ (@aA _ _ _ _ _ (@aY _ _ _ _ _ _ _ (@dM _ (K) rfl) (pv 4) (pv 7) (fun _ _ => rfl)) (@aA _ _ _ _ _ (pv 9) (@aA _ _ _ _ _ (pv 11) (@aA _ _ _ _ _ (pv 12) (@aA _ _ _ _ _ (pv 13) (@aA _ _ _ _ _ (pv 14) aD (by rfl)) (by rfl)) (by rfl)) (by rfl)) (by rfl)) (by rfl))) aD) (by rfl) (by rfl) (by rfl) (by rfl) (by rfl)) (by rfl))))))))))) (by intro _; rfl)) (aH (@aR _ _ _ _ (pv 6))))))), ?_⟩
 refine ⟨_, rfl, _, _, rfl, 1, scr, rfl, by decide, fun m0 hm0 => ?_⟩
 refine ⟨_, _, rfl, rfl, ⟨by decide, by decide, by decide⟩, _, _, rfl, rfl, ⟨by decide, by decide⟩, _, rfl, _, rfl, fun zs ln H1 NM S1 nln hln => ?_⟩
 refine ⟨aN rfl, fun p1 hp1 => ?_⟩
 have A1 := aI.upd (o := .lst [.str "sea"]) hp1
 have B1 := S1.trans A1
 refine ⟨_, rfl, lf, rfl, ⟨_, SqL.of (B1 _ _ hlf)⟩, ?_⟩
 refine bP (F := K) (xs := vf) (by omega) (fun i ys H' => upd H1 p1 (.lst [.str "sea"]) = H' ∧ ys = ((fs.take i).map aK).map V.str) ⟨rfl, rfl⟩ ?_ ?_ ?_
 ·rintro i ys H' hi' ⟨rfl, rfl⟩
  exact ⟨SqL.of (B1 _ _ hlf), by rw [List.length_map, List.length_map, List.length_take]; omega⟩
 ·rintro i xv ys H' K1 K2 hx ⟨rfl, rfl⟩ k1 k2
  have hil : i < vf.length := (List.getElem?_eq_some_iff.mp hx).1
  obtain ⟨d, ed⟩ : ∃ d, fs[i]? = some d := ⟨_, List.getElem?_eq_getElem (by omega)⟩
  obtain ⟨v, ev, iv⟩ := iff.get ed
  rw [hx] at ev
  cases ev
  obtain ⟨z, g, e, rfl, _⟩ := bJ (gf.all d (List.mem_of_getElem? ed))
  obtain ⟨t, rfl, o⟩ := jO iv
  refine ⟨_, rfl, t, _, 0, .str z, rfl, rfl, SqT.of (B1 _ _ o), aJ (j := 0) rfl, k1 _ _ ⟨rfl, ?_⟩⟩
  rw [List.take_add_one, ed]
  simp [aK, cU]
 rintro ys H' ⟨rfl, rfl⟩
 rw [List.take_of_length_le (by omega)]
 intro p2 hp2
 have A2 := aI.upd (o := .lst ((fs.map aK).map V.str)) hp2
 refine ⟨p1, p2, _, _, rfl, rfl, A2 _ _ aB, aB, by simp only [List.length_map, List.length_cons, List.length_nil]; omega, fun ls hls => ?_⟩
 have A3 := aI.upd (o := .lst ([.str "sea"] ++ (fs.map aK).map V.str)) hls
 have B3 := B1.trans (A2.trans A3)
 have C3 := A1.trans (A2.trans A3)
 have hls3 : upd (upd (upd H1 p1 (.lst [.str "sea"])) p2 (.lst ((fs.map aK).map V.str))) ls (.lst ([.str "sea"] ++ (fs.map aK).map V.str)) ls = some (.lst ((("sea" : Str) :: fs.map aK).map V.str)) := aB
 have hln3 := C3 _ _ hln
 generalize upd (upd (upd H1 p1 (.lst [.str "sea"])) p2 (.lst ((fs.map aK).map V.str))) ls (.lst ([.str "sea"] ++ (fs.map aK).map V.str)) = H3 at B3 hls3 hln3
 generalize hsd : (("sea" : Str) :: fs.map aK) = sd at *
 have lsd : 2 ≤ sd.length ∧ sd.length ≤ 13 := by rw [← hsd, List.length_cons, List.length_map]; omega
 refine ⟨aN rfl, fun l hl => ?_⟩
 have S4 := aI.upd (o := .lst []) hl
 have T4 := B3.trans S4
 have nl : H l = none := B3.free hl
 have hl4 : upd H3 l (.lst []) l = some (.lst []) := aB
 have hls4 := S4 _ _ hls3
 have hln4 := S4 _ _ hln3
 have nls : ls ≠ l := fun z => by rw [z, hl] at hls3; cases hls3
 have nll : ln ≠ l := fun z => by rw [z, hl] at hln3; cases hln3
 generalize upd H3 l (.lst []) = H4 at T4 hl4 hls4 hln4
 have lns : (ns.map V.int).length = ns.length := List.length_map ..
 refine ⟨_, rfl, _, rfl, a, _, rfl, .inl (T4.seq hS), _, rfl, _, _, rfl, rfl, _, _, rfl, _, _, rfl, ?_⟩
 obtain ⟨cnt, hcnt, c1, c2⟩ : ∃ cnt : Nat, (if (if (((ns.map V.int).length : Nat) : Int) - (ia : Int) < (im : Int) then (((ns.map V.int).length : Nat) : Int) - (ia : Int) else (im : Int)) > 1 then (if (((ns.map V.int).length : Nat) : Int) - (ia : Int) < (im : Int) then (((ns.map V.int).length : Nat) : Int) - (ia : Int) else (im : Int)) else 1) = (cnt : Int) ∧ 1 ≤ cnt ∧ cnt ≤ im := by
  generalize (((ns.map V.int).length : Nat) : Int) - (ia : Int) = w
  by_cases h1 : w < (im : Int)
  ·rw [if_pos h1]
   by_cases h2 : w > 1
   ·rw [if_pos h2]
    exact ⟨w.toNat, by omega, by omega, by omega⟩
   ·rw [if_neg h2]
    exact ⟨1, rfl, by omega, by omega⟩
  ·rw [if_neg h1]
   by_cases h2 : (im : Int) > 1
   ·rw [if_pos h2]
    exact ⟨im, rfl, by omega, by omega⟩
   ·rw [if_neg h2]
    exact ⟨1, rfl, by omega, by omega⟩
 refine ⟨(cnt : Int), congrArg (fun x => [V.int x]) hcnt, by omega, by omega, ?_⟩
 rw [Int.toNat_natCast]
 have nz := NM.l1
 refine iI (lo := 0) (n := cnt) (fun i σ H' => ∃ (w7 w8 w9 w10 w11 w12 w13 w14 : Option V) (vs : List V) (es : List Dv), σ = [some (.ref a), some (.int ia), some (.int im), some (.ref lf), some (.ref ln), some (.ref ls), some (.ref l), w7, w8, w9, w10, w11, w12, w13, w14] ∧ cV l H4 H' ∧ H' l = some (.lst vs) ∧ IsL H' es vs ∧ es.map aK = zs.take i ∧ es.length = i ∧ ∀ d ∈ es, cY sd d = true) ⟨_, _, _, _, _, _, _, _, [], [], rfl, (fun b o e _ => e), hl4, rfl, rfl, rfl, fun d m => by cases m⟩ ?_ ?_
 ·rintro i σ H' hi ⟨w7, w8, w9, w10, w11, w12, w13, w14, ys, es, rfl, X, hly, iy, en, le, all⟩
  have SH : aI H H' := fun b o e => X _ _ (T4 _ _ e) (fun z => by rw [z, nl] at e; cases e)
  have ly := iy.length
  obtain ⟨z, ez⟩ : ∃ z, zs[i]? = some z := ⟨_, List.getElem?_eq_getElem (by omega)⟩
  have nmz := NM.nm z (List.mem_of_getElem? ez)
  have zi : (0 : Int) + (i : Int) = (i : Int) := Int.zero_add _
  refine ⟨_, rfl, _, rfl, _, rfl, _, _, rfl, rfl, _, _, rfl, _, scr.same SH, rfl, by show 0 ≤ (ia : Int) + (0 + (i : Int)); omega, fun mc hmc => ?_⟩
  have hls5 := X _ _ hls4 nls
  have psd : (0 : Int) < (((sd.map V.str).length : Nat) : Int) := by rw [List.length_map]; omega
  have o0 : 0 ≤ mc % (((sd.map V.str).length : Nat) : Int) := Int.emod_nonneg _ (by omega)
  have o1 : mc % (((sd.map V.str).length : Nat) : Int) < (((sd.map V.str).length : Nat) : Int) := Int.emod_lt_of_pos _ psd
  obtain ⟨k1', hk1⟩ := Int.eq_ofNat_of_zero_le o0
  have lk1 : k1' < sd.length := by rw [hk1, List.length_map] at o1; omega
  obtain ⟨one, eone⟩ : ∃ z, sd[k1']? = some z := ⟨_, List.getElem?_eq_getElem lk1⟩
  refine ⟨_, rfl, _, rfl, _, rfl, ls, _, rfl, .inl (SqL.of hls5), _, _, rfl, rfl, psd, ls, _, _, .str one, rfl, rfl, SqL.of hls5, by rw [hk1]; exact aJ (by rw [List.getElem?_map, eone]; rfl), ?_⟩
  refine ⟨_, rfl, ls, rfl, ⟨_, SqL.of hls5⟩, ?_⟩
  refine bP (F := K) (xs := sd.map V.str) (by rw [List.length_map]; omega) (fun i ys Hx => H' = Hx ∧ ys = ((sd.take i).filter fun y => !decide (y = one)).map V.str ∧ ys.length ≤ i) ⟨rfl, rfl, Nat.le_refl _⟩ ?_ ?_ ?_
  ·rintro i ys Hx hi' ⟨rfl, rfl, hy⟩
   exact ⟨SqL.of hls5, hy⟩
  ·rintro i xv ys Hx K1 K2 hx ⟨rfl, rfl, hy⟩ k1 k2
   obtain ⟨y, ey⟩ : ∃ y, sd[i]? = some y := by
    have := (List.getElem?_eq_some_iff.mp hx).1
    rw [List.length_map] at this
    exact ⟨_, List.getElem?_eq_getElem this⟩
   rw [List.getElem?_map, ey] at hx
   cases hx
   refine ⟨_, rfl, _, rfl, rfl, _, rfl, ?_⟩
   show if (!decide (V.str y = V.str one)) = true then _ else _
   rw [jI]
   have et : ((sd.take (i + 1)).filter fun y => !decide (y = one)) = ((sd.take i).filter fun y => !decide (y = one)) ++ (if (!decide (y = one)) = true then [y] else []) := by
    rw [List.take_add_one, ey, List.filter_append]
    cases hb : (!decide (y = one)) <;> simp_all
   cases hb : (!decide (y = one)) with
   | true =>
    rw [hb] at et
    refine bU ⟨_, rfl, k1 _ _ ⟨rfl, ?_, by rw [List.length_append, List.length_singleton]; omega⟩⟩
    rw [et, List.map_append]
    rfl
   | false =>
    rw [hb] at et
    refine bF (k2 _ ⟨rfl, ?_, by omega⟩)
    rw [et]
    simp
  rintro ys' Hx ⟨rfl, rfl, hy⟩
  rw [List.length_map, List.take_of_length_le (Nat.le_refl _)]
  intro po hpo
  have A5 := aI.upd (o := .lst ((sd.filter fun y => !decide (y = one)).map V.str)) hpo
  have hpo5 : upd H' po (.lst ((sd.filter fun y => !decide (y = one)).map V.str)) po = some (.lst ((sd.filter fun y => !decide (y = one)).map V.str)) := aB
  have lot := aAC one sd snd
  have pot : (0 : Int) < ((((sd.filter fun y => !decide (y = one)).map V.str).length : Nat) : Int) := by rw [List.length_map]; omega
  generalize hot : (sd.filter fun y => !decide (y = one)) = ot at *
  generalize upd H' po (.lst (ot.map V.str)) = H5 at A5 hpo5 ⊢
  have q0 : 0 ≤ mc / 16 % (((ot.map V.str).length : Nat) : Int) := Int.emod_nonneg _ (by omega)
  have q1 : mc / 16 % (((ot.map V.str).length : Nat) : Int) < (((ot.map V.str).length : Nat) : Int) := Int.emod_lt_of_pos _ pot
  obtain ⟨k2', hk2⟩ := Int.eq_ofNat_of_zero_le q0
  have lk2 : k2' < ot.length := by rw [hk2, List.length_map] at q1; omega
  obtain ⟨oth, eoth⟩ : ∃ z, ot[k2']? = some z := ⟨_, List.getElem?_eq_getElem lk2⟩
  have moth := List.mem_of_getElem? eoth
  rw [← hot] at moth
  obtain ⟨moth1, moth2⟩ := List.mem_filter.mp moth
  have noth : one ≠ oth := fun e => by rw [e] at moth2; simp at moth2
  refine ⟨_, rfl, _, rfl, _, _, rfl, rfl, ⟨by decide, by decide⟩, _, rfl, po, _, rfl, .inl (SqL.of hpo5), _, _, rfl, rfl, pot, po, _, _, .str oth, rfl, rfl, SqL.of hpo5, by rw [hk2]; exact aJ (by rw [List.getElem?_map, eoth]; rfl), ?_⟩
  refine ⟨_, rfl, _, _, rfl, rfl, ⟨by decide, by decide⟩, _, rfl, _, rfl, fun cr hcr => ?_⟩
  have hcr' := kO hcr
  have p6' : (10 : Int) ^ (6 : Int).toNat = 1000000 := by decide
  have pm6 : (0 : Int) < 10 ^ (6 : Int).toNat + 1 := by decide
  refine ⟨_, rfl, _, _, rfl, rfl, ⟨by decide, by decide, by decide⟩, _, _, rfl, rfl, ⟨by decide, by decide⟩, _, _, rfl, rfl, (lW rfl), _, _, rfl, rfl, _, rfl, _, _, rfl, rfl, ⟨by decide, by decide, by decide⟩, _, _, rfl, rfl, ⟨by decide, by decide⟩, _, _, rfl, rfl, ⟨by decide, by decide, by decide⟩, _, _, rfl, rfl, _, _, rfl, rfl, pm6, aN rfl, fun p6 hp6 => ?_⟩
  have A6 := aI.upd (o := .lst [.int 0, .int 1, .int (1 + mc / 10 ^ (9 : Int).toNat % 4), .int (mc / 10 ^ (9 : Int).toNat % (10 ^ (6 : Int).toNat + 1))]) hp6
  obtain ⟨rt, ert, hrt⟩ := at4 (a := 0) (b := 1) (c := 1 + mc / 10 ^ (9 : Int).toNat % 4) (d := mc / 10 ^ (9 : Int).toNat % (10 ^ (6 : Int).toNat + 1)) (i := mc / 10 ^ (8 : Int).toNat % 4) (Int.emod_nonneg _ (by decide)) (Int.emod_lt_of_pos _ (by decide))
  have rt01 : 0 ≤ rt ∧ rt ≤ 1000000 := by
   have b0 := Int.emod_nonneg (mc / 10 ^ (9 : Int).toNat) (show (4 : Int) ≠ 0 by decide)
   have b1 := Int.emod_lt_of_pos (mc / 10 ^ (9 : Int).toNat) (show (0 : Int) < 4 by decide)
   rw [p6'] at hrt
   have c0 := Int.emod_nonneg (mc / 10 ^ (9 : Int).toNat) (show (1000000 + 1 : Int) ≠ 0 by decide)
   have c1 := Int.emod_lt_of_pos (mc / 10 ^ (9 : Int).toNat) (show (0 : Int) < 1000000 + 1 by decide)
   rcases hrt with rfl | rfl | rfl | rfl <;> omega
  refine ⟨_, rfl, _, _, rfl, rfl, ⟨by decide, by decide, by decide⟩, _, _, rfl, rfl, ⟨by decide, by decide⟩, _, _, rfl, rfl, (lW rfl), p6, _, _, .int rt, rfl, rfl, SqL.of aB, ert, ?_⟩
  generalize upd H5 p6 (.lst [.int 0, .int 1, .int (1 + mc / 10 ^ (9 : Int).toNat % 4), .int (mc / 10 ^ (9 : Int).toNat % (10 ^ (6 : Int).toNat + 1))]) = H6 at A6 ⊢
  refine ⟨_, rfl, _, _, rfl, rfl, _, _, rfl, rfl, ⟨by decide, by decide, by decide⟩, aN rfl, fun p7 hp7 => ?_⟩
  have A7 := aI.upd (o := .lst [.int 0, .int 1, .int 2, .int (10 ^ (5 : Int).toNat)]) hp7
  obtain ⟨sx, esx, hsx⟩ := at4 (a := 0) (b := 1) (c := 2) (d := 10 ^ (5 : Int).toNat) (i := mc / 10 ^ (15 : Int).toNat % 4) (Int.emod_nonneg _ (by decide)) (Int.emod_lt_of_pos _ (by decide))
  have sx0 : 0 ≤ sx := by rcases hsx with rfl | rfl | rfl | rfl <;> decide
  refine ⟨_, rfl, _, _, rfl, rfl, ⟨by decide, by decide, by decide⟩, _, _, rfl, rfl, ⟨by decide, by decide⟩, _, _, rfl, rfl, (lW rfl), p7, _, _, .int sx, rfl, rfl, SqL.of aB, esx, _, _, rfl, rfl, ?_⟩
  generalize upd H6 p7 (.lst [.int 0, .int 1, .int 2, .int (10 ^ (5 : Int).toNat)]) = H7 at A7 ⊢
  have A57 := A5.trans (A6.trans A7)
  unfold vM
  dsimp only
  refine vD (fun σ' Hz => Hz = H7 ∧ ∃ (sv : V) (sl : Dv), σ' = [some (.ref a), some (.int ia), some (.int im), some (.ref lf), some (.ref ln), some (.ref ls), some (.ref l), some (.int (0 + (i : Int))), some (.int mc), some (.str one), some (.ref po), some (.str oth), some (.int cr), some (.int rt), some sv] ∧ (∀ G : Hp, Is G sl sv) ∧ nG (.int cr) sl = true ∧ pP sl = true) (fun σ' Hz hR => ?_) (fun D' hD => ?_)
  rotate_left
  ·refine ⟨_, rfl, _, _, rfl, rfl, ⟨by decide, by decide, by decide⟩, _, _, rfl, rfl, ⟨by decide, by decide⟩, _, _, rfl, rfl, (lW rfl), rfl, _, rfl, ?_⟩
   rw [kP]
   dsimp only
   refine aNP ?_ (fun none' c1' => ?_)
   ·exact hD _ _ ⟨rfl, .non, .non, rfl, (fun _ => rfl), rfl, rfl⟩
   refine ⟨_, rfl, _, _, rfl, rfl, ⟨by decide, by decide, by decide⟩, _, _, rfl, rfl, _, _, rfl, rfl, _, rfl, ?_⟩
   refine kD (fun _ => none') (fun h2 => ?_)
   have h2' : ¬ (cr - 1 - sx < 0 - 10 ^ (6 : Int).toNat) := fun h => h2 (decide_eq_true h)
   rw [p6'] at h2'
   refine hD _ _ ⟨rfl, .int (cr - 1 - sx), .int (cr - 1 - sx), rfl, (fun _ => rfl), ?_, rfl⟩
   show (hgt _ && decide _) = true
   rw [wZ (by omega) (by omega), decide_eq_true (by omega)]
   rfl
  obtain ⟨rfl, sv, sl, rfl, isv, okS, hrdS⟩ := hR
  have hly7 := A57 _ _ hly
  refine ⟨_, rfl, .inl ⟨rfl, _, SqL.of hly7⟩, ?_⟩
  refine ⟨_, rfl, _, rfl, ln, _, _, .str z, rfl, rfl, SqL.of (A57 _ _ (X _ _ hln4 nll)), (by rw [zi]; exact aJ (by rw [List.getElem?_map, ez]; rfl)), _, rfl, _, rfl, _, rfl, _, rfl, _, rfl, aN rfl, fun t ht => ?_⟩
  have A8 := aI.upd (o := .tup [.str z, .str one, .str oth, .int cr, .int rt, sv]) ht
  have A58 := A57.trans A8
  refine ⟨l, _, _, rfl, rfl, A58 _ _ hly, by omega, ?_⟩
  have ntl : t ≠ l := fun e => by rw [e, hly7] at ht; cases ht
  have kp : kI H' (upd (upd Hz t (.tup [.str z, .str one, .str oth, .int cr, .int rt, sv])) l (.lst (ys ++ [.ref t]))) := fun b xs e => by
   rw [aT (fun z => by rw [z, hly] at e; cases e)]
   exact A58 _ _ e
  refine ⟨_, _, _, _, _, _, _, _, ys ++ [.ref t], es ++ [.tup [.str z, .str one, .str oth, .int cr, .int rt, sl]], rfl, (X.then A58).put, aB, IsL.snoc ?_ (IsL.keep kp _ _ (gL fun d m => aDV (all d m)) iy), ?_, by rw [List.length_append, le]; rfl, ?_⟩
  ·exact ⟨t, _, rfl, by rw [aT ntl, aB], _, _, rfl, rfl, _, _, rfl, rfl, _, _, rfl, rfl, _, _, rfl, rfl, _, _, rfl, rfl, _, _, rfl, isv _, rfl⟩
  ·rw [List.map_append, en, List.take_add_one, ez]
   rfl
  ·intro d md
   rcases List.mem_append.mp md with md | md
   ·exact all d md
   ·rw [List.mem_singleton.mp md]
    exact aII nmz (List.mem_of_getElem? eone) moth1 noth hcr (aKZ rt01.1 rt01.2) okS
 ·rintro σ H' ⟨w7, w8, w9, w10, w11, w12, w13, w14, ys, es, rfl, X, hly, iy, en, le, all⟩
  have SH : aI H H' := fun b o e => X _ _ (T4 _ _ e) (fun z => by rw [z, nl] at e; cases e)
  refine ⟨_, rfl, q l ys es H' SH nl hly iy ⟨by omega, by omega, all, ?_⟩⟩
  rw [en]
  exact NM.nd.sublist (List.take_sublist _ _)
open Mt21 Mt46
theorem xG {zs : List Str} {a : Str} {h : Int} (ha : bZ ["above", "below"] (.str a) = true) (sa : a.length ≤ 1000) (h0 : -1000000 ≤ h) (h1 : h ≤ 1000000) : GoodC zs (.tup [.str a, .int h]) := by
 refine ⟨?_, ?_, rfl⟩
 ·show (if bZ ["above", "below"] (.str a) then eN (.int h) else _) = true
  rw [ha]
  exact wZ h0 h1
 ·show (decide (2 ≤ 1000) && (decide (a.length ≤ 1000) && (true && true))) = true
  rw [decide_eq_true sa]
  rfl
theorem aJN {zs : List Str} {a z : Str} (hn : bZ ["above", "below"] (.str a) = false) (ha : bZ ["wet", "dry"] (.str a) = true) (sa : a.length ≤ 1000) (mz : z ∈ zs) (sz : z.length ≤ 1000) : GoodC zs (.tup [.str a, .str z]) := by
 refine ⟨?_, ?_, rfl⟩
 ·show (if bZ ["above", "below"] (.str a) then eN (.str z) else bZ ["wet", "dry"] (.str a) && bZ zs (.str z)) = true
  rw [hn, ha]
  exact decide_eq_true mz
 ·show (decide (2 ≤ 1000) && (decide (a.length ≤ 1000) && (decide (z.length ≤ 1000) && true))) = true
  rw [decide_eq_true sa, decide_eq_true sz]
  rfl
theorem aMU {zs : List Str} {n m : Int} (h0 : 0 ≤ n) (h1 : n < m) (h2 : m ≤ 100) : GoodC zs (.tup [.str "day", .int n, .int m]) := by
 refine ⟨?_, rfl, rfl⟩
 show (bZ ["day"] (.str "day") && ((decide (1 ≤ m) && decide (m ≤ 100)) && (decide (0 ≤ n) && decide (n < m)))) = true
 rw [decide_eq_true h0, decide_eq_true h1, decide_eq_true h2, decide_eq_true (by omega : 1 ≤ m)]
 rfl
def del (X : Addr) (H : Hp) : Hp := fun b => if b = X then none else H b
theorem aGY (X : Addr) (H : Hp) : aI (del X H) H := fun b o e => by
 unfold del at e
 by_cases h : b = X
 ·rw [if_pos h] at e; cases e
 ·rw [if_neg h] at e; exact e
theorem aGZ {X : Addr} {H : Hp} {b : Addr} {o : HO} (n : b ≠ X) (e : H b = some o) : del X H b = some o := by
 unfold del
 rw [if_neg n]
 exact e
theorem aMR {X : Addr} {H H' : Hp} (S : aI H H') : aI (del X H) (del X H') := fun b o e => by
 unfold del at e ⊢
 by_cases h : b = X
 ·rw [if_pos h] at e; cases e
 ·rw [if_neg h] at e ⊢; exact S _ _ e
theorem aMB {X : Addr} {H Hz : Hp} {b : Addr} {o : HO} (hX : ∃ o, H X = some o) (n : H b = none) (e : Hz b = some o) : del X Hz b = some o := by
 obtain ⟨o', h⟩ := hX
 exact aGZ (fun z => by rw [z, h] at n; cases n) e
theorem aMS {X : Addr} {H : Hp} {o : HO} : aI (del X H) (del X (upd H X o)) := fun b o' e => by
 unfold del at e ⊢
 by_cases h : b = X
 ·rw [if_pos h] at e; cases e
 ·rw [if_neg h] at e ⊢; rw [aT h]; exact e
theorem aGE {H : Hp} {ds : List Dv} {vs : List V} (h : IsL H ds vs) {i : Int} (h0 : 0 ≤ i) (h1 : i < ds.length) : ∃ d v, d ∈ ds ∧ atI vs i = some v ∧ Is H d v := by
 obtain ⟨k, rfl⟩ := Int.eq_ofNat_of_zero_le h0
 have hk : k < ds.length := by omega
 obtain ⟨v, ev, iv⟩ := h.get (List.getElem?_eq_getElem hk)
 exact ⟨_, v, List.getElem_mem hk, aJ ev, iv⟩
def aJE : Sp := sp2 fun x y H Q => ∃ (n : Int) (lf : Addr) (vf : List V) (fs : List Dv), x = .int n ∧ y = .ref lf ∧ H lf = some (.lst vf) ∧ IsL H fs vf ∧ GoodF fs ∧ ∀ (v : V) (d : Dv) (H' : Hp), aI H H' → Is H' d v → GoodC (fs.map aK) d → pP d = true → Q v H'
theorem tK (T : Txt K mg C) : Fc P w K mg base 2 "_law_condition" ["_law_cell", "_law_fields_here"] aJE := by
 have G_l_height : Fc P w K mg base 1 "_law_height" ["_law_cell"] aEX := kM T
 refine T.d_l_condition.fc dI jH (fun f cdv A outer s H vs Q E hr h => ?_)
 obtain ⟨x, y, rfl, n, lf, vf, fs, rfl, rfl, hlf, iff, gf, q⟩ := h
 have big := bT
 have lvf := iff.length
 have f1 := gf.l1
 refine ⟨_, (aG (@aS _ _ (2) _ _ _ _ dI.nd rfl (Or.inl rfl) (@bO _ _ _ _ _ _ _ _ _ _ G_l_height (hr.mono (by decide)) (aA (@aP _ _ _ _ _ _ _ _ bQ (pv 0) aE) aD) (by rfl) (by decide) (by rfl) (by rfl)) (by rfl) (by trivial)) (aG (@aS _ _ (3) _ _ _ _ dI.nd rfl (Or.inl rfl) (@aY _ _ _ _ _ _ _ (@aQ _ (K) rfl) (@aY _ _ _ _ _ _ _ (@dM _ (K) rfl) (pv 1) (@aP _ _ _ _ _ _ _ _ cH (@aP _ _ _ _ _ _ _ _ bQ (pv 0) aE) (@aV _ _ _ _ _ _ _ _ _ (@bW _ (K) rfl) rfl T.n_len cM (aA (pv 1) aD) (by decide) (by decide) (by rfl) (by rfl))) (fun _ _ => rfl)) aE (fun _ _ => rfl)) (by rfl) (by trivial)) (aG (@aS _ _ (4) _ _ _ _ dI.nd rfl (Or.inl rfl) (@aP _ _ _ _ _ _ _ _ fM aE (@aP _ _ _ _ _ _ _ _ cH (@aP _ _ _ _ _ _ _ _ bQ (pv 0) aE) aE)) (by rfl) (by trivial)) (aG (@cE _ _ _ _ _ _ _ _ (@bD _ _ _ _ _ _ _ _ iV (@aP _ _ _ _ _ _ _ _ cH (@aP _ _ _ _ _ _ _ _ bQ (pv 0) aE) aE) aE (@bB _ _ (by decide) (by decide))) (aH (@aS _ _ (4) _ _ _ _ dI.nd rfl (Or.inl rfl) (@aP _ _ _ _ _ _ _ _ fM aE (@aP _ _ _ _ _ _ _ _ cH (@aP _ _ _ _ _ _ _ _ bQ (pv 0) aE) aE)) (by rfl) (by trivial))) bE) (aG (@aS _ _ (5) _ _ _ _ dI.nd rfl (Or.inl rfl) (@cG _ _ _ _ (aA (@cO _ _ _ _ _ (aA cJ aD)) (aA (@cO _ _ _ _ _ (aA cJ (aA (pv 2) aD))) (aA (@cO _ _ _ _ _ (aA cJ (aA (pv 2) aD))) (aA (@cO _ _ _ _ _ (aA cJ (aA (pv 3) aD))) (aA (@cO _ _ _ _ _ (aA cJ (aA (pv 3) aD))) aD)))))) (by rfl) (by trivial)) (aG (@aS _ _ (5) _ _ _ _ dI.nd rfl (Or.inl rfl) (@aP _ _ _ _ _ _ _ _ sX (pv 5) (@cG _ _ _ _ (aA (@cO _ _ _ _ _ (aA cJ (aA (@aP _ _ _ _ _ _ _ _ cH (@aP _ _ _ _ _ _ _ _ bQ (pv 0) (@aP _ _ _ _ _ _ _ _ eA aE aE)) (pv 4)) (aA (pv 4) aD)))) (aA (@cO _ _ _ _ _ (aA cJ (aA (@aV _ _ _ _ _ _ _ _ _ (@jP _ rfl) rfl T.n_max iJ (aA (@aP _ _ _ _ _ _ _ _ lZ (pv 2) aE) (aA (@aP _ _ _ _ _ _ _ _ lZ aE (@aP _ _ _ _ _ _ _ _ eA aE aE)) aD)) (by decide) (by decide) (by rfl) (by rfl)) aD))) aD)))) (by rfl) (by trivial)) (aH (@aR _ _ _ _ (@aY _ _ _ _ _ _ _ (@dM _ (K) rfl) (pv 5) (@aP _ _ _ _ _ _ _ _ cH (pv 0) aE) (fun _ _ => rfl)))))))))), ?_⟩
 refine ⟨_, rfl, _, _, rfl, rfl, ⟨by decide, by decide⟩, _, rfl, _, rfl, fun hh hhh => ?_⟩
 have hb := kO hhh
 have pl : (0 : Int) < ((vf.length : Nat) : Int) := by omega
 obtain ⟨k, hk'⟩ := Int.eq_ofNat_of_zero_le (show 0 ≤ n / 7 % ((vf.length : Nat) : Int) from Int.emod_nonneg _ (by omega))
 have hkl : k < vf.length := by have := Int.emod_lt_of_pos (n / 7) pl; omega
 obtain ⟨d, ed⟩ : ∃ d, fs[k]? = some d := ⟨_, List.getElem?_eq_getElem (by omega)⟩
 obtain ⟨v, ev, iv⟩ := iff.get ed
 obtain ⟨z, g, e, rfl, hz, _⟩ := bJ (gf.all d (List.mem_of_getElem? ed))
 obtain ⟨t, rfl, o⟩ := jO iv
 have mz : z ∈ fs.map aK := List.mem_map.mpr ⟨_, List.mem_of_getElem? ed, rfl⟩
 have sz : z.length ≤ 1000 := by
  have : (decide (1 ≤ z.length) && decide (z.length ≤ 8) && !decide (z = "sea") && z.cps.toList.all iG) = true := hz
  simp only [Bool.and_eq_true, decide_eq_true_eq] at this
  omega
 refine ⟨_, rfl, _, rfl, _, _, rfl, rfl, ⟨by decide, by decide⟩, _, rfl, lf, _, rfl, .inl (SqL.of hlf), _, _, rfl, rfl, pl, lf, _, _, .ref t, rfl, rfl, SqL.of hlf, by rw [hk']; exact aJ ev, t, _, 0, .str z, rfl, rfl, SqT.of o, aJ (j := 0) rfl, ?_⟩
 refine ⟨_, rfl, _, _, rfl, rfl, ⟨by decide, by decide⟩, _, _, rfl, rfl, (lW rfl), _, _, rfl, rfl, ?_⟩
 have t0 := Int.emod_nonneg (n / 7) (show (4 : Int) ≠ 0 by decide)
 have t1 := Int.emod_lt_of_pos (n / 7) (show (0 : Int) < 4 by decide)
 have u0 := Int.emod_nonneg (n / 7) (show (100 : Int) ≠ 0 by decide)
 have u1 := Int.emod_lt_of_pos (n / 7) (show (0 : Int) < 100 by decide)
 unfold vM
 dsimp only
 refine vD (fun σ' Hz => Hz = H ∧ ∃ tn : Int, 1 ≤ tn ∧ tn ≤ 100 ∧ σ' = [some (.int n), some (.ref lf), some (.int hh), some (.str z), some (.int tn), none]) (fun σ' Hz hR => ?_) (fun D' hD => ?_)
 rotate_left
 ·refine ⟨_, rfl, _, _, rfl, rfl, ⟨by decide, by decide⟩, _, _, rfl, rfl, (lW rfl), rfl, _, rfl, ?_⟩
  rw [kP]
  refine kD (fun h1 => ?_) (fun h1 => ?_)
  ·exact ⟨_, rfl, _, _, rfl, rfl, ⟨by decide, by decide⟩, _, _, rfl, rfl, (lW rfl), _, _, rfl, rfl, hD _ _ ⟨rfl, 1 + n / 7 % 100, by omega, by omega, rfl⟩⟩
  ·exact hD _ _ ⟨rfl, 1 + n / 7 % 4, by omega, by omega, rfl⟩
 obtain ⟨rfl, tn, tn1, tn100, rfl⟩ := hR
 refine ⟨aN rfl, fun p1 hp1 => ?_⟩
 have A1 := aI.upd (o := .tup [.str "always"]) hp1
 refine ⟨_, rfl, aN rfl, fun p2 hp2 => ?_⟩
 have A2 := aI.upd (o := .tup [.str "above", .int hh]) hp2
 refine ⟨_, rfl, aN rfl, fun p3 hp3 => ?_⟩
 have A3 := aI.upd (o := .tup [.str "below", .int hh]) hp3
 refine ⟨_, rfl, aN rfl, fun p4 hp4 => ?_⟩
 have A4 := aI.upd (o := .tup [.str "wet", .str z]) hp4
 refine ⟨_, rfl, aN rfl, fun p5 hp5 => ?_⟩
 have A5 := aI.upd (o := .tup [.str "dry", .str z]) hp5
 refine ⟨aN rfl, fun p6 hp6 => ?_⟩
 have A6 := aI.upd (o := .lst [.ref p1, .ref p2, .ref p3, .ref p4, .ref p5]) hp6
 have B6 := A1.trans (A2.trans (A3.trans (A4.trans (A5.trans A6))))
 have d1 := (A2.trans (A3.trans (A4.trans (A5.trans A6)))) _ _ aB
 have d2 := (A3.trans (A4.trans (A5.trans A6))) _ _ aB
 have d3 := (A4.trans (A5.trans A6)) _ _ aB
 have d4 := (A5.trans A6) _ _ aB
 have d5 := A6 _ _ aB
 have d6 : _ = some (HO.lst [.ref p1, .ref p2, .ref p3, .ref p4, .ref p5]) := aB (H := upd (upd (upd (upd (upd Hz p1 (.tup [.str "always"])) p2 (.tup [.str "above", .int hh])) p3 (.tup [.str "below", .int hh])) p4 (.tup [.str "wet", .str z])) p5 (.tup [.str "dry", .str z])) (a := p6)
 generalize upd (upd (upd (upd (upd (upd Hz p1 (.tup [.str "always"])) p2 (.tup [.str "above", .int hh])) p3 (.tup [.str "below", .int hh])) p4 (.tup [.str "wet", .str z])) p5 (.tup [.str "dry", .str z])) p6 (.lst [.ref p1, .ref p2, .ref p3, .ref p4, .ref p5]) = H6 at B6 d1 d2 d3 d4 d5 d6 ⊢
 have ptn : (0 : Int) < tn := by omega
 refine ⟨_, rfl, _, rfl, _, _, rfl, rfl, ⟨by decide, by decide, by decide⟩, _, _, rfl, rfl, ⟨by decide, by decide⟩, _, rfl, _, _, rfl, rfl, ptn, _, rfl, aN rfl, fun p7 hp7 => ?_⟩
 have A7 := aI.upd (o := .tup [.str "day", .int (n / 10 ^ (5 : Int).toNat % tn), .int tn]) hp7
 refine ⟨_, rfl, _, _, rfl, rfl, _, _, rfl, rfl, ⟨by decide, by decide, by decide⟩, _, _, rfl, rfl, _, _, rfl, aN rfl, fun p8 hp8 => ?_⟩
 have p6' : (10 : Int) ^ (6 : Int).toNat = 1000000 := by decide
 obtain ⟨mx, emx, mx0, mx1⟩ : ∃ mx : Int, (if (0 : Int) - 10 ^ (6 : Int).toNat > hh - 1 then (0 : Int) - 10 ^ (6 : Int).toNat else hh - 1) = mx ∧ -1000000 ≤ mx ∧ mx ≤ 1000000 := by
  rw [p6']
  refine ⟨_, rfl, ?_, ?_⟩ <;> split <;> omega
 have A8 := aI.upd (o := .tup [.str "above", .int (if (0 : Int) - 10 ^ (6 : Int).toNat > hh - 1 then (0 : Int) - 10 ^ (6 : Int).toNat else hh - 1)]) hp8
 refine ⟨aN rfl, fun p9 hp9 => ?_⟩
 have A9 := aI.upd (o := .lst [.ref p7, .ref p8]) hp9
 refine ⟨p6, p9, _, _, rfl, rfl, (A7.trans (A8.trans A9)) _ _ d6, aB, aN rfl, fun p10 hp10 => ?_⟩
 have A10 := aI.upd (o := .lst ([.ref p1, .ref p2, .ref p3, .ref p4, .ref p5] ++ [.ref p7, .ref p8])) hp10
 have A710 := A7.trans (A8.trans (A9.trans A10))
 have il : IsL (upd (upd (upd (upd H6 p7 (.tup [.str "day", .int (n / 10 ^ (5 : Int).toNat % tn), .int tn])) p8 (.tup [.str "above", .int (if (0 : Int) - 10 ^ (6 : Int).toNat > hh - 1 then (0 : Int) - 10 ^ (6 : Int).toNat else hh - 1)])) p9 (.lst [.ref p7, .ref p8])) p10 (.lst ([.ref p1, .ref p2, .ref p3, .ref p4, .ref p5] ++ [.ref p7, .ref p8])))
   [.tup [.str "always"], .tup [.str "above", .int hh], .tup [.str "below", .int hh], .tup [.str "wet", .str z], .tup [.str "dry", .str z], .tup [.str "day", .int (n / 10 ^ (5 : Int).toNat % tn), .int tn], .tup [.str "above", .int mx]] [.ref p1, .ref p2, .ref p3, .ref p4, .ref p5, .ref p7, .ref p8] :=
  ⟨_, _, rfl, ⟨p1, _, rfl, A710 _ _ d1, _, _, rfl, rfl, rfl⟩, _, _, rfl, ⟨p2, _, rfl, A710 _ _ d2, _, _, rfl, rfl, _, _, rfl, rfl, rfl⟩, _, _, rfl, ⟨p3, _, rfl, A710 _ _ d3, _, _, rfl, rfl, _, _, rfl, rfl, rfl⟩, _, _, rfl, ⟨p4, _, rfl, A710 _ _ d4, _, _, rfl, rfl, _, _, rfl, rfl, rfl⟩, _, _, rfl, ⟨p5, _, rfl, A710 _ _ d5, _, _, rfl, rfl, _, _, rfl, rfl, rfl⟩,
   _, _, rfl, ⟨p7, _, rfl, (A8.trans (A9.trans A10)) _ _ aB, _, _, rfl, rfl, _, _, rfl, rfl, _, _, rfl, rfl, rfl⟩, _, _, rfl, ⟨p8, _, rfl, (A9.trans A10) _ _ aB, _, _, rfl, rfl, _, _, rfl, congrArg V.int emx, rfl⟩, rfl⟩
 obtain ⟨d', v', md', ev', iv'⟩ := aGE il (i := n % 7) (Int.emod_nonneg _ (by decide)) (Int.emod_lt_of_pos _ (by decide))
 refine ⟨_, rfl, _, rfl, _, _, rfl, rfl, (lW rfl), p10, _, _, v', rfl, rfl, SqL.of aB, ev', ?_⟩
 have ok : GoodC (fs.map aK) d' ∧ pP d' = true := by
  simp only [List.mem_cons, List.not_mem_nil, or_false] at md'
  rcases md' with rfl | rfl | rfl | rfl | rfl | rfl | rfl
  ·exact ⟨⟨rfl, rfl, rfl⟩, rfl⟩
  ·exact ⟨xG (by decide +kernel) (by decide +kernel) hb.1 hb.2, rfl⟩
  ·exact ⟨xG (by decide +kernel) (by decide +kernel) hb.1 hb.2, rfl⟩
  ·exact ⟨aJN (by decide +kernel) (by decide +kernel) (by decide +kernel) mz sz, rfl⟩
  ·exact ⟨aJN (by decide +kernel) (by decide +kernel) (by decide +kernel) mz sz, rfl⟩
  ·exact ⟨aMU (Int.emod_nonneg _ (by omega)) (Int.emod_lt_of_pos _ ptn) tn100, rfl⟩
  ·exact ⟨xG (by decide +kernel) (by decide +kernel) mx0 mx1, rfl⟩
 exact q v' d' _ (B6.trans A710) iv' ok.1 ok.2
open Mt21 Mt46
def sp5 (f : V → V → V → V → V → Hp → VK → Prop) : Sp := fun vs H Q _ => ∃ x y z u v, vs = [x, y, z, u, v] ∧ f x y z u v H Q
theorem aME {f : V → V → V → V → V → Hp → VK → Prop} : ∀ vs H Q E, sp5 f vs H Q E → vs.length = 5 := fun vs H Q E ⟨x, y, z, u, v, e, _⟩ => by rw [e]; rfl
theorem aCG {gs zs : List Str} : ∀ {es : List Dv}, (∀ d ∈ es, GoodX gs zs d) → ∃ xs : List Dk, es = xs.map dkD ∧ (∀ x ∈ xs, GoodX gs zs (dkD x)) ∧ (∀ x ∈ xs, aCJ x.2.2 ∧ x.2.2.length ≤ 6 ∧ x.2.1 ∈ gs)
 | [], _ => ⟨[], rfl, (fun x m => by cases m), fun x m => by cases m⟩
 | e :: es, h => by
  obtain ⟨xs, rfl, h1, h2⟩ := aCG fun d m => h d (List.mem_cons_of_mem _ m)
  have g := h e List.mem_cons_self
  obtain ⟨a, g', cs, rfl, ha, mg', l1, l6, hc, _⟩ := g.sh
  obtain ⟨ks, rfl, oks⟩ := zB fun c m => (hc c m).ok
  refine ⟨(a, g', ks) :: xs, rfl, fun x m => ?_, fun x m => ?_⟩
  ·rcases List.mem_cons.mp m with rfl | m
   ·exact g
   ·exact h1 x m
  ·rcases List.mem_cons.mp m with rfl | m
   ·exact ⟨oks, by rw [List.length_map] at l6; exact l6, mg'⟩
   ·exact h2 x m
theorem aBF (H : Hp) : ∀ zs : List Str, IsL H (zs.map Dv.str) (zs.map V.str)
 | [] => rfl
 | z :: zs => ⟨_, _, rfl, rfl, aBF H zs⟩
def aJC (K : PySem.W.Frag) : Sp := sp5 fun x y z u v H Q => ∃ (ia im : Nat) (lf ld : Addr) (vf vd : List V) (fs ds : List Dv), Scr K H x ∧ y = .int ia ∧ ia ≤ 63 ∧ z = .int im ∧ im ≤ 60 ∧ u = .ref lf ∧ H lf = some (.lst vf) ∧ IsL H fs vf ∧ GoodF fs ∧ v = .ref ld ∧ H ld = some (.lst vd) ∧ IsL H ds vd ∧ GoodD ("sea" :: fs.map aK) ds ∧
 ∀ (l : Addr) (xs : List Dk) (H' : Hp), aI H H' → H l = none → Decs H' l ((ds.filter bC).map aK) (fs.map aK) xs → xs.length ≤ im → Q (.ref l) H'
theorem wT (T : Txt K mg C) : Fc P w K mg base 3 "_law_decrees" ["_law_script", "_law_at", "_law_most", "_law_fields_here", "_law_dykes_here"] (aJC K) := by
 have G_l_mixed : Fc P w K mg base 1 "_law_mixed" ["_law_script", "_law_k"] (aEU K) := mD T
 have G_l_condition : Fc P w K mg base 2 "_law_condition" ["_law_cell", "_law_fields_here"] aJE := tK T
 refine T.d_l_decrees.fc dU aME (fun f cdv A outer s H vs Q E hr h => ?_)
 obtain ⟨x, y, z, u, v, rfl, ia, im, lf, ld, vf, vd, fs, ds, ⟨a, ns, rfl, hS, hns⟩, rfl, ia63, rfl, im60, rfl, hlf, iff, gf, rfl, hld, idd, gd, q⟩ := h
 have scr : Scr K H (.ref a) := ⟨a, ns, rfl, hS, hns⟩
 have big := bT
 have lvd := idd.length
 have d2 := gd.l2
 refine ⟨_, (aG (@oN _ (5) _ _ _ _ _ _ _ _ _ _ _ _ _ dU.nd rfl ["_law_dyke"] 1 [] rfl (@bM _ _ _ _ (pv 4)) (fun R => @aO _ _ (0) _ (show List.Nodup (["_law_dyke"] : List Str) by decide +kernel) rfl (Or.inl rfl) (by trivial)) (@aZ _ _ (by decide)) (fun R => @gJ _ _ _ (@bD _ _ _ _ _ _ _ _ mB (@aY _ _ _ _ _ _ _ (@aQ _ (K) rfl) (pv 0) aE (fun _ _ => rfl)) eZ (@bB _ _ (by decide) (by decide)))) (fun R => (@aY _ _ _ _ _ _ _ (@aQ _ (K) rfl) (pv 0) aE (fun _ _ => rfl))) (by exact Or.inl rfl) (by trivial) (by rfl) (by rfl) (by rfl) (by rfl) (by rfl) (by rfl) (by rfl) (by rfl) (by intro _; rfl)) (aG (@aS _ _ (6) _ _ _ _ dU.nd rfl (Or.inl rfl) (@cG _ _ _ _ aD) (by rfl) (by trivial)) (aG (@cE _ _ _ _ _ _ _ _ (@bD _ _ _ _ _ _ _ _ (@aKI _ hr.units) (pv 5) (@cG _ _ _ _ aD) (@bB _ _ (by decide) (by decide))) (aH (@aR _ _ _ _ (@cG _ _ _ _ aD))) bE) (aG (@eY _ _ _ _ _ _ _ _ PassesOwn.never rfl (@hE _ _ _ _ _ _ rfl T.n_range (aA (@aP _ _ _ _ _ _ _ _ cH (@bO _ _ _ _ _ _ _ _ _ _ G_l_mixed (hr.mono (by decide)) (aA (pv 0) (aA (pv 1) aD)) (by rfl) (by decide) (by rfl) (by rfl)) (@aP _ _ _ _ _ _ _ _ fM (pv 2) aE)) aD) (by rfl)) (@aO _ _ (7) _ dU.nd rfl (Or.inl rfl) (by trivial)) (aG (@aS _ _ (8) _ _ _ _ dU.nd rfl (Or.inl rfl) (@aP _ _ _ _ _ _ _ _ bQ (@bO _ _ _ _ _ _ _ _ _ _ G_l_mixed (hr.mono (by decide)) (aA (pv 0) (aA (@aP _ _ _ _ _ _ _ _ fM (pv 1) (pv 7)) aD)) (by rfl) (by decide) (by rfl) (by rfl)) aE) (by rfl) (by trivial)) (aG (@aS _ _ (9) _ _ _ _ dU.nd rfl (Or.inl rfl) (@cG _ _ _ _ aD) (by rfl) (by trivial)) (aG (@eY _ _ _ _ _ _ _ _ PassesOwn.never rfl (@hE _ _ _ _ _ _ rfl T.n_range (aA (@aP _ _ _ _ _ _ _ _ fM aE (@aP _ _ _ _ _ _ _ _ cH (pv 8) aE)) aD) (by rfl)) (@aO _ _ (10) _ dU.nd rfl (Or.inl rfl) (by trivial)) (aH (@fR _ _ _ _ (@mY _ _ _ _ _ _ _ _ _ _ _ _ PySem.F.plainAttrs_list PySem.F.slot_list_append PySem.F.type_list_append fT (pv 9) (aA (@bO _ _ _ _ _ _ _ _ _ _ G_l_condition (hr.mono (by decide)) (aA (@aP _ _ _ _ _ _ _ _ bQ (pv 8) (@aY _ _ _ _ _ _ _ (@dM _ (K) rfl) (@cG _ _ _ _ (aA aE (aA (@aP _ _ _ _ _ _ _ _ sW aE (@aP _ _ _ _ _ _ _ _ eA aE aE)) (aA (@aP _ _ _ _ _ _ _ _ sW aE (@aP _ _ _ _ _ _ _ _ eA aE aE)) aD)))) (pv 10) (fun _ _ => rfl))) (aA (pv 3) aD)) (by rfl) (by decide) (by rfl) (by rfl)) aD) (by rfl) (by rfl) (by rfl) (by rfl) (by rfl)) (by rfl))) (by intro _; rfl)) (aG (@aS _ _ (11) _ _ _ _ dU.nd rfl (Or.inl rfl) (@aP _ _ _ _ _ _ _ _ bQ (pv 8) (@aP _ _ _ _ _ _ _ _ eA aE aE)) (by rfl) (by trivial)) (aH (@fR _ _ _ _ (@mY _ _ _ _ _ _ _ _ _ _ _ _ PySem.F.plainAttrs_list PySem.F.slot_list_append PySem.F.type_list_append fT (pv 6) (aA (@cO _ _ _ _ _ (aA (@aY _ _ _ _ _ _ _ (@dM _ (K) rfl) (@cG _ _ _ _ (aA cJ (aA cJ aD))) (@aP _ _ _ _ _ _ _ _ cH (pv 11) aE) (fun _ _ => rfl)) (aA (@aY _ _ _ _ _ _ _ (@dM _ (K) rfl) (pv 5) (@aP _ _ _ _ _ _ _ _ cH (@aP _ _ _ _ _ _ _ _ bQ (pv 11) aE) (@aV _ _ _ _ _ _ _ _ _ (@bW _ (K) rfl) rfl T.n_len cM (aA (pv 5) aD) (by decide) (by decide) (by rfl) (by rfl))) (fun _ _ => rfl)) (aA (pv 9) aD)))) aD) (by rfl) (by rfl) (by rfl) (by rfl) (by rfl)) (by rfl))))))) (by intro _; rfl)) (aH (@aR _ _ _ _ (pv 6))))))), ?_⟩
 refine ⟨_, rfl, ld, rfl, ⟨_, SqL.of hld⟩, ?_⟩
 refine bP (F := K) (xs := vd) (by omega) (fun i ys H' => H = H' ∧ ys = (((ds.take i).filter bC).map aK).map V.str ∧ ys.length ≤ i) ⟨rfl, rfl, Nat.le_refl _⟩ ?_ ?_ ?_
 ·rintro i ys H' hi' ⟨rfl, rfl, hy⟩
  exact ⟨SqL.of hld, hy⟩
 ·rintro i xv ys H' K1 K2 hx ⟨rfl, rfl, hy⟩ k1 k2
  have hil : i < vd.length := (List.getElem?_eq_some_iff.mp hx).1
  obtain ⟨d, ed⟩ : ∃ d, ds[i]? = some d := ⟨_, List.getElem?_eq_getElem (by omega)⟩
  obtain ⟨v, ev, iv⟩ := idd.get ed
  rw [hx] at ev
  cases ev
  obtain ⟨n, a', b', c, r, sl, rfl, _⟩ := bR (gd.all d (List.mem_of_getElem? ed))
  obtain ⟨t, vs, rfl, o, iss⟩ := iW iv
  refine ⟨_, rfl, t, _, 5, vs, rfl, rfl, SqT.of o, aJ (j := 5) rfl, rfl, _, rfl, ?_⟩
  rw [yU iss]
  have e0 : bC (.tup [.str n, .str a', .str b', .int c, .int r, sl]) = !tS sl := rfl
  cases e : tS sl with
  | true =>
   refine bF (k2 _ ⟨rfl, ?_, by omega⟩)
   rw [List.take_add_one, ed]
   simp [e0, e]
  | false =>
   refine bU ⟨_, rfl, t, _, 0, .str n, rfl, rfl, SqT.of o, aJ (j := 0) rfl, k1 _ _ ⟨rfl, ?_, by rw [List.length_append, List.length_singleton]; omega⟩⟩
   rw [List.take_add_one, ed]
   simp [e0, e, aK, cU]
 rintro ys H' ⟨rfl, rfl, hy⟩
 rw [List.take_of_length_le (by omega)]
 intro lg hlg
 have A1 := aI.upd (o := .lst (((ds.filter bC).map aK).map V.str)) hlg
 have hlg1 : upd H lg (.lst (((ds.filter bC).map aK).map V.str)) lg = some (.lst (((ds.filter bC).map aK).map V.str)) := aB
 have gsl : ∀ z ∈ (ds.filter bC).map aK, z.length ≤ 1000 := fun z m => by
  obtain ⟨d, md, rfl⟩ := List.mem_map.mp m
  obtain ⟨n, a', b', c, r, sl, rfl, hn, _⟩ := bR (gd.all d (List.mem_filter.mp md).1)
  have : (decide (1 ≤ n.length) && decide (n.length ≤ 8) && !decide (n = "sea") && n.cps.toList.all iG) = true := hn
  simp only [Bool.and_eq_true, decide_eq_true_eq] at this
  show n.length ≤ 1000
  omega
 generalize hgs : (ds.filter bC).map aK = gs at *
 generalize upd H lg (.lst (gs.map V.str)) = H1 at A1 hlg1 ⊢
 refine ⟨aN rfl, fun l hl => ?_⟩
 have A2 := aI.upd (o := .lst []) hl
 have T2 := A1.trans A2
 have nl : H l = none := A1.free hl
 have hl2 : upd H1 l (.lst []) l = some (.lst []) := aB
 have hlg2 := A2 _ _ hlg1
 have nlg : lg ≠ l := fun z => by rw [z, hl] at hlg1; cases hlg1
 generalize upd H1 l (.lst []) = H2 at T2 hl2 hlg2 ⊢
 refine ⟨_, rfl, aN rfl, fun pe hpe => ?_⟩
 have A3 := aI.upd (o := .lst []) hpe
 have T3 := T2.trans A3
 refine ⟨.lst (gs.map Dv.str), .lst [], ⟨lg, _, rfl, A3 _ _ hlg2, aBF _ _⟩, ⟨pe, [], rfl, aB, rfl⟩, yW gs, by decide, _, rfl, ?_⟩
 cases hg : gs with
 | nil =>
  refine bU ⟨aN rfl, fun l' hl' => ?_⟩
  have A4 := aI.upd (o := .lst []) hl'
  refine q l' [] _ (T3.trans A4) (T3.free hl') ⟨⟨[], aB, rfl⟩, (fun x m => by cases m), fun x m => by cases m⟩ (Nat.zero_le _)
 | cons g0 gr =>
  refine bF ?_
  have lgs : 1 ≤ gs.length := by rw [hg]; simp
  have hl3 := A3 _ _ hl2
  have hlg3 := A3 _ _ hlg2
  generalize upd H2 pe (.lst []) = H3 at A3 T3 hl3 hlg3 ⊢
  refine ⟨_, rfl, _, rfl, _, _, rfl, _, scr.same T3, rfl, by omega, fun m0 hm0 => ?_⟩
  have pim : (0 : Int) < (im : Int) + 1 := by omega
  have r0 : 0 ≤ m0 % ((im : Int) + 1) := Int.emod_nonneg _ (by omega)
  have r1 : m0 % ((im : Int) + 1) < (im : Int) + 1 := Int.emod_lt_of_pos _ pim
  obtain ⟨cnt, hcnt⟩ := Int.eq_ofNat_of_zero_le r0
  refine ⟨_, rfl, _, _, rfl, rfl, _, _, rfl, rfl, pim, (cnt : Int), congrArg (fun x => [V.int x]) hcnt, by omega, by omega, ?_⟩
  rw [Int.toNat_natCast]
  refine iI (lo := 0) (n := cnt) (fun i σ H' => ∃ (w7 w8 w9 w10 w11 : Option V) (vs : List V) (es : List Dv), σ = [some (.ref a), some (.int ia), some (.int im), some (.ref lf), some (.ref ld), some (.ref lg), some (.ref l), w7, w8, w9, w10, w11] ∧ cV l H3 H' ∧ H' l = some (.lst vs) ∧ IsL (del l H') es vs ∧ es.length = i ∧ ∀ d ∈ es, GoodX gs (fs.map aK) d) ⟨_, _, _, _, _, [], [], rfl, (fun b o e _ => e), hl3, rfl, rfl, fun d m => by cases m⟩ ?_ ?_
  ·rintro i σ H' hi ⟨w7, w8, w9, w10, w11, ys, es, rfl, X, hly, iy, le, all⟩
   have SH : aI H H' := fun b o e => X _ _ (T3 _ _ e) (fun z => by rw [z, nl] at e; cases e)
   have ly := iy.length
   refine ⟨_, rfl, _, rfl, _, rfl, _, _, rfl, rfl, _, _, rfl, _, scr.same SH, rfl, by show 0 ≤ (ia : Int) + (0 + (i : Int)); omega, fun m1 hm1 => ?_⟩
   refine ⟨_, _, rfl, rfl, ⟨by decide, by decide⟩, ?_⟩
   dsimp only
   generalize m1 / 16 = mc
   refine ⟨aN rfl, fun lc hlc => ?_⟩
   have A5 := aI.upd (o := .lst []) hlc
   have nlc : lc ≠ l := fun z => by rw [z, hly] at hlc; cases hlc
   have hlc5 : upd H' lc (.lst []) lc = some (.lst []) := aB
   generalize upd H' lc (.lst []) = H5 at A5 hlc5 ⊢
   have c0 := Int.emod_nonneg mc (show (3 : Int) ≠ 0 by decide)
   have c1 := Int.emod_lt_of_pos mc (show (0 : Int) < 3 by decide)
   obtain ⟨cj, hcj⟩ := Int.eq_ofNat_of_zero_le (show 0 ≤ 1 + mc % 3 by omega)
   refine ⟨_, rfl, _, _, rfl, rfl, (lW rfl), _, _, rfl, rfl, (cj : Int), congrArg (fun x => [V.int x]) hcj, by omega, by omega, ?_⟩
   rw [Int.toNat_natCast]
   refine iI (lo := 0) (n := cj) (fun j σ Hx => ∃ (w10 : Option V) (us : List V) (cs : List Dv), σ = [some (.ref a), some (.int ia), some (.int im), some (.ref lf), some (.ref ld), some (.ref lg), some (.ref l), some (.int (0 + (i : Int))), some (.int mc), some (.ref lc), w10, w11] ∧ cV lc H5 Hx ∧ Hx lc = some (.lst us) ∧ IsL Hx cs us ∧ cs.length = j ∧ ∀ d ∈ cs, GoodC (fs.map aK) d ∧ pP d = true) ⟨_, [], [], rfl, (fun b o e _ => e), hlc5, rfl, rfl, fun d m => by cases m⟩ ?_ ?_
   ·rintro j σ Hx hj ⟨w10', us, cs, rfl, Xc, hlx, ic, lcs, okc⟩
    have SX : aI H' Hx := fun b o e => Xc _ _ (A5 _ _ e) (fun z => by rw [z, hlc] at e; cases e)
    have lu := ic.length
    refine ⟨_, rfl, .inl ⟨rfl, _, SqL.of hlx⟩, ?_⟩
    refine ⟨_, rfl, _, _, rfl, rfl, ⟨by decide, by decide, by decide⟩, _, _, rfl, rfl, .inl ⟨by decide, by decide⟩, _, _, rfl, rfl, ⟨by decide, by decide, by decide⟩, _, _, rfl, rfl, .inl ⟨by decide, by decide⟩, aN rfl, fun p6 hp6 => ?_⟩
    obtain ⟨qd, eqd, qd0, qdl⟩ : ∃ qd : Int, atI ([.int 4, .int (4 * 10 ^ (7 : Int).toNat), .int (4 * 10 ^ (14 : Int).toNat)] : List V) (0 + (j : Int)) = some (.int qd) ∧ 0 < qd ∧ qd.natAbs.log2 < 9000 := by
     rw [Int.zero_add]
     obtain rfl | rfl | rfl : j = 0 ∨ j = 1 ∨ j = 2 := by omega
     ·exact ⟨_, aJ (j := 0) rfl, by decide, by decide⟩
     ·exact ⟨_, aJ (j := 1) rfl, by decide, by decide⟩
     ·exact ⟨_, aJ (j := 2) rfl, by decide, by decide⟩
    have A6 := aI.upd (o := .lst [.int 4, .int (4 * 10 ^ (7 : Int).toNat), .int (4 * 10 ^ (14 : Int).toNat)]) hp6
    have S6 := SH.trans (SX.trans A6)
    refine ⟨_, rfl, p6, _, _, .int qd, rfl, rfl, SqL.of aB, eqd, _, _, rfl, rfl, ⟨qd0, qdl⟩, _, rfl, _, _, rfl, _, lf, vf, fs, rfl, rfl, S6 _ _ hlf, IsL.same S6 _ _ iff, gf, fun v d H7 S7 iv okd hrd => ?_⟩
    have A7 := A6.trans S7
    have hlx7 := A7 _ _ hlx
    refine ⟨lc, _, _, rfl, rfl, hlx7, by omega, ?_⟩
    have kp : kI Hx (upd H7 lc (.lst (us ++ [v]))) := fun b xs e => by
     rw [aT (fun z => by rw [z, hlx] at e; cases e)]
     exact A7 _ _ e
    have kp7 : kI H7 (upd H7 lc (.lst (us ++ [v]))) := fun b xs e => by
     rw [aT (fun z => by rw [z, hlx7] at e; cases e)]
     exact e
    refine ⟨_, us ++ [v], cs ++ [d], rfl, (Xc.then A7).put, aB, IsL.snoc (Is.keep kp7 _ _ hrd iv) (IsL.keep kp _ _ (gL fun d m => (okc d m).2) ic), by rw [List.length_append, lcs]; rfl, ?_⟩
    intro d' md
    rcases List.mem_append.mp md with md | md
    ·exact okc d' md
    ·rw [List.mem_singleton.mp md]
     exact ⟨okd, hrd⟩
   ·rintro σ Hx ⟨w10', us, cs, rfl, Xc, hlx, ic, lcs, okc⟩
    have SX : aI H' Hx := fun b o e => Xc _ _ (A5 _ _ e) (fun z => by rw [z, hlc] at e; cases e)
    have hlyx := SX _ _ hly
    refine ⟨_, rfl, _, _, rfl, rfl, ⟨by decide, by decide, by decide⟩, _, _, rfl, rfl, ⟨by decide, by decide⟩, ?_⟩
    dsimp only
    generalize mc / 10 ^ (21 : Int).toNat = sp
    refine ⟨_, rfl, .inl ⟨rfl, _, SqL.of hlyx⟩, ?_⟩
    refine ⟨aN rfl, fun p8 hp8 => ?_⟩
    have A8 := aI.upd (o := .lst [.str "open", .str "shut"]) hp8
    obtain ⟨da, va, mda, eva, iva⟩ := aGE (H := H) (ds := [.str "open", .str "shut"]) (vs := [.str "open", .str "shut"]) ⟨_, _, rfl, rfl, _, _, rfl, rfl, rfl⟩ (i := sp % 2) (Int.emod_nonneg _ (by decide)) (Int.emod_lt_of_pos _ (by decide))
    obtain ⟨dd, rfl, rfl, oka, sa⟩ : ∃ dd : Str, da = .str dd ∧ va = .str dd ∧ bZ ["open", "shut"] (.str dd) = true ∧ dd.length ≤ 1000 := by
     simp only [List.mem_cons, List.not_mem_nil, or_false] at mda
     rcases mda with rfl | rfl
     ·exact ⟨_, rfl, iva, by decide +kernel, by decide +kernel⟩
     ·exact ⟨_, rfl, iva, by decide +kernel, by decide +kernel⟩
    have hlgx := SX _ _ (X _ _ hlg3 nlg)
    have pg : (0 : Int) < (((gs.map V.str).length : Nat) : Int) := by rw [List.length_map]; omega
    obtain ⟨kg, hkg⟩ := Int.eq_ofNat_of_zero_le (show 0 ≤ sp / 2 % (((gs.map V.str).length : Nat) : Int) from Int.emod_nonneg _ (by omega))
    have lkg : kg < gs.length := by have := Int.emod_lt_of_pos (sp / 2) pg; rw [hkg, List.length_map] at this; omega
    obtain ⟨gt, egt⟩ : ∃ z, gs[kg]? = some z := ⟨_, List.getElem?_eq_getElem lkg⟩
    have mgt := List.mem_of_getElem? egt
    refine ⟨_, rfl, _, _, rfl, rfl, (lW rfl), p8, _, _, .str dd, rfl, rfl, SqL.of aB, eva, ?_⟩
    refine ⟨_, rfl, _, rfl, _, _, rfl, rfl, ⟨by decide, by decide⟩, _, rfl, lg, _, rfl, .inl (SqL.of (A8 _ _ hlgx)), _, _, rfl, rfl, pg, lg, _, _, .str gt, rfl, rfl, SqL.of (A8 _ _ hlgx), by rw [hkg]; exact aJ (by rw [List.getElem?_map, egt]; rfl), ?_⟩
    refine ⟨_, rfl, aN rfl, fun t ht => ?_⟩
    have A9 := aI.upd (o := .tup [.str dd, .str gt, .ref lc]) ht
    have A89 := A8.trans A9
    refine ⟨l, _, _, rfl, rfl, A89 _ _ hlyx, by omega, ?_⟩
    have S9 := SX.trans A89
    have hXl : ∃ o, H' l = some o := ⟨_, hly⟩
    refine ⟨_, _, _, _, _, ys ++ [.ref t], es ++ [.tup [.str dd, .str gt, .lst cs]], rfl, (X.then S9).put, aB, IsL.snoc ?_ (IsL.same ((aMR S9).trans aMS) _ _ iy), by rw [List.length_append, le]; rfl, ?_⟩
    ·have ntH : H' t = none := (SX.trans A8).free ht
     refine Is.same aMS _ _ ⟨t, _, rfl, aMB hXl ntH aB, _, _, rfl, rfl, _, _, rfl, rfl, _, _, rfl, ⟨lc, us, rfl, aMB hXl hlc (A89 _ _ hlx), ?_⟩, rfl⟩
     refine IsL.keep (fun b xs e => ?_) _ _ (gL fun d m => (okc d m).2) ic
     exact aGZ (fun z => by rw [z, hlyx] at e; cases e) (A89 _ _ e)
    ·intro d' md
     rcases List.mem_append.mp md with md | md
     ·exact all d' md
     ·rw [List.mem_singleton.mp md]
      exact aGO oka sa mgt (gsl gt mgt) (by omega) (by omega) (fun c m => (okc c m).1)
  ·rintro σ H' ⟨w7, w8, w9, w10, w11, ys, es, rfl, X, hly, iy, le, all⟩
   have SH : aI H H' := fun b o e => X _ _ (T3 _ _ e) (fun z => by rw [z, nl] at e; cases e)
   obtain ⟨xs, rfl, h1, h2⟩ := aCG all
   rw [List.length_map] at le
   exact ⟨_, rfl, q l xs H' SH nl ⟨⟨ys, hly, IsL.same (aGY _ _) _ _ iy⟩, h1, h2⟩ (by omega)⟩
open Mt22 MtF
def pT (K : PySem.W.Frag) : Sp := sp2 fun x y H Q => ∃ (a l : Addr) (vs : List V) (ds : List Dv) (zs op : List Str), x = .ref a ∧ y = .ref l ∧ H a = some (.lst vs) ∧ IsL H ds vs ∧ GoodD zs ds ∧ H l = some (.lst (op.map V.str)) ∧ (∀ z ∈ op, z ∈ (ds.filter bC).map aK) ∧
 ∀ (d : Addr) (H' : Hp), aI H H' → H d = none → H' d = some (.dK (iA op ds)) → Q (.ref d) H'
theorem aDA {kvs : List (Key × V)} {k : Key} {v v' : V} (h : dG kvs k = none) : iB (kvs ++ [(k, v)]) k v' = kvs ++ [(k, v')] := by
 have no : ∀ kv ∈ kvs, kv.1 ≠ k := fun kv m e => by
  unfold dG at h
  have h2 : kvs.find? (fun kv => decide (kv.1 = k)) = none := by
   cases e2 : kvs.find? (fun kv => decide (kv.1 = k)) with
   | none => rfl
   | some x => rw [e2] at h; cases h
  have := List.find?_eq_none.mp h2 kv m
  simp [e] at this
 unfold iB
 have : ((kvs ++ [(k, v)]).any fun kv => decide (kv.1 = k)) = true := by
  rw [List.any_append]
  simp
 rw [if_pos this, List.map_append]
 congr 1
 ·have e : ∀ l : List (Key × V), (∀ kv ∈ l, kv.1 ≠ k) → l.map (fun kv => if kv.1 = k then (kv.1, v') else kv) = l := fun l hl => by
   conv => rhs; rw [← List.map_id l]
   exact List.map_congr_left fun kv m => by rw [if_neg (hl kv m)]; rfl
  exact e kvs no
 ·simp
theorem qQ (T : Txt K mg C) : Fc P w K mg base 1 "_law_stands" ["_law_dykes_here", "_law_opened_here"] (pT K) := by
 refine T.d_l_stands.fc eO jH (fun f cdv A outer s H vs Q E hr h => ?_)
 obtain ⟨x, y, rfl, a, l, vs, ds, zs, op, rfl, rfl, ha, hia, gd, hl, sub, q⟩ := h
 have big := bT
 have hu := kF hr
 have lv := hia.length
 have d2 := gd.l2
 refine ⟨_, (aG (@aS _ _ (2) _ _ _ _ eO.nd rfl (Or.inl rfl) aFR (by rfl) (by trivial)) (aG (@eY _ _ _ _ _ _ _ _ PassesOwn.never rfl (@bM _ _ _ _ (pv 0)) (@lX _ _ _ _ _ _ rfl (@bN _ _ _ _ _ (@aO _ _ (3) _ eO.nd rfl (Or.inl rfl) (by trivial)) (@bN _ _ _ _ _ (@aO _ _ (4) _ eO.nd rfl (Or.inl rfl) (by trivial)) (@bN _ _ _ _ _ (@aO _ _ (5) _ eO.nd rfl (Or.inl rfl) (by trivial)) (@bN _ _ _ _ _ (@aO _ _ (6) _ eO.nd rfl (Or.inl rfl) (by trivial)) (@bN _ _ _ _ _ (@aO _ _ (7) _ eO.nd rfl (Or.inl rfl) (by trivial)) (@bN _ _ _ _ _ (@aO _ _ (8) _ eO.nd rfl (Or.inl rfl) (by trivial)) jG (by rfl)) (by rfl)) (by rfl)) (by rfl)) (by rfl)) (by rfl)) (by rfl) (by rfl)) (aG (@pI _ _ _ _ _ _ _ _ _ hu (pv 2) (pv 3) (pv 6) rfl) (aH (@cE _ _ _ _ _ _ _ _ (@bD _ _ _ _ _ _ _ _ (@eB _ (K) rfl) (pv 3) (pv 1) (by with_unfolding_all rfl)) (aH (@pI _ _ _ _ _ _ _ _ _ hu (pv 2) (pv 3) (pv 8) rfl)) bE))) (by intro _; rfl)) (aH (@aR _ _ _ _ (pv 2))))), ?_⟩
 refine fun d hd => ?_
 have S1 := aI.upd (o := .dK []) hd
 refine ⟨_, rfl, a, rfl, ⟨_, SqL.of (S1 _ _ ha)⟩, fO (K := K) (a := a) (xs := vs)
  (fun i σ H' => ∃ v3 v4 v5 v6 v7 v8 : Option V, σ = [some (.ref a), some (.ref l), some (.ref d), v3, v4, v5, v6, v7, v8] ∧ aI H H' ∧ H' d = some (.dK (iA op (ds.take i))))
  ⟨_, _, _, _, _, _, rfl, S1, aB⟩ (fun i σ H' _ ⟨_, _, _, _, _, _, _, S', _⟩ => SqL.of (S' _ _ ha)) ?_ ?_⟩
 ·rintro i xv σ H2 hi ⟨v3, v4, v5, v6, v7, v8, rfl, S2, hd2⟩
  have hil : i < vs.length := (List.getElem?_eq_some_iff.mp hi).1
  obtain ⟨dd, ed⟩ : ∃ d, ds[i]? = some d := ⟨_, List.getElem?_eq_getElem (by omega)⟩
  obtain ⟨v, ev, iv⟩ := hia.get ed
  rw [hi] at ev
  cases ev
  have md := List.mem_of_getElem? ed
  have si := fun h => xW gd sub md h
  have knew : dG (iA op (ds.take i)) (Sum.inr (aK dd)) = none := by
   cases e : dG (iA op (ds.take i)) (Sum.inr (aK dd)) with
   | none => rfl
   | some v =>
    have := aBB e
    rw [vC] at this
    obtain ⟨e2, me2, ee⟩ := List.mem_map.mp this
    have enm : aK e2 = aK dd := Sum.inr.inj ee
    have h3 : ((ds.take (i + 1)).map aK).Nodup := by
     rw [List.map_take]
     exact List.Nodup.sublist (List.take_sublist _ _) gd.nd
    rw [List.take_add_one, ed, List.map_append, List.nodup_append] at h3
    exact absurd enm (h3.2.2 _ (List.mem_map.mpr ⟨e2, me2, rfl⟩) _ (List.mem_singleton.mpr rfl))
  have ek : iA op (ds.take (i + 1)) = iA op (ds.take i) ++ [(Sum.inr (aK dd), V.int (cB op dd))] := by
   unfold iA
   rw [List.take_add_one, ed, List.map_append]
   rfl
  have lk : (iA op (ds.take i)).length < sizeLine := by
   unfold iA
   rw [List.length_map, List.length_take]
   omega
  obtain ⟨n, a', b', c, r, sl, rfl, _⟩ := bR (gd.all dd md)
  obtain ⟨t, sv, rfl, o, isv⟩ := iW iv
  refine ⟨t, _, rfl, SqT.of (S2 _ _ o), rfl, _, _, rfl, _, _, rfl, _, _, rfl, _, _, rfl, _, _, rfl, _, _, rfl, rfl, ?_⟩
  have knew' : dG (iA op (ds.take i)) (Sum.inr n) = none := knew
  refine ⟨_, rfl, _, rfl, _, rfl, d, _, rfl, .inl ⟨_, Sum.inr n, hd2, rfl, lk, rfl⟩, ?_⟩
  have S3 : aI H (upd H2 d (.dK (iB (iA op (ds.take i)) (Sum.inr n) (.int c)))) := S2.over hd
  have hd3 : upd H2 d (.dK (iB (iA op (ds.take i)) (Sum.inr n) (.int c))) d = some (.dK (iA op (ds.take i) ++ [(Sum.inr n, .int c)])) := by rw [aB, yD _ knew']
  generalize upd H2 d (.dK (iB (iA op (ds.take i)) (Sum.inr n) (.int c))) = H3 at S3 hd3 ⊢
  refine ⟨_, rfl, _, rfl, l, _, rfl, .inl (SqL.of (S3 _ _ hl)), rfl, cQ op, _, rfl, ?_⟩
  rw [eS]
  by_cases mo : n ∈ op
  ·obtain ⟨i2, e2⟩ := si mo
   have e2' : sl = .int i2 := e2
   subst e2'
   cases (show sv = .int i2 from isv)
   rw [decide_eq_true mo]
   refine bU ⟨_, rfl, _, rfl, _, rfl, d, _, rfl, .inl ⟨_, Sum.inr n, hd3, rfl, by rw [List.length_append]; show _ + 1 < _; have h4 := d2; unfold iA; rw [List.length_map, List.length_take]; omega, rfl⟩, ?_⟩
   refine ⟨_, _, _, _, _, _, rfl, S3.over hd, ?_⟩
   rw [aB, aDA knew', ek]
   show some (HO.dK (_ ++ [(Sum.inr n, V.int i2)])) = some (HO.dK (_ ++ [(Sum.inr n, V.int (if n ∈ op then i2 else c))]))
   rw [if_pos mo]
  ·rw [decide_eq_false mo]
   refine bF ⟨_, _, _, _, _, _, rfl, S3, ?_⟩
   rw [hd3, ek]
   show some (HO.dK (_ ++ [(Sum.inr n, V.int c)])) = some (HO.dK (_ ++ [(Sum.inr n, V.int (if n ∈ op then yV sl else c))]))
   rw [if_neg mo]
 ·rintro σ H2 ⟨v3, v4, v5, v6, v7, v8, rfl, S2, hd2⟩
  rw [List.take_of_length_le (by omega)] at hd2
  exact ⟨_, rfl, q d H2 S2 hd hd2⟩
open Mt22 MtF Mt31
def vR (ss : List Mt22.St) : Str := (ss.getLast?).elim Mt22.sea (·.far)
theorem zD {S : List Mt22.St} {ss : List Mt22.St} {v : Str} (c : Chain S ss v) : v = vR ss ∧ ∀ (i : Nat) (s : Mt22.St), ss[i]? = some s → s.near = vR (ss.take i) ∧ s ∈ S ∧ s.far ∉ (ss.take i).map (·.far) := by
 induction c with
 | nil => exact ⟨rfl, fun i s e => by cases e⟩
 | @snoc ss s c m n ih =>
  refine ⟨by simp [vR], fun i t e => ?_⟩
  by_cases hi : i < ss.length
  ·rw [List.getElem?_append_left hi] at e
   have := ih.2 i t e
   rw [List.take_append_of_le_length (Nat.le_of_lt hi)]
   exact this
  ·have hle := (List.getElem?_eq_some_iff.mp e).1
   rw [List.length_append] at hle
   have h1 : ([s] : List Mt22.St).length = 1 := rfl
   have hie : i = ss.length := by omega
   subst hie
   rw [List.getElem?_append_right (Nat.le_refl _), Nat.sub_self] at e
   cases e
   rw [List.take_append_of_le_length (Nat.le_refl _), List.take_of_length_le (Nat.le_refl _)]
   exact ⟨ih.1, m, n⟩
theorem tZ (ss : List Mt22.St) (s : Mt22.St) : vR (ss ++ [s]) = s.far := by simp [vR]
theorem jJ {fs ds : List Dv} {op : List Str} {s : Mt22.St} (gd : GoodD ("sea" :: fs.map aK) ds) (m : s ∈ bH fs ds op) : ∃ d ∈ ds, aK d = s.nm ∧ s.far ≠ "sea" ∧ s.near ≠ s.far ∧ s.h = max (cB op d) (bA fs s.far) ∧ ((s.near = mM d ∧ s.far = fA d) ∨ (s.near = fA d ∧ s.far = mM d)) := by
 obtain ⟨d, md, h⟩ := jL.mp m
 obtain ⟨n, a, b, c, r, sl, rfl, _, _, _, hab, _⟩ := bR (gd.all d md)
 rcases h with ⟨hn, rfl⟩ | ⟨hn, rfl⟩
 ·exact ⟨_, md, rfl, hn, hab, rfl, .inl ⟨rfl, rfl⟩⟩
 ·exact ⟨_, md, rfl, hn, Ne.symm hab, rfl, .inr ⟨rfl, rfl⟩⟩
def oG (ds : List Dv) (op : List Str) (z : Str) : Int := (ds.find? fun d => decide (aK d = z)).elim 0 (cB op)
theorem vB {ds : List Dv} (nd : (ds.map aK).Nodup) {op : List Str} {d : Dv} (m : d ∈ ds) : oG ds op (aK d) = cB op d := by
 show (ds.find? fun e => decide (aK e = aK d)).elim 0 (cB op) = _
 rw [nU nd m]
 rfl
theorem aHJ {fs ds : List Dv} {op : List Str} (gf : GoodF fs) (gd : GoodD ("sea" :: fs.map aK) ds) {ss : List Mt22.St} (hs : ∀ s ∈ ss, s ∈ bH fs ds op) {ns : List Int} {M : Int}
  (h1 : ∀ a ∈ ns, ∃ s ∈ ss, a = oG ds op s.nm ∨ a = bA fs s.far) (h2 : ∀ s ∈ ss, oG ds op s.nm ∈ ns ∧ bA fs s.far ∈ ns) (hM : M ∈ ns) (hle : ∀ a ∈ ns, a ≤ M) : M = hm ss := by
 have hh : ∀ s ∈ ss, s.h = max (oG ds op s.nm) (bA fs s.far) ∧ -1000000 ≤ bA fs s.far := fun s m => by
  obtain ⟨d, md, hnm, hfs, _, e, _⟩ := jJ gd (hs s m)
  rw [← hnm, vB gd.nd md]
  refine ⟨e, ?_⟩
  obtain ⟨g, _, _, eg, hg⟩ := vQ gf (tY gd (hs s m))
  rw [eg]
  exact of_decide_eq_true (Bool.and_eq_true_iff.mp hg).1
 obtain ⟨s0, m0, e0⟩ := h1 M hM
 have up : M ≤ hm ss := by
  have g := aMM ss s0 m0
  have := (hh s0 m0).1
  rcases e0 with e | e <;> omega
 have lowM : -1000000 ≤ M := by
  have := hle _ (h2 s0 m0).2
  have := (hh s0 m0).2
  omega
 have dn : hm ss ≤ M := aJK lowM fun s m => by
  rw [(hh s m).1]
  have a1 := hle _ (h2 s m).1
  have a2 := hle _ (h2 s m).2
  omega
 omega
def oE (fs ds : List Dv) (op : List Str) (ss : List Mt22.St) : List Int := ss.flatMap fun s => [oG ds op s.nm, bA fs s.far]
theorem aAI (fs ds : List Dv) (op : List Str) (ss : List Mt22.St) (s : Mt22.St) : oE fs ds op (ss ++ [s]) = oE fs ds op ss ++ [oG ds op s.nm, bA fs s.far] := by
 unfold oE
 rw [List.flatMap_append]
 simp
theorem qE (fs ds : List Dv) (op : List Str) : ∀ ss : List Mt22.St, (oE fs ds op ss).length = 2 * ss.length
 | [] => rfl
 | s :: ss => by
  have := qE fs ds op ss
  unfold oE at this ⊢
  rw [List.flatMap_cons, List.length_append, this]
  show 2 + 2 * ss.length = 2 * (ss.length + 1)
  omega
theorem aEF {S : List Mt22.St} {k : Nat} {z : Str} {b : Int} (w : Walk S k z b) : -1000000 ≤ b := by
 induction w with
 | sea => exact Int.le_refl _
 | step w m ih => omega
theorem aKQ {fs ds : List Dv} {op : List Str} (gd : GoodD ("sea" :: fs.map aK) ds) {ss : List Mt22.St} {z : Str} {c : Int} (ch : Chain (bH fs ds op) ss z) (hc : flo fs ds op z = some c) (hle : ∀ s ∈ ss, s.h ≤ c) : hm ss = c := by
 have fl := nT (op := op) gd
 obtain ⟨c', e, l⟩ := fl.low _ _ _ (aAS ch)
 rw [hc] at e
 cases e
 obtain ⟨k, w⟩ := fl.att _ _ hc
 have := aJK (aEF w) hle
 omega
theorem aHE {fs ds : List Dv} {op : List Str} (gd : GoodD ("sea" :: fs.map aK) ds) {ss : List Mt22.St} {z : Str} (ch : Chain (bH fs ds op) ss z) : (ss.map (·.nm)).Nodup := by
 obtain ⟨_, cat⟩ := zD ch
 rw [List.nodup_iff_pairwise_ne, List.pairwise_map, List.pairwise_iff_getElem]
 intro i j hi hj hij e
 have ei : ss[i]? = some ss[i] := List.getElem?_eq_getElem hi
 have ej : ss[j]? = some ss[j] := List.getElem?_eq_getElem hj
 obtain ⟨ni, mi, fi⟩ := cat i _ ei
 obtain ⟨nj, mj, fj⟩ := cat j _ ej
 obtain ⟨d, md, hn, hfs, hnf, _, hs⟩ := jJ gd mi
 obtain ⟨d', md', hn', hfs', hnf', _, hs'⟩ := jJ gd mj
 have edd : d = d' := by
  have g1 := nU gd.nd md
  have g2 := nU gd.nd md'
  rw [hn, show ss[i].nm = ss[j].nm from e, ← hn', g2] at g1
  exact (Option.some.inj g1).symm
 subst edd
 have before : ∀ k, k < j → ∀ hk : k < ss.length, ss[k].far ∈ (ss.take j).map (·.far) := fun k hkj hk => List.mem_map.mpr ⟨ss[k], List.mem_of_getElem? (i := k) (by rw [List.getElem?_take_of_lt hkj]; exact List.getElem?_eq_getElem hk), rfl⟩
 have same : ss[j].far = ss[i].far → False := fun h => fj (by rw [h]; exact before i hij hi)
 have opp : ss[j].far = ss[i].near → False := fun h => by
  rw [ni] at h
  cases i with
  | zero =>
   exact hfs' h
  | succ k =>
   have hk : k < ss.length := by omega
   have et : ss.take (k + 1) = ss.take k ++ [ss[k]] := by rw [List.take_add_one, List.getElem?_eq_getElem hk]; rfl
   rw [et, tZ] at h
   exact fj (by rw [h]; exact before k (by omega) hk)
 rcases hs with h | h <;> rcases hs' with h' | h'
 ·exact same (h'.2.trans h.2.symm)
 ·exact opp (h'.2.trans h.1.symm)
 ·exact opp (h'.2.trans h.1.symm)
 ·exact same (h'.2.trans h.2.symm)
open Mt22 MtF Mt31
def aEV (C : Addr) : Sp := sp3 fun x y u H Q => ∃ (p l : Addr) (fs ds : List Dv) (op : List Str) (z : Str), x = .ref p ∧ LandAt C H p fs ds ∧ y = .ref l ∧ H l = some (.lst (op.map V.str)) ∧ op.length ≤ 1000 ∧ (∀ z ∈ op, z ∈ (ds.filter bC).map aK) ∧ u = .str z ∧ z ∈ fs.map aK ∧ ∀ H', aI H H' → Q (sU (flo fs ds op z)) H'
theorem aFU (T : Txt K mg C) : Fc P w K mg base 7 "_law_way" ["_law_land", "_law_opened_here", "_law_name"] (aEV C) := by
 have G_p_way_to : Fc P w K mg base 6 "way_to" ["land", "opened", "field"] (aBG C) := yH T
 have G_l_stands : Fc P w K mg base 1 "_law_stands" ["_law_dykes_here", "_law_opened_here"] (pT K) := qQ T
 have G_land_p_dykes : Mc P w K mg base 1 C "dykes" ["self"] (oH C fun _ ds => ds) := eW T
 have G_land_p_dyke : Mc P w K mg base 1 C "dyke" ["self", "name"] (aBT C) := tI T
 have G_land_p_ground : Mc P w K mg base 1 C "ground" ["self", "field"] (kZ C) := eL T
 refine T.d_l_way.fc fX yS (fun f cdv A outer s H vs Q E hr h => ?_)
 obtain ⟨x, y, u, rfl, p, l, fs, ds, op, z, rfl, L, rfl, hl, lo, sub, rfl, mz, q⟩ := h
 have big := bT
 have hu := kF hr
 have gf := (bY L).1
 have gd := (bY L).2
 have no : ∀ (e1 e2 : Addr) (m : Str), ¬ m = "dyke_rows" → ¬ m = "field_rows" → (lG e1 e2).lookup m = none := fun e1 e2 m h1 h2 => dL _ _ h1 h2
 have nsea : z ≠ Mt22.sea := fun e => by
  obtain ⟨d, md, e'⟩ := List.mem_map.mp mz
  obtain ⟨z', g, u, rfl, hz, _⟩ := bJ (gf.all d md)
  exact rQ hz (e'.trans e)
 refine ⟨_, (aG (@aS _ _ (3) _ _ _ _ fX.nd rfl (Or.inl rfl) (@bO _ _ _ _ _ _ _ _ _ _ G_p_way_to (hr.mono (by decide)) (aA (pv 0) (aA (pv 1) (aA (pv 2) aD))) (by rfl) (by decide) (by rfl) (by rfl)) (by rfl) (by trivial)) (aG (@cE _ _ _ _ _ _ _ _ (@bD _ _ _ _ _ _ _ _ oO (pv 3) eZ (@bB _ _ (by decide) (by decide))) (aH (@aR _ _ _ _ eZ)) bE) (aG (@aS _ _ (4) _ _ _ _ fX.nd rfl (Or.inl rfl) (@bO _ _ _ _ _ _ _ _ _ _ G_l_stands (hr.mono (by decide)) (aA (@jD _ _ _ _ _ _ _ _ _ _ _ T.cl_Land G_land_p_dykes (hr.mono (by decide)) (pv 0) (by rfl)) (aA (pv 1) aD)) (by rfl) (by decide) (by rfl) (by rfl)) (by rfl) (by trivial)) (aG (@aS _ _ (5) _ _ _ _ fX.nd rfl (Or.inl rfl) cJ (by rfl) (by trivial)) (aG (@aS _ _ (6) _ _ _ _ fX.nd rfl (Or.inl rfl) (@cG _ _ _ _ aD) (by rfl) (by trivial)) (aG (@eY _ _ _ _ _ _ _ _ PassesOwn.never rfl (@bM _ _ _ _ (pv 3)) (@aO _ _ (7) _ fX.nd rfl (Or.inl rfl) (by trivial)) (aG (@zR _ _ _ _ _ _ (@sS _ _ _ _ _ _ _ _ _ _ (@aHO _ (K) rfl) (@uS _ _ _ _ _ _ _ _ _ _ _ _ _ _ T.cl_Land G_land_p_dyke (hr.mono (by decide)) (pv 0) (aA (pv 7) aD) (by rfl) (by rfl) (by rfl)) (@rR _ _ _ aE) (@rR _ _ _ aE)) (@lX _ _ _ _ _ _ rfl (@bN _ _ _ _ _ (@aO _ _ (8) _ fX.nd rfl (Or.inl rfl) (by trivial)) (@bN _ _ _ _ _ (@aO _ _ (9) _ fX.nd rfl (Or.inl rfl) (by trivial)) jG (by rfl)) (by rfl)) (by rfl) (by rfl)) (by rfl) (by rfl) (by rfl)) (aG (@cE _ _ _ _ _ _ _ _ (@bD _ _ _ _ _ _ _ _ (@gK _ (K) rfl) (pv 5) (@cO _ _ _ _ _ (aA (pv 8) (aA (pv 9) aD))) (by with_unfolding_all rfl)) (aH (@aR _ _ _ _ cJ)) bE) (aG (@aS _ _ (5) _ _ _ _ fX.nd rfl (Or.inl rfl) (@aY _ _ _ _ _ _ _ (@dM _ (K) rfl) (@cG _ _ _ _ (aA (pv 8) (aA (pv 9) aD))) (@cL _ _ _ _ _ _ _ _ _ aEC rfl T.n_int vZ (aA (@bX _ _ _ _ _ _ _ _ iV (pv 5) (pv 8) (@bB _ _ (by decide) (by decide))) aD) (by decide) (by decide) (by rfl) (by rfl)) (fun _ _ => rfl)) (by rfl) (by trivial)) (aG (@cE _ _ _ _ _ _ _ _ (@bD _ _ _ _ _ _ _ _ iV (pv 5) cJ (@bB _ _ (by decide) (by decide))) (aH (@aR _ _ _ _ cJ)) bE) (aH (@aS _ _ (6) _ _ _ _ fX.nd rfl (Or.inl rfl) (@aP _ _ _ _ _ _ _ _ sX (pv 6) (@cG _ _ _ _ (aA (@eQ _ _ _ _ _ _ hu (pv 4) (pv 7) (fun _ _ => rfl)) (aA (@uS _ _ _ _ _ _ _ _ _ _ _ _ _ _ T.cl_Land G_land_p_ground (hr.mono (by decide)) (pv 0) (aA (pv 5) aD) (by rfl) (by rfl) (by rfl)) aD)))) (by rfl) (by trivial))))))) (by intro _; rfl)) (aG (@cE _ _ _ _ _ _ _ _ (@PW.pt _ _ _ (@kJ _ _ _ _ _ _ _ (@bD _ _ _ _ _ _ _ _ pL (pv 5) (pv 2) (@bB _ _ (by decide) (by decide))) (@kS _ _ _ _ (@bD _ _ _ _ _ _ _ _ qO (@aV _ _ _ _ _ _ _ _ _ call_len_set rfl T.n_len cM (aA (@cL _ _ _ _ _ _ _ _ _ (@oF _ rfl) rfl T.n_set vY (aA (pv 3) aD) (by decide) (by decide) (by rfl) (by rfl)) aD) (by decide) (by decide) (by rfl) (by rfl)) (@aV _ _ _ _ _ _ _ _ _ (@bW _ (K) rfl) rfl T.n_len cM (aA (pv 3) aD) (by decide) (by decide) (by rfl) (by rfl)) (@bB _ _ (by decide) (by decide)))))) (aH (@aR _ _ _ _ cJ)) bE) (aH (@aR _ _ _ _ (@aV _ _ _ _ _ _ _ _ _ (aEB rfl) rfl T.n_max iJ (aA (pv 6) aD) (by decide) (by decide) (by rfl) (by rfl))))))))))), ?_⟩
 refine ⟨_, rfl, _, rfl, _, rfl, _, _, _, rfl, p, l, fs, ds, op, z, rfl, L, rfl, hl, lo, sub, rfl, mz, (fun H1 S1 hf => ?_), fun c lw ss H1 hc S1 nlw hlw ch lec lss => ?_⟩
 ·refine ⟨_, rfl, rfl, _, rfl, bU ?_⟩
  have := q H1 S1
  rw [hf] at this
  exact this
 refine ⟨_, rfl, rfl, _, rfl, bF ?_⟩
 obtain ⟨ez, cat⟩ := zD ch
 obtain ⟨mem, ndf⟩ := vX ch
 have ndn := aHE gd ch
 have L1 := L.same S1
 obtain ⟨dx, e1, e2, hx, _⟩ := L1.ex
 refine ⟨_, rfl, p, dx, _, rfl, hx, no _ _ _ (by decide +kernel) (by decide +kernel), _, rfl, p, fs, ds, rfl, L1, fun lb vb H2 S2 nlb hlb hib => ?_⟩
 refine ⟨_, rfl, _, _, rfl, lb, l, vb, ds, _, op, rfl, rfl, hlb, hib, gd, (S1.trans S2) _ _ hl, sub, fun dh H3 S3 ndh hdh => ?_⟩
 refine ⟨aN rfl, fun l0 hl0 => ?_⟩
 have S4 := aI.upd (o := .lst []) hl0
 have T4 := S1.trans (S2.trans (S3.trans S4))
 have L4 := L.same T4
 have hlw4 := (S2.trans (S3.trans S4)) _ _ hlw
 have hdh4 := S4 _ _ hdh
 have hl04 : upd H3 l0 (.lst []) l0 = some (.lst ((oE fs ds op (ss.take 0)).map V.int)) := aB
 generalize upd H3 l0 (.lst []) = H4 at T4 L4 hlw4 hdh4 hl04 ⊢
 refine ⟨_, rfl, lw, rfl, ⟨_, SqL.of hlw4⟩, fO (K := K) (a := lw) (xs := (ss.map (·.nm)).map V.str)
  (fun i σ H' => ∃ (v7 v8 v9 : Option V) (lf : Addr), σ = [some (.ref p), some (.ref l), some (.str z), some (.ref lw), some (.ref dh), some (.str (vR (ss.take i))), some (.ref lf), v7, v8, v9] ∧ aI H4 H' ∧ H' lf = some (.lst ((oE fs ds op (ss.take i)).map V.int)))
  ⟨_, _, _, l0, rfl, aI.refl _, hl04⟩ (fun i σ H' _ ⟨_, _, _, _, _, S', _⟩ => SqL.of (S' _ _ hlw4)) ?_ ?_⟩
 ·rintro i xv σ H5 hi ⟨v7, v8, v9, lf, rfl, S5, hlf5⟩
  have hil := (List.getElem?_eq_some_iff.mp hi).1
  rw [List.length_map, List.length_map] at hil
  obtain ⟨st, es⟩ : ∃ st, ss[i]? = some st := ⟨_, List.getElem?_eq_getElem hil⟩
  rw [List.getElem?_map, List.getElem?_map, es] at hi
  cases hi
  obtain ⟨hnear, ms, hfresh⟩ := cat i st es
  obtain ⟨d, md, hnm, hfs, hnf, hh, hside⟩ := jJ gd ms
  have et : ss.take (i + 1) = ss.take i ++ [st] := by rw [List.take_add_one, es]; rfl
  have L5 := L4.same S5
  rw [← hnear]
  obtain ⟨dx5, e15, e25, hx5, _⟩ := L5.ex
  obtain ⟨n, a', b', c', r, sl, rfl, _⟩ := bR (gd.all d md)
  have hnm' : n = st.nm := hnm
  refine ⟨_, rfl, p, dx5, _, rfl, hx5, no _ _ _ (by decide +kernel) (by decide +kernel), _, rfl, _, _, rfl, p, fs, ds, _, rfl, congrArg V.str hnm.symm, L5, md, fun v iv => ?_⟩
  obtain ⟨t, sv, rfl, o, isv⟩ := iW iv
  have hside' : (st.near = a' ∧ st.far = b') ∨ (st.near = b' ∧ st.far = a') := hside
  have hab : a' ≠ b' := by
   rcases hside' with h | h
   ·rw [← h.1, ← h.2]; exact hnf
   ·rw [← h.1, ← h.2]; exact Ne.symm hnf
  refine ⟨_, rfl, _, rfl, t, _, rfl, SqT.of o, (fun w => absurd (show HT.sIx 6 0 (some 1) = 0 from w.1) (by decide)), fun q1 hq1 => ?_⟩
  have A1 := aI.upd (o := .tup (aAP [.str n, .str a', .str b', .int c', .int r, sv] (some 1) (some 3))) hq1
  have hq1' : upd H5 q1 (.tup (aAP [.str n, .str a', .str b', .int c', .int r, sv] (some 1) (some 3))) q1 = some (.tup [.str a', .str b']) := aB
  generalize upd H5 q1 (.tup (aAP [.str n, .str a', .str b', .int c', .int r, sv] (some 1) (some 3))) = H6 at A1 hq1' ⊢
  refine ⟨q1, _, rfl, SqT.of hq1', rfl, _, _, rfl, _, _, rfl, rfl, ?_⟩
  refine ⟨_, rfl, _, rfl, _, rfl, aN rfl, fun pt hpt => ?_⟩
  have A2 := aI.upd (o := .tup [.str a', .str b']) hpt
  refine ⟨pt, ([a', b'] : List Str).map V.str, rfl, .inr (SqT.of aB), rfl, cQ _, _, rfl, ?_⟩
  rw [if_pos rfl, eS, decide_eq_true (show st.near ∈ [a', b'] by rcases hside' with h | h <;> simp [h.1])]
  refine bF ?_
  generalize upd H6 pt (.tup [.str a', .str b']) = H7 at A2 ⊢
  refine ⟨_, rfl, _, rfl, aN rfl, fun pc hpc => ?_⟩
  have A3 := aI.upd (o := .lst [.str a', .str b']) hpc
  have hat : atI ([.str a', .str b'] : List V) (if decide (V.str st.near = V.str a') = true then 1 else 0) = some (.str st.far) := by
   rw [jI]
   rcases hside' with h | h
   ·rw [if_pos (decide_eq_true h.1), h.2]
    exact aJ (j := 1) rfl
   ·rw [if_neg (by rw [decide_eq_false (fun e => hab (e.symm.trans h.1))]; exact Bool.false_ne_true), h.2]
    exact aJ (j := 0) rfl
  refine ⟨_, rfl, _, rfl, rfl, .inr ⟨_, rfl, pc, _, _, .str st.far, rfl, rfl, SqL.of aB, hat, ?_⟩⟩
  refine ⟨_, rfl, rfl, _, rfl, ?_⟩
  rw [jI, decide_eq_false hfs]
  refine bF ?_
  have A13 := A1.trans (A2.trans A3)
  have S8 := S5.trans A13
  have L8 := L4.same S8
  obtain ⟨dx8, e18, e28, hx8, _⟩ := L8.ex
  have val := gQ (f := fun d => V.int (cB op d)) gd.nd md
  have val' : dG (iA op ds) (Sum.inr st.nm) = some (V.int (cB op (.tup [.str n, .str a', .str b', .int c', .int r, sl]))) := by rw [← hnm]; exact val
  obtain ⟨gF, mgF, enF⟩ := List.mem_map.mp (tY gd ms)
  obtain ⟨zf, gr, du, rfl, _⟩ := bJ (gf.all gF mgF)
  have ezf : zf = st.far := enF
  subst ezf
  refine ⟨_, rfl, _, rfl, _, rfl, dh, _, rfl, .inl ⟨_, Sum.inr st.nm, .inl (S8 _ _ hdh4), rfl, val'.symm⟩, _, rfl, p, dx8, _, rfl, hx8, no _ _ _ (by decide +kernel) (by decide +kernel), _, rfl, _, _, rfl, p, fs, ds, st.far, gr, du, rfl, rfl, L8, mgF, aN rfl, fun pa hpa => ?_⟩
  have S10 := aI.upd (o := .lst [.int (cB op (.tup [.str n, .str a', .str b', .int c', .int r, sl])), .int gr]) hpa
  refine ⟨lf, pa, _, _, rfl, rfl, S10 _ _ (A13 _ _ hlf5), aB, by rw [List.length_map, qE, List.length_take]; show _ + 2 ≤ _; omega, fun pb hpb => ?_⟩
  have S11 := aI.upd (o := .lst ((oE fs ds op (ss.take i)).map V.int ++ [.int (cB op (.tup [.str n, .str a', .str b', .int c', .int r, sl])), .int gr])) hpb
  refine ⟨some (.str st.nm), some (.str a'), some (.str b'), pb, ?_, S8.trans (S10.trans S11), ?_⟩
  ·rw [et, tZ]
   rfl
  ·rw [aB, et, aAI, List.map_append]
   show some (HO.lst (_ ++ [V.int (cB op _), V.int gr])) = some (HO.lst (_ ++ [V.int (oG ds op st.nm), V.int (bA fs st.far)]))
   rw [← hnm, vB gd.nd md, show bA fs st.far = gr from jN gf.nd mgF]
 ·rintro σ H5 ⟨v7, v8, v9, lf, rfl, S5, hlf5⟩
  rw [List.length_map, List.length_map, List.take_of_length_le (Nat.le_refl _)] at hlf5 ⊢
  rw [← ez]
  refine ⟨_, rfl, _, rfl, rfl, _, rfl, ?_⟩
  rw [decide_eq_true rfl]
  refine bF ?_
  have hlw5 := S5 _ _ hlw4
  have eks : ((ss.map (·.nm)).map (Sum.inr : Str → Key)).map kV = (ss.map (·.nm)).map V.str := aCA _
  have ndk : ((ss.map (·.nm)).map (Sum.inr : Str → Key)).Nodup := (jK _).mpr ndn
  have ldk := (vS _).mpr ndk
  refine ⟨_, rfl, lw, (ss.map (·.nm)).map Sum.inr, rfl, SqL.of (by rw [eks]; exact hlw5), by rw [List.length_map, List.length_map]; omega, fun sa hsa => ?_⟩
  have S6 := aI.upd (o := aAV P w sa (fun k => decide (k ∈ qJ ((ss.map (·.nm)).map Sum.inr))) (qJ ((ss.map (·.nm)).map Sum.inr)).length) hsa
  refine ⟨sa, _, _, rfl, aB, by rw [ldk, List.length_map, List.length_map]; omega, _, rfl, lw, _, rfl, .inl (SqL.of (S6 _ _ hlw5)), _, _, rfl, rfl, _, rfl, ?_⟩
  have hf : decide ((((qJ ((ss.map (·.nm)).map (Sum.inr : Str → Key))).length : Nat) : Int) < ((((ss.map (·.nm)).map V.str).length : Nat) : Int)) = false := decide_eq_false (by rw [ldk, List.length_map, List.length_map, List.length_map, List.length_map]; omega)
  rw [hf]
  refine bF ?_
  have ne : 0 < ss.length := by
   cases ss with
   | nil => exact absurd ez nsea
   | cons a r => simp
  refine ⟨_, rfl, lf, oE fs ds op ss, rfl, SqL.of (S6 _ _ hlf5), by rw [qE]; omega, fun M hM hle => ?_⟩
  rw [aHJ gf gd mem (ns := oE fs ds op ss) ?_ ?_ hM hle, aKQ gd ch hc lec]
  ·have := q _ (T4.trans (S5.trans S6))
   rw [hc] at this
   exact this
  ·intro a m
   obtain ⟨s, ms, hm'⟩ := List.mem_flatMap.mp m
   simp only [List.mem_cons, List.not_mem_nil, or_false] at hm'
   exact ⟨s, ms, hm'⟩
  ·intro s ms
   exact ⟨List.mem_flatMap.mpr ⟨s, ms, by simp⟩, List.mem_flatMap.mpr ⟨s, ms, by simp⟩⟩
open Mt22 MtF Mt31 Mt33
theorem aCU {fs ds : List Dv} {op : List Str} {z : Str} (mz : z ∈ fs.map aK) : z ∈ fW fs ds op z := by
 unfold fW
 rw [List.mem_filter]
 refine ⟨mz, ?_⟩
 unfold fB
 cases flo fs ds op z <;> simp
theorem aHN {fs ds : List Dv} {op : List Str} (gf : GoodF fs) (gd : GoodD ("sea" :: fs.map aK) ds) : ∀ s ∈ bH fs ds op, -1000000 ≤ s.h ∧ s.h ≤ 1000000 := fun s m => by
 obtain ⟨d, md, _, _, _, hh, _⟩ := jJ gd m
 obtain ⟨gF, mgF, enF⟩ := List.mem_map.mp (tY gd m)
 obtain ⟨zf, gr, du, rfl, _, hg, _⟩ := bJ (gf.all gF mgF)
 have eg : bA fs s.far = gr := by rw [← enF]; exact jN gf.nd mgF
 have hg' := kO hg
 obtain ⟨n, a, b, c, r, sl, rfl, _, _, _, _, hc, _, hs⟩ := bR (gd.all d md)
 have hc' := kO hc
 have hst : -1000000 ≤ cB op (.tup [.str n, .str a, .str b, .int c, .int r, sl]) ∧ cB op (.tup [.str n, .str a, .str b, .int c, .int r, sl]) ≤ 1000000 := by
  show -1000000 ≤ (if n ∈ op then yV sl else c) ∧ (if n ∈ op then yV sl else c) ≤ 1000000
  by_cases mo : n ∈ op
  ·rw [if_pos mo]
   cases sl with
   | int i =>
    have h1 : (hgt i && decide (i < c)) = true := hs
    exact kO (Bool.and_eq_true_iff.mp h1).1
   | non => exact ⟨by decide, by decide⟩
   | _ => cases hs
  ·rw [if_neg mo]
   exact hc'
 rw [hh, eg]
 omega
def aBN (C : Addr) : Sp := sp3 fun x y u H Q => ∃ (p l : Addr) (fs ds : List Dv) (op : List Str) (z : Str), x = .ref p ∧ LandAt C H p fs ds ∧ y = .ref l ∧ H l = some (.lst (op.map V.str)) ∧ op.length ≤ 1000 ∧ (∀ z ∈ op, z ∈ (ds.filter bC).map aK) ∧ u = .str z ∧ z ∈ fs.map aK ∧ ∀ H', aI H H' → Q (.int ((flo fs ds op z).getD 10000000)) H'
theorem aDI (T : Txt K mg C) : Fc P w K mg base 7 "_law_ring" ["_law_land", "_law_opened_here", "_law_name"] (aBN C) := by
 have G_p_ring_round : Fc P w K mg base 6 "ring_round" ["land", "opened", "field"] (aES C) := rK T
 have G_l_stands : Fc P w K mg base 1 "_law_stands" ["_law_dykes_here", "_law_opened_here"] (pT K) := qQ T
 have G_land_p_dykes : Mc P w K mg base 1 C "dykes" ["self"] (oH C fun _ ds => ds) := eW T
 have G_land_p_field_names : Mc P w K mg base 1 C "field_names" ["self"] (kR C fun fs _ => fs.map aK) := dN T
 have G_land_p_ground : Mc P w K mg base 1 C "ground" ["self", "field"] (kZ C) := eL T
 refine T.d_l_ring.fc dQ yS (fun f cdv A outer s H vs Q E hr h => ?_)
 obtain ⟨x, y, u, rfl, p, l, fs, ds, op, z, rfl, L, rfl, hl, lo, sub, rfl, mz, q⟩ := h
 have big := bT
 have hu := kF hr
 have gf := (bY L).1
 have gd := (bY L).2
 have f2 := gf.l2
 have d2 := gd.l2
 have no : ∀ (e1 e2 : Addr) (m : Str), ¬ m = "dyke_rows" → ¬ m = "field_rows" → (lG e1 e2).lookup m = none := fun e1 e2 m h1 h2 => dL _ _ h1 h2
 have rsub : ∀ y ∈ fW fs ds op z, y ∈ fs.map aK := fun y m => (List.mem_filter.mp m).1
 have nsea : Mt22.sea ∉ fW fs ds op z := fun m => by
  obtain ⟨d, md, e'⟩ := List.mem_map.mp (rsub _ m)
  obtain ⟨z', g, u, rfl, hz, _⟩ := bJ (gf.all d md)
  exact rQ hz e'
 have lrs : (fW fs ds op z).length ≤ 12 := by
  unfold fW
  refine Nat.le_trans (List.length_filter_le _ _) ?_
  rw [List.length_map]
  exact f2
 have self := aCU (ds := ds) (op := op) mz
 generalize hrs : fW fs ds op z = rs at *
 refine ⟨_, (aG (@aS _ _ (3) _ _ _ _ dQ.nd rfl (Or.inl rfl) (@bO _ _ _ _ _ _ _ _ _ _ G_p_ring_round (hr.mono (by decide)) (aA (pv 0) (aA (pv 1) (aA (pv 2) aD))) (by rfl) (by decide) (by rfl) (by rfl)) (by rfl) (by trivial)) (aG (@cE _ _ _ _ _ _ _ _ (@PW.pt _ _ _ (@kJ _ _ _ _ _ _ _ (@bD _ _ _ _ _ _ _ _ (@gK _ (K) rfl) (pv 2) (pv 3) (by with_unfolding_all rfl)) (@kS _ _ _ _ (@bD _ _ _ _ _ _ _ _ (@aKH _ hr.units) (@cA _ _ _ _ _ _ _ _ _ _ _ ["_law_field", "_law_land"] 1 [0] rfl (@bM _ _ _ _ (pv 3)) (fun R => @aO _ _ (0) _ (show List.Nodup (["_law_field", "_law_land"] : List Str) by decide +kernel) rfl (Or.inl rfl) (by trivial)) (@aZ _ _ (by decide)) (fun R => @gJ _ _ _ (@bD _ _ _ _ _ _ _ _ (@gK _ (K) rfl) (pv 0) (@jD _ _ _ _ _ _ _ _ _ _ _ T.cl_Land G_land_p_field_names (hr.mono (by decide)) (pv 1) (by rfl)) (by with_unfolding_all rfl))) (fun R => (pv 0)) (by rfl) (by rfl) (by rfl) (by rfl) (by rfl) (by rfl) (by rfl) (by intro _; rfl)) (@cG _ _ _ _ aD) (@bB _ _ (by decide) (by decide)))))) (aH (@aR _ _ _ _ cJ)) bE) (aG (@aS _ _ (4) _ _ _ _ dQ.nd rfl (Or.inl rfl) (@bO _ _ _ _ _ _ _ _ _ _ G_l_stands (hr.mono (by decide)) (aA (@jD _ _ _ _ _ _ _ _ _ _ _ T.cl_Land G_land_p_dykes (hr.mono (by decide)) (pv 0) (by rfl)) (aA (pv 1) aD)) (by rfl) (by decide) (by rfl) (by rfl)) (by rfl) (by trivial)) (aG (@aS _ _ (5) _ _ _ _ dQ.nd rfl (Or.inl rfl) (@cG _ _ _ _ aD) (by rfl) (by trivial)) (aG (@eY _ _ _ _ _ _ _ _ PassesOwn.never rfl (@bM _ _ _ _ (@jD _ _ _ _ _ _ _ _ _ _ _ T.cl_Land G_land_p_dykes (hr.mono (by decide)) (pv 0) (by rfl))) (@lX _ _ _ _ _ _ rfl (@bN _ _ _ _ _ (@aO _ _ (6) _ dQ.nd rfl (Or.inl rfl) (by trivial)) (@bN _ _ _ _ _ (@aO _ _ (7) _ dQ.nd rfl (Or.inl rfl) (by trivial)) (@bN _ _ _ _ _ (@aO _ _ (8) _ dQ.nd rfl (Or.inl rfl) (by trivial)) (@bN _ _ _ _ _ (@aO _ _ (9) _ dQ.nd rfl (Or.inl rfl) (by trivial)) (@bN _ _ _ _ _ (@aO _ _ (10) _ dQ.nd rfl (Or.inl rfl) (by trivial)) (@bN _ _ _ _ _ (@aO _ _ (11) _ dQ.nd rfl (Or.inl rfl) (by trivial)) jG (by rfl)) (by rfl)) (by rfl)) (by rfl)) (by rfl)) (by rfl)) (by rfl) (by rfl)) (aH (@eY _ _ _ _ _ _ _ _ PassesOwn.never rfl (@bM _ _ _ _ (@cG _ _ _ _ (aA (@cO _ _ _ _ _ (aA (pv 7) (aA (pv 8) aD))) (aA (@cO _ _ _ _ _ (aA (pv 8) (aA (pv 7) aD))) aD)))) (@lX _ _ _ _ _ _ rfl (@bN _ _ _ _ _ (@aO _ _ (12) _ dQ.nd rfl (Or.inl rfl) (by trivial)) (@bN _ _ _ _ _ (@aO _ _ (13) _ dQ.nd rfl (Or.inl rfl) (by trivial)) jG (by rfl)) (by rfl)) (by rfl) (by rfl)) (aH (@cE _ _ _ _ _ _ _ _ (@PW.pt _ _ _ (@oM _ _ _ _ _ _ _ (@bD _ _ _ _ _ _ _ _ (@eB _ (K) rfl) (pv 12) (pv 3) (by with_unfolding_all rfl)) (@lT _ _ _ _ (@bD _ _ _ _ _ _ _ _ (@gK _ (K) rfl) (pv 13) (pv 3) (by with_unfolding_all rfl))))) (aH (@fR _ _ _ _ (@mY _ _ _ _ _ _ _ _ _ _ _ _ PySem.F.plainAttrs_list PySem.F.slot_list_append PySem.F.type_list_append fT (pv 5) (aA (@aV _ _ _ _ _ _ _ _ _ (@jP _ rfl) rfl T.n_max iJ (aA (@eQ _ _ _ _ _ _ hu (pv 4) (pv 6) (fun _ _ => rfl)) (aA (@uS _ _ _ _ _ _ _ _ _ _ _ _ _ _ T.cl_Land G_land_p_ground (hr.mono (by decide)) (pv 0) (aA (pv 12) aD) (by rfl) (by rfl) (by rfl)) aD)) (by decide) (by decide) (by rfl) (by rfl)) aD) (by rfl) (by rfl) (by rfl) (by rfl) (by rfl)) (by rfl))) bE)) (by intro _; rfl))) (by intro _; rfl)) (aH (@aR _ _ _ _ (@aV _ _ _ _ _ _ _ _ _ (aEA rfl) rfl T.n_min nW (aA (@aP _ _ _ _ _ _ _ _ sX (pv 5) (@cG _ _ _ _ (aA (@aP _ _ _ _ _ _ _ _ eA aE aE) aD))) aD) (by decide) (by decide) (by rfl) (by rfl))))))))), ?_⟩
 refine ⟨_, rfl, _, rfl, _, rfl, _, _, _, rfl, p, l, fs, ds, op, z, rfl, L, rfl, hl, lo, sub, rfl, mz, fun lr H1 S1 nlr hlr => ?_⟩
 rw [hrs] at hlr
 refine ⟨_, rfl, _, rfl, lr, _, rfl, .inl (SqL.of hlr), rfl, cQ _, _, rfl, ?_⟩
 rw [if_pos rfl, eS, decide_eq_true self]
 refine bF ?_
 refine ⟨_, rfl, lr, rfl, ⟨_, SqL.of hlr⟩, ?_⟩
 refine bP (F := K) (xs := rs.map V.str) (by rw [List.length_map]; omega) (fun i ys H' => aI H1 H' ∧ ys = []) ⟨aI.refl _, rfl⟩ ?_ ?_ ?_
 ·rintro i ys H' hi' ⟨S, rfl⟩
  exact ⟨SqL.of (S _ _ hlr), Nat.zero_le _⟩
 ·rintro i xv ys H' K1 K2 hx ⟨S, rfl⟩ k1 k2
  obtain ⟨y, ey⟩ : ∃ y, rs[i]? = some y := by
   have := (List.getElem?_eq_some_iff.mp hx).1
   rw [List.length_map] at this
   exact ⟨_, List.getElem?_eq_getElem this⟩
  rw [List.getElem?_map, ey] at hx
  cases hx
  have L2 := L.same (S1.trans S)
  obtain ⟨dx, e1, e2, hx2, _⟩ := L2.ex
  refine ⟨_, rfl, _, rfl, p, dx, _, rfl, hx2, no _ _ _ (by decide +kernel) (by decide +kernel), _, rfl, p, fs, ds, rfl, L2, fun ln H3 S3 nln hln => ?_⟩
  refine ⟨ln, _, rfl, .inl (SqL.of hln), rfl, cQ _, _, rfl, ?_⟩
  rw [if_pos rfl, eS, decide_eq_true (rsub y (List.mem_of_getElem? ey))]
  exact bF (k2 _ ⟨S.trans S3, rfl⟩)
 rintro ys H2 ⟨S2, rfl⟩
 intro pc hpc
 have A2 := aI.upd (o := .lst []) hpc
 refine ⟨aN rfl, fun pe hpe => ?_⟩
 have A3 := aI.upd (o := .lst []) hpe
 refine aFV (d := .lst []) ⟨pc, [], rfl, A3 _ _ aB, rfl⟩ ⟨pe, [], rfl, aB, rfl⟩ (by decide) ⟨_, rfl, ?_⟩
 refine bF ?_
 have T3 := S1.trans (S2.trans (A2.trans A3))
 have hlr3 := (S2.trans (A2.trans A3)) _ _ hlr
 generalize upd (upd H2 pc (.lst [])) pe (.lst []) = H3 at T3 hlr3 ⊢
 have L3 := L.same T3
 obtain ⟨dx, e1, e2, hx, _⟩ := L3.ex
 refine ⟨_, rfl, p, dx, _, rfl, hx, no _ _ _ (by decide +kernel) (by decide +kernel), _, rfl, p, fs, ds, rfl, L3, fun lb vb H4 S4 nlb hlb hib => ?_⟩
 refine ⟨_, rfl, _, _, rfl, lb, l, vb, ds, _, op, rfl, rfl, hlb, hib, gd, (T3.trans S4) _ _ hl, sub, fun dh H5 S5 ndh hdh => ?_⟩
 refine ⟨aN rfl, fun lf hlf => ?_⟩
 have A6 := aI.upd (o := .lst []) hlf
 have T6 := T3.trans (S4.trans (S5.trans A6))
 have hlr6 := (S4.trans (S5.trans A6)) _ _ hlr3
 have hdh6 := A6 _ _ hdh
 have hlf6 : upd H5 lf (.lst []) lf = some (.lst (([] : List Int).map V.int)) := aB
 have nlf : H lf = none := (T3.trans (S4.trans S5)).free hlf
 generalize upd H5 lf (.lst []) = H6 at T6 hlr6 hdh6 hlf6 ⊢
 have L6 := L.same T6
 obtain ⟨dx6, e16, e26, hx6, _⟩ := L6.ex
 refine ⟨_, rfl, p, dx6, _, rfl, hx6, no _ _ _ (by decide +kernel) (by decide +kernel), _, rfl, p, fs, ds, rfl, L6, fun lb vd H7 S7 nlb hb hid => ?_⟩
 have lvd : vd.length = ds.length := hid.length
 have hlf7 := S7 _ _ hlf6
 have hlr7 := S7 _ _ hlr6
 have hdh7 := S7 _ _ hdh6
 have T7 := T6.trans S7
 have L7 := L.same T7
 have ndl : dh ≠ lf := fun e => by rw [e, hlf7] at hdh7; cases hdh7
 have nrl : lr ≠ lf := fun e => by rw [← e] at hlf; exact absurd hlf (by rw [(S4.trans S5) _ _ hlr3]; intro c; cases c)
 have nbl : lb ≠ lf := fun e => by rw [e, hlf6] at nlb; cases nlb
 refine ⟨lb, rfl, ⟨_, SqL.of hb⟩, fO (K := K) (a := lb) (xs := vd)
  (fun i σ H' => ∃ (w6 w7 w8 w9 w10 w11 w12 w13 : Option V) (ns : List Int), σ = [some (.ref p), some (.ref l), some (.str z), some (.ref lr), some (.ref dh), some (.ref lf), w6, w7, w8, w9, w10, w11, w12, w13] ∧ cV lf H7 H' ∧ H' lf = some (.lst (ns.map V.int)) ∧ ns.length ≤ 2 * i ∧ aAY fs (ds.take i) op rs ns)
  ⟨_, _, _, _, _, _, _, _, [], rfl, (fun b o e _ => e), hlf7, Nat.le_refl _, aAY.nil _ _ _⟩ (fun i σ H' _ ⟨_, _, _, _, _, _, _, _, _, _, X, _⟩ => SqL.of (X _ _ hb nbl)) ?_ ?_⟩
 ·rintro i xv σ HX hi ⟨w6, w7, w8, w9, w10, w11, w12, w13, ns, rfl, X, hlX, lns, cl⟩
  have hil : i < vd.length := (List.getElem?_eq_some_iff.mp hi).1
  obtain ⟨d, ed⟩ : ∃ d, ds[i]? = some d := ⟨_, List.getElem?_eq_getElem (by omega)⟩
  obtain ⟨v, ev, iv⟩ := hid.get ed
  rw [hi] at ev
  cases ev
  have md := List.mem_of_getElem? ed
  have vald := gQ (f := fun d => V.int (cB op d)) gd.nd md
  have tk : ds.take (i + 1) = ds.take i ++ [d] := by rw [List.take_add_one, ed]; rfl
  obtain ⟨n, a', b', c, r, sl, rfl, _, _, _, nab, _⟩ := bR (gd.all d md)
  obtain ⟨t, sv, rfl, o, isv⟩ := iW iv
  have SHX : aI H HX := fun b o e => X _ _ (T7 _ _ e) (fun z => by rw [z, nlf] at e; cases e)
  have oX : HX t = some (.tup [.str n, .str a', .str b', .int c, .int r, sv]) := X _ _ o (fun e => by rw [e, hlf7] at o; cases o)
  generalize hsd : cB op (.tup [.str n, .str a', .str b', .int c, .int r, sl]) = sd at vald
  have vald' : dG (iA op ds) (Sum.inr n) = some (.int sd) := vald
  have eh : ∀ g : Int, (if g > sd then g else sd) = max sd g := fun g => by omega
  refine ⟨t, _, rfl, SqT.of oX, rfl, _, _, rfl, _, _, rfl, _, _, rfl, _, _, rfl, _, _, rfl, _, _, rfl, rfl, ?_⟩
  refine ⟨_, rfl, _, rfl, aN rfl, fun t1 ht1 => ?_⟩
  have B1 := aI.upd (o := .tup [.str a', .str b']) ht1
  refine ⟨_, rfl, _, rfl, aN rfl, fun t2 ht2 => ?_⟩
  have B2 := aI.upd (o := .tup [.str b', .str a']) ht2
  refine ⟨aN rfl, fun pp hpp => ?_⟩
  have B3 := aI.upd (o := .lst [.ref t1, .ref t2]) hpp
  have B := B1.trans (B2.trans B3)
  have k1 := (B2.trans B3) _ _ (aB (H := HX) (a := t1) (o := .tup [.str a', .str b']))
  have k2 := B3 _ _ (aB (H := upd HX t1 (.tup [.str a', .str b'])) (a := t2) (o := .tup [.str b', .str a']))
  have k3 : upd (upd (upd HX t1 (.tup [.str a', .str b'])) t2 (.tup [.str b', .str a'])) pp (.lst [.ref t1, .ref t2]) pp = some (.lst [.ref t1, .ref t2]) := aB
  generalize upd (upd (upd HX t1 (.tup [.str a', .str b'])) t2 (.tup [.str b', .str a'])) pp (.lst [.ref t1, .ref t2]) = HZ at B k1 k2 k3 ⊢
  have hlZ := B _ _ hlX
  have npp : pp ≠ lf := fun e => by rw [e, hlZ] at k3; have h9 := HO.lst.inj (Option.some.inj k3); cases ns with | nil => cases h9 | cons q0 qr => cases h9
  have nt1 : t1 ≠ lf := fun e => by rw [e, hlZ] at k1; cases k1
  have nt2 : t2 ≠ lf := fun e => by rw [e, hlZ] at k2; cases k2
  have XZ : cV lf H7 HZ := X.then B
  obtain ⟨con, hcon⟩ : ∃ con : Nat → List Int, con = fun j => (if 1 ≤ j ∧ a' ∈ rs ∧ b' ∉ rs then [max sd (bA fs a')] else []) ++ (if 2 ≤ j ∧ b' ∈ rs ∧ a' ∉ rs then [max sd (bA fs b')] else []) := ⟨_, rfl⟩
  have con0 : con 0 = [] := by rw [hcon]; simp
  have conl : ∀ j, (con j).length ≤ 2 := fun j => by
   rw [hcon]
   dsimp only
   rw [List.length_append]
   split <;> split <;> simp
  refine ⟨pp, rfl, ⟨_, SqL.of k3⟩, fO (K := K) (a := pp) (xs := [.ref t1, .ref t2])
   (fun j σ Hy => ∃ (w12 w13 : Option V), σ = [some (.ref p), some (.ref l), some (.str z), some (.ref lr), some (.ref dh), some (.ref lf), some (.str n), some (.str a'), some (.str b'), some (.int c), some (.int r), some sv, w12, w13] ∧ cV lf HZ Hy ∧ Hy lf = some (.lst ((ns ++ con j).map V.int)))
   ⟨_, _, rfl, (fun b o e _ => e), by rw [con0, List.append_nil]; exact hlZ⟩ (fun j σ Hy _ ⟨_, _, _, X', _⟩ => SqL.of (X' _ _ k3 npp)) ?_ ?_⟩
  ·rintro j xv σ Hy hj ⟨u12, u13, rfl, XY, hlY⟩
   obtain ⟨x, y, tj, etj, htj, cj, xy⟩ : ∃ x y tj, xv = .ref tj ∧ Hy tj = some (.tup [.str x, .str y]) ∧ con (j + 1) = con j ++ (if x ∈ rs ∧ y ∉ rs then [max sd (bA fs x)] else []) ∧ True := by
    have hj2 : j < 2 := (List.getElem?_eq_some_iff.mp hj).1
    obtain rfl | rfl : j = 0 ∨ j = 1 := by omega
    ·cases hj
     refine ⟨a', b', t1, rfl, XY _ _ k1 nt1, ?_, trivial⟩
     rw [hcon]
     simp
    ·cases hj
     refine ⟨b', a', t2, rfl, XY _ _ k2 nt2, ?_, trivial⟩
     rw [hcon]
     simp
   subst etj
   have SHY : aI H Hy := fun b o e => XY _ _ (B _ _ (SHX _ _ e)) (fun z => by rw [z, nlf] at e; cases e)
   have hlrY := XY _ _ (XZ _ _ hlr7 nrl) nrl
   have hdhY := XY _ _ (XZ _ _ hdh7 ndl) ndl
   refine ⟨tj, _, rfl, SqT.of htj, rfl, _, _, rfl, _, _, rfl, rfl, ?_⟩
   refine ⟨_, rfl, _, rfl, lr, _, rfl, .inl (SqL.of hlrY), rfl, cQ _, _, rfl, ?_⟩
   rw [if_neg Bool.false_ne_true, eS]
   by_cases m1 : x ∈ rs
   ·rw [decide_eq_true m1]
    refine bU ⟨_, rfl, _, rfl, lr, _, rfl, .inl (SqL.of hlrY), rfl, cQ _, _, rfl, ?_⟩
    rw [if_pos rfl, eS]
    by_cases m2 : y ∈ rs
    ·rw [decide_eq_true m2]
     refine bF ⟨_, _, rfl, XY, ?_⟩
     rw [cj, if_neg (fun h => h.2 m2), List.append_nil]
     exact hlY
    ·rw [decide_eq_false m2]
     have LY := L.same SHY
     obtain ⟨dxY, e1Y, e2Y, hxY, _⟩ := LY.ex
     obtain ⟨gF, mgF, enF⟩ := List.mem_map.mp (rsub x m1)
     obtain ⟨zf, gr, du, rfl, _⟩ := bJ (gf.all gF mgF)
     have ezf : zf = x := enF
     subst ezf
     have eg : bA fs zf = gr := jN gf.nd mgF
     have lcj := conl j
     refine bU ⟨_, rfl, .inl ⟨rfl, _, SqL.of hlY⟩, _, rfl, _, rfl, dh, _, rfl, .inl ⟨_, Sum.inr n, .inl hdhY, rfl, vald'.symm⟩, _, rfl, p, dxY, _, rfl, hxY, no _ _ _ (by decide +kernel) (by decide +kernel), _, rfl, _, _, rfl, p, fs, ds, zf, gr, du, rfl, rfl, LY, mgF, _, _, rfl, lf, _, _, rfl, rfl, hlY, by rw [List.length_map, List.length_append]; omega, ?_⟩
     rw [eh]
     refine ⟨_, _, rfl, XY.put, ?_⟩
     rw [aB, cj, if_pos ⟨m1, m2⟩, ← List.append_assoc, List.map_append (l₁ := ns ++ con j), eg]
     rfl
   ·rw [decide_eq_false m1]
    refine bF (bF ⟨_, _, rfl, XY, ?_⟩)
    rw [cj, if_neg (fun h => m1 h.1), List.append_nil]
    exact hlY
  ·rintro σ Hy ⟨u12, u13, rfl, XY, hlY⟩
   have lc2 := conl 2
   refine ⟨_, _, _, _, _, _, _, _, ns ++ con 2, rfl, (fun b o e m => XY _ _ (XZ _ _ e m) m), hlY, by rw [List.length_append]; omega, ?_⟩
   rw [tk]
   refine cl.snoc nsea ?_
   rw [hsd]
   intro y
   rw [hcon]
   dsimp only
   rw [List.mem_append]
   by_cases h1 : a' ∈ rs ∧ b' ∉ rs
   ·rw [if_pos ⟨by decide, h1⟩, if_neg (fun h => h1.2 h.2.1)]
    simp [mM, fA, h1.1, h1.2]
   ·by_cases h2 : b' ∈ rs ∧ a' ∉ rs
    ·rw [if_neg (fun h => h1 h.2), if_pos ⟨by decide, h2⟩]
     simp [mM, fA, h2.1, h2.2]
    ·rw [if_neg (fun h => h1 h.2), if_neg (fun h => h2 h.2)]
     constructor
     ·rintro (h | h) <;> cases h
     ·rintro (⟨h3, h4, _⟩ | ⟨h3, h4, _⟩)
      ·exact absurd ⟨h3, h4⟩ h1
      ·exact absurd ⟨h3, h4⟩ h2
 ·rintro σ HX ⟨w6, w7, w8, w9, w10, w11, w12, w13, ns, rfl, X, hlX, lns, cl⟩
  rw [List.take_of_length_le (by omega)] at cl
  have SHX : aI H HX := fun b o e => X _ _ (T7 _ _ e) (fun z => by rw [z, nlf] at e; cases e)
  have hms := aHN (op := op) gf gd
  have cut := aFI gf gd (fun s ms => (hms s ms).1) (op := op) mz
  rw [hrs] at cut
  refine ⟨_, rfl, _, _, rfl, rfl, ⟨by decide, by decide, by decide⟩, aN rfl, fun pa hpa => ?_⟩
  have A1 := aI.upd (o := .lst [.int (10 ^ (7 : Int).toNat)]) hpa
  refine ⟨lf, pa, _, _, rfl, rfl, A1 _ _ hlX, aB, by rw [List.length_map]; show _ + 1 ≤ _; omega, fun pb hpb => ?_⟩
  have A2 := aI.upd (o := .lst (ns.map V.int ++ [.int (10 ^ (7 : Int).toNat)])) hpb
  refine ⟨pb, ns ++ [10 ^ (7 : Int).toNat], rfl, SqL.of (by rw [aB, List.map_append]; rfl), by simp, fun M hM hle => ?_⟩
  have p7 : (10 : Int) ^ (7 : Int).toNat = 10000000 := by decide
  have eM : M = (flo fs ds op z).getD 10000000 := by
   rw [p7] at hM hle
   rcases cut with ⟨e, h0⟩ | ⟨M', e, ⟨s, ms, hn, hf, hs⟩, h0⟩
   ·rw [e]
    have : ns = [] := by
     cases ns with
     | nil => rfl
     | cons a r =>
      obtain ⟨s, ms, hn, hf, _⟩ := cl.1 a List.mem_cons_self
      exact (h0 s ms hn hf).elim
    subst this
    simp at hM
    exact hM
   ·rw [e]
    show M = M'
    have m1 : M' ∈ ns := by rw [← hs]; exact cl.2 s ms hn hf
    have le1 := hle M' (List.mem_append_left _ m1)
    have b1 := hms s ms
    rcases List.mem_append.mp hM with hM | hM
    ·obtain ⟨s2, ms2, hn2, hf2, hs2⟩ := cl.1 M hM
     have := h0 s2 ms2 hn2 hf2
     omega
    ·simp at hM
     omega
  rw [eM]
  exact q _ (SHX.trans (A1.trans A2))
open Mt22 MtF Mt31 Mt33
theorem aDQ {fs ds : List Dv} {op : List Str} {z : Str} {c : Int} (gf : GoodF fs) (gd : GoodD ("sea" :: fs.map aK) ds) (nsea : z ≠ Mt22.sea) (hc : flo fs ds op z = some c) : bA fs z ≤ c := by
 obtain ⟨k, w⟩ := (nT (op := op) gd).att _ _ hc
 cases w with
 | sea => exact absurd rfl nsea
 | step w m =>
  obtain ⟨d, md, _, _, _, hh, _⟩ := jJ gd m
  omega
def aBO (C : Addr) : Sp := sp5 fun x y u v t H Q => ∃ (p l tt : Addr) (fs ds : List Dv) (op : List Str) (z : Str) (lv : Int) (bf : Bool), x = .ref p ∧ LandAt C H p fs ds ∧ y = .ref l ∧ H l = some (.lst (op.map V.str)) ∧ op.length ≤ 1000 ∧ (∀ z ∈ op, z ∈ (ds.filter bC).map aK) ∧ u = .int lv ∧ hgt lv = true ∧ v = .str z ∧ z ∈ fs.map aK ∧ t = .ref tt ∧ H tt = some (.tup [.bl (uO (flo fs ds op z) (bA fs z) lv bf), .bl bf]) ∧ ∀ H', aI H H' → Q (.bl true) H'
theorem aDJ (T : Txt K mg C) : Fc P w K mg base 8 "_law_good" ["_law_land", "_law_opened_here", "_law_level", "_law_name", "_law_told"] (aBO C) := by
 have G_l_way : Fc P w K mg base 7 "_law_way" ["_law_land", "_law_opened_here", "_law_name"] (aEV C) := aFU T
 have G_l_ring : Fc P w K mg base 7 "_law_ring" ["_law_land", "_law_opened_here", "_law_name"] (aBN C) := aDI T
 have G_land_p_ground : Mc P w K mg base 1 C "ground" ["self", "field"] (kZ C) := eL T
 refine T.d_l_good.fc lA aME (fun f cdv A outer s H vs Q E hr h => ?_)
 obtain ⟨x, y, u, v, t, rfl, p, l, tt, fs, ds, op, z, lv, bf, rfl, L, rfl, hl, lo, sub, rfl, hlv, rfl, mz, rfl, htt, q⟩ := h
 have gf := (bY L).1
 have gd := (bY L).2
 have hlv' := kO hlv
 have no : ∀ (e1 e2 : Addr) (m : Str), ¬ m = "dyke_rows" → ¬ m = "field_rows" → (lG e1 e2).lookup m = none := fun e1 e2 m h1 h2 => dL _ _ h1 h2
 obtain ⟨gF, mgF, enF⟩ := List.mem_map.mp mz
 obtain ⟨zf, gr, du, rfl, hzn, hg, _⟩ := bJ (gf.all gF mgF)
 have ezf : zf = z := enF
 subst ezf
 have nsea : zf ≠ Mt22.sea := rQ hzn
 have eg : bA fs zf = gr := jN gf.nd mgF
 have gr' := kO hg
 have gle : ∀ c, flo fs ds op zf = some c → gr ≤ c := fun c hc => by rw [← eg]; exact aDQ gf gd nsea hc
 rw [eg] at htt
 refine ⟨_, (aG (@zR _ _ _ _ _ _ (pv 4) (@lX _ _ _ _ _ _ rfl (@bN _ _ _ _ _ (@aO _ _ (5) _ lA.nd rfl (Or.inl rfl) (by trivial)) (@bN _ _ _ _ _ (@aO _ _ (6) _ lA.nd rfl (Or.inl rfl) (by trivial)) jG (by rfl)) (by rfl)) (by rfl) (by rfl)) (by rfl) (by rfl) (by rfl)) (aG (@aS _ _ (7) _ _ _ _ lA.nd rfl (Or.inl rfl) (@bO _ _ _ _ _ _ _ _ _ _ G_l_way (hr.mono (by decide)) (aA (pv 0) (aA (pv 1) (aA (pv 3) aD))) (by rfl) (by decide) (by rfl) (by rfl)) (by rfl) (by trivial)) (aG (@aS _ _ (8) _ _ _ _ lA.nd rfl (Or.inl rfl) (@bO _ _ _ _ _ _ _ _ _ _ G_l_ring (hr.mono (by decide)) (aA (pv 0) (aA (pv 1) (aA (pv 3) aD))) (by rfl) (by decide) (by rfl) (by rfl)) (by rfl) (by trivial)) (aG (@cE _ _ _ _ _ _ _ _ (@PW.pt _ _ _ (@kJ _ _ _ _ _ _ _ (@bD _ _ _ _ _ _ _ _ iV (pv 7) cJ (@bB _ _ (by decide) (by decide))) (@kJ _ _ _ _ _ _ _ (@bD _ _ _ _ _ _ _ _ iV (pv 8) cJ (@bB _ _ (by decide) (by decide))) (@kJ _ _ _ _ _ _ _ (@PW.pt _ _ _ (@oM _ _ _ _ _ _ _ (@bD _ _ _ _ _ _ _ _ oO (pv 7) eZ (@bB _ _ (by decide) (by decide))) (@lT _ _ _ _ (@bD _ _ _ _ _ _ _ _ pL (pv 8) (@aP _ _ _ _ _ _ _ _ eA aE aE) (@bB _ _ (by decide) (by decide)))))) (@kS _ _ _ _ (@PW.pt _ _ _ (@oM _ _ _ _ _ _ _ (@bD _ _ _ _ _ _ _ _ mB (pv 7) eZ (@bB _ _ (by decide) (by decide))) (@lT _ _ _ _ (@bD _ _ _ _ _ _ _ _ pL (pv 8) (pv 7) (@bB _ _ (by decide) (by decide))))))))))) (aH (@aR _ _ _ _ mZ)) bE) (aG (@cE _ _ _ _ _ _ _ _ (@PW.pt _ _ _ (@oM _ _ _ _ _ _ _ (@cN _ _ _ (pv 5) (by intro _; rfl)) (@lT _ _ _ _ (@dP _ _ _ _ (@cN _ _ _ (pv 6) (by intro _; rfl)))))) (aH (@aR _ _ _ _ (@cK _ _ _ _ _ _ _ (@bX _ _ _ _ _ _ _ _ mB (pv 7) eZ (@bB _ _ (by decide) (by decide))) (@dJ _ _ _ _ _ (@bX _ _ _ _ _ _ _ _ qO (pv 7) (pv 2) (@bB _ _ (by decide) (by decide))))))) bE) (aG (@cE _ _ _ _ _ _ _ _ (@PW.pt _ _ _ (@oM _ _ _ _ _ _ _ (@dP _ _ _ _ (@cN _ _ _ (pv 5) (by intro _; rfl))) (@lT _ _ _ _ (@dP _ _ _ _ (@cN _ _ _ (pv 6) (by intro _; rfl)))))) (aH (@aR _ _ _ _ (@bX _ _ _ _ _ _ _ _ aJJ (pv 8) (pv 2) (@bB _ _ (by decide) (by decide))))) bE) (aG (@cE _ _ _ _ _ _ _ _ (@dP _ _ _ _ (@cN _ _ _ (pv 5) (by intro _; rfl))) (aH (@aR _ _ _ _ (@cK _ _ _ _ _ _ _ (@bX _ _ _ _ _ _ _ _ mB (pv 7) eZ (@bB _ _ (by decide) (by decide))) (@cK _ _ _ _ _ _ _ (@bX _ _ _ _ _ _ _ _ kK (pv 7) (@uS _ _ _ _ _ _ _ _ _ _ _ _ _ _ T.cl_Land G_land_p_ground (hr.mono (by decide)) (pv 0) (aA (pv 3) aD) (by rfl) (by rfl) (by rfl)) (@bB _ _ (by decide) (by decide))) (@dJ _ _ _ _ _ (@bX _ _ _ _ _ _ _ _ kK (pv 2) (@uS _ _ _ _ _ _ _ _ _ _ _ _ _ _ T.cl_Land G_land_p_ground (hr.mono (by decide)) (pv 0) (aA (pv 3) aD) (by rfl) (by rfl) (by rfl)) (@bB _ _ (by decide) (by decide)))))))) bE) (aH (@aR _ _ _ _ (@aJH _ _ _ _ _ _ _ (@bX _ _ _ _ _ _ _ _ aBY (pv 8) (@uS _ _ _ _ _ _ _ _ _ _ _ _ _ _ T.cl_Land G_land_p_ground (hr.mono (by decide)) (pv 0) (aA (pv 3) aD) (by rfl) (by rfl) (by rfl)) (@bB _ _ (by decide) (by decide))) (@dJ _ _ _ _ _ (@bX _ _ _ _ _ _ _ _ aBY (pv 2) (@uS _ _ _ _ _ _ _ _ _ _ _ _ _ _ T.cl_Land G_land_p_ground (hr.mono (by decide)) (pv 0) (aA (pv 3) aD) (by rfl) (by rfl) (by rfl)) (@bB _ _ (by decide) (by decide)))))))))))))), ?_⟩
 refine ⟨_, rfl, tt, _, rfl, SqT.of htt, rfl, _, _, rfl, _, _, rfl, rfl, ?_⟩
 refine ⟨_, rfl, _, rfl, _, rfl, _, _, _, rfl, p, l, fs, ds, op, zf, rfl, L, rfl, hl, lo, sub, rfl, mz, fun H1 S1 => ?_⟩
 refine ⟨_, rfl, _, rfl, _, rfl, _, _, _, rfl, p, l, fs, ds, op, zf, rfl, L.same S1, rfl, S1 _ _ hl, lo, sub, rfl, mz, fun H2 S2 => ?_⟩
 have T2 := S1.trans S2
 have L2 := L.same T2
 obtain ⟨dx, e1, e2, hx, _⟩ := L2.ex
 generalize hF : flo fs ds op zf = F at *
 cases F with
 | none =>
  have p7 : ((10 : Int) ^ (7 : Int).toNat) = 10000000 := by decide
  refine ⟨_, rfl, rfl, _, rfl, bF ?_⟩
  refine ⟨_, rfl, rfl, _, rfl, bF ?_⟩
  refine ⟨_, rfl, rfl, _, rfl, bU ?_⟩
  refine ⟨_, rfl, _, _, rfl, rfl, ⟨by decide, by decide, by decide⟩, rfl, _, rfl, ?_⟩
  show (if (!decide (V.int 10000000 = V.int (10 ^ (7 : Int).toNat))) = true then _ else _)
  rw [p7, decide_eq_true rfl]
  refine bF ?_
  refine ⟨_, rfl, rfl, _, rfl, bF ?_⟩
  cases bf with
  | true =>
   refine ⟨_, rfl, _, rfl, bU ?_⟩
   refine ⟨_, rfl, _, rfl, bF ?_⟩
   refine ⟨_, rfl, _, rfl, bF ?_⟩
   refine ⟨_, rfl, _, rfl, bF ?_⟩
   refine ⟨_, rfl, _, rfl, p, dx, _, rfl, hx, no _ _ _ (by decide +kernel) (by decide +kernel), _, rfl, _, _, rfl, p, fs, ds, zf, gr, du, rfl, rfl, L2, mgF, _, _, rfl, rfl, _, rfl, ?_⟩
   show (if decide (gr < 10000000) = true then _ else _)
   rw [decide_eq_true (show gr < 10000000 by omega)]
   exact bU (q _ T2)
  | false =>
   refine ⟨_, rfl, _, rfl, bF ?_⟩
   refine ⟨_, rfl, _, rfl, bU ?_⟩
   refine ⟨_, rfl, _, rfl, bU ?_⟩
   refine ⟨_, rfl, _, rfl, _, _, rfl, rfl, ?_⟩
   show Q (.bl (decide (lv ≤ 10000000))) H2
   rw [decide_eq_true (show lv ≤ 10000000 by omega)]
   exact q _ T2
 | some c =>
  have gc := gle c rfl
  refine ⟨_, rfl, rfl, _, rfl, bF ?_⟩
  refine ⟨_, rfl, rfl, _, rfl, bF ?_⟩
  refine ⟨_, rfl, rfl, _, rfl, bF ?_⟩
  refine ⟨_, rfl, rfl, _, rfl, bU ?_⟩
  refine ⟨_, rfl, _, rfl, rfl, _, rfl, ?_⟩
  show (if (!decide (V.int c = V.int c)) = true then _ else _)
  rw [decide_eq_true rfl]
  refine bF ?_
  have ew : uO (some c) gr lv bf = (decide (c < lv) || (bf && !decide (c = gr))) := rfl
  rw [ew]
  by_cases h1 : c < lv
  ·rw [decide_eq_true h1, Bool.true_or]
   cases bf with
   | false =>
    refine ⟨_, rfl, _, rfl, bU ?_⟩
    refine ⟨_, rfl, _, rfl, bU ?_⟩
    refine ⟨_, rfl, rfl, _, rfl, bU ?_⟩
    refine ⟨_, rfl, _, rfl, _, _, rfl, rfl, ?_⟩
    show Q (.bl (decide (c < lv))) H2
    rw [decide_eq_true h1]
    exact q _ T2
   | true =>
    refine ⟨_, rfl, _, rfl, bU ?_⟩
    refine ⟨_, rfl, _, rfl, bF ?_⟩
    refine ⟨_, rfl, _, rfl, bF ?_⟩
    refine ⟨_, rfl, _, rfl, bF ?_⟩
    refine ⟨_, rfl, _, rfl, p, dx, _, rfl, hx, no _ _ _ (by decide +kernel) (by decide +kernel), _, rfl, _, _, rfl, p, fs, ds, zf, gr, du, rfl, rfl, L2, mgF, _, _, rfl, rfl, _, rfl, ?_⟩
    show (if decide (gr < c) = true then _ else _)
    by_cases h2 : gr < c
    ·rw [decide_eq_true h2]
     exact bU (q _ T2)
    ·rw [decide_eq_false h2]
     refine bF ⟨_, rfl, _, rfl, p, dx, _, rfl, hx, no _ _ _ (by decide +kernel) (by decide +kernel), _, rfl, _, _, rfl, p, fs, ds, zf, gr, du, rfl, rfl, L2, mgF, _, _, rfl, rfl, ?_⟩
     show Q (.bl (decide (gr < lv))) H2
     rw [decide_eq_true (by omega)]
     exact q _ T2
  ·rw [decide_eq_false h1, Bool.false_or]
   cases bf with
   | false =>
    rw [Bool.false_and]
    refine ⟨_, rfl, _, rfl, bF ?_⟩
    refine ⟨_, rfl, _, rfl, bU ?_⟩
    refine ⟨_, rfl, _, rfl, bU ?_⟩
    refine ⟨_, rfl, _, rfl, _, _, rfl, rfl, ?_⟩
    show Q (.bl (decide (lv ≤ c))) H2
    rw [decide_eq_true (by omega)]
    exact q _ T2
   | true =>
    rw [Bool.true_and]
    by_cases h2 : c = gr
    ·rw [decide_eq_true h2]
     refine ⟨_, rfl, _, rfl, bF ?_⟩
     refine ⟨_, rfl, _, rfl, bU ?_⟩
     refine ⟨_, rfl, _, rfl, bF ?_⟩
     refine ⟨_, rfl, _, rfl, bU ?_⟩
     refine ⟨_, rfl, rfl, _, rfl, bU ?_⟩
     refine ⟨_, rfl, _, rfl, p, dx, _, rfl, hx, no _ _ _ (by decide +kernel) (by decide +kernel), _, rfl, _, _, rfl, p, fs, ds, zf, gr, du, rfl, rfl, L2, mgF, _, _, rfl, rfl, _, rfl, ?_⟩
     show (if decide (c ≤ gr) = true then _ else _)
     rw [decide_eq_true (by omega)]
     refine bU ⟨_, rfl, _, rfl, p, dx, _, rfl, hx, no _ _ _ (by decide +kernel) (by decide +kernel), _, rfl, _, _, rfl, p, fs, ds, zf, gr, du, rfl, rfl, L2, mgF, _, _, rfl, rfl, ?_⟩
     show Q (.bl (decide (lv ≤ gr))) H2
     rw [decide_eq_true (by omega)]
     exact q _ T2
    ·rw [decide_eq_false h2]
     refine ⟨_, rfl, _, rfl, bU ?_⟩
     refine ⟨_, rfl, _, rfl, bF ?_⟩
     refine ⟨_, rfl, _, rfl, bF ?_⟩
     refine ⟨_, rfl, _, rfl, bF ?_⟩
     refine ⟨_, rfl, _, rfl, p, dx, _, rfl, hx, no _ _ _ (by decide +kernel) (by decide +kernel), _, rfl, _, _, rfl, p, fs, ds, zf, gr, du, rfl, rfl, L2, mgF, _, _, rfl, rfl, _, rfl, ?_⟩
     show (if decide (gr < c) = true then _ else _)
     rw [decide_eq_true (by omega)]
     exact bU (q _ T2)
open Mt22 MtF Mt31 Mt33
theorem aHI {fs ds : List Dv} {xs : List Dk} {op wt : List Str} {n lv : Int} {z : Str} (mz : z ∈ fs.map aK) : decide (z ∈ eX fs ds xs op wt n lv) = uO (flo fs ds (jA ds xs op wt n lv) z) (bA fs z) lv (decide (z ∈ wt)) := by
 unfold eX aEE
 rw [Bool.eq_iff_iff, decide_eq_true_iff, List.mem_filter]
 exact ⟨fun h => h.2, fun h => ⟨mz, h⟩⟩
theorem aKJ {f : Addr} {fd : FuncData} (T : Txt K mg C) (F : Fun K "law" "law" nO f fd) : FnOk P w K mg base CX0 13 f fd ["_law_script"] (aBM K) := by
 obtain ⟨C_Season, cl_Season, mg_Season, na_on_land, na_own_decrees, na_open_names, na_wet_names, na_day_count, na_wet_counts, i_Season, m_season_p_day, m_season_p_days, m_season_p_opened, m_season_p_wet, m_season_p_count, m_season_p_wet_days, m_season_p_onto⟩ := T.k_Season
 have G_l_fields : Fc P w K mg base 2 "_law_fields" ["_law_script", "_law_most"] (aIZ K) := yL T
 have G_l_dykes : Fc P w K mg base 2 "_law_dykes" ["_law_script", "_law_at", "_law_most", "_law_fields_here"] (aJA K) := zW T
 have G_l_decrees : Fc P w K mg base 3 "_law_decrees" ["_law_script", "_law_at", "_law_most", "_law_fields_here", "_law_dykes_here"] (aJC K) := wT T
 have G_land_pinit : Ic P w K mg base 6 C ["self", "fields", "dykes"] (aEW C) := uU T
 have G_season_pinit : Ic P w K mg base 7 C_Season ["self", "land", "decrees"] (aBK C_Season C) := rF T mg_Season
 have G_season_p_day : Mc P w K mg base 8 C_Season "day" ["self", "level"] (aJD C_Season C) := rH T mg_Season
 have G_l_height : Fc P w K mg base 1 "_law_height" ["_law_cell"] aEX := kM T
 have G_l_mixed : Fc P w K mg base 1 "_law_mixed" ["_law_script", "_law_k"] (aEU K) := mD T
 have G_l_good : Fc P w K mg base 8 "_law_good" ["_law_land", "_law_opened_here", "_law_level", "_law_name", "_law_told"] (aBO C) := aDJ T
 refine F.ok dH nZ (fun cdv A outer s H vs Q E hr h => ?_)
 obtain ⟨x, rfl, a, ns, rfl, hS, hns, q⟩ := h
 have big := bT
 have hu := kF hr
 have scr : Scr K H (.ref a) := ⟨a, ns, rfl, hS, hns⟩
 refine ⟨_, (aG (@aS _ _ (1) _ _ _ _ dH.nd rfl (Or.inl rfl) (@bO _ _ _ _ _ _ _ _ _ _ G_l_fields (hr.mono (by decide)) (aA (pv 0) (@aA _ _ _ _ _ aE aD (by rfl))) (by rfl) (by decide) (by rfl) (by rfl)) (by rfl) (by trivial)) (aG (@aS _ _ (2) _ _ _ _ dH.nd rfl (Or.inl rfl) (@bO _ _ _ _ _ _ _ _ _ _ G_l_dykes (hr.mono (by decide)) (aA (pv 0) (aA aE (aA aE (aA (pv 1) aD)))) (by rfl) (by decide) (by rfl) (by rfl)) (by rfl) (by trivial)) (aG (@aS _ _ (3) _ _ _ _ dH.nd rfl (Or.inl rfl) (@bO _ _ _ _ _ _ _ _ _ _ G_l_decrees (hr.mono (by decide)) (aA (pv 0) (aA aE (aA aE (aA (pv 1) (aA (pv 2) aD))))) (by rfl) (by decide) (by rfl) (by rfl)) (by rfl) (by trivial)) (aG (@aS _ _ (4) _ _ _ _ dH.nd rfl (Or.inl rfl) (@aJI _ _ _ _ _ _ _ _ _ _ _ T.mg_Land G_land_pinit (hr.mono (by decide)) (aA (pv 1) (aA (pv 2) aD)) (by rfl) (by decide) (by rfl) (by rfl)) (by rfl) (by trivial)) (aG (@aS _ _ (5) _ _ _ _ dH.nd rfl (Or.inl rfl) (@aJI _ _ _ _ _ _ _ _ _ _ _ mg_Season G_season_pinit (hr.mono (by decide)) (aA (pv 4) (aA (pv 3) aD)) (by rfl) (by decide) (by rfl) (by rfl)) (by rfl) (by trivial)) (aG (@aS _ _ (6) _ _ _ _ dH.nd rfl (Or.inl rfl) (@cG _ _ _ _ aD) (by rfl) (by trivial)) (aG (@eY _ _ _ _ _ _ _ _ PassesOwn.never rfl (@hE _ _ _ _ _ _ rfl T.n_range (aA (@aV _ _ _ _ _ _ _ _ _ (@jP _ rfl) rfl T.n_max iJ (aA aE (aA (@aV _ _ _ _ _ _ _ _ _ (@qK _ rfl) rfl T.n_min nW (aA aE (aA (@aP _ _ _ _ _ _ _ _ lZ (@aV _ _ _ _ _ _ _ _ _ (@bW _ (K) rfl) rfl T.n_len cM (aA (pv 0) aD) (by decide) (by decide) (by rfl) (by rfl)) aE) aD)) (by decide) (by decide) (by rfl) (by rfl)) aD)) (by decide) (by decide) (by rfl) (by rfl)) aD) (by rfl)) (@aO _ _ (7) _ dH.nd rfl (Or.inl rfl) (by trivial)) (aG (@aS _ _ (8) _ _ _ _ dH.nd rfl (Or.inl rfl) (@bO _ _ _ _ _ _ _ _ _ _ G_l_height (hr.mono (by decide)) (aA (@aP _ _ _ _ _ _ _ _ bQ (@bO _ _ _ _ _ _ _ _ _ _ G_l_mixed (hr.mono (by decide)) (aA (pv 0) (aA (@aP _ _ _ _ _ _ _ _ fM aE (pv 7)) aD)) (by rfl) (by decide) (by rfl) (by rfl)) (@aP _ _ _ _ _ _ _ _ eA aE aE)) aD) (by rfl) (by decide) (by rfl) (by rfl)) (by rfl) (by trivial)) (aG (@zR _ _ _ _ _ _ (@uS _ _ _ _ _ _ _ _ _ _ _ _ _ _ cl_Season G_season_p_day (hr.mono (by decide)) (pv 5) (aA (pv 8) aD) (by rfl) (by rfl) (by rfl)) (@lX _ _ _ _ _ _ rfl (@bN _ _ _ _ _ (@aO _ _ (9) _ dH.nd rfl (Or.inl rfl) (by trivial)) (@bN _ _ _ _ _ (@aO _ _ (10) _ dH.nd rfl (Or.inl rfl) (by trivial)) jG (by rfl)) (by rfl)) (by rfl) (by rfl)) (by rfl) (by rfl) (by rfl)) (aG (@eY _ _ _ _ _ _ _ _ PassesOwn.never rfl (@bM _ _ _ _ (pv 1)) (@lX _ _ _ _ _ _ rfl (@bN _ _ _ _ _ (@aO _ _ (11) _ dH.nd rfl (Or.inl rfl) (by trivial)) (@bN _ _ _ _ _ (@aO _ _ (12) _ dH.nd rfl (Or.inl rfl) (by trivial)) (@bN _ _ _ _ _ (@aO _ _ (13) _ dH.nd rfl (Or.inl rfl) (by trivial)) jG (by rfl)) (by rfl)) (by rfl)) (by rfl) (by rfl)) (aH (@cE _ _ _ _ _ _ _ _ (@dP _ _ _ _ (@cN _ _ _ (@bO _ _ _ _ _ _ _ _ _ _ G_l_good (hr.mono (by decide)) (aA (pv 4) (aA (pv 9) (aA (pv 8) (aA (pv 11) (aA (@cO _ _ _ _ _ (aA (@bX _ _ _ _ _ _ _ _ (@eB _ (K) rfl) (pv 11) (pv 10) (by with_unfolding_all rfl)) (aA (@bX _ _ _ _ _ _ _ _ (@eB _ (K) rfl) (pv 11) (pv 6) (by with_unfolding_all rfl)) aD))) aD))))) (by rfl) (by decide) (by rfl) (by rfl)) (by intro _; rfl))) (aH (@aR _ _ _ _ mZ)) bE)) (by intro _; rfl)) (aH (@aS _ _ (6) _ _ _ _ dH.nd rfl (Or.inl rfl) (pv 10) (by rfl) (by trivial)))))) (by intro _; rfl)) (aH (@aR _ _ _ _ mZ))))))))), ?_⟩
 refine ⟨_, rfl, _, _, rfl, 6, scr, rfl, by decide, by decide, fun lf vf fs H1 S1 nlf hf0 hif0 gf => ?_⟩
 refine ⟨_, rfl, _, rfl, _, _, _, _, rfl, 8, 10, lf, vf, fs, 6, scr.same S1, rfl, by decide, rfl, by decide, by decide, rfl, hf0, hif0, gf, by decide, fun ld vd ds H2 S2 nld hd0 hid0 gd => ?_⟩
 have okf := aDU gf (by decide)
 have okd := aGV gd (by decide)
 have GF := (nR _).mp okf
 have GD := (lN _ _).mp okd
 have f1 := gf.l1
 have f2 := gf.l2
 have d1 := gd.l1
 have d2 := gd.l2
 have smf : dR (.lst fs) = true := vH (fun d m => yX (gf.all d m)) (by omega)
 have smd : dR (.lst ds) = true := vH (fun d m => aAL gf.all (gd.all d m)) (by omega)
 have T2 := S1.trans S2
 have hf2 := S2 _ _ hf0
 have hif2 := IsL.same S2 _ _ hif0
 refine ⟨_, rfl, _, rfl, _, rfl, _, _, _, _, _, rfl, 9, 8, lf, ld, vf, vd, fs, ds, scr.same T2, rfl, by decide, rfl, by decide, rfl, hf2, hif2, GF, rfl, hd0, hid0, GD, fun lx xs H3 S3 nlx dc lx8 => ?_⟩
 have T3 := T2.trans S3
 have hf3 := S3 _ _ hf2
 have hif3 := IsL.same S3 _ _ hif2
 have hd3 := S3 _ _ hd0
 have hid3 := IsL.same S3 _ _ hid0
 refine ⟨_, rfl, _, rfl, fun p dx np ndx nex => ?_⟩
 have S4' : aI H3 (upd (upd H3 dx (.own p)) p (.ins C dx [])) := fun b o e => by
  rw [aT (bG e np), aT (bG e ndx)]
  exact e
 refine ⟨_, _, _, rfl, p, dx, fs, ds, rfl, aB, ⟨lf, vf, rfl, S4' _ _ hf3, IsL.same S4' _ _ hif3⟩, ⟨ld, vd, rfl, S4' _ _ hd3, IsL.same S4' _ _ hid3⟩, smf, smd, okf, okd, fun H4 L fr => ⟨rfl, ?_⟩⟩
 have S4 : aI H3 H4 := fun b o e => fr b o (S4' _ _ e) (bG e np)
 have T4 := T3.trans S4
 have dc4 := dc.same S4
 refine ⟨_, rfl, _, rfl, fun ps dxs nps ndxs nexs => ?_⟩
 have S5' : aI H4 (upd (upd H4 dxs (.own ps)) ps (.ins C_Season dxs [])) := fun b o e => by
  rw [aT (bG e nps), aT (bG e ndxs)]
  exact e
 refine ⟨_, _, _, rfl, ps, dxs, p, lx, fs, ds, xs, rfl, aB, rfl, L.same S5', rfl, dc4.same S5', by omega, fun dw H5 SA ndw X5 => ⟨rfl, ?_⟩⟩
 have S5 : aI H4 H5 := fun b o e => X5 b o (S5' _ _ e) (bG e nps)
 have T5 := T4.trans S5
 have hf5 := (S4.trans S5) _ _ hf3
 have hif5 := IsL.same (S4.trans S5) _ _ hif3
 refine ⟨aN rfl, fun lb hlb => ?_⟩
 have S6 := aI.upd (o := .lst []) hlb
 have T6 := T5.trans S6
 have SA6 := SA.same S6
 have hf6 := S6 _ _ hf5
 have hif6 := IsL.same S6 _ _ hif5
 have hlb6 : upd H5 lb (.lst []) lb = some (.lst (([] : List Str).map V.str)) := aB
 generalize upd H5 lb (.lst []) = H6 at T6 SA6 hf6 hif6 hlb6 ⊢
 obtain ⟨dxp, F0, ldp, lop, lwp, hps6, sfp, _⟩ := SA6.ex
 have hdw6 := SA6.dwt
 have nHps : H ps = none := T4.free nps
 have nHdw : H dw = none := T4.free (S5'.free ndw)
 have Ylt : ∀ {H' : Hp}, wG ps dw H6 H' → uN H6 H' := fun Y b o e l => Y b o e (fun z => by rw [z, hps6] at e; cases e; cases l) (fun z => by rw [z, hdw6] at e; cases e; cases l)
 have YH : ∀ {H' : Hp}, wG ps dw H6 H' → aI H H' := fun Y b o e => Y b o (T6 _ _ e) (fun z => by rw [z, nHps] at e; cases e) (fun z => by rw [z, nHdw] at e; cases e)
 refine ⟨_, rfl, a, _, rfl, .inl (T6.seq hS), _, _, rfl, rfl, _, _, rfl, _, _, rfl, ?_⟩
 obtain ⟨cnt, hcnt, c1, c2⟩ : ∃ cnt : Nat, (if (if (((ns.map V.int).length : Nat) : Int) - 8 < 12 then (((ns.map V.int).length : Nat) : Int) - 8 else 12) > 1 then (if (((ns.map V.int).length : Nat) : Int) - 8 < 12 then (((ns.map V.int).length : Nat) : Int) - 8 else 12) else 1) = (cnt : Int) ∧ 1 ≤ cnt ∧ cnt ≤ 12 := by
  generalize (((ns.map V.int).length : Nat) : Int) - 8 = w
  by_cases h1 : w < 12
  ·rw [if_pos h1]
   by_cases h2 : w > 1
   ·rw [if_pos h2]
    exact ⟨w.toNat, by omega, by omega, by omega⟩
   ·rw [if_neg h2]
    exact ⟨1, rfl, by omega, by omega⟩
  ·rw [if_neg h1]
   exact ⟨12, rfl, by omega, by omega⟩
 refine ⟨(cnt : Int), congrArg (fun x => [V.int x]) hcnt, by omega, by omega, ?_⟩
 rw [Int.toNat_natCast]
 refine iI (lo := 0) (n := cnt) (fun i σ H' => ∃ (w7 w8 w9 w10 w11 w12 w13 : Option V) (lb : Addr) (op wt : List Str) (n : Int) (ct : Str → Int), σ = [some (.ref a), some (.ref lf), some (.ref ld), some (.ref lx), some (.ref p), some (.ref ps), some (.ref lb), w7, w8, w9, w10, w11, w12, w13] ∧ SeaAt C_Season C H' ps dw p fs ds xs op wt n ct ∧ H' lb = some (.lst (wt.map V.str)) ∧ wG ps dw H6 H')
  ⟨_, _, _, _, _, _, _, lb, [], [], 0, _, rfl, SA6, hlb6, fun b o e _ _ => e⟩ ?_ ?_
 ·rintro i σ H' hi ⟨w7, w8, w9, w10, w11, w12, w13, lb, op, wt, n, ct, rfl, SA', hlb', Y⟩
  have p12 : (10 : Int) ^ (12 : Int).toNat = 1000000000000 := by decide
  refine ⟨_, rfl, _, rfl, _, _, rfl, rfl, _, _, rfl, _, scr.same (YH Y), rfl, by show 0 ≤ 8 + (0 + (i : Int)); omega, fun m1 hm1 => ?_⟩
  refine ⟨_, _, rfl, rfl, ⟨by decide, by decide, by decide⟩, _, _, rfl, rfl, ⟨by decide, by decide⟩, _, rfl, _, rfl, fun lv hlv => ?_⟩
  obtain ⟨dx', F', ld', lo', lw', hps', sf', _⟩ := SA'.ex
  refine ⟨_, rfl, ps, dx', F', rfl, hps', sf'.no _ (by decide +kernel), _, rfl, _, _, rfl, ps, dw, p, fs, ds, xs, op, wt, n, lv, ct, rfl, SA', rfl, hlv, fun t lo1 lw1 H0 H7 Y0 SA0 S7 nt nlo nlw n1 n2 n3 ht hlo hlw => ?_⟩
  refine ⟨t, _, rfl, SqT.of ht, rfl, _, _, rfl, _, _, rfl, rfl, ?_⟩
  have SA7 := SA0.same S7
  have Y7 : wG ps dw H6 H7 := fun b o e m1 m2 => S7 _ _ (Y0 _ _ (Y _ _ e m1 m2) m1 m2)
  have hlb7 : H7 lb = some (.lst (wt.map V.str)) := S7 _ _ (Y0 _ _ hlb' (fun z => by rw [z, hps'] at hlb'; cases hlb') (fun z => by have := SA'.dwt; rw [z, this] at hlb'; cases hlb'))
  have hf7 := Ylt Y7 _ _ hf6 rfl
  have hif7 := IsL.sameLT (Ylt Y7) _ _ (pO fun d m => vP (gf.all d m)) hif6
  have lvf := hif7.length
  refine ⟨_, rfl, lf, rfl, ⟨_, SqL.of hf7⟩, fO (K := K) (a := lf) (xs := vf)
   (fun j σ Hy => ∃ (u11 u12 u13 : Option V), σ = [some (.ref a), some (.ref lf), some (.ref ld), some (.ref lx), some (.ref p), some (.ref ps), some (.ref lb), some (.int (0 + (i : Int))), some (.int lv), some (.ref lo1), some (.ref lw1), u11, u12, u13] ∧ aI H7 Hy)
   ⟨_, _, _, rfl, aI.refl _⟩ (fun j σ Hy _ ⟨_, _, _, _, S⟩ => SqL.of (S _ _ hf7)) ?_ ?_⟩
  ·rintro j xv σ Hy hj ⟨u11, u12, u13, rfl, Sy⟩
   have hjl : j < vf.length := (List.getElem?_eq_some_iff.mp hj).1
   obtain ⟨d, ed⟩ : ∃ d, fs[j]? = some d := ⟨_, List.getElem?_eq_getElem (by omega)⟩
   obtain ⟨v, ev, iv⟩ := hif7.get ed
   rw [hj] at ev
   cases ev
   have md := List.mem_of_getElem? ed
   obtain ⟨z, g, e, rfl, hz, _⟩ := bJ (gf.all d md)
   obtain ⟨tr, rfl, o⟩ := jO iv
   have mz : z ∈ fs.map aK := List.mem_map.mpr ⟨_, md, rfl⟩
   refine ⟨tr, _, rfl, SqT.of (Sy _ _ o), rfl, _, _, rfl, _, _, rfl, _, _, rfl, rfl, ?_⟩
   refine ⟨_, rfl, _, rfl, _, rfl, _, rfl, _, rfl, _, rfl, lw1, _, rfl, .inl (SqL.of (Sy _ _ hlw)), rfl, cQ _, _, rfl, _, rfl, lb, _, rfl, .inl (SqL.of (Sy _ _ hlb7)), rfl, cQ _, aN rfl, fun tt htt => ?_⟩
   have e1 : inV (.str z) ((eX fs ds xs op wt n lv).map V.str) = uO (flo fs ds (jA ds xs op wt n lv) z) (bA fs z) lv (decide (z ∈ wt)) := (eS _ _).trans (aHI mz)
   have e2 : inV (.str z) (wt.map V.str) = decide (z ∈ wt) := eS _ _
   refine ⟨_, _, _, _, _, rfl, p, lo1, tt, fs, ds, jA ds xs op wt n lv, z, lv, decide (z ∈ wt), rfl, SA7.land.same (Sy.trans (aI.upd htt)), rfl, (Sy.trans (aI.upd htt)) _ _ hlo, SA7.lop, SA7.sub, rfl, hlv, rfl, mz, rfl, ?_, fun H8 S8 => ?_⟩
   ·rw [aB]
    show some (HO.tup [.bl (inV (.str z) ((eX fs ds xs op wt n lv).map V.str)), .bl (inV (.str z) (wt.map V.str))]) = _
    rw [e1, e2]
   ·exact ⟨_, rfl, bF ⟨_, _, _, rfl, Sy.trans ((aI.upd htt).trans S8)⟩⟩
  ·rintro σ Hy ⟨u11, u12, u13, rfl, Sy⟩
   exact ⟨_, rfl, _, _, _, _, _, _, _, lw1, _, _, _, _, rfl, SA7.same Sy, Sy _ _ hlw, fun b o e m1 m2 => Sy _ _ (Y7 _ _ e m1 m2)⟩
 ·rintro σ H' ⟨w7, w8, w9, w10, w11, w12, w13, lb, op, wt, n, ct, rfl, SA', hlb', Y⟩
  exact q _
theorem law_mk {fa : Addr} (hmg : mg "law" = some (.ref fa)) (T : Txt K mg C) :
  ∃ fd : FuncData, (∀ (s : Shared) (u : Value), BindsTo s fd ⟨[u], []⟩ [("_law_script", u)]) ∧ ∀ base : Heap, K.In base → base.Ns mainGlobals mg → FnOk P w K mg base CX0 13 fa fd ["_law_script"] (aBM K) := by
 obtain ⟨f, fd, F, b, m⟩ := T.d_p_law.ex
 rw [hmg] at m
 cases m
 refine ⟨fd, fun s u => ?_, fun base _ _ => aKJ T F⟩
 obtain ⟨oc, od, kV, doc, pm, an, cdv, ct, osl, rfl, lk, hcd⟩ := F.ex
 exact .of_eq rfl
end
theorem txt_mk {K : PySem.W.Frag} {h : Heap} {mg : Str → Option Value} (X : K.In h) (G : h.Ns mainGlobals mg)
    {C : Addr}
    {fm15 : Addr} {ocm15 kVm15 docm15 pmm15 cdm15 ctm15 : Value} {odm15 anm15 : Option Addr} {slm15 : Array (Option Value)}
    {fm16 : Addr} {ocm16 kVm16 docm16 pmm16 cdm16 ctm16 : Value} {odm16 anm16 : Option Addr} {slm16 : Array (Option Value)}
    {fm17 : Addr} {ocm17 kVm17 docm17 pmm17 cdm17 ctm17 : Value} {odm17 anm17 : Option Addr} {slm17 : Array (Option Value)}
    {fm18 : Addr} {ocm18 kVm18 docm18 pmm18 cdm18 ctm18 : Value} {odm18 anm18 : Option Addr} {slm18 : Array (Option Value)}
    {fm19 : Addr} {ocm19 kVm19 docm19 pmm19 cdm19 ctm19 : Value} {odm19 anm19 : Option Addr} {slm19 : Array (Option Value)}
    {fm20 : Addr} {ocm20 kVm20 docm20 pmm20 cdm20 ctm20 : Value} {odm20 anm20 : Option Addr} {slm20 : Array (Option Value)}
    {fm21 : Addr} {ocm21 kVm21 docm21 pmm21 cdm21 ctm21 : Value} {odm21 anm21 : Option Addr} {slm21 : Array (Option Value)}
    {fm22 : Addr} {ocm22 kVm22 docm22 pmm22 cdm22 ctm22 : Value} {odm22 anm22 : Option Addr} {slm22 : Array (Option Value)}
    {fm23 : Addr} {ocm23 kVm23 docm23 pmm23 cdm23 ctm23 : Value} {odm23 anm23 : Option Addr} {slm23 : Array (Option Value)}
    {fm24 : Addr} {ocm24 kVm24 docm24 pmm24 cdm24 ctm24 : Value} {odm24 anm24 : Option Addr} {slm24 : Array (Option Value)}
    {C_Season : Addr}
    {fm40 : Addr} {ocm40 kVm40 docm40 pmm40 cdm40 ctm40 : Value} {odm40 anm40 : Option Addr} {slm40 : Array (Option Value)}
    {fm41 : Addr} {ocm41 kVm41 docm41 pmm41 cdm41 ctm41 : Value} {odm41 anm41 : Option Addr} {slm41 : Array (Option Value)}
    {fm42 : Addr} {ocm42 kVm42 docm42 pmm42 cdm42 ctm42 : Value} {odm42 anm42 : Option Addr} {slm42 : Array (Option Value)}
    {fm43 : Addr} {ocm43 kVm43 docm43 pmm43 cdm43 ctm43 : Value} {odm43 anm43 : Option Addr} {slm43 : Array (Option Value)}
    {fm44 : Addr} {ocm44 kVm44 docm44 pmm44 cdm44 ctm44 : Value} {odm44 anm44 : Option Addr} {slm44 : Array (Option Value)}
    {fm45 : Addr} {ocm45 kVm45 docm45 pmm45 cdm45 ctm45 : Value} {odm45 anm45 : Option Addr} {slm45 : Array (Option Value)}
    {fm46 : Addr} {ocm46 kVm46 docm46 pmm46 cdm46 ctm46 : Value} {odm46 anm46 : Option Addr} {slm46 : Array (Option Value)}
    {fm47 : Addr} {ocm47 kVm47 docm47 pmm47 cdm47 ctm47 : Value} {odm47 anm47 : Option Addr} {slm47 : Array (Option Value)}
    {f0 : Addr} {oc0 kV0 doc0 pm0 cd0 ct0 : Value} {od0 an0 : Option Addr} {sl0 : Array (Option Value)}
    {f1 : Addr} {oc1 kV1 doc1 pm1 cd1 ct1 : Value} {od1 an1 : Option Addr} {sl1 : Array (Option Value)}
    {f2 : Addr} {oc2 kV2 doc2 pm2 cd2 ct2 : Value} {od2 an2 : Option Addr} {sl2 : Array (Option Value)}
    {f3 : Addr} {oc3 kV3 doc3 pm3 cd3 ct3 : Value} {od3 an3 : Option Addr} {sl3 : Array (Option Value)}
    {f4 : Addr} {oc4 kV4 doc4 pm4 cd4 ct4 : Value} {od4 an4 : Option Addr} {sl4 : Array (Option Value)}
    {f5 : Addr} {oc5 kV5 doc5 pm5 cd5 ct5 : Value} {od5 an5 : Option Addr} {sl5 : Array (Option Value)}
    {f6 : Addr} {oc6 kV6 doc6 pm6 cd6 ct6 : Value} {od6 an6 : Option Addr} {sl6 : Array (Option Value)}
    {f7 : Addr} {oc7 kV7 doc7 pm7 cd7 ct7 : Value} {od7 an7 : Option Addr} {sl7 : Array (Option Value)}
    {f8 : Addr} {oc8 kV8 doc8 pm8 cd8 ct8 : Value} {od8 an8 : Option Addr} {sl8 : Array (Option Value)}
    {f9 : Addr} {oc9 kV9 doc9 pm9 cd9 ct9 : Value} {od9 an9 : Option Addr} {sl9 : Array (Option Value)}
    {f10 : Addr} {oc10 kV10 doc10 pm10 cd10 ct10 : Value} {od10 an10 : Option Addr} {sl10 : Array (Option Value)}
    {f11 : Addr} {oc11 kV11 doc11 pm11 cd11 ct11 : Value} {od11 an11 : Option Addr} {sl11 : Array (Option Value)}
    {f12 : Addr} {oc12 kV12 doc12 pm12 cd12 ct12 : Value} {od12 an12 : Option Addr} {sl12 : Array (Option Value)}
    {f13 : Addr} {oc13 kV13 doc13 pm13 cd13 ct13 : Value} {od13 an13 : Option Addr} {sl13 : Array (Option Value)}
    {f14 : Addr} {oc14 kV14 doc14 pm14 cd14 ct14 : Value} {od14 an14 : Option Addr} {sl14 : Array (Option Value)}
    {f15 : Addr} {oc15 kV15 doc15 pm15 cd15 ct15 : Value} {od15 an15 : Option Addr} {sl15 : Array (Option Value)}
    {f16 : Addr} {oc16 kV16 doc16 pm16 cd16 ct16 : Value} {od16 an16 : Option Addr} {sl16 : Array (Option Value)}
    {f17 : Addr} {oc17 kV17 doc17 pm17 cd17 ct17 : Value} {od17 an17 : Option Addr} {sl17 : Array (Option Value)}
    {f18 : Addr} {oc18 kV18 doc18 pm18 cd18 ct18 : Value} {od18 an18 : Option Addr} {sl18 : Array (Option Value)}
    {f19 : Addr} {oc19 kV19 doc19 pm19 cd19 ct19 : Value} {od19 an19 : Option Addr} {sl19 : Array (Option Value)}
    {f20 : Addr} {oc20 kV20 doc20 pm20 cd20 ct20 : Value} {od20 an20 : Option Addr} {sl20 : Array (Option Value)}
    {f21 : Addr} {oc21 kV21 doc21 pm21 cd21 ct21 : Value} {od21 an21 : Option Addr} {sl21 : Array (Option Value)}
    {f22 : Addr} {oc22 kV22 doc22 pm22 cd22 ct22 : Value} {od22 an22 : Option Addr} {sl22 : Array (Option Value)}
    {f23 : Addr} {oc23 kV23 doc23 pm23 cd23 ct23 : Value} {od23 an23 : Option Addr} {sl23 : Array (Option Value)}
    {f24 : Addr} {oc24 kV24 doc24 pm24 cd24 ct24 : Value} {od24 an24 : Option Addr} {sl24 : Array (Option Value)}
    {f25 : Addr} {oc25 kV25 doc25 pm25 cd25 ct25 : Value} {od25 an25 : Option Addr} {sl25 : Array (Option Value)}
    {f26 : Addr} {oc26 kV26 doc26 pm26 cd26 ct26 : Value} {od26 an26 : Option Addr} {sl26 : Array (Option Value)}
    {f27 : Addr} {oc27 kV27 doc27 pm27 cd27 ct27 : Value} {od27 an27 : Option Addr} {sl27 : Array (Option Value)}
    {f28 : Addr} {oc28 kV28 doc28 pm28 cd28 ct28 : Value} {od28 an28 : Option Addr} {sl28 : Array (Option Value)}
    {f29 : Addr} {oc29 kV29 doc29 pm29 cd29 ct29 : Value} {od29 an29 : Option Addr} {sl29 : Array (Option Value)}
    {f30 : Addr} {oc30 kV30 doc30 pm30 cd30 ct30 : Value} {od30 an30 : Option Addr} {sl30 : Array (Option Value)}
    {f31 : Addr} {oc31 kV31 doc31 pm31 cd31 ct31 : Value} {od31 an31 : Option Addr} {sl31 : Array (Option Value)}
    {f32 : Addr} {oc32 kV32 doc32 pm32 cd32 ct32 : Value} {od32 an32 : Option Addr} {sl32 : Array (Option Value)}
    {f33 : Addr} {oc33 kV33 doc33 pm33 cd33 ct33 : Value} {od33 an33 : Option Addr} {sl33 : Array (Option Value)}
    {f34 : Addr} {oc34 kV34 doc34 pm34 cd34 ct34 : Value} {od34 an34 : Option Addr} {sl34 : Array (Option Value)}
    {f35 : Addr} {oc35 kV35 doc35 pm35 cd35 ct35 : Value} {od35 an35 : Option Addr} {sl35 : Array (Option Value)}
    {f36 : Addr} {oc36 kV36 doc36 pm36 cd36 ct36 : Value} {od36 an36 : Option Addr} {sl36 : Array (Option Value)}
    {f37 : Addr} {oc37 kV37 doc37 pm37 cd37 ct37 : Value} {od37 an37 : Option Addr} {sl37 : Array (Option Value)}
    {f38 : Addr} {oc38 kV38 doc38 pm38 cd38 ct38 : Value} {od38 an38 : Option Addr} {sl38 : Array (Option Value)}
    {f39 : Addr} {oc39 kV39 doc39 pm39 cd39 ct39 : Value} {od39 an39 : Option Addr} {sl39 : Array (Option Value)}
    {f40 : Addr} {oc40 kV40 doc40 pm40 cd40 ct40 : Value} {od40 an40 : Option Addr} {sl40 : Array (Option Value)}
    {f41 : Addr} {oc41 kV41 doc41 pm41 cd41 ct41 : Value} {od41 an41 : Option Addr} {sl41 : Array (Option Value)}
    {f42 : Addr} {oc42 kV42 doc42 pm42 cd42 ct42 : Value} {od42 an42 : Option Addr} {sl42 : Array (Option Value)}
    {f43 : Addr} {oc43 kV43 doc43 pm43 cd43 ct43 : Value} {od43 an43 : Option Addr} {sl43 : Array (Option Value)}
    {f44 : Addr} {oc44 kV44 doc44 pm44 cd44 ct44 : Value} {od44 an44 : Option Addr} {sl44 : Array (Option Value)}
    {f45 : Addr} {oc45 kV45 doc45 pm45 cd45 ct45 : Value} {od45 an45 : Option Addr} {sl45 : Array (Option Value)}
    {at0 : Addr} {otd0 : Option Addr} {its0 : Array Value} {nnt0 : Nat} {slt0 : Array (Option Value)}
    {at1 : Addr} {otd1 : Option Addr} {its1 : Array Value} {nnt1 : Nat} {slt1 : Array (Option Value)}
    {at2 : Addr} {otd2 : Option Addr} {its2 : Array Value} {nnt2 : Nat} {slt2 : Array (Option Value)}
    {u0 : Value}
    {u1 : Value}
    {u2 : Value}
    {u3 : Value}
    {u4 : Value}
    {u5 : Value}
    {u6 : Value}
    {u7 : Value}
    {u8 : Value}
    {u9 : Value}
    (aC : PySem.W.nsIn K mainGlobals "Land" = some (some (.ref C))) (pgC : PySem.W.plainGet K C Str.empty = true) (hdC : PySem.W.hasDictIn K C = true) (poC : PySem.W.plainOver K C = true) (saC : PySem.W.findIn K (.ref C) "__setattr__" = some (some (.builtin "object.__setattr__"))) (mkC : PySem.W.makesIn K C = true) (kpC : PySem.W.keepIn K (.ref C) = true)
    (n_field_rows : PySem.W.findIn K (.ref C) "field_rows" = some none)
    (n_dyke_rows : PySem.W.findIn K (.ref C) "dyke_rows" = some none)
    (ma15 : PySem.W.findIn K (.ref C) "__init__" = some (some (.ref fm15))) (mi15 : PySem.W.isFn K (.ref fm15) = true) (ml15 : K.lookup fm15 = some ⟨ocm15, odm15, .func (PySem.W.fnOf "__init__" "Land.__init__" (aM hW) (aL hW) (aF hW) .none kVm15 docm15 pmm15 anm15 cdm15 ctm15), slm15⟩) (mc15 : PySem.W.codeIn K cdm15 "Land.__init__" = true) (mk15 : PySem.W.keepIn K (.ref fm15) = true)
    (ma16 : PySem.W.findIn K (.ref C) "fields" = some (some (.ref fm16))) (mi16 : PySem.W.isFn K (.ref fm16) = true) (ml16 : K.lookup fm16 = some ⟨ocm16, odm16, .func (PySem.W.fnOf "fields" "Land.fields" (aM gP) (aL gP) (aF gP) .none kVm16 docm16 pmm16 anm16 cdm16 ctm16), slm16⟩) (mc16 : PySem.W.codeIn K cdm16 "Land.fields" = true) (mk16 : PySem.W.keepIn K (.ref fm16) = true)
    (ma17 : PySem.W.findIn K (.ref C) "dykes" = some (some (.ref fm17))) (mi17 : PySem.W.isFn K (.ref fm17) = true) (ml17 : K.lookup fm17 = some ⟨ocm17, odm17, .func (PySem.W.fnOf "dykes" "Land.dykes" (aM fL) (aL fL) (aF fL) .none kVm17 docm17 pmm17 anm17 cdm17 ctm17), slm17⟩) (mc17 : PySem.W.codeIn K cdm17 "Land.dykes" = true) (mk17 : PySem.W.keepIn K (.ref fm17) = true)
    (ma18 : PySem.W.findIn K (.ref C) "field_names" = some (some (.ref fm18))) (mi18 : PySem.W.isFn K (.ref fm18) = true) (ml18 : K.lookup fm18 = some ⟨ocm18, odm18, .func (PySem.W.fnOf "field_names" "Land.field_names" (aM cS) (aL cS) (aF cS) .none kVm18 docm18 pmm18 anm18 cdm18 ctm18), slm18⟩) (mc18 : PySem.W.codeIn K cdm18 "Land.field_names" = true) (mk18 : PySem.W.keepIn K (.ref fm18) = true)
    (ma19 : PySem.W.findIn K (.ref C) "dyke_names" = some (some (.ref fm19))) (mi19 : PySem.W.isFn K (.ref fm19) = true) (ml19 : K.lookup fm19 = some ⟨ocm19, odm19, .func (PySem.W.fnOf "dyke_names" "Land.dyke_names" (aM eF) (aL eF) (aF eF) .none kVm19 docm19 pmm19 anm19 cdm19 ctm19), slm19⟩) (mc19 : PySem.W.codeIn K cdm19 "Land.dyke_names" = true) (mk19 : PySem.W.keepIn K (.ref fm19) = true)
    (ma20 : PySem.W.findIn K (.ref C) "sluices" = some (some (.ref fm20))) (mi20 : PySem.W.isFn K (.ref fm20) = true) (ml20 : K.lookup fm20 = some ⟨ocm20, odm20, .func (PySem.W.fnOf "sluices" "Land.sluices" (aM eK) (aL eK) (aF eK) .none kVm20 docm20 pmm20 anm20 cdm20 ctm20), slm20⟩) (mc20 : PySem.W.codeIn K cdm20 "Land.sluices" = true) (mk20 : PySem.W.keepIn K (.ref fm20) = true)
    (ma21 : PySem.W.findIn K (.ref C) "ground" = some (some (.ref fm21))) (mi21 : PySem.W.isFn K (.ref fm21) = true) (ml21 : K.lookup fm21 = some ⟨ocm21, odm21, .func (PySem.W.fnOf "ground" "Land.ground" (aM eV) (aL eV) (aF eV) .none kVm21 docm21 pmm21 anm21 cdm21 ctm21), slm21⟩) (mc21 : PySem.W.codeIn K cdm21 "Land.ground" = true) (mk21 : PySem.W.keepIn K (.ref fm21) = true)
    (ma22 : PySem.W.findIn K (.ref C) "dues" = some (some (.ref fm22))) (mi22 : PySem.W.isFn K (.ref fm22) = true) (ml22 : K.lookup fm22 = some ⟨ocm22, odm22, .func (PySem.W.fnOf "dues" "Land.dues" (aM iM) (aL iM) (aF iM) .none kVm22 docm22 pmm22 anm22 cdm22 ctm22), slm22⟩) (mc22 : PySem.W.codeIn K cdm22 "Land.dues" = true) (mk22 : PySem.W.keepIn K (.ref fm22) = true)
    (ma23 : PySem.W.findIn K (.ref C) "dyke" = some (some (.ref fm23))) (mi23 : PySem.W.isFn K (.ref fm23) = true) (ml23 : K.lookup fm23 = some ⟨ocm23, odm23, .func (PySem.W.fnOf "dyke" "Land.dyke" (aM gH) (aL gH) (aF gH) .none kVm23 docm23 pmm23 anm23 cdm23 ctm23), slm23⟩) (mc23 : PySem.W.codeIn K cdm23 "Land.dyke" = true) (mk23 : PySem.W.keepIn K (.ref fm23) = true)
    (ma24 : PySem.W.findIn K (.ref C) "raised" = some (some (.ref fm24))) (mi24 : PySem.W.isFn K (.ref fm24) = true) (ml24 : K.lookup fm24 = some ⟨ocm24, odm24, .func (PySem.W.fnOf "raised" "Land.raised" (aM gO) (aL gO) (aF gO) .none kVm24 docm24 pmm24 anm24 cdm24 ctm24), slm24⟩) (mc24 : PySem.W.codeIn K cdm24 "Land.raised" = true) (mk24 : PySem.W.keepIn K (.ref fm24) = true)
    (aCSeason : PySem.W.nsIn K mainGlobals "Season" = some (some (.ref C_Season))) (pgCSeason : PySem.W.plainGet K C_Season Str.empty = true) (hdCSeason : PySem.W.hasDictIn K C_Season = true) (poCSeason : PySem.W.plainOver K C_Season = true) (saCSeason : PySem.W.findIn K (.ref C_Season) "__setattr__" = some (some (.builtin "object.__setattr__"))) (mkCSeason : PySem.W.makesIn K C_Season = true) (kpCSeason : PySem.W.keepIn K (.ref C_Season) = true)
    (nSeason_on_land : PySem.W.findIn K (.ref C_Season) "on_land" = some none)
    (nSeason_own_decrees : PySem.W.findIn K (.ref C_Season) "own_decrees" = some none)
    (nSeason_open_names : PySem.W.findIn K (.ref C_Season) "open_names" = some none)
    (nSeason_wet_names : PySem.W.findIn K (.ref C_Season) "wet_names" = some none)
    (nSeason_day_count : PySem.W.findIn K (.ref C_Season) "day_count" = some none)
    (nSeason_wet_counts : PySem.W.findIn K (.ref C_Season) "wet_counts" = some none)
    (ma40 : PySem.W.findIn K (.ref C_Season) "__init__" = some (some (.ref fm40))) (mi40 : PySem.W.isFn K (.ref fm40) = true) (ml40 : K.lookup fm40 = some ⟨ocm40, odm40, .func (PySem.W.fnOf "__init__" "Season.__init__" (aM fD) (aL fD) (aF fD) .none kVm40 docm40 pmm40 anm40 cdm40 ctm40), slm40⟩) (mc40 : PySem.W.codeIn K cdm40 "Season.__init__" = true) (mk40 : PySem.W.keepIn K (.ref fm40) = true)
    (ma41 : PySem.W.findIn K (.ref C_Season) "day" = some (some (.ref fm41))) (mi41 : PySem.W.isFn K (.ref fm41) = true) (ml41 : K.lookup fm41 = some ⟨ocm41, odm41, .func (PySem.W.fnOf "day" "Season.day" (aM fF) (aL fF) (aF fF) .none kVm41 docm41 pmm41 anm41 cdm41 ctm41), slm41⟩) (mc41 : PySem.W.codeIn K cdm41 "Season.day" = true) (mk41 : PySem.W.keepIn K (.ref fm41) = true)
    (ma42 : PySem.W.findIn K (.ref C_Season) "days" = some (some (.ref fm42))) (mi42 : PySem.W.isFn K (.ref fm42) = true) (ml42 : K.lookup fm42 = some ⟨ocm42, odm42, .func (PySem.W.fnOf "days" "Season.days" (aM gN) (aL gN) (aF gN) .none kVm42 docm42 pmm42 anm42 cdm42 ctm42), slm42⟩) (mc42 : PySem.W.codeIn K cdm42 "Season.days" = true) (mk42 : PySem.W.keepIn K (.ref fm42) = true)
    (ma43 : PySem.W.findIn K (.ref C_Season) "opened" = some (some (.ref fm43))) (mi43 : PySem.W.isFn K (.ref fm43) = true) (ml43 : K.lookup fm43 = some ⟨ocm43, odm43, .func (PySem.W.fnOf "opened" "Season.opened" (aM dW) (aL dW) (aF dW) .none kVm43 docm43 pmm43 anm43 cdm43 ctm43), slm43⟩) (mc43 : PySem.W.codeIn K cdm43 "Season.opened" = true) (mk43 : PySem.W.keepIn K (.ref fm43) = true)
    (ma44 : PySem.W.findIn K (.ref C_Season) "wet" = some (some (.ref fm44))) (mi44 : PySem.W.isFn K (.ref fm44) = true) (ml44 : K.lookup fm44 = some ⟨ocm44, odm44, .func (PySem.W.fnOf "wet" "Season.wet" (aM fE) (aL fE) (aF fE) .none kVm44 docm44 pmm44 anm44 cdm44 ctm44), slm44⟩) (mc44 : PySem.W.codeIn K cdm44 "Season.wet" = true) (mk44 : PySem.W.keepIn K (.ref fm44) = true)
    (ma45 : PySem.W.findIn K (.ref C_Season) "count" = some (some (.ref fm45))) (mi45 : PySem.W.isFn K (.ref fm45) = true) (ml45 : K.lookup fm45 = some ⟨ocm45, odm45, .func (PySem.W.fnOf "count" "Season.count" (aM fQ) (aL fQ) (aF fQ) .none kVm45 docm45 pmm45 anm45 cdm45 ctm45), slm45⟩) (mc45 : PySem.W.codeIn K cdm45 "Season.count" = true) (mk45 : PySem.W.keepIn K (.ref fm45) = true)
    (ma46 : PySem.W.findIn K (.ref C_Season) "wet_days" = some (some (.ref fm46))) (mi46 : PySem.W.isFn K (.ref fm46) = true) (ml46 : K.lookup fm46 = some ⟨ocm46, odm46, .func (PySem.W.fnOf "wet_days" "Season.wet_days" (aM eE) (aL eE) (aF eE) .none kVm46 docm46 pmm46 anm46 cdm46 ctm46), slm46⟩) (mc46 : PySem.W.codeIn K cdm46 "Season.wet_days" = true) (mk46 : PySem.W.keepIn K (.ref fm46) = true)
    (ma47 : PySem.W.findIn K (.ref C_Season) "onto" = some (some (.ref fm47))) (mi47 : PySem.W.isFn K (.ref fm47) = true) (ml47 : K.lookup fm47 = some ⟨ocm47, odm47, .func (PySem.W.fnOf "onto" "Season.onto" (aM gM) (aL gM) (aF gM) .none kVm47 docm47 pmm47 anm47 cdm47 ctm47), slm47⟩) (mc47 : PySem.W.codeIn K cdm47 "Season.onto" = true) (mk47 : PySem.W.keepIn K (.ref fm47) = true)
    (a0 : PySem.W.nsIn K mainGlobals "_wall" = some (some (.ref f0))) (l0 : K.lookup f0 = some ⟨oc0, od0, .func (PySem.W.fnOf "_wall" "_wall" (aM pF) (aL pF) (aF pF) .none kV0 doc0 pm0 an0 cd0 ct0), sl0⟩) (c0 : PySem.W.codeIn K cd0 "_wall" = true) (k0 : PySem.W.keepIn K (.ref f0) = true)
    (a1 : PySem.W.nsIn K mainGlobals "is_whole" = some (some (.ref f1))) (l1 : K.lookup f1 = some ⟨oc1, od1, .func (PySem.W.fnOf "is_whole" "is_whole" (aM hU) (aL hU) (aF hU) .none kV1 doc1 pm1 an1 cd1 ct1), sl1⟩) (c1 : PySem.W.codeIn K cd1 "is_whole" = true) (k1 : PySem.W.keepIn K (.ref f1) = true)
    (a2 : PySem.W.nsIn K mainGlobals "is_name" = some (some (.ref f2))) (l2 : K.lookup f2 = some ⟨oc2, od2, .func (PySem.W.fnOf "is_name" "is_name" (aM iS) (aL iS) (aF iS) .none kV2 doc2 pm2 an2 cd2 ct2), sl2⟩) (c2 : PySem.W.codeIn K cd2 "is_name" = true) (k2 : PySem.W.keepIn K (.ref f2) = true)
    (a3 : PySem.W.nsIn K mainGlobals "is_height" = some (some (.ref f3))) (l3 : K.lookup f3 = some ⟨oc3, od3, .func (PySem.W.fnOf "is_height" "is_height" (aM gA) (aL gA) (aF gA) .none kV3 doc3 pm3 an3 cd3 ct3), sl3⟩) (c3 : PySem.W.codeIn K cd3 "is_height" = true) (k3 : PySem.W.keepIn K (.ref f3) = true)
    (a4 : PySem.W.nsIn K mainGlobals "is_amount" = some (some (.ref f4))) (l4 : K.lookup f4 = some ⟨oc4, od4, .func (PySem.W.fnOf "is_amount" "is_amount" (aM gD) (aL gD) (aF gD) .none kV4 doc4 pm4 an4 cd4 ct4), sl4⟩) (c4 : PySem.W.codeIn K cd4 "is_amount" = true) (k4 : PySem.W.keepIn K (.ref f4) = true)
    (a5 : PySem.W.nsIn K mainGlobals "is_one_of" = some (some (.ref f5))) (l5 : K.lookup f5 = some ⟨oc5, od5, .func (PySem.W.fnOf "is_one_of" "is_one_of" (aM fZ) (aL fZ) (aF fZ) .none kV5 doc5 pm5 an5 cd5 ct5), sl5⟩) (c5 : PySem.W.codeIn K cd5 "is_one_of" = true) (k5 : PySem.W.keepIn K (.ref f5) = true)
    (a6 : PySem.W.nsIn K mainGlobals "is_list_of" = some (some (.ref f6))) (l6 : K.lookup f6 = some ⟨oc6, od6, .func (PySem.W.fnOf "is_list_of" "is_list_of" (aM fJ) (aL fJ) (aF fJ) .none kV6 doc6 pm6 an6 cd6 ct6), sl6⟩) (c6 : PySem.W.codeIn K cd6 "is_list_of" = true) (k6 : PySem.W.keepIn K (.ref f6) = true)
    (a7 : PySem.W.nsIn K mainGlobals "is_tuple_of" = some (some (.ref f7))) (l7 : K.lookup f7 = some ⟨oc7, od7, .func (PySem.W.fnOf "is_tuple_of" "is_tuple_of" (aM eT) (aL eT) (aF eT) .none kV7 doc7 pm7 an7 cd7 ct7), sl7⟩) (c7 : PySem.W.codeIn K cd7 "is_tuple_of" = true) (k7 : PySem.W.keepIn K (.ref f7) = true)
    (a8 : PySem.W.nsIn K mainGlobals "none_twice" = some (some (.ref f8))) (l8 : K.lookup f8 = some ⟨oc8, od8, .func (PySem.W.fnOf "none_twice" "none_twice" (aM fI) (aL fI) (aF fI) .none kV8 doc8 pm8 an8 cd8 ct8), sl8⟩) (c8 : PySem.W.codeIn K cd8 "none_twice" = true) (k8 : PySem.W.keepIn K (.ref f8) = true)
    (a9 : PySem.W.nsIn K mainGlobals "is_field" = some (some (.ref f9))) (l9 : K.lookup f9 = some ⟨oc9, od9, .func (PySem.W.fnOf "is_field" "is_field" (aM hV) (aL hV) (aF hV) .none kV9 doc9 pm9 an9 cd9 ct9), sl9⟩) (c9 : PySem.W.codeIn K cd9 "is_field" = true) (k9 : PySem.W.keepIn K (.ref f9) = true)
    (a10 : PySem.W.nsIn K mainGlobals "are_fields" = some (some (.ref f10))) (l10 : K.lookup f10 = some ⟨oc10, od10, .func (PySem.W.fnOf "are_fields" "are_fields" (aM fK) (aL fK) (aF fK) .none kV10 doc10 pm10 an10 cd10 ct10), sl10⟩) (c10 : PySem.W.codeIn K cd10 "are_fields" = true) (k10 : PySem.W.keepIn K (.ref f10) = true)
    (a11 : PySem.W.nsIn K mainGlobals "are_sides" = some (some (.ref f11))) (l11 : K.lookup f11 = some ⟨oc11, od11, .func (PySem.W.fnOf "are_sides" "are_sides" (aM gE) (aL gE) (aF gE) .none kV11 doc11 pm11 an11 cd11 ct11), sl11⟩) (c11 : PySem.W.codeIn K cd11 "are_sides" = true) (k11 : PySem.W.keepIn K (.ref f11) = true)
    (a12 : PySem.W.nsIn K mainGlobals "is_sill" = some (some (.ref f12))) (l12 : K.lookup f12 = some ⟨oc12, od12, .func (PySem.W.fnOf "is_sill" "is_sill" (aM iR) (aL iR) (aF iR) .none kV12 doc12 pm12 an12 cd12 ct12), sl12⟩) (c12 : PySem.W.codeIn K cd12 "is_sill" = true) (k12 : PySem.W.keepIn K (.ref f12) = true)
    (a13 : PySem.W.nsIn K mainGlobals "is_dyke" = some (some (.ref f13))) (l13 : K.lookup f13 = some ⟨oc13, od13, .func (PySem.W.fnOf "is_dyke" "is_dyke" (aM iT) (aL iT) (aF iT) .none kV13 doc13 pm13 an13 cd13 ct13), sl13⟩) (c13 : PySem.W.codeIn K cd13 "is_dyke" = true) (k13 : PySem.W.keepIn K (.ref f13) = true)
    (a14 : PySem.W.nsIn K mainGlobals "are_dykes" = some (some (.ref f14))) (l14 : K.lookup f14 = some ⟨oc14, od14, .func (PySem.W.fnOf "are_dykes" "are_dykes" (aM gG) (aL gG) (aF gG) .none kV14 doc14 pm14 an14 cd14 ct14), sl14⟩) (c14 : PySem.W.codeIn K cd14 "are_dykes" = true) (k14 : PySem.W.keepIn K (.ref f14) = true)
    (a15 : PySem.W.nsIn K mainGlobals "check_sluices" = some (some (.ref f15))) (l15 : K.lookup f15 = some ⟨oc15, od15, .func (PySem.W.fnOf "check_sluices" "check_sluices" (aM dY) (aL dY) (aF dY) .none kV15 doc15 pm15 an15 cd15 ct15), sl15⟩) (c15 : PySem.W.codeIn K cd15 "check_sluices" = true) (k15 : PySem.W.keepIn K (.ref f15) = true)
    (a16 : PySem.W.nsIn K mainGlobals "stands" = some (some (.ref f16))) (l16 : K.lookup f16 = some ⟨oc16, od16, .func (PySem.W.fnOf "stands" "stands" (aM jU) (aL jU) (aF jU) .none kV16 doc16 pm16 an16 cd16 ct16), sl16⟩) (c16 : PySem.W.codeIn K cd16 "stands" = true) (k16 : PySem.W.keepIn K (.ref f16) = true)
    (a17 : PySem.W.nsIn K mainGlobals "steps_inland" = some (some (.ref f17))) (l17 : K.lookup f17 = some ⟨oc17, od17, .func (PySem.W.fnOf "steps_inland" "steps_inland" (aM eI) (aL eI) (aF eI) .none kV17 doc17 pm17 an17 cd17 ct17), sl17⟩) (c17 : PySem.W.codeIn K cd17 "steps_inland" = true) (k17 : PySem.W.keepIn K (.ref f17) = true)
    (a18 : PySem.W.nsIn K mainGlobals "flood_heights" = some (some (.ref f18))) (l18 : K.lookup f18 = some ⟨oc18, od18, .func (PySem.W.fnOf "flood_heights" "flood_heights" (aM dX) (aL dX) (aF dX) .none kV18 doc18 pm18 an18 cd18 ct18), sl18⟩) (c18 : PySem.W.codeIn K cd18 "flood_heights" = true) (k18 : PySem.W.keepIn K (.ref f18) = true)
    (a19 : PySem.W.nsIn K mainGlobals "is_day_of" = some (some (.ref f19))) (l19 : K.lookup f19 = some ⟨oc19, od19, .func (PySem.W.fnOf "is_day_of" "is_day_of" (aM gC) (aL gC) (aF gC) .none kV19 doc19 pm19 an19 cd19 ct19), sl19⟩) (c19 : PySem.W.codeIn K cd19 "is_day_of" = true) (k19 : PySem.W.keepIn K (.ref f19) = true)
    (a20 : PySem.W.nsIn K mainGlobals "is_condition" = some (some (.ref f20))) (l20 : K.lookup f20 = some ⟨oc20, od20, .func (PySem.W.fnOf "is_condition" "is_condition" (aM eJ) (aL eJ) (aF eJ) .none kV20 doc20 pm20 an20 cd20 ct20), sl20⟩) (c20 : PySem.W.codeIn K cd20 "is_condition" = true) (k20 : PySem.W.keepIn K (.ref f20) = true)
    (a21 : PySem.W.nsIn K mainGlobals "is_decree" = some (some (.ref f21))) (l21 : K.lookup f21 = some ⟨oc21, od21, .func (PySem.W.fnOf "is_decree" "is_decree" (aM gB) (aL gB) (aF gB) .none kV21 doc21 pm21 an21 cd21 ct21), sl21⟩) (c21 : PySem.W.codeIn K cd21 "is_decree" = true) (k21 : PySem.W.keepIn K (.ref f21) = true)
    (a22 : PySem.W.nsIn K mainGlobals "are_decrees" = some (some (.ref f22))) (l22 : K.lookup f22 = some ⟨oc22, od22, .func (PySem.W.fnOf "are_decrees" "are_decrees" (aM eU) (aL eU) (aF eU) .none kV22 doc22 pm22 an22 cd22 ct22), sl22⟩) (c22 : PySem.W.codeIn K cd22 "are_decrees" = true) (k22 : PySem.W.keepIn K (.ref f22) = true)
    (a23 : PySem.W.nsIn K mainGlobals "check_decrees" = some (some (.ref f23))) (l23 : K.lookup f23 = some ⟨oc23, od23, .func (PySem.W.fnOf "check_decrees" "check_decrees" (aM dZ) (aL dZ) (aF dZ) .none kV23 doc23 pm23 an23 cd23 ct23), sl23⟩) (c23 : PySem.W.codeIn K cd23 "check_decrees" = true) (k23 : PySem.W.keepIn K (.ref f23) = true)
    (a24 : PySem.W.nsIn K mainGlobals "copied" = some (some (.ref f24))) (l24 : K.lookup f24 = some ⟨oc24, od24, .func (PySem.W.fnOf "copied" "copied" (aM jX) (aL jX) (aF jX) .none kV24 doc24 pm24 an24 cd24 ct24), sl24⟩) (c24 : PySem.W.codeIn K cd24 "copied" = true) (k24 : PySem.W.keepIn K (.ref f24) = true)
    (a25 : PySem.W.nsIn K mainGlobals "condition_holds" = some (some (.ref f25))) (l25 : K.lookup f25 = some ⟨oc25, od25, .func (PySem.W.fnOf "condition_holds" "condition_holds" (aM dA) (aL dA) (aF dA) .none kV25 doc25 pm25 an25 cd25 ct25), sl25⟩) (c25 : PySem.W.codeIn K cd25 "condition_holds" = true) (k25 : PySem.W.keepIn K (.ref f25) = true)
    (a26 : PySem.W.nsIn K mainGlobals "holds" = some (some (.ref f26))) (l26 : K.lookup f26 = some ⟨oc26, od26, .func (PySem.W.fnOf "holds" "holds" (aM lB) (aL lB) (aF lB) .none kV26 doc26 pm26 an26 cd26 ct26), sl26⟩) (c26 : PySem.W.codeIn K cd26 "holds" = true) (k26 : PySem.W.keepIn K (.ref f26) = true)
    (a27 : PySem.W.nsIn K mainGlobals "opened_by" = some (some (.ref f27))) (l27 : K.lookup f27 = some ⟨oc27, od27, .func (PySem.W.fnOf "opened_by" "opened_by" (aM fY) (aL fY) (aF fY) .none kV27 doc27 pm27 an27 cd27 ct27), sl27⟩) (c27 : PySem.W.codeIn K cd27 "opened_by" = true) (k27 : PySem.W.keepIn K (.ref f27) = true)
    (a28 : PySem.W.nsIn K mainGlobals "is_wet" = some (some (.ref f28))) (l28 : K.lookup f28 = some ⟨oc28, od28, .func (PySem.W.fnOf "is_wet" "is_wet" (aM jW) (aL jW) (aF jW) .none kV28 doc28 pm28 an28 cd28 ct28), sl28⟩) (c28 : PySem.W.codeIn K cd28 "is_wet" = true) (k28 : PySem.W.keepIn K (.ref f28) = true)
    (a29 : PySem.W.nsIn K mainGlobals "wet_fields" = some (some (.ref f29))) (l29 : K.lookup f29 = some ⟨oc29, od29, .func (PySem.W.fnOf "wet_fields" "wet_fields" (aM fG) (aL fG) (aF fG) .none kV29 doc29 pm29 an29 cd29 ct29), sl29⟩) (c29 : PySem.W.codeIn K cd29 "wet_fields" = true) (k29 : PySem.W.keepIn K (.ref f29) = true)
    (a30 : PySem.W.nsIn K mainGlobals "spread" = some (some (.ref f30))) (l30 : K.lookup f30 = some ⟨oc30, od30, .func (PySem.W.fnOf "spread" "spread" (aM jV) (aL jV) (aF jV) .none kV30 doc30 pm30 an30 cd30 ct30), sl30⟩) (c30 : PySem.W.codeIn K cd30 "spread" = true) (k30 : PySem.W.keepIn K (.ref f30) = true)
    (a31 : PySem.W.nsIn K mainGlobals "path_to" = some (some (.ref f31))) (l31 : K.lookup f31 = some ⟨oc31, od31, .func (PySem.W.fnOf "path_to" "path_to" (aM iQ) (aL iQ) (aF iQ) .none kV31 doc31 pm31 an31 cd31 ct31), sl31⟩) (c31 : PySem.W.codeIn K cd31 "path_to" = true) (k31 : PySem.W.keepIn K (.ref f31) = true)
    (a32 : PySem.W.nsIn K mainGlobals "way_to" = some (some (.ref f32))) (l32 : K.lookup f32 = some ⟨oc32, od32, .func (PySem.W.fnOf "way_to" "way_to" (aM jT) (aL jT) (aF jT) .none kV32 doc32 pm32 an32 cd32 ct32), sl32⟩) (c32 : PySem.W.codeIn K cd32 "way_to" = true) (k32 : PySem.W.keepIn K (.ref f32) = true)
    (a33 : PySem.W.nsIn K mainGlobals "ring_round" = some (some (.ref f33))) (l33 : K.lookup f33 = some ⟨oc33, od33, .func (PySem.W.fnOf "ring_round" "ring_round" (aM fH) (aL fH) (aF fH) .none kV33 doc33 pm33 an33 cd33 ct33), sl33⟩) (c33 : PySem.W.codeIn K cd33 "ring_round" = true) (k33 : PySem.W.keepIn K (.ref f33) = true)
    (a34 : PySem.W.nsIn K mainGlobals "_law_mixed" = some (some (.ref f34))) (l34 : K.lookup f34 = some ⟨oc34, od34, .func (PySem.W.fnOf "_law_mixed" "_law_mixed" (aM lD) (aL lD) (aF lD) .none kV34 doc34 pm34 an34 cd34 ct34), sl34⟩) (c34 : PySem.W.codeIn K cd34 "_law_mixed" = true) (k34 : PySem.W.keepIn K (.ref f34) = true)
    (a35 : PySem.W.nsIn K mainGlobals "_law_names" = some (some (.ref f35))) (l35 : K.lookup f35 = some ⟨oc35, od35, .func (PySem.W.fnOf "_law_names" "_law_names" (aM lC) (aL lC) (aF lC) .none kV35 doc35 pm35 an35 cd35 ct35), sl35⟩) (c35 : PySem.W.codeIn K cd35 "_law_names" = true) (k35 : PySem.W.keepIn K (.ref f35) = true)
    (a36 : PySem.W.nsIn K mainGlobals "_law_height" = some (some (.ref f36))) (l36 : K.lookup f36 = some ⟨oc36, od36, .func (PySem.W.fnOf "_law_height" "_law_height" (aM jZ) (aL jZ) (aF jZ) .none kV36 doc36 pm36 an36 cd36 ct36), sl36⟩) (c36 : PySem.W.codeIn K cd36 "_law_height" = true) (k36 : PySem.W.keepIn K (.ref f36) = true)
    (a37 : PySem.W.nsIn K mainGlobals "_law_fields" = some (some (.ref f37))) (l37 : K.lookup f37 = some ⟨oc37, od37, .func (PySem.W.fnOf "_law_fields" "_law_fields" (aM kA) (aL kA) (aF kA) .none kV37 doc37 pm37 an37 cd37 ct37), sl37⟩) (c37 : PySem.W.codeIn K cd37 "_law_fields" = true) (k37 : PySem.W.keepIn K (.ref f37) = true)
    (a38 : PySem.W.nsIn K mainGlobals "_law_dykes" = some (some (.ref f38))) (l38 : K.lookup f38 = some ⟨oc38, od38, .func (PySem.W.fnOf "_law_dykes" "_law_dykes" (aM lE) (aL lE) (aF lE) .none kV38 doc38 pm38 an38 cd38 ct38), sl38⟩) (c38 : PySem.W.codeIn K cd38 "_law_dykes" = true) (k38 : PySem.W.keepIn K (.ref f38) = true)
    (a39 : PySem.W.nsIn K mainGlobals "_law_stands" = some (some (.ref f39))) (l39 : K.lookup f39 = some ⟨oc39, od39, .func (PySem.W.fnOf "_law_stands" "_law_stands" (aM jY) (aL jY) (aF jY) .none kV39 doc39 pm39 an39 cd39 ct39), sl39⟩) (c39 : PySem.W.codeIn K cd39 "_law_stands" = true) (k39 : PySem.W.keepIn K (.ref f39) = true)
    (a40 : PySem.W.nsIn K mainGlobals "_law_decrees" = some (some (.ref f40))) (l40 : K.lookup f40 = some ⟨oc40, od40, .func (PySem.W.fnOf "_law_decrees" "_law_decrees" (aM iU) (aL iU) (aF iU) .none kV40 doc40 pm40 an40 cd40 ct40), sl40⟩) (c40 : PySem.W.codeIn K cd40 "_law_decrees" = true) (k40 : PySem.W.keepIn K (.ref f40) = true)
    (a41 : PySem.W.nsIn K mainGlobals "_law_condition" = some (some (.ref f41))) (l41 : K.lookup f41 = some ⟨oc41, od41, .func (PySem.W.fnOf "_law_condition" "_law_condition" (aM gI) (aL gI) (aF gI) .none kV41 doc41 pm41 an41 cd41 ct41), sl41⟩) (c41 : PySem.W.codeIn K cd41 "_law_condition" = true) (k41 : PySem.W.keepIn K (.ref f41) = true)
    (a42 : PySem.W.nsIn K mainGlobals "_law_way" = some (some (.ref f42))) (l42 : K.lookup f42 = some ⟨oc42, od42, .func (PySem.W.fnOf "_law_way" "_law_way" (aM pG) (aL pG) (aF pG) .none kV42 doc42 pm42 an42 cd42 ct42), sl42⟩) (c42 : PySem.W.codeIn K cd42 "_law_way" = true) (k42 : PySem.W.keepIn K (.ref f42) = true)
    (a43 : PySem.W.nsIn K mainGlobals "_law_ring" = some (some (.ref f43))) (l43 : K.lookup f43 = some ⟨oc43, od43, .func (PySem.W.fnOf "_law_ring" "_law_ring" (aM mT) (aL mT) (aF mT) .none kV43 doc43 pm43 an43 cd43 ct43), sl43⟩) (c43 : PySem.W.codeIn K cd43 "_law_ring" = true) (k43 : PySem.W.keepIn K (.ref f43) = true)
    (a44 : PySem.W.nsIn K mainGlobals "_law_good" = some (some (.ref f44))) (l44 : K.lookup f44 = some ⟨oc44, od44, .func (PySem.W.fnOf "_law_good" "_law_good" (aM mU) (aL mU) (aF mU) .none kV44 doc44 pm44 an44 cd44 ct44), sl44⟩) (c44 : PySem.W.codeIn K cd44 "_law_good" = true) (k44 : PySem.W.keepIn K (.ref f44) = true)
    (a45 : PySem.W.nsIn K mainGlobals "law" = some (some (.ref f45))) (l45 : K.lookup f45 = some ⟨oc45, od45, .func (PySem.W.fnOf "law" "law" (aM nO) (aL nO) (aF nO) .none kV45 doc45 pm45 an45 cd45 ct45), sl45⟩) (c45 : PySem.W.codeIn K cd45 "law" = true) (k45 : PySem.W.keepIn K (.ref f45) = true)
    (tg0 : PySem.W.nsIn K mainGlobals "DEEDS" = some (some (.ref at0))) (tl0 : K.lookup at0 = some ⟨.type "tuple", otd0, .seq its0 nnt0, slt0⟩) (tv0 : bK [(.str "open"), (.str "shut")] its0.toList) (tz0 : its0.size ≤ sizeLine)
    (tg1 : PySem.W.nsIn K mainGlobals "TIDES" = some (some (.ref at1))) (tl1 : K.lookup at1 = some ⟨.type "tuple", otd1, .seq its1 nnt1, slt1⟩) (tv1 : bK [(.str "above"), (.str "below")] its1.toList) (tz1 : its1.size ≤ sizeLine)
    (tg2 : PySem.W.nsIn K mainGlobals "WATERS" = some (some (.ref at2))) (tl2 : K.lookup at2 = some ⟨.type "tuple", otd2, .seq its2 nnt2, slt2⟩) (tv2 : bK [(.str "wet"), (.str "dry")] its2.toList) (tz2 : its2.size ≤ sizeLine)
    (g0 : PySem.W.nsIn K mainGlobals "SEA" = some (some u0)) (r0 : bI (.str "sea") u0)
    (g1 : PySem.W.nsIn K mainGlobals "LETTERS" = some (some u1)) (r1 : bI (.str "abcdefghijklmnopqrstuvwxyz") u1)
    (g2 : PySem.W.nsIn K mainGlobals "MOST_LETTERS" = some (some u2)) (r2 : bI (.int 8) u2)
    (g3 : PySem.W.nsIn K mainGlobals "MOST_HEIGHT" = some (some u3)) (r3 : bI (.int 1000000) u3)
    (g4 : PySem.W.nsIn K mainGlobals "MOST_AMOUNT" = some (some u4)) (r4 : bI (.int 1000000) u4)
    (g5 : PySem.W.nsIn K mainGlobals "MOST_FIELDS" = some (some u5)) (r5 : bI (.int 12) u5)
    (g6 : PySem.W.nsIn K mainGlobals "MOST_DYKES" = some (some u6)) (r6 : bI (.int 40) u6)
    (g7 : PySem.W.nsIn K mainGlobals "MOST_DECREES" = some (some u7)) (r7 : bI (.int 60) u7)
    (g8 : PySem.W.nsIn K mainGlobals "MOST_CONDITIONS" = some (some u8)) (r8 : bI (.int 6) u8)
    (g9 : PySem.W.nsIn K mainGlobals "MOST_ROUND" = some (some u9)) (r9 : bI (.int 100) u9)
    (z0 : PySem.W.nsIn K mainGlobals "all" = some none)
    (z1 : PySem.W.nsIn K mainGlobals "bool" = some none)
    (z2 : PySem.W.nsIn K mainGlobals "dict" = some none)
    (z3 : PySem.W.nsIn K mainGlobals "int" = some none)
    (z4 : PySem.W.nsIn K mainGlobals "isinstance" = some none)
    (z5 : PySem.W.nsIn K mainGlobals "len" = some none)
    (z6 : PySem.W.nsIn K mainGlobals "list" = some none)
    (z7 : PySem.W.nsIn K mainGlobals "max" = some none)
    (z8 : PySem.W.nsIn K mainGlobals "min" = some none)
    (z9 : PySem.W.nsIn K mainGlobals "range" = some none)
    (z10 : PySem.W.nsIn K mainGlobals "reversed" = some none)
    (z11 : PySem.W.nsIn K mainGlobals "set" = some none)
    (z12 : PySem.W.nsIn K mainGlobals "str" = some none)
    (z13 : PySem.W.nsIn K mainGlobals "tuple" = some none)   : Txt K mg C :=
  ⟨⟨pgC, hdC, poC, saC⟩,
   PySem.W.mg_of X G aC,
   n_field_rows,
   n_dyke_rows,
   aCD ma15 mi15 ml15 mc15 mk15 mkC kpC (fun _ _ _ _ _ _ us hl => match us, hl with | [_, _, _], _ => rfl),
   eG ma16 mi16 ml16 mc16 mk16 (fun _ _ _ _ _ _ us hl => match us, hl with | [_], _ => rfl),
   eG ma17 mi17 ml17 mc17 mk17 (fun _ _ _ _ _ _ us hl => match us, hl with | [_], _ => rfl),
   eG ma18 mi18 ml18 mc18 mk18 (fun _ _ _ _ _ _ us hl => match us, hl with | [_], _ => rfl),
   eG ma19 mi19 ml19 mc19 mk19 (fun _ _ _ _ _ _ us hl => match us, hl with | [_], _ => rfl),
   eG ma20 mi20 ml20 mc20 mk20 (fun _ _ _ _ _ _ us hl => match us, hl with | [_], _ => rfl),
   eG ma21 mi21 ml21 mc21 mk21 (fun _ _ _ _ _ _ us hl => match us, hl with | [_, _], _ => rfl),
   eG ma22 mi22 ml22 mc22 mk22 (fun _ _ _ _ _ _ us hl => match us, hl with | [_, _], _ => rfl),
   eG ma23 mi23 ml23 mc23 mk23 (fun _ _ _ _ _ _ us hl => match us, hl with | [_, _], _ => rfl),
   eG ma24 mi24 ml24 mc24 mk24 (fun _ _ _ _ _ _ us hl => match us, hl with | [_, _], _ => rfl),
   ⟨C_Season, ⟨pgCSeason, hdCSeason, poCSeason, saCSeason⟩, PySem.W.mg_of X G aCSeason, nSeason_on_land, nSeason_own_decrees, nSeason_open_names, nSeason_wet_names, nSeason_day_count, nSeason_wet_counts, aCD ma40 mi40 ml40 mc40 mk40 mkCSeason kpCSeason (fun _ _ _ _ _ _ us hl => match us, hl with | [_, _, _], _ => rfl), eG ma41 mi41 ml41 mc41 mk41 (fun _ _ _ _ _ _ us hl => match us, hl with | [_, _], _ => rfl), eG ma42 mi42 ml42 mc42 mk42 (fun _ _ _ _ _ _ us hl => match us, hl with | [_, _], _ => rfl), eG ma43 mi43 ml43 mc43 mk43 (fun _ _ _ _ _ _ us hl => match us, hl with | [_], _ => rfl), eG ma44 mi44 ml44 mc44 mk44 (fun _ _ _ _ _ _ us hl => match us, hl with | [_], _ => rfl), eG ma45 mi45 ml45 mc45 mk45 (fun _ _ _ _ _ _ us hl => match us, hl with | [_], _ => rfl), eG ma46 mi46 ml46 mc46 mk46 (fun _ _ _ _ _ _ us hl => match us, hl with | [_], _ => rfl), eG ma47 mi47 ml47 mc47 mk47 (fun _ _ _ _ _ _ us hl => match us, hl with | [_, _], _ => rfl)⟩,
   bL X G a0 l0 c0 k0 (fun _ _ _ _ _ _ us hl => match us, hl with | [_], _ => rfl),
   bL X G a1 l1 c1 k1 (fun _ _ _ _ _ _ us hl => match us, hl with | [_], _ => rfl),
   bL X G a2 l2 c2 k2 (fun _ _ _ _ _ _ us hl => match us, hl with | [_], _ => rfl),
   bL X G a3 l3 c3 k3 (fun _ _ _ _ _ _ us hl => match us, hl with | [_], _ => rfl),
   bL X G a4 l4 c4 k4 (fun _ _ _ _ _ _ us hl => match us, hl with | [_], _ => rfl),
   bL X G a5 l5 c5 k5 (fun _ _ _ _ _ _ us hl => match us, hl with | [_, _], _ => rfl),
   bL X G a6 l6 c6 k6 (fun _ _ _ _ _ _ us hl => match us, hl with | [_, _], _ => rfl),
   bL X G a7 l7 c7 k7 (fun _ _ _ _ _ _ us hl => match us, hl with | [_, _], _ => rfl),
   bL X G a8 l8 c8 k8 (fun _ _ _ _ _ _ us hl => match us, hl with | [_], _ => rfl),
   bL X G a9 l9 c9 k9 (fun _ _ _ _ _ _ us hl => match us, hl with | [_], _ => rfl),
   bL X G a10 l10 c10 k10 (fun _ _ _ _ _ _ us hl => match us, hl with | [_], _ => rfl),
   bL X G a11 l11 c11 k11 (fun _ _ _ _ _ _ us hl => match us, hl with | [_, _, _], _ => rfl),
   bL X G a12 l12 c12 k12 (fun _ _ _ _ _ _ us hl => match us, hl with | [_, _], _ => rfl),
   bL X G a13 l13 c13 k13 (fun _ _ _ _ _ _ us hl => match us, hl with | [_, _], _ => rfl),
   bL X G a14 l14 c14 k14 (fun _ _ _ _ _ _ us hl => match us, hl with | [_, _], _ => rfl),
   bL X G a15 l15 c15 k15 (fun _ _ _ _ _ _ us hl => match us, hl with | [_, _], _ => rfl),
   bL X G a16 l16 c16 k16 (fun _ _ _ _ _ _ us hl => match us, hl with | [_, _], _ => rfl),
   bL X G a17 l17 c17 k17 (fun _ _ _ _ _ _ us hl => match us, hl with | [_, _], _ => rfl),
   bL X G a18 l18 c18 k18 (fun _ _ _ _ _ _ us hl => match us, hl with | [_, _], _ => rfl),
   bL X G a19 l19 c19 k19 (fun _ _ _ _ _ _ us hl => match us, hl with | [_, _], _ => rfl),
   bL X G a20 l20 c20 k20 (fun _ _ _ _ _ _ us hl => match us, hl with | [_, _], _ => rfl),
   bL X G a21 l21 c21 k21 (fun _ _ _ _ _ _ us hl => match us, hl with | [_, _, _], _ => rfl),
   bL X G a22 l22 c22 k22 (fun _ _ _ _ _ _ us hl => match us, hl with | [_, _], _ => rfl),
   bL X G a23 l23 c23 k23 (fun _ _ _ _ _ _ us hl => match us, hl with | [_, _], _ => rfl),
   bL X G a24 l24 c24 k24 (fun _ _ _ _ _ _ us hl => match us, hl with | [_], _ => rfl),
   bL X G a25 l25 c25 k25 (fun _ _ _ _ _ _ us hl => match us, hl with | [_, _, _, _], _ => rfl),
   bL X G a26 l26 c26 k26 (fun _ _ _ _ _ _ us hl => match us, hl with | [_, _, _, _], _ => rfl),
   bL X G a27 l27 c27 k27 (fun _ _ _ _ _ _ us hl => match us, hl with | [_, _, _, _, _, _], _ => rfl),
   bL X G a28 l28 c28 k28 (fun _ _ _ _ _ _ us hl => match us, hl with | [_, _, _, _], _ => rfl),
   bL X G a29 l29 c29 k29 (fun _ _ _ _ _ _ us hl => match us, hl with | [_, _, _, _], _ => rfl),
   bL X G a30 l30 c30 k30 (fun _ _ _ _ _ _ us hl => match us, hl with | [_, _], _ => rfl),
   bL X G a31 l31 c31 k31 (fun _ _ _ _ _ _ us hl => match us, hl with | [_, _], _ => rfl),
   bL X G a32 l32 c32 k32 (fun _ _ _ _ _ _ us hl => match us, hl with | [_, _, _], _ => rfl),
   bL X G a33 l33 c33 k33 (fun _ _ _ _ _ _ us hl => match us, hl with | [_, _, _], _ => rfl),
   bL X G a34 l34 c34 k34 (fun _ _ _ _ _ _ us hl => match us, hl with | [_, _], _ => rfl),
   bL X G a35 l35 c35 k35 (fun _ _ _ _ _ _ us hl => match us, hl with | [_], _ => rfl),
   bL X G a36 l36 c36 k36 (fun _ _ _ _ _ _ us hl => match us, hl with | [_], _ => rfl),
   bL X G a37 l37 c37 k37 (fun _ _ _ _ _ _ us hl => match us, hl with | [_, _], _ => rfl),
   bL X G a38 l38 c38 k38 (fun _ _ _ _ _ _ us hl => match us, hl with | [_, _, _, _], _ => rfl),
   bL X G a39 l39 c39 k39 (fun _ _ _ _ _ _ us hl => match us, hl with | [_, _], _ => rfl),
   bL X G a40 l40 c40 k40 (fun _ _ _ _ _ _ us hl => match us, hl with | [_, _, _, _, _], _ => rfl),
   bL X G a41 l41 c41 k41 (fun _ _ _ _ _ _ us hl => match us, hl with | [_, _], _ => rfl),
   bL X G a42 l42 c42 k42 (fun _ _ _ _ _ _ us hl => match us, hl with | [_, _, _], _ => rfl),
   bL X G a43 l43 c43 k43 (fun _ _ _ _ _ _ us hl => match us, hl with | [_, _, _], _ => rfl),
   bL X G a44 l44 c44 k44 (fun _ _ _ _ _ _ us hl => match us, hl with | [_, _, _, _, _], _ => rfl),
   bL X G a45 l45 c45 k45 (fun _ _ _ _ _ _ us hl => match us, hl with | [_], _ => rfl),
   ⟨at0, PySem.W.mg_of X G tg0, fun _ => .inr ⟨_, its0, nnt0, tl0, rfl, rfl, tz0, tv0⟩⟩,
   ⟨at1, PySem.W.mg_of X G tg1, fun _ => .inr ⟨_, its1, nnt1, tl1, rfl, rfl, tz1, tv1⟩⟩,
   ⟨at2, PySem.W.mg_of X G tg2, fun _ => .inr ⟨_, its2, nnt2, tl2, rfl, rfl, tz2, tv2⟩⟩,
   iN X G g0 r0,
   iN X G g1 r1,
   iN X G g2 r2,
   iN X G g3 r3,
   iN X G g4 r4,
   iN X G g5 r5,
   iN X G g6 r6,
   iN X G g7 r7,
   iN X G g8 r8,
   iN X G g9 r9,
   PySem.W.mg_none_of X G z0,
   PySem.W.mg_none_of X G z1,
   PySem.W.mg_none_of X G z2,
   PySem.W.mg_none_of X G z3,
   PySem.W.mg_none_of X G z4,
   PySem.W.mg_none_of X G z5,
   PySem.W.mg_none_of X G z6,
   PySem.W.mg_none_of X G z7,
   PySem.W.mg_none_of X G z8,
   PySem.W.mg_none_of X G z9,
   PySem.W.mg_none_of X G z10,
   PySem.W.mg_none_of X G z11,
   PySem.W.mg_none_of X G z12,
   PySem.W.mg_none_of X G z13⟩
end K48
namespace PySem.W.Fast
def tw2111265535187454905 := 0
def tw18020020324419585488 := 0
def tw12613817522644625333 := 0
def tw8412087621246051663 := 0
def tw5016782614909739018 := 0
def tw1776748673286008952 := 0
def tw6544941502008777582 := 0
def tw16432036853604976882 := 0
def tw16140207521703799225 := 0
def tw15932795271797774569 := 0
def tw1756992517485909658 := 0
def tw16583326264476865493 := 0
def tw1903788743987835876 := 0
def tw36070416869969212 := 0
def tw2783945912266011252 := 0
def tw15214784081974104453 := 0
def tw30025907351603247 := 0
def tw10729991011442581976 := 0
def tw3943974226985046393 := 0
def tw16229886982460758083 := 0
def tw3244815555901227980 := 0
def tw17366654900007867386 := 0
def tw2797648823386027234 := 0
def tw5339205336989203447 := 0
def tw2219357738607705283 := 0
def tw4263885658672150632 := 0
def tw5150900029424444505 := 0
def tw18052901726090166060 := 0
def tw12486393045513269949 := 0
def tw17577915024512441591 := 0
def tw8208152507954155463 := 0
def tw14699439563469830703 := 0
def tw9741623475976132504 := 0
def tw14920898179879691292 := 0
def tw8943568916450182273 := 0
def tw3256128588902709112 := 0
def tw17527161431247204852 := 0
def tw3422765231171478265 := 0
def tw2912913843510011617 := 0
def tw12859198294829737030 := 0
def tw6775332096098889583 := 0
def tw13266060887799549430 := 0
def tw10528080692095940195 := 0
def tw15861511581849119825 := 0
def tw18036243669692930146 := 0
def tw1869561106969723364 := 0
def tw9044177370800018509 := 0
def tw1610238679328943560 := 0
def tw6785111651325952906 := 0
def tw5632935033744177809 := 0
def tw7967304394566442431 := 0
def tw15789879384410411700 := 0
def tw8109115838515975270 := 0
def tw7340961413722568344 := 0
def tw13157076274721342259 := 0
def tw16717438623686905386 := 0
def tw11476006147365093755 := 0
def tw17734237379016916419 := 0
def tw8327256632282978791 := 0
def tw11858014171708426746 := 0
def tw2367779807586316416 := 0
def tw9841386280427686063 := 0
def tw8738474793209330273 := 0
def tw9511624862101453369 := 0
def tw16417607235725937694 := 0
def tw5231397059666352216 := 0
def tw6112018573325341929 := 0
def tw15889207307626808025 := 0
def tw11862420240644121978 := 0
def tw8621477257985444745 := 0
def tw7037845731533946498 := 0
def tw17192159795903976990 := 0
def tw7120959296651657037 := 0
def tw4091533608192412840 := 0
def tw2817818482856155354 := 0
def tw2050597910194105884 := 0
def tw3642831216472585090 := 0
def tw3094201581777375153 := 0
def tw11657015415485934630 := 0
def tw13773061334220111067 := 0
def tw16200176848699211552 := 0
def tw15298011206453857475 := 0
def tw18205332083708113977 := 0
def tw12336483086046214009 := 0
def tw6698330486572395378 := 0
def tw1373192667824752989 := 0
def tw13449397991029770216 := 0
def tw2468808921061389544 := 0
def tw1911199662203517578 := 0
def tw16045495007729138281 := 0
def tw11975272065331325382 := 0
def tw10999790818961325953 := 0
def tw13916398008580019782 := 0
def tw16318799575218260980 := 0
def tw8579424017037198078 := 0
def tw13336291501775126409 := 0
def tw7726913074535787803 := 0
def tw9009826315458086374 := 0
def tw14039832571364033367 := 0
def tw12125046933284372449 := 0
def tw438991330895192597 := 0
def tw13331662660387690185 := 0
def tw11029124687783723610 := 0
def tw3303333714713080512 := 0
def tw2975935260976442927 := 0
def tw15409297016229158448 := 0
def tw7241883298274383136 := 0
def tw12220045592092804668 := 0
def tw17836134753059114078 := 0
def tw13598178229535122393 := 0
def tw3218430233039263906 := 0
def tw3682822629498849205 := 0
def tw2740081849057108328 := 0
def tw8882567717814918167 := 0
def tw6339839163868267891 := 0
def tw1412150977209153985 := 0
def tw15739393123891179732 := 0
def tw4504429224882252502 := 0
def tw12118982455439565999 := 0
def tw6000273146091435619 := 0
def tw8138104912010552042 := 0
def tw7028893451629019715 := 0
def tw5696555242340893775 := 0
def tw2661952996136963120 := 0
end PySem.W.Fast
open PySem PySem.W PyProof.Rows
set_option maxRecDepth 100000 in
set_option maxHeartbeats 0 in
theorem PySem.Challenge.cw_dykemoot_k48_whole_days_walked_holds : PySem.Challenge.rw_dykemoot_k48_whole_days_walked.Holds := by
 w_on; o_law; k_head; (case hw => w_witness2)
 k_fill
 refine L2.walk_law (l := PySem.Challenge.rw_dykemoot_k48_whole_days_walked) 13 ⟨rfl, by decide, by decide⟩ rfl rfl (fun w h Y => PySem.W.kIn_of Y) ?F
 case F =>
  intro w mg fa h KX G hmg
  refine' K48.law_mk hmg (K48.txt_mk KX G ?xaC ?xpgC ?xhdC ?xpoC ?xsaC ?xmkC ?xkpC ?xn_field_rows ?xn_dyke_rows ?xma15 ?xmi15 ?xml15 ?xmc15 ?xmk15 ?xma16 ?xmi16 ?xml16 ?xmc16 ?xmk16 ?xma17 ?xmi17 ?xml17 ?xmc17 ?xmk17 ?xma18 ?xmi18 ?xml18 ?xmc18 ?xmk18 ?xma19 ?xmi19 ?xml19 ?xmc19 ?xmk19 ?xma20 ?xmi20 ?xml20 ?xmc20 ?xmk20 ?xma21 ?xmi21 ?xml21 ?xmc21 ?xmk21 ?xma22 ?xmi22 ?xml22 ?xmc22 ?xmk22 ?xma23 ?xmi23 ?xml23 ?xmc23 ?xmk23 ?xma24 ?xmi24 ?xml24 ?xmc24 ?xmk24 ?xaCSeason ?xpgCSeason ?xhdCSeason ?xpoCSeason ?xsaCSeason ?xmkCSeason ?xkpCSeason ?xnSeason_on_land ?xnSeason_own_decrees ?xnSeason_open_names ?xnSeason_wet_names ?xnSeason_day_count ?xnSeason_wet_counts ?xma40 ?xmi40 ?xml40 ?xmc40 ?xmk40 ?xma41 ?xmi41 ?xml41 ?xmc41 ?xmk41 ?xma42 ?xmi42 ?xml42 ?xmc42 ?xmk42 ?xma43 ?xmi43 ?xml43 ?xmc43 ?xmk43 ?xma44 ?xmi44 ?xml44 ?xmc44 ?xmk44 ?xma45 ?xmi45 ?xml45 ?xmc45 ?xmk45 ?xma46 ?xmi46 ?xml46 ?xmc46 ?xmk46 ?xma47 ?xmi47 ?xml47 ?xmc47 ?xmk47 ?xa0 ?xl0 ?xc0 ?xk0 ?xa1 ?xl1 ?xc1 ?xk1 ?xa2 ?xl2 ?xc2 ?xk2 ?xa3 ?xl3 ?xc3 ?xk3 ?xa4 ?xl4 ?xc4 ?xk4 ?xa5 ?xl5 ?xc5 ?xk5 ?xa6 ?xl6 ?xc6 ?xk6 ?xa7 ?xl7 ?xc7 ?xk7 ?xa8 ?xl8 ?xc8 ?xk8 ?xa9 ?xl9 ?xc9 ?xk9 ?xa10 ?xl10 ?xc10 ?xk10 ?xa11 ?xl11 ?xc11 ?xk11 ?xa12 ?xl12 ?xc12 ?xk12 ?xa13 ?xl13 ?xc13 ?xk13 ?xa14 ?xl14 ?xc14 ?xk14 ?xa15 ?xl15 ?xc15 ?xk15 ?xa16 ?xl16 ?xc16 ?xk16 ?xa17 ?xl17 ?xc17 ?xk17 ?xa18 ?xl18 ?xc18 ?xk18 ?xa19 ?xl19 ?xc19 ?xk19 ?xa20 ?xl20 ?xc20 ?xk20 ?xa21 ?xl21 ?xc21 ?xk21 ?xa22 ?xl22 ?xc22 ?xk22 ?xa23 ?xl23 ?xc23 ?xk23 ?xa24 ?xl24 ?xc24 ?xk24 ?xa25 ?xl25 ?xc25 ?xk25 ?xa26 ?xl26 ?xc26 ?xk26 ?xa27 ?xl27 ?xc27 ?xk27 ?xa28 ?xl28 ?xc28 ?xk28 ?xa29 ?xl29 ?xc29 ?xk29 ?xa30 ?xl30 ?xc30 ?xk30 ?xa31 ?xl31 ?xc31 ?xk31 ?xa32 ?xl32 ?xc32 ?xk32 ?xa33 ?xl33 ?xc33 ?xk33 ?xa34 ?xl34 ?xc34 ?xk34 ?xa35 ?xl35 ?xc35 ?xk35 ?xa36 ?xl36 ?xc36 ?xk36 ?xa37 ?xl37 ?xc37 ?xk37 ?xa38 ?xl38 ?xc38 ?xk38 ?xa39 ?xl39 ?xc39 ?xk39 ?xa40 ?xl40 ?xc40 ?xk40 ?xa41 ?xl41 ?xc41 ?xk41 ?xa42 ?xl42 ?xc42 ?xk42 ?xa43 ?xl43 ?xc43 ?xk43 ?xa44 ?xl44 ?xc44 ?xk44 ?xa45 ?xl45 ?xc45 ?xk45 ?xtg0 ?xtl0 ?xtv0 ?xtz0 ?xtg1 ?xtl1 ?xtv1 ?xtz1 ?xtg2 ?xtl2 ?xtv2 ?xtz2 ?xg0 ?xr0 ?xg1 ?xr1 ?xg2 ?xr2 ?xg3 ?xr3 ?xg4 ?xr4 ?xg5 ?xr5 ?xg6 ?xr6 ?xg7 ?xr7 ?xg8 ?xr8 ?xg9 ?xr9 ?xz0 ?xz1 ?xz2 ?xz3 ?xz4 ?xz5 ?xz6 ?xz7 ?xz8 ?xz9 ?xz10 ?xz11 ?xz12 ?xz13)
  (case xaC => k_is)
  (case xpgC => k_is)
  (case xhdC => k_is)
  (case xpoC => k_is)
  (case xsaC => k_is)
  (case xmkC => k_is)
  (case xkpC => k_is)
  (case xn_field_rows => k_is)
  (case xn_dyke_rows => k_is)
  (case xma15 => k_is)
  (case xmi15 => k_is)
  (case xml15 => k_is)
  (case xmc15 => k_is)
  (case xmk15 => k_is)
  (case xma16 => k_is)
  (case xmi16 => k_is)
  (case xml16 => k_is)
  (case xmc16 => k_is)
  (case xmk16 => k_is)
  (case xma17 => k_is)
  (case xmi17 => k_is)
  (case xml17 => k_is)
  (case xmc17 => k_is)
  (case xmk17 => k_is)
  (case xma18 => k_is)
  (case xmi18 => k_is)
  (case xml18 => k_is)
  (case xmc18 => k_is)
  (case xmk18 => k_is)
  (case xma19 => k_is)
  (case xmi19 => k_is)
  (case xml19 => k_is)
  (case xmc19 => k_is)
  (case xmk19 => k_is)
  (case xma20 => k_is)
  (case xmi20 => k_is)
  (case xml20 => k_is)
  (case xmc20 => k_is)
  (case xmk20 => k_is)
  (case xma21 => k_is)
  (case xmi21 => k_is)
  (case xml21 => k_is)
  (case xmc21 => k_is)
  (case xmk21 => k_is)
  (case xma22 => k_is)
  (case xmi22 => k_is)
  (case xml22 => k_is)
  (case xmc22 => k_is)
  (case xmk22 => k_is)
  (case xma23 => k_is)
  (case xmi23 => k_is)
  (case xml23 => k_is)
  (case xmc23 => k_is)
  (case xmk23 => k_is)
  (case xma24 => k_is)
  (case xmi24 => k_is)
  (case xml24 => k_is)
  (case xmc24 => k_is)
  (case xmk24 => k_is)
  (case xaCSeason => k_is)
  (case xpgCSeason => k_is)
  (case xhdCSeason => k_is)
  (case xpoCSeason => k_is)
  (case xsaCSeason => k_is)
  (case xmkCSeason => k_is)
  (case xkpCSeason => k_is)
  (case xnSeason_on_land => k_is)
  (case xnSeason_own_decrees => k_is)
  (case xnSeason_open_names => k_is)
  (case xnSeason_wet_names => k_is)
  (case xnSeason_day_count => k_is)
  (case xnSeason_wet_counts => k_is)
  (case xma40 => k_is)
  (case xmi40 => k_is)
  (case xml40 => k_is)
  (case xmc40 => k_is)
  (case xmk40 => k_is)
  (case xma41 => k_is)
  (case xmi41 => k_is)
  (case xml41 => k_is)
  (case xmc41 => k_is)
  (case xmk41 => k_is)
  (case xma42 => k_is)
  (case xmi42 => k_is)
  (case xml42 => k_is)
  (case xmc42 => k_is)
  (case xmk42 => k_is)
  (case xma43 => k_is)
  (case xmi43 => k_is)
  (case xml43 => k_is)
  (case xmc43 => k_is)
  (case xmk43 => k_is)
  (case xma44 => k_is)
  (case xmi44 => k_is)
  (case xml44 => k_is)
  (case xmc44 => k_is)
  (case xmk44 => k_is)
  (case xma45 => k_is)
  (case xmi45 => k_is)
  (case xml45 => k_is)
  (case xmc45 => k_is)
  (case xmk45 => k_is)
  (case xma46 => k_is)
  (case xmi46 => k_is)
  (case xml46 => k_is)
  (case xmc46 => k_is)
  (case xmk46 => k_is)
  (case xma47 => k_is)
  (case xmi47 => k_is)
  (case xml47 => k_is)
  (case xmc47 => k_is)
  (case xmk47 => k_is)
  (case xa0 => k_is)
  (case xl0 => k_is)
  (case xc0 => k_is)
  (case xk0 => k_is)
  (case xa1 => k_is)
  (case xl1 => k_is)
  (case xc1 => k_is)
  (case xk1 => k_is)
  (case xa2 => k_is)
  (case xl2 => k_is)
  (case xc2 => k_is)
  (case xk2 => k_is)
  (case xa3 => k_is)
  (case xl3 => k_is)
  (case xc3 => k_is)
  (case xk3 => k_is)
  (case xa4 => k_is)
  (case xl4 => k_is)
  (case xc4 => k_is)
  (case xk4 => k_is)
  (case xa5 => k_is)
  (case xl5 => k_is)
  (case xc5 => k_is)
  (case xk5 => k_is)
  (case xa6 => k_is)
  (case xl6 => k_is)
  (case xc6 => k_is)
  (case xk6 => k_is)
  (case xa7 => k_is)
  (case xl7 => k_is)
  (case xc7 => k_is)
  (case xk7 => k_is)
  (case xa8 => k_is)
  (case xl8 => k_is)
  (case xc8 => k_is)
  (case xk8 => k_is)
  (case xa9 => k_is)
  (case xl9 => k_is)
  (case xc9 => k_is)
  (case xk9 => k_is)
  (case xa10 => k_is)
  (case xl10 => k_is)
  (case xc10 => k_is)
  (case xk10 => k_is)
  (case xa11 => k_is)
  (case xl11 => k_is)
  (case xc11 => k_is)
  (case xk11 => k_is)
  (case xa12 => k_is)
  (case xl12 => k_is)
  (case xc12 => k_is)
  (case xk12 => k_is)
  (case xa13 => k_is)
  (case xl13 => k_is)
  (case xc13 => k_is)
  (case xk13 => k_is)
  (case xa14 => k_is)
  (case xl14 => k_is)
  (case xc14 => k_is)
  (case xk14 => k_is)
  (case xa15 => k_is)
  (case xl15 => k_is)
  (case xc15 => k_is)
  (case xk15 => k_is)
  (case xa16 => k_is)
  (case xl16 => k_is)
  (case xc16 => k_is)
  (case xk16 => k_is)
  (case xa17 => k_is)
  (case xl17 => k_is)
  (case xc17 => k_is)
  (case xk17 => k_is)
  (case xa18 => k_is)
  (case xl18 => k_is)
  (case xc18 => k_is)
  (case xk18 => k_is)
  (case xa19 => k_is)
  (case xl19 => k_is)
  (case xc19 => k_is)
  (case xk19 => k_is)
  (case xa20 => k_is)
  (case xl20 => k_is)
  (case xc20 => k_is)
  (case xk20 => k_is)
  (case xa21 => k_is)
  (case xl21 => k_is)
  (case xc21 => k_is)
  (case xk21 => k_is)
  (case xa22 => k_is)
  (case xl22 => k_is)
  (case xc22 => k_is)
  (case xk22 => k_is)
  (case xa23 => k_is)
  (case xl23 => k_is)
  (case xc23 => k_is)
  (case xk23 => k_is)
  (case xa24 => k_is)
  (case xl24 => k_is)
  (case xc24 => k_is)
  (case xk24 => k_is)
  (case xa25 => k_is)
  (case xl25 => k_is)
  (case xc25 => k_is)
  (case xk25 => k_is)
  (case xa26 => k_is)
  (case xl26 => k_is)
  (case xc26 => k_is)
  (case xk26 => k_is)
  (case xa27 => k_is)
  (case xl27 => k_is)
  (case xc27 => k_is)
  (case xk27 => k_is)
  (case xa28 => k_is)
  (case xl28 => k_is)
  (case xc28 => k_is)
  (case xk28 => k_is)
  (case xa29 => k_is)
  (case xl29 => k_is)
  (case xc29 => k_is)
  (case xk29 => k_is)
  (case xa30 => k_is)
  (case xl30 => k_is)
  (case xc30 => k_is)
  (case xk30 => k_is)
  (case xa31 => k_is)
  (case xl31 => k_is)
  (case xc31 => k_is)
  (case xk31 => k_is)
  (case xa32 => k_is)
  (case xl32 => k_is)
  (case xc32 => k_is)
  (case xk32 => k_is)
  (case xa33 => k_is)
  (case xl33 => k_is)
  (case xc33 => k_is)
  (case xk33 => k_is)
  (case xa34 => k_is)
  (case xl34 => k_is)
  (case xc34 => k_is)
  (case xk34 => k_is)
  (case xa35 => k_is)
  (case xl35 => k_is)
  (case xc35 => k_is)
  (case xk35 => k_is)
  (case xa36 => k_is)
  (case xl36 => k_is)
  (case xc36 => k_is)
  (case xk36 => k_is)
  (case xa37 => k_is)
  (case xl37 => k_is)
  (case xc37 => k_is)
  (case xk37 => k_is)
  (case xa38 => k_is)
  (case xl38 => k_is)
  (case xc38 => k_is)
  (case xk38 => k_is)
  (case xa39 => k_is)
  (case xl39 => k_is)
  (case xc39 => k_is)
  (case xk39 => k_is)
  (case xa40 => k_is)
  (case xl40 => k_is)
  (case xc40 => k_is)
  (case xk40 => k_is)
  (case xa41 => k_is)
  (case xl41 => k_is)
  (case xc41 => k_is)
  (case xk41 => k_is)
  (case xa42 => k_is)
  (case xl42 => k_is)
  (case xc42 => k_is)
  (case xk42 => k_is)
  (case xa43 => k_is)
  (case xl43 => k_is)
  (case xc43 => k_is)
  (case xk43 => k_is)
  (case xa44 => k_is)
  (case xl44 => k_is)
  (case xc44 => k_is)
  (case xk44 => k_is)
  (case xa45 => k_is)
  (case xl45 => k_is)
  (case xc45 => k_is)
  (case xk45 => k_is)
  (case xtg0 => k_is)
  (case xtl0 => k_is)
  (case xtv0 => repeat (first | exact .nil | refine .cons ⟨_, rfl⟩ ?_))
  (case xtz0 => decide)
  (case xtg1 => k_is)
  (case xtl1 => k_is)
  (case xtv1 => repeat (first | exact .nil | refine .cons ⟨_, rfl⟩ ?_))
  (case xtz1 => decide)
  (case xtg2 => k_is)
  (case xtl2 => k_is)
  (case xtv2 => repeat (first | exact .nil | refine .cons ⟨_, rfl⟩ ?_))
  (case xtz2 => decide)
  (case xg0 => k_is)
  (case xr0 => exact ⟨_, rfl⟩)
  (case xg1 => k_is)
  (case xr1 => exact ⟨_, rfl⟩)
  (case xg2 => k_is)
  (case xr2 => exact ⟨_, rfl⟩)
  (case xg3 => k_is)
  (case xr3 => exact ⟨_, rfl⟩)
  (case xg4 => k_is)
  (case xr4 => exact ⟨_, rfl⟩)
  (case xg5 => k_is)
  (case xr5 => exact ⟨_, rfl⟩)
  (case xg6 => k_is)
  (case xr6 => exact ⟨_, rfl⟩)
  (case xg7 => k_is)
  (case xr7 => exact ⟨_, rfl⟩)
  (case xg8 => k_is)
  (case xr8 => exact ⟨_, rfl⟩)
  (case xg9 => k_is)
  (case xr9 => exact ⟨_, rfl⟩)
  (case xz0 => k_is)
  (case xz1 => k_is)
  (case xz2 => k_is)
  (case xz3 => k_is)
  (case xz4 => k_is)
  (case xz5 => k_is)
  (case xz6 => k_is)
  (case xz7 => k_is)
  (case xz8 => k_is)
  (case xz9 => k_is)
  (case xz10 => k_is)
  (case xz11 => k_is)
  (case xz12 => k_is)
  (case xz13 => k_is)
