import PyProof.Rows.All
import Wide.All
import OpenK.AllK
import Wide.FinOn
import Lean
import PyProof.EqAt
import PyProof.EqKinds
import PyProof.TupleCall
import PyProof.StrBlockI
import PyProof.SliceList
import PyProof.StrLawsIn
import PyProof.StrLaws
import PySem.Challenge.RW_dykemoot_k54_whole_fewest_coins
set_option Elab.async false
set_option linter.all false
set_option maxRecDepth 100000
namespace L2
open PySem PySem.Spec PyProof.Rows
abbrev Key := Sum Int Str
def uS : Key → Value → Bool
 | .inl k, v => Value.isInt k v
 | .inr x, v => Value.isStrOf x v
def aQF (w : World) : Key → Int
 | .inl k => hashInt k
 | .inr x => hashStr w x
theorem cX : ∀ {k : Key} {v : Value}, uS k v = true → (∃ i t, k = Sum.inl i ∧ v = Value.int i t) ∨ (∃ x t, k = Sum.inr x ∧ v = Value.str x t)
 | .inl i, v, h => by
  obtain ⟨t, e⟩ := Value.isInt_shape (k := i) (v := v) h
  exact .inl ⟨i, t, rfl, e⟩
 | .inr x, v, h => by
  obtain ⟨t, e⟩ := Value.isStrOf_shape (x := x) (v := v) h
  exact .inr ⟨x, t, rfl, e⟩
theorem rG (i : Int) (t : Tok) : uS (.inl i) (.int i t) = true := by simp [uS, Value.isInt]
theorem rF (x : Str) (t : Tok) : uS (.inr x) (.str x t) = true := by simp [uS, Value.isStrOf]
theorem aNF (a b : Int) : decide ((Sum.inl a : Key) = Sum.inl b) = (a == b) := by
 by_cases e : a = b
 ·subst e; simp
 ·have h : ¬ (Sum.inl a : Key) = Sum.inl b := fun q => e (Sum.inl.inj q)
  rw [decide_eq_false h]
  exact (beq_eq_false_iff_ne.mpr e).symm
theorem aNC (a b : Str) : decide ((Sum.inr a : Key) = Sum.inr b) = decide (a = b) := by
 by_cases e : a = b
 ·subst e; simp
 ·have h : ¬ (Sum.inr a : Key) = Sum.inr b := fun q => e (Sum.inr.inj q)
  rw [decide_eq_false h, decide_eq_false e]
theorem aNE (a : Int) (b : Str) : decide ((Sum.inl a : Key) = Sum.inr b) = false := decide_eq_false (fun q => nomatch q)
theorem aND (a : Str) (b : Int) : decide ((Sum.inr a : Key) = Sum.inl b) = false := decide_eq_false (fun q => nomatch q)
def aZ (prog : Program) (w : World) : PySem.KeyKind prog w Key where
 is := uS
 hash := aQF w
 inj := fun v a b ha hb => by
  rcases cX ha with ⟨i, t, rfl, rfl⟩ | ⟨x, t, rfl, rfl⟩
  ·rcases cX hb with ⟨j, u, rfl, e⟩ | ⟨y, u, rfl, e⟩
   ·injection e with e1 _; rw [e1]
   ·exact nomatch e
  ·rcases cX hb with ⟨j, u, rfl, e⟩ | ⟨y, u, rfl, e⟩
   ·exact nomatch e
   ·injection e with e1 _; rw [e1]
 byValue := fun k v h => by
  rcases cX h with ⟨i, t, rfl, rfl⟩ | ⟨x, t, rfl, rfl⟩ <;> rfl
 pyHash := fun hv h => by
  rcases cX hv with ⟨i, t, rfl, rfl⟩ | ⟨x, t, rfl, rfl⟩
  ·exact wpAny_pyHash_int h
  ·exact wpAny_pyHash_str h
 eqBool := fun hu hv h => by
  rcases cX hu with ⟨i, t, rfl, rfl⟩ | ⟨x, t, rfl, rfl⟩
  ·rcases cX hv with ⟨j, u, rfl, rfl⟩ | ⟨y, u, rfl, rfl⟩
   ·rw [aNF] at h; exact wpAny_eqBool_int h
   ·rw [aNE] at h; exact SeqAt.EqAt.int_str i t y u _ _ _ _ h
  ·rcases cX hv with ⟨j, u, rfl, rfl⟩ | ⟨y, u, rfl, rfl⟩
   ·rw [aND] at h; exact SeqAt.EqAt.str_int x t j u _ _ _ _ h
   ·rw [aNC] at h; exact wpAny_eqBool_str h
 «strs» := fun k x t v h => by
  rcases cX h with ⟨i, u, rfl, e⟩ | ⟨y, u, rfl, e⟩
  ·exact nomatch e
  ·injection e with e1 _
   subst e1
   cases v <;> rfl
theorem aBD (prog : Program) (w : World) (i : Int) (t : Tok) : (aZ prog w).is (.inl i) (.int i t) = true := rG i t
theorem aBC (prog : Program) (w : World) (x : Str) (t : Tok) : (aZ prog w).is (.inr x) (.str x t) = true := rF x t
end L2
namespace L2
open PySem PySem.Spec PyProof.Rows
inductive V where
 | non | bl (b : Bool) | int (i : Int) | str (x : Str) | byt (b : Array UInt8) | flt (b : UInt64) | ref (a : Addr) | ty (n : String)
 deriving DecidableEq
def bN : V → Value → Prop
 | .non, u => u = Value.none
 | .bl b, u => u = Value.bool b
 | .int i, u => ∃ t, u = Value.int i t
 | .str x, u => ∃ t, u = Value.str x t
 | .byt b, u => ∃ t, u = Value.bytes b t
 | .flt b, u => ∃ t, u = Value.float b t
 | .ref a, u => u = Value.ref a
 | .ty n, u => u = Value.type n
abbrev bO : List V → List Value → Prop := Paired bN
theorem bO.length {xs : List V} {us : List Value} (r : bO xs us) : xs.length = us.length := Paired.length r
theorem bO.get : ∀ {xs : List V} {us : List Value} {i : Nat} {x : V}, bO xs us → xs[i]? = some x → ∃ u, us[i]? = some u ∧ bN x u
 | _, _, _, _, .nil, e => by simp at e
 | _, _, 0, _, .cons r _, e => by simp at e; subst e; exact ⟨_, rfl, r⟩
 | _, _, i + 1, x, .cons _ t, e => by
  obtain ⟨u, h1, h2⟩ := bO.get (i := i) (x := x) t (by simpa using e)
  exact ⟨u, by simpa using h1, h2⟩
theorem bO.append : ∀ {xs ys : List V} {us ws : List Value}, bO xs us → bO ys ws → bO (xs ++ ys) (us ++ ws)
 | _, _, _, _, .nil, s => s
 | _, _, _, _, .cons r t, s => .cons r (bO.append t s)
theorem bO.take : ∀ {xs : List V} {us : List Value} (n : Nat), bO xs us → bO (xs.take n) (us.take n)
 | _, _, 0, _ => .nil
 | _, _, _ + 1, .nil => .nil
 | _, _, n + 1, .cons r t => .cons r (bO.take n t)
theorem bO.drop : ∀ {xs : List V} {us : List Value} (n : Nat), bO xs us → bO (xs.drop n) (us.drop n)
 | _, _, 0, r => r
 | _, _, _ + 1, .nil => .nil
 | _, _, n + 1, .cons _ t => bO.drop n t
def mK : Option V → Option Value → Prop
 | some v, some u => bN v u
 | none, none => True
 | _, _ => False
def KV {κ : Type} : List (κ × V) → List (κ × Value) → Prop := Paired fun (p : κ × V) (q : κ × Value) => p.1 = q.1 ∧ bN p.2 q.2
def kV : Key → V
 | .inl i => .int i
 | .inr x => .str x
inductive HO where
 /-- a list -/
 | lst (xs : List V)
 /-- a tuple (never changes) -/
 | tup (xs : List V)
 /-- a dict whose keys are ints and texts; one whose keys are tuples of ints and texts (the empty one is both) -/
 | dK (kvs : List (Key × V)) | dT (kvs : List (List Key × V))
 /-- a set of ints: its members, its size -/
 | set (S : Int → Bool) (n : Nat)
 /-- an instance of the class at C, its dict at dx, its attributes -/
 | ins (C dx : Addr) (fs : List (Str × V))
 /-- the dict of the instance at x -/
 | own (x : Addr)
 /-- the dict of an exception -/
 | xd (fs : List (Str × V))
 /-- a bound method, f of x -/
 | met (f x : Addr)
 /-- a range object lo, lo + 1, .. below hi -/
 | rng (lo hi : Int)
 /-- a thing that is known to the object (the script; a dict while a loop walks it): read, never written while it is so -/
 | frz (o : Obj) (u : HO)
 /-- a rO object's table -/
 | tbl (ps : Array Value)
 /-- any other thing, by what is true of its one object (a def of one's own: aGY a S n := HO.ext fun h => ..) -/
 | ext (φ : Heap → Prop)
abbrev Hp := Addr → Option HO
def upd (H : Hp) (a : Addr) (o : HO) : Hp := fun b => if b = a then some o else H b
theorem aF {H : Hp} {a : Addr} {o : HO} : upd H a o a = some o := by unfold upd; rw [if_pos rfl]
theorem aQ {H : Hp} {a b : Addr} {o : HO} (h : b ≠ a) : upd H a o b = H b := by unfold upd; rw [if_neg h]
theorem aKC {H : Hp} {a : Addr} {o u : HO} : upd (upd H a o) a u = upd H a u := by
 funext b; unfold upd; split <;> rfl
theorem mC {H : Hp} {a b : Addr} {o u : HO} (h : H a = some o) (h' : H b = some u) (d : o ≠ u) : a ≠ b := by
 intro e; subst e; rw [h] at h'; exact d (Option.some.inj h')
theorem aV {H : Hp} {a b : Addr} {o : HO} (h : H a = some o) (h' : H b = none) : a ≠ b := by
 intro e; subst e; rw [h] at h'; cases h'
def pR (h : Heap) (a : Addr) (its : Array Value) : Prop := ∃ o, h.get? a = some o ∧ o.cls = .type "tuple" ∧ ∃ n, o.data = .seq its n ∧ o.dict = none
theorem pR.tup {h : Heap} {a : Addr} {its : Array Value} (x : pR h a its) : IsTup h a its := by
 obtain ⟨o, e, c, n, d, _⟩ := x
 exact ⟨o, e, c, n, d⟩
theorem pR.new (h : Heap) (its : Array Value) : pR (h.push { cls := .type "tuple", data := .seq its }) h.objs.size its := ⟨_, Heap.get?_push_size _ rfl, rfl, _, rfl, rfl⟩
section
variable (P : Program) (w : World)
def cU (H : Hp) (h : Heap) (a : Addr) : HO → Prop
 | .lst xs => xs.length ≤ sizeLine ∧ ∃ (its : List Value) (n : Nat), bO xs its ∧ h.get? a = some { cls := .type "list", data := .seq its.toArray n }
 | .tup xs => xs.length ≤ sizeLine ∧ ∃ its : List Value, bO xs its ∧ pR h a its.toArray
 | .dK kvs => kvs.length ≤ sizeLine ∧ (a == sysModules) = false ∧ ∃ vs, KV kvs vs ∧ h.DictOf (aZ P w) a vs
 | .dT kvs => kvs.length ≤ sizeLine ∧ (a == sysModules) = false ∧ ∃ xs : List (List Key × Addr × Value),
   Paired (fun (p : List Key × V) (q : List Key × Addr × Value) => p.1 = q.1 ∧ H q.2.1 = some (.tup (p.1.map kV)) ∧ bN p.2 q.2.2) kvs xs ∧
   ∃ o es ep, h.get? a = some o ∧ o.ExactDict ∧ o.data = .dict es ep ∧ es.toList = xs.map (entryOfKey (tupleKind (aZ P w))) ∧ (xs.map (·.1)).Nodup
 | .set S n => h.SetOf (intKind P w) a S n
 | .ins C dx fs => H dx = some (.own a) ∧ fs.length ≤ 1000 ∧ dx ≠ a ∧ h.get? a = some (PySem.W.instObj C dx) ∧
   ∃ mA, h.Ns1 dx mA ∧ (∀ f, mK (fs.lookup f) (mA f)) ∧ PySem.Within mA (fs.map (·.1))
 | .own _ => ∃ o, h.get? a = some o
 | .xd fs => ∃ mA, h.Ns1 a mA ∧ ∀ f, mK (fs.lookup f) (mA f)
 | .rng lo hi => ∃ t u v, h.get? a = some { cls := .type "range", data := .fields #[.int lo t, .int hi u, .int 1 v] }
 | .frz o u => h.get? a = some o ∧ cU H h a u
 | .tbl ps => h.get? a = some { cls := .none, data := .fields ps }
 | .met f x => h.get? a = some (PySem.W.methodObj (.ref f) (.ref x))
 | .ext φ => φ h ∧ (∃ o, h.get? a = some o) ∧ ∀ h1 h2 : Heap, φ h1 → (∀ o, h1.get? a = some o → h2.get? a = some o) → φ h2
def HOk (H : Hp) (h : Heap) : Prop := ∀ a o, H a = some o → cU P w H h a o
end
section
variable {P : Program} {w : World} {H H' : Hp} {h h' : Heap} {a : Addr} {o : HO}
theorem cU.lt (x : cU P w H h a o) : a < h.objs.size := by
 cases o with
 | lst xs => obtain ⟨_, _, _, _, e⟩ := x; exact Heap.lt_size e
 | tup xs => obtain ⟨_, _, _, _, e, _⟩ := x; exact Heap.lt_size e
 | dK kvs => obtain ⟨_, _, _, _, o, _, _, e, _⟩ := x; exact Heap.lt_size e
 | dT kvs => obtain ⟨_, _, _, _, o, _, _, e, _⟩ := x; exact Heap.lt_size e
 | set S n => obtain ⟨o, _, _, _, e, _⟩ := x; exact Heap.lt_size e
 | ins C dx fs => obtain ⟨_, _, _, e, _⟩ := x; exact Heap.lt_size e
 | own y => obtain ⟨_, e⟩ := x; exact Heap.lt_size e
 | xd fs => obtain ⟨_, ⟨_, _, _, e, _⟩, _⟩ := x; exact Heap.lt_size e
 | rng lo hi => obtain ⟨_, _, _, e⟩ := x; exact Heap.lt_size e
 | frz ob u => obtain ⟨e, _⟩ := x; exact Heap.lt_size e
 | tbl ps => exact Heap.lt_size (show h.get? a = some _ from x)
 | met f y => exact Heap.lt_size (show h.get? a = some _ from x)
 | ext φ => obtain ⟨_, ⟨_, e⟩, _⟩ := x; exact Heap.lt_size e
theorem Paired.mapP {α β : Type} {F G : α → β → Prop} : ∀ {l₁ : List α} {l₂ : List β}, Paired F l₁ l₂ → (∀ a b, F a b → G a b) → Paired G l₁ l₂
 | _, _, .nil, _ => .nil
 | _, _, .cons r t, f => .cons (f _ _ r) (Paired.mapP t f)
theorem cU.stay (x : cU P w H h a o) (k : ∀ b u, (b = a ∨ H b = some (.own a)) → h.get? b = some u → h'.get? b = some u)
  (ho : ∀ b, H b = some (.own a) → H' b = some (.own a)) (ht : ∀ b xs, H b = some (.tup xs) → H' b = some (.tup xs)) : cU P w H' h' a o := by
 induction o with
 | lst xs => obtain ⟨z, its, n, r, e⟩ := x; exact ⟨z, its, n, r, k _ _ (.inl rfl) e⟩
 | tup xs => obtain ⟨z, its, r, ob, e, c⟩ := x; exact ⟨z, its, r, ob, k _ _ (.inl rfl) e, c⟩
 | dK kvs => obtain ⟨z, y, vs, r, ob, es, ep, e, c⟩ := x; exact ⟨z, y, vs, r, ob, es, ep, k _ _ (.inl rfl) e, c⟩
 | dT kvs =>
  obtain ⟨z, y, xs, r, ob, es, ep, e, c⟩ := x
  exact ⟨z, y, xs, Paired.mapP r fun p q z => ⟨z.1, ht _ _ z.2.1, z.2.2⟩, ob, es, ep, k _ _ (.inl rfl) e, c⟩
 | set S n => obtain ⟨ob, es, ep, t, e, c⟩ := x; exact ⟨ob, es, ep, t, k _ _ (.inl rfl) e, c⟩
 | ins C dx fs =>
  obtain ⟨d, z, ne, e, mA, ⟨od, es, ep, e2, c⟩, r⟩ := x
  exact ⟨ho _ d, z, ne, k _ _ (.inl rfl) e, mA, ⟨od, es, ep, k _ _ (.inr d) e2, c⟩, r⟩
 | own y => obtain ⟨ob, e⟩ := x; exact ⟨ob, k _ _ (.inl rfl) e⟩
 | xd fs => obtain ⟨mA, ⟨od, es, ep, e, c⟩, r⟩ := x; exact ⟨mA, ⟨od, es, ep, k _ _ (.inl rfl) e, c⟩, r⟩
 | rng lo hi => obtain ⟨t, u, v, e⟩ := x; exact ⟨t, u, v, k _ _ (.inl rfl) e⟩
 | frz ob u ih => obtain ⟨e, q⟩ := x; exact ⟨k _ _ (.inl rfl) e, ih q⟩
 | tbl ps =>
  have e : h.get? a = some { cls := .none, data := .fields ps } := x
  show h'.get? a = some { cls := .none, data := .fields ps }
  exact k a _ (.inl rfl) e
 | met f y =>
  have e : h.get? a = some (PySem.W.methodObj (.ref f) (.ref y)) := x
  show h'.get? a = some (PySem.W.methodObj (.ref f) (.ref y))
  exact k a _ (.inl rfl) e
 | ext φ => obtain ⟨p, ⟨o, e⟩, st⟩ := x; exact ⟨st _ _ p fun o q => k _ _ (.inl rfl) q, ⟨o, k _ _ (.inl rfl) e⟩, st⟩
theorem HOk.lt (x : HOk P w H h) (e : H a = some o) : a < h.objs.size := (x a o e).lt
theorem HOk.fresh (x : HOk P w H h) (e : h.objs.size ≤ a) : H a = none := by
 cases q : H a with
 | none => rfl
 | some u => exact absurd (Nat.lt_of_lt_of_le (x.lt q) e) (Nat.lt_irrefl _)
theorem HOk.kept (x : HOk P w H h) (k : ∀ b u, h.get? b = some u → h'.get? b = some u) : HOk P w H h' := fun a o e =>
 (x a o e).stay (fun b u _ q => k b u q) (fun _ q => q) fun _ _ q => q
theorem HOk.laid (x : HOk P w H h) (k : ∀ b u, h.get? b = some u → h'.get? b = some u) (hp : h.objs.size ≤ a) (new : cU P w (upd H a o) h' a o) : HOk P w (upd H a o) h' := fun b u e => by
 have hn := x.fresh hp
 by_cases hb : b = a
 ·subst hb; rw [aF] at e; cases e; exact new
 ·rw [aQ hb] at e
  exact (x b u e).stay (fun c v _ q => k c v q) (fun c q => by rw [aQ (aV q hn)]; exact q) fun c xs q => by rw [aQ (aV q hn)]; exact q
end
def Rd (H : Hp) (a : Addr) (u : HO) : Prop := H a = some u ∨ ∃ o, H a = some (.frz o u)
theorem Rd.ok {P : Program} {w : World} {H : Hp} {h : Heap} {a : Addr} {u : HO} (r : Rd H a u) (x : HOk P w H h) : cU P w H h a u := by
 rcases r with r | ⟨o, r⟩
 ·exact x a u r
 ·obtain ⟨_, q⟩ := x a _ r
  exact q
def Mut : Option HO → Prop
 | some (.lst _) => True
 | some (.dK _) => True
 | some (.dT _) => True
 | some (.set _ _) => True
 | some (.ins _ _ _) => True
 | some (.ext _) => True
 | _ => False
section
variable {P : Program} {w : World} {H : Hp} {h h' : Heap} {x e : Addr} {o' : HO}
theorem HOk.write (ok : HOk P w H h) (mu : Mut (H x)) (he : e = x ∨ H e = some (.own x)) (k : ∀ b u, b ≠ e → h.get? b = some u → h'.get? b = some u) (heo : ∃ u, h'.get? e = some u)
  (new : cU P w (upd H x o') h' x o') : HOk P w (upd H x o') h' := fun b u q => by
 have nown : ∀ c y, H c = some (.own y) → c ≠ x := fun c y r z => by subst z; rw [r] at mu; exact mu
 have ntup : ∀ c xs, H c = some (.tup xs) → c ≠ x := fun c xs r z => by subst z; rw [r] at mu; exact mu
 by_cases hb : b = x
 ·subst hb; rw [aF] at q; cases q; exact new
 ·rw [aQ hb] at q
  by_cases hbe : b = e
  ·have q' : H b = some (.own x) := by
    rcases he with z | z
    ·exact absurd (hbe.trans z) hb
    ·rw [hbe]; exact z
   rw [q] at q'; cases q'
   obtain ⟨v, hv⟩ := heo
   exact ⟨v, by rw [hbe]; exact hv⟩
  ·refine (ok b u q).stay (fun c v hc r => k c v ?_ r) (fun c r => by rw [aQ (nown c b r)]; exact r) fun c xs r => by rw [aQ (ntup c xs r)]; exact r
   rcases hc with rfl | hc
   ·exact hbe
   ·rintro rfl
    rcases he with z | z
    ·exact nown c b hc z
    ·rw [hc] at z; cases z; exact hb rfl
end
structure Un (fs ex : List Addr) (H H' : Hp) (h h' : Heap) : Prop where
 keep : ∀ b o, h.get? b = some o → H b = none → b ∉ fs → b ∉ ex → h'.get? b = some o
 slot : ∀ b o, h.get? b = some o → H b = none → b ∈ fs → b ∉ ex → ∃ sl, h'.get? b = some { o with slots := sl }
 free : ∀ b o, h.get? b = some o → H b = none → b ∉ ex → H' b = none
 there : ∀ b o, h.get? b = some o → b ∉ ex → ∃ o', h'.get? b = some o'
 tups : ∀ b xs, H b = some (.tup xs) → H' b = some (.tup xs)
 frzs : ∀ b o u, H b = some (.frz o u) → H' b = some (.frz o u)
 tbls : ∀ b ps, H b = some (.tbl ps) → ∃ more, H' b = some (.tbl (ps ++ more))
section
variable {fs fs' ex ex' : List Addr} {H H1 H2 : Hp} {h h1 h2 h' : Heap} {a x e : Addr} {o : HO}
theorem Un.any (u : Un fs ex H H1 h h1) {b : Addr} {ob : Obj} (q : h.get? b = some ob) (n : H b = none) (hx : b ∉ ex) : ∃ sl, h1.get? b = some { ob with slots := sl } := by
 by_cases hb : b ∈ fs
 ·exact u.slot b ob q n hb hx
 ·exact ⟨ob.slots, u.keep b ob q n hb hx⟩
theorem Un.kept (k : ∀ b u, h.get? b = some u → h'.get? b = some u) : Un fs ex H H h h' :=
 ⟨fun b ob q _ _ _ => k b ob q, fun b ob q _ _ _ => ⟨ob.slots, k b ob q⟩, fun _ _ _ n _ => n, fun b ob q _ => ⟨ob, k b ob q⟩, fun _ _ q => q, fun _ _ _ q => q, fun _ ps q => ⟨#[], by rw [q]; simp⟩⟩
theorem Un.refl : Un fs ex H H h h := Un.kept fun _ _ q => q
theorem Un.laid (k : ∀ b u, h.get? b = some u → h'.get? b = some u) (hp : h.objs.size ≤ a) (hn : H a = none) : Un fs ex H (upd H a o) h h' where
 keep := fun b u q _ _ _ => k b u q
 slot := fun b u q _ _ _ => ⟨u.slots, k b u q⟩
 free := fun b u q n _ => by rw [aQ (Nat.ne_of_lt (Nat.lt_of_lt_of_le (Heap.lt_size q) hp))]; exact n
 there := fun b u q _ => ⟨u, k b u q⟩
 tups := fun b xs q => by rw [aQ (aV q hn)]; exact q
 frzs := fun b u xs q => by rw [aQ (aV q hn)]; exact q
 tbls := fun b ps q => ⟨#[], by rw [aQ (aV q hn), q]; simp⟩
theorem Un.write (mu : Mut (H x)) (he : e = x ∨ H e = some (.own x)) (k : ∀ b u, b ≠ e → h.get? b = some u → h'.get? b = some u) (heo : ∃ u, h'.get? e = some u) : Un fs ex H (upd H x o) h h' := by
 have hx : ∀ b, H b = none → b ≠ x := fun b n z => by subst z; rw [n] at mu; exact mu
 have hb : ∀ b, H b = none → b ≠ e := fun b n z => by
  subst z
  rcases he with r | r
  ·exact hx b n r
  ·rw [n] at r; cases r
 have hm : ∀ b u, H b = some u → ¬ Mut (some u) → b ≠ x := fun b u q nm z => by subst z; rw [q] at mu; exact nm mu
 refine ⟨fun b u q n _ _ => k b u (hb b n) q, fun b u q n _ _ => ⟨u.slots, k b u (hb b n) q⟩, fun b u q n _ => by rw [aQ (hx b n)]; exact n, fun b u q _ => ?_,
  fun b xs q => by rw [aQ (hm b _ q fun z => z)]; exact q, fun b u xs q => by rw [aQ (hm b _ q fun z => z)]; exact q, fun b ps q => ⟨#[], by rw [aQ (hm b _ q fun z => z), q]; simp⟩⟩
 by_cases hbe : b = e
 ·subst hbe; exact heo
 ·exact ⟨u, k b u hbe q⟩
end
def trk (h : Heap) (H : Hp) : List Addr := (List.range h.objs.size).filter fun a => (H a).isSome
def zE (h : Heap) (H : Hp) : Heap := PySem.W.hideAll h (trk h H)
theorem aGL (h : Heap) (H : Hp) : (zE h H).objs.size = h.objs.size := PySem.W.hideAll_size _ _
theorem aJG {h : Heap} {H : Hp} {b : Addr} {o : Obj} (e : h.get? b = some o) (n : H b = none) : (zE h H).get? b = some o :=
 PySem.W.hideAll_get _ e fun hm => by
  have q : (H b).isSome = true := (List.mem_filter.mp hm).2
  rw [n] at q; simp at q
theorem aKW {h : Heap} {H : Hp} {b : Addr} {o : Obj} (e : (zE h H).get? b = some o) : h.get? b = some o ∧ H b = none := by
 have e' : h.get? b = some o := PySem.W.of_hideAll (trk h H) e
 refine ⟨e', ?_⟩
 cases q : H b with
 | none => rfl
 | some x =>
  have hm : b ∈ trk h H := List.mem_filter.mpr ⟨List.mem_range.mpr (Heap.lt_size e'), by simp [q]⟩
  have z : (zE h H).get? b = none := PySem.W.hideAll_none (trk h H) hm
  rw [z] at e; cases e
def aLQ (g h : Heap) (L : Addr) : List (Addr × Obj) := (List.range h.objs.size).filterMap fun a => if a = L ∨ (g.get? a).isSome = true then none else (h.get? a).map fun o => (a, o)
def sM (g h : Heap) (L d : Addr) : List (Addr × Obj) := (aLQ g h L).filter fun p => decide (p.1 ≠ d)
end L2
namespace L2
open PySem PySem.Spec PyProof.Rows
structure Mod (K : PySem.W.Frag) (mg : Str → Option Value) (base : Heap) : Prop where
 kin : K.In base
 glob : base.Ns mainGlobals mg
 blt : ∃ mb, base.Ns builtinsNs mb ∧ ∀ x : Str, x ≠ "__name__" → mb x = bootBuiltins x
 nolimit : base.NoLimit
structure Cx where
 prog : Program
 w : World
 K : PySem.W.Frag
 mg : Str → Option Value
 base : Heap
 A : Around
 N : List Str
 s₀ : Shared
 H₀ : Hp
 env : Env
 outer : List Env
 stack : List Env
 ex : List Addr
 fn : Str → Bool
 calm : Bool
 pn : List (Addr × Obj)
 xe : Value → Shared → Prop
def frs (l : List Env) : List Addr := l.filterMap (·.frame)
abbrev Cx.fs (X : Cx) : List Addr := frs X.outer
def Vis (sc : Scope) (x : Str) : Prop := sc.names.lookup x = some .local ∨ sc.names.lookup x = some .cell ∨ sc.names.lookup x = some .free
def Loc (sc : Scope) (x : Str) : Prop := sc.names.lookup x = some .local ∨ sc.names.lookup x = some .cell
def aQK (env : Env) (h : Heap) (m : Str → Option Value) (x : Str) (u : Value) : Prop :=
 (env.kindOf x = some .local ∧ m x = some u) ∨ ((env.kindOf x = some .cell ∨ env.kindOf x = some .free) ∧ ∃ c, env.cells.lookup x = some c ∧ h.IsCell c (some u))
structure Cx.Ok (X : Cx) : Prop where
 mod : Mod X.K X.mg X.base
 kind : X.env.scope.kind = .function
 glob : X.env.globals = mainGlobals
 blt : X.env.builtins = builtinsNs
 above : X.s₀.heap.objs.size ≤ X.env.locals
 inj : ∀ x y c, X.env.cells.lookup x = some c → X.env.cells.lookup y = some c → x = y
 has : ∀ x, (X.env.kindOf x = some .cell ∨ X.env.kindOf x = some .free) → ∃ c, X.env.cells.lookup x = some c
 cab : ∀ x c, X.fn x = true → X.env.cells.lookup x = some c → X.s₀.heap.objs.size ≤ c
 hd : X.calm = true → X.A.handled = none
 frames : X.A.frames = some X.stack
 stk : X.stack = X.outer ∨ (X.stack = X.env :: X.outer ∧ X.env.frame = some X.env.locals)
 exf : ∀ b ∈ X.ex, b ≠ X.env.locals ∧ ∀ x c, X.env.cells.lookup x = some c → c ≠ b
 bs : ∀ b o, X.base.get? b = some o → X.s₀.heap.get? b = some o ∧ X.H₀ b = none
 bsz : X.base.objs.size ≤ X.s₀.heap.objs.size
 noex : ∀ b o, X.base.get? b = some o → b ∉ X.ex
 exfs : ∀ b ∈ X.ex, b ∉ X.fs
 funs : X.s₀.heap.FunFrames X.base X.outer
 frf : ∀ b ∈ X.fs, X.H₀ b = none
structure Inv (X : Cx) (pins : List (Addr × Obj)) (σ : List (Option V)) (H : Hp) (s : Shared) : Prop where
 ok : X.Ok
 os : s.os = X.s₀.os
 bare : AllBare s.gens
 base : Un X.fs X.ex X.H₀ H X.s₀.heap s.heap
 loc : ∃ m, s.heap.Ns X.env.locals m ∧ ∀ (i : Nat) (x : Str) (v : V), X.N[i]? = some x → σ[i]? = some (some v) → Vis X.env.scope x → ∃ u, bN v u ∧ aQK X.env s.heap m x u
 cell : ∀ x c, X.env.cells.lookup x = some c → ∃ v, s.heap.IsCell c v
 free : H X.env.locals = none
 freeC : ∀ x c, X.env.cells.lookup x = some c → H c = none
 pin : ∀ p ∈ X.pn ++ pins, s.heap.get? p.1 = some p.2 ∧ H p.1 = none ∧ p.1 ≠ X.env.locals ∧ p.1 ∉ X.fs ∧ ∀ v, p.2.data ≠ .cell v
 hok : HOk X.prog X.w H s.heap
 len : σ.length = X.N.length
section
variable {X : Cx} {pins : List (Addr × Obj)} {σ : List (Option V)} {H H' : Hp} {s : Shared} {h' : Heap}
theorem Cx.Ok.nofr (ok : X.Ok) {b : Addr} {o : Obj} (e : X.base.get? b = some o) : b ∉ X.fs := fun hb => by
 have := (ok.funs.mem hb).1
 rw [e] at this; cases this
theorem Inv.bs (I : Inv X pins σ H s) : ∀ b o, X.base.get? b = some o → s.heap.get? b = some o ∧ H b = none := fun b o e =>
 ⟨I.base.keep b o (I.ok.bs b o e).1 (I.ok.bs b o e).2 (I.ok.nofr e) (I.ok.noex b o e), I.base.free b o (I.ok.bs b o e).1 (I.ok.bs b o e).2 (I.ok.noex b o e)⟩
theorem Inv.bk (I : Inv X pins σ H s) : ∀ b o, X.base.get? b = some o → s.heap.get? b = some o := fun b o e => (I.bs b o e).1
theorem Inv.mod (I : Inv X pins σ H s) : Mod X.K X.mg X.base := I.ok.mod
theorem Inv.kIn (I : Inv X pins σ H s) : X.K.In s.heap := I.ok.mod.kin.keeps I.bk
theorem Inv.fr (I : Inv X pins σ H s) : ∃ m, Fr X.base X.env.locals s.heap m :=
 let ⟨m, hn, _⟩ := I.loc
 ⟨m, hn, I.bk, Nat.le_trans I.ok.bsz I.ok.above⟩
theorem Inv.lt (I : Inv X pins σ H s) : X.env.locals < s.heap.objs.size := let ⟨_, hn, _⟩ := I.loc; hn.lt
theorem Inv.sz (I : Inv X pins σ H s) : X.s₀.heap.objs.size ≤ s.heap.objs.size := Nat.le_trans I.ok.above (Nat.le_of_lt I.lt)
theorem Inv.nofs (I : Inv X pins σ H s) {a : Addr} (h : s.heap.objs.size ≤ a) : a ∉ X.fs := fun hb => by
 obtain ⟨_, o, ho, _⟩ := I.ok.funs.mem hb
 exact absurd (Nat.lt_of_lt_of_le (Heap.lt_size ho) (Nat.le_trans I.sz h)) (Nat.lt_irrefl _)
theorem Inv.cne (I : Inv X pins σ H s) : ∀ x c, X.env.cells.lookup x = some c → c ≠ X.env.locals := fun x c e z => by
 obtain ⟨v, o, ho, hd⟩ := I.cell x c e
 obtain ⟨m, ⟨o', es, ep, ho', hd', _⟩, _⟩ := I.loc
 rw [z, ho'] at ho; cases ho; rw [hd'] at hd; cases hd
theorem Inv.funs (I : Inv X pins σ H s) : s.heap.FunFrames X.base X.outer := by
 have all : ∀ (l : List Env), (∀ b ∈ frs l, b ∈ X.fs) → X.s₀.heap.FunFrames X.base l → s.heap.FunFrames X.base l := by
  intro l
  induction l with
  | nil => intro _ _; trivial
  | cons env r ih =>
   intro hs hl
   obtain ⟨hk, ⟨L, o, hf, hn, ho, hd⟩, hr⟩ := hl
   have hL : L ∈ X.fs := hs L (by unfold frs; rw [List.filterMap_cons, hf]; exact List.mem_cons_self)
   obtain ⟨sl, e⟩ := I.base.slot L o ho (I.ok.frf L hL) hL fun z => I.ok.exfs L z hL
   exact ⟨hk, ⟨L, _, hf, hn, e, hd⟩, ih (fun b hb => hs b (by unfold frs; rw [List.filterMap_cons, hf]; exact List.mem_cons_of_mem _ hb)) hr⟩
 exact all X.outer (fun _ hb => hb) I.ok.funs
theorem Inv.stack (I : Inv X pins σ H s) : s.heap.FunFrames X.base X.stack := by
 rcases I.ok.stk with e | ⟨e, hf⟩
 ·rw [e]; exact I.funs
 ·rw [e]
  obtain ⟨m, hn, _⟩ := I.loc
  refine .cons (by rw [I.ok.kind]; decide) hf hn ?_ I.funs
  exact Heap.get?_none_of_le (Nat.le_trans I.ok.bsz I.ok.above)
theorem Inv.stkSub (I : Inv X pins σ H s) : ∀ b ∈ frs X.stack, b ∈ X.env.locals :: X.fs := fun b hb => by
 rcases I.ok.stk with e | ⟨e, hf⟩
 ·rw [e] at hb; exact List.mem_cons_of_mem _ hb
 ·rw [e] at hb
  unfold frs at hb
  rw [List.filterMap_cons, hf] at hb
  exact hb
theorem Inv.stkFree (I : Inv X pins σ H s) : ∀ b ∈ frs X.stack, H b = none := fun b hb => by
 rcases List.mem_cons.mp (I.stkSub b hb) with e | hb
 ·rw [e]; exact I.free
 ·obtain ⟨_, o, ho, _⟩ := I.ok.funs.mem hb
  exact I.base.free b o ho (I.ok.frf b hb) fun z => I.ok.exfs b z hb
theorem Inv.step {g' : Array GenState} {t' : Nat} {d' : Drawn} {ch : List Addr} (I : Inv X pins σ H s)
  (hch : ∀ b ∈ ch, (b ∈ X.ex ∨ X.s₀.heap.objs.size ≤ b) ∧ b ≠ X.env.locals ∧ (∀ x c, X.env.cells.lookup x = some c → c ≠ b) ∧ ∀ p ∈ X.pn ++ pins, p.1 ≠ b)
  (keep : ∀ b o, b ≠ X.env.locals → b ∉ X.fs → b ∉ ch → s.heap.get? b = some o → H b = none → h'.get? b = some o)
  (slot : ∀ b o, b ≠ X.env.locals → b ∈ X.fs → b ∉ ch → s.heap.get? b = some o → H b = none → ∃ sl, h'.get? b = some { o with slots := sl }) (free : ∀ b o, b ∉ ch → s.heap.get? b = some o → H b = none → H' b = none)
  (there : ∀ b o, b ∉ ch → s.heap.get? b = some o → ∃ o', h'.get? b = some o')
  (tups : ∀ b xs, H b = some (.tup xs) → H' b = some (.tup xs)) (frzs : ∀ b o u, H b = some (.frz o u) → H' b = some (.frz o u)) (tbls : ∀ b ps, H b = some (.tbl ps) → ∃ more, H' b = some (.tbl (ps ++ more)))
  (ns : ∀ m, s.heap.Ns X.env.locals m → h'.Ns X.env.locals m) (hok : HOk X.prog X.w H' h') (hg : AllBare g') :
  Inv X pins σ H' { s with heap := h', gens := g', drawn := d', toks := t' } := by
 have neL : ∀ b o, X.s₀.heap.get? b = some o → b ≠ X.env.locals := fun b o e => Nat.ne_of_lt (Nat.lt_of_lt_of_le (Heap.lt_size e) I.ok.above)
 have neC : ∀ b o, X.s₀.heap.get? b = some o → b ∉ X.ex → b ∉ ch := fun b o e hx hb => by
  rcases (hch b hb).1 with z | z
  ·exact hx z
  ·exact absurd (Nat.lt_of_lt_of_le (Heap.lt_size e) z) (Nat.lt_irrefl _)
 have cellK : ∀ x c, X.env.cells.lookup x = some c → ∀ v, s.heap.IsCell c v → h'.IsCell c v := fun x c e v ⟨o, ho, hd⟩ => by
  have nch : c ∉ ch := fun z => (hch c z).2.2.1 x c e rfl
  by_cases hc : c ∈ X.fs
  ·obtain ⟨sl, q⟩ := slot c o (I.cne x c e) hc nch ho (I.freeC x c e)
   exact ⟨_, q, hd⟩
  ·exact ⟨o, keep c o (I.cne x c e) hc nch ho (I.freeC x c e), hd⟩
 refine ⟨I.ok, I.os, hg, ⟨fun b o e n hb hx => ?_, fun b o e n hb hx => ?_, fun b o e n hx => ?_, fun b o e hx => ?_, fun b xs e => tups b xs (I.base.tups b xs e), fun b o xs e => frzs b o xs (I.base.frzs b o xs e), fun b ps e => ?_⟩, ?_, fun x c e => ?_, ?_, fun x c e => ?_, fun p hp => ?_, hok, I.len⟩
 ·exact keep b o (neL b o e) hb (neC b o e hx) (I.base.keep b o e n hb hx) (I.base.free b o e n hx)
 ·obtain ⟨sl, e1⟩ := I.base.slot b o e n hb hx
  obtain ⟨sl', e2⟩ := slot b _ (neL b o e) hb (neC b o e hx) e1 (I.base.free b o e n hx)
  exact ⟨sl', e2⟩
 ·obtain ⟨o', e1⟩ := I.base.there b o e hx
  exact free b o' (neC b o e hx) e1 (I.base.free b o e n hx)
 ·obtain ⟨o', e1⟩ := I.base.there b o e hx
  exact there b o' (neC b o e hx) e1
 ·obtain ⟨m1, e1⟩ := I.base.tbls b ps e
  obtain ⟨m2, e2⟩ := tbls b _ e1
  exact ⟨m1 ++ m2, by rw [e2, Array.append_assoc]⟩
 ·obtain ⟨m, hn, hl⟩ := I.loc
  refine ⟨m, ns m hn, fun i x v e1 e2 e3 => ?_⟩
  obtain ⟨u, r, l⟩ := hl i x v e1 e2 e3
  refine ⟨u, r, ?_⟩
  rcases l with l | ⟨k, c, e, z⟩
  ·exact .inl l
  ·exact .inr ⟨k, c, e, cellK x c e _ z⟩
 ·obtain ⟨v, z⟩ := I.cell x c e
  exact ⟨v, cellK x c e v z⟩
 ·obtain ⟨m, ⟨o, _, _, ho, _⟩, _⟩ := I.loc
  exact free _ o (fun z => (hch _ z).2.1 rfl) ho I.free
 ·obtain ⟨v, o, ho, hd⟩ := I.cell x c e
  exact free c o (fun z => (hch c z).2.2.1 x c e rfl) ho (I.freeC x c e)
 ·obtain ⟨e, n, ne, nf, d⟩ := I.pin p hp
  have nch : p.1 ∉ ch := fun z => (hch p.1 z).2.2.2 p hp rfl
  exact ⟨keep p.1 p.2 ne nf nch e n, free p.1 p.2 nch e n, ne, nf, d⟩
theorem Inv.un {t' : Nat} (I : Inv X pins σ H s) (u : Un X.fs [] H H' s.heap h') (hok : HOk X.prog X.w H' h') : Inv X pins σ H' { s with heap := h', toks := t' } := by
 obtain ⟨m, ⟨o, es, ep, ho, r⟩, _⟩ := id I.loc
 obtain ⟨sl, hL⟩ := u.any ho I.free (by simp)
 exact I.step (g' := s.gens) (d' := s.drawn) (ch := []) (fun _ z => nomatch z) (fun b o _ hb _ e n => u.keep b o e n hb (by simp)) (fun b o _ hb _ e n => u.slot b o e n hb (by simp)) (fun b o _ e n => u.free b o e n (by simp)) (fun b o _ e => u.there b o e (by simp)) u.tups u.frzs u.tbls (fun m' hm => by
  obtain ⟨o', es', ep', ho', r'⟩ := hm
  rw [ho] at ho'; cases ho'
  exact ⟨_, es', ep', hL, r'⟩) hok I.bare
theorem Inv.call {g' : Array GenState} {t' : Nat} {d' : Drawn} {ch : List Addr} (I : Inv X pins σ H s) (u : Un (frs X.stack) ch H H' s.heap h') (hok : HOk X.prog X.w H' h') (hg : AllBare g')
  (hch : ∀ b ∈ ch, (b ∈ X.ex ∨ X.s₀.heap.objs.size ≤ b) ∧ b ≠ X.env.locals ∧ (∀ x c, X.env.cells.lookup x = some c → c ≠ b) ∧ ∀ p ∈ X.pn ++ pins, p.1 ≠ b) :
  Inv X pins σ H' { s with heap := h', gens := g', drawn := d', toks := t' } := by
 obtain ⟨m, ⟨o, es, ep, ho, r⟩, _⟩ := id I.loc
 obtain ⟨sl, hL⟩ := u.any ho I.free fun z => (hch _ z).2.1 rfl
 exact I.step (ch := ch) hch (fun b o hL hb hc e n => u.keep b o e n (fun z => (List.mem_cons.mp (I.stkSub b z)).elim hL hb) hc) (fun b o _ _ hc e n => u.any e n hc) (fun b o hc e n => u.free b o e n hc) (fun b o hc e => u.there b o e hc) u.tups u.frzs u.tbls (fun m' hm => by
  obtain ⟨o', es', ep', ho', r'⟩ := hm
  rw [ho] at ho'; cases ho'
  exact ⟨_, es', ep', hL, r'⟩) hok hg
theorem Inv.turned {t' : Nat} {it : Addr} (I : Inv X pins σ H s) (k : ∀ b o, b ≠ it → s.heap.get? b = some o → h'.get? b = some o) (hn : H it = none) (hL : it ≠ X.env.locals)
  (h1 : it ∈ X.ex ∨ X.s₀.heap.objs.size ≤ it) (h2 : ∀ x c, X.env.cells.lookup x = some c → c ≠ it) (h3 : ∀ p ∈ X.pn ++ pins, p.1 ≠ it) : Inv X pins σ H { s with heap := h', toks := t' } := by
 have nit : ∀ b u, H b = some u → b ≠ it := fun b u e z => by rw [z, hn] at e; cases e
 refine I.step (g' := s.gens) (d' := s.drawn) (ch := [it]) (fun b hb => ?_) (fun b o _ _ hc e _ => k b o (fun z => hc (by simp [z])) e) (fun b o _ _ hc e _ => ⟨o.slots, k b o (fun z => hc (by simp [z])) e⟩) (fun _ _ _ _ n => n)
  (fun b o hc e => ⟨o, k b o (fun z => hc (by simp [z])) e⟩) (fun _ _ e => e) (fun _ _ _ e => e) (fun b ps e => ⟨#[], by rw [e]; simp⟩) (fun m hm => ?_) (fun b u e => ?_) I.bare
 ·have e : b = it := by simpa using hb
  subst e
  exact ⟨h1, hL, h2, h3⟩
 ·obtain ⟨o, es, ep, ho, r⟩ := hm
  exact ⟨o, es, ep, k _ o (Ne.symm hL) ho, r⟩
 ·refine (I.hok b u e).stay (fun c v hc q => k c v ?_ q) (fun _ q => q) fun _ _ q => q
  rcases hc with z | z
  ·rw [z]; exact nit b u e
  ·exact nit c _ z
theorem Inv.tok (I : Inv X pins σ H s) (t : Nat) : Inv X pins σ H { s with toks := t } := I.un (h' := s.heap) (t' := t) Un.refl I.hok
theorem Inv.kept {t' : Nat} (I : Inv X pins σ H s) (k : ∀ b u, s.heap.get? b = some u → h'.get? b = some u) : Inv X pins σ H { s with heap := h', toks := t' } := I.un (Un.kept k) (I.hok.kept k)
theorem Inv.laid {a : Addr} {o : HO} {t' : Nat} (I : Inv X pins σ H s) (k : ∀ b u, s.heap.get? b = some u → h'.get? b = some u) (hp : s.heap.objs.size ≤ a) (new : cU X.prog X.w (upd H a o) h' a o) :
  Inv X pins σ (upd H a o) { s with heap := h', toks := t' } := I.un (Un.laid k hp (I.hok.fresh hp)) (I.hok.laid k hp new)
theorem Inv.write {x e : Addr} {o : HO} {t' : Nat} (I : Inv X pins σ H s) (mu : Mut (H x)) (he : e = x ∨ H e = some (.own x)) (k : ∀ b u, b ≠ e → s.heap.get? b = some u → h'.get? b = some u) (heo : ∃ u, h'.get? e = some u)
  (new : cU X.prog X.w (upd H x o) h' x o) : Inv X pins σ (upd H x o) { s with heap := h', toks := t' } := I.un (Un.write mu he k heo) (I.hok.write mu he k heo new)
theorem Inv.weak {σ' : List (Option V)} (I : Inv X pins σ H s) (hl : σ'.length = σ.length) (w : ∀ (i : Nat) v, σ'[i]? = some (some v) → σ[i]? = some (some v)) : Inv X pins σ' H s :=
 ⟨I.ok, I.os, I.bare, I.base, let ⟨m, hn, hl'⟩ := I.loc; ⟨m, hn, fun i x v e1 e2 e3 => hl' i x v e1 (w i v e2) e3⟩, I.cell, I.free, I.freeC, I.pin, I.hok, hl.trans I.len⟩
theorem Inv.pins_of {pins' : List (Addr × Obj)} (I : Inv X pins σ H s) (h : ∀ p ∈ pins', s.heap.get? p.1 = some p.2 ∧ H p.1 = none ∧ p.1 ≠ X.env.locals ∧ p.1 ∉ X.fs ∧ ∀ v, p.2.data ≠ .cell v) : Inv X pins' σ H s :=
 ⟨I.ok, I.os, I.bare, I.base, I.loc, I.cell, I.free, I.freeC, fun p hp => (List.mem_append.mp hp).elim (fun z => I.pin p (List.mem_append_left _ z)) (h p), I.hok, I.len⟩
theorem aBA {N : List Str} (hN : N.Nodup) {i j : Nat} {x : Str} (a : N[i]? = some x) (b : N[j]? = some x) : i = j := by
 obtain ⟨h1, e1⟩ := List.getElem?_eq_some_iff.mp a
 obtain ⟨h2, e2⟩ := List.getElem?_eq_some_iff.mp b
 exact (List.getElem_inj hN).mp (e1.trans e2.symm)
theorem aFQ {M : Model} {A : Around} {E : Value → Shared → Prop} {i : Nat} {x : Str} {v : V} {u : Value} {Q : Unit → Shared → Prop} (I : Inv X pins σ H s) (hN : X.N.Nodup) (hi : X.N[i]? = some x) (hx : Loc X.env.scope x) (r : bN v u)
  (h : ∀ s', Inv X pins (σ.set i (some v)) H s' → (∃ a, Heap.SameBut a s.heap s'.heap ∧ (a = X.env.locals ∨ X.env.cells.lookup x = some a)) → Q () s') (hf : X.fn x = true ∨ X.env.scope.names.lookup x = some .local := by first | exact .inl rfl | exact .inr rfl | assumption) : wpAny M A (storeName X.env x u) Q E s := by
 obtain ⟨m, hn, hl⟩ := id I.loc
 have hcls : (X.env.scope.kind == .class || (X.env.scope.kind == .module && X.env.locals != X.env.globals)) = false := by rw [I.ok.kind]; rfl
 have hiσ : i < σ.length := by rw [I.len]; exact (List.getElem?_eq_some_iff.mp hi).1
 have cne := I.cne
 have tracked : ∀ {a : Addr} {h' : Heap}, (∃ o, s.heap.get? a = some o ∧ H a = none) → Heap.SameBut a s.heap h' → HOk X.prog X.w H h' := fun {a h'} ha hs b ob e => by
  obtain ⟨_, _, hfree⟩ := ha
  refine (I.hok b ob e).stay (fun c w' hc q => (hs.2 c ?_).trans q) (fun _ q => q) fun _ _ q => q
  rintro rfl
  rcases hc with rfl | hc
  ·rw [hfree] at e; cases e
  ·rw [hfree] at hc; cases hc
 rcases hx with hk | hk
 ·refine wpAny_storeName_local hk hn (fun h' hn' hs => ?_) hcls
  obtain ⟨oL, _, _, hoL, _⟩ := id hn
  refine h _ ⟨I.ok, I.os, I.bare, ⟨fun b o e n hb hx => ?_, fun b o e n hb hx => ?_, I.base.free, fun b o e hx => ?_, I.base.tups, I.base.frzs, I.base.tbls⟩, ⟨_, hn', fun j y v' e1 e2 e3 => ?_⟩, fun y c e => ?_, I.free, I.freeC, fun p hp => ?_, tracked ⟨oL, hoL, I.free⟩ hs, by simpa using I.len⟩ ⟨_, hs, .inl rfl⟩
  ·exact (hs.2 b (Nat.ne_of_lt (Nat.lt_of_lt_of_le (Heap.lt_size e) I.ok.above))).trans (I.base.keep b o e n hb hx)
  ·obtain ⟨sl, e1⟩ := I.base.slot b o e n hb hx
   exact ⟨sl, (hs.2 b (Nat.ne_of_lt (Nat.lt_of_lt_of_le (Heap.lt_size e) I.ok.above))).trans e1⟩
  ·obtain ⟨o', e1⟩ := I.base.there b o e hx
   exact ⟨o', (hs.2 b (Nat.ne_of_lt (Nat.lt_of_lt_of_le (Heap.lt_size e) I.ok.above))).trans e1⟩
  ·by_cases hj : j = i
   ·subst hj
    rw [hi] at e1; cases e1
    rw [List.getElem?_set_self hiσ] at e2
    cases e2
    exact ⟨u, r, .inl ⟨hk, by simp⟩⟩
   ·rw [List.getElem?_set_ne (Ne.symm hj)] at e2
    obtain ⟨u', r', q⟩ := hl j y v' e1 e2 e3
    refine ⟨u', r', ?_⟩
    rcases q with ⟨k, e⟩ | ⟨k, c, e, z⟩
    ·refine .inl ⟨k, ?_⟩
     have : y ≠ x := fun e => hj (aBA hN e1 (e ▸ hi))
     simp [this, e]
    ·exact .inr ⟨k, c, e, z.sameBut hs (cne y c e)⟩
  ·obtain ⟨w', z⟩ := I.cell y c e
   exact ⟨w', z.sameBut hs (cne y c e)⟩
  ·obtain ⟨e, n, ne, nf, d⟩ := I.pin p hp
   exact ⟨(hs.2 p.1 ne).trans e, n, ne, nf, d⟩
 ·have hfn : X.fn x = true := by
   rcases hf with z | z
   ·exact z
   ·rw [z] at hk; cases hk
  obtain ⟨c, hc⟩ := I.ok.has x (.inl hk)
  obtain ⟨w', z⟩ := I.cell x c hc
  refine wpAny_storeName_cell I.ok.kind hk hc z (fun h' hc' hs => ?_)
  obtain ⟨oc, hoc, hocd⟩ := id z
  refine h { s with heap := h' } ⟨I.ok, I.os, I.bare, ⟨fun b o e n hb hx => ?_, fun b o e n hb hx => ?_, I.base.free, fun b o e hx => ?_, I.base.tups, I.base.frzs, I.base.tbls⟩, ⟨m, hn.sameBut hs (Ne.symm (cne x c hc)), fun j y v' e1 e2 e3 => ?_⟩, fun y c' e => ?_, I.free, I.freeC, fun p hp => ?_, tracked ⟨oc, hoc, I.freeC x c hc⟩ hs, by simpa using I.len⟩ ⟨c, hs, .inr hc⟩
  ·exact (hs.2 b (Nat.ne_of_lt (Nat.lt_of_lt_of_le (Heap.lt_size e) (I.ok.cab x c hfn hc)))).trans (I.base.keep b o e n hb hx)
  ·obtain ⟨sl, e1⟩ := I.base.slot b o e n hb hx
   exact ⟨sl, (hs.2 b (Nat.ne_of_lt (Nat.lt_of_lt_of_le (Heap.lt_size e) (I.ok.cab x c hfn hc)))).trans e1⟩
  ·obtain ⟨o', e1⟩ := I.base.there b o e hx
   exact ⟨o', (hs.2 b (Nat.ne_of_lt (Nat.lt_of_lt_of_le (Heap.lt_size e) (I.ok.cab x c hfn hc)))).trans e1⟩
  ·by_cases hj : j = i
   ·subst hj
    rw [hi] at e1; cases e1
    rw [List.getElem?_set_self hiσ] at e2
    cases e2
    exact ⟨u, r, .inr ⟨.inl hk, c, hc, hc'⟩⟩
   ·rw [List.getElem?_set_ne (Ne.symm hj)] at e2
    obtain ⟨u', r', q⟩ := hl j y v' e1 e2 e3
    refine ⟨u', r', ?_⟩
    rcases q with q | ⟨k, c', e, z'⟩
    ·exact .inl q
    ·refine .inr ⟨k, c', e, z'.sameBut hs ?_⟩
     rintro rfl
     exact hj (aBA hN e1 (I.ok.inj _ _ _ e hc ▸ hi))
  ·by_cases hcc : c' = c
   ·subst hcc; exact ⟨_, hc'⟩
   ·obtain ⟨w2, z2⟩ := I.cell y c' e
    exact ⟨w2, z2.sameBut hs hcc⟩
  ·obtain ⟨e, n, ne, nf, d⟩ := I.pin p hp
   refine ⟨(hs.2 p.1 ?_).trans e, n, ne, nf, d⟩
   intro q
   rw [q, hoc] at e
   have q' : oc = p.2 := Option.some.inj e
   exact d w' (by rw [← q']; exact hocd)
theorem zZ {M : Model} {A : Around} {E : Value → Shared → Prop} {i : Nat} {x : Str} {v : V} {u : Value} {Q : Unit → Shared → Prop} (I : Inv X pins σ H s) (hN : X.N.Nodup) (hi : X.N[i]? = some x) (hx : Loc X.env.scope x) (r : bN v u)
  (h : ∀ s', Inv X pins (σ.set i (some v)) H s' → Q () s') (hf : X.fn x = true ∨ X.env.scope.names.lookup x = some .local := by first | exact .inl rfl | exact .inr rfl | assumption) : wpAny M A (storeName X.env x u) Q E s :=
 aFQ I hN hi hx r (fun s' I' _ => h s' I') hf
theorem Inv.call' {s' : Shared} {ch : List Addr} (I : Inv X pins σ H s) (ho : s'.os = s.os) (u : Un (frs X.stack) ch H H' s.heap s'.heap) (hok : HOk X.prog X.w H' s'.heap) (hg : AllBare s'.gens)
  (hch : ∀ b ∈ ch, (b ∈ X.ex ∨ X.s₀.heap.objs.size ≤ b) ∧ b ≠ X.env.locals ∧ (∀ x c, X.env.cells.lookup x = some c → c ≠ b) ∧ ∀ p ∈ X.pn ++ pins, p.1 ≠ b) : Inv X pins σ H' s' := by
 obtain ⟨h', g', d', t', o'⟩ := s'
 have e : o' = s.os := ho
 subst e
 exact I.call (g' := g') (t' := t') (d' := d') u hok hg hch
end
abbrev XK := Value → Option Addr → Hp → Prop
abbrev St := List (Option V)
abbrev VK := V → Hp → Prop
abbrev TE := St → Hp → VK → Prop
abbrev TT := St → Hp → (Bool → Hp → Prop) → Prop
abbrev TA := St → Hp → (List V → Hp → Prop) → Prop
structure Ends where
 nx : St → Hp → Prop
 rt : VK
 bk : St → Hp → Prop := fun _ _ => False
 ct : St → Hp → Prop := fun _ _ => False
abbrev TS := Ends → St → Hp → Prop
def EP (X : Cx) (pins : List (Addr × Obj)) (σ : St) (Q : VK) (u : Value) (s' : Shared) : Prop := ∃ v H', Inv X pins σ H' s' ∧ bN v u ∧ Q v H'
def TP (X : Cx) (pins : List (Addr × Obj)) (σ : St) (Q : Bool → Hp → Prop) (b : Bool) (s' : Shared) : Prop := ∃ H', Inv X pins σ H' s' ∧ Q b H'
def AP (X : Cx) (pins : List (Addr × Obj)) (σ : St) (Q : List V → Hp → Prop) (us : List Value) (s' : Shared) : Prop := ∃ vs H', Inv X pins σ H' s' ∧ bO vs us ∧ Q vs H'
def SP (X : Cx) (pins : List (Addr × Obj)) (D : Ends) (f : Flow) (s' : Shared) : Prop :=
 match f with
 | .next => ∃ σ' H', Inv X pins σ' H' s' ∧ D.nx σ' H'
 | .brk => ∃ σ' H', Inv X pins σ' H' s' ∧ D.bk σ' H'
 | .cont => ∃ σ' H', Inv X pins σ' H' s' ∧ D.ct σ' H'
 | .ret u => ∃ v σ' H', Inv X pins σ' H' s' ∧ bN v u ∧ D.rt v H'
def PE (X : Cx) (e : Expr) (t : TE) : Prop :=
 ∀ (pins : List (Addr × Obj)) (s : Shared) (σ : St) (H : Hp) (Q : VK), Inv X pins σ H s → t σ H Q → wpAny (model X.prog X.w) X.A (eval e X.env) (EP X pins σ Q) X.xe s
def PT (X : Cx) (e : Expr) (t : TT) : Prop :=
 ∀ (pins : List (Addr × Obj)) (s : Shared) (σ : St) (H : Hp) (Q : Bool → Hp → Prop), Inv X pins σ H s → t σ H Q → wpAny (model X.prog X.w) X.A (isTrue e X.env (eval e X.env)) (TP X pins σ Q) X.xe s
def PW (X : Cx) (e : Expr) (t : TT) : Prop :=
 ∀ (whole : Sem Value) (pins : List (Addr × Obj)) (s : Shared) (σ : St) (H : Hp) (Q : Bool → Hp → Prop), Inv X pins σ H s → t σ H Q → wpAny (model X.prog X.w) X.A (isTrue e X.env whole) (TP X pins σ Q) X.xe s
theorem PW.pt {X : Cx} {e : Expr} {t : TT} (h : PW X e t) : PT X e t := h _
def PA (X : Cx) (es : List Expr) (t : TA) : Prop :=
 ∀ (pos : Pos) (pins : List (Addr × Obj)) (s : Shared) (σ : St) (H : Hp) (Q : List V → Hp → Prop), Inv X pins σ H s → t σ H Q → wpAny (model X.prog X.w) X.A (spliced (backTo pos (starEach es X.env))) (AP X pins σ Q) X.xe s
def PS (X : Cx) (st : Stmt) (t : TS) : Prop :=
 ∀ (pins : List (Addr × Obj)) (s : Shared) (σ : St) (H : Hp) (D : Ends), Inv X pins σ H s → t D σ H → wpAny (model X.prog X.w) X.A (exec st X.env) (SP X pins D) X.xe s
def PSs (X : Cx) (st : List Stmt) (t : TS) : Prop :=
 ∀ (pins : List (Addr × Obj)) (s : Shared) (σ : St) (H : Hp) (D : Ends), Inv X pins σ H s → t D σ H → wpAny (model X.prog X.w) X.A (execs st X.env) (SP X pins D) X.xe s
theorem thn {α : Type} {t : Sem α} {Q Q' : α → Shared → Prop} {M : Model} {A : Around} {E : Value → Shared → Prop} {s : Shared} (h : wpAny M A t Q E s) (hQ : ∀ a s, Q a s → Q' a s) : wpAny M A t Q' E s := wpAny_mono h hQ fun _ _ x => x
end L2
namespace L2
open PySem PySem.Spec PyProof.Rows
section
variable {X : Cx}
def aOA (i : Nat) : TE := fun σ H Q => ∃ v, σ[i]? = some (some v) ∧ Q v H
def tC (v : V) : TE := fun _ H Q => Q v H
theorem aMV {i : Nat} {x : Str} {pos : Pos} (hN : X.N[i]? = some x) (hv : Vis X.env.scope x) (hd : (x == ("__debug__" : Str)) = false := by decide) (hcd : (x == ("__classdict__" : Str)) = false := by decide) : PE X (.Name x pos) (aOA i) := by
 intro pins s σ H Q I h
 obtain ⟨v, e, h⟩ := h
 obtain ⟨m, hn, hl⟩ := I.loc
 obtain ⟨u, r, l⟩ := hl i x v hN e hv
 have fin : EP X pins σ Q u s := ⟨v, H, I, r, h⟩
 rcases l with ⟨hk, hm⟩ | ⟨hk, c, hc, hcell⟩
 ·exact wpAny_Name (wpAny_loadName_local I.ok.kind hk hn hm fin) hd
 ·rcases hk with hk | hk
  ·exact wpAny_Name (wpAny_loadName_cell I.ok.kind hk hc hcell fin) hd
  ·exact wpAny_Name (wpAny_loadName_free I.ok.kind hk hc hcell fin hcd) hd
theorem aE {i j pos} : PE X (.Constant (.int i) j pos) (tC (.int i)) := fun _ _ _ H _ I h => wpAny_Constant_int ⟨.int i, H, I.tok _, ⟨_, rfl⟩, h⟩
theorem lY {b j pos} : PE X (.Constant (.bool b) j pos) (tC (.bl b)) := fun _ _ _ H _ I h => Constant_bool ⟨.bl b, H, I, rfl, h⟩
theorem eO {j pos} : PE X (.Constant .none j pos) (tC .non) := fun _ _ _ H _ I h => Constant_none ⟨.non, H, I, rfl, h⟩
theorem qT {x j pos} : PE X (.Constant (.str x) j pos) (tC (.str x)) := fun _ _ _ H _ I h => Calls.Constant_str ⟨.str x, H, I.tok _, ⟨_, rfl⟩, h⟩
def Gl (X : Cx) (x : Str) : Prop := X.env.kindOf x = some .globalImplicit
theorem yZ {E : Value → Shared → Prop} {pins : List (Addr × Obj)} {s : Shared} {σ : St} {H : Hp} {x : Str} {u : Value} {pos : Pos} {Q : Value → Shared → Prop} (I : Inv X pins σ H s) (hg : Gl X x) (hm : X.mg x = some u) (h : Q u s)
  (hd : (x == ("__debug__" : Str)) = false := by decide) : wpAny (model X.prog X.w) X.A (eval (.Name x pos) X.env) Q E s :=
 Calls.Name_function_global I.ok.kind hg (Calls.loadGlobal_global (by rw [I.ok.glob]; exact I.mod.glob.keeps I.bk) hm h) hd
theorem rB {E : Value → Shared → Prop} {pins : List (Addr × Obj)} {s : Shared} {σ : St} {H : Hp} {x : Str} {u : Value} {pos : Pos} {Q : Value → Shared → Prop} (I : Inv X pins σ H s) (hg : Gl X x) (hm : X.mg x = none) (hv : bootBuiltins x = some u) (h : Q u s)
  (hn : x ≠ "__name__" := by decide) (hd : (x == ("__debug__" : Str)) = false := by decide) : wpAny (model X.prog X.w) X.A (eval (.Name x pos) X.env) Q E s := by
 obtain ⟨mb, h1, h2⟩ := I.mod.blt
 exact Calls.Name_function_global I.ok.kind hg (Calls.loadGlobal_builtin (by rw [I.ok.glob]; exact I.mod.glob.keeps I.bk) hm (by rw [I.ok.blt]; exact h1.keeps I.bk) ((h2 x hn).trans hv) h) hd
theorem aKP {x : Str} {v : V} {u : Value} {pos : Pos} (hg : Gl X x) (hm : X.mg x = some u) (r : bN v u) (hd : (x == ("__debug__" : Str)) = false := by decide) : PE X (.Name x pos) (tC v) :=
 fun _ _ _ H _ I h => yZ I hg hm ⟨v, H, I, r, h⟩ hd
theorem aKS {x : Str} {v : V} {u : Value} {pos : Pos} (hg : Gl X x) (hm : X.mg x = none) (hv : bootBuiltins x = some u) (r : bN v u) (hn : x ≠ "__name__" := by decide) (hd : (x == ("__debug__" : Str)) = false := by decide) : PE X (.Name x pos) (tC v) :=
 fun _ _ _ H _ I h => rB I hg hm hv ⟨v, H, I, r, h⟩ hn hd
def t2I (ta tb : TE) (k : Int → Int → Hp → Prop) : St → Hp → Prop := fun σ H => ta σ H fun x H1 => tb σ H1 fun y H2 => ∃ i j, x = .int i ∧ y = .int j ∧ k i j H2
variable {a b : Expr} {ta tb : TE} {pos : Pos}
def PC (X : Cx) (op : CmpOp) (a b : Expr) (t : TE) : Prop :=
 ∀ (pins : List (Addr × Obj)) (s : Shared) (σ : St) (H : Hp) (Q : VK), Inv X pins σ H s → t σ H Q →
  wpAny (model X.prog X.w) X.A (eval a X.env) (fun v s₁ => wpAny (model X.prog X.w) X.A (eval b X.env) (fun u s₂ => wpAny (model X.prog X.w) X.A (compareOp op v u) (EP X pins σ Q) X.xe s₂) X.xe s₁) X.xe s
def tCmp (p : Int → Int → Bool) (ta tb : TE) : TE := fun σ H Q => t2I ta tb (fun i j H2 => Q (.bl (p i j)) H2) σ H
def tB (t : TE) : TT := fun σ H Q => t σ H fun x H1 => ∃ c, x = .bl c ∧ Q c H1
theorem aMW {op : CmpOp} {t : TE} (h : PC X op a b t) (h1 : behindInMarks op b = false := by first | exact nobehind _ (by decide) (by decide) | rfl) : PE X (.Compare a [op] [b] pos) t := fun pins s σ H Q I hw => wpAny_Compare1 (h pins s σ H Q I hw) h1
theorem yL {op : CmpOp} {t : TE} (h : PC X op a b t) (h1 : behindInMarks op b = false := by first | exact nobehind _ (by decide) (by decide) | rfl) : PT X (.Compare a [op] [b] pos) (tB t) := by
 intro pins s σ H Q I hw
 refine wpAny_isTrue_Compare1 (thn (h pins s σ H _ I hw) fun v s1 h1 => thn h1 fun u s2 h2 => thn h2 fun c s3 ⟨x, H1, I1, r1, q1⟩ => ?_) h1
 obtain ⟨d, rfl, q⟩ := q1
 cases r1
 exact wpAny_truthy_bool ⟨H1, I1, q⟩
theorem cG {e : Expr} {t : TE} (h : PE X e t) (he : ∀ whole, isTrue e X.env whole = (do let v ← whole; standAt e.pos; holding [v] (truthy v)) := by intro _; rfl) : PT X e (tB t) := by
 intro pins s σ H Q I hw
 refine isTrue_plain (thn (h pins s σ H _ I hw) fun v s1 ⟨x, H1, I1, r1, q1⟩ => ?_) (he _)
 obtain ⟨d, rfl, q⟩ := q1
 cases r1
 exact wpAny_truthy_bool ⟨H1, I1, q⟩
variable {tA tB' : TT} {sM : List Expr}
def aPZ (t u : TT) : TT := fun σ H Q => t σ H fun c H1 => if c = true then u σ H1 Q else Q false H1
def tOr (t u : TT) : TT := fun σ H Q => t σ H fun c H1 => if c = true then Q true H1 else u σ H1 Q
def aPS (t : TT) : TT := fun σ H Q => t σ H fun c H1 => Q (!c) H1
theorem oT (ha : PT X a tA) : PW X (.BoolOp .And [a] pos) tA := by
 intro wh pins s σ H Q I h
 refine isTrue_and (thn (ha pins s σ H Q I h) fun c s1 e => ?_)
 cases c with
 | true => exact isTrue_and_nil e
 | false => exact e
theorem fD (ha : PT X a tA) : PW X (.BoolOp .Or [a] pos) tA := by
 intro wh pins s σ H Q I h
 refine isTrue_or (thn (ha pins s σ H Q I h) fun c s1 e => ?_)
 cases c with
 | false => exact isTrue_or_nil e
 | true => exact e
theorem pN (ha : PT X a tA) (hb : PW X (.BoolOp .And (b :: sM) pos) tB') : PW X (.BoolOp .And (a :: b :: sM) pos) (aPZ tA tB') := by
 intro wh pins s σ H Q I h
 refine isTrue_and (thn (ha pins s σ H _ I h) fun c s1 ⟨H1, I1, q1⟩ => ?_)
 cases c with
 | true => exact hb wh pins s1 σ H1 Q I1 q1
 | false => exact ⟨H1, I1, q1⟩
theorem fE (ha : PT X a tA) (hb : PW X (.BoolOp .Or (b :: sM) pos) tB') : PW X (.BoolOp .Or (a :: b :: sM) pos) (tOr tA tB') := by
 intro wh pins s σ H Q I h
 refine isTrue_or (thn (ha pins s σ H _ I h) fun c s1 ⟨H1, I1, q1⟩ => ?_)
 cases c with
 | true => exact ⟨H1, I1, q1⟩
 | false => exact hb wh pins s1 σ H1 Q I1 q1
theorem cK (ha : PT X a tA) : PT X (.UnaryOp .Not a pos) (aPS tA) := by
 intro pins s σ H Q I h
 exact isTrue_not (ha pins s σ H (fun c H1 => Q (!c) H1) I h)
def aOJ (ta tb : TE) : TE := fun σ H Q => ta σ H fun x H1 => ∃ c, x = .bl c ∧ if c = true then tb σ H1 Q else Q (.bl false) H1
def aPR (ta tb : TE) : TE := fun σ H Q => ta σ H fun x H1 => ∃ c, x = .bl c ∧ if c = true then Q (.bl true) H1 else tb σ H1 Q
def aOD (ta : TE) : TE := fun σ H Q => ta σ H fun x H1 => ∃ c, x = .bl c ∧ Q (.bl (!c)) H1
theorem dS {op} {t : TE} (h : PE X a t) : PE X (.BoolOp op [a] pos) t := fun pins s σ H Q I hw => BoolOp_one (h pins s σ H Q I hw)
theorem dA (ha : PE X a ta) (hb : PE X (.BoolOp .And (b :: sM) pos) tb) : PE X (.BoolOp .And (a :: b :: sM) pos) (aOJ ta tb) := by
 intro pins s σ H Q I h
 refine BoolOp_and (thn (ha pins s σ H _ I h) fun v s1 ⟨x, H1, I1, r1, q1⟩ => ?_)
 obtain ⟨c, rfl, q1⟩ := q1
 cases r1
 refine wpAny_truthy_bool ?_
 cases c with
 | true => exact hb pins s1 σ H1 Q I1 q1
 | false => exact ⟨.bl false, H1, I1, rfl, q1⟩
theorem aMB (ha : PE X a ta) (hb : PE X (.BoolOp .Or (b :: sM) pos) tb) : PE X (.BoolOp .Or (a :: b :: sM) pos) (aPR ta tb) := by
 intro pins s σ H Q I h
 refine BoolOp_or (thn (ha pins s σ H _ I h) fun v s1 ⟨x, H1, I1, r1, q1⟩ => ?_)
 obtain ⟨c, rfl, q1⟩ := q1
 cases r1
 refine wpAny_truthy_bool ?_
 cases c with
 | false => exact hb pins s1 σ H1 Q I1 q1
 | true => exact ⟨.bl true, H1, I1, rfl, q1⟩
theorem aIK (ha : PE X a ta) : PE X (.UnaryOp .Not a pos) (aOD ta) := by
 intro pins s σ H Q I h
 refine UnaryOp_ (thn (ha pins s σ H _ I h) fun v s1 ⟨x, H1, I1, r1, q1⟩ => ?_)
 obtain ⟨c, rfl, q1⟩ := q1
 cases r1
 exact not_of (wpAny_truthy_bool ⟨.bl (!c), H1, I1, rfl, q1⟩)
def tIf (t : TT) (ta tb : TE) : TE := fun σ H Q => t σ H fun c H1 => if c = true then ta σ H1 Q else tb σ H1 Q
theorem aIM {c : Expr} (hc : PT X c tA) (ha : PE X a ta) (hb : PE X b tb) : PE X (.IfExp c a b pos) (tIf tA ta tb) := by
 intro pins s σ H Q I h
 refine wpAny_IfExp (thn (hc pins s σ H _ I h) fun d s1 ⟨H1, I1, q1⟩ => ?_)
 cases d with
 | true => exact ha pins s1 σ H1 Q I1 q1
 | false => exact hb pins s1 σ H1 Q I1 q1
end
end L2
namespace L2
open PySem PySem.Spec PyProof.Rows
def SqL (K : PySem.W.Frag) (H : Hp) (a : Addr) (xs : List V) : Prop :=
 Rd H a (.lst xs) ∨
  ∃ (o : Obj) (its : Array Value) (n : Nat), K.lookup a = some o ∧ o.cls = .type "list" ∧ o.dict = none ∧ o.data = .seq its n ∧ its.size ≤ sizeLine ∧ bO xs its.toList
def SqT (K : PySem.W.Frag) (H : Hp) (a : Addr) (xs : List V) : Prop :=
 Rd H a (.tup xs) ∨
  ∃ (o : Obj) (its : Array Value) (n : Nat), K.lookup a = some o ∧ o.cls = .type "tuple" ∧ o.data = .seq its n ∧ its.size ≤ sizeLine ∧ bO xs its.toList
def aQJ : Value → Option V
 | .none => some .non
 | .bool b => some (.bl b)
 | .int i _ => some (.int i)
 | .str x _ => some (.str x)
 | .bytes b _ => some (.byt b)
 | .float b _ => some (.flt b)
 | .ref a => some (.ref a)
 | .type n => some (.ty n)
 | _ => none
theorem bN.abs {x : V} {u : Value} (r : bN x u) : aQJ u = some x := by
 cases x with
 | non => cases r; rfl
 | bl _ => cases r; rfl
 | int _ => obtain ⟨t, rfl⟩ := r; rfl
 | str _ => obtain ⟨t, rfl⟩ := r; rfl
 | byt _ => obtain ⟨t, rfl⟩ := r; rfl
 | flt _ => obtain ⟨t, rfl⟩ := r; rfl
 | ref _ => cases r; rfl
 | ty _ => cases r; rfl
theorem bN.inj {x y : V} {u : Value} (r : bN x u) (q : bN y u) : x = y := Option.some.inj (r.abs.symm.trans q.abs)
theorem bO.inj : ∀ {xs ys : List V} {us : List Value}, bO xs us → bO ys us → xs = ys
 | _, _, _, .nil, .nil => rfl
 | _, _, _, .cons r t, .cons r' t' => by rw [r.inj r', bO.inj t t']
section
variable {X : Cx} {pins : List (Addr × Obj)} {σ : St} {H : Hp} {s : Shared} {a : Addr} {xs ys : List V}
theorem SqL.of {K : PySem.W.Frag} (h : H a = some (.lst xs)) : SqL K H a xs := .inl (.inl h)
theorem SqT.of {K : PySem.W.Frag} (h : H a = some (.tup xs)) : SqT K H a xs := .inl (.inl h)
theorem Inv.list (I : Inv X pins σ H s) (h : SqL X.K H a xs) : ∃ its : List Value, bO xs its ∧ PlainL s.heap a its.toArray ∧ xs.length ≤ sizeLine := by
 rcases h with h | ⟨o, its, n, hk, hc, hd, hs, hz, r⟩
 ·obtain ⟨z, its, n, r, e⟩ := h.ok I.hok
  exact ⟨its, r, ⟨_, n, e, rfl, rfl, rfl⟩, z⟩
 ·refine ⟨its.toList, r, ⟨o, n, I.kIn a o hk, hc, hd, by simpa using hs⟩, ?_⟩
  have e := r.length
  simp only [Array.length_toList] at e
  omega
theorem Inv.tuple (I : Inv X pins σ H s) (h : SqT X.K H a xs) : ∃ its : List Value, bO xs its ∧ IsTup s.heap a its.toArray ∧ xs.length ≤ sizeLine := by
 rcases h with h | ⟨o, its, n, hk, hc, hs, hz, r⟩
 ·obtain ⟨z, its, r, p⟩ := h.ok I.hok
  exact ⟨its, r, p.tup, z⟩
 ·refine ⟨its.toList, r, ⟨o, I.kIn a o hk, hc, n, by simpa using hs⟩, ?_⟩
  have e := r.length
  simp only [Array.length_toList] at e
  omega
theorem Inv.list_inj (I : Inv X pins σ H s) (h : SqL X.K H a xs) (h' : SqL X.K H a ys) : xs = ys := by
 obtain ⟨its, r, ⟨o, n, e, _, _, d⟩, _⟩ := I.list h
 obtain ⟨its', r', ⟨o', n', e', _, _, d'⟩, _⟩ := I.list h'
 rw [e] at e'; cases e'
 rw [d] at d'
 injection d' with d1 _
 have : its = its' := by simpa using congrArg Array.toList d1
 subst this
 exact r.inj r'
end
abbrev Cx.wish (X : Cx) (E : Value → Shared → Prop) : Cx := { X with xe := E }
abbrev Cx.nox (X : Cx) : Cx := X.wish fun _ _ => False
theorem Cx.Ok.wish {X : Cx} (ok : X.Ok) (E : Value → Shared → Prop) : (X.wish E).Ok :=
 ⟨ok.mod, ok.kind, ok.glob, ok.blt, ok.above, ok.inj, ok.has, ok.cab, ok.hd, ok.frames, ok.stk, ok.exf, ok.bs, ok.bsz, ok.noex, ok.exfs, ok.funs, ok.frf⟩
theorem Cx.Ok.unwish {X : Cx} {E : Value → Shared → Prop} (ok : (X.wish E).Ok) : X.Ok :=
 ⟨ok.mod, ok.kind, ok.glob, ok.blt, ok.above, ok.inj, ok.has, ok.cab, ok.hd, ok.frames, ok.stk, ok.exf, ok.bs, ok.bsz, ok.noex, ok.exfs, ok.funs, ok.frf⟩
section
variable {X : Cx} {pins : List (Addr × Obj)} {σ : St} {H : Hp} {s : Shared} {E : Value → Shared → Prop}
theorem Inv.wish (I : Inv X pins σ H s) (E : Value → Shared → Prop) : Inv (X.wish E) pins σ H s := ⟨I.ok.wish E, I.os, I.bare, I.base, I.loc, I.cell, I.free, I.freeC, I.pin, I.hok, I.len⟩
theorem Inv.unwish (I : Inv (X.wish E) pins σ H s) : Inv X pins σ H s := ⟨I.ok.unwish, I.os, I.bare, I.base, I.loc, I.cell, I.free, I.freeC, I.pin, I.hok, I.len⟩
theorem SP.unwish {D : Ends} {f : Flow} {s' : Shared} (h : SP (X.wish E) pins D f s') : SP X pins D f s' := by
 cases f with
 | next => obtain ⟨σ', H', I, q⟩ := h; exact ⟨σ', H', I.unwish, q⟩
 | brk => obtain ⟨σ', H', I, q⟩ := h; exact ⟨σ', H', I.unwish, q⟩
 | cont => obtain ⟨σ', H', I, q⟩ := h; exact ⟨σ', H', I.unwish, q⟩
 | ret u => obtain ⟨v, σ', H', I, r, q⟩ := h; exact ⟨v, σ', H', I.unwish, r, q⟩
theorem PSs.nox {st : List Stmt} {t : TS} (h : PSs X.nox st t) : PSs X st t := fun pins s σ H D I hw =>
 wpAny_mono (h pins s σ H D (I.wish _) hw) (fun _ _ q => q.unwish) fun _ _ z => False.elim z
end
section
variable {X : Cx} {st : Stmt} {sM : List Stmt} {t u : TS} {e : Expr} {te : TE} {pos : Pos}
def aOE : TS := fun D σ H => D.nx σ H
def aPP (t u : TS) : TS := fun D σ H => t { D with nx := u D } σ H
theorem bP : PSs X [] aOE := fun _ _ σ H _ I h => wpAny_execs_nil ⟨σ, H, I, h⟩
theorem aG (h1 : PS X st t) (h2 : PSs X sM u) : PSs X (st :: sM) (aPP t u) := by
 intro pins s σ H D I h
 refine wpAny_execs_cons (thn (h1 pins s σ H { D with nx := u D } I h) fun f s1 q => ?_)
 cases f with
 | next =>
  obtain ⟨σ', H', I', q⟩ := q
  exact h2 pins s1 σ' H' D I' q
 | ret v => exact q
 | brk => exact q
 | cont => exact q
theorem aH (h1 : PS X st t) : PSs X [st] t := by
 intro pins s σ H D I h
 refine wpAny_execs_cons (thn (h1 pins s σ H D I h) fun f s1 q => ?_)
 cases f with
 | next => exact wpAny_execs_nil q
 | ret v => exact q
 | brk => exact q
 | cont => exact q
theorem Inv.quiet {pins : List (Addr × Obj)} {σ : St} {H : Hp} {s : Shared} (I : Inv X pins σ H s) : interactive X.env = false := by simp [interactive, I.ok.kind]
def aOF (te : TE) : TS := fun D σ H => te σ H fun _ H1 => D.nx σ H1
theorem eQ (he : PE X e te) (hs : swapsWith e none pos.line X.env = pure false := by rfl) : PS X (.Expr e pos) (aOF te) := by
 intro pins s σ H D I h
 exact wpAny_Expr_any (thn (he pins s σ H _ I h) fun v s1 ⟨x, H1, I1, r1, q1⟩ => ⟨σ, H1, I1, q1⟩) I.quiet hs
def aPQ (te : TE) : TS := fun D σ H => te σ H D.rt
theorem aS (he : PE X e te) : PS X (.Return (some e) pos) (aPQ te) := by
 intro pins s σ H D I h
 exact wpAny_Return_some (thn (he pins s σ H _ I h) fun v s1 ⟨x, H1, I1, r1, q1⟩ => ⟨x, σ, H1, I1, r1, q1⟩)
def aPU (c : TT) (t u : TS) : TS := fun D σ H => c σ H fun b H1 => if b = true then t D σ H1 else u D σ H1
theorem cW {c : Expr} {a b : List Stmt} {tc : TT} (hc : PT X c tc) (ha : PSs X a t) (hb : PSs X b u) : PS X (.If c a b pos) (aPU tc t u) := by
 intro pins s σ H D I h
 refine wpAny_If (thn (hc pins s σ H _ I h) fun d s1 ⟨H1, I1, q1⟩ => ?_)
 cases d with
 | true => exact ha pins s1 σ H1 D I1 q1
 | false => exact hb pins s1 σ H1 D I1 q1
def aMJ : TS := fun _ _ _ => False
theorem nE : PS X st aMJ := fun _ _ _ _ _ _ h => h.elim
end
abbrev TG := V → St → Hp → (St → Hp → Prop) → Prop
abbrev TGs := List V → St → Hp → (St → Hp → Prop) → Prop
def PG (X : Cx) (target : Expr) (t : TG) : Prop :=
 ∀ (pins : List (Addr × Obj)) (s : Shared) (σ : St) (H : Hp) (v : V) (u : Value) (Q : St → Hp → Prop), Inv X pins σ H s → bN v u → t v σ H Q →
  wpAny (model X.prog X.w) X.A (assign target X.env u) (fun _ s' => ∃ σ' H', Inv X pins σ' H' s' ∧ Q σ' H') X.xe s
def PGs (X : Cx) (ts : List Expr) (t : TGs) : Prop :=
 ∀ (pins : List (Addr × Obj)) (s : Shared) (σ : St) (H : Hp) (vs : List V) (us : List Value) (Q : St → Hp → Prop), Inv X pins σ H s → bO vs us → t vs σ H Q →
  wpAny (model X.prog X.w) X.A (assignInOrder ((assignEach ts X.env).map (·.2)) us) (fun _ s' => ∃ σ' H', Inv X pins σ' H' s' ∧ Q σ' H') X.xe s
abbrev TSet := V → V → V → Hp → (Hp → Prop) → Prop
abbrev TIp := V → V → Hp → VK → Prop
section
variable {X : Cx} {pos : Pos}
def aBJ (i : Nat) : TG := fun v σ H Q => Q (σ.set i (some v)) H
theorem aO {i : Nat} {x : Str} (hN : X.N.Nodup) (hi : X.N[i]? = some x) (hx : Loc X.env.scope x) (hf : X.fn x = true ∨ X.env.scope.names.lookup x = some .local := by first | exact .inl rfl | exact .inr rfl | assumption) : PG X (.Name x pos) (aBJ i) := by
 intro pins s σ H v u Q I r h
 exact wpAny_assign_Name (zZ I hN hi hx r (fun s' I' => ⟨_, H, I', h⟩) hf)
def aPH : TGs := fun vs σ H Q => vs = [] ∧ Q σ H
def aME (t : TG) (u : TGs) : TGs := fun vs σ H Q => ∃ v r, vs = v :: r ∧ t v σ H fun σ' H' => u r σ' H' Q
theorem kC : PGs X [] aPH := by
 intro pins s σ H vs us Q I r h
 obtain ⟨e, h⟩ := h
 subst e
 cases r
 exact assignInOrder_nil ⟨σ, H, I, h⟩
theorem bX {e : Expr} {es : List Expr} {t : TG} {u : TGs} (h1 : PG X e t) (h2 : PGs X es u)
  (hs : (assignEach (e :: es) X.env).map (·.2) = assign e X.env :: (assignEach es X.env).map (·.2) := by rfl) : PGs X (e :: es) (aME t u) := by
 intro pins s σ H vs us Q I r h
 obtain ⟨v, vr, e1, h⟩ := h
 subst e1
 cases r with
 | cons r rr =>
  rw [hs]
  refine assignInOrder_cons (thn (h1 pins s σ H _ _ _ I r h) fun _ s1 ⟨σ1, H1, I1, q1⟩ => ?_)
  exact h2 pins s1 σ1 H1 _ _ Q I1 rr q1
def aNO (K : PySem.W.Frag) (n : Nat) (t : TGs) : TG := fun v σ H Q => ∃ a xs, v = .ref a ∧ SqT K H a xs ∧ xs.length = n ∧ t xs σ H Q
theorem nG {es : List Expr} {k : Nat} {t : TGs} {n : Nat} (hc : X.calm = true) (h : PGs X es t)
  (hn : (assignEach es X.env).length = n := by rfl) (hst : (assignEach es X.env).findIdx? (·.1) = none := by rfl) : PG X (.Tuple es k pos) (aNO X.K n t) := by
 intro pins s σ H v u Q I r hw
 obtain ⟨a, xs, e1, hq, hl, hw⟩ := hw
 subst e1
 cases r
 obtain ⟨its, rv, ht, hz⟩ := I.tuple hq
 refine assign_Tuple_tuple (I.ok.hd hc) ht (by simp [hn, ← hl, rv.length]) hst fun h' hx => ?_
 have I1 : Inv X pins σ H { s with heap := h' } := I.kept (t' := s.toks) fun b o e => hx b o (Nat.ne_of_lt (Heap.lt_size e)) e
 exact h pins _ σ H xs _ Q I1 (by simpa using rv) hw
def aML (te : TE) (g : TG) : TS := fun D σ H => te σ H fun x H1 => g x σ H1 D.nx
theorem aMT {tg e : Expr} {te : TE} {g : TG} (he : PE X e te) (hg : PG X tg g) (hs : swapsWithSole [tg] e pos.line X.env = pure false := by rfl) (hw : swappedStores [tg] e X.env = pure none := by rfl)
  (h1 : (assignEach [tg] X.env).map (·.2) = [assign tg X.env] := by rfl) : PS X (.Assign [tg] e pos) (aML te g) := by
 intro pins s σ H D I h
 refine wpAny_Assign_stores (thn (he pins s σ H _ I h) fun v s1 ⟨x, H1, I1, r1, q1⟩ => ?_) hs hw
 rw [h1]
 exact thn (hg pins s1 σ H1 x v _ I1 r1 q1) fun _ s2 q => q
theorem aT {i : Nat} {x : Str} {e : Expr} {te : TE} {pos' : Pos} (hN : X.N.Nodup) (hi : X.N[i]? = some x) (hx : Loc X.env.scope x) (he : PE X e te) (hs : swapsWith e (some (.Name x pos')) pos.line X.env = pure false := by rfl) (hf : X.fn x = true ∨ X.env.scope.names.lookup x = some .local := by first | exact .inl rfl | exact .inr rfl | assumption) :
  PS X (.Assign [.Name x pos'] e pos) (aML te (aBJ i)) := by
 intro pins s σ H D I h
 refine wpAny_Assign_Name (thn (he pins s σ H _ I h) fun v s1 ⟨y, H1, I1, r1, q1⟩ => ?_) hs
 exact zZ I1 hN hi hx r1 (fun s2 I2 => ⟨_, H1, I2, q1⟩) hf
end
section
variable {X : Cx} {pos : Pos}
def aHC (c : TT) (tb : TS) : TS := fun D σ H => ∃ W : Nat → St → Hp → Prop, (∃ m, W m σ H) ∧ ∀ m σ H, W m σ H →
 c σ H fun b H1 => if b = true then ∃ N : St → Hp → Prop, (∀ σ' H', N σ' H' → ∃ m', m' < m ∧ W m' σ' H') ∧ tb { D with nx := N, ct := N, bk := D.nx } σ H1 else D.nx σ H1
theorem pZ {c : Expr} {body : List Stmt} {tc : TT} {tb : TS} (hp : PassesOwn (model X.prog X.w) X.A X.env X.xe) (hc : PT X c tc) (hb : PSs X body tb) : PS X (.While c body [] pos) (aHC tc tb) := by
 intro pins s σ H D I h
 obtain ⟨W, ⟨m0, w0⟩, turn⟩ := h
 refine wpAny_While (codeAny_whileLoop (fun n s' => ∃ σ' H', Inv X pins σ' H' s' ∧ W n σ' H') ?_ m0 ⟨σ, H, I, w0⟩)
 rintro n s1 ⟨σ1, H1, I1, w1⟩
 refine wpAny_passesOwn hp (thn (hc pins s1 σ1 H1 _ I1 (turn n σ1 H1 w1)) fun b s2 ⟨H2, I2, q2⟩ => ?_)
 cases b with
 | true =>
  obtain ⟨N, hN, q2⟩ := q2
  rw [if_pos rfl]
  refine wpAny_passesOwn hp (thn (hb pins s2 σ1 H2 _ I2 q2) fun f s3 q3 => ?_)
  cases f with
  | next =>
   obtain ⟨σ3, H3, I3, n3⟩ := q3
   obtain ⟨m', hm, w3⟩ := hN σ3 H3 n3
   exact ⟨m', hm, σ3, H3, I3, w3⟩
  | cont =>
   obtain ⟨σ3, H3, I3, n3⟩ := q3
   obtain ⟨m', hm, w3⟩ := hN σ3 H3 n3
   exact ⟨m', hm, σ3, H3, I3, w3⟩
  | brk => exact q3
  | ret v => exact q3
 | false =>
  rw [if_neg Bool.false_ne_true]
  exact wpAny_execs_nil ⟨σ1, H2, I2, q2⟩
end
structure It where
 go : Nat → Hp → Prop
 yld : Nat → Hp → V → Hp → Prop
 stop : Nat → Hp → Prop
def zO (X : Cx) (pins : List (Addr × Obj)) (H : Hp) (b : Addr) : Prop :=
 H b = none ∧ b ≠ X.env.locals ∧ b ∉ X.fs ∧ (b ∈ X.ex ∨ X.s₀.heap.objs.size ≤ b) ∧ (∀ x c, X.env.cells.lookup x = some c → c ≠ b) ∧ ∀ p ∈ X.pn ++ pins, p.1 ≠ b
theorem Inv.fpOk {X : Cx} {pins : List (Addr × Obj)} {σ : St} {H H' : Hp} {s : Shared} {b : Addr} (I : Inv X pins σ H s) (hb : s.heap.objs.size ≤ b) (hn : H' b = none) : zO X pins H' b := by
 refine ⟨hn, Nat.ne_of_gt (Nat.lt_of_lt_of_le I.lt hb), I.nofs hb, .inr (Nat.le_trans I.sz hb), fun x c e z => ?_, fun p hp z => ?_⟩
 ·obtain ⟨v, q⟩ := I.cell x c e
  exact absurd (Nat.lt_of_lt_of_le q.lt (by rw [z]; exact hb)) (Nat.lt_irrefl _)
 ·exact absurd (Nat.lt_of_lt_of_le (Heap.lt_size (I.pin p hp).1) (by rw [z]; exact hb)) (Nat.lt_irrefl _)
structure Turn (P : Program) (w : World) (K : PySem.W.Frag) (tg : Expr) (J : It) (fp : List Addr) (it : Addr) (tn : Nat → Heap → Prop) : Prop where
 mem : it ∈ fp
 obj : ∀ i h, tn i h → ∀ b ∈ fp, ∃ o, h.get? b = some o ∧ ∀ v, o.data ≠ .cell v
 keep : ∀ i h h', tn i h → (∀ b ∈ fp, ∀ o, h.get? b = some o → h'.get? b = some o) → tn i h'
 item : ∀ (X : Cx), X.prog = P → X.w = w → X.K = K → X.calm = true → ∀ (i : Nat) (pins : List (Addr × Obj)) (s : Shared) (σ : St) (H : Hp) (E : Value → Shared → Prop), Inv X pins σ H s → (∀ b ∈ fp, zO X pins H b) → tn i s.heap → J.go i H →
  wpAny (model P w) X.A (pyNext (.ref it)) (fun r s1 => ∃ u, r = some u ∧
   wpAny (model P w) X.A (letOwnedTupleGo tg (.ref it) u) (fun _ s2 => ∃ x H', Inv X pins σ H' s2 ∧ bN x u ∧ J.yld i H x H' ∧ tn (i + 1) s2.heap ∧ ∀ b ∈ fp, H' b = none) E s1) E s
 done : ∀ (X : Cx), X.prog = P → X.w = w → X.K = K → X.calm = true → ∀ (i : Nat) (pins : List (Addr × Obj)) (s : Shared) (σ : St) (H : Hp) (E : Value → Shared → Prop), Inv X pins σ H s → (∀ b ∈ fp, zO X pins H b) → tn i s.heap → J.stop i H →
  wpAny (model P w) X.A (pyNext (.ref it)) (fun r s1 => r = none ∧ Inv X pins σ H s1) E s
 self : ∀ (A : Around) (i : Nat) (s : Shared) (Q : Value → Shared → Prop) (E : Value → Shared → Prop), tn i s.heap → Q (.ref it) s → wpAny (model P w) A (pyIter (.ref it)) Q E s
abbrev TI := St → Hp → (It → Hp → Prop) → Prop
def PIE (X : Cx) (pins : List (Addr × Obj)) (σ : St) (tg : Expr) (R : It → Hp → Prop) (itv : Value) (s2 : Shared) : Prop :=
 ∃ (it : Addr) (fp : List Addr) (tn : Nat → Heap → Prop) (J : It) (H' : Hp), itv = .ref it ∧ Inv X pins σ H' s2 ∧ Turn X.prog X.w X.K tg J fp it tn ∧ tn 0 s2.heap ∧ (∀ b ∈ fp, zO X pins H' b) ∧ R J H'
def PI (X : Cx) (tg iter : Expr) (wi : TI) : Prop :=
 ∀ (pins : List (Addr × Obj)) (s : Shared) (σ : St) (H : Hp) (R : It → Hp → Prop), Inv X pins σ H s → wi σ H R →
  wpAny (model X.prog X.w) X.A (eval iter X.env) (fun v s1 => wpAny (model X.prog X.w) X.A (pyIter v) (PIE X pins σ tg R) X.xe s1) X.xe s
theorem aFC {M : Model} {A : Around} {E : Value → Shared → Prop} {s : Shared} {tg : Expr} {it : Addr} {u : Value} {o : Obj} {n : String} {vs : Array Value} {Q : Unit → Shared → Prop} (ho : s.heap.get? it = some o) (hc : o.cls = .type n) (hd : o.data = .fields vs)
    (hn : ["enumerate", "zip", "dict_itemiterator", "dict_reverseitemiterator", "odict_iterator", "itertools.zip_longest", "itertools.pairwise"].contains n = false) (hQ : Q () s) : wpAny M A (letOwnedTupleGo tg (.ref it) u) Q E s := by
  unfold letOwnedTupleGo
  cases tg <;> first
    | exact wpAny_pure hQ
    | (cases u <;> first
        | exact wpAny_pure hQ
        | (refine wpAny_bind (wpAny_load ho ?_)
           rw [hc, hd]
           show wpAny M A (if (["enumerate", "zip", "dict_itemiterator", "dict_reverseitemiterator", "odict_iterator", "itertools.zip_longest", "itertools.pairwise"].contains n && vs[0]? == some (rawInt _)) = true then _ else _) Q E s
           rw [if_neg (by intro h; rw [hn, Bool.false_and] at h; cases h)]
           exact wpAny_pure hQ))
def Itl (K : PySem.W.Frag) (a : Addr) : It :=
 ⟨fun i H => ∃ xs x, SqL K H a xs ∧ xs[i]? = some x, fun i H x H' => H' = H ∧ ∀ xs, SqL K H a xs → xs[i]? = some x, fun i H => ∃ xs, SqL K H a xs ∧ xs.length ≤ i⟩
def Itt (K : PySem.W.Frag) (a : Addr) : It :=
 ⟨fun i H => ∃ xs x, SqT K H a xs ∧ xs[i]? = some x, fun i H x H' => H' = H ∧ ∀ xs, SqT K H a xs → xs[i]? = some x, fun i H => ∃ xs, SqT K H a xs ∧ xs.length ≤ i⟩
def Itr (lo : Int) (n : Nat) : It := ⟨fun i _ => i < n, fun i H x H' => H' = H ∧ x = .int (lo + i), fun i _ => n ≤ i⟩
theorem aFO {P : Program} {w : World} {K : PySem.W.Frag} {tg : Expr} (a it : Addr) : Turn P w K tg (Itl K a) [it] it (fun i h => h.IsListIter it a i) where
 mem := by simp
 obj := fun i h st b hb => by
  have e : b = it := by simpa using hb
  subst e
  obtain ⟨o, e, c, d⟩ := st
  exact ⟨o, e, fun v z => by rw [d] at z; cases z⟩
 keep := fun i h h' st k => st.at fun o e => k it (by simp) o e
 item := by
  intro X hP hw hK hc i pins s σ H E I hf st hg
  subst hP hw hK
  obtain ⟨xs, x, hq, hx⟩ := hg
  obtain ⟨its, rv, p, hz⟩ := I.list hq
  obtain ⟨u, hu, ru⟩ := rv.get hx
  obtain ⟨f0, f1, f2, f3, f4, f5⟩ := hf it (by simp)
  refine wpAny_pyNext_list_item st p.isList (x := u) (by simpa using hu) fun h' st' sb => ?_
  have I1 : Inv X pins σ H { s with heap := h' } := I.turned (t' := s.toks) (fun b o hb e => (sb.2 b hb).trans e) f0 f1 f3 f4 f5
  obtain ⟨o, e, c, d⟩ := id st'
  exact ⟨u, rfl, aFC (s := { s with heap := h' }) e c d (by decide) ⟨x, H, I1, ru, ⟨rfl, fun ys hy => by rw [I.list_inj hy hq]; exact hx⟩, st', fun b hb => (hf b hb).1⟩⟩
 done := by
  intro X hP hw hK hc i pins s σ H E I hf st hg
  subst hP hw hK
  obtain ⟨xs, hq, hx⟩ := hg
  obtain ⟨its, rv, p, hz⟩ := I.list hq
  obtain ⟨f0, f1, f2, f3, f4, f5⟩ := hf it (by simp)
  have hl := rv.length
  exact wpAny_pyNext_list_end (I.ok.hd hc) st p.isList (by simp; omega) fun h' eb => ⟨rfl, I.turned (t' := s.toks) (fun b o hb e => eb b o hb e) f0 f1 f3 f4 f5⟩
 self := fun _ _ _ _ _ st h => wpAny_pyIter_listiter st h
theorem aCE {P : Program} {w : World} {K : PySem.W.Frag} {tg : Expr} (it : Addr) (lo : Int) (n : Nat) : Turn P w K tg (Itr lo n) [it] it (fun i h => IsRangeIter h it (lo + (i : Nat) * 1) ((n : Int) - (i : Nat)) 1) where
 mem := by simp
 obj := fun i h st b hb => by
  have e : b = it := by simpa using hb
  subst e
  exact ⟨_, st, fun v z => by
   have z' : Data.fields _ = Data.cell v := z
   cases z'⟩
 keep := fun i h h' st k => k it (by simp) _ st
 item := by
  intro X hP hw hK hc i pins s σ H E I hf st hg
  subst hP hw hK
  obtain ⟨f0, f1, f2, f3, f4, f5⟩ := hf it (by simp)
  have W := Walks.range (prog := X.prog) (w := X.w) (I.ok.hd hc) it lo 1 n
  refine W.item i s _ _ hg st fun v h' tk hv st' kk => ?_
  obtain ⟨t, rfl⟩ := hv
  have I1 : Inv X pins σ H { s with heap := h', toks := tk } := I.turned (fun b o hb e => kk b o (by simpa using hb) e) f0 f1 f3 f4 f5
  refine ⟨_, rfl, aFC (s := { s with heap := h', toks := tk }) (n := "range_iterator") st' rfl rfl (by decide) ⟨.int (lo + i), H, I1, ⟨t, ?_⟩, ⟨rfl, rfl⟩, st', fun b hb => (hf b hb).1⟩⟩
  rw [Int.mul_one]
 done := by
  intro X hP hw hK hc i pins s σ H E I hf st hg
  subst hP hw hK
  obtain ⟨f0, f1, f2, f3, f4, f5⟩ := hf it (by simp)
  exact wpAny_pyNext_range_end (I.ok.hd hc) st (by have : n ≤ i := hg; omega) fun h' eb => ⟨rfl, I.turned (t' := s.toks) (fun b o hb e => eb b o hb e) f0 f1 f3 f4 f5⟩
 self := fun _ _ _ _ _ st h => wpAny_pyIter_rangeiter st h
end L2
namespace L2
open PySem PySem.Spec PyProof.Rows
section
variable {X : Cx} {tg : Expr}
def aPF (K : PySem.W.Frag) (tl : TE) : TI := fun σ H R => tl σ H fun x H1 => ∃ a, x = .ref a ∧ (∃ xs, SqL K H1 a xs) ∧ R (Itl K a) H1
theorem bF {l : Expr} {tl : TE} (hl : PE X l tl) : PI X tg l (aPF X.K tl) := by
 intro pins s σ H R I h
 refine thn (hl pins s σ H _ I h) fun v s1 ⟨x, H1, I1, r1, q1⟩ => ?_
 obtain ⟨a, e, ⟨xs, hq⟩, q⟩ := q1
 subst e
 cases r1
 obtain ⟨its, rv, p, hz⟩ := I1.list hq
 refine wpAny_pyIter_list p.isList ?_
 refine ⟨s1.heap.objs.size, [s1.heap.objs.size], _, _, H1, rfl, I1.kept (t' := s1.toks) fun b o e => Heap.get?_push_of_some _ e, aFO a _, ⟨_, Heap.get?_push_size _ rfl, rfl, rfl⟩, fun b hb => ?_, q⟩
 have e : b = s1.heap.objs.size := by simpa using hb
 subst e
 exact I1.fpOk (Nat.le_refl _) (I1.hok.fresh (Nat.le_refl _))
theorem aID {pins : List (Addr × Obj)} {σ : St} {H : Hp} {s : Shared} {R : It → Hp → Prop} {E : Value → Shared → Prop} {lo hi : Int} {t u v : Tok} {tk : Nat} (I : Inv X pins σ H s) (h1 : -(2 ^ 62) ≤ lo) (h2 : lo < 2 ^ 62) (h3 : -(2 ^ 62) ≤ hi) (h4 : hi < 2 ^ 62)
  (q : R (Itr lo (hi - lo).toNat) H) : wpAny (model X.prog X.w) X.A (pyIter (.ref s.heap.objs.size)) (PIE X pins σ tg R) E { s with heap := s.heap.push { cls := .type "range", data := .fields #[.int lo t, .int hi u, .int 1 v] }, toks := tk } := by
 refine wpAny_pyIter_range (IsRange.new ..) (small_one h1 h2 h3 h4) ?_
 have I1 : Inv X pins σ H { s with heap := s.heap.push { cls := .type "range", data := .fields #[.int lo t, .int hi u, .int 1 v] }, toks := tk } := I.kept fun b o e => Heap.get?_push_of_some _ e
 refine ⟨(s.heap.push { cls := .type "range", data := .fields #[.int lo t, .int hi u, .int 1 v] }).objs.size, [(s.heap.push { cls := .type "range", data := .fields #[.int lo t, .int hi u, .int 1 v] }).objs.size], _, _, H, rfl,
  I1.kept (t' := tk) fun b o e => Heap.get?_push_of_some _ e, aCE _ lo (hi - lo).toNat, ?_, fun b hb => ?_, q⟩
 ·have e1 : lo + ((0 : Nat) : Int) * 1 = lo := by simp
  have e2 : (((hi - lo).toNat : Nat) : Int) - ((0 : Nat) : Int) = Builtin.Range.rangeSize lo hi 1 := by rw [rangeSize_one]; split <;> omega
  show IsRangeIter _ _ (lo + ((0 : Nat) : Int) * 1) ((((hi - lo).toNat : Nat) : Int) - ((0 : Nat) : Int)) 1
  rw [e1, e2]
  exact Heap.get?_push_size _ rfl
 ·have e : b = (s.heap.push { cls := .type "range", data := .fields #[.int lo t, .int hi u, .int 1 v] }).objs.size := by simpa using hb
  subst e
  exact I1.fpOk (Nat.le_refl _) (I1.hok.fresh (Nat.le_refl _))
def aPE (ta : TA) : TI := fun σ H R => ta σ H fun vs H1 => ∃ j : Int, vs = [.int j] ∧ -(2 ^ 62) ≤ j ∧ j < 2 ^ 62 ∧ R (Itr 0 j.toNat) H1
theorem kW {a : Expr} {ta : TA} {p pos : Pos} (hg : Gl X "range") (hm : X.mg "range" = none) (ha : PA X [a] ta) (hs : starEach [a] X.env = [(false, eval a X.env)] := by rfl) : PI X tg (.Call (.Name "range" p) [a] [] pos) (aPE ta) := by
 intro pins s σ H R I h
 refine Call_ (rB I hg hm boot_range (PyProof.Rows.callWith_type1 (thn (ha pos pins s σ H _ I h) fun us s1 ⟨vs, H1, I1, r1, q1⟩ => ?_) hs rfl))
 obtain ⟨j, e, q1, q2, q⟩ := q1
 subst e
 cases r1 with
 | cons r rr =>
  cases rr
  obtain ⟨t, rfl⟩ := r
  exact call_range_1 (aID I1 (by omega) (by omega) q1 q2 (by simpa using q))
def aPV (wi : TI) (g : TG) (tb : TS) : TS := fun D σ H => wi σ H fun J H1 => ∃ W : Nat → Nat → St → Hp → Prop, (∃ m, W 0 m σ H1) ∧ ∀ i m σ H, W i m σ H →
 (J.stop i H ∧ D.nx σ H) ∨ (J.go i H ∧ ∃ N : St → Hp → Prop, (∀ σ' H', N σ' H' → ∃ m', m' < m ∧ W (i + 1) m' σ' H') ∧ ∀ x H', J.yld i H x H' → g x σ H' fun σ2 H2 => tb { D with nx := N, ct := N, bk := D.nx } σ2 H2)
def nF (fp : List Addr) (h : Heap) : List (Addr × Obj) := fp.filterMap fun b => (h.get? b).map fun o => (b, o)
theorem lQ {fp : List Addr} {h : Heap} {b : Addr} {o : Obj} (hb : b ∈ fp) (e : h.get? b = some o) : (b, o) ∈ nF fp h := List.mem_filterMap.mpr ⟨b, hb, by rw [e]; rfl⟩
theorem wS {fp : List Addr} {h : Heap} {p : Addr × Obj} (hp : p ∈ nF fp h) : p.1 ∈ fp ∧ h.get? p.1 = some p.2 := by
 obtain ⟨b, hb, e⟩ := List.mem_filterMap.mp hp
 cases q : h.get? b with
 | none => rw [q] at e; cases e
 | some o =>
  rw [q] at e
  have e' : (b, o) = p := Option.some.inj e
  subst e'
  exact ⟨hb, q⟩
theorem Inv.pinned {pins : List (Addr × Obj)} {σ : St} {H : Hp} {s : Shared} {fp : List Addr} (I : Inv X pins σ H s) (hf : ∀ b ∈ fp, zO X pins H b) (ho : ∀ b ∈ fp, ∃ o, s.heap.get? b = some o ∧ ∀ v, o.data ≠ .cell v) : Inv X (pins ++ nF fp s.heap) σ H s :=
 I.pins_of fun p hp => (List.mem_append.mp hp).elim (fun z => I.pin p (List.mem_append_right _ z)) fun z => by
  obtain ⟨hb, e⟩ := wS z
  obtain ⟨f0, f1, f2, _⟩ := hf p.1 hb
  obtain ⟨o, e', d⟩ := ho p.1 hb
  rw [e] at e'; cases e'
  exact ⟨e, f0, f1, f2, d⟩
theorem Inv.unpinned {pins pl : List (Addr × Obj)} {σ : St} {H : Hp} {s : Shared} (I : Inv X (pins ++ pl) σ H s) : Inv X pins σ H s := I.pins_of fun p hp => I.pin p (List.mem_append_right _ (List.mem_append_left _ hp))
theorem eN {iter : Expr} {body : List Stmt} {wi : TI} {g : TG} {tb : TS} {pos : Pos} (hp : PassesOwn (model X.prog X.w) X.A X.env X.xe) (hc : X.calm = true) (hi : PI X tg iter wi) (hg : PG X tg g) (hb : PSs X body tb)
  (hs : ∀ x, foldedSetIterable iter X.env x = pure x := by intro _; rfl) : PS X (.For tg iter body [] pos) (aPV wi g tb) := by
 intro pins s σ H D I h
 refine wpAny_For (thn (hi pins s σ H _ I h) fun v s1 h1 => thn h1 fun itv s2 h2 => ?_) hs
 obtain ⟨it, fp, tn, J, H2, e, I2, T, st2, f2, W, ⟨m0, w0⟩, turn⟩ := h2
 subst e
 have stat : ∀ {H' : Hp}, (∀ b ∈ fp, H' b = none) → ∀ b ∈ fp, zO X pins H' b := fun hn b hb => ⟨hn b hb, (f2 b hb).2⟩
 refine codeAny_forLoop_any (fun n s' => ∃ i σ' H', Inv X pins σ' H' s' ∧ tn i s'.heap ∧ (∀ b ∈ fp, H' b = none) ∧ W i n σ' H') ?_ m0 ⟨0, σ, H2, I2, st2, fun b hb => (f2 b hb).1, w0⟩
 rintro n s3 ⟨i, σ3, H3, I3, st3, fr3, w3⟩
 rcases turn i n σ3 H3 w3 with ⟨stop, qn⟩ | ⟨go, N, hN, step⟩
 ·refine wpAny_passesOwn hp (thn (T.done X rfl rfl rfl hc i pins s3 σ3 H3 X.xe I3 (stat fr3) st3 stop) fun r s4 ⟨hr, I4⟩ => ?_)
  subst hr
  exact wpAny_execs_nil ⟨σ3, H3, I4, qn⟩
 ·refine wpAny_passesOwn hp (thn (T.item X rfl rfl rfl hc i pins s3 σ3 H3 X.xe I3 (stat fr3) st3 go) fun r s4 ⟨u, hr, h4⟩ => ?_)
  subst hr
  refine wpAny_passesOwn hp (thn h4 fun _ s5 ⟨x, H5, I5, r5, y5, st5, fr5⟩ => ?_)
  have I5' := I5.pinned (stat fr5) (T.obj _ _ st5)
  refine wpAny_passesOwn hp (thn (hg _ s5 σ3 H5 x u _ I5' r5 (step x H5 y5)) fun _ s6 ⟨σ6, H6, I6, q6⟩ => ?_)
  refine wpAny_passesOwn hp (thn (hb _ s6 σ6 H6 _ I6 q6) fun f s7 q7 => ?_)
  have again : ∀ {σ7 : St} {H7 : Hp}, Inv X (pins ++ nF fp s5.heap) σ7 H7 s7 → N σ7 H7 → ∃ m, m < n ∧ ∃ i σ' H', Inv X pins σ' H' s7 ∧ tn i s7.heap ∧ (∀ b ∈ fp, H' b = none) ∧ W i m σ' H' := fun {σ7 H7} I7 n7 => by
   obtain ⟨m', hm, w7⟩ := hN σ7 H7 n7
   refine ⟨m', hm, i + 1, σ7, H7, I7.unpinned, T.keep _ _ _ st5 fun b hb o e => (I7.pin (b, o) (List.mem_append_right _ (List.mem_append_right _ (lQ hb e)))).1, fun b hb => ?_, w7⟩
   obtain ⟨o, e, d⟩ := T.obj _ _ st5 b hb
   exact (I7.pin (b, o) (List.mem_append_right _ (List.mem_append_right _ (lQ hb e)))).2.1
  cases f with
  | next => obtain ⟨σ7, H7, I7, n7⟩ := q7; exact again I7 n7
  | cont => obtain ⟨σ7, H7, I7, n7⟩ := q7; exact again I7 n7
  | brk => obtain ⟨σ7, H7, I7, q7⟩ := q7; exact ⟨σ7, H7, I7.unpinned, q7⟩
  | ret v => obtain ⟨x7, σ7, H7, I7, r7, q7⟩ := q7; exact ⟨x7, σ7, H7, I7.unpinned, r7, q7⟩
end
theorem eL {K : PySem.W.Frag} {a : Addr} {xs : List V} {g : TG} {tb : TS} {D : Ends} {σ : St} {H : Hp} (Pv : Nat → St → Hp → Prop) (h0 : Pv 0 σ H) (hl : ∀ i σ H, i ≤ xs.length → Pv i σ H → SqL K H a xs)
  (hs : ∀ i x σ H, xs[i]? = some x → Pv i σ H → g x σ H fun σ2 H2 => tb { D with nx := Pv (i + 1), ct := Pv (i + 1), bk := D.nx } σ2 H2) (hd : ∀ σ H, Pv xs.length σ H → D.nx σ H) :
  ∃ W : Nat → Nat → St → Hp → Prop, (∃ m, W 0 m σ H) ∧ ∀ i m σ H, W i m σ H →
   ((Itl K a).stop i H ∧ D.nx σ H) ∨ ((Itl K a).go i H ∧ ∃ N : St → Hp → Prop, (∀ σ' H', N σ' H' → ∃ m', m' < m ∧ W (i + 1) m' σ' H') ∧ ∀ x H', (Itl K a).yld i H x H' → g x σ H' fun σ2 H2 => tb { D with nx := N, ct := N, bk := D.nx } σ2 H2) := by
 refine ⟨fun i m σ H => m = xs.length - i ∧ i ≤ xs.length ∧ Pv i σ H, ⟨xs.length, by simp, Nat.zero_le _, h0⟩, ?_⟩
 rintro i m σ H ⟨rfl, hi, p⟩
 have q := hl i σ H hi p
 by_cases hlt : i < xs.length
 ·refine .inr ⟨⟨xs, xs[i], q, by simp [hlt]⟩, Pv (i + 1), fun σ' H' p' => ⟨xs.length - (i + 1), by omega, rfl, hlt, p'⟩, fun x H' y => ?_⟩
  obtain ⟨e, y⟩ := y
  subst e
  exact hs i x σ _ (y xs q) p
 ·have e : i = xs.length := by omega
  subst e
  exact .inl ⟨⟨xs, q, Nat.le_refl _⟩, hd σ H p⟩
theorem lC {lo : Int} {n : Nat} {g : TG} {tb : TS} {D : Ends} {σ : St} {H : Hp} (Pv : Nat → St → Hp → Prop) (h0 : Pv 0 σ H)
  (hs : ∀ i σ H, i < n → Pv i σ H → g (.int (lo + i)) σ H fun σ2 H2 => tb { D with nx := Pv (i + 1), ct := Pv (i + 1), bk := D.nx } σ2 H2) (hd : ∀ σ H, Pv n σ H → D.nx σ H) :
  ∃ W : Nat → Nat → St → Hp → Prop, (∃ m, W 0 m σ H) ∧ ∀ i m σ H, W i m σ H →
   ((Itr lo n).stop i H ∧ D.nx σ H) ∨ ((Itr lo n).go i H ∧ ∃ N : St → Hp → Prop, (∀ σ' H', N σ' H' → ∃ m', m' < m ∧ W (i + 1) m' σ' H') ∧ ∀ x H', (Itr lo n).yld i H x H' → g x σ H' fun σ2 H2 => tb { D with nx := N, ct := N, bk := D.nx } σ2 H2) := by
 refine ⟨fun i m σ H => m = n - i ∧ i ≤ n ∧ Pv i σ H, ⟨n, by simp, Nat.zero_le _, h0⟩, ?_⟩
 rintro i m σ H ⟨rfl, hi, p⟩
 by_cases hlt : i < n
 ·refine .inr ⟨hlt, Pv (i + 1), fun σ' H' p' => ⟨n - (i + 1), by omega, rfl, hlt, p'⟩, fun x H' y => ?_⟩
  obtain ⟨e, y⟩ := y
  subst e y
  exact hs i σ _ hlt p
 ·have e : i = n := by omega
  subst e
  exact .inl ⟨Nat.le_refl _, hd σ H p⟩
theorem pS {c : TT} {tb : TS} {D : Ends} {σ : St} {H : Hp} (Pv : St → Hp → Prop) (μ : St → Hp → Nat) (h0 : Pv σ H)
  (hs : ∀ σ H, Pv σ H → c σ H fun b H1 => if b = true then tb { D with nx := fun σ' H' => Pv σ' H' ∧ μ σ' H' < μ σ H, ct := fun σ' H' => Pv σ' H' ∧ μ σ' H' < μ σ H, bk := D.nx } σ H1 else D.nx σ H1)
  (mono : ∀ σ H Q Q', (∀ b H1, Q b H1 → Q' b H1) → c σ H Q → c σ H Q') : aHC c tb D σ H := by
 refine ⟨fun m σ H => m = μ σ H ∧ Pv σ H, ⟨_, rfl, h0⟩, ?_⟩
 rintro m σ H ⟨rfl, p⟩
 refine mono σ H _ _ (fun b H1 q => ?_) (hs σ H p)
 cases b with
 | true => exact ⟨_, fun σ' H' ⟨p', l⟩ => ⟨_, l, rfl, p'⟩, q⟩
 | false => exact q
end L2
namespace L2
open PySem PySem.Spec PyProof.Rows
abbrev R2 := V → V → Hp → VK → Prop
def OpR (X : Cx) (f : Value → Value → Sem Value) (r : R2) : Prop :=
 ∀ (pins : List (Addr × Obj)) (s : Shared) (σ : St) (H : Hp) (x y : V) (v u : Value) (Q : VK), Inv X pins σ H s → bN x v → bN y u → r x y H Q →
  wpAny (model X.prog X.w) X.A (f v u) (EP X pins σ Q) X.xe s
def UnR (X : Cx) (f : Value → Sem Value) (r : V → Hp → VK → Prop) : Prop :=
 ∀ (pins : List (Addr × Obj)) (s : Shared) (σ : St) (H : Hp) (x : V) (v : Value) (Q : VK), Inv X pins σ H s → bN x v → r x H Q →
  wpAny (model X.prog X.w) X.A (f v) (EP X pins σ Q) X.xe s
def gJ (X : Cx) (f : Value) (r : List V → Hp → VK → Prop) : Prop :=
 ∀ (pins : List (Addr × Obj)) (s : Shared) (σ : St) (H : Hp) (xs : List V) (us : List Value) (Q : VK), Inv X pins σ H s → bO xs us → r xs H Q →
  wpAny (model X.prog X.w) X.A (call f us) (EP X pins σ Q) X.xe s
def tOp (r : R2) (ta tb : TE) : TE := fun σ H Q => ta σ H fun x H1 => tb σ H1 fun y H2 => r x y H2 Q
def tUn (r : V → Hp → VK → Prop) (ta : TE) : TE := fun σ H Q => ta σ H fun x H1 => r x H1 Q
def rI (C : Int → Int → Prop) (g : Int → Int → V) : R2 := fun x y H Q => ∃ i j, x = .int i ∧ y = .int j ∧ C i j ∧ Q (g i j) H
def rI0 (g : Int → Int → V) : R2 := fun x y H Q => ∃ i j, x = .int i ∧ y = .int j ∧ Q (g i j) H
def rU (g : Int → V) : V → Hp → VK → Prop := fun x H Q => ∃ i, x = .int i ∧ Q (g i) H
section
variable {X : Cx} {a b c : Expr} {ta tb tc : TE} {pos : Pos}
theorem aNR (ha : PE X a ta) (hb : PE X b tb) {pins : List (Addr × Obj)} {s : Shared} {σ : St} {H : Hp} {R : V → V → Hp → Prop} (I : Inv X pins σ H s)
  (h : ta σ H fun x H1 => tb σ H1 fun y H2 => R x y H2) {Q : Value → Shared → Prop} {f : Value → Value → Sem Value}
  (hf : ∀ v u s2 x y H2, Inv X pins σ H2 s2 → bN x v → bN y u → R x y H2 → wpAny (model X.prog X.w) X.A (f v u) Q X.xe s2) :
  wpAny (model X.prog X.w) X.A (eval a X.env) (fun v s₁ => wpAny (model X.prog X.w) X.A (eval b X.env) (fun u s₂ => wpAny (model X.prog X.w) X.A (f v u) Q X.xe s₂) X.xe s₁) X.xe s := by
 refine thn (ha pins s σ H _ I h) fun v s1 ⟨x, H1, I1, r1, q1⟩ => ?_
 refine thn (hb pins s1 σ H1 _ I1 q1) fun u s2 ⟨y, H2, I2, r2, q2⟩ => ?_
 exact hf v u s2 x y H2 I2 r1 r2 q2
theorem aJ {op : Operator} {r : R2} (ho : OpR X (binaryOp op) r) (ha : PE X a ta) (hb : PE X b tb) : PE X (.BinOp a op b pos) (tOp r ta tb) := by
 intro pins s σ H Q I h
 exact wpAny_BinOp (aNR ha hb I h fun v u s2 x y H2 I2 rx ry q => ho pins s2 σ H2 x y v u Q I2 rx ry q)
theorem aMA {op : UnaryOp} {r : V → Hp → VK → Prop} (ho : UnR X (unaryOp op) r) (ha : PE X a ta) : PE X (.UnaryOp op a pos) (tUn r ta) := by
 intro pins s σ H Q I h
 exact UnaryOp_ (thn (ha pins s σ H _ I h) fun v s1 ⟨x, H1, I1, r1, q1⟩ => ho pins s1 σ H1 x v Q I1 r1 q1)
theorem opI {f : Value → Value → Sem Value} {C : Int → Int → Prop} {g : Int → Int → Int}
  (rule : ∀ (i j : Int) (t u : Tok) (s : Shared) (Q : Value → Shared → Prop) (E : Value → Shared → Prop), C i j → Q (.int (g i j) s.toks) { s with toks := s.toks + 1 } → wpAny (model X.prog X.w) X.A (f (.int i t) (.int j u)) Q E s) :
  OpR X f (rI C fun i j => .int (g i j)) := by
 intro pins s σ H x y v u Q I rx ry h
 obtain ⟨i, j, rfl, rfl, hc, q⟩ := h
 obtain ⟨t, rfl⟩ := rx
 obtain ⟨t', rfl⟩ := ry
 exact rule i j t t' s _ _ hc ⟨.int (g i j), H, I.tok _, ⟨_, rfl⟩, q⟩
theorem aOV {f : Value → Value → Sem Value} {g : Int → Int → Int}
  (rule : ∀ (i j : Int) (t u : Tok) (s : Shared) (Q : Value → Shared → Prop) (E : Value → Shared → Prop), Q (.int (g i j) s.toks) { s with toks := s.toks + 1 } → wpAny (model X.prog X.w) X.A (f (.int i t) (.int j u)) Q E s) :
  OpR X f (rI0 fun i j => .int (g i j)) := by
 intro pins s σ H x y v u Q I rx ry h
 obtain ⟨i, j, rfl, rfl, q⟩ := h
 obtain ⟨t, rfl⟩ := rx
 obtain ⟨t', rfl⟩ := ry
 exact rule i j t t' s _ _ ⟨.int (g i j), H, I.tok _, ⟨_, rfl⟩, q⟩
theorem aKV {f : Value → Value → Sem Value} {g : Int → Int → Bool}
  (rule : ∀ (i j : Int) (t u : Tok) (s : Shared) (Q : Value → Shared → Prop) (E : Value → Shared → Prop), Q (.bool (g i j)) s → wpAny (model X.prog X.w) X.A (f (.int i t) (.int j u)) Q E s) :
  OpR X f (rI0 fun i j => .bl (g i j)) := by
 intro pins s σ H x y v u Q I rx ry h
 obtain ⟨i, j, rfl, rfl, q⟩ := h
 obtain ⟨t, rfl⟩ := rx
 obtain ⟨t', rfl⟩ := ry
 exact rule i j t t' s _ _ ⟨.bl (g i j), H, I, rfl, q⟩
def aQL (i j : Int) : Prop := 0 ≤ j ∧ j ≤ 1000000 ∧ i.natAbs < 2 ^ 64
def aNY (i j : Int) : Prop := (-(2 ^ 64) < i ∧ i < 2 ^ 64) ∨ (-(2 ^ 64) < j ∧ j < 2 ^ 64)
theorem aNY.ok {i j : Int} (h : aNY i j) : IntMulOk i j := by
 rcases h with ⟨h1, h2⟩ | ⟨h1, h2⟩
 ·exact .of_left (intBits_le_64 h1 h2)
 ·exact .of_right (intBits_le_64 h1 h2)
theorem dM : OpR X (binaryOp .Add) (rI0 fun i j => .int (i + j)) := aOV fun _ _ _ _ _ _ _ q => add_int q
theorem dU : OpR X (binaryOp .Sub) (rI0 fun i j => .int (i - j)) := aOV fun _ _ _ _ _ _ _ q => sub_int q
theorem lO : OpR X (binaryOp .Mult) (rI aNY fun i j => .int (i * j)) := opI fun _ _ _ _ _ _ _ hc q => mul_int q hc.ok
theorem cD : OpR X (binaryOp .Mod) (rI (fun _ j => 0 < j) fun i j => .int (i % j)) := opI fun i j _ _ _ _ _ hc q => by
 have h1 : (0 : Int) < j := hc
 exact mod_int' (by omega) (by rw [Int.fmod_eq_emod_of_nonneg i (by omega)]; exact q)
theorem dW : OpR X (binaryOp .Pow) (rI aQL fun i j => .int (i ^ j.toNat)) := opI fun _ _ _ _ _ _ _ hc q => pow_int_small hc.1 hc.2.1 hc.2.2 q
theorem unI {f : Value → Sem Value} {g : Int → Int}
  (rule : ∀ (i : Int) (t : Tok) (s : Shared) (Q : Value → Shared → Prop) (E : Value → Shared → Prop), Q (.int (g i) s.toks) { s with toks := s.toks + 1 } → wpAny (model X.prog X.w) X.A (f (.int i t)) Q E s) :
  UnR X f (rU fun i => .int (g i)) := by
 intro pins s σ H x v Q I rx h
 obtain ⟨i, rfl, q⟩ := h
 obtain ⟨t, rfl⟩ := rx
 exact rule i t s _ _ ⟨.int (g i), H, I.tok _, ⟨_, rfl⟩, q⟩
theorem aHA : UnR X (unaryOp .USub) (rU fun i => .int (-i)) := unI fun _ _ _ _ _ q => neg_int q
end
def aOK : V → V → Bool
 | .non, .non => true | .non, .int _ => true | .int _, .non => true | .non, .bl _ => true | .bl _, .non => true | .non, .str _ => true | .str _, .non => true
 | .int _, .int _ => true | .bl _, .bl _ => true | .str _, .str _ => true | .byt _, .byt _ => true
 | .int _, .str _ => true | .str _, .int _ => true | .bl _, .str _ => true | .str _, .bl _ => true
 | _, _ => false
def rEq : R2 := fun x y H Q => aOK x y = true ∧ Q (.bl (decide (x = y))) H
def rNe : R2 := fun x y H Q => aOK x y = true ∧ Q (.bl (!decide (x = y))) H
theorem jD {i j : Int} : decide (V.int i = V.int j) = (i == j) := by
 rw [Bool.eq_iff_iff]
 simp
theorem aJT {i j : Bool} : decide (V.bl i = V.bl j) = (i == j) := by
 rw [Bool.eq_iff_iff]
 simp
theorem oX {i j : Str} : decide (V.str i = V.str j) = (i == j) := by
 rw [Bool.eq_iff_iff]
 simp
theorem aFI {i j : Array UInt8} : decide (V.byt i = V.byt j) = (i.toList == j.toList) := by
 rw [Bool.eq_iff_iff]
 cases i
 cases j
 simp
section
variable {X : Cx} {a b c : Expr} {ta tb tc : TE} {pos : Pos}
theorem cE {pins : List (Addr × Obj)} {σ : St} {H : Hp} {s : Shared} {Q : VK} {k k' : Bool} (I : Inv X pins σ H s) (q : Q (.bl k) H) (e : k = k') : EP X pins σ Q (.bool k') s := by
 subst e
 exact ⟨.bl k, H, I, rfl, q⟩
theorem nK : OpR X (compareOp .Eq) rEq := by
 intro pins s σ H x y v u Q I rx ry h
 obtain ⟨hs, q⟩ := h
 cases x with
 | non =>
  cases rx
  cases y with
  | non => cases ry; exact PySem.EqNone.eq_none_none (cE I q (by simp))
  | bl j => cases ry; exact PySem.EqNone.eq_none_bool (cE I q (by simp))
  | int j => obtain ⟨t', rfl⟩ := ry; exact PySem.EqNone.eq_none_int (cE I q (by simp))
  | str j => obtain ⟨t', rfl⟩ := ry; exact PySem.EqNone.eq_none_str (cE I q (by simp))
  | _ => exact absurd (show false = true from hs) Bool.false_ne_true
 | bl i =>
  cases rx
  cases y with
  | non => cases ry; exact PySem.EqNone.eq_bool_none (cE I q (by simp))
  | bl j => cases ry; exact eq_bool (cE I q aJT)
  | str j => obtain ⟨t', rfl⟩ := ry; exact PySem.EqMixed.eq_bool_str (cE I q (by simp))
  | _ => exact absurd (show false = true from hs) Bool.false_ne_true
 | int i =>
  obtain ⟨t, rfl⟩ := rx
  cases y with
  | non => cases ry; exact PySem.EqNone.eq_int_none (cE I q (by simp))
  | int j => obtain ⟨t', rfl⟩ := ry; exact eq_int (cE I q jD)
  | str j => obtain ⟨t', rfl⟩ := ry; exact PySem.EqMixed.eq_int_str (cE I q (by simp))
  | _ => exact absurd (show false = true from hs) Bool.false_ne_true
 | str i =>
  obtain ⟨t, rfl⟩ := rx
  cases y with
  | non => cases ry; exact PySem.EqNone.eq_str_none (cE I q (by simp))
  | bl j => cases ry; exact PySem.EqMixed.eq_str_bool (cE I q (by simp))
  | int j => obtain ⟨t', rfl⟩ := ry; exact PySem.EqMixed.eq_str_int (cE I q (by simp))
  | str j => obtain ⟨t', rfl⟩ := ry; exact eq_str (cE I q oX)
  | _ => exact absurd (show false = true from hs) Bool.false_ne_true
 | byt i =>
  obtain ⟨t, rfl⟩ := rx
  cases y with
  | byt j => obtain ⟨t', rfl⟩ := ry; exact PySem.W.eq_bytes (cE I q aFI)
  | _ => exact absurd (show false = true from hs) Bool.false_ne_true
 | _ => cases y <;> exact absurd (show false = true from hs) Bool.false_ne_true
theorem lZ : OpR X (compareOp .NotEq) rNe := by
 intro pins s σ H x y v u Q I rx ry h
 obtain ⟨hs, q⟩ := h
 cases x with
 | non =>
  cases rx
  cases y with
  | non => cases ry; exact PySem.EqNone.ne_none_none (cE I q (by simp))
  | bl j => cases ry; exact PySem.EqNone.ne_none_bool (cE I q (by simp))
  | int j => obtain ⟨t', rfl⟩ := ry; exact PySem.EqNone.ne_none_int (cE I q (by simp))
  | str j => obtain ⟨t', rfl⟩ := ry; exact PySem.EqNone.ne_none_str (cE I q (by simp))
  | _ => exact absurd (show false = true from hs) Bool.false_ne_true
 | bl i =>
  cases rx
  cases y with
  | non => cases ry; exact PySem.EqNone.ne_bool_none (cE I q (by simp))
  | bl j => cases ry; exact ne_bool (cE I q (congrArg not aJT))
  | str j => obtain ⟨t', rfl⟩ := ry; exact PySem.EqMixed.ne_bool_str (cE I q (by simp))
  | _ => exact absurd (show false = true from hs) Bool.false_ne_true
 | int i =>
  obtain ⟨t, rfl⟩ := rx
  cases y with
  | non => cases ry; exact PySem.EqNone.ne_int_none (cE I q (by simp))
  | int j => obtain ⟨t', rfl⟩ := ry; exact ne_int (cE I q (congrArg not jD))
  | str j => obtain ⟨t', rfl⟩ := ry; exact PySem.EqMixed.ne_int_str (cE I q (by simp))
  | _ => exact absurd (show false = true from hs) Bool.false_ne_true
 | str i =>
  obtain ⟨t, rfl⟩ := rx
  cases y with
  | non => cases ry; exact PySem.EqNone.ne_str_none (cE I q (by simp))
  | bl j => cases ry; exact PySem.EqMixed.ne_str_bool (cE I q (by simp))
  | int j => obtain ⟨t', rfl⟩ := ry; exact PySem.EqMixed.ne_str_int (cE I q (by simp))
  | str j => obtain ⟨t', rfl⟩ := ry; exact ne_str (cE I q (congrArg not oX))
  | _ => exact absurd (show false = true from hs) Bool.false_ne_true
 | byt i =>
  obtain ⟨t, rfl⟩ := rx
  cases y with
  | byt j => obtain ⟨t', rfl⟩ := ry; exact PySem.W.ne_bytes (cE I q (congrArg not aFI))
  | _ => exact absurd (show false = true from hs) Bool.false_ne_true
 | _ => cases y <;> exact absurd (show false = true from hs) Bool.false_ne_true
theorem pB : OpR X (compareOp .Lt) (rI0 fun i j => .bl (decide (i < j))) := aKV fun _ _ _ _ _ _ _ q => lt_int q
theorem qC : OpR X (compareOp .LtE) (rI0 fun i j => .bl (decide (i ≤ j))) := aKV fun _ _ _ _ _ _ _ q => le_int q
theorem aIO : OpR X (compareOp .Gt) (rI0 fun i j => .bl (decide (j < i))) := aKV fun _ _ _ _ _ _ _ q => gt_int q
theorem aMD : OpR X (compareOp .GtE) (rI0 fun i j => .bl (decide (j ≤ i))) := aKV fun _ _ _ _ _ _ _ q => ge_int q
theorem aFZ : OpR X (compareOp .In) (fun x y H Q => ∃ i j, x = .str i ∧ y = .str j ∧ Q (.bl (!(Builtin.Str.occurrences j i 0 j.length 1).isEmpty)) H) := by
 intro pins s σ H x y v u Q I rx ry h
 obtain ⟨i, j, rfl, rfl, q⟩ := h
 obtain ⟨t, rfl⟩ := rx
 obtain ⟨t', rfl⟩ := ry
 exact in_str (cE I q rfl)
theorem aDD : OpR X (compareOp .Is) (fun x y H Q => y = .non ∧ Q (.bl (decide (x = .non))) H) := by
 intro pins s σ H x y v u Q I rx ry h
 obtain ⟨rfl, q⟩ := h
 cases ry
 refine is_none_gen (cE I q ?_)
 cases x <;> first
  | (cases rx; rfl)
  | (obtain ⟨t, rfl⟩ := rx; rfl)
theorem aKT : OpR X (compareOp .IsNot) (fun x y H Q => y = .non ∧ Q (.bl (!decide (x = .non))) H) := by
 intro pins s σ H x y v u Q I rx ry h
 obtain ⟨rfl, q⟩ := h
 cases ry
 refine isnot_none_gen (cE I q ?_)
 cases x <;> first
  | (cases rx; rfl)
  | (obtain ⟨t, rfl⟩ := rx; rfl)
theorem bI (b : Expr) {op : CmpOp} (h : op ≠ .In := by decide) (h2 : op ≠ .NotIn := by decide) : behindInMarks op b = false := by
 have e1 : (op == CmpOp.In) = false := by cases op <;> first | rfl | exact absurd rfl h
 have e2 : (op == CmpOp.NotIn) = false := by cases op <;> first | rfl | exact absurd rfl h2
 cases b <;> simp [behindInMarks, e1, e2]
theorem dJ {op : CmpOp} {r : R2} (ho : OpR X (compareOp op) r) (ha : PE X a ta) (hb : PE X b tb) (hm : behindInMarks op b = false) : PE X (.Compare a [op] [b] pos) (tOp r ta tb) := by
 intro pins s σ H Q I h
 exact wpAny_Compare1 (aNR ha hb I h fun v u s2 x y H2 I2 rx ry q => ho pins s2 σ H2 x y v u Q I2 rx ry q) hm
def aLS (t : TE) : TT := fun σ H Q => t σ H fun x H' => ∃ k, x = .bl k ∧ Q k H'
theorem bE {op : CmpOp} {r : R2} (ho : OpR X (compareOp op) r) (ha : PE X a ta) (hb : PE X b tb) (hm : behindInMarks op b = false) : PT X (.Compare a [op] [b] pos) (aLS (tOp r ta tb)) := by
 intro pins s σ H Q I h
 refine wpAny_isTrue_Compare1 (thn (ha pins s σ H _ I h) fun v s1 ⟨x, H1, I1, r1, q1⟩ => thn (hb pins s1 σ H1 _ I1 q1) fun u s2 ⟨y, H2, I2, r2, q2⟩ =>
  thn (ho pins s2 σ H2 x y v u _ I2 r1 r2 q2) fun c s3 ⟨z, H3, I3, r3, k, e, q3⟩ => ?_) hm
 subst e
 cases r3
 exact wpAny_truthy_bool ⟨H3, I3, q3⟩
def aHD (r r' : R2) (ta tb tc : TE) : TE := fun σ H Q => ta σ H fun x H1 => tb σ H1 fun y H2 => r x y H2 fun z H3 => ∃ k, z = .bl k ∧
 (if k = true then tc σ H3 fun w' H4 => r' y w' H4 Q else Q (.bl false) H3)
theorem qA {op op' : CmpOp} {r r' : R2} (ho : OpR X (compareOp op) r) (ho' : OpR X (compareOp op') r') (ha : PE X a ta) (hb : PE X b tb) (hc : PE X c tc)
  (hm : lastMarks [op, op'] [b, c] = false := by with_unfolding_all rfl) : PE X (.Compare a [op, op'] [b, c] pos) (aHD r r' ta tb tc) := by
 intro pins s σ H Q I h
 refine Compare_chain (thn (ha pins s σ H _ I h) fun v s1 ⟨x, H1, I1, r1, q1⟩ => chain_link (thn (hb pins s1 σ H1 _ I1 q1) fun u s2 ⟨y, H2, I2, r2, q2⟩ =>
  thn (ho pins s2 σ H2 x y v u _ I2 r1 r2 q2) fun d s3 ⟨z, H3, I3, r3, k, e, q3⟩ => ?_)) hm
 subst e
 cases r3
 refine wpAny_truthy_bool ?_
 cases k with
 | false => exact ite_ff ⟨.bl false, H3, I3, rfl, q3⟩
 | true => exact ite_tt (chain_last (thn (hc pins s3 σ H3 _ I3 q3) fun w' s4 ⟨z', H4, I4, r4, q4⟩ => ho' pins s4 σ H4 y z' u w' Q I4 r2 r4 q4))
theorem aIF {op op' : CmpOp} {r r' : R2} (ho : OpR X (compareOp op) r) (ho' : OpR X (compareOp op') r') (ha : PE X a ta) (hb : PE X b tb) (hc : PE X c tc)
  (hm : lastMarks [op, op'] [b, c] = false := by with_unfolding_all rfl) : PT X (.Compare a [op, op'] [b, c] pos) (aLS (aHD r r' ta tb tc)) := by
 intro pins s σ H Q I h
 refine isTrue_chain (thn (ha pins s σ H _ I h) fun v s1 ⟨x, H1, I1, r1, q1⟩ => test_link (thn (hb pins s1 σ H1 _ I1 q1) fun u s2 ⟨y, H2, I2, r2, q2⟩ =>
  thn (ho pins s2 σ H2 x y v u _ I2 r1 r2 q2) fun d s3 ⟨z, H3, I3, r3, k, e, q3⟩ => ?_)) hm
 subst e
 cases r3
 refine wpAny_truthy_bool ?_
 cases k with
 | false =>
  obtain ⟨k', e', q'⟩ := q3
  cases e'
  exact ite_ff ⟨H3, I3, q'⟩
 | true =>
  refine ite_tt (test_last (thn (hc pins s3 σ H3 _ I3 q3) fun w' s4 ⟨z', H4, I4, r4, q4⟩ => thn (ho' pins s4 σ H4 y z' u w' _ I4 r2 r4 q4) fun d' s5 ⟨z2, H5, I5, r5, k2, e2, q5⟩ => ?_))
  subst e2
  cases r5
  exact wpAny_truthy_bool ⟨H5, I5, q5⟩
theorem uQ : (sizeLine : Nat) < 2 ^ 63 := by rw [sizeLine_eq]; decide
theorem aDE : OpR X (binaryOp .Add) (fun x y H Q => ∃ i j, x = .str i ∧ y = .str j ∧ i.length + j.length ≤ sizeLine ∧ Q (.str (i ++ j)) H) := by
 intro pins s σ H x y v u Q I rx ry h
 obtain ⟨i, j, rfl, rfl, hz, q⟩ := h
 obtain ⟨t, rfl⟩ := rx
 obtain ⟨t', rfl⟩ := ry
 exact add_str (fun t' tk => ⟨.str (i ++ j), H, I.tok _, ⟨_, rfl⟩, q⟩) hz
theorem aED {x : V} {us : List Value} (r : bO [x] us) : ∃ u, us = [u] ∧ bN x u := by
 cases r with
 | cons r1 r2 => cases r2; exact ⟨_, rfl, r1⟩
theorem aNZ {x y : V} {us : List Value} (r : bO [x, y] us) : ∃ u w', us = [u, w'] ∧ bN x u ∧ bN y w' := by
 cases r with
 | cons r1 r2 =>
  cases r2 with
  | cons r3 r4 => cases r4; exact ⟨_, _, rfl, r1, r3⟩
theorem aBT : gJ X (.builtin "abs") (fun xs H Q => ∃ i, xs = [.int i] ∧ Q (.int (if i < 0 then -i else i)) H) := by
 intro pins s σ H xs us Q I r h
 obtain ⟨i, rfl, q⟩ := h
 obtain ⟨u, rfl, t, rfl⟩ := aED r
 exact call_abs_int fun u tk => ⟨.int (if i < 0 then -i else i), H, I.tok _, ⟨_, rfl⟩, q⟩
theorem xH (hc : X.calm = true) : gJ X (.builtin "max") (fun xs H Q => ∃ i j, xs = [.int i, .int j] ∧ Q (.int (if j > i then j else i)) H) := by
 intro pins s σ H xs us Q I r h
 obtain ⟨i, j, rfl, q⟩ := h
 obtain ⟨u, w', rfl, ⟨t, rfl⟩, ⟨t', rfl⟩⟩ := aNZ r
 refine max_two_ints (I.ok.hd hc) fun h' tk k => ⟨_, H, I.kept k, ?_, q⟩
 by_cases hj : j > i
 ·rw [if_pos hj, if_pos hj]; exact ⟨_, rfl⟩
 ·rw [if_neg hj, if_neg hj]; exact ⟨_, rfl⟩
end
end L2
namespace L2
open PySem PySem.Spec PyProof.Rows
structure ObjM (h : Heap) (x dx C : Addr) (mA : Str → Option Value) : Prop where
 obj : h.get? x = some (PySem.W.instObj C dx)
 ns : h.Ns1 dx mA
 ne : dx ≠ x
theorem aGG {h : Heap} {dx : Addr} {mA : Str → Option Value} (n : h.Ns1 dx mA) : ∃ od, h.get? dx = some od ∧ ∀ name, PySem.W.lookIn name od = some (mA name) := by
 obtain ⟨o, es, ep, ho, hd, hk, _, hm⟩ := n
 refine ⟨o, ho, fun name => ?_⟩
 have e := hm name
 unfold nsFind findBy at e
 rw [← Array.find?_toList] at e
 unfold PySem.W.lookIn
 rw [hd]
 dsimp only
 split
 ·rename_i y q
  rw [q] at e
  exact congrArg some e
 ·rename_i q
  rw [q] at e
  have a : es.toList.any (·.refKey) = false := by
   rw [List.any_eq_false]
   intro y hy
   obtain ⟨z, t, hkey⟩ := hk y (Array.mem_toList_iff.mp hy)
   simp [DictEntry.refKey, hkey]
  have a' : ¬ es.toList.any (·.refKey) = true := by rw [a]; exact Bool.false_ne_true
  rw [if_neg a']
  exact congrArg some e
theorem ObjM.look {h : Heap} {x dx C : Addr} {mA : Str → Option Value} (I : ObjM h x dx C mA) : ∃ od, PySem.W.InstAt h x (PySem.W.instObj C dx) C (some od) ∧ ∀ name, PySem.W.lookIn name od = some (mA name) :=
 let ⟨od, ho, hl⟩ := aGG I.ns
 ⟨od, ⟨I.obj, rfl, rfl, ho⟩, hl⟩
section
variable {prog : Program} {w : World} {A : Around} {E : Value → Shared → Prop} {s : Shared} {K : PySem.W.Frag} {x dx C f : Addr} {mA : Str → Option Value} {name : Str} {v : Value}
theorem aLH {expr : Bool} {Q : Value → Shared → Prop} (X : K.In s.heap) (I : ObjM s.heap x dx C mA) (hg : PySem.W.plainGet K C name = true) (hh : PySem.W.hasDictIn K C = true)
  (ha : PySem.W.findIn K (.ref C) name = some none) (hv : mA name = some v) (hv' : PySem.W.handedIn v = true) (h : Q v { s with toks := s.toks + 1 }) :
  wpAny (model prog w) A (getAttr (.ref x) name expr) Q E s := by
 obtain ⟨od, J, hl⟩ := I.look
 exact PySem.W.get_value X J (PySem.W.plainGet_of hg).1 (PySem.W.findObj_own hh ha rfl (by rw [hl, hv])) hv' h
theorem aJH {pl : Sem Bool} {Q : Value × List Value → Shared → Prop} (X : K.In s.heap) (I : ObjM s.heap x dx C mA) (hg : PySem.W.plainGet K C name = true)
  (hf : PySem.W.findIn K (.ref C) name = some (some (.ref f))) (ht : PySem.W.isFn K (.ref f) = true) (hv : mA name = none) (h : Q (.ref f, [.ref x]) s) :
  wpAny (model prog w) A (getMethod (.ref x) name pl) Q E s := by
 obtain ⟨od, J, hl⟩ := I.look
 exact PySem.W.method_fn X J (PySem.W.plainGet_of hg).1 (PySem.W.plainGet_of hg).2 hf (beq_iff_eq.mp ht) (by show (PySem.W.lookIn name od).map (·.isSome) = some false; rw [hl, hv]; rfl) h
theorem aKI {ns : List Str} {Q : Unit → Shared → Prop} (X : K.In s.heap) (I : ObjM s.heap x dx C mA)
  (hs : PySem.W.findIn K (.ref C) "__setattr__" = some (some (.builtin "object.__setattr__"))) (hp : PySem.W.plainOver K C = true) (ht : PySem.W.takerIn K C name = some none) (hh : PySem.W.hasDictIn K C = true)
  (hw : PySem.Within mA ns) (hsz : ns.length ≤ sizeLine)
  (h : ∀ h', ObjM h' x dx C (fun y => if y = name then some v else mA y) → Heap.SameBut dx s.heap h' → Q () { s with heap := h', toks := s.toks + 2 }) :
  wpAny (model prog w) A (setAttr (.ref x) name v) Q E s := by
 obtain ⟨od, J, hl⟩ := I.look
 refine PySem.W.set_plain X J hs (PySem.W.osa_open (s := { s with toks := s.toks + 1 }) (r := none) X J hp ht fun b => ?_)
 obtain ⟨cd, hc, hd'⟩ := PySem.W.any_some hh
 have hx : s.heap.get? x = some ⟨.ref C, some dx, .plain, #[]⟩ := I.obj
 refine wpAny_bind (wpAny_pure (wpAny_bind (wpAny_bind (wpAny_loadPart hx (wpAny_bind (PySem.W.Looks.here (s := { s with toks := s.toks + 1 }) (PySem.W.looks_clsIn X hc) ?_))))))
 rw [hd']
 refine wpAny_pure (a := some dx) (wpAny_bind (wpAny_pure (wpAny_bind ?_)))
 refine wpAny_nsSet1 (s := { s with toks := s.toks + 1 }) I.ns fun h' hn2 hs2 => ?_
 obtain ⟨oD, esD, epD, hoD, hdD, hcD⟩ := hn2.count (PySem.Within.cons name v hw)
 refine wpAny_bind (wpAny_lookBehind hoD (by rw [hdD]; exact pastItsLine_dict (Nat.le_trans hcD (by rw [List.length_cons]; omega))) ?_)
 exact wpAny_pure (h _ ⟨(hs2.2 _ (Ne.symm I.ne)).trans I.obj, hn2, I.ne⟩ hs2)
theorem aIU {R : Result → Shared → Prop} {vs : List Value} {kw : List (Str × Value)} (X : K.In s.heap) (hm : PySem.W.makesIn K C = true)
  (hi : PySem.W.findIn K (.ref C) "__init__" = some (some (.ref f))) (hf : PySem.W.typeIn K (.ref f) = some (.type "function"))
  (h : codeAny (model prog w) (A.under (.builtin "type.__call__" ⟨.ref C :: vs, kw⟩)) (.call (.ref f) ⟨.ref (s.heap.objs.size + 1) :: vs, kw⟩) (PySem.W.InitBack (s.heap.objs.size + 1) R)
   { s with heap := (s.heap.push PySem.W.emptyDict).push (PySem.W.instObj C s.heap.objs.size) }) :
  codeAny (model prog w) A (.call (.ref C) ⟨vs, kw⟩) R s := by
 obtain ⟨hh, g, d, t, os⟩ := s
 exact PySem.W.make_core (PySem.W.makes_of X hm) (PySem.W.looks_findIn X hi) (fun self => PySem.W.bind_fn X self hf) (.inl rfl) h
end
def jB (f : Str) (v : V) : List (Str × V) → List (Str × V)
 | [] => [(f, v)]
 | (g, x) :: r => if g = f then (g, v) :: r else (g, x) :: jB f v r
theorem fI (f g : Str) (v : V) : ∀ fs : List (Str × V), (jB f v fs).lookup g = if g = f then some v else fs.lookup g
 | [] => by
  show List.lookup g [(f, v)] = _
  by_cases h : g = f
  ·have hb : (g == f) = true := beq_iff_eq.mpr h
   simp only [List.lookup, hb, if_pos h]
  ·have hb : (g == f) = false := beq_eq_false_iff_ne.mpr h
   simp only [List.lookup, hb, if_neg h]
 | (k, x) :: r => by
  have ih := fI f g v r
  rw [show jB f v ((k, x) :: r) = (if k = f then (k, v) :: r else (k, x) :: jB f v r) from rfl]
  by_cases hk : k = f
  ·rw [if_pos hk]
   by_cases h : g = k
   ·have hb : (g == k) = true := beq_iff_eq.mpr h
    simp only [List.lookup, hb, if_pos (h.trans hk)]
   ·have hb : (g == k) = false := beq_eq_false_iff_ne.mpr h
    simp only [List.lookup, hb, if_neg (fun e : g = f => h (e.trans hk.symm))]
  ·rw [if_neg hk]
   by_cases h : g = k
   ·have hb : (g == k) = true := beq_iff_eq.mpr h
    simp only [List.lookup, hb, if_neg (fun e : g = f => hk (h.symm.trans e))]
   ·have hb : (g == k) = false := beq_eq_false_iff_ne.mpr h
    simp only [List.lookup, hb]
    exact ih
theorem rC (f : Str) (v : V) : ∀ fs : List (Str × V), f ∈ (jB f v fs).map (·.1) ∧ ∀ g, g ∈ fs.map (·.1) → g ∈ (jB f v fs).map (·.1)
 | [] => ⟨by simp [jB], fun g h => by simp at h⟩
 | (k, x) :: r => by
  obtain ⟨i1, i2⟩ := rC f v r
  rw [show jB f v ((k, x) :: r) = (if k = f then (k, v) :: r else (k, x) :: jB f v r) from rfl]
  by_cases hk : k = f
  ·rw [if_pos hk]
   subst hk
   exact ⟨by simp, fun g h => by simpa using h⟩
  ·rw [if_neg hk]
   refine ⟨?_, fun g h => ?_⟩
   ·rw [List.map_cons]
    exact List.mem_cons_of_mem _ i1
   ·rw [List.map_cons] at h ⊢
    rcases List.mem_cons.mp h with e | e
    ·exact List.mem_cons.mpr (.inl e)
    ·exact List.mem_cons_of_mem _ (i2 g e)
theorem sA (f : Str) (v : V) : ∀ fs : List (Str × V), (jB f v fs).length ≤ fs.length + 1
 | [] => by simp [jB]
 | (k, x) :: r => by
  have ih := sA f v r
  rw [show jB f v ((k, x) :: r) = (if k = f then (k, v) :: r else (k, x) :: jB f v r) from rfl]
  by_cases hk : k = f
  ·rw [if_pos hk, List.length_cons, List.length_cons]; omega
  ·rw [if_neg hk, List.length_cons, List.length_cons]; omega
theorem mK.some_of {v : V} {o : Option Value} (r : mK (some v) o) : ∃ u, o = some u ∧ bN v u := by
 cases o with
 | none => exact (show False from r).elim
 | some u => exact ⟨u, rfl, r⟩
theorem mK.none_of {o : Option Value} (r : mK none o) : o = none := by
 cases o with
 | none => rfl
 | some u => exact (show False from r).elim
theorem aGM {v : V} {u : Value} (r : bN v u) : PySem.W.handedIn u = true := by
 cases v with
 | non => cases (show u = Value.none from r); rfl
 | bl b => cases (show u = Value.bool b from r); rfl
 | int i => obtain ⟨t, e⟩ := (show ∃ t, u = Value.int i t from r); cases e; rfl
 | str x => obtain ⟨t, e⟩ := (show ∃ t, u = Value.str x t from r); cases e; rfl
 | byt b => obtain ⟨t, e⟩ := (show ∃ t, u = Value.bytes b t from r); cases e; rfl
 | flt b => obtain ⟨t, e⟩ := (show ∃ t, u = Value.float b t from r); cases e; rfl
 | ref a => cases (show u = Value.ref a from r); rfl
 | ty n => cases (show u = Value.type n from r); rfl
section
variable {P : Program} {w : World} {H H' : Hp} {h h' : Heap} {a C dx : Addr} {fs fs' : List (Str × V)}
theorem tI (hok : HOk P w H h) (e : H a = some (.ins C dx fs)) : ∃ mA, ObjM h a dx C mA ∧ (∀ f, mK (fs.lookup f) (mA f)) ∧ PySem.Within mA (fs.map (·.1)) ∧ fs.length ≤ 1000 ∧ H dx = some (.own a) := by
 obtain ⟨d, z, ne, ob, mA, n, r, q⟩ := (show cU P w H h a (.ins C dx fs) from hok a _ e)
 exact ⟨mA, ⟨ob, n, ne⟩, r, q, z, d⟩
end
structure Cls (K : PySem.W.Frag) (C : Addr) : Prop where
 pg : PySem.W.plainGet K C Str.empty = true
 hd : PySem.W.hasDictIn K C = true
 po : PySem.W.plainOver K C = true
 sa : PySem.W.findIn K (.ref C) "__setattr__" = some (some (.builtin "object.__setattr__"))
theorem Cls.get {K : PySem.W.Frag} {C : Addr} (c : Cls K C) (f : Str) : PySem.W.plainGet K C f = true := c.pg
def oJ (K : PySem.W.Frag) (C : Addr) (f : Str) : Prop := PySem.W.findIn K (.ref C) f = some none
theorem oJ.taker {K : PySem.W.Frag} {C : Addr} {f : Str} (n : oJ K C f) : PySem.W.takerIn K C f = some none := by
 unfold PySem.W.takerIn
 rw [show PySem.W.findIn K (.ref C) f = some none from n]
 rfl
structure Con (K : PySem.W.Frag) (C : Addr) (f : Str) (v : V) (u : Value) : Prop where
 at_ : PySem.W.findIn K (.ref C) f = some (some u)
 rel : bN v u
 get : PySem.W.specialIn K u "__get__" = some none
 cp : PySem.W.copiedNames.contains f = false
structure Meth (K : PySem.W.Frag) (C : Addr) (m : Str) (f : Addr) : Prop where
 at_ : PySem.W.findIn K (.ref C) m = some (some (.ref f))
 fn : PySem.W.isFn K (.ref f) = true
 kp : PySem.W.keepIn K (.ref f) = true
section
variable {X : Cx} {pins : List (Addr × Obj)} {σ : St} {H : Hp} {s : Shared} {a C dx : Addr} {fs : List (Str × V)} {f : Str} {v : V} {A : Around} {E : Value → Shared → Prop}
theorem aDQ {b : Bool} {Q : Value → Shared → Prop} (I : Inv X pins σ H s) (e : H a = some (.ins C dx fs)) (c : Cls X.K C) (n : oJ X.K C f) (l : fs.lookup f = some v)
  (h : ∀ u s', Inv X pins σ H s' → bN v u → Q u s') : wpAny (model X.prog X.w) A (getAttr (.ref a) f b) Q E s := by
 obtain ⟨mA, O, r, _, _, _⟩ := tI I.hok e
 obtain ⟨u, hu, ru⟩ := mK.some_of (v := v) (o := mA f) (by rw [← l]; exact r f)
 exact aLH I.kIn O (c.get f) c.hd n hu (aGM ru) (h u _ (I.tok _) ru)
theorem uW {m : Str} {g : Addr} {pl : Sem Bool} {Q : Value × List Value → Shared → Prop} (I : Inv X pins σ H s) (e : H a = some (.ins C dx fs)) (c : Cls X.K C) (k : Meth X.K C m g) (l : fs.lookup m = none)
  (h : Q (.ref g, [.ref a]) s) : wpAny (model X.prog X.w) A (getMethod (.ref a) m pl) Q E s := by
 obtain ⟨mA, O, r, _, _, _⟩ := tI I.hok e
 have hn : mA m = none := mK.none_of (by rw [← l]; exact r m)
 exact aJH I.kIn O (c.get m) k.at_ k.fn hn h
theorem aCO {y : V} {u : Value} {Q : Unit → Shared → Prop} (I : Inv X pins σ H s) (e : H a = some (.ins C dx fs)) (c : Cls X.K C) (n : oJ X.K C f) (hl : fs.length < 1000) (ry : bN y u)
  (h : ∀ s', Inv X pins σ (upd H a (.ins C dx (jB f y fs))) s' → Q () s') : wpAny (model X.prog X.w) A (setAttr (.ref a) f u) Q E s := by
 obtain ⟨mA, O, r, wi, _, ho⟩ := tI I.hok e
 have hz : (fs.map (·.1)).length ≤ sizeLine := by rw [List.length_map, sizeLine_eq]; omega
 refine aKI I.kIn O c.sa c.po n.taker c.hd wi hz fun h' O' sb => h _ ?_
 have hd : ∃ o, h'.get? dx = some o := let ⟨o, _, _, e', _⟩ := O'.ns; ⟨o, e'⟩
 refine I.write (x := a) (e := dx) (by rw [e]; exact True.intro) (.inr ho) (fun b q hb z => (sb.2 b hb).trans z) hd ?_
 refine ⟨by rw [aQ O.ne]; exact ho, ?_, O.ne, O'.obj, _, O'.ns, fun g => ?_, fun g hg => ?_⟩
 ·have := sA f y fs; omega
 ·show mK ((jB f y fs).lookup g) (if g = f then some u else mA g)
  rw [fI]
  by_cases q : g = f
  ·rw [if_pos q, if_pos q]; exact ry
  ·rw [if_neg q, if_neg q]; exact r g
 ·by_cases q : g = f
  ·rw [q]; exact (rC f y fs).1
  ·refine (rC f y fs).2 g (wi g fun z => hg ?_)
   show (if g = f then some u else mA g) = none
   rw [if_neg q]; exact z
theorem Inv.made (I : Inv X pins σ H s) : Inv X pins σ (upd (upd H s.heap.objs.size (.own (s.heap.objs.size + 1))) (s.heap.objs.size + 1) (.ins C s.heap.objs.size []))
  { s with heap := (s.heap.push PySem.W.emptyDict).push (PySem.W.instObj C s.heap.objs.size) } := by
 have e1 : (s.heap.push PySem.W.emptyDict).get? s.heap.objs.size = some PySem.W.emptyDict := Heap.get?_push_size s.heap rfl
 have e2 : ((s.heap.push PySem.W.emptyDict).push (PySem.W.instObj C s.heap.objs.size)).get? (s.heap.objs.size + 1) = some (PySem.W.instObj C s.heap.objs.size) := by
  have := Heap.get?_push_size (s.heap.push PySem.W.emptyDict) (o := PySem.W.instObj C s.heap.objs.size) rfl
  rwa [Heap.size_push] at this
 have e3 : (s.heap.push PySem.W.emptyDict).Ns s.heap.objs.size (fun _ => none) := ⟨PySem.W.emptyDict, #[], _, e1, rfl, (fun e he => absurd he (by simp)), fun _ => rfl⟩
 have I1 := I.laid (a := s.heap.objs.size) (o := .own (s.heap.objs.size + 1)) (h' := s.heap.push PySem.W.emptyDict) (t' := s.toks) (fun b u q => Heap.get?_push_of_some _ q) (Nat.le_refl _) ⟨_, e1⟩
 refine I1.laid (a := s.heap.objs.size + 1) (o := .ins C s.heap.objs.size []) (t' := s.toks) (fun b u q => Heap.get?_push_of_some _ q) (Nat.le_of_eq (Heap.size_push _ _)) ?_
 have ne : s.heap.objs.size ≠ s.heap.objs.size + 1 := Nat.ne_of_lt (Nat.lt_succ_self _)
 refine ⟨by rw [aQ ne, aF], Nat.zero_le _, ne, e2, fun _ => none, (Heap.Ns1.of_empty e3).at fun o q => Heap.get?_push_of_some _ q, fun _ => True.intro, fun y hy => absurd rfl hy⟩
theorem aLO {prog : Program} {w : World} {env : Env} {e : Expr} {f : Str} {pos : Pos} {s : Shared} {Q : Value → Shared → Prop} (hb : attributeBase e f env (eval e env) = eval e env)
  (h : wpAny (model prog w) A (eval e env) (fun o s₁ => wpAny (model prog w) A (getAttr o f true) Q E s₁) E s) : wpAny (model prog w) A (eval (.Attribute e f pos) env) Q E s :=
 Attribute_any_ h (by rw [arm_eval_Attribute, hb])
end
def aPW (K : PySem.W.Frag) (ta : TE) (f : Str) : TE := fun σ H Q => ta σ H fun x H1 => ∃ a C dx fs v, x = .ref a ∧ H1 a = some (.ins C dx fs) ∧ Cls K C ∧ oJ K C f ∧ fs.lookup f = some v ∧ Q v H1
def aQA (K : PySem.W.Frag) (ta tv : TE) (f : Str) : TS := fun D σ H => tv σ H fun y H1 => ta σ H1 fun x H2 => ∃ a C dx fs, x = .ref a ∧ H2 a = some (.ins C dx fs) ∧ Cls K C ∧ oJ K C f ∧ fs.length < 1000 ∧
 D.nx σ (upd H2 a (.ins C dx (jB f y fs)))
def aNW (X : Cx) (op : Operator) (rd : V → V → Hp → VK → Prop) : Prop :=
 ∀ (pins : List (Addr × Obj)) (s : Shared) (σ : St) (H : Hp) (x y : V) (u v : Value) (Q : VK), Inv X pins σ H s → bN x u → bN y v → rd x y H Q → wpAny (model X.prog X.w) X.A (inplaceOp op u v) (EP X pins σ Q) X.xe s
section
variable {X : Cx} {o e value : Expr} {f : Str} {pos pos' tpos : Pos} {ta tv : TE}
theorem qU (he : PE X e ta) (hb : attributeBase e f X.env (eval e X.env) = eval e X.env) : PE X (.Attribute e f pos) (aPW X.K ta f) := by
 intro pins s σ H Q I h
 refine aLO hb (thn (he pins s σ H _ I h) fun u s1 ⟨x, H1, I1, rx, a, C, dx, fs, v, ex, ea, c, n, l, q⟩ => ?_)
 subst ex
 obtain rfl : u = Value.ref a := rx
 exact aDQ I1 ea c n l fun u' s2 I2 ru => ⟨v, H1, I2, ru, q⟩
theorem aIG (ha : PE X o ta) (hv : PE X value tv) (hs : swapsWith value (some (.Attribute o f pos')) pos.line X.env = pure false) : PS X (.Assign [.Attribute o f pos'] value pos) (aQA X.K ta tv f) := by
 intro pins s σ H D I h
 refine plainObj_wpAny_Assign_Attribute (thn (hv pins s σ H _ I h) fun u s1 ⟨y, H1, I1, ry, q⟩ => thn (ha pins s1 σ H1 _ I1 q) fun ov s2 ⟨x, H2, I2, rx, a, C, dx, fs, ex, ea, c, n, l, q2⟩ => ?_) hs
 subst ex
 obtain rfl : ov = Value.ref a := rx
 exact aCO I2 ea c n l ry fun s3 I3 => ⟨σ, _, I3, q2⟩
def aQE : V → V → Hp → VK → Prop := fun x y H Q => ∃ i j, x = .int i ∧ y = .int j ∧ Q (.int (i + j)) H
def aQB : V → V → Hp → VK → Prop := fun x y H Q => ∃ i j, x = .int i ∧ y = .int j ∧ Q (.int (i - j)) H
theorem aJE : aNW X .Add aQE := by
 rintro pins s σ H x y u v Q I rx ry ⟨i, j, rfl, rfl, q⟩
 obtain ⟨t, rfl⟩ := (show ∃ t, u = Value.int i t from rx)
 obtain ⟨t', rfl⟩ := (show ∃ t', v = Value.int j t' from ry)
 exact PyProof.Rows.iadd_int ⟨.int (i + j), H, I.tok _, ⟨_, rfl⟩, q⟩
theorem aNM : aNW X .Sub aQB := by
 rintro pins s σ H x y u v Q I rx ry ⟨i, j, rfl, rfl, q⟩
 obtain ⟨t, rfl⟩ := (show ∃ t, u = Value.int i t from rx)
 obtain ⟨t', rfl⟩ := (show ∃ t', v = Value.int j t' from ry)
 exact PyProof.Rows.isub_int ⟨.int (i - j), H, I.tok _, ⟨_, rfl⟩, q⟩
end
section
variable {X : Cx} {pins : List (Addr × Obj)} {σ : St} {H : Hp} {s : Shared} {A : Around} {E : Value → Shared → Prop} {Q : Value → Shared → Prop} {c : Value} {b : Bool}
inductive TyOf (K : PySem.W.Frag) (H : Hp) : V → Value → Prop where
 | non : TyOf K H .non (.type "NoneType")
 | bl (x : Bool) : TyOf K H (.bl x) (.type "bool")
 | int (i : Int) : TyOf K H (.int i) (.type "int")
 | str (x : Str) : TyOf K H (.str x) (.type "str")
 | flt (x : UInt64) : TyOf K H (.flt x) (.type "float")
 | lst {a : Addr} {xs : List V} (e : H a = some (.lst xs)) : TyOf K H (.ref a) (.type "list")
 | frz {a : Addr} {o : Obj} {xs : List V} (e : H a = some (.frz o (.lst xs))) : TyOf K H (.ref a) (.type "list")
 | tup {a : Addr} {xs : List V} (e : H a = some (.tup xs)) : TyOf K H (.ref a) (.type "tuple")
 | dK {a : Addr} {kvs : List (Key × V)} (e : H a = some (.dK kvs)) : TyOf K H (.ref a) (.type "dict")
 | dT {a : Addr} {kvs : List (List Key × V)} (e : H a = some (.dT kvs)) : TyOf K H (.ref a) (.type "dict")
 | ins {a C dx : Addr} {fs : List (Str × V)} (e : H a = some (.ins C dx fs)) (cl : Cls K C) (ha : PySem.W.findIn K (.ref C) "__class__" = some (some (.builtin "object.__class__")))
   (hn : PySem.W.specialIn K (.builtin "object.__class__") "__get__" = some (some (.builtin "getset_descriptor.__get__"))) (htk : PySem.W.takesIn K (.builtin "object.__class__") = some true)
   (hm : PySem.W.mroIn K C (.type "object") = some true) : TyOf K H (.ref a) (.ref C)
theorem aGI {x : V} {u t : Value} (I : Inv X pins σ H s) (rx : bN x u) (ty : TyOf X.K H x t) (e : PySem.W.kitOne X.K t c = some b) (h : ∀ tk, Q (.bool b) { s with toks := tk }) :
  wpAny (model X.prog X.w) A (call (.builtin "isinstance") [u, c]) Q E s := by
 cases ty with
 | non => cases (show u = Value.none from rx); exact PySem.W.kia_one PySem.W.kitx_none I.kIn True.intro e (fun z => nomatch z) h
 | bl y => cases (show u = Value.bool y from rx); exact PySem.W.kia_one PySem.W.kitx_bool I.kIn True.intro e (fun z => nomatch z) h
 | int i => obtain ⟨t, q⟩ := (show ∃ t, u = Value.int i t from rx); cases q; exact PySem.W.kia_one PySem.W.kitx_int I.kIn True.intro e (fun z => nomatch z) h
 | str y => obtain ⟨t, q⟩ := (show ∃ t, u = Value.str y t from rx); cases q; exact PySem.W.kia_one PySem.W.kitx_str I.kIn True.intro e (fun z => nomatch z) h
 | flt y => obtain ⟨t, q⟩ := (show ∃ t, u = Value.float y t from rx); cases q; exact PySem.W.kia_one PySem.W.kitx_float I.kIn True.intro e (fun z => nomatch z) h
 | @lst a xs ea =>
  cases (show u = Value.ref a from rx)
  obtain ⟨_, _, n, _, h1⟩ := (show cU X.prog X.w H s.heap a (.lst xs) from I.hok a _ ea)
  exact PySem.W.kia_one PySem.W.kitx_list I.kIn ⟨_, h1, rfl⟩ e (fun z => nomatch z) h
 | @frz a ob xs ea =>
  cases (show u = Value.ref a from rx)
  obtain ⟨_, _, _, n, _, h1⟩ := (show cU X.prog X.w H s.heap a (.frz ob (.lst xs)) from I.hok a _ ea)
  exact PySem.W.kia_one PySem.W.kitx_list I.kIn ⟨_, h1, rfl⟩ e (fun z => nomatch z) h
 | @tup a xs ea =>
  cases (show u = Value.ref a from rx)
  obtain ⟨_, _, _, p⟩ := (show cU X.prog X.w H s.heap a (.tup xs) from I.hok a _ ea)
  obtain ⟨o, h1, h2, _⟩ := p
  exact PySem.W.kia_one PySem.W.kitx_tuple I.kIn ⟨o, h1, h2⟩ e (fun z => nomatch z) h
 | @dK a kvs ea =>
  cases (show u = Value.ref a from rx)
  obtain ⟨_, _, vs, _, p⟩ := (show cU X.prog X.w H s.heap a (.dK kvs) from I.hok a _ ea)
  obtain ⟨o, es, ep, h1, h2, _⟩ := p
  exact PySem.W.kia_one PySem.W.kitx_dict I.kIn ⟨o, h1, h2.1⟩ e (fun z => nomatch z) h
 | @dT a kvs ea =>
  cases (show u = Value.ref a from rx)
  obtain ⟨_, _, xs, _, o, es, ep, h1, h2, _⟩ := (show cU X.prog X.w H s.heap a (.dT kvs) from I.hok a _ ea)
  exact PySem.W.kia_one PySem.W.kitx_dict I.kIn ⟨o, h1, h2.1⟩ e (fun z => nomatch z) h
 | @ins a C dx fs ea cl ha hn htk hm =>
  cases (show u = Value.ref a from rx)
  obtain ⟨mA, O, _⟩ := tI I.hok ea
  obtain ⟨od, J, _⟩ := O.look
  exact PySem.W.kia_one (PySem.W.kitx_own (cl.get _) cl.hd ha hn htk hm) I.kIn J e (fun z => nomatch z) h
end
end L2
namespace L2
open PySem PySem.Spec PyProof.Rows
structure Room (k : Nat) (A : Around) : Prop where
 hd : A.handled = none
 dp : A.depth + 3 * k + 5 < recursionLimit
 un : A.units + 16 * k + 200 < cLine
theorem Room.mono {j k : Nat} {A : Around} (r : Room k A) (h : j ≤ k) : Room j A := ⟨r.hd, by have := r.dp; omega, by have := r.un; omega⟩
theorem Room.deeper {k : Nat} {A : Around} (r : Room (k + 1) A) (env : Env) : Room k (A.deeper env) :=
 ⟨r.hd, by have := r.dp; show A.depth + 1 + 3 * k + 5 < _; omega, by have := r.un; show A.units + 3 + 16 * k + 200 < _; omega⟩
theorem aDK {A : Around} {C : Addr} {us : List Value} {kw : List (Str × Value)} : (A.under (.builtin "type.__call__" ⟨.ref C :: us, kw⟩)).depth = A.depth + 1 := by
 first | rfl | simp [Around.under, Code.weight, Code.isCreation, Code.isGuard, Code.isCaller, Code.frames, Code.isFrame, guardIds]
theorem aDJ {A : Around} {C : Addr} {us : List Value} {kw : List (Str × Value)} : (A.under (.builtin "type.__call__" ⟨.ref C :: us, kw⟩)).units = A.units + 1 := by
 first | rfl | simp [Around.under, Code.cUnits, Code.frames, Code.isFrame]
theorem Room.make {k : Nat} {A : Around} (r : Room (k + 1) A) (C : Addr) (us : List Value) (kw : List (Str × Value)) : Room k (A.under (.builtin "type.__call__" ⟨.ref C :: us, kw⟩)) :=
 ⟨r.hd, by have := r.dp; rw [aDK]; omega, by have := r.un; rw [aDJ]; omega⟩
theorem Room.depth {k : Nat} {A : Around} (r : Room k A) : A.depth < recursionLimit := by have := r.dp; omega
theorem Room.units {k : Nat} {A : Around} (r : Room k A) : A.units + 64 < cLine := by have := r.un; omega
def aMI : TA := fun _ H Q => Q [] H
def aOI (ta : TE) (tr : TA) : TA := fun σ H Q => ta σ H fun x H1 => tr σ H1 fun xs H2 => Q (x :: xs) H2
section
variable {X : Cx} {e : Expr} {es : List Expr} {te : TE} {t : TA} {pos : Pos}
theorem aD : PA X [] aMI := fun _ _ _ _ H Q I h => Calls.spliced_nil ⟨[], H, I, .nil, h⟩
theorem aA (ha : PE X e te) (hr : PA X es t) (hs : starEach (e :: es) X.env = (false, eval e X.env) :: starEach es X.env := by rfl) : PA X (e :: es) (aOI te t) := by
 intro pos pins s σ H Q I h
 rw [hs]
 show wpAny _ _ (spliced ((false, eval e X.env) :: backTo pos (starEach es X.env))) _ _ s
 refine Calls.spliced_cons (thn (ha pins s σ H _ I h) fun u s1 ⟨x, H1, I1, r1, q1⟩ => ?_)
 exact thn (hr pos pins s1 σ H1 _ I1 q1) fun us s2 ⟨xs, H2, I2, r2, q2⟩ => ⟨x :: xs, H2, I2, .cons r1 r2, q2⟩
def aPO (t : TA) : TE := fun σ H Q => t σ H fun xs H1 => xs.length ≤ sizeLine ∧ ∀ p, H1 p = none → Q (.ref p) (upd H1 p (.tup xs))
def aPT (t : TA) : TE := fun σ H Q => t σ H fun xs H1 => xs.length ≤ sizeLine ∧ ∀ p, H1 p = none → Q (.ref p) (upd H1 p (.lst xs))
theorem fF {x1} (h : PA X es t) : PE X (.Tuple es x1 pos) (aPO t) := by
 intro pins s σ H Q I hq
 refine wpAny_Tuple_spliced (thn (h pos pins s σ H _ I hq) fun us s1 ⟨xs, H1, I1, r, z, q⟩ => ⟨by rw [← r.length]; exact z, ?_⟩)
 have hf : H1 s1.heap.objs.size = none := I1.hok.fresh (Nat.le_refl _)
 refine ⟨.ref s1.heap.objs.size, upd H1 s1.heap.objs.size (.tup xs), I1.laid (t' := s1.toks) (fun b u e => Heap.get?_push_of_some _ e) (Nat.le_refl _) ?_, rfl, q _ hf⟩
 exact ⟨z, us, r, ⟨_, Heap.get?_push_size _ rfl, rfl, _, rfl, rfl⟩⟩
theorem dL (h : PA X es t) : PE X (.List es pos) (aPT t) := by
 intro pins s σ H Q I hq
 refine wpAny_List_spliced (thn (h pos pins s σ H _ I hq) fun us s1 ⟨xs, H1, I1, r, z, q⟩ => ⟨by rw [← r.length]; exact z, ?_⟩)
 have hf : H1 s1.heap.objs.size = none := I1.hok.fresh (Nat.le_refl _)
 refine ⟨.ref s1.heap.objs.size, upd H1 s1.heap.objs.size (.lst xs), I1.laid (t' := s1.toks) (fun b u e => Heap.get?_push_of_some _ e) (Nat.le_refl _) ?_, rfl, q _ hf⟩
 exact ⟨z, us, 0, r, Heap.get?_push_size _ rfl⟩
end
abbrev Sp := List V → Hp → VK → XK → Prop
abbrev CXT := List Env → Hp → Shared → XK → Value → Shared → Prop
structure Env0 (P : Program) (w : World) (K : PySem.W.Frag) (mg : Str → Option Value) (base : Heap) (A : Around) (outer : List Env) (s : Shared) (H : Hp) : Prop where
 frames : A.frames = some outer
 mod : Mod K mg base
 bs : ∀ b o, base.get? b = some o → s.heap.get? b = some o ∧ H b = none
 bsz : base.objs.size ≤ s.heap.objs.size
 funs : s.heap.FunFrames base outer
 frf : ∀ b ∈ frs outer, H b = none
 hok : HOk P w H s.heap
 bare : AllBare s.gens
def CE (outer : List Env) (P : Program) (w : World) (H : Hp) (s : Shared) (Q : VK) (u : Value) (s' : Shared) : Prop :=
 ∃ v H', s'.os = s.os ∧ AllBare s'.gens ∧ Un (frs outer) [] H H' s.heap s'.heap ∧ HOk P w H' s'.heap ∧ bN v u ∧ Q v H'
def CR (CX : CXT) (outer : List Env) (P : Program) (w : World) (H : Hp) (s : Shared) (Q : VK) (E : XK) (r : Result) (s' : Shared) : Prop :=
 match r with
 | .ok (.ret u) => CE outer P w H s Q u s'
 | .ok _ => False
 | .error e => CX outer H s E e s'
structure FnOk (P : Program) (w : World) (K : PySem.W.Frag) (mg : Str → Option Value) (base : Heap) (CX : CXT) (k : Nat) (f : Addr) (fd : FuncData) (ps : List Str) (sp : Sp) : Prop where
 len : ∀ vs H Q E, sp vs H Q E → vs.length = ps.length
 run : ∀ (A : Around) (outer : List Env) (s : Shared) (H : Hp) (args : Args) (us : List Value) (vs : List V) (Q : VK) (E : XK), Room k A → Env0 P w K mg base A outer s H → BindsTo s fd args (ps.zip us) → bO vs us → sp vs H Q E →
  codeAny (model P w) A (.call (.ref f) args) (CR CX outer P w H s Q E) s
theorem FnOk.imp {P : Program} {w : World} {K : PySem.W.Frag} {mg : Str → Option Value} {base : Heap} {CX : CXT} {k : Nat} {f : Addr} {fd : FuncData} {ps : List Str} {sp sp' : Sp} (F : FnOk P w K mg base CX k f fd ps sp)
  (h : ∀ vs H Q E, sp' vs H Q E → sp vs H Q E) : FnOk P w K mg base CX k f fd ps sp' :=
 ⟨fun vs H Q E q => F.len vs H Q E (h _ _ _ _ q), fun A outer s H args us vs Q E hr he hb hv hs => F.run A outer s H args us vs Q E hr he hb hv (h _ _ _ _ hs)⟩
theorem Env0.make {P : Program} {w : World} {K : PySem.W.Frag} {mg : Str → Option Value} {base : Heap} {A : Around} {outer : List Env} {s : Shared} {H : Hp} (e : Env0 P w K mg base A outer s H) (C : Addr) (us : List Value) (kw : List (Str × Value)) :
  Env0 P w K mg base (A.under (.builtin "type.__call__" ⟨.ref C :: us, kw⟩)) outer s H := ⟨by first | exact e.frames | (simpa [Around.under, Code.envs, Code.isFrame, pushEnvs] using e.frames), e.mod, e.bs, e.bsz, e.funs, e.frf, e.hok, e.bare⟩
section
variable {X : Cx} {pins : List (Addr × Obj)} {σ : St} {H : Hp} {s s' : Shared}
theorem Inv.env0 (I : Inv X pins σ H s) : Env0 X.prog X.w X.K X.mg X.base X.A X.stack s H :=
 ⟨I.ok.frames, I.ok.mod, I.bs, Nat.le_trans I.ok.bsz I.sz, I.stack, I.stkFree, I.hok, I.bare⟩
theorem Inv.after {Q : VK} {u : Value} (I : Inv X pins σ H s) (h : CE X.stack X.prog X.w H s Q u s') : EP X pins σ Q u s' := by
 obtain ⟨v, H', os, bare, un, hok, r, q⟩ := h
 obtain ⟨hh, g, d, t, os'⟩ := s'
 obtain rfl : os' = s.os := os
 exact ⟨v, H', I.call (h' := hh) (g' := g) (d' := d) (t' := t) (ch := []) un hok bare (fun b z => absurd z (by simp)), r, q⟩
end
def aLV (sp : Sp) (dvs : List V) (E : XK) (t : TA) : TE := fun σ H Q => t σ H fun vs H1 => sp (vs ++ dvs) H1 Q E
def aEG (C : Addr) (m : Str) (sp : Sp) (dvs : List V) (E : XK) (ta : TE) (t : TA) : TE := fun σ H Q => ta σ H fun x H1 => ∃ a dx fs, x = .ref a ∧ H1 a = some (.ins C dx fs) ∧ fs.lookup m = none ∧
 t σ H1 fun vs H2 => sp (x :: (vs ++ dvs)) H2 Q E
def aLT (C : Addr) (sp : Sp) (dvs : List V) (E : XK) (t : TA) : TE := fun σ H Q => t σ H fun vs H1 => ∀ x dx, H1 x = none → H1 dx = none → dx ≠ x →
 sp (.ref x :: (vs ++ dvs)) (upd (upd H1 dx (.own x)) x (.ins C dx [])) (fun v H2 => v = .non ∧ Q (.ref x) H2) E
def jZ (K : PySem.W.Frag) (fd : FuncData) (ps : List Str) (ds : List Value) : Prop :=
 ∀ (s : Shared) (us : List Value), K.In s.heap → (us ++ ds).length = ps.length → BindsTo s fd ⟨us, []⟩ (ps.zip (us ++ ds))
theorem jZ.all {K : PySem.W.Frag} {fd : FuncData} {ps : List Str} (h : ∀ us : List Value, us.length = ps.length → bindArgs fd ⟨us, []⟩ = pure (ps.zip us)) : jZ K fd ps [] := fun s us _ hl => by
 rw [List.append_nil] at hl ⊢
 exact .of_eq (h us hl)
def pQ (CX : CXT) (X : Cx) (E : XK) : Prop := ∀ (pins : List (Addr × Obj)) (σ : St) (H : Hp) (s : Shared) (e : Value) (s' : Shared), Inv X pins σ H s → CX X.stack H s E e s' → X.xe e s'
section
variable {X : Cx} {CX : CXT} {k : Nat} {f C : Addr} {fd : FuncData} {ps : List Str} {sp : Sp} {dvs : List V} {ds : List Value} {E : XK} {x m : Str} {p pos apos : Pos} {e o : Expr} {es : List Expr} {ta : TE} {t : TA}
theorem aCT {pins : List (Addr × Obj)} {σ : St} {H : Hp} {s : Shared} {Q : VK} {us : List Value} {vs : List V} (F : FnOk X.prog X.w X.K X.mg X.base CX k f fd ps sp) (hr : Room k X.A) (hb : jZ X.K fd ps ds) (hd : bO dvs ds) (hx : pQ CX X E)
  (I : Inv X pins σ H s) (r : bO vs us) (h : sp (vs ++ dvs) H Q E) : wpAny (model X.prog X.w) X.A (call (.ref f) us) (EP X pins σ Q) X.xe s := by
 have r2 : bO (vs ++ dvs) (us ++ ds) := r.append hd
 have hl : (us ++ ds).length = ps.length := by rw [← r2.length]; exact F.len _ _ _ _ h
 refine wpAny_call (codeAny_mono (F.run X.A X.stack s H ⟨us, []⟩ (us ++ ds) (vs ++ dvs) Q E hr I.env0 (hb s us I.kIn hl) r2 h) fun r s' hq => ?_)
 cases r with
 | error e => exact hx pins σ H s e s' I hq
 | ok fl =>
  cases fl with
  | ret u => exact I.after hq
  | next => exact False.elim hq
  | brk => exact False.elim hq
  | cont => exact False.elim hq
theorem aKR (F : FnOk X.prog X.w X.K X.mg X.base CX k f fd ps sp) (hr : Room k X.A) (hg : Gl X x) (hm : X.mg x = some (.ref f)) (hk : PySem.W.keepIn X.K (.ref f) = true) (hb : jZ X.K fd ps ds) (hd : bO dvs ds) (hx : pQ CX X E)
  (ha : PA X (e :: es) t) (hdb : (x == ("__debug__" : Str)) = false := by decide) (he : starEach (e :: es) X.env = (false, eval e X.env) :: starEach es X.env := by rfl) (hpl : (backTo pos (starEach es X.env)).any (·.1) = false := by rfl) :
  PE X (.Call (.Name x p) (e :: es) [] pos) (aLV sp dvs E t) := by
 intro pins s σ H Q I h
 refine wpAny_Call_Name_kw (yZ I hg hm ?_ hdb)
 refine PySem.W.callWith_K (h₀ := X.base) I.ok.mod.kin hk (thn (ha pos pins s σ H _ I h) fun us s1 ⟨vs, H1, I1, r, q⟩ => ⟨I1.kIn, ?_⟩) he hpl
 exact aCT F hr hb hd hx I1 r q
theorem aKN {pl : Sem Bool} (he : PE X o ta) (c : Cls X.K C) (hm : Meth X.K C m f) (F : FnOk X.prog X.w X.K X.mg X.base CX k f fd ps sp) (hr : Room k X.A) (hb : jZ X.K fd ps ds) (hd : bO dvs ds) (hx : pQ CX X E) (ha : PA X (e :: es) t)
  (hst : starEach (e :: es) X.env = (false, eval e X.env) :: starEach es X.env := by rfl) (hpl : (backTo pos (starEach es X.env)).any (·.1) = false := by rfl)
  (ht : eval (.Call (.Attribute o m apos) (e :: es) [] pos) X.env = (do
   let ov ← eval o X.env
   standAt apos.atName
   let (f, first) ← holding [ov] (getMethod ov m pl)
   callWith pos f first (backTo pos (starEach (e :: es) X.env)) (backToKw pos (keywordEach [] X.env))) := by rfl) :
  PE X (.Call (.Attribute o m apos) (e :: es) [] pos) (aEG C m sp dvs E ta t) := by
 intro pins s σ H Q I h
 refine PySem.W.methodCall_KW (pl := pl) (thn (he pins s σ H _ I h) fun u s1 ⟨x, H1, I1, rx, a, dx, fs, ex, ea, l, q⟩ => ?_) ht
 subst ex
 obtain rfl : u = Value.ref a := rx
 refine uW I1 ea c hm l ?_
 refine PySem.W.callWith_K (first := [.ref a]) (h₀ := X.base) I.ok.mod.kin hm.kp (thn (ha pos pins s1 σ H1 _ I1 q) fun us s2 ⟨vs, H2, I2, r, q2⟩ => ⟨I2.kIn, ?_⟩) hst hpl
 exact aCT (us := .ref a :: us) (vs := .ref a :: vs) F hr hb hd hx I2 (.cons rfl r) q2
theorem aIL {pl : Sem Bool} (he : PE X o ta) (c : Cls X.K C) (hm : Meth X.K C m f) (F : FnOk X.prog X.w X.K X.mg X.base CX k f fd ps sp) (hr : Room k X.A) (hb : jZ X.K fd ps ds) (hd : bO dvs ds) (hx : pQ CX X E)
  (ht : eval (.Call (.Attribute o m apos) [] [] pos) X.env = (do
   let ov ← eval o X.env
   standAt apos.atName
   let (f, first) ← holding [ov] (getMethod ov m pl)
   callWith pos f first (backTo pos (starEach [] X.env)) (backToKw pos (keywordEach [] X.env))) := by rfl) :
  PE X (.Call (.Attribute o m apos) [] [] pos) (aEG C m sp dvs E ta aMI) := by
 intro pins s σ H Q I h
 refine PySem.W.methodCall_KW (pl := pl) (thn (he pins s σ H _ I h) fun u s1 ⟨x, H1, I1, rx, a, dx, fs, ex, ea, l, q⟩ => ?_) ht
 subst ex
 obtain rfl : u = Value.ref a := rx
 refine uW I1 ea c hm l ?_
 exact PySem.W.callWith_K0 (first := [.ref a]) I1.kIn hm.kp (aCT (us := [.ref a]) (vs := [.ref a]) F hr hb hd hx I1 (.cons rfl .nil) q)
structure Mk (K : PySem.W.Frag) (C f : Addr) : Prop where
 makes : PySem.W.makesIn K C = true
 init : PySem.W.findIn K (.ref C) "__init__" = some (some (.ref f))
 fn : PySem.W.isFn K (.ref f) = true
 kp : PySem.W.keepIn K (.ref C) = true
theorem aHY {pins : List (Addr × Obj)} {σ : St} {H : Hp} {s : Shared} {Q : VK} {us : List Value} {vs : List V} (M : Mk X.K C f) (F : FnOk X.prog X.w X.K X.mg X.base CX k f fd ps sp) (hr : Room (k + 1) X.A) (hb : jZ X.K fd ps ds) (hd : bO dvs ds)
  (hx : pQ CX X E) (I : Inv X pins σ H s) (r : bO vs us)
  (h : ∀ x dx, H x = none → H dx = none → dx ≠ x → sp (.ref x :: (vs ++ dvs)) (upd (upd H dx (.own x)) x (.ins C dx [])) (fun v H2 => v = .non ∧ Q (.ref x) H2) E) :
  wpAny (model X.prog X.w) X.A (call (.ref C) us) (EP X pins σ Q) X.xe s := by
 have hq := h (s.heap.objs.size + 1) s.heap.objs.size (I.hok.fresh (Nat.le_succ _)) (I.hok.fresh (Nat.le_refl _)) (Nat.ne_of_lt (Nat.lt_succ_self _))
 have I2 := Inv.made (C := C) I
 have r2 : bO (V.ref (s.heap.objs.size + 1) :: (vs ++ dvs)) (Value.ref (s.heap.objs.size + 1) :: (us ++ ds)) := .cons rfl (r.append hd)
 have hl : (Value.ref (s.heap.objs.size + 1) :: us ++ ds).length = ps.length := by
  have e := r2.length
  rw [F.len _ _ _ _ hq] at e
  exact e.symm
 refine wpAny_call (aIU (f := f) I.kIn M.makes M.init (beq_iff_eq.mp M.fn) (codeAny_mono (F.run _ X.stack _ _ ⟨Value.ref (s.heap.objs.size + 1) :: us, []⟩ (Value.ref (s.heap.objs.size + 1) :: (us ++ ds)) _ _ E (hr.make C us [])
  (I2.env0.make C us []) (hb _ (Value.ref (s.heap.objs.size + 1) :: us) I2.kIn hl) r2 hq) fun r s' hq' => ?_))
 cases r with
 | error e => exact hx pins σ _ _ e s' I2 hq'
 | ok fl =>
  cases fl with
  | ret u =>
   obtain ⟨v, H', I3, rv, ev, q3⟩ := I2.after hq'
   subst ev
   exact ⟨rv, ⟨V.ref (s.heap.objs.size + 1), H', I3, rfl, q3⟩⟩
  | next => exact False.elim hq'
  | brk => exact False.elim hq'
  | cont => exact False.elim hq'
theorem aKO (M : Mk X.K C f) (F : FnOk X.prog X.w X.K X.mg X.base CX k f fd ps sp) (hr : Room (k + 1) X.A) (hg : Gl X x) (hm : X.mg x = some (.ref C)) (hb : jZ X.K fd ps ds) (hd : bO dvs ds) (hx : pQ CX X E)
  (ha : PA X (e :: es) t) (hdb : (x == ("__debug__" : Str)) = false := by decide) (he : starEach (e :: es) X.env = (false, eval e X.env) :: starEach es X.env := by rfl) (hpl : (backTo pos (starEach es X.env)).any (·.1) = false := by rfl) :
  PE X (.Call (.Name x p) (e :: es) [] pos) (aLT C sp dvs E t) := by
 intro pins s σ H Q I h
 refine wpAny_Call_Name_kw (yZ I hg hm ?_ hdb)
 refine PySem.W.callWith_K (h₀ := X.base) I.ok.mod.kin M.kp (thn (ha pos pins s σ H _ I h) fun us s1 ⟨vs, H1, I1, r, q⟩ => ⟨I1.kIn, ?_⟩) he hpl
 exact aHY M F hr hb hd hx I1 r q
end
section
variable {X : Cx} {CX : CXT} {k : Nat} {f C : Addr} {fd : FuncData} {ps ks : List Str} {sp : Sp} {E : XK} {x m : Str} {p pos apos kpos : Pos} {e o : Expr} {es : List Expr} {kws : List Keyword} {te ta : TE} {t tk : TA} {nm : Option Str}
structure KBinds (K : PySem.W.Frag) (fd : FuncData) (ps ks : List Str) (g : List Value → List Value → List Value) (gV : List V → List V → List V) : Prop where
 to : ∀ (s : Shared) (us ws : List Value), K.In s.heap → (g us ws).length = ps.length → BindsTo s fd ⟨us, ks.zip ws⟩ (ps.zip (g us ws))
 rel : ∀ {vs : List V} {us : List Value} {zs : List V} {ws : List Value}, bO vs us → bO zs ws → bO (gV vs zs) (g us ws)
variable {g : List Value → List Value → List Value} {gV : List V → List V → List V}
end
structure FnScope (N P : List Str) (sc : Scope) : Prop where
 kind : sc.kind = .function
 co : sc.isCoroutine = false
 gen : sc.isGenerator = false
 nd : N.Nodup
 pre : N.take P.length = P
 par : ∀ x ∈ P, sc.names.lookup x = some .local ∨ sc.names.lookup x = some .cell
 nofree : ∀ y ∈ sc.names, y.2 ≠ .free
theorem xO {kindOf : Str → Option NameKind} {x : Str} : ∀ {binds : List (Str × Value)} {m : Str → Option Value}, (∀ v, (x, v) ∉ binds) → bindL kindOf binds m x = m x
 | [], _, _ => rfl
 | (n, v) :: r, m, h => by
  unfold bindL
  rw [xO fun w hw => h w (List.mem_cons_of_mem _ hw)]
  split
  ·have : x ≠ n := by rintro rfl; exact h v List.mem_cons_self
   simp [this]
  ·rfl
theorem xQ {kindOf : Str → Option NameKind} {x : Str} : ∀ {binds : List (Str × Value)} {m : Str → Option Value}, (∀ v, (x, v) ∉ binds) → bindC kindOf binds m x = m x
 | [], _, _ => rfl
 | (n, v) :: r, m, h => by
  unfold bindC
  rw [xQ fun w hw => h w (List.mem_cons_of_mem _ hw)]
  split
  ·rfl
  ·have : x ≠ n := by rintro rfl; exact h v List.mem_cons_self
   simp [this]
theorem xP {kindOf : Str → Option NameKind} {x : Str} {v : Value} : ∀ {P : List Str} {vs : List Value} {i : Nat} {m : Str → Option Value}, P.Nodup → P[i]? = some x → vs[i]? = some v → kindOf x = some .local →
  bindL kindOf (P.zip vs) m x = some v
 | [], _, _, _, _, h, _, _ => by simp at h
 | _ :: _, [], _, _, _, _, h, _ => by simp at h
 | p :: P, w :: vs, 0, m, nd, h1, h2, hk => by
  simp at h1 h2; subst h1; subst h2
  show bindL kindOf ((p, w) :: P.zip vs) m p = _
  unfold bindL
  rw [xO fun v hv => (List.nodup_cons.mp nd).1 (List.of_mem_zip hv).1, if_pos hk]
  simp
 | p :: P, w :: vs, i + 1, m, nd, h1, h2, hk => by
  show bindL kindOf ((p, w) :: P.zip vs) m x = _
  unfold bindL
  exact xP (i := i) (List.nodup_cons.mp nd).2 (by simpa using h1) (by simpa using h2) hk
theorem xR {kindOf : Str → Option NameKind} {x : Str} {v : Value} : ∀ {P : List Str} {vs : List Value} {i : Nat} {m : Str → Option Value}, P.Nodup → P[i]? = some x → vs[i]? = some v → kindOf x ≠ some .local →
  bindC kindOf (P.zip vs) m x = some v
 | [], _, _, _, _, h, _, _ => by simp at h
 | _ :: _, [], _, _, _, _, h, _ => by simp at h
 | p :: P, w :: vs, 0, m, nd, h1, h2, hk => by
  simp at h1 h2; subst h1; subst h2
  show bindC kindOf ((p, w) :: P.zip vs) m p = _
  unfold bindC
  rw [xQ fun v hv => (List.nodup_cons.mp nd).1 (List.of_mem_zip hv).1, if_neg hk]
  simp
 | p :: P, w :: vs, i + 1, m, nd, h1, h2, hk => by
  show bindC kindOf ((p, w) :: P.zip vs) m x = _
  unfold bindC
  exact xR (i := i) (List.nodup_cons.mp nd).2 (by simpa using h1) (by simpa using h2) hk
def start (N : List Str) (vs : List V) : St := vs.map some ++ List.replicate (N.length - vs.length) none
def vG (CX : CXT) (P : Program) (w : World) (K : PySem.W.Frag) (mg : Str → Option Value) (base : Heap) (N : List Str) (qual : Str) (scope : Scope) (f : Addr) (cd : Value) (A : Around) (outer : List Env) (s : Shared) (H : Hp) (E : XK) : Cx where
 prog := P
 w := w
 K := K
 mg := mg
 base := base
 A := A.deeper (envOfC qual scope s.heap.objs.size f cd)
 N := N
 s₀ := s
 H₀ := H
 env := envOfC qual scope s.heap.objs.size f cd
 outer := outer
 stack := envOfC qual scope s.heap.objs.size f cd :: outer
 ex := []
 calm := true
 fn := fun _ => true
 pn := []
 xe := fun e s' => wpAny (model P w) (A.deeper (envOfC qual scope s.heap.objs.size f cd)) (leaving (envOfC qual scope s.heap.objs.size f cd) e) (fun _ s'' => CX outer H s E e s'') (fun e' s'' => CX outer H s E e' s'') s'
theorem aBQ {sc : Scope} {n : Nat} {x : Str} (h : sc.names.lookup x = some .cell) : ∃ c, (cellsFrom n sc.names []).lookup x = some c := by
 have q := PySem.W.cellsFrom_some sc.names n [] (.inl h)
 exact Option.isSome_iff_exists.mp q
theorem aGJ {CX : CXT} {P : Program} {w : World} {K : PySem.W.Frag} {mg : Str → Option Value} {base : Heap} {N ps : List Str} {qual : Str} {scope : Scope} {f : Addr} {cd : Value} {A : Around} {outer : List Env} {s s1 : Shared} {H : Hp} {E : XK} {us : List Value} {vs : List V}
  (S : FnScope N ps scope) (hd : A.handled = none) (e0 : Env0 P w K mg base A outer s H) (hl : vs.length = ps.length) (r : bO vs us)
  (x : InCallC s s.heap.objs.size (bindL (envOfC qual scope s.heap.objs.size f cd).kindOf (ps.zip us) fun _ => none) (cellsFrom (s.heap.objs.size + 1) scope.names []) (bindC (envOfC qual scope s.heap.objs.size f cd).kindOf (ps.zip us) fun _ => none) s1) :
  Inv (vG CX P w K mg base N qual scope f cd A outer s H E) [] (start N vs) H s1 := by
 have hpl : ps.length ≤ N.length := by have := congrArg List.length S.pre; rw [List.length_take] at this; omega
 obtain ⟨h1, tk, rfl, hk⟩ := x.done
 have noA : ∀ b : Addr, b ∉ (vG CX P w K mg base N qual scope f cd A outer s H E).ex := fun b z => absurd (show b ∈ ([] : List Addr) from z) (by simp)
 refine ⟨⟨e0.mod, S.kind, rfl, rfl, Nat.le_refl _, fun y z c h1 h2 => ?_, fun y hy => ?_, fun y c _ h => ?_, fun _ => hd, Around.frames_deeper e0.frames, .inr ⟨rfl, rfl⟩, fun b z => absurd z (noA b), e0.bs, e0.bsz, fun b _ _ => noA b, fun b z => absurd z (noA b), e0.funs, e0.frf⟩,
  rfl, e0.bare, Un.kept hk, ⟨_, x.toInCall.ns, fun i y v h1 h2 h3 => ?_⟩, fun y c h => ⟨_, x.cell y c h⟩, e0.hok.fresh (Nat.le_refl _), fun y c h => ?_, fun p hp => absurd (show p ∈ ([] : List (Addr × Obj)) from hp) (by simp), e0.hok.kept hk, ?_⟩
 ·exact name_of_addr x.apart (PySem.mem_of_lookup h1) (PySem.mem_of_lookup h2)
 ·have hy : scope.names.lookup y = some .cell ∨ scope.names.lookup y = some .free := hy
  rcases hy with hy | hy
  ·exact aBQ hy
  ·exact absurd rfl (S.nofree _ (PySem.mem_of_lookup hy))
 ·exact Nat.le_of_lt (x.above y c (PySem.mem_of_lookup h))
 ·have hi : i < vs.length := by
   unfold start at h2
   by_cases hi : i < vs.length
   ·exact hi
   ·rw [List.getElem?_append_right (by simpa using hi)] at h2
    rw [List.getElem?_replicate] at h2
    split at h2 <;> cases h2
  have ha : vs[i]? = some v := by
   unfold start at h2
   rw [List.getElem?_append_left (by simpa using hi), List.getElem?_map] at h2
   cases e : vs[i]? with
   | none => rw [e] at h2; cases h2
   | some a => rw [e] at h2; cases h2; rfl
  obtain ⟨u, hu, rv⟩ := r.get ha
  have hp : ps[i]? = some y := by
   rw [← S.pre, List.getElem?_take_of_lt (by omega)]; exact h1
  have ndP : ps.Nodup := by rw [← S.pre]; exact S.nd.sublist (List.take_sublist _ _)
  refine ⟨u, rv, ?_⟩
  rcases S.par y (List.mem_of_getElem? hp) with k | k
  ·exact .inl ⟨k, xP ndP hp hu k⟩
  ·obtain ⟨c, e⟩ := aBQ (n := s.heap.objs.size + 1) k
   refine .inr ⟨.inl k, c, e, ?_⟩
   have q := x.cell y c e
   rw [xR ndP hp hu (by show scope.names.lookup y ≠ _; rw [k]; decide)] at q
   exact q
 ·exact e0.hok.fresh (Nat.le_of_lt (x.above y c (PySem.mem_of_lookup h)))
 ·unfold start
  show _ = N.length
  rw [List.length_append, List.length_map, List.length_replicate]
  omega
theorem aPI {CX : CXT} {P : Program} {w : World} {K : PySem.W.Frag} {mg : Str → Option Value} {base : Heap} {k : Nat} {f : Addr} {name qual : Str} {params : Arguments} {body : List Stmt} {scope : Scope} {dV kV doc pm cdv ct oc : Value} {an od : Option Addr}
  {osl : Array (Option Value)} {N ps : List Str} {sp : Sp} (lk : K.lookup f = some ⟨oc, od, .func (PySem.W.fnOf name qual params body scope dV kV doc pm an cdv ct), osl⟩) (hcd : PySem.W.codeIn K cdv qual = true) (S : FnScope N ps scope)
  (len : ∀ vs H Q E, sp vs H Q E → vs.length = ps.length)
  (hbody : ∀ (A : Around) (outer : List Env) (s : Shared) (H : Hp) (vs : List V) (Q : VK) (E : XK), Room k (A.deeper (envOfC qual scope s.heap.objs.size f cdv)) → sp vs H Q E →
   ∃ t, PSs (vG CX P w K mg base N qual scope f cdv A outer s H E) body t ∧ t { nx := fun _ H' => Q .non H', rt := Q } (start N vs) H) :
  FnOk P w K mg base CX (k + 1) f (PySem.W.fnOf name qual params body scope dV kV doc pm an cdv ct) ps sp := by
 refine ⟨len, fun A outer s H args us vs Q E hr e0 hb r hsp => ?_⟩
 have hl := len _ _ _ _ hsp
 have KX : K.In s.heap := e0.mod.kin.keeps fun b o e => (e0.bs b o e).1
 have lim : s.heap.NoLimit := e0.mod.nolimit.keeps fun b o e => (e0.bs b o e).1
 have hkind : ∀ y ∈ ps.zip us, scope.names.lookup y.1 = some .local ∨ (scope.names.lookup y.1 = some .cell ∧ ((cellsFrom (s.heap.objs.size + 1) scope.names []).lookup y.1).isSome = true) := fun ⟨n, v⟩ hy => by
  rcases S.par n (List.of_mem_zip hy).1 with q | q
  ·exact .inl q
  ·exact .inr ⟨q, PySem.W.cellsFrom_some _ _ _ (.inl q)⟩
 refine codeAny_call_function hr.depth (KX _ _ lk) rfl S.co S.gen rfl (PySem.W.codeRec_of KX hcd) (hb _ _ _ _ ?_)
 refine wpAny_newFunctionEnv_cells S.kind hkind fun env he s1 x => ?_
 subst he
 refine ⟨lim.keeps x.toInCall.keep, codeAny_func ?_⟩
 obtain ⟨t, ht, hq⟩ := hbody A outer s H vs Q E (hr.deeper _) hsp
 have I : Inv (vG CX P w K mg base N qual scope f cdv A outer s H E) [] (start N vs) H s1 := aGJ S hr.hd e0 hl r x
 refine wpAny_mono (ht [] s1 (start N vs) H _ I hq) (fun fl s' hs => ?_) fun e s' hs => hs
 have fin : ∀ {σ' : St} {H' : Hp} {v : V} {u : Value}, Inv (vG CX P w K mg base N qual scope f cdv A outer s H E) [] σ' H' s' → bN v u → Q v H' → CE outer P w H s Q u s' :=
  fun {σ' H' v u} J rv q => ⟨v, H', J.os, J.bare, J.base, J.hok, rv, q⟩
 cases fl with
 | ret u =>
  obtain ⟨v, σ', H', J, rv, q⟩ := hs
  exact fin J rv q
 | next =>
  obtain ⟨σ', H', J, q⟩ := hs
  exact fin (v := V.non) (u := Value.none) J rfl q
 | brk =>
  obtain ⟨_, _, _, q⟩ := hs
  exact False.elim q
 | cont =>
  obtain ⟨_, _, _, q⟩ := hs
  exact False.elim q
end L2
namespace L2
open PySem PySem.Spec PyProof.Rows
section
variable {X : Cx} {x : Str} {p pos : Pos} {e : Expr} {es : List Expr} {t : TA} {id T : String} {r : List V → Hp → VK → Prop}
def tCB (r : List V → Hp → VK → Prop) (t : TA) : TE := fun σ H Q => t σ H fun vs H1 => r vs H1 Q
theorem aU (hc : gJ X (.builtin id) r) (hg : Gl X x) (hm : X.mg x = none) (hv : bootBuiltins x = some (.builtin id)) (ha : PA X (e :: es) t) (hn : x ≠ "__name__" := by decide) (hdb : (x == ("__debug__" : Str)) = false := by decide)
  (he : starEach (e :: es) X.env = (false, eval e X.env) :: starEach es X.env := by rfl) (hpl : (backTo pos (starEach es X.env)).any (·.1) = false := by rfl) : PE X (.Call (.Name x p) (e :: es) [] pos) (tCB r t) := by
 intro pins s σ H Q I h
 refine wpAny_Call_Name_kw (rB I hg hm hv ?_ hn hdb)
 exact PyProof.Rows.callWith_builtin1 (thn (ha pos pins s σ H _ I h) fun us s1 ⟨vs, H1, I1, r1, q1⟩ => hc pins s1 σ H1 vs us Q I1 r1 q1) he hpl
theorem cT (hc : gJ X (.type T) r) (hg : Gl X x) (hm : X.mg x = none) (hv : bootBuiltins x = some (.type T)) (ha : PA X (e :: es) t) (hn : x ≠ "__name__" := by decide) (hdb : (x == ("__debug__" : Str)) = false := by decide)
  (he : starEach (e :: es) X.env = (false, eval e X.env) :: starEach es X.env := by rfl) (hpl : (backTo pos (starEach es X.env)).any (·.1) = false := by rfl) : PE X (.Call (.Name x p) (e :: es) [] pos) (tCB r t) := by
 intro pins s σ H Q I h
 refine wpAny_Call_Name_kw (rB I hg hm hv ?_ hn hdb)
 exact PyProof.Rows.callWith_type1 (thn (ha pos pins s σ H _ I h) fun us s1 ⟨vs, H1, I1, r1, q1⟩ => hc pins s1 σ H1 vs us Q I1 r1 q1) he hpl
end
end L2
namespace L2
open PySem PySem.Spec PyProof.Rows
section
variable {κ : Type} [DecidableEq κ]
def eT (kvs : List (κ × V)) (k : κ) : Option V := (kvs.find? fun kv => decide (kv.1 = k)).map (·.2)
def kA (kvs : List (κ × V)) (k : κ) (v : V) : List (κ × V) :=
 if (kvs.any fun kv => decide (kv.1 = k)) = true then kvs.map (fun kv => if kv.1 = k then (kv.1, v) else kv) else kvs ++ [(k, v)]
def dropK (kvs : List (κ × V)) (k : κ) : List (κ × V) := kvs.filter fun kv => decide (kv.1 ≠ k)
theorem mL {p : κ × V} {r : List (κ × V)} {k : κ} (e : p.1 = k) : eT (p :: r) k = some p.2 := by simp [eT, List.find?_cons, e]
theorem mN {p : κ × V} {r : List (κ × V)} {k : κ} (e : ¬ p.1 = k) : eT (p :: r) k = eT r k := by simp [eT, List.find?_cons, e]
theorem mO (k : κ) : ∀ kvs : List (κ × V), (kvs.any fun kv => decide (kv.1 = k)) = (eT kvs k).isSome
 | [] => rfl
 | p :: r => by
  rw [List.any_cons]
  by_cases e : p.1 = k
  ·simp only [mL e, decide_eq_true e, Bool.true_or, Option.isSome_some]
  ·rw [mN e, decide_eq_false e, Bool.false_or]; exact mO k r
theorem nU (kvs : List (κ × V)) (k : κ) (v : V) : (kA kvs k v).length ≤ kvs.length + 1 := by
 unfold kA
 split
 ·rw [List.length_map]; omega
 ·rw [List.length_append, List.length_cons, List.length_nil]; omega
theorem aIE {kvs : List (κ × V)} {k : κ} (v : V) (h : eT kvs k = none) : kA kvs k v = kvs ++ [(k, v)] := by
 unfold kA
 rw [mO, h]
 exact if_neg (by decide)
theorem mK.isSome_eq {o : Option V} {u : Option Value} (r : mK o u) : o.isSome = u.isSome := by
 cases o with
 | none => cases u with
  | none => rfl
  | some _ => exact (show False from r).elim
 | some _ => cases u with
  | none => exact (show False from r).elim
  | some _ => rfl
theorem mK.getD {o : Option V} {u : Option Value} {d : V} {d' : Value} (r : mK o u) (rd : bN d d') : bN (o.getD d) (u.getD d') := by
 cases o with
 | none => cases u with
  | none => exact rd
  | some _ => exact (show False from r).elim
 | some _ => cases u with
  | none => exact (show False from r).elim
  | some _ => exact r
theorem KV.val {kvs : List (κ × V)} {vs : List (κ × Value)} (r : KV kvs vs) (k : κ) : mK (eT kvs k) (valueAt vs k) := by
 unfold KV at r
 induction r with
 | nil => exact True.intro
 | @cons p q ps qs h t ih =>
  obtain ⟨h1, h2⟩ := h
  by_cases e : p.1 = k
  ·have e' : q.1 = k := h1.symm.trans e
   have b : valueAt (q :: qs) k = some q.2 := by simp [valueAt, List.find?_cons, e']
   rw [mL e, b]; exact h2
  ·have e' : ¬ q.1 = k := fun z => e (h1.trans z)
   have b : valueAt (q :: qs) k = valueAt qs k := by simp [valueAt, List.find?_cons, e']
   rw [mN e, b]; exact ih
theorem KV.any {kvs : List (κ × V)} {vs : List (κ × Value)} (r : KV kvs vs) (k : κ) : (kvs.any fun kv => decide (kv.1 = k)) = vs.any fun kv => decide (kv.1 = k) := by
 unfold KV at r
 induction r with
 | nil => rfl
 | cons h t ih => rw [List.any_cons, List.any_cons, ih, h.1]
theorem KV.repl {kvs : List (κ × V)} {vs : List (κ × Value)} (r : KV kvs vs) (k : κ) {y : V} {u : Value} (ry : bN y u) :
  KV (kvs.map fun kv => if kv.1 = k then (kv.1, y) else kv) (vs.map fun kv => if kv.1 = k then (kv.1, u) else kv) := by
 unfold KV at r ⊢
 induction r with
 | nil => exact .nil
 | @cons p q ps qs h t ih =>
  rw [List.map_cons, List.map_cons]
  refine .cons ?_ ih
  obtain ⟨h1, h2⟩ := h
  by_cases e : p.1 = k
  ·rw [if_pos e, if_pos (h1.symm.trans e)]; exact ⟨h1, ry⟩
  ·rw [if_neg e, if_neg (fun z => e (h1.trans z))]; exact ⟨h1, h2⟩
theorem KV.put {kvs : List (κ × V)} {vs : List (κ × Value)} (r : KV kvs vs) (k : κ) {y : V} {u : Value} (ry : bN y u) : KV (kA kvs k y) (stored vs k u) := by
 unfold kA stored
 rw [r.any k]
 by_cases e : (vs.any fun kv => decide (kv.1 = k)) = true
 ·rw [if_pos e, if_pos e]; exact r.repl k ry
 ·rw [if_neg e, if_neg e]; exact Paired.snoc r ⟨rfl, ry⟩
theorem KV.keys {kvs : List (κ × V)} {vs : List (κ × Value)} (r : KV kvs vs) : kvs.map (·.1) = vs.map (·.1) := by
 unfold KV at r
 induction r with
 | nil => rfl
 | cons h t ih => rw [List.map_cons, List.map_cons, ih, h.1]
theorem KV.length {kvs : List (κ × V)} {vs : List (κ × Value)} (r : KV kvs vs) : kvs.length = vs.length := Paired.length r
end
theorem uT {P : Program} {w : World} {k : Key} {u : Value} (r : bN (kV k) u) : (aZ P w).is k u = true := by
 cases k with
 | inl i => obtain ⟨t, e⟩ := (show ∃ t, u = Value.int i t from r); subst e; exact aBD P w i t
 | inr x => obtain ⟨t, e⟩ := (show ∃ t, u = Value.str x t from r); subst e; exact aBC P w x t
theorem wX {P : Program} {w : World} : ∀ {ks : List Key} {us : List Value}, bO (ks.map kV) us → ItemsAre (aZ P w) ks us
 | [], _, r => by rw [List.map_nil] at r; cases r; exact .nil
 | k :: ks, _, r => by
  rw [List.map_cons] at r
  cases r with
  | cons h t => exact .cons (uT h) (wX t)
abbrev KT (H : Hp) : List (List Key × V) → List (List Key × Addr × Value) → Prop := Paired fun p q => p.1 = q.1 ∧ H q.2.1 = some (.tup (p.1.map kV)) ∧ bN p.2 q.2.2
theorem KT.val {H : Hp} {kvs : List (List Key × V)} {xs : List (List Key × Addr × Value)} (r : KT H kvs xs) (k : List Key) : mK (eT kvs k) ((atKey xs k).map (·.2)) := by
 induction r with
 | nil => exact True.intro
 | @cons p q ps qs h t ih =>
  obtain ⟨h1, _, h2⟩ := h
  by_cases e : p.1 = k
  ·have e' : q.1 = k := h1.symm.trans e
   have b : atKey (q :: qs) k = some q.2 := by simp [atKey, List.find?_cons, e']
   rw [mL e, b]; exact h2
  ·have e' : ¬ q.1 = k := fun z => e (h1.trans z)
   have b : atKey (q :: qs) k = atKey qs k := by simp [atKey, List.find?_cons, e']
   rw [mN e, b]; exact ih
theorem KT.repl {H : Hp} {kvs : List (List Key × V)} {xs : List (List Key × Addr × Value)} (r : KT H kvs xs) (k : List Key) {y : V} {u : Value} (ry : bN y u) :
  KT H (kvs.map fun kv => if kv.1 = k then (kv.1, y) else kv) (xs.map (putAt k u)) := by
 induction r with
 | nil => exact .nil
 | @cons p q ps qs h t ih =>
  rw [List.map_cons, List.map_cons]
  refine .cons ?_ ih
  obtain ⟨h1, h2, h3⟩ := h
  unfold putAt
  by_cases e : p.1 = k
  ·rw [if_pos e, if_pos (h1.symm.trans e)]; exact ⟨h1, h2, ry⟩
  ·rw [if_neg e, if_neg (fun z => e (h1.trans z))]; exact ⟨h1, h2, h3⟩
theorem KT.put {H : Hp} {kvs : List (List Key × V)} {xs : List (List Key × Addr × Value)} (r : KT H kvs xs) (k : List Key) {b : Addr} {y : V} {u : Value} (hb : H b = some (.tup (k.map kV))) (ry : bN y u) :
  KT H (kA kvs k y) (storedH xs k b u) := by
 have e : (kvs.any fun kv => decide (kv.1 = k)) = (atKey xs k).isSome := by
  rw [mO, (r.val k).isSome_eq, Option.isSome_map]
 unfold kA storedH
 rw [e]
 by_cases q : (atKey xs k).isSome = true
 ·rw [if_pos q, if_pos q]; exact r.repl k ry
 ·rw [if_neg q, if_neg q]; exact Paired.snoc r ⟨rfl, hb, ry⟩
theorem KT.keeps {H H' : Hp} {kvs : List (List Key × V)} {xs : List (List Key × Addr × Value)} (r : KT H kvs xs) (ht : ∀ b ys, H b = some (.tup ys) → H' b = some (.tup ys)) : KT H' kvs xs :=
 Paired.mapP r fun _ _ z => ⟨z.1, ht _ _ z.2.1, z.2.2⟩
section
variable {P : Program} {w : World} {H : Hp} {h : Heap} {a : Addr}
theorem aLY {u : HO} (ok : HOk P w H h) (e : Rd H a u) : cU P w H h a u := e.ok ok
theorem vD {kvs : List (Key × V)} (ok : HOk P w H h) (e : Rd H a (.dK kvs)) : kvs.length ≤ sizeLine ∧ (a == sysModules) = false ∧ ∃ vs, KV kvs vs ∧ h.DictOf (aZ P w) a vs :=
 show cU P w H h a (.dK kvs) from aLY ok e
theorem aMF {kvs : List (Key × V)} (ok : HOk P w H h) (e : H a = some (.dK kvs)) : kvs.length ≤ sizeLine ∧ (a == sysModules) = false ∧ ∃ vs, KV kvs vs ∧ h.DictOf (aZ P w) a vs := vD ok (.inl e)
theorem rD {ks : List Key} (ok : HOk P w H h) (e : H a = some (.tup (ks.map kV))) : (tupleKind (aZ P w)).is h ks a := by
 obtain ⟨_, its, r, o, h1, h2, n, h3, _⟩ := (show cU P w H h a (.tup (ks.map kV)) from ok a _ e)
 exact ⟨o, its.toArray, n, h1, h2, h3, by simpa using wX r⟩
theorem vC {kvs : List (List Key × V)} (ok : HOk P w H h) (e : Rd H a (.dT kvs)) : kvs.length ≤ sizeLine ∧ (a == sysModules) = false ∧
  ∃ xs, KT H kvs xs ∧ h.DictOfH (tupleKind (aZ P w)) a xs := by
 obtain ⟨z, y, xs, r, o, es, ep, h1, h2, h3, h4, h5⟩ := (show cU P w H h a (.dT kvs) from aLY ok e)
 refine ⟨z, y, xs, r, o, es, ep, h1, h2, h3, h4, fun x hx => ?_, h5⟩
 have all : ∀ {l : List (List Key × V)} {m : List (List Key × Addr × Value)}, KT H l m → ∀ x ∈ m, (tupleKind (aZ P w)).is h x.1 x.2.1 := by
  intro l m q
  induction q with
  | nil => intro x hx; exact nomatch hx
  | @cons p q ps qs hq t ih =>
   intro x hx
   rcases List.mem_cons.mp hx with e | hx
   ·subst e
    exact rD ok (by rw [← hq.1]; exact hq.2.1)
   ·exact ih x hx
 exact all r x hx
theorem aPK {kvs : List (List Key × V)} (ok : HOk P w H h) (e : H a = some (.dT kvs)) : kvs.length ≤ sizeLine ∧ (a == sysModules) = false ∧
  ∃ xs, KT H kvs xs ∧ h.DictOfH (tupleKind (aZ P w)) a xs := vC ok (.inl e)
end
def oK (H : Hp) (a : Addr) (y : V) (r : Option V) : Prop :=
 (∃ kvs k, Rd H a (.dK kvs) ∧ y = kV k ∧ r = eT kvs k) ∨ ∃ kvs k b, Rd H a (.dT kvs) ∧ y = .ref b ∧ H b = some (.tup (k.map kV)) ∧ r = eT kvs k
def aNX (H : Hp) (a : Addr) (y v : V) (H' : Hp) : Prop :=
 (∃ kvs k, H a = some (.dK kvs) ∧ y = kV k ∧ kvs.length < sizeLine ∧ H' = upd H a (.dK (kA kvs k v))) ∨
 ∃ kvs k b, H a = some (.dT kvs) ∧ y = .ref b ∧ H b = some (.tup (k.map kV)) ∧ kvs.length < sizeLine ∧ H' = upd H a (.dT (kA kvs k v))
theorem oK.k {H : Hp} {a : Addr} {kvs : List (Key × V)} {k : Key} (e : H a = some (.dK kvs)) : oK H a (kV k) (eT kvs k) := .inl ⟨kvs, k, .inl e, rfl, rfl⟩
section
variable {X : Cx} {pins : List (Addr × Obj)} {σ : St} {H : Hp} {s : Shared} {a : Addr} {y v : V} {u r : Value} {o : Option V} {A : Around} {E : Value → Shared → Prop}
theorem Inv.big (I : Inv X pins σ H s) : sysModules < s.heap.objs.size := by
 have h : mainGlobals < s.heap.objs.size := (I.mod.glob.keeps I.bk).lt
 exact Nat.lt_trans (by decide) h
theorem xF {Q : Value → Shared → Prop} (hu : A.units + 1 < cLine) (I : Inv X pins σ H s) (g : oK H a y (some v)) (ry : bN y u) (h : ∀ w' s', Inv X pins σ H s' → bN v w' → Q w' s') :
  wpAny (model X.prog X.w) A (getItem (.ref a) u) Q E s := by
 rcases g with ⟨kvs, k, e, ey, l⟩ | ⟨kvs, k, b, e, ey, eb, l⟩
 ·subst ey
  obtain ⟨z, hd, vs, rel, dd⟩ := vD I.hok e
  obtain ⟨w', hw, rw'⟩ := mK.some_of (v := v) (o := valueAt vs k) (by rw [l]; exact rel.val k)
  exact wpAny_getItem_of (uT ry) dd.mapOf hw (h w' _ (I.tok _) rw')
 ·subst ey
  cases (show u = Value.ref b from ry)
  obtain ⟨z, hd, xs, rel, dd⟩ := vC I.hok e
  obtain ⟨w', hw, rw'⟩ := mK.some_of (v := v) (o := (atKey xs k).map (·.2)) (by rw [l]; exact rel.val k)
  obtain ⟨p, hp, hp2⟩ := Option.map_eq_some_iff.mp hw
  refine wpAny_getItem_heap (tupleKind_room_in1 hu) (rD I.hok eb) dd hp ?_
  rw [hp2]
  exact h w' _ (I.tok _) rw'
theorem aQI {Q : Value → Shared → Prop} (hu : A.units + 1 < cLine) (I : Inv X pins σ H s) (g : oK H a y o) (ry : bN y u) (h : ∀ s', Inv X pins σ H s' → Q (.bool o.isSome) s') :
  wpAny (model X.prog X.w) A (compareOp .In u (.ref a)) Q E s := by
 rcases g with ⟨kvs, k, e, ey, l⟩ | ⟨kvs, k, b, e, ey, eb, l⟩
 ·subst ey
  obtain ⟨z, hd, vs, rel, dd⟩ := vD I.hok e
  refine wpAny_in_of (uT ry) hd dd.mapOf ?_
  rw [← (rel.val k).isSome_eq, ← l]
  exact h _ (I.tok _)
 ·subst ey
  cases (show u = Value.ref b from ry)
  obtain ⟨z, hd, xs, rel, dd⟩ := vC I.hok e
  refine wpAny_in_heap (tupleKind_room_in1 hu) (rD I.hok eb) hd dd ?_
  have q := (rel.val k).isSome_eq
  rw [Option.isSome_map] at q
  rw [← q, ← l]
  exact h _ (I.tok _)
theorem aLN {Q : Value → Shared → Prop} (hu : A.units + 1 < cLine) (I : Inv X pins σ H s) (g : oK H a y o) (ry : bN y u) (h : ∀ s', Inv X pins σ H s' → Q (.bool (!o.isSome)) s') :
  wpAny (model X.prog X.w) A (compareOp .NotIn u (.ref a)) Q E s := by
 rcases g with ⟨kvs, k, e, ey, l⟩ | ⟨kvs, k, b, e, ey, eb, l⟩
 ·subst ey
  obtain ⟨z, hd, vs, rel, dd⟩ := vD I.hok e
  refine wpAny_notIn_of (uT ry) hd dd.mapOf ?_
  rw [← (rel.val k).isSome_eq, ← l]
  exact h _ (I.tok _)
 ·subst ey
  cases (show u = Value.ref b from ry)
  obtain ⟨z, hd, xs, rel, dd⟩ := vC I.hok e
  refine wpAny_notIn_heap (tupleKind_room_in1 hu) (rD I.hok eb) hd dd ?_
  have q := (rel.val k).isSome_eq
  rw [Option.isSome_map] at q
  rw [← q, ← l]
  exact h _ (I.tok _)
theorem zG {h' : Heap} {t' : Nat} {ob : HO} (I : Inv X pins σ H s) (mu : Mut (H a)) (hs : Heap.SameBut a s.heap h') (he : ∃ q, h'.get? a = some q) (new : cU X.prog X.w (upd H a ob) h' a ob) :
  Inv X pins σ (upd H a ob) { s with heap := h', toks := t' } :=
 I.write (x := a) (e := a) mu (.inl rfl) (fun b q hb z => (hs.2 b hb).trans z) he new
theorem aJR {P : Program} {w : World} {H' : Hp} {h' : Heap} {kvs : List (Key × V)} {vs : List (Key × Value)} (z : kvs.length ≤ sizeLine) (hd : (a == sysModules) = false) (rel : KV kvs vs) (dd : h'.DictOf (aZ P w) a vs) :
  cU P w H' h' a (.dK kvs) := ⟨z, hd, vs, rel, dd⟩
theorem xE {H' : Hp} {Q : Unit → Shared → Prop} (hu : A.units + 1 < cLine) (I : Inv X pins σ H s) (g : aNX H a y v H') (ry : bN y u) (rv : bN v r) (h : ∀ s', Inv X pins σ H' s' → Q () s') :
  wpAny (model X.prog X.w) A (setItem (.ref a) u r) Q E s := by
 rcases g with ⟨kvs, k, e, ey, l, eH⟩ | ⟨kvs, k, b, e, ey, eb, l, eH⟩
 ·subst ey eH
  obtain ⟨z, hd, vs, rel, dd⟩ := aMF I.hok e
  have hz : vs.length ≤ sizeLine := by rw [← rel.length]; exact z
  have hl : (kA kvs k v).length ≤ sizeLine := by have := nU kvs k v; omega
  refine wpAny_setItem_pairs (hsz := hz) (uT ry) dd fun h' dd' hs => h _ ?_
  have he : ∃ q, h'.get? a = some q := let ⟨q, _, _, hq, _⟩ := dd'; ⟨q, hq⟩
  exact zG I (by rw [e]; exact True.intro) hs he (aJR hl hd (rel.put k rv) dd')
 ·subst ey eH
  cases (show u = Value.ref b from ry)
  obtain ⟨z, hd, xs, rel, dd⟩ := aPK I.hok e
  have hz : xs.length ≤ sizeLine := by rw [← Paired.length rel]; exact z
  have hl : (kA kvs k v).length ≤ sizeLine := by have := nU kvs k v; omega
  refine wpAny_setItem_heap (hsz := hz) (tupleKind_room_in1 hu) (rD I.hok eb) dd fun h' dd' hs => h _ ?_
  obtain ⟨q, es, ep, hq, h2, h3, h4, _, h5⟩ := dd'
  refine zG I (by rw [e]; exact True.intro) hs ⟨q, hq⟩ ⟨hl, hd, _, (rel.put k eb rv).keeps fun c ys ec => ?_, q, es, ep, hq, h2, h3, h4, h5⟩
  rw [aQ (mC ec e (fun z => nomatch z))]
  exact ec
end
section
variable {X : Cx} {pins : List (Addr × Obj)} {σ : St} {H : Hp} {s : Shared} {a : Addr} {kvs : List (Key × V)} {k : Key} {u : Value} {A : Around} {E : Value → Shared → Prop}
end
def aPM (i : Expr) : Prop := ∀ ov iv, subscripted i false ov iv = operate [ov, iv] (getItem ov iv)
theorem aKF {prog : Program} {w : World} {A : Around} {E : Value → Shared → Prop} {s : Shared} {env : Env} {value slice : Expr} {pos : Pos} {T id : String} {Q : Value → Shared → Prop}
  (hl : typeLookup (.type T) "__getitem__" = pure (some (.builtin id))) (hs : aPM slice)
  (h : wpAny (model prog w) A (eval value env) (fun o s₁ => wpAny (model prog w) A (eval slice env) (fun i s₂ => s₂.TypeIs o T ∧ wpAny (model prog w) A (getItem o i) Q E s₂) E s₁) E s) :
  wpAny (model prog w) A (eval (.Subscript value slice pos) env) Q E s := by
 refine Subscript_ (wpAny_mono h (fun o s₁ h₁ => wpAny_mono h₁ (fun i s₂ h₂ => ?_) fun _ _ x => x) fun _ _ x => x)
 obtain ⟨hT, h₂⟩ := h₂
 unfold subscriptTail
 refine wpAny_bind ?_
 rw [getitemInPython_of_ne hT.not_modules]
 refine wpAny_bind (wpAny_specialOf hT hl ?_)
 have fin : wpAny (model prog w) A (subscripted slice false o i) (fun r s₃ => wpAny (model prog w) A (letTemporaryGo value o r >>= fun _ => pure r) Q E s₃) E s₂ := by
  rw [hs o i]
  exact wpAny_operating (wpAny_mono h₂ (fun r s₃ h₃ => wpAny_bind (wpAny_letTemporaryGo (wpAny_pure h₃))) fun _ _ x => x)
 first
  | exact wpAny_pure (wpAny_bind fin)
  | exact wpAny_bind (wpAny_pure (wpAny_bind fin))
  | exact wpAny_bind fin
theorem aBM {X : Cx} {pins : List (Addr × Obj)} {σ : St} {H : Hp} {s : Shared} {a : Addr} {y : V} {o : Option V} (I : Inv X pins σ H s) (g : oK H a y o) : s.TypeIs (.ref a) "dict" := by
 rcases g with ⟨kvs, k, e, _, _⟩ | ⟨kvs, k, b, e, _, _, _⟩
 ·obtain ⟨_, _, vs, _, dd⟩ := vD I.hok e
  exact dd.typeIs
 ·obtain ⟨_, _, xs, _, dd⟩ := vC I.hok e
  exact dd.typeIs
def aOH (td ty : TE) : TE := fun σ H Q => td σ H fun x H1 => ty σ H1 fun y H2 => ∃ a v, x = .ref a ∧ oK H2 a y (some v) ∧ Q v H2
def aPX (ty td : TE) : TE := fun σ H Q => ty σ H fun y H1 => td σ H1 fun x H2 => ∃ a o, x = .ref a ∧ oK H2 a y o ∧ Q (.bl o.isSome) H2
def aKE (ty td : TE) : TE := fun σ H Q => ty σ H fun y H1 => td σ H1 fun x H2 => ∃ a o, x = .ref a ∧ oK H2 a y o ∧ Q (.bl (!o.isSome)) H2
def aOL (td ty tv : TE) : TS := fun D σ H => tv σ H fun v H1 => td σ H1 fun x H2 => ty σ H2 fun y H3 => ∃ a H4, x = .ref a ∧ aNX H3 a y v H4 ∧ D.nx σ H4
def aOM (td ty tv : TE) (rd : V → V → Hp → VK → Prop) : TS := fun D σ H => td σ H fun x H1 => ty σ H1 fun y H2 => ∃ a v, x = .ref a ∧ oK H2 a y (some v) ∧
 tv σ H2 fun y2 H3 => rd v y2 H3 fun z H4 => ∃ H5, aNX H4 a y z H5 ∧ D.nx σ H5
section
variable {X : Cx} {o i e value : Expr} {pos pos' tpos : Pos} {td ty tv : TE}
theorem dN (hu : X.A.units + 1 < cLine) (ho : PE X o td) (hi : PE X i ty) (hs : aPM i) : PE X (.Subscript o i pos) (aOH td ty) := by
 intro pins s σ H Q I h
 refine aKF PySem.F.slot_dict_getitem.lookup hs (thn (ho pins s σ H _ I h) fun u s1 ⟨x, H1, I1, rx, q1⟩ => thn (hi pins s1 σ H1 _ I1 q1) fun iv s2 ⟨y, H2, I2, ry, a, v, ex, g, q2⟩ => ?_)
 subst ex
 obtain rfl : u = Value.ref a := rx
 exact ⟨aBM I2 g, xF hu I2 g ry fun w' s3 I3 rw' => ⟨v, H2, I3, rw', q2⟩⟩
theorem aDB (hu : X.A.units + 1 < cLine) (hi : PE X i ty) (ho : PE X o td) : PC X .In i o (aPX ty td) := by
 intro pins s σ H Q I h
 refine thn (hi pins s σ H _ I h) fun iv s1 ⟨y, H1, I1, ry, q1⟩ => thn (ho pins s1 σ H1 _ I1 q1) fun u s2 ⟨x, H2, I2, rx, a, ov, ex, g, q2⟩ => ?_
 subst ex
 obtain rfl : u = Value.ref a := rx
 exact aQI hu I2 g ry fun s3 I3 => ⟨.bl ov.isSome, H2, I3, rfl, q2⟩
theorem wP (hu : X.A.units + 1 < cLine) (hi : PE X i ty) (ho : PE X o td) : PC X .NotIn i o (aKE ty td) := by
 intro pins s σ H Q I h
 refine thn (hi pins s σ H _ I h) fun iv s1 ⟨y, H1, I1, ry, q1⟩ => thn (ho pins s1 σ H1 _ I1 q1) fun u s2 ⟨x, H2, I2, rx, a, ov, ex, g, q2⟩ => ?_
 subst ex
 obtain rfl : u = Value.ref a := rx
 exact aLN hu I2 g ry fun s3 I3 => ⟨.bl (!ov.isSome), H2, I3, rfl, q2⟩
theorem tE (hu : X.A.units + 1 < cLine) (ho : PE X o td) (hi : PE X i ty) (hv : PE X value tv) (hs : swapsWith value (some (.Subscript o i pos')) pos.line X.env = pure false) :
  PS X (.Assign [.Subscript o i pos'] value pos) (aOL td ty tv) := by
 intro pins s σ H D I h
 refine wpAny_Assign_Subscript (thn (hv pins s σ H _ I h) fun r s1 ⟨v, H1, I1, rv, q1⟩ => thn (ho pins s1 σ H1 _ I1 q1) fun u s2 ⟨x, H2, I2, rx, q2⟩ => thn (hi pins s2 σ H2 _ I2 q2) fun iv s3 ⟨y, H3, I3, ry, a, H4, ex, g, q3⟩ => ?_) hs
 subst ex
 obtain rfl : u = Value.ref a := rx
 exact xE hu I3 g ry rv fun s4 I4 => ⟨σ, H4, I4, q3⟩
theorem yM {op : Operator} {rd : V → V → Hp → VK → Prop} (hu : X.A.units + 1 < cLine) (ho : PE X o td) (hi : PE X i ty) (hv : PE X value tv) (hop : aNW X op rd)
  (ha : ∀ ov iv new, augStore i ov iv new = (do holding [new, ov, iv] (setItem ov iv new); release [new, ov, iv] []; pure .next)) : PS X (.AugAssign (.Subscript o i tpos) op value pos) (aOM td ty tv rd) := by
 intro pins s σ H D I h
 refine wpAny_AugAssign_SubscriptAny (thn (ho pins s σ H _ I h) fun u s1 ⟨x, H1, I1, rx, q1⟩ => thn (hi pins s1 σ H1 _ I1 q1) fun iv s2 ⟨y, H2, I2, ry, a, v, ex, g, q2⟩ => ?_) ha
 subst ex
 obtain rfl : u = Value.ref a := rx
 refine xF hu I2 g ry fun w' s3 I3 rw' => thn (hv pins s3 σ H2 _ I3 q2) fun w2 s4 ⟨y2, H3, I4, ry2, q3⟩ => thn (hop pins s4 σ H3 v y2 w' w2 _ I4 rw' ry2 q3) fun w3 s5 ⟨z, H4, I5, rz, H5, g5, q4⟩ => ?_
 exact xE hu I5 g5 ry rz fun s6 I6 => ⟨σ, H5, I6, q4⟩
end
theorem aJS {P : Program} {w : World} {H : Hp} (h : Heap) (hb : sysModules < h.objs.size) : cU P w H (h.push { cls := .type "dict", data := .dict #[] }) h.objs.size (.dK []) :=
 ⟨Nat.zero_le _, beq_eq_false_iff_ne.mpr (Ne.symm (Nat.ne_of_lt hb)), [], .nil, Heap.DictOf.new h⟩
section
variable {X : Cx} {pos : Pos}
end
def aCF : List (TE × TE) → St → Hp → (List (V × V) → Hp → Prop) → Prop
 | [], _, H, Q => Q [] H
 | (tk, tv) :: r, σ, H, Q => tk σ H fun x H1 => tv σ H1 fun y H2 => aCF r σ H2 fun ps H3 => Q ((x, y) :: ps) H3
abbrev VV : List (V × V) → List (Value × Value) → Prop := Paired fun p q => bN p.1 q.1 ∧ bN p.2 q.2
def PPs (X : Cx) (pos : Pos) (keys : List (Option Expr)) (values : List Expr) (trs : List (TE × TE)) : Prop :=
 ∀ (pins : List (Addr × Obj)) (s : Shared) (σ : St) (H : Hp) (Q : List (V × V) → Hp → Prop), Inv X pins σ H s → aCF trs σ H Q →
  wpAny (model X.prog X.w) X.A (evalPairs (pairTrees keys values X.env pos)) (fun vs s' => ∃ ps H', Inv X pins σ H' s' ∧ VV ps vs ∧ Q ps H') X.xe s
theorem aKL {X : Cx} {pos : Pos} : PPs X pos [] [] [] := fun pins s σ H Q I h => pairTrees_nil_walk ⟨[], H, I, .nil, h⟩
theorem aIH {X : Cx} {pos : Pos} {k v : Expr} {ks : List (Option Expr)} {vs : List Expr} {tk tv : TE} {trs : List (TE × TE)} (hk : PE X k tk) (hv : PE X v tv) (hr : PPs X pos ks vs trs) :
  PPs X pos (some k :: ks) (v :: vs) ((tk, tv) :: trs) := fun pins s σ H Q I h =>
 pairTrees_cons_walk (thn (hk pins s σ H _ I h) fun u s1 ⟨x, H1, I1, rx, q1⟩ => thn (hv pins s1 σ H1 _ I1 q1) fun w2 s2 ⟨y, H2, I2, ry, q2⟩ =>
  thn (hr pins s2 σ H2 _ I2 q2) fun ws s3 ⟨ps, H3, I3, rel, q3⟩ => ⟨(x, y) :: ps, H3, I3, .cons ⟨rx, ry⟩ rel, q3⟩)
def nR (kvs more : List (Key × V)) : List (Key × V) := more.foldl (fun acc kv => kA acc kv.1 kv.2) kvs
theorem KV.merge : ∀ {more : List (Key × V)} {rs : List (Key × Value)} {kvs : List (Key × V)} {vs : List (Key × Value)}, KV more rs → KV kvs vs → KV (nR kvs more) (merged vs rs) := by
 intro more rs kvs vs r
 unfold KV at r
 induction r generalizing kvs vs with
 | nil => intro q; exact q
 | @cons p q ps qs h t ih =>
  intro r0
  have e : KV (kA kvs p.1 p.2) (stored vs q.1 q.2) := by
   have := r0.put p.1 h.2
   rw [← h.1]; exact this
  exact ih e
theorem pH : ∀ (more kvs : List (Key × V)), (nR kvs more).length ≤ kvs.length + more.length
 | [], kvs => by show kvs.length ≤ kvs.length + 0; omega
 | p :: r, kvs => by
  have h1 := pH r (kA kvs p.1 p.2)
  have h2 := nU kvs p.1 p.2
  show (nR (kA kvs p.1 p.2) r).length ≤ _
  rw [List.length_cons]; omega
theorem vK {P : Program} {w : World} : ∀ {kvs : List (Key × V)} {ws : List (Value × Value)}, VV (kvs.map fun kv => (kV kv.1, kv.2)) ws → ∃ rs, Carries (aZ P w) ws rs ∧ KV kvs rs
 | [], _, r => by rw [List.map_nil] at r; cases r; exact ⟨[], True.intro, .nil⟩
 | p :: kvs, _, r => by
  rw [List.map_cons] at r
  cases r with
  | @cons a b as bs h t =>
   obtain ⟨rs, c, q⟩ := vK (P := P) (w := w) t
   obtain ⟨b1, b2⟩ := b
   exact ⟨(p.1, b2) :: rs, ⟨uT h.1, rfl, c⟩, .cons ⟨rfl, h.2⟩ q⟩
def aOG (trs : List (TE × TE)) : TE := fun σ H Q => ∀ p, H p = none → aCF trs σ (upd H p (.dK [])) fun ps H2 => H2 p = some (.dK []) ∧ ∃ kvs : List (Key × V), ps = kvs.map (fun kv => (kV kv.1, kv.2)) ∧ kvs.length ≤ 15 ∧ Q (.ref p) (upd H2 p (.dK (nR [] kvs)))
theorem aKQ {X : Cx} {pos : Pos} {keys : List (Option Expr)} {values : List Expr} {trs : List (TE × TE)} (h : PPs X pos keys values trs) (hall : keys.all (·.isSome) = true) (hl : keys.length = values.length) (h0 : keys ≠ [])
  (h15 : keys.length ≤ 15) : PE X (.Dict keys values pos) (aOG trs) := by
 intro pins s σ H Q I q
 have hn := I.hok.fresh (Nat.le_refl s.heap.objs.size)
 have I1 := I.laid (a := s.heap.objs.size) (o := .dK []) (h' := s.heap.push { cls := .type "dict", data := .dict #[] }) (t' := s.toks) (fun _ _ q => Heap.get?_push_of_some _ q) (Nat.le_refl _) (aJS s.heap I.big)
 refine wpAny_Dict_walk (knd := aZ X.prog X.w) hall hl h0 h15 (thn (h pins _ σ _ _ I1 (q _ hn)) fun ws s2 ⟨ps, H2, I2, rel, e, kvs, ep, lk, q2⟩ => ?_)
 subst ep
 obtain ⟨rs, c, rk⟩ := vK (P := X.prog) (w := X.w) rel
 obtain ⟨z, hd, vs0, r0, dd⟩ := aMF I2.hok e
 cases r0
 refine ⟨rs, c, dd, fun h' dd' hs => ⟨.ref s.heap.objs.size, _, ?_, rfl, q2⟩⟩
 have hz : (nR [] kvs).length ≤ sizeLine := by
  have h1 := pH kvs []
  rw [List.length_nil] at h1
  rw [sizeLine_eq]; omega
 have he : ∃ q, h'.get? s.heap.objs.size = some q := let ⟨q, _, _, hq, _⟩ := dd'; ⟨q, hq⟩
 exact zG I2 (by rw [e]; exact True.intro) hs he (aJR hz hd (rk.merge .nil) dd')
structure M1 (X : Cx) (o : Expr) (m : Str) (apos : Pos) (e : Expr) (cpos : Pos) : Prop where
 base : attributeBase o m X.env (eval o X.env) = eval o X.env
 few : ((backTo cpos (starEach [e] X.env)).all (fun x => !x.1) && (backToKw cpos (keywordEach [] X.env)).all (fun x => x.1.isSome)
  && decide (([e] : List Expr).length + ([] : List Keyword).length + (if ([] : List Keyword).isEmpty then 0 else 1) < 30)) = true
 line : (apos.endLine == cpos.line) = true
 trees : backTo cpos (starEach [e] X.env) = [(false, eval e X.env)]
structure M2 (X : Cx) (o : Expr) (m : Str) (apos : Pos) (e f : Expr) (cpos : Pos) : Prop where
 base : attributeBase o m X.env (eval o X.env) = eval o X.env
 few : ((backTo cpos (starEach [e, f] X.env)).all (fun x => !x.1) && (backToKw cpos (keywordEach [] X.env)).all (fun x => x.1.isSome)
  && decide (([e, f] : List Expr).length + ([] : List Keyword).length + (if ([] : List Keyword).isEmpty then 0 else 1) < 30)) = true
 line : (apos.endLine == cpos.line) = true
 trees : backTo cpos (starEach [e, f] X.env) = [(false, eval e X.env), (false, eval f X.env)]
def IsD (H : Hp) (a : Addr) : Prop := (∃ kvs, Rd H a (.dK kvs)) ∨ ∃ kvs, Rd H a (.dT kvs)
theorem aNL {X : Cx} {pins : List (Addr × Obj)} {σ : St} {H : Hp} {s : Shared} {a : Addr} (I : Inv X pins σ H s) (d : IsD H a) :
  s.TypeIs (.ref a) "dict" ∧ (∀ b, Value.ref a = .ref b → ∃ ob, s.heap.get? b = some ob ∧ ob.dict = none) ∧ (a == sysModules) = false := by
 rcases d with ⟨kvs, e⟩ | ⟨kvs, e⟩
 ·obtain ⟨_, hd, vs, _, dd⟩ := vD I.hok e
  refine ⟨dd.typeIs, fun b q => ?_, hd⟩
  cases q
  obtain ⟨ob, _, _, h1, h2, _⟩ := dd
  exact ⟨ob, h1, h2.2.1⟩
 ·obtain ⟨_, hd, xs, _, dd⟩ := vC I.hok e
  refine ⟨dd.typeIs, fun b q => ?_, hd⟩
  cases q
  obtain ⟨ob, _, _, h1, h2, _⟩ := dd
  exact ⟨ob, h1, h2.2.1⟩
section
variable {X : Cx} {pins : List (Addr × Obj)} {σ : St} {H : Hp} {s : Shared} {a : Addr} {y d : V} {u r : Value} {o : Option V} {A : Around} {E : Value → Shared → Prop}
theorem aNP {Q : Value → Shared → Prop} (hu : A.units + 1 < cLine) (I : Inv X pins σ H s) (g : oK H a y o) (ry : bN y u) (rd : bN d r) (h : ∀ w' s', Inv X pins σ H s' → bN (o.getD d) w' → Q w' s') :
  wpAny (model X.prog X.w) A (call (.builtin "dict.get") [.ref a, u, r]) Q E s := by
 rcases g with ⟨kvs, k, e, ey, l⟩ | ⟨kvs, k, b, e, ey, eb, l⟩
 ·subst ey
  obtain ⟨z, hd, vs, rel, dd⟩ := vD I.hok e
  refine call_meetsIn PySem.F.slot_dict_get dd.typeIs PySem.F.entry_dict_get (PySem.F.args_dict_get_3 _ _ _) (meets_dict_get_default (aZ X.prog X.w) a (uT ry) hd r) ⟨_, dd.mapOf, h _ _ (I.tok _) ?_⟩
  rw [l]
  exact (rel.val k).getD rd
 ·subst ey
  cases (show u = Value.ref b from ry)
  obtain ⟨z, hd, xs, rel, dd⟩ := vC I.hok e
  refine call_meetsIn PySem.F.slot_dict_get dd.typeIs PySem.F.entry_dict_get (PySem.F.args_dict_get_3 _ _ _) (meetsH_dict_get_default (tupleKind (aZ X.prog X.w)) a b hd r) ⟨tupleKind_room_in1 hu, k, xs, rD I.hok eb, dd, h _ _ (I.tok _) ?_⟩
  rw [l]
  exact (rel.val k).getD rd
end
def aMK (td ty tx : TE) : TE := fun σ H Q => td σ H fun x H1 => ∃ a, x = .ref a ∧ IsD H1 a ∧ ty σ H1 fun y H2 => tx σ H2 fun z H3 => ∃ o, oK H3 a y o ∧ Q (o.getD z) H3
section
variable {X : Cx} {o e f : Expr} {apos cpos : Pos} {td ty tx : TE}
theorem aIN (hu : X.A.units + 1 < cLine) (ho : PE X o td) (he : PE X e ty) (hf : PE X f tx) (m : M2 X o "get" apos e f cpos) : PE X (.Call (.Attribute o "get" apos) [e, f] [] cpos) (aMK td ty tx) := by
 intro pins s σ H Q I h
 refine wpAny_Call_method m.base m.few m.line PySem.F.plainAttrs_dict PySem.F.slot_dict_get PySem.F.type_dict_get (thn (ho pins s σ H _ I h) fun u s1 ⟨x, H1, I1, rx, a, ex, d, q1⟩ => ?_)
 subst ex
 obtain rfl : u = Value.ref a := rx
 obtain ⟨t1, t2, _⟩ := aNL I1 d
 refine ⟨t1, t2, ?_⟩
 rw [m.trees]
 refine Calls.callWith_builtin rfl (Calls.evalArgs_plain (Calls.spliced_cons (thn (he pins s1 σ H1 _ I1 q1) fun iv s2 ⟨y, H2, I2, ry, q2⟩ =>
  Calls.spliced_cons (thn (hf pins s2 σ H2 _ I2 q2) fun fv s3 ⟨z, H3, I3, rz, ov, g, q3⟩ => Calls.spliced_nil ?_))))
 exact aNP hu I3 g ry rz fun w' s4 I4 rw' => ⟨_, H3, I4, rw', q3⟩
end
section
variable {X : Cx} {pins : List (Addr × Obj)} {σ : St} {H : Hp} {s : Shared} {a : Addr} {kvs : List (Key × V)} {A : Around} {E : Value → Shared → Prop}
end
section
variable {X : Cx} {pins : List (Addr × Obj)} {σ : St} {H : Hp} {s : Shared} {a : Addr} {y : V} {u : Value} {A : Around} {E : Value → Shared → Prop}
end
end L2
namespace HT
open PySem PyProof.Rows
def aOX : List Int → List Int → Bool
 | [], [] => false
 | [], _ :: _ => true
 | _ :: _, [] => false
 | x :: xs, y :: ys => if x = y then aOX xs ys else decide (x < y)
section
open PySem.SeqAt
open PySem.AutoSeq1 (wpAny_loadPart')
open PySem.MeetsSeq PySem.MeetsSeq2 PySem.MeetsSeq3
end
section
variable {prog : Program} {w : World} {A : Around} {E : Value → Shared → Prop} {s : Shared}
theorem cat_tup {t b : Addr} {vs ws : List Value} {Q : Value → Shared → Prop} (ht : IsTup s.heap t vs.toArray) (hb : IsTup s.heap b ws.toArray) (hv : vs ≠ [])
  (h1 : ws = [] → Q (.ref t) s) (h2 : ws ≠ [] → Q (.ref s.heap.objs.size) { s with heap := s.heap.push { cls := .type "tuple", data := .seq (vs ++ ws).toArray } })
  (hsz : vs.length + ws.length ≤ sizeLine) : wpAny (model prog w) A (binaryOp .Add (.ref t) (.ref b)) Q E s := by
 obtain ⟨⟨cls, dd, data, sl⟩, ho, hc, n, hd⟩ := id ht
 obtain ⟨⟨cls2, dd2, data2, sl2⟩, ho2, hc2, n2, hd2⟩ := id hb
 simp only at hc hd hc2 hd2
 subst hc hd hc2 hd2
 have e : vs.toArray ++ ws.toArray = (vs ++ ws).toArray := by simp
 by_cases hw : ws = []
 ·exact concat_meets ⟨_, ho, rfl⟩ ⟨_, ho2, rfl⟩ noFill_tuple_add seq_tuple_add PySem.F.slot_tuple_add PySem.F.entry_tuple_add (PySem.F.args_tuple_add_2 _ _)
   (tuple_addW1 t b vs.toArray ws.toArray n n2 dd dd2 sl sl2 (by simpa using hv) (by simp [hw])) ⟨ho, ho2, h1 hw⟩
 ·refine concat_meets ⟨_, ho, rfl⟩ ⟨_, ho2, rfl⟩ noFill_tuple_add seq_tuple_add PySem.F.slot_tuple_add PySem.F.entry_tuple_add (PySem.F.args_tuple_add_2 _ _)
   (tuple_addW2 t b vs.toArray ws.toArray n n2 dd dd2 sl sl2 (by simpa using hv) (by simpa using hw) (by rw [List.size_toArray, List.size_toArray]; exact hsz)) ⟨ho, ho2, ?_⟩
  rw [e]
  exact h2 hw
def sIx (n d : Nat) : Option Int → Nat
 | none => d
 | some v => if v < 0 then (v + (n : Int)).toNat else min v.toNat n
theorem aMQ (n d : Nat) (hd : d ≤ n) (o : Option Int) : sIx n d o ≤ n := by
 cases o with
 | none => exact hd
 | some v =>
  show (if v < 0 then (v + (n : Int)).toNat else min v.toNat n) ≤ n
  by_cases hv : v < 0
  ·rw [if_pos hv]; omega
  ·rw [if_neg hv]; exact Nat.min_le_right _ _
theorem aFK (v : Int) (n d : Nat) : (if v < 0 then max (v + (n : Int)) 0 else min v (n : Int)) = ((sIx n d (some v) : Nat) : Int) := by
 show (if v < 0 then max (v + (n : Int)) 0 else min v (n : Int)) = (((if v < 0 then (v + (n : Int)).toNat else min v.toNat n) : Nat) : Int)
 by_cases hv : v < 0
 ·simp only [if_pos hv]; omega
 ·simp only [if_neg hv]; omega
theorem aEA (lo hi : Option Int) (n : Nat) : Builtin.Slice.sliceAdjust lo hi 1 (n : Int) = (((sIx n 0 lo : Nat) : Int), ((sIx n n hi : Nat) : Int)) := by
 have h1 : ¬ ((1 : Int) < 0) := by omega
 unfold Builtin.Slice.sliceAdjust
 simp only [h1, if_false]
 refine Prod.ext ?_ ?_
 ·cases lo with
  | none => rfl
  | some v => exact aFK v n 0
 ·cases hi with
  | none => rfl
  | some v => exact aFK v n n
theorem aCX (i j : Nat) : Builtin.Slice.slicePlaces (i : Int) (j : Int) 1 = j - i := by
 unfold Builtin.Slice.slicePlaces
 have h1 : (1 : Int) > 0 := by omega
 simp only [h1, if_true, Int.ediv_one]
 split <;> omega
theorem tR {v : Value} {o : Option Int} {Q : Option Int → Shared → Prop} (p : IsPart v o) (h : Q o s) : wpAny (model prog w) A (Builtin.Slice.slicePartIndex v) Q E s := by
 cases p with
 | none => exact slicePart_none h
 | int i t => exact slicePart_int h
theorem qO {sl : Addr} {vl vu : Value} {lo hi : Option Int} {n : Nat} {Q : Int × Int × Nat → Shared → Prop} (hs : s.heap.IsSliceOf sl vl vu .none) (pl : IsPart vl lo) (pu : IsPart vu hi)
  (h : Q (((sIx n 0 lo : Nat) : Int), 1, sIx n n hi - sIx n 0 lo) s) : wpAny (model prog w) A (Builtin.Slice.sliceApplied (.ref sl) (pure (n : Int))) Q E s := by
 obtain ⟨os, hos, hcs, hds⟩ := id hs
 unfold Builtin.Slice.sliceApplied Builtin.Slice.sliceFields
 refine wpAny_bind (wpAny_bind (wpAny_field hos hds (x := vl) rfl (wpAny_bind (wpAny_field hos hds (x := vu) rfl (wpAny_bind (wpAny_field hos hds (x := .none) rfl (wpAny_pure ?_)))))))
 refine wpAny_bind (slicePart_none ?_)
 show wpAny _ _ (if ((1 : Int) == 0) = true then _ else _) _ _ s
 rw [if_neg (by decide)]
 refine wpAny_bind (tR pl (wpAny_bind (tR pu (wpAny_bind (wpAny_pure ?_)))))
 show wpAny _ _ (match Builtin.Slice.sliceAdjust lo hi 1 (n : Int) with | (lo, hi) => pure (lo, (1 : Int), Builtin.Slice.slicePlaces lo hi 1)) _ _ s
 rw [aEA lo hi n]
 show wpAny _ _ (pure (((sIx n 0 lo : Nat) : Int), (1 : Int), Builtin.Slice.slicePlaces ((sIx n 0 lo : Nat) : Int) ((sIx n n hi : Nat) : Int) 1)) _ _ s
 rw [aCX]
 exact wpAny_pure h
theorem aII (xs : Array Value) (i k : Nat) : ((List.range k).filterMap fun (m : Nat) => xs[((i : Int) + (m : Int) * 1).toNat]?).toArray = ((xs.toList.drop i).take k).toArray := by
 have e : (fun (m : Nat) => xs[((i : Int) + (m : Int) * 1).toNat]?) = fun m => xs[i + m]? := by
  funext m
  have : ((i : Int) + (m : Int) * 1).toNat = i + m := by omega
  rw [this]
 rw [e]
 have := pick_run xs i k
 rw [List.filterMap_map] at this
 have e2 : ((fun x => xs[x]?) ∘ fun x => i + x) = fun m => xs[i + m]? := rfl
 rw [e2] at this
 rw [this]
theorem getItem_tuple_cut {t sl : Addr} {items : Array Value} {vl vu : Value} {lo hi : Option Int} {Q : Value → Shared → Prop} (ht : IsTup s.heap t items) (hs : s.heap.IsSliceOf sl vl vu .none) (pl : IsPart vl lo) (pu : IsPart vu hi)
  (hw : ¬ (sIx items.size 0 lo = 0 ∧ sIx items.size items.size hi = items.size))
  (h : Q (.ref s.heap.objs.size) { s with heap := s.heap.push { cls := .type "tuple", data := .seq ((items.toList.drop (sIx items.size 0 lo)).take (sIx items.size items.size hi - sIx items.size 0 lo)).toArray } })
  (hsz : items.size ≤ sizeLine) : wpAny (model prog w) A (getItem (.ref t) (.ref sl)) Q E s := by
 have htake : sizeOk (.seq ((items.toList.drop (sIx items.size 0 lo)).take (sIx items.size items.size hi - sIx items.size 0 lo)).toArray) := by
  show ((items.toList.drop (sIx items.size 0 lo)).take (sIx items.size items.size hi - sIx items.size 0 lo)).toArray.size ≤ sizeLine
  rw [List.size_toArray, List.length_take, List.length_drop, Array.length_toList]
  omega
 have hj : sIx items.size items.size hi ≤ items.size := aMQ _ _ (Nat.le_refl _) hi
 obtain ⟨os, hos, hcs, hds⟩ := id hs
 have hTs : s.TypeIs (.ref sl) "slice" := ⟨os, hos, hcs⟩
 unfold getItem
 try with_reducible refine wpAny_holding ?_
 first | refine wpAny_bind (wpAny_pure ?_) | skip
 refine wpAny_bind (wpAny_sequenceKey ht.typeIs (by decide) ?_)
 refine wpAny_bind (wpAny_callSpecial?_slot (name := Str.ofString "__getitem__") ht.typeIs PyProof.Rows.slot_tuple_getitem
  (wpAny_call_entry PyProof.Rows.slot_tuple_getitem ht.typeIs entry_tuple_getitem ?_ (args_tuple_getitem _ _)))
 show wpAny _ _ (Builtin.Tuple.tupleItemsOf (.ref t) >>= _) _ _ s
 refine wpAny_bind (tupleItemsOf_ ht ?_)
 refine wpAny_bind (wpAny_typeOf hTs ?_)
 rw [if_pos (by decide)]
 refine wpAny_bind (qO hs pl pu ?_)
 have hno : ¬ ((((sIx items.size 0 lo : Nat) : Int) == 0 && (1 : Int) == 1 && (sIx items.size items.size hi - sIx items.size 0 lo) == items.size) = true) := by
  intro q
  rw [Bool.and_eq_true, Bool.and_eq_true] at q
  have q1 : ((sIx items.size 0 lo : Nat) : Int) = 0 := eq_of_beq q.1.1
  have q2 : sIx items.size items.size hi - sIx items.size 0 lo = items.size := eq_of_beq q.2
  exact hw ⟨by omega, by omega⟩
 show wpAny _ _ (if (((sIx items.size 0 lo : Nat) : Int) == 0 && (1 : Int) == 1 && (sIx items.size items.size hi - sIx items.size 0 lo) == items.size) = true then _ else _) _ _ s
 rw [if_neg hno, aII]
 first
  | exact wpAny_bind (m := Builtin.Tuple.tupleExact _) (wpAny_newObj_type (wpAny_pure ⟨_, rfl, wpAny_pure h⟩) htake)
  | exact wpAny_bind (m := Builtin.Tuple.tupleExact _) (wpAny_newObj_type (wpAny_bind (wpAny_pure (wpAny_pure ⟨_, rfl, wpAny_pure h⟩))) htake)
  | exact wpAny_bind (wpAny_bind (m := Builtin.Tuple.tupleExact _) (wpAny_newObj_type (wpAny_pure (wpAny_pure ⟨_, rfl, wpAny_pure h⟩)) htake))
  | exact wpAny_bind (wpAny_bind (m := Builtin.Tuple.tupleExact _) (wpAny_newObj_type (wpAny_pure ⟨_, rfl, wpAny_pure h⟩) htake))
end
end HT
namespace L2
open PySem PySem.Spec PyProof.Rows
abbrev TO := St → Hp → (Option Int → Hp → Prop) → Prop
def PO (X : Cx) (e : Option Expr) (t : TO) : Prop :=
 ∀ (pins : List (Addr × Obj)) (s : Shared) (σ : St) (H : Hp) (Q : Option Int → Hp → Prop), Inv X pins σ H s → t σ H Q →
  wpAny (model X.prog X.w) X.A (evalPart e X.env) (fun u s' => ∃ o H', Inv X pins σ H' s' ∧ IsPart u o ∧ Q o H') X.xe s
def aKD : TO := fun _ H Q => Q none H
def aOC (t : TE) : TO := fun σ H Q => t σ H fun x H1 => ∃ i, x = .int i ∧ Q (some i) H1
theorem uU {ns : List Int} : ∀ {us : List Value}, bO (ns.map V.int) us → IntsAre us ns := by
 induction ns with
 | nil => intro us r; rw [List.map_nil] at r; cases r; exact .nil
 | cons n ns ih =>
  intro us r
  rw [List.map_cons] at r
  cases r with
  | cons r1 r2 =>
   obtain ⟨t, e⟩ := r1
   subst e
   exact .cons n t (ih r2)
section
variable {X : Cx} {e : Expr} {te : TE} {lo hi : Option Expr} {tl th : TO} {pos p2 : Pos}
theorem aEX : PO X none aKD := by
 intro pins s σ H Q I h
 rw [evalPart_none]
 exact wpAny_pure ⟨none, H, I, .none, h⟩
theorem tF (h : PE X e te) : PO X (some e) (aOC te) := by
 intro pins s σ H Q I hw
 rw [evalPart_some]
 refine thn (h pins s σ H _ I hw) fun u s1 ⟨x, H1, I1, r1, q1⟩ => ?_
 obtain ⟨i, rfl, q⟩ := q1
 obtain ⟨t, rfl⟩ := r1
 exact ⟨some i, H1, I1, .int i t, q⟩
def SlR (X : Cx) (r : V → Option Int → Option Int → Hp → VK → Prop) : Prop :=
 ∀ (pins : List (Addr × Obj)) (s : Shared) (σ : St) (H : Hp) (x : V) (v vl vu : Value) (lo hi : Option Int) (sl : Addr) (Q : VK), Inv X pins σ H s → bN x v → s.heap.IsSliceOf sl vl vu .none → IsPart vl lo → IsPart vu hi → r x lo hi H Q →
  ∃ T id, typeLookup (.type T) "__getitem__" = pure (some (.builtin id)) ∧ s.TypeIs v T ∧ wpAny (model X.prog X.w) X.A (getItem v (.ref sl)) (EP X pins σ Q) X.xe s
def tSl (r : V → Option Int → Option Int → Hp → VK → Prop) (te : TE) (tl th : TO) : TE := fun σ H Q => te σ H fun x H1 => tl σ H1 fun l H2 => th σ H2 fun u H3 => r x l u H3 Q
theorem uD {r : V → Option Int → Option Int → Hp → VK → Prop} (hr : SlR X r) (he : PE X e te) (hl : PO X lo tl) (hu : PO X hi th) : PE X (.Subscript e (.Slice lo hi none p2) pos) (tSl r te tl th) := by
 intro pins s σ H Q I h
 refine Subscript_ (thn (he pins s σ H _ I h) fun v s1 ⟨x, H1, I1, r1, q1⟩ => ?_)
 refine wpAny_Slice (thn (hl pins s1 σ H1 _ I1 q1) fun vl s2 ⟨l, H2, I2, pl, q2⟩ => thn (hu pins s2 σ H2 _ I2 q2) fun vu s3 ⟨u, H3, I3, pu, q3⟩ => ?_)
 rw [evalPart_none]
 refine wpAny_pure ?_
 have I4 : Inv X pins σ H3 { s3 with heap := s3.heap.push { cls := .type "slice", data := .fields #[vl, vu, .none] } } := I3.kept (t' := s3.toks) fun b ob q => Heap.get?_push_of_some _ q
 obtain ⟨T, id, hT, ht, hg⟩ := hr pins { s3 with heap := s3.heap.push { cls := .type "slice", data := .fields #[vl, vu, .none] } } σ H3 x v vl vu l u s3.heap.objs.size Q I4 r1 (Heap.IsSliceOf.new ..) pl pu q3
 show wpAny (model X.prog X.w) X.A (subscriptTail e (.Slice lo hi none p2) v (.ref s3.heap.objs.size)) (EP X pins σ Q) X.xe { s3 with heap := s3.heap.push { cls := .type "slice", data := .fields #[vl, vu, .none] } }
 exact tail_any (ops := [.ref s3.heap.objs.size, v]) ht hT hg (by with_unfolding_all rfl)
def mJ (xs : List V) (lo hi : Option Int) : List V := (xs.drop (HT.sIx xs.length 0 lo)).take (HT.sIx xs.length xs.length hi - HT.sIx xs.length 0 lo)
theorem sF (xs : List V) (lo hi : Option Int) : (mJ xs lo hi).length ≤ xs.length := by
 unfold mJ
 rw [List.length_take, List.length_drop]
 omega
def aOP (K : PySem.W.Frag) : V → Option Int → Option Int → Hp → VK → Prop := fun x lo hi H Q => ∃ a xs, x = .ref a ∧ SqT K H a xs ∧
 ¬ (HT.sIx xs.length 0 lo = 0 ∧ HT.sIx xs.length xs.length hi = xs.length) ∧ ∀ p, H p = none → Q (.ref p) (upd H p (.tup (mJ xs lo hi)))
theorem aMO : SlR X (aOP X.K) := by
 intro pins s σ H x v vl vu lo hi sl Q I rx hs pl pu h
 obtain ⟨a, xs, rfl, hx, hw, q⟩ := h
 cases rx
 obtain ⟨its, r, ht, hz⟩ := I.tuple hx
 have hlen : its.toArray.size = xs.length := by rw [List.size_toArray]; exact r.length.symm
 refine ⟨"tuple", _, PyProof.Rows.slot_tuple_getitem.lookup, ht.typeIs, ?_⟩
 refine HT.getItem_tuple_cut ht hs pl pu (by rw [hlen]; exact hw) ?_ (by rw [hlen]; exact hz)
 rw [hlen]
 refine ⟨.ref s.heap.objs.size, _, I.laid (t' := s.toks) (o := .tup (mJ xs lo hi)) (fun b ob q => Heap.get?_push_of_some _ q) (Nat.le_refl _) ?_, rfl, q _ (I.hok.fresh (Nat.le_refl _))⟩
 exact ⟨Nat.le_trans (sF xs lo hi) hz, _, (r.drop (HT.sIx xs.length 0 lo)).take (HT.sIx xs.length xs.length hi - HT.sIx xs.length 0 lo), pR.new _ _⟩
def aLZ (K : PySem.W.Frag) : R2 := fun x y H Q => ∃ a b xs ys, x = .ref a ∧ y = .ref b ∧ SqT K H a xs ∧ SqT K H b ys ∧ xs ≠ [] ∧ xs.length + ys.length ≤ sizeLine ∧
 (ys = [] → Q (.ref a) H) ∧ (ys ≠ [] → ∀ p, H p = none → Q (.ref p) (upd H p (.tup (xs ++ ys))))
theorem bO.nil_iff {xs : List V} {us : List Value} (r : bO xs us) : us = [] ↔ xs = [] := by
 cases r with
 | nil => simp
 | cons _ _ => simp
theorem aKU : OpR X (binaryOp .Add) (aLZ X.K) := by
 intro pins s σ H x y v u Q I rx ry h
 obtain ⟨a, b, xs, ys, rfl, rfl, ha, hb, hx, hz, q1, q2⟩ := h
 cases rx
 cases ry
 obtain ⟨its, r1, p1, _⟩ := I.tuple ha
 obtain ⟨its2, r2, p2, _⟩ := I.tuple hb
 refine HT.cat_tup p1 p2 (fun z => hx (r1.nil_iff.mp z)) (fun z => ⟨.ref a, H, I, rfl, q1 (r2.nil_iff.mp z)⟩) (fun z => ?_) (by rw [← r1.length, ← r2.length]; exact hz)
 refine ⟨.ref s.heap.objs.size, _, I.laid (t' := s.toks) (o := .tup (xs ++ ys)) (fun b ob q => Heap.get?_push_of_some _ q) (Nat.le_refl _) ?_, rfl, q2 (fun w => z (r2.nil_iff.mpr w)) _ (I.hok.fresh (Nat.le_refl _))⟩
 exact ⟨by rw [List.length_append]; exact hz, _, r1.append r2, pR.new _ _⟩
end
end L2
namespace L2
open PySem PySem.Spec PyProof.Rows
def ixN (n : Nat) (i : Int) : Option Nat := if 0 ≤ i then (if i < n then some i.toNat else none) else if -(n : Int) ≤ i then some (i + n).toNat else none
def atI {α : Type} (xs : List α) (i : Int) : Option α := (ixN xs.length i).bind fun j => xs[j]?
theorem aLE {n : Nat} {i : Int} {j : Nat} (h : ixN n i = some j) : seqIndex? i n = some j ∧ j < n ∧ -(n : Int) ≤ i ∧ i < n := by
 unfold ixN at h
 by_cases h0 : 0 ≤ i
 ·rw [if_pos h0] at h
  by_cases h1 : i < n
  ·rw [if_pos h1] at h
   have e : i.toNat = j := Option.some.inj h
   exact ⟨by rw [seqIndex_of h0 h1, e], by omega, by omega, h1⟩
  ·rw [if_neg h1] at h; cases h
 ·rw [if_neg h0] at h
  by_cases h1 : -(n : Int) ≤ i
  ·rw [if_pos h1] at h
   have e : (i + n).toNat = j := Option.some.inj h
   exact ⟨by rw [seqIndex_neg (by omega) h1, e], by omega, h1, by omega⟩
  ·rw [if_neg h1] at h; cases h
theorem zL {α : Type} {xs : List α} {i : Int} {v : α} (h : atI xs i = some v) : ∃ j, seqIndex? i xs.length = some j ∧ xs[j]? = some v ∧ j < xs.length ∧ -(xs.length : Int) ≤ i ∧ i < xs.length := by
 unfold atI at h
 cases e : ixN xs.length i with
 | none => rw [e] at h; cases h
 | some j =>
  rw [e] at h
  obtain ⟨h1, h2, h3, h4⟩ := aLE e
  exact ⟨j, h1, h, h2, h3, h4⟩
theorem aI {α : Type} {xs : List α} {j : Nat} {v : α} (h : xs[j]? = some v) : atI xs (j : Int) = some v := by
 have hj : j < xs.length := (List.getElem?_eq_some_iff.mp h).1
 have e : ixN xs.length (j : Int) = some j := by
  unfold ixN
  rw [if_pos (by omega), if_pos (by omega)]; simp
 unfold atI; rw [e]; exact h
def aLR (b : Expr) : Prop := ∀ o i, subscripted b false o i = operate [o, i] (getItem o i)
def IxR (X : Cx) (r : R2) : Prop :=
 ∀ (value slice : Expr) (pins : List (Addr × Obj)) (s : Shared) (σ : St) (H : Hp) (x y : V) (v u : Value) (Q : VK), Inv X pins σ H s → bN x v → bN y u → r x y H Q →
  subscripted slice false v u = operate [v, u] (getItem v u) → wpAny (model X.prog X.w) X.A (subscriptTail value slice v u) (EP X pins σ Q) X.xe s
def MtR (X : Cx) (id : String) (r : V → List V → Hp → VK → Prop) : Prop :=
 ∀ (pins : List (Addr × Obj)) (s : Shared) (σ : St) (H : Hp) (x : V) (xs : List V) (v : Value) (us : List Value) (Q : VK), Inv X pins σ H s → bN x v → bO xs us → r x xs H Q →
  wpAny (model X.prog X.w) X.A (call (.builtin id) (v :: us)) (EP X pins σ Q) X.xe s
section
variable {X : Cx} {a b : Expr} {ta tb : TE} {pos : Pos}
theorem aX {r : R2} (hr : IxR X r) (ha : PE X a ta) (hb : PE X b tb) (hs : aLR b) : PE X (.Subscript a b pos) (tOp r ta tb) := by
 intro pins s σ H Q I h
 exact Subscript_ (aNR ha hb I h fun v u s2 x y H2 I2 rx ry q => hr a b pins s2 σ H2 x y v u Q I2 rx ry q (hs _ _))
def aOT (K : PySem.W.Frag) : R2 := fun x y H Q => ∃ p xs i v, x = .ref p ∧ y = .int i ∧ SqL K H p xs ∧ atI xs i = some v ∧ Q v H
def aOS (K : PySem.W.Frag) : R2 := fun x y H Q => ∃ p xs i v, x = .ref p ∧ y = .int i ∧ SqT K H p xs ∧ atI xs i = some v ∧ Q v H
def aQC : R2 := fun x y H Q => ∃ z i c, x = .str z ∧ y = .int i ∧ z.length ≤ sizeLine ∧ atI z.cps.toList i = some c ∧ Q (.str ⟨#[c]⟩) H
theorem aLD : IxR X (aOT X.K) := by
 intro value slice pins s σ H x y v u Q I rx ry h hs
 obtain ⟨p, xs, i, z, rfl, rfl, hq, he, q⟩ := h
 cases rx
 obtain ⟨t, rfl⟩ := ry
 obtain ⟨its, r, pl, hz⟩ := I.list hq
 obtain ⟨j, h1, h2, h3, h4, h5⟩ := zL he
 obtain ⟨w, ew, rw'⟩ := r.get h2
 have hl := r.length
 have hn := uQ
 have fin : EP X pins σ Q w s := ⟨z, H, I, rw', q⟩
 by_cases h0 : 0 ≤ i
 ·have hj : i.toNat = j := by
   rw [seqIndex_of h0 h5] at h1
   exact Option.some.inj h1
  exact item_listR pl.isList h0 (by omega) (by rw [hj]; simpa using ew) fin hs
 ·have hj : (i + (its.toArray.size : Int)).toNat = j := by
   rw [seqIndex_neg (by omega) h4] at h1
   rw [List.size_toArray, ← hl]
   exact Option.some.inj h1
  exact subscriptTail_builtinR (x := w) pl.isList.typeIs slot_list_getitem.lookup
   (wpAny_getItem_list_neg (Q := fun r s' => r = w ∧ EP X pins σ Q r s') pl.isList (by omega) (by rw [List.size_toArray] <;> omega) (by omega) (by rw [hj]; simpa using ew) ⟨rfl, fin⟩) hs
theorem aNG : IxR X (aOS X.K) := by
 intro value slice pins s σ H x y v u Q I rx ry h hs
 obtain ⟨p, xs, i, z, rfl, rfl, hq, he, q⟩ := h
 cases rx
 obtain ⟨t, rfl⟩ := ry
 obtain ⟨its, r, pl, hz⟩ := I.tuple hq
 obtain ⟨j, h1, h2, h3, h4, h5⟩ := zL he
 obtain ⟨w, ew, rw'⟩ := r.get h2
 have hl := r.length
 have hn := uQ
 have fin : EP X pins σ Q w s := ⟨z, H, I, rw', q⟩
 exact subscriptTail_builtinR (x := w) pl.typeIs slot_tuple_getitem.lookup
  (getItem_tuple (j := j) (Q := fun r s' => r = w ∧ EP X pins σ Q r s') pl (by omega) (by omega) (by rw [List.size_toArray, ← hl]; exact h1) (by simpa using ew) ⟨rfl, fin⟩) hs
theorem aNH : IxR X aQC := by
 intro value slice pins s σ H x y v u Q I rx ry h hs
 obtain ⟨z, i, c, rfl, rfl, hz, he, q⟩ := h
 obtain ⟨t, rfl⟩ := rx
 obtain ⟨t', rfl⟩ := ry
 obtain ⟨j, h1, h2, h3, h4, h5⟩ := zL he
 have hl : z.cps.toList.length = z.length := by simp [Str.length]
 rw [hl] at h1 h4 h5
 have hn := uQ
 exact tail_any (typeIs_str s z t) slot_str_getitem.lookup (getItem_str (c := c) (by
  have e1 : decide (i < -(2 ^ 63 : Int)) = false := decide_eq_false (by omega)
  have e2 : decide (i ≥ 2 ^ 63) = false := decide_eq_false (by omega)
  rw [e1, e2, Bool.or_false]) (by rw [h1]; simpa using h2) ⟨.str ⟨#[c]⟩, H, I.tok _, ⟨_, rfl⟩, q⟩) hs
theorem yC (lo hi : Option Int) (n : Nat) : (sliceBounds lo hi none n).1 = ((HT.sIx n 0 lo : Nat) : Int) ∧ (sliceBounds lo hi none n).2.1 = ((HT.sIx n n hi : Nat) : Int) ∧ (sliceBounds lo hi none n).2.2 = 1 := by
 refine ⟨?_, ?_, rfl⟩
 ·cases lo with
  | none => simp [sliceBounds, HT.sIx]
  | some i =>
   simp only [sliceBounds, HT.sIx, Option.getD_none, show (1 : Int) > 0 by decide, if_true]
   by_cases h : i < 0
   ·simp only [h, if_true] <;> omega
   ·simp only [h, if_false] <;> omega
 ·cases hi with
  | none => simp [sliceBounds, HT.sIx]
  | some i =>
   simp only [sliceBounds, HT.sIx, Option.getD_none, show (1 : Int) > 0 by decide, if_true]
   by_cases h : i < 0
   ·simp only [h, if_true] <;> omega
   ·simp only [h, if_false] <;> omega
theorem vP (its : List Value) (lo hi : Option Int) : slicePick its.toArray lo hi none = ((its.drop (HT.sIx its.length 0 lo)).take (HT.sIx its.length its.length hi - HT.sIx its.length 0 lo)).toArray := by
 obtain ⟨h1, h2, h3⟩ := yC lo hi its.toArray.size
 unfold slicePick
 rw [h1, h2, h3]
 simp only [sliceRange_one, pick_run, List.size_toArray] <;> rfl
def aOQ (K : PySem.W.Frag) : V → Option Int → Option Int → Hp → VK → Prop := fun x lo hi H Q => ∃ a xs, x = .ref a ∧ SqL K H a xs ∧ ∀ p, H p = none → Q (.ref p) (upd H p (.lst (mJ xs lo hi)))
theorem aKH : SlR X (aOQ X.K) := by
 intro pins s σ H x v vl vu lo hi sl Q I rx hs pl pu h
 obtain ⟨a, xs, rfl, hx, q⟩ := h
 cases rx
 obtain ⟨its, r, ht, hz⟩ := I.list hx
 have hlen := r.length
 refine ⟨"list", _, slot_list_getitem.lookup, ht.isList.typeIs, ?_⟩
 refine wpAny_getItem_list_slice ht.isList hs pl pu .none (by simp) ?_ (by rw [List.size_toArray] <;> omega)
 rw [vP, ← hlen]
 refine ⟨.ref s.heap.objs.size, _, I.laid (t' := s.toks) (o := .lst (mJ xs lo hi)) (fun b ob q => Heap.get?_push_of_some _ q) (Nat.le_refl _) ?_, rfl, q _ (I.hok.fresh (Nat.le_refl _))⟩
 exact ⟨Nat.le_trans (sF xs lo hi) hz, _, 0, (r.drop (HT.sIx xs.length 0 lo)).take (HT.sIx xs.length xs.length hi - HT.sIx xs.length 0 lo), Heap.get?_push_size _ rfl⟩
def qJ : V → Bool
 | .non => true
 | .bl _ => true
 | .int _ => true
 | .str _ => true
 | _ => false
def eqV : V → V → Bool
 | .non, .non => true
 | .bl a, .bl b => a == b
 | .bl a, .int b => (if a then 1 else 0) == b
 | .int a, .bl b => a == (if b then 1 else 0)
 | .int a, .int b => a == b
 | .str a, .str b => a == b
 | _, _ => false
theorem lU {A : Around} {s : Shared} {y x : V} {u v : Value} (ry : bN y u) (rx : bN x v) (fy : qJ y = true) (fx : qJ x = true) : SeqAt.EqAt A s u v (eqV y x) := by
 cases y with
 | non =>
  cases ry
  cases x with
  | non => cases rx; exact SeqAt.EqAt.same _
  | bl b => cases rx; exact SeqAt.EqAt.none_bool b
  | int b => obtain ⟨t, rfl⟩ := rx; exact SeqAt.EqAt.none_int b t
  | str b => obtain ⟨t, rfl⟩ := rx; exact SeqAt.EqAt.none_str b t
  | _ => exact absurd (show false = true from fx) Bool.false_ne_true
 | bl a =>
  cases ry
  cases x with
  | non => cases rx; exact SeqAt.EqAt.bool_none a
  | bl b => cases rx; exact SeqAt.EqAt.bool_bool a b
  | int b => obtain ⟨t, rfl⟩ := rx; exact SeqAt.EqAt.bool_int a b t
  | str b => obtain ⟨t, rfl⟩ := rx; exact SeqAt.EqAt.bool_str a b t
  | _ => exact absurd (show false = true from fx) Bool.false_ne_true
 | int a =>
  obtain ⟨t', rfl⟩ := ry
  cases x with
  | non => cases rx; exact SeqAt.EqAt.int_none a t'
  | bl b => cases rx; exact SeqAt.EqAt.int_bool a t' b
  | int b => obtain ⟨t, rfl⟩ := rx; exact SeqAt.EqAt.int_int a t' b t
  | str b => obtain ⟨t, rfl⟩ := rx; exact SeqAt.EqAt.int_str a t' b t
  | _ => exact absurd (show false = true from fx) Bool.false_ne_true
 | str a =>
  obtain ⟨t', rfl⟩ := ry
  cases x with
  | non => cases rx; exact SeqAt.EqAt.str_none a t'
  | bl b => cases rx; exact SeqAt.EqAt.str_bool a t' b
  | int b => obtain ⟨t, rfl⟩ := rx; exact SeqAt.EqAt.str_int a t' b t
  | str b => obtain ⟨t, rfl⟩ := rx; exact SeqAt.EqAt.str_str a t' b t
  | _ => exact absurd (show false = true from fx) Bool.false_ne_true
 | _ => exact absurd (show false = true from fy) Bool.false_ne_true
def eqU (x : V) (u : Value) : Bool := match u with
 | .none => eqV .non x
 | .bool b => eqV (.bl b) x
 | .int i _ => eqV (.int i) x
 | .str z _ => eqV (.str z) x
 | _ => false
theorem aJP {x y : V} {u : Value} (r : bN y u) (f : qJ y = true) : eqU x u = eqV y x := by
 cases y with
 | non => cases r; rfl
 | bl b => cases r; rfl
 | int i => obtain ⟨t, rfl⟩ := r; rfl
 | str z => obtain ⟨t, rfl⟩ := r; rfl
 | _ => exact absurd (show false = true from f) Bool.false_ne_true
theorem qK {x : V} : ∀ {xs : List V} {us : List Value}, bO xs us → xs.all qJ = true → us.any (eqU x) = xs.any fun y => eqV y x
 | _, _, .nil, _ => rfl
 | y :: xs, u :: us, .cons r t, f => by
  rw [List.all_cons, Bool.and_eq_true] at f
  rw [List.any_cons, List.any_cons, aJP r f.1, qK t f.2]
theorem nT {A : Around} {s : Shared} {x : V} {v : Value} (rx : bN x v) (fx : qJ x = true) : ∀ {xs : List V} {us : List Value}, bO xs us → xs.all qJ = true → ∀ u ∈ us, SeqAt.EqAt A s u v (eqU x u)
 | _, _, .nil, _ => fun u hu => by cases hu
 | y :: xs, u :: us, .cons r t, f => fun u' hu => by
  rw [List.all_cons, Bool.and_eq_true] at f
  rcases List.mem_cons.mp hu with rfl | hu
  ·rw [aJP r f.1]; exact lU r rx f.1 fx
  ·exact nT rx fx t f.2 u' hu
def inV (x : V) (xs : List V) : Bool := xs.any fun y => eqV y x
def rIn (K : PySem.W.Frag) (neg : Bool) : R2 := fun x y H Q => ∃ p xs, y = .ref p ∧ (SqL K H p xs ∨ SqT K H p xs) ∧ qJ x = true ∧ xs.all qJ = true ∧ Q (.bl (if neg then !inV x xs else inV x xs)) H
theorem aGA : OpR X (compareOp .In) (rIn X.K false) := by
 intro pins s σ H x y v u Q I rx ry h
 obtain ⟨p, xs, rfl, hq, fx, fs, q⟩ := h
 cases ry
 rcases hq with hq | hq
 ·obtain ⟨its, r, pl, hz⟩ := I.list hq
  refine SeqAt.in_listAt (eqU x) pl.isList (fun w hw => nT rx fx r fs w (by simpa using hw)) ⟨.bl _, H, I, rfl, ?_⟩
  rw [show its.toArray.any (eqU x) = its.any (eqU x) by simp, qK r fs]
  exact q
 ·obtain ⟨its, r, pl, hz⟩ := I.tuple hq
  refine SeqAt.in_tupleAt (eqU x) pl (fun w hw => nT rx fx r fs w (by simpa using hw)) ⟨.bl _, H, I, rfl, ?_⟩
  rw [show its.toArray.any (eqU x) = its.any (eqU x) by simp, qK r fs]
  exact q
theorem yN : OpR X (compareOp .NotIn) (rIn X.K true) := by
 intro pins s σ H x y v u Q I rx ry h
 obtain ⟨p, xs, rfl, hq, fx, fs, q⟩ := h
 cases ry
 rcases hq with hq | hq
 ·obtain ⟨its, r, pl, hz⟩ := I.list hq
  refine SeqAt.notIn_listAt (eqU x) pl.isList (fun w hw => nT rx fx r fs w (by simpa using hw)) ⟨.bl _, H, I, rfl, ?_⟩
  rw [show its.toArray.any (eqU x) = its.any (eqU x) by simp, qK r fs]
  exact q
 ·obtain ⟨its, r, pl, hz⟩ := I.tuple hq
  refine SeqAt.notIn_tupleAt (eqU x) pl (fun w hw => nT rx fx r fs w (by simpa using hw)) ⟨.bl _, H, I, rfl, ?_⟩
  rw [show its.toArray.any (eqU x) = its.any (eqU x) by simp, qK r fs]
  exact q
theorem zK : gJ X (.builtin "len") (fun xs H Q => ∃ p ys, xs = [.ref p] ∧ (SqL X.K H p ys ∨ SqT X.K H p ys) ∧ Q (.int ys.length) H) := by
 intro pins s σ H xs us Q I r h
 obtain ⟨p, ys, rfl, hq, q⟩ := h
 obtain ⟨u, rfl, rx⟩ := aED r
 cases rx
 have hn := uQ
 rcases hq with hq | hq
 ·obtain ⟨its, r', pl, hz⟩ := I.list hq
  have hlen := r'.length
  exact Calls.call_len_list pl.isList (by simp only [List.size_toArray] <;> omega) ⟨.int ys.length, H, I.tok _, ⟨s.toks + 1, by rw [List.size_toArray, hlen]⟩, q⟩
 ·obtain ⟨its, r', pl, hz⟩ := I.tuple hq
  have hlen := r'.length
  exact len_tuple pl (by simp only [List.size_toArray] <;> omega) ⟨.int ys.length, H, I.tok _, ⟨s.toks + 1, by rw [List.size_toArray, hlen]⟩, q⟩
theorem zJ : gJ X (.builtin "len") (fun xs H Q => ∃ z, xs = [.str z] ∧ z.length ≤ sizeLine ∧ Q (.int z.length) H) := by
 intro pins s σ H xs us Q I r h
 obtain ⟨z, rfl, hz, q⟩ := h
 obtain ⟨u, rfl, t, rfl⟩ := aED r
 have hn := uQ
 exact len_str (by omega) ⟨.int z.length, H, I.tok _, ⟨_, rfl⟩, q⟩
theorem zI : gJ X (.type "list") (fun xs H Q => ∃ p ys, xs = [.ref p] ∧ (SqL X.K H p ys ∨ SqT X.K H p ys) ∧ ∀ l, H l = none → Q (.ref l) (upd H l (.lst ys))) := by
 intro pins s σ H xs us Q I r h
 obtain ⟨p, ys, rfl, hq, q⟩ := h
 obtain ⟨u, rfl, rx⟩ := aED r
 cases rx
 have fin : ∀ (its : List Value), bO ys its → ys.length ≤ sizeLine → ∀ (h' : Heap) (c' : Nat), (∀ b o', s.heap.get? b = some o' → h'.get? b = some o') →
   h'.get? s.heap.objs.size = some { cls := .type "list", dict := none, data := .seq its.toArray c', slots := #[] } → EP X pins σ Q (.ref s.heap.objs.size) { s with heap := h' } := fun its r' hz h' c' kp e =>
  ⟨.ref s.heap.objs.size, _, I.laid (t' := s.toks) kp (Nat.le_refl _) (show cU X.prog X.w _ h' _ (.lst ys) from ⟨hz, its, c', r', e⟩), rfl, q _ (I.hok.fresh (Nat.le_refl _))⟩
 rcases hq with hq | hq
 ·obtain ⟨its, r', pl, hz⟩ := I.list hq
  have hlen := r'.length
  obtain ⟨o, ho, hc, n, hd⟩ := pl.isList
  exact call_list_seq p (.inl rfl) ho hc hd (fun h' c' kp e => fin its r' hz h' c' kp e) (by simp only [List.size_toArray] <;> omega)
 ·obtain ⟨its, r', pl, hz⟩ := I.tuple hq
  have hlen := r'.length
  obtain ⟨o, ho, hc, n, hd⟩ := pl
  exact call_list_seq p (.inr rfl) ho hc hd (fun h' c' kp e => fin its r' hz h' c' kp e) (by simp only [List.size_toArray] <;> omega)
def tyV (K : PySem.W.Frag) (T : String) (x : V) (H : Hp) : Prop := match x with
 | .str _ => T = "str"
 | .int _ => T = "int"
 | .ref p => (T = "list" ∧ ∃ xs, SqL K H p xs) ∨ (T = "tuple" ∧ ∃ o, K.lookup p = some o ∧ o.cls = .type "tuple" ∧ o.dict = none) ∨
   (T = "dict" ∧ ((∃ kvs, H p = some (.dK kvs)) ∨ ∃ kvs, H p = some (.dT kvs))) ∨ (T = "set" ∧ ∃ S n, H p = some (.set S n)) ∨ (T = "tuple" ∧ ∃ xs, H p = some (.tup xs))
 | _ => False
theorem aHB {pins : List (Addr × Obj)} {σ : St} {H : Hp} {s : Shared} {T : String} {x : V} {v : Value} (I : Inv X pins σ H s) (r : bN x v) (ty : tyV X.K T x H) :
  s.TypeIs v T ∧ ∀ a, v = .ref a → ∃ ob, s.heap.get? a = some ob ∧ ob.dict = none := by
 cases x with
 | str z =>
  obtain ⟨t, rfl⟩ := r
  cases (show T = "str" from ty)
  exact ⟨typeIs_str s z t, fun _ e => nomatch e⟩
 | int i =>
  obtain ⟨t, rfl⟩ := r
  cases (show T = "int" from ty)
  exact ⟨typeIs_int s i t, fun _ e => nomatch e⟩
 | ref p =>
  cases r
  rcases ty with ⟨rfl, xs, hq⟩ | ⟨rfl, o, hk, hc, hd⟩ | ⟨rfl, hk⟩ | ⟨rfl, S, n, hk⟩ | ⟨rfl, xs, hk⟩
  ·obtain ⟨its, _, pl, _⟩ := I.list hq
   refine ⟨pl.isList.typeIs, fun a e => ?_⟩
   cases e
   obtain ⟨o, n, e, c, hd, _⟩ := pl
   exact ⟨o, e, hd⟩
  ·refine ⟨⟨o, I.kIn p o hk, hc⟩, fun a e => ?_⟩
   cases e
   exact ⟨o, I.kIn _ o hk, hd⟩
  ·have z : ∃ o, s.heap.get? p = some o ∧ o.ExactDict := by
    rcases hk with ⟨kvs, hk⟩ | ⟨kvs, hk⟩
    ·obtain ⟨_, _, _, _, o, _, _, e, ex, _⟩ := I.hok p _ hk
     exact ⟨o, e, ex⟩
    ·obtain ⟨_, _, _, _, o, _, _, e, ex, _⟩ := I.hok p _ hk
     exact ⟨o, e, ex⟩
   obtain ⟨o, e, ex⟩ := z
   refine ⟨⟨o, e, ex.1⟩, fun a e2 => ?_⟩
   cases e2
   exact ⟨o, e, ex.2.1⟩
  ·obtain ⟨o, _, _, _, e, ex, _⟩ := I.hok p _ hk
   refine ⟨⟨o, e, ex.1⟩, fun a e2 => ?_⟩
   cases e2
   exact ⟨o, e, ex.2.1⟩
  ·obtain ⟨_, _, _, o, e, hc, _, _, hd⟩ := (show cU X.prog X.w H s.heap p (.tup xs) from I.hok p _ hk)
   refine ⟨⟨o, e, hc⟩, fun a e2 => ?_⟩
   cases e2
   exact ⟨o, e, hd⟩
 | _ => exact False.elim ty
def aPY (K : PySem.W.Frag) (T : String) (r : V → List V → Hp → VK → Prop) (to : TE) : TE := fun σ H Q => to σ H fun x H1 => tyV K T x H1 ∧ r x [] H1 Q
def tBM (K : PySem.W.Frag) (T : String) (r : V → List V → Hp → VK → Prop) (to : TE) (t : TA) : TE := fun σ H Q => to σ H fun x H1 => tyV K T x H1 ∧ t σ H1 fun xs H2 => r x xs H2 Q
variable {o e : Expr} {es : List Expr} {to : TE} {t : TA} {name : Str} {apos cpos : Pos} {T id : String} {r : V → List V → Hp → VK → Prop}
theorem aDA (pa : PlainAttrs T) (slot : Slot T name id) (hty : typeOf (.builtin id) = pure (.type "method_descriptor")) (hm : MtR X id r) (ho : PE X o to)
  (hbase : attributeBase o name X.env (eval o X.env) = eval o X.env := by rfl) (hline : (apos.endLine == cpos.line) = true := by rfl) : PE X (.Call (.Attribute o name apos) [] [] cpos) (aPY X.K T r to) := by
 intro pins s σ H Q I h
 refine wpAny_Call_method0_late hbase hline (thn (ho pins s σ H _ I h) fun v s1 ⟨x, H1, I1, r1, ty, q1⟩ => ?_)
 obtain ⟨h1, h2⟩ := aHB I1 r1 ty
 exact ⟨T, id, pa, slot, hty, h1, h2, Calls.callWith_builtin rfl (PySem.evalArgs_none (hm pins s1 σ H1 x [] v [] Q I1 r1 .nil q1))⟩
theorem lX (pa : PlainAttrs T) (slot : Slot T name id) (hty : typeOf (.builtin id) = pure (.type "method_descriptor")) (hm : MtR X id r) (ho : PE X o to) (ha : PA X (e :: es) t)
  (hbase : attributeBase o name X.env (eval o X.env) = eval o X.env := by rfl)
  (hfew : ((backTo cpos (starEach (e :: es) X.env)).all (fun x => !x.1) && (backToKw cpos (keywordEach [] X.env)).all (fun x => x.1.isSome)
   && decide ((e :: es).length + ([] : List Keyword).length + (if ([] : List Keyword).isEmpty then 0 else 1) < 30)) = true := by rfl)
  (hline : (apos.endLine == cpos.line) = true := by rfl) (hs : starEach (e :: es) X.env = (false, eval e X.env) :: starEach es X.env := by rfl) (hplain : (backTo cpos (starEach es X.env)).any (·.1) = false := by rfl) :
  PE X (.Call (.Attribute o name apos) (e :: es) [] cpos) (tBM X.K T r to t) := by
 intro pins s σ H Q I h
 refine wpAny_Call_method_late hbase hfew hline rfl (thn (ho pins s σ H _ I h) fun v s1 ⟨x, H1, I1, r1, ty, q1⟩ => ?_)
 obtain ⟨h1, h2⟩ := aHB I1 r1 ty
 refine ⟨T, id, pa, slot, hty, h1, h2, ?_⟩
 have hA := ha cpos pins s1 σ H1 _ I1 q1
 rw [hs] at hA ⊢
 refine Calls.callWith_builtin (by show (false || (backTo cpos (starEach es X.env)).any (·.1)) = false; rw [hplain] <;> rfl) (Calls.evalArgs_plain ?_)
 exact thn hA fun us s2 ⟨vs, H2, I2, r2, q2⟩ => hm pins s2 σ H2 x vs v us Q I2 r1 r2 q2
end
end L2
namespace L2
open PySem PySem.Spec PyProof.Rows
def MtM (X : Cx) (id : String) (r : V → List V → Hp → VK → Prop) : Prop :=
 ∀ (pins : List (Addr × Obj)) (s : Shared) (σ : St) (H : Hp) (x : V) (xs : List V) (v : Value) (us : List Value) (Q : VK), Inv X pins σ H s → bN x v → bO xs us → r x xs H Q →
  wpAny (model X.prog X.w) X.A (call (.builtin id) (v :: us)) (EP X pins σ Q) X.xe s
theorem bO.one : ∀ {x : V} {us : List Value}, bO [x] us → ∃ u, us = [u] ∧ bN x u
 | _, _, .cons r .nil => ⟨_, rfl, r⟩
theorem bO.two : ∀ {x y : V} {us : List Value}, bO [x, y] us → ∃ u v, us = [u, v] ∧ bN x u ∧ bN y v
 | _, _, _, .cons r (.cons q .nil) => ⟨_, _, rfl, r, q⟩
theorem bO.zero : ∀ {us : List Value}, bO [] us → us = []
 | _, .nil => rfl
theorem bO.eraseIdx : ∀ {xs : List V} {us : List Value} (i : Nat), bO xs us → bO (xs.eraseIdx i) (us.eraseIdx i)
 | _, _, _, .nil => .nil
 | _, _, 0, .cons _ t => t
 | _, _, i + 1, .cons r t => .cons r (bO.eraseIdx i t)
theorem wV {α : Type} : ∀ (l : List α) (i : Nat), (l.eraseIdx i).length ≤ l.length
 | [], _ => Nat.le_refl _
 | _ :: _, 0 => Nat.le_succ _
 | _ :: r, i + 1 => Nat.succ_le_succ (wV r i)
section
variable {X : Cx} {pins : List (Addr × Obj)} {σ : St} {H : Hp} {s : Shared} {l b : Addr} {xs ys zs : List V}
theorem Inv.lset {its its' : List Value} {n : Nat} {f : Array Value → Array Value} {t' : Nat} (I : Inv X pins σ H s) (hH : H l = some (.lst xs))
  (e : s.heap.get? l = some { cls := .type "list", data := .seq its.toArray n }) (hf : f its.toArray = its'.toArray) (hv : bO ys its') (hz : ys.length ≤ sizeLine) :
  Inv X pins σ (upd H l (.lst ys)) { s with heap := s.heap.update l (Obj.mapSeq f), toks := t' } := by
 have q := PySem.IsL.update e f
 rw [hf] at q
 refine I.write (x := l) (e := l) (by rw [hH]; exact trivial) (.inl rfl) (fun b' u hb hu => (Heap.get?_update_other s.heap (Obj.mapSeq f) (Ne.symm hb)).trans hu) ⟨_, q⟩ ?_
 exact ⟨hz, its', _, hv, q⟩
theorem Inv.lnew {its : List Value} {t' : Nat} (I : Inv X pins σ H s) (hv : bO ys its) (hz : ys.length ≤ sizeLine) :
  Inv X pins σ (upd H s.heap.objs.size (.lst ys)) { s with heap := s.heap.push { cls := .type "list", data := .seq its.toArray }, toks := t' } :=
 I.laid (fun _ _ q => Heap.get?_push_of_some _ q) (Nat.le_refl _) ⟨hz, its, 0, hv, Heap.get?_push_size _ rfl⟩
theorem Inv.fresh (I : Inv X pins σ H s) : H s.heap.objs.size = none := I.hok.fresh (Nat.le_refl _)
theorem Inv.lstM (I : Inv X pins σ H s) (hH : H l = some (.lst xs)) : xs.length ≤ sizeLine ∧ ∃ (its : List Value) (n : Nat), bO xs its ∧ xs.length = its.length ∧ s.heap.get? l = some { cls := .type "list", data := .seq its.toArray n } := by
 obtain ⟨z, its, n, r, e⟩ := I.hok l _ hH
 exact ⟨z, its, n, r, r.length, e⟩
end
section
variable {X : Cx}
def aKK : V → List V → Hp → VK → Prop := fun x vs H Q => ∃ l xs y, x = .ref l ∧ vs = [y] ∧ H l = some (.lst xs) ∧ xs.length < sizeLine ∧ Q .non (upd H l (.lst (xs ++ [y])))
theorem dX : MtM X "list.append" aKK := by
 intro pins s σ H x vs v us Q I rx rv h
 obtain ⟨l, xs, y, rfl, rfl, hH, hz, q⟩ := h
 cases rx
 obtain ⟨u, rfl, ru⟩ := rv.one
 obtain ⟨z, its, n, r, hl, e⟩ := I.lstM hH
 refine call_meets F.slot_list_append ⟨_, e, rfl⟩ F.entry_list_append (F.args_list_append_2 _ _) (PySem.list_append l its.toArray n u (by rw [List.size_toArray]; omega)) ⟨e, ?_⟩
 refine ⟨.non, _, I.lset (its' := its ++ [u]) hH e (by simp) (r.append (.cons ru .nil)) ?_, rfl, q⟩
 rw [List.length_append, List.length_singleton]
 omega
def aMR : V → List V → Hp → VK → Prop := fun x vs H Q => ∃ l xs i k y, x = .ref l ∧ vs = [.int i] ∧ H l = some (.lst xs) ∧ -(2 ^ 63) ≤ i ∧ i < 2 ^ 63 ∧ seqIndex? i xs.length = some k ∧ xs[k]? = some y ∧ Q y (upd H l (.lst (xs.eraseIdx k)))
theorem aIR : MtM X "list.pop" aMR := by
 intro pins s σ H x vs v us Q I rx rv h
 obtain ⟨l, xs, i, k, y, rfl, rfl, hH, h1, h2, hk, hy, q⟩ := h
 cases rx
 obtain ⟨u, rfl, ru⟩ := rv.one
 obtain ⟨t, rfl⟩ := ru
 obtain ⟨z, its, n, r, hl, e⟩ := I.lstM hH
 obtain ⟨w, hw, rw'⟩ := r.get hy
 refine call_meets F.slot_list_pop ⟨_, e, rfl⟩ F.entry_list_pop (F.args_list_pop_2 _ _)
  (MeetsSeq.list_pop_at l its.toArray n i t k w (fitsIndex_both h1 h2) (by rw [List.size_toArray, ← hl]; exact hk) (by rw [← Array.getElem?_toList]; exact hw) (by rw [List.size_toArray]; omega)) ⟨e, ?_⟩
 refine ⟨y, _, I.lset (its' := its.eraseIdx k) hH e ?_ (r.eraseIdx k) ?_, rw', q⟩
 ·show its.toArray.eraseIdxIfInBounds k = (its.eraseIdx k).toArray
  rw [List.eraseIdxIfInBounds_toArray]
 ·have := wV xs k
  omega
def aMS : V → List V → Hp → VK → Prop := fun x vs H Q => ∃ l xs, x = .ref l ∧ vs = [] ∧ H l = some (.lst xs) ∧ Q .non (upd H l (.lst []))
theorem aIS : MtM X "list.clear" aMS := by
 intro pins s σ H x vs v us Q I rx rv h
 obtain ⟨l, xs, rfl, rfl, hH, q⟩ := h
 cases rx
 have hus := rv.zero
 subst hus
 obtain ⟨z, its, n, r, hl, e⟩ := I.lstM hH
 refine call_meets F.slot_list_clear ⟨_, e, rfl⟩ F.entry_list_clear (F.args_list_clear_1 _) (AutoSeq1.list_clear_list_0 l its.toArray n (by rw [List.size_toArray]; omega)) ⟨e, ?_⟩
 exact ⟨.non, _, I.lset (its' := []) (ys := []) hH e rfl .nil (Nat.zero_le _), rfl, q⟩
def aQD : R2 := fun x y H Q => ∃ l b xs zs, x = .ref l ∧ y = .ref b ∧ H l = some (.lst xs) ∧ H b = some (.lst zs) ∧ xs.length + zs.length ≤ sizeLine ∧ ∀ p, H p = none → Q (.ref p) (upd H p (.lst (xs ++ zs)))
theorem uF : OpR X (binaryOp .Add) aQD := by
 intro pins s σ H x y v u Q I rx ry h
 obtain ⟨l, b, xs, zs, rfl, rfl, hH, hB, hz, q⟩ := h
 cases rx
 cases ry
 obtain ⟨z, its, n, r, hl, e⟩ := I.lstM hH
 obtain ⟨z2, its2, n2, r2, hl2, e2⟩ := I.lstM hB
 refine PySem.P.add_list e e2 ?_ (by rw [List.size_toArray, List.size_toArray]; omega)
 have ea : its.toArray ++ its2.toArray = (its ++ its2).toArray := by simp
 rw [ea]
 exact ⟨.ref _, _, I.lnew (t' := s.toks) (r.append r2) (by rw [List.length_append]; omega), rfl, q _ I.fresh⟩
end
section
variable {prog : Program} {w : World} {A : Around} {E : Value → Shared → Prop} {s : Shared}
end
section
variable {X : Cx}
end
end L2
namespace Att
open PySem PySem.W PySem.Calls PyProof.Rows
theorem sS {P : Params} {h : Heap} : ∀ (ns : List Int) (vs : List Value), WellAll P h vs (ns.map WData.int) → IntsAre vs ns := by
 intro ns
 induction ns with
 | nil =>
  intro vs w
  rw [List.map_nil] at w
  cases w
  exact .nil
 | cons n ns ih =>
  intro vs w
  rw [List.map_cons] at w
  cases w with
  | cons a b =>
   cases a
   exact .cons _ _ (ih _ b)
theorem aFU {l : OpenLaw} {n : Nat} (hn : l.most = some n) {P : Params} {h : Heap} {args : List WData} {vals : List Value}
  (hpre : l.row.toRowW.claim.pre args = true) (hwl : WellAll P h vals args) :
  ∃ a vs ns, vals = [Value.ref a] ∧ args = [WData.list (ns.map WData.int)] ∧ h.get? a = some { cls := .type "list", data := .seq vs.toArray } ∧ IntsAre vs ns ∧ ns.length ≤ n := by
 have hsh : WShape.hasAll [] args [.list .int] = true := (pre_splitW hpre).1
 have hc : l.pre.holds [] { args := args } = true := (pre_splitW hpre).2
 obtain ⟨d, r, rfl, h1, h2⟩ := hasAllW_cons hsh
 obtain rfl := hasAllW_nil h2
 obtain ⟨xs, rfl, h3⟩ := hasW_list h1
 obtain ⟨ns, rfl⟩ := items_int h3
 have hlen : ns.length ≤ n := by
  unfold OpenLaw.pre at hc
  have h4 : (WTm.not (.lt (.lit (.int (n : Int))) (.len (.arg 0)))).holds [] { args := [.list (ns.map .int)] } = true := by
   have h4 := (holds_andW hc).1
   rw [hn] at h4
   exact h4
  have h5 := condW_of h4 (w_not (w_lt w_lit (w_len_list (w_arg rfl))))
  rw [List.length_map] at h5
  refine Nat.le_of_not_lt fun q => ?_
  have q' : (n : Int) < ((ns.length : Nat) : Int) := by omega
  first
   | (rw [decide_eq_true q'] at h5; exact absurd h5 (by decide))
   | (simp at h5; omega)
 cases hwl with
 | cons w1 w2 =>
  cases w2
  cases w1 with
  | list ho hall => exact ⟨_, _, ns, rfl, rfl, ho, sS ns _ hall, hlen⟩
theorem aFX (l : OpenLaw) (args : List WData) : l.row.toRowW.claim.post args (.bool true) args = true :=
 postW_of (r := l.row.toRowW) (X := (true == true))
  (show WShape.has [] (.bool true) .bool = true by first | rfl | decide | simp [WShape.has, WShape.arms, WShape.armsAll])
  (show (WTm.eq .res (.lit (.bool true))).value [] { args := args, res := some (.bool true), after := args } = some (.bool (true == true)) from w_eq_bool (w_res rfl) w_lit) rfl
theorem attach_call {l : OpenLaw} {n : Nat} {q : Program} {loose : List Str} {XP : (Str → Option Value) → Heap → Prop} {YP : World → Heap → Prop} {d : DefRec}
  (hn : l.most = some n) (hdf : d.params.defaults = [])
  (call : ∀ (w : World) (s₀ s₁ : Shared) (mg mb : Str → Option Value) (fa : Addr) (o : Obj) (pm cd doc : Value) (a : Addr) (vs : List Value) (ns : List Int),
   Ground q loose [] XP w s₀ mg mb s₁.heap → YP w s₁.heap →
   s₁.heap.get? fa = some o → o.data = .func (docDef d.name d.params d.body d.scope pm cd doc) → s₁.heap.CodeRec cd d.name → mg d.name = some (.ref fa) →
   s₁.heap.get? a = some { cls := .type "list", data := .seq vs.toArray } → IntsAre vs ns → ns.length ≤ n → s₁.gens = #[] →
   codeAny (model l.prog w) callerA (.call (.ref fa) ⟨[.ref a], []⟩) (fun r s' => r = .ok (.ret (.bool true)) ∧ OldK s₁.heap s'.heap ∧ s'.os = s₁.os ∧ AllBare s'.gens) s₁) :
  WalkO q loose XP YP l.row.toRowW d [] (fun f vs => PySem.call f vs) := by
 intro w s₀ s₁ mg mb G Y fa o pm cd doc dV kV ho hd hcd hD hmg hg args vals as hpre hlay hrd hwl hlo
 obtain rfl : dV = .none := Dflts.none hD hdf
 obtain rfl : kV = .none := Dflts.noKw hD
 obtain ⟨a, vs, ns, rfl, rfl, hobj, hints, hlen⟩ := aFU hn hpre hwl
 refine enter_call (codeAny_mono (call w s₀ s₁ mg mb fa o pm cd doc a vs ns G Y ho (fd_plain hd) hcd hmg hobj hints hlen hg) fun r s' hq => ?_)
 obtain ⟨rfl, h2, h3, h4⟩ := hq
 exact ⟨.inl ⟨.bool true, .bool true, [], rfl, fun _ => rfl, .bool true, aFX l _, fun _ => ⟨List.Pairwise.nil, fun _ hm => (nomatch hm)⟩⟩, h2, h3, h4⟩
section
variable {prog : Program} {w : World} {A : Around} {E : Value → Shared → Prop} {s : Shared} {K : Frag}
def noObjs (h : Heap) : Heap := { h with objs := #[] }
def ledger (h : Heap) (L d : Addr) : List (Addr × Obj) := (List.range h.objs.size).filterMap fun a => if a = L ∨ a = d then none else (h.get? a).map fun o => (a, o)
end
end Att
namespace L2
open PySem PySem.Spec PyProof.Rows
theorem wD : ∀ {vs : List Value} {ns : List Int}, IntsAre vs ns → bO (ns.map V.int) vs
 | _, _, .nil => .nil
 | _, _, .cons n t h => .cons ⟨t, rfl⟩ (wD h)
def aNV (H : Hp) : Prop := ∀ b, H b = none ∨ ∃ o xs, H b = some (.frz o (.lst xs))
theorem aIX {P : Program} {w : World} {K : PySem.W.Frag} {mg mb : Str → Option Value} {CX : CXT} {k : Nat} {fa a : Addr} {fd : FuncData} {x : Str} {sp : Sp} {s₁ : Shared} {vs : List Value} {ns : List Int}
  (KX : K.In s₁.heap) (hns : s₁.heap.Ns mainGlobals mg) (hb : s₁.heap.Ns builtinsNs mb) (hbb : ∀ x : Str, x ≠ "__name__" → mb x = bootBuiltins x) (hlim : s₁.heap.NoLimit) (hg : s₁.gens = #[])
  (ha : s₁.heap.get? a = some { cls := .type "list", data := .seq vs.toArray }) (hi : IntsAre vs ns) (hl : ns.length ≤ sizeLine) (hr : Room k callerA)
  (F : ∀ base : Heap, K.In base → base.Ns mainGlobals mg → FnOk P w K mg base CX k fa fd [x] sp) (hbind : ∀ (s : Shared) (u : Value), BindsTo s fd ⟨[u], []⟩ [(x, u)])
  (hsp : ∀ H : Hp, aNV H → SqL K H a (ns.map V.int) → sp [.ref a] H (fun v _ => v = .bl true) fun _ _ _ => False)
  (hCX : ∀ H e s', CX [] H s₁ (fun _ _ _ => False) e s' → False) :
  codeAny (model P w) callerA (.call (.ref fa) ⟨[.ref a], []⟩) (fun r s' => r = .ok (.ret (.bool true)) ∧ OldK s₁.heap s'.heap ∧ s'.os = s₁.os ∧ AllBare s'.gens) s₁ := by
 have rv := wD hi
 have lenV := hi.length
 have core : ∀ H : Hp, aNV H → SqL K H a (ns.map V.int) → HOk P w H s₁.heap → (∀ b, H b ≠ none → b = a) → (H a ≠ none → K.lookup a = none) →
   codeAny (model P w) callerA (.call (.ref fa) ⟨[.ref a], []⟩) (fun r s' => r = .ok (.ret (.bool true)) ∧ OldK s₁.heap s'.heap ∧ s'.os = s₁.os ∧ AllBare s'.gens) s₁ := by
  intro H hO hS hok hA hK
  have base_of : ∀ {b : Addr} {o : Obj}, s₁.heap.get? b = some o → H b = none → (zE s₁.heap H).get? b = some o := fun e n => aJG e n
  have noA : ∀ {b : Addr} {o : Obj} {es : Array DictEntry} {ep : Nat}, s₁.heap.get? b = some o → o.data = .dict es ep → H b = none := fun {b o es ep} e d => by
   cases q : H b with
   | none => rfl
   | some u =>
    have e' : b = a := hA b (by rw [q]; simp)
    subst e'
    rw [ha] at e; cases e
    have d' : Data.seq vs.toArray _ = Data.dict es ep := d
    cases d'
  have nsK : ∀ {b : Addr} {m : Str → Option Value}, s₁.heap.Ns b m → (zE s₁.heap H).Ns b m := fun {b m} ⟨o, es, ep, e, d, r⟩ => ⟨o, es, ep, base_of e (noA e d), d, r⟩
  have hKb : K.In (zE s₁.heap H) := fun b o e => base_of (KX b o e) (by
   cases q : H b with
   | none => rfl
   | some u =>
    have e' : b = a := hA b (by rw [q]; simp)
    subst e'
    rw [hK (by rw [q]; simp)] at e; cases e)
  have hM : Mod K mg (zE s₁.heap H) := ⟨hKb, nsK hns, ⟨mb, nsK hb, hbb⟩, let ⟨mc, h1, h2⟩ := hlim; ⟨mc, nsK h1, h2⟩⟩
  have e0 : Env0 P w K mg (zE s₁.heap H) callerA [] s₁ H := ⟨rfl, hM, fun b o e => aKW e, Nat.le_of_eq (aGL _ _), trivial, fun b hb => absurd (show b ∈ ([] : List Addr) from hb) (by simp), hok, .of_eq hg⟩
  refine codeAny_mono ((F _ hKb (nsK hns)).run callerA [] s₁ H ⟨[.ref a], []⟩ [.ref a] [.ref a] _ _ hr e0 (hbind s₁ (.ref a)) (.cons rfl .nil) (hsp H hO hS)) fun r s' h => ?_
  cases r with
  | error e => exact (hCX H e s' h).elim
  | ok fl =>
   cases fl with
   | next => exact False.elim h
   | brk => exact False.elim h
   | cont => exact False.elim h
   | ret u =>
    obtain ⟨v, H', os, bare, un, hok', r', q⟩ := h
    have q' : v = .bl true := q
    subst q'
    obtain rfl : u = Value.bool true := r'
    refine ⟨rfl, OldK.of_keep fun b o e => ?_, os, bare⟩
    cases q : H b with
    | none => exact un.keep b o e q (by intro z; exact absurd (show b ∈ ([] : List Addr) from z) (by simp)) (by simp)
    | some u =>
     rcases hO b with z | ⟨ob, xs, z⟩
     ·rw [q] at z; cases z
     ·have z2 := un.frzs b ob _ z
      obtain ⟨e1, _⟩ := hok b _ z
      obtain ⟨e2, _⟩ := hok' b _ z2
      rw [e] at e1; cases e1
      exact e2
 cases hk : K.lookup a with
 | some o =>
  have e := KX a o hk
  rw [ha] at e
  cases e
  refine core (fun _ => none) (fun _ => .inl rfl) (.inr ⟨_, vs.toArray, _, hk, rfl, rfl, rfl, by rw [List.size_toArray, lenV]; exact hl, by simpa using rv⟩) (fun b u z => by have z' : (none : Option HO) = some u := z; cases z') (fun b z => absurd rfl z) fun z => absurd rfl z
 | none =>
  refine core (fun b => if b = a then some (.frz { cls := .type "list", data := .seq vs.toArray } (.lst (ns.map V.int))) else none) (fun b => ?_) (.inl (.inr ⟨{ cls := .type "list", data := .seq vs.toArray }, if_pos rfl⟩)) (fun b u z => ?_) (fun b z => ?_) fun _ => hk
  ·by_cases hb : b = a
   ·exact .inr ⟨_, _, if_pos hb⟩
   ·exact .inl (if_neg hb)
  ·by_cases hb : b = a
   ·have z' := (if_pos hb).symm.trans z
    cases z'
    subst hb
    exact ⟨ha, by rw [List.length_map]; exact hl, vs, _, rv, ha⟩
   ·have z' := (if_neg hb).symm.trans z
    cases z'
  ·by_cases hb : b = a
   ·exact hb
   ·exact absurd (if_neg hb) z
end L2
namespace L2
open PySem PySem.Spec PyProof.Rows
theorem walk_of {l : PySem.W.OpenLaw} {n k : Nat} {q : Program} {loose : List Str} {XP : (Str → Option Value) → Heap → Prop} {YP : World → Heap → Prop} {d : DefRec} {K : Params → PySem.W.Frag} {CX : World → CXT} {sp : World → Sp} {x : Str}
  (hn : l.most = some n) (hn2 : n ≤ sizeLine) (hdf : d.params.defaults = []) (hr : Room k callerA)
  (hY : ∀ (w : World) (h : Heap), YP w h → (K w.params).In h)
  (F : ∀ (w : World) (mg : Str → Option Value) (fa : Addr) (h : Heap), (K w.params).In h → h.Ns mainGlobals mg → mg d.name = some (.ref fa) →
   ∃ fd : FuncData, (∀ (s : Shared) (u : Value), BindsTo s fd ⟨[u], []⟩ [(x, u)]) ∧
    ∀ base : Heap, (K w.params).In base → base.Ns mainGlobals mg → FnOk l.prog w (K w.params) mg base (CX w) k fa fd [x] (sp w))
  (hsp : ∀ (w : World) (H : Hp) (a : Addr) (ns : List Int), ns.length ≤ n → aNV H → SqL (K w.params) H a (ns.map V.int) → sp w [.ref a] H (fun v _ => v = .bl true) fun _ _ _ => False)
  (hCX : ∀ (w : World) (H : Hp) (s : Shared) (e : Value) (s' : Shared), CX w [] H s (fun _ _ _ => False) e s' → False) :
  PySem.W.WalkO q loose XP YP l.row.toRowW d [] (fun f vs => PySem.call f vs) := by
 refine Att.attach_call hn hdf fun w s₀ s₁ mg mb fa o pm cd doc a vs ns G Y ho hd hcd hmg hobj hints hlen hg => ?_
 have KX := hY w _ Y
 obtain ⟨fd, hb, hF⟩ := F w mg fa _ KX G.T.g hmg
 exact aIX KX G.T.g G.T.b G.T.builtins G.T.nolimit hg hobj hints (Nat.le_trans hlen hn2) hr hF hb (fun H hO hS => hsp w H a ns hlen hO hS) fun H e s' => hCX w H s₁ e s'
end L2
namespace L2
open PySem PySem.Spec PyProof.Rows
def iI (s : Stmt) (j : Nat) : Stmt := match s with
 | .ClassDef _ _ _ body _ _ _ _ _ _ _ => body.getD j (.Pass ⟨0, 0, 0, 0⟩)
 | _ => .Pass ⟨0, 0, 0, 0⟩
def aN (s : Stmt) : Arguments := match s with
 | .FunctionDef _ a _ _ _ _ _ _ _ _ => a
 | _ => { posonlyargs := [], args := [], vararg := none, kwonlyargs := [], kw_defaults := [], kwarg := none, defaults := [] }
def aM (s : Stmt) : List Stmt := match s with
 | .FunctionDef _ _ b _ _ _ _ _ _ _ => b
 | _ => []
def aB (s : Stmt) : Scope := match s with
 | .FunctionDef _ _ _ _ _ _ sc _ _ _ => sc
 | _ => { kind := .function, names := [], isGenerator := false, isCoroutine := false }
abbrev CX0 : CXT := fun _ _ _ _ _ _ => False
abbrev E0 : XK := fun _ _ _ => False
theorem aEY {X : Cx} : pQ CX0 X E0 := fun _ _ _ _ _ _ _ h => h.elim
structure Fun (K : PySem.W.Frag) (x qual : Str) (st : Stmt) (f : Addr) (fd : FuncData) : Prop where
 ex : ∃ (oc : Value) (od : Option Addr) (kV doc pm : Value) (an : Option Addr) (cdv ct : Value) (osl : Array (Option Value)),
  fd = PySem.W.fnOf x qual (aN st) (aM st) (aB st) .none kV doc pm an cdv ct ∧ K.lookup f = some ⟨oc, od, .func fd, osl⟩ ∧ PySem.W.codeIn K cdv qual = true
 kp : PySem.W.keepIn K (.ref f) = true
section
variable {P : Program} {w : World} {K : PySem.W.Frag} {mg : Str → Option Value} {base : Heap}
theorem Fun.ok {x qual : Str} {st : Stmt} {f : Addr} {fd : FuncData} {N ps : List Str} {k : Nat} {sp : Sp} (F : Fun K x qual st f fd) (S : FnScope N ps (aB st)) (len : ∀ vs H Q E, sp vs H Q E → vs.length = ps.length)
  (hbody : ∀ (cdv : Value) (A : Around) (outer : List Env) (s : Shared) (H : Hp) (vs : List V) (Q : VK) (E : XK), Room k (A.deeper (envOfC qual (aB st) s.heap.objs.size f cdv)) → sp vs H Q E →
   ∃ t, PSs (vG CX0 P w K mg base N qual (aB st) f cdv A outer s H E).nox (aM st) t ∧ t { nx := fun _ H' => Q .non H', rt := Q } (start N vs) H) : FnOk P w K mg base CX0 (k + 1) f fd ps sp := by
 obtain ⟨oc, od, kV, doc, pm, an, cdv, ct, osl, rfl, lk, hcd⟩ := F.ex
 refine aPI lk hcd S len fun A outer s H vs Q E hr hsp => ?_
 obtain ⟨t, h, q⟩ := hbody cdv A outer s H vs Q E hr hsp
 exact ⟨t, h.nox, q⟩
theorem Fun.binds {x qual : Str} {st : Stmt} {f : Addr} {fd : FuncData} {ps : List Str} (F : Fun K x qual st f fd)
  (h : ∀ (kV doc pm : Value) (an : Option Addr) (cdv ct : Value) (us : List Value), us.length = ps.length → bindArgs (PySem.W.fnOf x qual (aN st) (aM st) (aB st) .none kV doc pm an cdv ct) ⟨us, []⟩ = pure (ps.zip us)) : jZ K fd ps [] := by
 obtain ⟨oc, od, kV, doc, pm, an, cdv, ct, osl, rfl, lk, hcd⟩ := F.ex
 exact .all (h kV doc pm an cdv ct)
theorem rK {x qual : Str} {st : Stmt} {f : Addr} {oc : Value} {od an : Option Addr} {osl : Array (Option Value)} {kV doc pm cdv ct : Value} (l : K.lookup f = some ⟨oc, od, .func (PySem.W.fnOf x qual (aN st) (aM st) (aB st) .none kV doc pm an cdv ct), osl⟩)
  (c : PySem.W.codeIn K cdv qual = true) (k : PySem.W.keepIn K (.ref f) = true) : Fun K x qual st f (PySem.W.fnOf x qual (aN st) (aM st) (aB st) .none kV doc pm an cdv ct) := ⟨⟨oc, od, kV, doc, pm, an, cdv, ct, osl, rfl, l, c⟩, k⟩
end
theorem gZ {A : Around} {k : Nat} (hr : Room k A) : A.units + 1 < cLine := Nat.lt_of_le_of_lt (Nat.add_le_add_left (by decide : 1 ≤ 64) _) hr.units
section
variable {X : Cx}
theorem pv (i : Nat) {x : Str} {pos : Pos} (hN : X.N[i]? = some x := by rfl) (hv : Vis X.env.scope x := by first | exact Or.inl rfl | exact Or.inr (Or.inl rfl) | exact Or.inr (Or.inr rfl)) (hd : (x == ("__debug__" : Str)) = false := by decide)
  (hcd : (x == ("__classdict__" : Str)) = false := by decide) : PE X (.Name x pos) (aOA i) := aMV hN hv hd hcd
end
theorem bM {A B : Prop} (h : B) : if false = true then A else B := by
 rw [if_neg Bool.false_ne_true]
 exact h
theorem dO {A B : Prop} (h : A) : if true = true then A else B := by
 rw [if_pos rfl]
 exact h
theorem gW {c A B : Prop} [Decidable c] (h1 : c → A) (h2 : ¬ c → B) : if c then A else B := by
 by_cases h : c
 ·rw [if_pos h]
  exact h1 h
 ·rw [if_neg h]
  exact h2 h
def aK (H H' : Hp) : Prop := ∀ b o, H b = some o → H' b = some o
theorem aK.refl (H : Hp) : aK H H := fun _ _ h => h
theorem aK.trans {H H1 H2 : Hp} (a : aK H H1) (b : aK H1 H2) : aK H H2 := fun c o h => b c o (a c o h)
theorem aK.free {H H' : Hp} (e : aK H H') {l : Addr} (h : H' l = Option.none) : H l = Option.none := by
 cases q : H l with
 | none => rfl
 | some o =>
  rw [e l o q] at h
  cases h
theorem aK.seq {K : PySem.W.Frag} {H H' : Hp} {a : Addr} {xs : List V} (e : aK H H') (h : SqL K H a xs) : SqL K H' a xs := by
 rcases h with (h | ⟨o, h⟩) | h
 ·exact .inl (.inl (e _ _ h))
 ·exact .inl (.inr ⟨o, e _ _ h⟩)
 ·exact .inr h
end L2
namespace L2
open PySem PySem.Spec PyProof.Rows
section
variable {X : Cx}
end
section
variable {κ : Type} [DecidableEq κ]
theorem aGZ {kvs : List (κ × V)} {k : κ} (h : eT kvs k = none) : ¬ k ∈ kvs.map (·.1) := by
 intro m
 obtain ⟨p, hp, e⟩ := List.mem_map.mp m
 have q : (kvs.any fun kv => decide (kv.1 = k)) = true := List.any_eq_true.mpr ⟨p, hp, decide_eq_true e⟩
 rw [mO, h] at q
 exact absurd q (by simp)
theorem aKB {kvs : List (κ × V)} {k : κ} {v : V} (h : eT kvs k = some v) : k ∈ kvs.map (·.1) := by
 have q : (kvs.any fun kv => decide (kv.1 = k)) = true := by
  rw [mO, h]
  all_goals rfl
 obtain ⟨p, hp, e⟩ := List.any_eq_true.mp q
 exact List.mem_map.mpr ⟨p, hp, of_decide_eq_true e⟩
end
end L2
namespace Tx
open PySem PySem.Builtin PySem.Builtin.Str
def cl (n d : Nat) : Option Int → Nat
 | none => d
 | some i => (max 0 (min (if i < 0 then i + n else i) n)).toNat
theorem app_codes (a b : Str) : (a ++ b).cps.toList = a.cps.toList ++ b.cps.toList := by
 simp [Str.cps_append]
end Tx
set_option maxHeartbeats 4000000
namespace L2
open PySem PySem.Spec PyProof.Rows
theorem nY {env : Env} {f : (Str × NameKind) → List (Str × Addr) → Sem (ForInStep (List (Str × Addr)))}
  (hf : ∀ n k cs, f (n, k) cs = if (k == NameKind.free) = true then (cellOf env n >>= fun c => pure (ForInStep.yield ((n, c) :: cs))) else pure (ForInStep.yield cs)) :
  ∀ (names : List (Str × NameKind)) (acc : List (Str × Addr)),
  (∀ y ∈ names, y.2 = .free → ∃ c, env.cells.lookup y.1 = some c) →
  (∀ x c, acc.lookup x = some c → env.cells.lookup x = some c) →
  ∃ cl, forIn names acc f = (pure cl : Sem _) ∧ (∀ x c, cl.lookup x = some c → env.cells.lookup x = some c) ∧ (∀ x c, acc.lookup x = some c → ∃ d, cl.lookup x = some d) ∧
   ∀ x, (x, NameKind.free) ∈ names → ∃ c, cl.lookup x = some c
 | [], acc, _, ha => ⟨acc, rfl, ha, fun x c e => ⟨c, e⟩, fun x m => absurd m (by simp)⟩
 | (n, k) :: r, acc, hn, ha => by
  have hr : ∀ y ∈ r, y.2 = .free → ∃ c, env.cells.lookup y.1 = some c := fun y hy => hn y (List.mem_cons_of_mem _ hy)
  by_cases hk : k = .free
  ·subst hk
   obtain ⟨c, hc⟩ := hn (n, .free) List.mem_cons_self rfl
   have hcell : cellOf env n = pure c := by
    have hc' : env.cells.lookup n = some c := hc
    unfold cellOf
    rw [hc']
   have ha' : ∀ x d, List.lookup x ((n, c) :: acc) = some d → env.cells.lookup x = some d := fun x d e => by
    by_cases hx : (x == n) = true
    ·rw [List.lookup_cons, hx] at e
     obtain rfl := beq_iff_eq.mp hx
     cases e
     exact hc
    ·have hx' : (x == n) = false := by simpa using hx
     rw [List.lookup_cons, hx'] at e
     exact ha x d e
   obtain ⟨cl, e1, e2, e3, e4⟩ := nY hf r ((n, c) :: acc) hr ha'
   refine ⟨cl, ?_, e2, fun x d e => ?_, fun x m => ?_⟩
   ·rw [List.forIn_cons, hf, if_pos (beq_self_eq_true _), hcell, pure_bind, pure_bind]
    exact e1
   ·by_cases hx : (x == n) = true
    ·exact e3 x c (by rw [List.lookup_cons, hx])
    ·have hx' : (x == n) = false := by simpa using hx
     exact e3 x d (by rw [List.lookup_cons, hx']; exact e)
   ·rcases List.mem_cons.mp m with q | q
    ·have q' : x = n := congrArg Prod.fst q
     subst q'
     exact e3 x c (by rw [List.lookup_cons, beq_self_eq_true])
    ·exact e4 x q
  ·have hk' : (k == NameKind.free) = false := by simpa using hk
   obtain ⟨cl, e1, e2, e3, e4⟩ := nY hf r acc hr ha
   refine ⟨cl, ?_, e2, e3, fun x m => ?_⟩
   ·rw [List.forIn_cons, hf, hk', if_neg Bool.false_ne_true, pure_bind]
    exact e1
   ·rcases List.mem_cons.mp m with q | q
    ·exact absurd (congrArg Prod.snd q).symm hk
    ·exact e4 x q
theorem vJ {scope : Scope} {env : Env} (h : ∀ y ∈ scope.names, y.2 = .free → ∃ c, env.cells.lookup y.1 = some c) :
  ∃ cl, closureFor scope env = pure cl ∧ (∀ x c, cl.lookup x = some c → env.cells.lookup x = some c) ∧ ∀ x, (x, NameKind.free) ∈ scope.names → ∃ c, cl.lookup x = some c := by
 obtain ⟨cl, e1, e2, _, e4⟩ := nY (env := env) (f := fun (x : Str × NameKind) cs => match x with | (name, kind) => if (kind == NameKind.free) = true then (cellOf env name >>= fun c => pure (ForInStep.yield ((name, c) :: cs))) else pure (ForInStep.yield cs)) (fun n k cs => rfl) scope.names [] h (fun x c e => by cases e)
 refine ⟨cl, ?_, e2, e4⟩
 have : closureFor scope env = (forIn scope.names [] (fun (x : Str × NameKind) cs => match x with | (name, kind) => if (kind == NameKind.free) = true then (cellOf env name >>= fun c => pure (ForInStep.yield ((name, c) :: cs))) else pure (ForInStep.yield cs)) >>= fun cs => pure cs) := by
  first | rfl | (unfold closureFor; rfl) | (unfold closureFor; simp only [pure_bind, bind_pure])
 rw [this, e1, pure_bind]
theorem iY {env : Env} : ∀ {names : List (Str × NameKind)} {x : Str}, names.lookup x = some .free →
  (names.map fun (n, k) => if (k == NameKind.free && env.scope.kind == .function && env.kindOf n == some .cell) then (n, NameKind.cell) else (n, k)).lookup x = some .cell ∨
  (names.map fun (n, k) => if (k == NameKind.free && env.scope.kind == .function && env.kindOf n == some .cell) then (n, NameKind.cell) else (n, k)).lookup x = some .free
 | [], _, h => by simp at h
 | (n, k) :: r, x, h => by
  have ih := @iY env r x
  show List.lookup x ((if (k == NameKind.free && env.scope.kind == .function && env.kindOf n == some .cell) = true then (n, NameKind.cell) else (n, k)) :: _) = _ ∨ List.lookup x ((if (k == NameKind.free && env.scope.kind == .function && env.kindOf n == some .cell) = true then (n, NameKind.cell) else (n, k)) :: _) = _
  cases hx : x == n with
  | true =>
   simp only [List.lookup_cons, hx] at h
   cases h
   by_cases hc : (NameKind.free == NameKind.free && env.scope.kind == .function && env.kindOf n == some .cell) = true
   ·rw [if_pos hc]; left; simp only [List.lookup_cons, hx]
   ·rw [if_neg hc]; right; simp only [List.lookup_cons, hx]
  | false =>
   simp only [List.lookup_cons, hx] at h
   by_cases hc : (k == NameKind.free && env.scope.kind == .function && env.kindOf n == some .cell) = true
   ·rw [if_pos hc]; simp only [List.lookup_cons, hx]; exact ih h
   ·rw [if_neg hc]; simp only [List.lookup_cons, hx]; exact ih h
theorem kU {env : Env} : ∀ {names : List (Str × NameKind)} {x : Str}, (∀ y ∈ names, y.2 ≠ .cell) →
  ((names.map fun (n, k) => if (k == NameKind.free && env.scope.kind == .function && env.kindOf n == some .cell) then (n, NameKind.cell) else (n, k)).lookup x = some .cell ∨
  (names.map fun (n, k) => if (k == NameKind.free && env.scope.kind == .function && env.kindOf n == some .cell) then (n, NameKind.cell) else (n, k)).lookup x = some .free) → (x, NameKind.free) ∈ names
 | [], _, _, h => by rcases h with h | h <;> simp at h
 | (n, k) :: r, x, hn, h => by
  have ih := @kU env r x (fun y hy => hn y (List.mem_cons_of_mem _ hy))
  have h' : List.lookup x ((if (k == NameKind.free && env.scope.kind == .function && env.kindOf n == some .cell) = true then (n, NameKind.cell) else (n, k)) :: (r.map fun (n, k) => if (k == NameKind.free && env.scope.kind == .function && env.kindOf n == some .cell) then (n, NameKind.cell) else (n, k))) = some .cell ∨
   List.lookup x ((if (k == NameKind.free && env.scope.kind == .function && env.kindOf n == some .cell) = true then (n, NameKind.cell) else (n, k)) :: (r.map fun (n, k) => if (k == NameKind.free && env.scope.kind == .function && env.kindOf n == some .cell) then (n, NameKind.cell) else (n, k))) = some .free := h
  cases hx : x == n with
  | true =>
   obtain rfl := beq_iff_eq.mp hx
   have hk : k = .free := by
    by_cases hc : (k == NameKind.free && env.scope.kind == .function && env.kindOf x == some .cell) = true
    ·have := (Bool.and_eq_true_iff.mp (Bool.and_eq_true_iff.mp hc).1).1
     exact beq_iff_eq.mp this
    ·rw [if_neg hc] at h'
     simp only [List.lookup_cons, hx] at h'
     rcases h' with e | e
     ·cases e; exact absurd rfl (hn (x, .cell) List.mem_cons_self)
     ·cases e; rfl
   subst hk
   exact List.mem_cons_self
  | false =>
   refine List.mem_cons_of_mem _ (ih ?_)
   by_cases hc : (k == NameKind.free && env.scope.kind == .function && env.kindOf n == some .cell) = true
   ·rw [if_pos hc] at h'; simp only [List.lookup_cons, hx] at h'; exact h'
   ·rw [if_neg hc] at h'; simp only [List.lookup_cons, hx] at h'; exact h'
structure BlkR where
 cl : List (Str × Addr)
 C : Addr
 s₀ : Shared
 H₀ : Hp
 ex : List Addr
abbrev blk (X : Cx) (scope : Scope) (N' : List Str) (R : BlkR) : Cx :=
 { prog := X.prog, w := X.w, K := X.K, mg := X.mg, base := X.base, A := X.A, N := N', s₀ := R.s₀, H₀ := R.H₀, env := compEnvC scope R.cl R.C X.env, outer := X.stack, stack := X.stack, ex := R.ex, fn := fun _ => false, calm := X.calm, pn := [], xe := fun _ _ => False }
def aJZ (X : Cx) (ifs : List Expr) (t : TT) : Prop :=
 ∀ (pins : List (Addr × Obj)) (s : Shared) (σ : St) (H : Hp) (Q : Bool → Hp → Prop), Inv X pins σ H s → t σ H Q →
  wpAny (model X.prog X.w) X.A (forIn ifs true fun c r => if r = true then do let ok ← isTrue c X.env (eval c X.env); pure (ForInStep.yield ok) else pure (ForInStep.yield r)) (TP X pins σ Q) X.xe s
def aOB : TT := fun _ H Q => Q true H
theorem cC {X : Cx} : aJZ X [] aOB := fun pins s σ H Q I h => wpAny_tests_nil ⟨H, I, h⟩
theorem eI {X : Cx} {c : Expr} {t : TT} (h : PT X c t) : aJZ X [c] t := fun pins s σ H Q I hw => wpAny_tests_one (h pins s σ H Q I hw)
def aBZ (nt : Nat) (g : TG) : Prop := ∀ x σ H Q, g x σ H Q → g x σ H fun σ2 H2 => Q σ2 H2 ∧ σ2.length = σ.length ∧ ∀ i, nt ≤ i → σ2[i]? = σ[i]?
theorem aW {nt i : Nat} (h : i < nt) : aBZ nt (aBJ i) := fun x σ H Q q =>
 ⟨q, by simp, fun j hj => List.getElem?_set_ne (by omega)⟩
def oG (nt : Nat) (cap : List Nat) (σ : St) : St := List.replicate nt none ++ cap.map fun j => (σ[j]?).join
theorem aGV {nt : Nat} {cap : List Nat} {σ : St} : (oG nt cap σ).length = nt + cap.length := by simp [oG]
theorem xN {nt : Nat} {cap : List Nat} {σ : St} {i : Nat} {v : V} (h : (oG nt cap σ)[i]? = some (some v)) : ∃ j, nt ≤ i ∧ cap[i - nt]? = some j ∧ σ[j]? = some (some v) := by
 unfold oG at h
 by_cases hi : i < nt
 ·rw [List.getElem?_append_left (by simpa using hi), List.getElem?_replicate] at h
  rw [if_pos hi] at h
  cases h
 ·rw [List.getElem?_append_right (by simp; omega), List.length_replicate, List.getElem?_map] at h
  cases e : cap[i - nt]? with
  | none => rw [e] at h; cases h
  | some j =>
   rw [e] at h
   refine ⟨j, by omega, rfl, ?_⟩
   have h' : (σ[j]?).join = some v := by simpa using h
   cases q : σ[j]? with
   | none => rw [q] at h'; cases h'
   | some o => rw [q] at h'; cases o with
    | none => cases h'
    | some z => cases h'; rfl
theorem vI {prog : Program} {w : World} {A : Around} {R : Result → Shared → Prop} {s : Shared} {elt target iter : Expr} {ifs : List Expr} {scope : Scope} {pos : Pos} {it acc : Value} {env : Env} (I : Nat → Shared → Prop)
  (turn : ∀ n s, I n s → wpAny (model prog w) A (pyNext it) (fun r s₁ => match r with
   | none => R (.ok .next) s₁
   | some v => wpAny (model prog w) A (letOwnedTupleGo target it v) (fun _ s₁ => wpAny (model prog w) A (assign target env v) (fun _ s₂ =>
     wpAny (model prog w) A (forIn ifs true fun c r => if r = true then do let ok ← isTrue c env (eval c env); pure (ForInStep.yield ok) else pure (ForInStep.yield r)) (fun ok s₃ =>
      if ok = true then wpAny (model prog w) A (eval elt env) (fun x s₄ =>
       wpAny (model prog w) A (call (.builtin "list.append") [acc, x]) (fun _ s₅ => ∃ m, m < n ∧ I m s₅) (notedBy (model prog w) A env fun e s' => R (.error e) s') s₄) (notedBy (model prog w) A env fun e s' => R (.error e) s') s₃
      else ∃ m, m < n ∧ I m s₃) (notedBy (model prog w) A env fun e s' => R (.error e) s') s₂) (notedBy (model prog w) A env fun e s' => R (.error e) s') s₁) (notedBy (model prog w) A env fun e s' => R (.error e) s') s₁) (notedBy (model prog w) A env fun e s' => R (.error e) s') s)
  (n : Nat) (h : I n s) :
  codeAny (model prog w) A (.compLoop (.ListComp elt [⟨target, iter, ifs, 0⟩] scope pos) 0 it acc env) R s := by
 refine codeAny_loop rfl I (fun n s hI => ?_) n h
 show wpAny _ A ((compTurn (.ListComp elt [⟨target, iter, ifs, 0⟩] scope pos) 0 it acc env).onRaise (fun x => do noteFrame x env; theTreesLotGoes x)) _ _ s
 refine wpAny_noted ?_
 rw [compTurn_list]
 refine wpAny_bind (wpAny_standAt (wpAny_bind (wpAny_mono (turn n s hI) (fun r s₁ h₁ => ?_) fun _ _ h' => h')))
 cases r with
 | none => exact wpAny_pure h₁
 | some v =>
  refine wpAny_bind (wpAny_mono h₁ (fun _ s₁' h₁' => ?_) fun _ _ h' => h')
  refine wpAny_bind (wpAny_mono h₁' (fun _ s₂ h₂ => wpAny_bind (wpAny_mono h₂ (fun ok s₃ h₃ => ?_) fun _ _ h' => h')) fun _ _ h' => h')
  cases ok with
  | false => exact wpAny_pure ⟨rfl, h₃⟩
  | true =>
   exact wpAny_bind (wpAny_bind (wpAny_mono h₃ (fun x s₄ h₄ => wpAny_bind (wpAny_mono h₄ (fun _ s₅ h₅ => wpAny_pure (wpAny_pure ⟨rfl, h₅⟩)) fun _ _ h' => h')) fun _ _ h' => h'))
abbrev CW := Nat → Nat → List V → Hp → Prop
def zX (σb : St) (J : It) (g : TG) (tt : TT) (te : TE) (W : CW) (fin : List V → Hp → Prop) (i m : Nat) (ys : List V) (H : Hp) : Prop :=
 (J.stop i H ∧ fin ys H) ∨
 (J.go i H ∧ ys.length < sizeLine ∧ ∀ x H', J.yld i H x H' → g x σb H' fun σ2 H2 => tt σ2 H2 fun b H3 =>
  if b = true then te σ2 H3 fun y H4 => ∃ m', m' < m ∧ W (i + 1) m' (ys ++ [y]) H4 else ∃ m', m' < m ∧ W (i + 1) m' ys H3)
structure BlkEnd (X : Cx) (pins : List (Addr × Obj)) (H : Hp) (C : Addr) (s : Shared) : Prop where
 ns : ∃ m, s.heap.Ns C m
 fr : H C = none
 ne : C ≠ X.env.locals
 ab : X.s₀.heap.objs.size ≤ C
 cl : ∀ x c, X.env.cells.lookup x = some c → c ≠ C
 pn : ∀ p ∈ X.pn ++ pins, p.1 ≠ C
theorem vH {X : Cx} {pins : List (Addr × Obj)} {σ : St} {s₂ : Shared} {H₂ : Hp} {elt iter tg : Expr} {ifs : List Expr} {scope : Scope} {pos : Pos} {N' : List Str} {nt : Nat} {cap : List Nat} {g : TG} {tt : TT} {te : TE} {cl : List (Str × Addr)}
  {it : Addr} {fp : List Addr} {tn : Nat → Heap → Prop} {J : It} {Q : List V → Hp → Prop} {E : Value → Shared → Prop}
  (hc : X.calm = true) (I₂ : Inv X pins σ H₂ s₂) (T : Turn X.prog X.w X.K tg J fp it tn) (st : tn 0 s₂.heap) (hf : ∀ b ∈ fp, zO X pins H₂ b)
  (hclk : ∀ x c, cl.lookup x = some c → X.env.cells.lookup x = some c) (hclh : ∀ x, (x, NameKind.free) ∈ scope.names → ∃ c, cl.lookup x = some c)
  (hcell : ∀ y ∈ scope.names, y.2 ≠ .cell) (hkind : scope.kind = .function)
  (hfr : ∀ y ∈ scope.names, y.2 = .free → (X.env.kindOf y.1 = some .cell ∨ X.env.kindOf y.1 = some .free))
  (hN : N'.length = nt + cap.length) (hcapN : ∀ (k j : Nat), cap[k]? = some j → N'[nt + k]? = X.N[j]?) (hcapF : ∀ x ∈ N'.drop nt, scope.names.lookup x = some .free)
  (hg : ∀ R, PG (blk X scope N' R) tg g) (hgk : aBZ nt g) (ht : ∀ R, aJZ (blk X scope N' R) ifs tt) (he : ∀ R, PE (blk X scope N' R) elt te)
  (h : ∃ W : CW, (∃ m, W 0 m [] H₂) ∧ ∀ i m ys H, W i m ys H → zX (oG nt cap σ) J g tt te W Q i m ys H)
  {RR : Value → Addr → Result → Shared → Prop}
  (hRR : ∀ D C s' H' ys, H' D = none → Q ys H' → Inv X pins σ (upd H' D (.lst ys)) s' → BlkEnd X pins (upd H' D (.lst ys)) C s' → RR (.ref D) C (.ok .next) s') :
  wpAny (model X.prog X.w) X.A (newList []) (fun acc s₃ => wpAny (model X.prog X.w) X.A (newFunctionEnv scope X.env.globals cl [] X.env.qual none .none (some X.env)) (fun cenv s₄ =>
   codeAny (model X.prog X.w) X.A (.compStart (.ListComp elt [⟨tg, iter, ifs, 0⟩] scope pos) 0 (.ref it) acc { cenv with scope := relabel scope X.env }) (RR acc cenv.locals) s₄) E s₃) E s₂ := by
 obtain ⟨W, ⟨m0, w0⟩, turn⟩ := h
 refine wpAny_newObj_type (wpAny_newFunctionEnv hcell (by intro y hy; simp at hy) (fun h₁ hns₁ hsb₁ => ?_) hkind)
 dsimp only at hns₁ hsb₁ ⊢
 generalize hH2 : s₂.heap.push { cls := .type "list", dict := none, data := .seq ([] : List Value).toArray } = Hx at hns₁ hsb₁ ⊢
 have hC : Hx.objs.size = s₂.heap.objs.size + 1 := by rw [← hH2, Heap.size_push]
 generalize hD : s₂.heap.objs.size = D at hC ⊢
 generalize hCC : Hx.objs.size = C at hns₁ hsb₁ hC ⊢
 have hDC : D ≠ C := by omega
 have below : ∀ b, b < s₂.heap.objs.size → b ≠ C ∧ b ≠ D := fun b hb => by omega
 have old : ∀ b o, s₂.heap.get? b = some o → h₁.get? b = some o := fun b o e => hsb₁.extBut b o (below b (Heap.lt_size e)).1 (Heap.get?_push_of_some _ (hH2 ▸ Heap.get?_push_of_some _ e))
 have hacc : h₁.get? D = some { cls := .type "list", data := .seq ([] : List Value).toArray } := hsb₁.extBut _ _ hDC (Heap.get?_push_of_some _ (by rw [← hH2, ← hD]; exact Heap.get?_push_size _ rfl))
 have freshD : H₂ D = none := I₂.hok.fresh (by omega)
 have freshC : H₂ C = none := I₂.hok.fresh (by omega)
 have fpo : ∀ b ∈ fp, ∃ o, s₂.heap.get? b = some o ∧ ∀ v, o.data ≠ .cell v := T.obj 0 _ st
 have fplt : ∀ b ∈ fp, b < s₂.heap.objs.size := fun b hb => let ⟨o, e, _⟩ := fpo b hb; Heap.lt_size e
 have celllt : ∀ x c, X.env.cells.lookup x = some c → c < s₂.heap.objs.size := fun x c e => let ⟨v, z⟩ := I₂.cell x c e; z.lt
 have pinlt : ∀ p ∈ X.pn ++ pins, p.1 < s₂.heap.objs.size := fun p hp => Heap.lt_size (I₂.pin p hp).1
 let R : BlkR := ⟨cl, C, s₂, H₂, fp⟩
 have okb : (blk X scope N' R).Ok := {
  mod := I₂.mod
  kind := hkind
  glob := I₂.ok.glob
  blt := I₂.ok.blt
  above := (by show s₂.heap.objs.size ≤ C; omega)
  inj := fun x y c e1 e2 => I₂.ok.inj x y c (hclk x c e1) (hclk y c e2)
  has := fun x hx => hclh x (kU hcell hx)
  cab := fun x c hx _ => by cases hx
  hd := I₂.ok.hd
  frames := I₂.ok.frames
  stk := .inl rfl
  exf := fun b hb => ⟨(below b (fplt b hb)).1, fun x c e => (hf b hb).2.2.2.2.1 x c (hclk x c e)⟩
  bs := I₂.bs
  bsz := Nat.le_trans I₂.ok.bsz I₂.sz
  noex := fun b o e hb => by
   rcases (hf b hb).2.2.2.1 with z | z
   ·exact I₂.ok.noex b o e z
   ·exact absurd (Nat.lt_of_lt_of_le (Heap.lt_size e) (Nat.le_trans I₂.ok.bsz z)) (Nat.lt_irrefl _)
  exfs := fun b hb z => by
   rcases List.mem_cons.mp (I₂.stkSub b z) with q | q
   ·exact (hf b hb).2.1 q
   ·exact (hf b hb).2.2.1 q
  funs := I₂.stack
  frf := I₂.stkFree }
 have nofs : ∀ a, s₂.heap.objs.size ≤ a → a ∉ frs X.stack := fun a ha z => by
  rcases List.mem_cons.mp (I₂.stkSub a z) with q | q
  ·exact absurd (Nat.lt_of_lt_of_le I₂.lt ha) (by rw [q]; exact Nat.lt_irrefl _)
  ·exact I₂.nofs ha q
 have hDle : s₂.heap.objs.size ≤ D := by omega
 have hCle : s₂.heap.objs.size ≤ C := by omega
 have stat : ∀ {H' : Hp} {ob : Obj}, (∀ b ∈ fp, H' b = none) → ∀ b ∈ fp, zO (blk X scope N' R) [(D, ob)] H' b := fun {H' ob} hn b hb =>
  ⟨hn b hb, (below b (fplt b hb)).1, okb.exfs b hb, .inl hb, fun x c e => (hf b hb).2.2.2.2.1 x c (hclk x c e), fun p hp => by
   have e : p = (D, ob) := by simpa using hp
   rw [e]
   exact Ne.symm (below b (fplt b hb)).2⟩
 have entry : ∀ tk, Inv (blk X scope N' R) [(D, { cls := .type "list", data := .seq ([] : List Value).toArray })] (oG nt cap σ) H₂ { s₂ with heap := h₁, toks := tk } := fun tk => {
  ok := okb
  os := rfl
  bare := I₂.bare
  base := Un.kept old
  loc := by
   refine ⟨_, hns₁, fun i x v e1 e2 e3 => ?_⟩
   obtain ⟨j, hi, hj, hv⟩ := xN e2
   have hx : X.N[j]? = some x := by
    rw [← hcapN _ _ hj, show nt + (i - nt) = i by omega]
    exact e1
   have hxm : x ∈ N'.drop nt := by
    refine List.mem_of_getElem? (i := i - nt) ?_
    rw [List.getElem?_drop, show nt + (i - nt) = i by omega]
    exact e1
   have hfree := hcapF x hxm
   have hmem : (x, NameKind.free) ∈ scope.names := by
    have : ∀ (l : List (Str × NameKind)), l.lookup x = some .free → (x, NameKind.free) ∈ l := by
     intro l
     induction l with
     | nil => intro q; cases q
     | cons a r ih =>
      intro q
      obtain ⟨n, k⟩ := a
      cases hxn : x == n with
      | true =>
       rw [List.lookup_cons, hxn] at q
       obtain rfl := beq_iff_eq.mp hxn
       cases q
       exact List.mem_cons_self
      | false =>
       rw [List.lookup_cons, hxn] at q
       exact List.mem_cons_of_mem _ (ih q)
    exact this _ hfree
   have hk := hfr (x, .free) hmem rfl
   obtain ⟨m, hn, hl⟩ := I₂.loc
   have vis : Vis X.env.scope x := by
    rcases hk with k | k
    ·exact .inr (.inl k)
    ·exact .inr (.inr k)
   obtain ⟨u, ru, lk⟩ := hl j x v hx hv vis
   refine ⟨u, ru, ?_⟩
   rcases lk with ⟨k, _⟩ | ⟨k, c, hc1, hc2⟩
   ·exfalso
    rcases hk with z | z
    ·rw [z] at k; cases k
    ·rw [z] at k; cases k
   ·obtain ⟨d, hd⟩ := hclh x hmem
    have hd' := hclk x d hd
    rw [hc1] at hd'
    cases hd'
    refine .inr ⟨iY hfree, c, hd, ?_⟩
    obtain ⟨o, ho, hdat⟩ := hc2
    exact ⟨o, old c o ho, hdat⟩
  cell := fun x c e => by
   obtain ⟨v, o, ho, hdat⟩ := I₂.cell x c (hclk x c e)
   exact ⟨v, o, old c o ho, hdat⟩
  free := freshC
  freeC := fun x c e => I₂.freeC x c (hclk x c e)
  pin := fun p hp => by
   have e : p = (D, { cls := .type "list", data := .seq ([] : List Value).toArray }) := by simpa using hp
   subst e
   exact ⟨hacc, freshD, hDC, nofs D hDle, fun v z => by cases z⟩
  hok := I₂.hok.kept old
  len := by rw [aGV, hN] }
 have loop : ∀ tk, codeAny (model X.prog X.w) X.A (.compLoop (.ListComp elt [⟨tg, iter, ifs, 0⟩] scope pos) 0 (.ref it) (.ref D) (compEnvC scope cl C X.env)) (RR (.ref D) C) { s₂ with heap := h₁, toks := tk } := by
  intro tk
  refine vI (fun n s' => ∃ i ys H' its k, Inv (blk X scope N' R) [(D, { cls := .type "list", data := .seq its.toArray k })] (oG nt cap σ) H' s' ∧ tn i s'.heap ∧ (∀ b ∈ fp, H' b = none) ∧ bO ys its ∧ ys.length ≤ sizeLine ∧ W i n ys H') ?_ m0
   ⟨0, [], H₂, [], 0, entry tk, T.keep _ _ _ st fun b hb o e => old b o e, fun b hb => (hf b hb).1, .nil, Nat.zero_le _, w0⟩
  rintro n s3 ⟨i, ys, H3, its, k, I3, st3, fr3, rv, hz, w3⟩
  have pD := I3.pin (D, { cls := .type "list", data := .seq its.toArray k }) (by simp)
  rcases turn i n ys H3 w3 with ⟨stop, qn⟩ | ⟨go, hlt, step⟩
  ·-- the end
   refine wpAny_mono (T.done (blk X scope N' R) rfl rfl rfl hc i _ s3 _ H3 (fun _ _ => False) I3 (stat fr3) st3 stop) (fun r s4 ⟨hr, I4⟩ => ?_) fun _ _ z => z.elim
   subst hr
   have pD4 := I4.pin (D, { cls := .type "list", data := .seq its.toArray k }) (by simp)
   have b4 : Un (frs X.stack) fp H₂ H3 s₂.heap s4.heap := I4.base
   have u4 : Un (frs X.stack) fp H₂ (upd H3 D (.lst ys)) s₂.heap s4.heap := {
    keep := b4.keep
    slot := b4.slot
    free := fun b o e n hx => by
     rw [aQ (below b (Heap.lt_size e)).2]
     exact b4.free b o e n hx
    there := b4.there
    tups := fun b xs e => by
     have z := b4.tups b xs e
     rw [aQ (aV z pD4.2.1)]
     exact z
    frzs := fun b o u e => by
     have z := b4.frzs b o u e
     rw [aQ (aV z pD4.2.1)]
     exact z
    tbls := fun b ps e => by
     obtain ⟨more, z⟩ := b4.tbls b ps e
     exact ⟨more, by rw [aQ (aV z pD4.2.1)]; exact z⟩ }
   have hok4 : HOk X.prog X.w (upd H3 D (.lst ys)) s4.heap := fun b u e => by
    by_cases hb : b = D
    ·subst hb
     rw [aF] at e
     cases e
     exact ⟨hz, its, k, rv, pD4.1⟩
    ·rw [aQ hb] at e
     exact (I4.hok b u e).stay (fun c v _ q => q) (fun c q => by rw [aQ (aV q pD4.2.1)]; exact q) fun c xs q => by rw [aQ (aV q pD4.2.1)]; exact q
   have I5 : Inv X pins σ (upd H3 D (.lst ys)) s4 := I₂.call' I4.os u4 hok4 I4.bare fun b hb => ⟨(hf b hb).2.2.2.1, (hf b hb).2.1, (hf b hb).2.2.2.2.1, (hf b hb).2.2.2.2.2⟩
   refine hRR D C s4 H3 ys pD4.2.1 qn I5 ?_
   obtain ⟨m, hn, _⟩ := I4.loc
   exact ⟨⟨m, hn⟩, by rw [aQ (Ne.symm hDC)]; exact I4.free, fun z => absurd I₂.lt (by rw [← z]; exact Nat.not_lt.mpr hCle), Nat.le_trans I₂.sz hCle, fun x c e => Nat.ne_of_lt (Nat.lt_of_lt_of_le (celllt x c e) hCle), fun p hp => Nat.ne_of_lt (Nat.lt_of_lt_of_le (pinlt p hp) hCle)⟩
  ·-- a turn
   refine wpAny_mono (T.item (blk X scope N' R) rfl rfl rfl hc i _ s3 _ H3 (fun _ _ => False) I3 (stat fr3) st3 go) (fun r s4 ⟨u, hr, h4⟩ => ?_) fun _ _ z => z.elim
   subst hr
   refine wpAny_mono h4 (fun _ s5 ⟨x, H5, I5, r5, y5, st5, fr5⟩ => ?_) fun _ _ z => z.elim
   have I5' := I5.pinned (stat fr5) (T.obj _ _ st5)
   refine wpAny_mono (hg R _ s5 _ H5 x u _ I5' r5 (hgk _ _ _ _ (step x H5 y5))) (fun _ s6 ⟨σ6, H6, I6, q6, l6, k6⟩ => ?_) fun _ _ z => z.elim
   refine wpAny_mono (ht R _ s6 σ6 H6 _ I6 q6) (fun ok s7 ⟨H7, I7, q7⟩ => ?_) fun _ _ z => z.elim
   have weak : ∀ {H8 : Hp} {s8 : Shared} {ps : List (Addr × Obj)}, Inv (blk X scope N' R) ps σ6 H8 s8 → Inv (blk X scope N' R) ps (oG nt cap σ) H8 s8 := fun I8 => I8.weak (by rw [l6]) fun j v e => by
    obtain ⟨_, hj, _, _⟩ := xN e
    rw [k6 j hj]
    exact e
   have tnK : ∀ {H8 : Hp} {s8 : Shared} {σ8 : St}, Inv (blk X scope N' R) ([(D, { cls := .type "list", data := .seq its.toArray k })] ++ nF fp s5.heap) σ8 H8 s8 → tn (i + 1) s8.heap ∧ ∀ b ∈ fp, H8 b = none := fun {H8 s8 σ8} I8 =>
    ⟨T.keep _ _ _ st5 fun b hb o e => (I8.pin (b, o) (List.mem_append_right _ (List.mem_append_right _ (lQ hb e)))).1, fun b hb => by
     obtain ⟨o, e, _⟩ := T.obj _ _ st5 b hb
     exact (I8.pin (b, o) (List.mem_append_right _ (List.mem_append_right _ (lQ hb e)))).2.1⟩
   cases ok with
   | false =>
    rw [if_neg Bool.false_ne_true] at q7 ⊢
    obtain ⟨m', hm, w7⟩ := q7
    exact ⟨m', hm, i + 1, ys, H7, its, k, weak I7.unpinned, (tnK I7).1, (tnK I7).2, rv, hz, w7⟩
   | true =>
    rw [if_pos rfl] at q7 ⊢
    refine wpAny_mono (he R _ s7 σ6 H7 _ I7 q7) (fun xv s8 ⟨y, H8, I8, ry, q8⟩ => ?_) fun _ _ z => z.elim
    obtain ⟨m', hm, w8⟩ := q8
    have pD8 := I8.pin (D, { cls := .type "list", data := .seq its.toArray k }) (by simp)
    have hsz : its.toArray.size ≤ sizeLine := by rw [List.size_toArray, ← rv.length]; omega
    refine wpAny_list_append_plain (hsz := hsz) ⟨k, pD8.1⟩ fun h9 hl9 hs9 => ?_
    obtain ⟨k9, hl9⟩ := hl9
    have tn8 := tnK I8
    have I8' : Inv (blk X scope N' R) (nF fp s5.heap) (oG nt cap σ) H8 s8 := (weak I8).pins_of fun p hp => I8.pin p (List.mem_append_right _ (List.mem_append_right _ hp))
    have I9 : Inv (blk X scope N' R) (nF fp s5.heap) (oG nt cap σ) H8 { s8 with heap := h9 } := I8'.turned (it := D) (t' := s8.toks) (fun b o hb e => hs9.extBut b o hb e) pD8.2.1 pD8.2.2.1 (.inr hDle)
     (fun x c e => Nat.ne_of_lt (Nat.lt_of_lt_of_le (celllt x c (hclk x c e)) hDle)) fun p hp => by
      have hp' : p ∈ nF fp s5.heap := by simpa using hp
      exact Nat.ne_of_lt (Nat.lt_of_lt_of_le (fplt p.1 (wS hp').1) hDle)
    have e9 : h9.get? D = some { cls := .type "list", data := .seq (its ++ [xv]).toArray k9 } := by
     rw [hl9]
     simp
    refine ⟨m', hm, i + 1, ys ++ [y], H8, its ++ [xv], k9, I9.pins_of fun p hp => ?_, T.keep _ _ _ tn8.1 fun b hb o e => hs9.extBut b o (Nat.ne_of_lt (Nat.lt_of_lt_of_le (fplt b hb) hDle)) e, tn8.2, rv.append (.cons ry .nil), by rw [List.length_append]; exact hlt, w8⟩
    have e : p = (D, { cls := .type "list", data := .seq (its ++ [xv]).toArray k9 }) := by simpa using hp
    subst e
    exact ⟨e9, pD8.2.1, pD8.2.2.1, pD8.2.2.2.1, fun v z => by cases z⟩
 exact codeAny_compStart_list (loop _) (T.self _ 0 _ _ _ (T.keep _ _ _ st fun b hb o e => old b o e) (loop _))
def aLU (nt : Nat) (cap : List Nat) (wi : TI) (g : TG) (tt : TT) (te : TE) : TE := fun σ H Q => wi σ H fun J H1 => ∃ W : CW, (∃ m, W 0 m [] H1) ∧ ∀ i m ys H, W i m ys H → zX (oG nt cap σ) J g tt te W (fun ys H' => ∀ p, H' p = none → Q (.ref p) (upd H' p (.lst ys))) i m ys H
theorem kG {α : Type} {l : List α} {p : α → Bool} (h : l.all p = true) : ∀ x ∈ l, p x = true := fun x hx => List.all_eq_true.mp h x hx
theorem bV {X : Cx} {elt iter tg : Expr} {ifs : List Expr} {scope : Scope} {pos : Pos} {wi : TI} {g : TG} {tt : TT} {te : TE} (N' : List Str) (nt : Nat) (cap : List Nat)
  (hc : X.calm = true) (hi : PI X tg iter wi) (hg : ∀ R, PG (blk X scope N' R) tg g) (hgk : aBZ nt g) (ht : ∀ R, aJZ (blk X scope N' R) ifs tt) (he : ∀ R, PE (blk X scope N' R) elt te)
  (hcell : (scope.names.all fun y => !(y.2 == .cell)) = true := by rfl) (hkind : scope.kind = .function := by rfl)
  (hnames : (scope.names.all fun y => !(y.2 == .local) || (scope.names.lookup y.1 == some .local)) = true := by rfl)
  (hfr : (scope.names.all fun y => !(y.2 == .free) || (X.env.kindOf y.1 == some .cell || X.env.kindOf y.1 == some .free)) = true := by rfl)
  (hN : N'.length = nt + cap.length := by rfl) (hcapN : (cap.map fun j => X.N[j]?) = (N'.drop nt).map some := by rfl) (hcapF : ((N'.drop nt).all fun x => scope.names.lookup x == some .free) = true := by rfl)
  (hs : ∀ x, foldedSetIterable iter X.env x = pure x := by intro _; rfl) :
  PE X (.ListComp elt [⟨tg, iter, ifs, 0⟩] scope pos) (aLU nt cap wi g tt te) := by
 intro pins s σ H Q I h
 have hfr' : ∀ y ∈ scope.names, y.2 = .free → (X.env.kindOf y.1 = some .cell ∨ X.env.kindOf y.1 = some .free) := fun y hy e => by
  have z := kG hfr y hy
  rw [e] at z
  have z' : (X.env.kindOf y.1 == some .cell || X.env.kindOf y.1 == some .free) = true := z
  rcases Bool.or_eq_true_iff.mp z' with q | q
  ·exact .inl (beq_iff_eq.mp q)
  ·exact .inr (beq_iff_eq.mp q)
 have hcell' : ∀ y ∈ scope.names, y.2 ≠ .cell := fun y hy e => by
  have z := kG hcell y hy
  rw [e] at z
  cases z
 obtain ⟨cl, hcl, hclk, hclh⟩ := vJ (scope := scope) (env := X.env) fun y hy e => I.ok.has y.1 (hfr' y hy e)
 have hnames' : ∀ y ∈ scope.names, y.2 = .local → scope.names.lookup y.1 = some .local := fun y hy e => by
  have z := kG hnames y hy
  rw [e] at z
  exact beq_iff_eq.mp z
 have hcapN' : ∀ (k j : Nat), cap[k]? = some j → N'[nt + k]? = X.N[j]? := fun k j e => by
  have z := congrArg (fun l : List (Option Str) => l[k]?) hcapN
  simp only [List.getElem?_map, e, Option.map_some, List.getElem?_drop] at z
  cases q : N'[nt + k]? with
  | none => rw [q] at z; cases z
  | some x => rw [q] at z; exact (Option.some.inj z).symm
 rw [eval_ListComp]
 refine wpAny_comprehension_free (use := none) rfl hs hcl hkind hnames' (thn (hi pins s σ H _ I h) fun v s1 h1 => thn h1 fun itv s2 h2 => ?_)
 obtain ⟨it, fp, tn, J, H2, e, I2, T, st2, f2, hw⟩ := h2
 subst e
 refine vH (RR := fun acc C => compPost (model X.prog X.w) X.A X.xe none (EP X pins σ Q) acc C) hc I2 T st2 f2 hclk hclh hcell' hkind hfr' hN hcapN' (fun x hx => beq_iff_eq.mp (kG hcapF x hx)) hg hgk ht he hw ?_
 intro D C s' H' ys hD q I' B
 obtain ⟨m, hn⟩ := B.ns
 refine ⟨m, hn, fun h' hs' => ⟨.ref D, _, I'.turned (it := C) (t' := s'.toks) (fun b o hb e => hs'.extBut b o hb e) B.fr B.ne (.inr B.ab) B.cl B.pn, rfl, q D hD⟩⟩
end L2
namespace L2
open PySem PySem.Spec PyProof.Rows
section
variable {X : Cx}
def aNQ : V → Option Value
 | .ty n => some (.type n)
 | .ref a => some (.ref a)
 | _ => none
theorem aJV {y : V} {c u : Value} (h : aNQ y = some c) (r : bN y u) : u = c := by
 cases y with
 | ty n => cases h; exact r
 | ref a => cases h; exact r
 | non => cases h
 | bl b => cases h
 | int i => cases h
 | str x => cases h
 | byt b => cases h
 | flt b => cases h
theorem aBR : gJ X (.builtin "isinstance") (fun xs H Q => ∃ x y c t b, xs = [x, y] ∧ aNQ y = some c ∧ TyOf X.K H x t ∧ PySem.W.kitOne X.K t c = some b ∧ Q (.bl b) H) := by
 intro pins s σ H xs us Q I r h
 obtain ⟨x, y, c, t, b, rfl, hc, ty, e, q⟩ := h
 obtain ⟨u, v, rfl, ru, rv⟩ := bO.two r
 obtain rfl := aJV hc rv
 exact aGI I ru ty e fun tk => ⟨.bl b, H, I.tok tk, rfl, q⟩
theorem oF : ∀ {bs : List Bool} {us : List Value}, bO (bs.map V.bl) us → LSm.BoolsAre us bs
 | [], us, r => by
  rw [List.map_nil] at r
  cases r
  exact .nil
 | b :: bs, us, r => by
  rw [List.map_cons] at r
  cases r with
  | cons r1 r2 =>
   cases r1
   exact .cons b (oF r2)
theorem lJ (hc : X.calm = true) : gJ X (.builtin "all") (fun xs H Q => ∃ (p : Addr) (bs : List Bool), xs = [.ref p] ∧ SqL X.K H p (bs.map V.bl) ∧ Q (.bl (bs.all id)) H) := by
 intro pins s σ H xs us Q I r h
 obtain ⟨p, bs, rfl, hq, q⟩ := h
 obtain ⟨u, rfl, ru⟩ := bO.one r
 cases ru
 obtain ⟨its, rv, pl, hz⟩ := I.list hq
 obtain ⟨m, F⟩ := I.fr
 have hb := oF rv
 have hl := pl.isList
 have hlt : p < s.heap.objs.size := by obtain ⟨_, e, _⟩ := hl; exact Heap.lt_size e
 refine call_all_walk (wpAny_pyIter_list hl ?_)
 refine ⟨s.heap.objs.size, [s.heap.objs.size, p], [s.heap.objs.size], its.toArray.size, _, _, fun i => (bs[i]?).getD true, rfl, Walks.list (A := X.A.in1) (I.ok.hd hc) _ p (Nat.ne_of_lt hlt) its.toArray,
  ⟨⟨_, Heap.get?_push_size _ rfl, rfl, rfl⟩, hl.push _⟩, fun i v s' Q' E' hP hQ => ?_, fun h' tk hk => ?_⟩
 ·obtain ⟨b, e, rfl⟩ := hb.get i v (by simpa using hP)
  simp only [e, Option.getD_some] at hQ
  exact wpAny_truthy_bool hQ
 ·have e : ((List.range its.toArray.size).all fun i => (bs[i]?).getD true) = bs.all id := by
   rw [List.size_toArray, hb.length]; exact LSm.range_all bs
  rw [e]
  exact ⟨.bl _, H, I.kept (LSm.kept_iter hk), rfl, q⟩
theorem aEZ : OpR X (binaryOp .Mult) (rI (fun i j => i.natAbs < 2 ^ 4096 ∧ j.natAbs < 2 ^ 4096) fun i j => .int (i * j)) := opI fun i j _ _ _ _ _ hc q =>
 mul_int q (IntMulOk.of_bits (Nat.le_trans (intBits_le hc.1) (by decide)) (Nat.le_trans (intBits_le hc.2) (by decide)))
theorem bK : OpR X (binaryOp .FloorDiv) (rI (fun _ j => 0 < j ∧ j.natAbs.log2 < 9000) fun i j => .int (i / j)) := opI fun i j _ _ _ _ _ hc q => by
 have h1 : (0 : Int) < j := hc.1
 exact floordiv_int (by omega) (by rw [Int.fdiv_eq_ediv_of_nonneg i (by omega)]; exact q) (.inl (PyProof.noPylong_of_log2 hc.2))
def Its (x : Str) : It where
 go := fun i _ => i < x.cps.size
 yld := fun i H v H' => H' = H ∧ ∃ c, x.cps[i]? = some c ∧ v = .str ⟨#[c]⟩
 stop := fun i _ => i = x.cps.size
theorem zU {P : Program} {w : World} {K : PySem.W.Frag} {tg : Expr} (it : Addr) (x : Str) (t : Tok) (ty : String)
  (W : ∀ A : Around, A.handled = none → Walks P w A it [it] [it] x.cps.size (SignAt x) (fun i h => h.IsStrIter it ty x t i))
  (hn : ["enumerate", "zip", "dict_itemiterator", "dict_reverseitemiterator", "odict_iterator", "itertools.zip_longest", "itertools.pairwise"].contains ty = false)
  (self : ∀ (A : Around) (i : Nat) (s : Shared) (Q : Value → Shared → Prop) (E : Value → Shared → Prop), s.heap.IsStrIter it ty x t i → Q (.ref it) s → wpAny (model P w) A (pyIter (.ref it)) Q E s) :
  Turn P w K tg (Its x) [it] it (fun i h => h.IsStrIter it ty x t i) where
 mem := by simp
 obj := fun i h st b hb => by
  have e : b = it := by simpa using hb
  subst e
  obtain ⟨o, e, c, d⟩ := st
  exact ⟨o, e, fun v z => by rw [d] at z; cases z⟩
 keep := fun i h h' st k => let ⟨o, ho, r⟩ := st; ⟨o, k it (by simp) o ho, r⟩
 item := by
  intro X hP hw hK hc i pins s σ H E I hf st hg
  subst hP hw hK
  obtain ⟨f0, f1, f2, f3, f4, f5⟩ := hf it (by simp)
  refine (W X.A (I.ok.hd hc)).item i s _ _ hg st fun v h' tk hv st' kk => ?_
  obtain ⟨c, u, hx, rfl⟩ := hv
  have I1 : Inv X pins σ H { s with heap := h', toks := tk } := I.turned (fun b o hb e => kk b o (by simpa using hb) e) f0 f1 f3 f4 f5
  obtain ⟨o, e, cc, d⟩ := id st'
  exact ⟨_, rfl, aFC (s := { s with heap := h', toks := tk }) e cc d hn ⟨.str ⟨#[c]⟩, H, I1, ⟨u, rfl⟩, ⟨rfl, c, hx, rfl⟩, st', fun b hb => (hf b hb).1⟩⟩
 done := by
  intro X hP hw hK hc i pins s σ H E I hf st hg
  subst hP hw hK
  obtain ⟨f0, f1, f2, f3, f4, f5⟩ := hf it (by simp)
  have hg' : i = x.cps.size := hg
  subst hg'
  exact (W X.A (I.ok.hd hc)).done s _ _ st fun h' tk kk => ⟨rfl, I.turned (fun b o hb e => kk b o (by simpa using hb) e) f0 f1 f3 f4 f5⟩
 self := self
def aQH (tl : TE) : TI := fun σ H R => tl σ H fun x H1 => ∃ z, x = .str z ∧ R (Its z) H1
theorem aMU {tg l : Expr} {tl : TE} (hl : PE X l tl) : PI X tg l (aQH tl) := by
 intro pins s σ H R I h
 refine thn (hl pins s σ H _ I h) fun v s1 ⟨x, H1, I1, r1, q1⟩ => ?_
 obtain ⟨z, e, q⟩ := q1
 subst e
 obtain ⟨t, rfl⟩ := r1
 have fp : ∀ b ∈ [s1.heap.objs.size], zO X pins H1 b := fun b hb => by
  have e : b = s1.heap.objs.size := by simpa using hb
  subst e
  exact I1.fpOk (Nat.le_refl _) (I1.hok.fresh (Nat.le_refl _))
 cases ha : z.cps.all (· < 128)
 ·refine wpAny_pyIter_wide ha ?_
  exact ⟨s1.heap.objs.size, [s1.heap.objs.size], _, _, H1, rfl, I1.kept (t' := s1.toks) fun b o e => Heap.get?_push_of_some _ e, zU _ z t "str_iterator" (fun A hA => Walks.strWide hA _ z t) (by decide) (fun A i s Q E st h => wpAny_pyIter_striter_wide st h),
   ⟨_, Heap.get?_push_size _ rfl, rfl, rfl⟩, fp, q⟩
 ·refine wpAny_pyIter_ascii ha ?_
  exact ⟨s1.heap.objs.size, [s1.heap.objs.size], _, _, H1, rfl, I1.kept (t' := s1.toks) fun b o e => Heap.get?_push_of_some _ e, zU _ z t "str_ascii_iterator" (fun A hA => Walks.strAscii hA _ z t) (by decide) (fun A i s Q E st h => wpAny_pyIter_striter_ascii st h),
   ⟨_, Heap.get?_push_size _ rfl, rfl, rfl⟩, fp, q⟩
end
theorem aJU {σb : St} {x : Str} {g : TG} {tt : TT} {te : TE} {fin : List V → Hp → Prop} {H : Hp} (hz : x.cps.size ≤ sizeLine) (Pv : Nat → List V → Hp → Prop) (h0 : Pv 0 [] H) (hl : ∀ i ys H, Pv i ys H → ys.length ≤ i)
  (hs : ∀ i c ys H (K : VK) (K' : Hp → Prop), x.cps[i]? = some c → Pv i ys H → (∀ y H4, Pv (i + 1) (ys ++ [y]) H4 → K y H4) → (∀ H3, Pv (i + 1) ys H3 → K' H3) →
   g (.str ⟨#[c]⟩) σb H fun σ2 H2 => tt σ2 H2 fun b H3 => if b = true then te σ2 H3 K else K' H3)
  (hd : ∀ ys H, Pv x.cps.size ys H → fin ys H) : ∃ W : CW, (∃ m, W 0 m [] H) ∧ ∀ i m ys H, W i m ys H → zX σb (Its x) g tt te W fin i m ys H := by
 refine ⟨fun i m ys H => m = x.cps.size - i ∧ i ≤ x.cps.size ∧ Pv i ys H, ⟨x.cps.size, by simp, Nat.zero_le _, h0⟩, ?_⟩
 rintro i m ys H ⟨rfl, hi, p⟩
 by_cases hlt : i < x.cps.size
 ·refine .inr ⟨hlt, ?_, fun v H' y => ?_⟩
  ·have := hl i ys H p; omega
  ·obtain ⟨e, c, hx, rfl⟩ := y
   subst e
   exact hs i c ys _ _ _ hx p (fun y H4 q => ⟨x.cps.size - (i + 1), by omega, rfl, hlt, q⟩) fun H3 q => ⟨x.cps.size - (i + 1), by omega, rfl, hlt, q⟩
 ·have e : i = x.cps.size := by omega
  subst e
  exact .inl ⟨rfl, hd ys H p⟩
theorem bD {F : PySem.W.Frag} {a : Addr} {xs : List V} {σb : St} {g : TG} {tt : TT} {te : TE} {fin : List V → Hp → Prop} {H : Hp} (hz : xs.length ≤ sizeLine) (Pv : Nat → List V → Hp → Prop) (h0 : Pv 0 [] H)
  (hl : ∀ i ys H, i ≤ xs.length → Pv i ys H → SqL F H a xs ∧ ys.length ≤ i)
  (hs : ∀ i x ys H (K : VK) (K' : Hp → Prop), xs[i]? = some x → Pv i ys H → (∀ y H4, Pv (i + 1) (ys ++ [y]) H4 → K y H4) → (∀ H3, Pv (i + 1) ys H3 → K' H3) →
   g x σb H fun σ2 H2 => tt σ2 H2 fun b H3 => if b = true then te σ2 H3 K else K' H3)
  (hd : ∀ ys H, Pv xs.length ys H → fin ys H) : ∃ W : CW, (∃ m, W 0 m [] H) ∧ ∀ i m ys H, W i m ys H → zX σb (Itl F a) g tt te W fin i m ys H := by
 refine ⟨fun i m ys H => m = xs.length - i ∧ i ≤ xs.length ∧ Pv i ys H, ⟨xs.length, by simp, Nat.zero_le _, h0⟩, ?_⟩
 rintro i m ys H ⟨rfl, hi, p⟩
 obtain ⟨q, ql⟩ := hl i ys H hi p
 by_cases hlt : i < xs.length
 ·refine .inr ⟨⟨xs, xs[i], q, by simp [hlt]⟩, by omega, fun x H' y => ?_⟩
  obtain ⟨e, y⟩ := y
  subst e
  exact hs i x ys _ _ _ (y xs q) p (fun y H4 q => ⟨xs.length - (i + 1), by omega, rfl, hlt, q⟩) fun H3 q => ⟨xs.length - (i + 1), by omega, rfl, hlt, q⟩
 ·have e : i = xs.length := by omega
  subst e
  exact .inl ⟨⟨xs, q, Nat.le_refl _⟩, hd ys H p⟩
end L2
namespace L2
open PySem PySem.Spec PyProof.Rows
structure DefAt (K : PySem.W.Frag) (mg : Str → Option Value) (x : Str) (st : Stmt) (ps : List Str) : Prop where
 ex : ∃ (f : Addr) (fd : FuncData), Fun K x x st f fd ∧ jZ K fd ps [] ∧ mg x = some (.ref f)
structure Fc (P : Program) (w : World) (K : PySem.W.Frag) (mg : Str → Option Value) (base : Heap) (k : Nat) (x : Str) (ps : List Str) (sp : Sp) : Prop where
 ex : ∃ (f : Addr) (fd : FuncData), FnOk P w K mg base CX0 k f fd ps sp ∧ jZ K fd ps [] ∧ mg x = some (.ref f) ∧ PySem.W.keepIn K (.ref f) = true
section
variable {P : Program} {w : World} {K : PySem.W.Frag} {mg : Str → Option Value} {base : Heap}
theorem DefAt.fc {x : Str} {st : Stmt} {N ps : List Str} {k : Nat} {sp : Sp} (D : DefAt K mg x st ps) (S : FnScope N ps (aB st)) (len : ∀ vs H Q E, sp vs H Q E → vs.length = ps.length)
  (hbody : ∀ (f : Addr) (cdv : Value) (A : Around) (outer : List Env) (s : Shared) (H : Hp) (vs : List V) (Q : VK) (E : XK), Room k (A.deeper (envOfC x (aB st) s.heap.objs.size f cdv)) → sp vs H Q E →
   ∃ t, PSs (vG CX0 P w K mg base N x (aB st) f cdv A outer s H E).nox (aM st) t ∧ t { nx := fun _ H' => Q .non H', rt := Q } (start N vs) H) : Fc P w K mg base (k + 1) x ps sp := by
 obtain ⟨f, fd, F, b, m⟩ := D.ex
 exact ⟨f, fd, F.ok S len fun cdv A outer s H vs Q E hr h => hbody f cdv A outer s H vs Q E hr h, b, m, F.kp⟩
theorem bC {h : Heap} {x : Str} {st : Stmt} {ps : List Str} {f : Addr} {oc : Value} {od an : Option Addr} {osl : Array (Option Value)} {kV doc pm cdv ct : Value} (X : K.In h) (G : h.Ns mainGlobals mg)
  (a : PySem.W.nsIn K mainGlobals x = some (some (.ref f))) (l : K.lookup f = some ⟨oc, od, .func (PySem.W.fnOf x x (aN st) (aM st) (aB st) .none kV doc pm an cdv ct), osl⟩)
  (c : PySem.W.codeIn K cdv x = true) (k : PySem.W.keepIn K (.ref f) = true)
  (hb : ∀ (kV doc pm : Value) (an : Option Addr) (cdv ct : Value) (us : List Value), us.length = ps.length → bindArgs (PySem.W.fnOf x x (aN st) (aM st) (aB st) .none kV doc pm an cdv ct) ⟨us, []⟩ = pure (ps.zip us)) : DefAt K mg x st ps :=
 ⟨f, _, rK l c k, (rK l c k).binds hb, PySem.W.mg_of X G a⟩
end
section
variable {X : Cx} {k : Nat} {ps : List Str} {sp : Sp} {x : Str} {p pos : Pos} {e : Expr} {es : List Expr} {t : TA}
theorem bL (F : Fc X.prog X.w X.K X.mg X.base k x ps sp) (hr : Room k X.A) (ha : PA X (e :: es) t) (hg : Gl X x := by rfl) (hdb : (x == ("__debug__" : Str)) = false := by decide)
  (he : starEach (e :: es) X.env = (false, eval e X.env) :: starEach es X.env := by rfl) (hpl : (backTo pos (starEach es X.env)).any (·.1) = false := by rfl) :
  PE X (.Call (.Name x p) (e :: es) [] pos) (aLV sp [] E0 t) := by
 obtain ⟨f, fd, G, b, m, kp⟩ := F.ex
 exact aKR G hr hg m kp b .nil aEY ha hdb he hpl
end
def sp1 (f : V → Hp → VK → Prop) : Sp := fun vs H Q _ => ∃ x, vs = [x] ∧ f x H Q
def sp2 (f : V → V → Hp → VK → Prop) : Sp := fun vs H Q _ => ∃ x y, vs = [x, y] ∧ f x y H Q
def sp3 (f : V → V → V → Hp → VK → Prop) : Sp := fun vs H Q _ => ∃ x y z, vs = [x, y, z] ∧ f x y z H Q
theorem mI {f : V → Hp → VK → Prop} : ∀ vs H Q E, sp1 f vs H Q E → vs.length = 1 := fun vs H Q E ⟨x, e, _⟩ => by rw [e]; rfl
theorem gK {f : V → V → Hp → VK → Prop} : ∀ vs H Q E, sp2 f vs H Q E → vs.length = 2 := fun vs H Q E ⟨x, y, e, _⟩ => by rw [e]; rfl
theorem rA {f : V → V → V → Hp → VK → Prop} : ∀ vs H Q E, sp3 f vs H Q E → vs.length = 3 := fun vs H Q E ⟨x, y, z, e, _⟩ => by rw [e]; rfl
theorem bJ : bootBuiltins "isinstance" = some (.builtin "isinstance") := by decide +kernel
theorem jG : bootBuiltins "all" = some (.builtin "all") := by decide +kernel
theorem cA : bootBuiltins "len" = some (.builtin "len") := by decide +kernel
theorem xJ : bootBuiltins "max" = some (.builtin "max") := by decide +kernel
theorem aGU : bootBuiltins "min" = some (.builtin "min") := by decide +kernel
theorem rQ : bootBuiltins "str" = some (.type "str") := by decide +kernel
theorem xK : bootBuiltins "int" = some (.type "int") := by decide +kernel
theorem vN : bootBuiltins "bool" = some (.type "bool") := by decide +kernel
theorem dI : bootBuiltins "list" = some (.type "list") := by decide +kernel
theorem oE : bootBuiltins "tuple" = some (.type "tuple") := by decide +kernel
theorem gE : bootBuiltins "dict" = some (.type "dict") := by decide +kernel
theorem xI : bootBuiltins "set" = some (.type "set") := by decide +kernel
inductive Pl (K : PySem.W.Frag) (H : Hp) : V → Prop where
 | non : Pl K H .non
 | bl (b : Bool) : Pl K H (.bl b)
 | int (i : Int) : Pl K H (.int i)
 | str (x : Str) : Pl K H (.str x)
 | lst {a : Addr} {xs : List V} (e : H a = some (.lst xs)) : Pl K H (.ref a)
 | frz {a : Addr} {o : Obj} {xs : List V} (e : H a = some (.frz o (.lst xs))) : Pl K H (.ref a)
 | tup {a : Addr} {xs : List V} (e : H a = some (.tup xs)) : Pl K H (.ref a)
 | dK {a : Addr} {kvs : List (Key × V)} (e : H a = some (.dK kvs)) : Pl K H (.ref a)
theorem kY (K : PySem.W.Frag) (n : String) : PySem.W.kitOne K (.type n) (.type n) = some true := by
 unfold PySem.W.kitOne
 rw [if_pos (by simp)]
end L2
namespace L2
open PySem PySem.Spec PyProof.Rows
def lW (mg : Str → Option Value) (x : Str) (v : V) : Prop := ∃ u, mg x = some u ∧ bN v u
theorem sN {X : Cx} {x : Str} {v : V} {pos : Pos} (h : lW X.mg x v) (hg : Gl X x := by rfl) (hd : (x == ("__debug__" : Str)) = false := by decide) : PE X (.Name x pos) (tC v) := by
 obtain ⟨u, hm, r⟩ := h
 exact aKP hg hm r hd
theorem lT {K : PySem.W.Frag} {mg : Str → Option Value} {h : Heap} {x : Str} {v : V} {u : Value} (X : K.In h) (G : h.Ns mainGlobals mg) (a : PySem.W.nsIn K mainGlobals x = some (some u)) (r : bN v u) : lW mg x v := ⟨u, PySem.W.mg_of X G a, r⟩
end L2
namespace L2
open PySem PySem.Spec PyProof.Rows
def rL : HO → Bool
 | .lst _ => true
 | .dK _ => true
 | .set _ _ => true
 | .ext _ => true
 | .rng _ _ => true
 | _ => false
def fN (H' H'' : Hp) : Prop := ∀ b, H'' b = H' b ∨ (H'' b = none ∧ ∃ o, H' b = some o ∧ rL o = true)
theorem fN.refl (H : Hp) : fN H H := fun _ => .inl rfl
theorem fN.trans {H1 H2 H3 : Hp} (a : fN H1 H2) (b : fN H2 H3) : fN H1 H3 := fun c => by
 rcases b c with e | ⟨e, o, q, d⟩
 ·rcases a c with e' | ⟨e', o, q, d⟩
  ·exact .inl (e.trans e')
  ·exact .inr ⟨e.trans e', o, q, d⟩
 ·rcases a c with e' | ⟨e', _⟩
  ·exact .inr ⟨e, o, e' ▸ q, d⟩
  ·rw [e'] at q; cases q
theorem fN.new {H : Hp} {p : Addr} {o : HO} (h : H p = none) (d : rL o = true) : fN (upd H p o) H := fun b => by
 by_cases hb : b = p
 ·subst hb
  exact .inr ⟨h, o, aF, d⟩
 ·exact .inl (aQ hb).symm
theorem fN.lst {H : Hp} {p : Addr} {xs : List V} (h : H p = none) : fN (upd H p (.lst xs)) H := fN.new h rfl
def cN (Q : VK) : VK := fun v H' => ∃ H'', fN H' H'' ∧ Q v H''
theorem cN.of {Q : VK} {v : V} {H H' : Hp} (d : fN H' H) (q : Q v H) : cN Q v H' := ⟨H, d, q⟩
theorem HOk.drop {P : Program} {w : World} {H' H'' : Hp} {h : Heap} (d : fN H' H'') (ok : HOk P w H' h) : HOk P w H'' h := fun b o e => by
 have e' : H' b = some o := by
  rcases d b with z | ⟨z, _⟩
  ·exact z.symm.trans e
  ·rw [z] at e; cases e
 refine (ok b o e').stay (fun _ _ _ q => q) (fun c q => ?_) fun c xs q => ?_
 ·rcases d c with z | ⟨_, o', z', dr⟩
  ·exact z.trans q
  ·rw [q] at z'; cases z'; cases dr
 ·rcases d c with z | ⟨_, o', z', dr⟩
  ·exact z.trans q
  ·rw [q] at z'; cases z'; cases dr
theorem Un.drop {fs ex : List Addr} {H H' H'' : Hp} {h h' : Heap} (d : fN H' H'') (u : Un fs ex H H' h h') : Un fs ex H H'' h h' where
 keep := u.keep
 slot := u.slot
 free := fun b o e n hx => by
  rcases d b with z | ⟨z, _⟩
  ·exact z.trans (u.free b o e n hx)
  ·exact z
 there := u.there
 tups := fun b xs e => by
  have q := u.tups b xs e
  rcases d b with z | ⟨_, o', z', dr⟩
  ·exact z.trans q
  ·rw [q] at z'; cases z'; cases dr
 frzs := fun b o v e => by
  have q := u.frzs b o v e
  rcases d b with z | ⟨_, o', z', dr⟩
  ·exact z.trans q
  ·rw [q] at z'; cases z'; cases dr
 tbls := fun b ps e => by
  obtain ⟨m, q⟩ := u.tbls b ps e
  rcases d b with z | ⟨_, o', z', dr⟩
  ·exact ⟨m, z.trans q⟩
  ·rw [q] at z'; cases z'; cases dr
theorem FnOk.drop {P : Program} {w : World} {K : PySem.W.Frag} {mg : Str → Option Value} {base : Heap} {k : Nat} {f : Addr} {fd : FuncData} {ps : List Str} {sp : Sp} (len : ∀ vs H Q E, sp vs H Q E → vs.length = ps.length)
  (F : FnOk P w K mg base CX0 k f fd ps (fun vs H Qd E => ∃ Q, sp vs H Q E ∧ Qd = cN Q)) : FnOk P w K mg base CX0 k f fd ps sp := by
 refine ⟨len, fun A outer s H args us vs Q E hr he hb hv hs => codeAny_mono (F.run A outer s H args us vs (cN Q) E hr he hb hv ⟨Q, hs, rfl⟩) fun r s' h => ?_⟩
 cases r with
 | error e => exact h
 | ok fl =>
  cases fl with
  | ret u =>
   obtain ⟨v, H', os, bare, un, hok, rv, H'', d, q⟩ := h
   exact ⟨v, H'', os, bare, un.drop d, hok.drop d, rv, q⟩
  | next => exact h
  | brk => exact h
  | cont => exact h
theorem DefAt.fcD {P : Program} {w : World} {K : PySem.W.Frag} {mg : Str → Option Value} {base : Heap} {x : Str} {st : Stmt} {N ps : List Str} {k : Nat} {sp : Sp} (D : DefAt K mg x st ps) (S : FnScope N ps (aB st)) (len : ∀ vs H Q E, sp vs H Q E → vs.length = ps.length)
  (hbody : ∀ (f : Addr) (cdv : Value) (A : Around) (outer : List Env) (s : Shared) (H : Hp) (vs : List V) (Q : VK) (E : XK), Room k (A.deeper (envOfC x (aB st) s.heap.objs.size f cdv)) → sp vs H Q E →
   ∃ t, PSs (vG CX0 P w K mg base N x (aB st) f cdv A outer s H E).nox (aM st) t ∧ t { nx := fun _ H' => cN Q .non H', rt := cN Q } (start N vs) H) : Fc P w K mg base (k + 1) x ps sp := by
 obtain ⟨f, fd, F, b, m⟩ := D.ex
 refine ⟨f, fd, FnOk.drop len (F.ok S (fun vs H Q E ⟨Q', h, _⟩ => len vs H Q' E h) fun cdv A outer s H vs Q E hr ⟨Q', h, e⟩ => ?_), b, m, F.kp⟩
 subst e
 exact hbody f cdv A outer s H vs Q' E hr h
end L2
namespace L2
open PySem PySem.Spec PyProof.Rows
theorem aK.upd {H : Hp} {p : Addr} {o : HO} (h : H p = none) : aK H (upd H p o) := fun b u e => by
 rw [aQ (aV e h)]
 exact e
def aEJ (K : PySem.W.Frag) : Sp := sp1 fun x H Q => ∃ (a : Addr) (ns : List Int), x = .ref a ∧ SqL K H a (ns.map V.int) ∧ ns.length ≤ 63 ∧ ∀ H', Q (.bl true) H'
theorem walk_law {l : PySem.W.OpenLaw} {q : Program} {loose : List Str} {XP : (Str → Option Value) → Heap → Prop} {YP : World → Heap → Prop} {d : DefRec} {K : Params → PySem.W.Frag} (k : Nat) (hr : Room k callerA) (hn : l.most = some 63) (hdf : d.params.defaults = [])
  (hY : ∀ (w : World) (h : Heap), YP w h → (K w.params).In h)
  (F : ∀ (w : World) (mg : Str → Option Value) (fa : Addr) (h : Heap), (K w.params).In h → h.Ns mainGlobals mg → mg d.name = some (.ref fa) →
   ∃ fd : FuncData, (∀ (s : Shared) (u : Value), BindsTo s fd ⟨[u], []⟩ [("_law_script", u)]) ∧ ∀ base : Heap, (K w.params).In base → base.Ns mainGlobals mg → FnOk l.prog w (K w.params) mg base CX0 k fa fd ["_law_script"] (aEJ (K w.params))) :
  PySem.W.WalkO q loose XP YP l.row.toRowW d [] (fun f vs => PySem.call f vs) :=
 L2.walk_of (n := 63) (k := k) (x := "_law_script") (CX := fun _ => CX0) (sp := fun w => aEJ (K w.params)) hn (by decide) hdf hr hY F (fun _ _ a ns hl _ hS => ⟨_, rfl, a, ns, rfl, hS, hl, fun _ => rfl⟩) fun _ _ _ _ _ z => z
end L2
namespace L2
open PySem PySem.Spec PyProof.Rows
theorem kD {X : Cx} {x : Str} {n : String} {pos : Pos} (hm : X.mg x = none) (hv : bootBuiltins x = some (.type n)) (hg : Gl X x := by rfl) (hn : x ≠ "__name__" := by decide) (hd : (x == ("__debug__" : Str)) = false := by decide) : PE X (.Name x pos) (tC (.ty n)) :=
 aKS hg hm hv rfl hn hd
end L2
namespace L2
theorem aY {n : Nat} (h : Nat.ble n 1000 = true) : n ≤ PySem.sizeLine := Nat.le_trans (Nat.le_of_ble_eq_true h) (by decide)
end L2
namespace L2
open PySem PySem.Spec PyProof.Rows
def Ite (K : PySem.W.Frag) (a : Addr) : It where
 go := fun i H => ∃ xs x, SqL K H a xs ∧ xs[i]? = some x
 yld := fun i H v H' => ∃ p x, H p = none ∧ v = .ref p ∧ H' = upd H p (.tup [.int i, x]) ∧ ∀ ys, SqL K H a ys → ys[i]? = some x
 stop := fun i H => ∃ xs, SqL K H a xs ∧ xs.length ≤ i
end L2
namespace L2
open PySem PySem.Spec PyProof.Rows
inductive Dv where
 | non | bl (b : Bool) | int (i : Int) | str (x : Str) | lst (ds : List Dv) | tup (ds : List Dv) | dct (ks : List Key) (ds : List Dv)
mutual
def Is (H : Hp) : Dv → V → Prop
 | .non, v => v = .non
 | .bl b, v => v = .bl b
 | .int i, v => v = .int i
 | .str x, v => v = .str x
 | .lst ds, v => ∃ a vs, v = .ref a ∧ H a = some (.lst vs) ∧ IsL H ds vs
 | .tup ds, v => ∃ a vs, v = .ref a ∧ H a = some (.tup vs) ∧ IsL H ds vs
 | .dct ks ds, v => ∃ a vs, v = .ref a ∧ H a = some (.dK (ks.zip vs)) ∧ vs.length = ks.length ∧ IsL H ds vs
def IsL (H : Hp) : List Dv → List V → Prop
 | [], vs => vs = []
 | d :: ds, vs => ∃ v r, vs = v :: r ∧ Is H d v ∧ IsL H ds r
end
def aNK : HO → Bool
 | .lst _ => true
 | .tup _ => true
 | .dK _ => true
 | _ => false
def aFM (H H' : Hp) : Prop := ∀ b o, H b = some o → aNK o = true → H' b = some o
mutual
theorem Is.sameD {H H' : Hp} (S : aFM H H') : ∀ (d : Dv) (v : V), Is H d v → Is H' d v
 | .non, _, h => h
 | .bl _, _, h => h
 | .int _, _, h => h
 | .str _, _, h => h
 | .lst ds, _, ⟨a, vs, e, o, h⟩ => ⟨a, vs, e, S _ _ o rfl, IsL.sameD S ds vs h⟩
 | .tup ds, _, ⟨a, vs, e, o, h⟩ => ⟨a, vs, e, S _ _ o rfl, IsL.sameD S ds vs h⟩
 | .dct ks ds, _, ⟨a, vs, e, o, l, h⟩ => ⟨a, vs, e, S _ _ o rfl, l, IsL.sameD S ds vs h⟩
theorem IsL.sameD {H H' : Hp} (S : aFM H H') : ∀ (ds : List Dv) (vs : List V), IsL H ds vs → IsL H' ds vs
 | [], _, h => h
 | d :: ds, _, ⟨v, r, e, h, t⟩ => ⟨v, r, e, Is.sameD S d v h, IsL.sameD S ds r t⟩
end
theorem Is.same {H H' : Hp} (S : aK H H') (d : Dv) (v : V) (h : Is H d v) : Is H' d v := Is.sameD (fun b o e _ => S b o e) d v h
theorem IsL.same {H H' : Hp} (S : aK H H') (ds : List Dv) (vs : List V) (h : IsL H ds vs) : IsL H' ds vs := IsL.sameD (fun b o e _ => S b o e) ds vs h
mutual
def wA : Dv → Bool
 | .lst _ => false
 | .dct _ _ => false
 | .tup ds => uV ds
 | _ => true
def uV : List Dv → Bool
 | [] => true
 | d :: ds => wA d && uV ds
end
def hG (H H' : Hp) : Prop := ∀ a xs, H a = some (.tup xs) → H' a = some (.tup xs)
mutual
theorem Is.keep {H H' : Hp} (S : hG H H') : ∀ (d : Dv) (v : V), wA d = true → Is H d v → Is H' d v
 | .non, _, _, h => h
 | .bl _, _, _, h => h
 | .int _, _, _, h => h
 | .str _, _, _, h => h
 | .lst ds, _, f, _ => by cases f
 | .tup ds, _, f, ⟨a, vs, e, o, h⟩ => ⟨a, vs, e, S _ _ o, IsL.keep S ds vs f h⟩
 | .dct ks ds, _, f, _ => by cases f
theorem IsL.keep {H H' : Hp} (S : hG H H') : ∀ (ds : List Dv) (vs : List V), uV ds = true → IsL H ds vs → IsL H' ds vs
 | [], _, _, h => h
 | d :: ds, _, f, ⟨v, r, e, h, t⟩ => ⟨v, r, e, Is.keep S d v (Bool.and_eq_true_iff.mp f).1 h, IsL.keep S ds r (Bool.and_eq_true_iff.mp f).2 t⟩
end
mutual
def deq : Dv → Dv → Bool
 | .non, .non => true
 | .bl a, .bl b => a == b
 | .bl a, .int b => (if a then 1 else 0) == b
 | .int a, .bl b => a == (if b then 1 else 0)
 | .int a, .int b => a == b
 | .str a, .str b => a == b
 | .lst a, .lst b => wC a b
 | .tup a, .tup b => wC a b
 | _, _ => false
def wC : List Dv → List Dv → Bool
 | [], [] => true
 | a :: r, b :: q => deq a b && wC r q
 | _, _ => false
end
mutual
def bB : Nat → Dv → Bool
 | _, .dct _ _ => false
 | 0, .lst _ => false
 | 0, .tup _ => false
 | n + 1, .lst ds => cY n ds
 | n + 1, .tup ds => cY n ds
 | _, _ => true
def cY : Nat → List Dv → Bool
 | _, [] => true
 | n, d :: ds => bB n d && cY n ds
end
mutual
theorem jX : ∀ (n : Nat) (d : Dv), bB n d = true → deq d d = true
 | _, .non, _ => rfl
 | _, .bl b, _ => beq_self_eq_true b
 | _, .int i, _ => beq_self_eq_true i
 | _, .str x, _ => beq_self_eq_true x
 | 0, .lst ds, f => by simp [bB] at f
 | 0, .tup ds, f => by simp [bB] at f
 | n + 1, .lst ds, f => rM n ds (by simpa [bB] using f)
 | n + 1, .tup ds, f => rM n ds (by simpa [bB] using f)
 | n, .dct ks ds, f => by simp [bB] at f
theorem rM : ∀ (n : Nat) (ds : List Dv), cY n ds = true → wC ds ds = true
 | _, [], _ => rfl
 | n, d :: ds, f => by
  rw [cY, Bool.and_eq_true] at f
  show (deq d d && wC ds ds) = true
  rw [jX n d f.1, rM n ds f.2]; rfl
end
theorem IsL.length {H : Hp} : ∀ {ds : List Dv} {vs : List V}, IsL H ds vs → vs.length = ds.length
 | [], _, h => by rw [show _ = [] from h]; rfl
 | d :: ds, _, ⟨v, r, e, _, t⟩ => by rw [e, List.length_cons, List.length_cons, IsL.length t]
mutual
theorem Is.inj {H : Hp} : ∀ (d e : Dv) (v : V), Is H d v → Is H e v → (∃ n, bB n d = true) → (∃ n, bB n e = true) → d = e
 | .non, e, v, h, h', _, _ => by
  cases e <;> simp_all [Is]
 | .bl b, e, v, h, h', _, _ => by
  cases e <;> simp_all [Is]
 | .int b, e, v, h, h', _, _ => by
  cases e <;> simp_all [Is]
 | .str b, e, v, h, h', _, _ => by
  cases e <;> simp_all [Is]
 | .lst ds, e, v, ⟨a, vs, q, o, h⟩, h', ⟨n, f⟩, ⟨m, g⟩ => by
  subst q
  cases e with
  | lst es =>
   obtain ⟨a', vs', q', o', h'⟩ := h'
   cases q'
   rw [o] at o'
   cases o'
   cases n with
   | zero => simp [bB] at f
   | succ n =>
    cases m with
    | zero => simp [bB] at g
    | succ m => rw [IsL.inj ds es vs h h' ⟨n, by simpa [bB] using f⟩ ⟨m, by simpa [bB] using g⟩]
  | tup es =>
   obtain ⟨a', vs', q', o', h'⟩ := h'
   cases q'
   rw [o] at o'
   cases o'
  | dct ks es => simp [bB] at g
  | _ => simp_all [Is]
 | .tup ds, e, v, ⟨a, vs, q, o, h⟩, h', ⟨n, f⟩, ⟨m, g⟩ => by
  subst q
  cases e with
  | tup es =>
   obtain ⟨a', vs', q', o', h'⟩ := h'
   cases q'
   rw [o] at o'
   cases o'
   cases n with
   | zero => simp [bB] at f
   | succ n =>
    cases m with
    | zero => simp [bB] at g
    | succ m => rw [IsL.inj ds es vs h h' ⟨n, by simpa [bB] using f⟩ ⟨m, by simpa [bB] using g⟩]
  | lst es =>
   obtain ⟨a', vs', q', o', h'⟩ := h'
   cases q'
   rw [o] at o'
   cases o'
  | dct ks es => simp [bB] at g
  | _ => simp_all [Is]
 | .dct ks ds, e, v, _, h', ⟨n, f⟩, _ => by simp [bB] at f
theorem IsL.inj {H : Hp} : ∀ (ds es : List Dv) (vs : List V), IsL H ds vs → IsL H es vs → (∃ n, cY n ds = true) → (∃ n, cY n es = true) → ds = es
 | [], es, vs, h, h', _, _ => by
  rw [show vs = [] from h] at h'
  cases es with
  | nil => rfl
  | cons e es => obtain ⟨v, r, q, _⟩ := h'; cases q
 | d :: ds, es, vs, ⟨v, r, q, h, t⟩, h', ⟨n, f⟩, ⟨m, g⟩ => by
  subst q
  cases es with
  | nil => cases (show v :: r = [] from h')
  | cons e es =>
   obtain ⟨v', r', q', h', t'⟩ := h'
   cases q'
   rw [cY, Bool.and_eq_true] at f g
   rw [Is.inj d e v h h' ⟨n, f.1⟩ ⟨m, g.1⟩, IsL.inj ds es r t t' ⟨n, f.2⟩ ⟨m, g.2⟩]
end
theorem IsL.get {H : Hp} : ∀ {ds : List Dv} {vs : List V} {i : Nat} {d : Dv}, IsL H ds vs → ds[i]? = some d → ∃ v, vs[i]? = some v ∧ Is H d v
 | [], _, _, _, _, e => by simp at e
 | d :: ds, _, 0, d', ⟨v, r, e, h, t⟩, q => by
  simp at q
  subst q e
  exact ⟨v, rfl, h⟩
 | d :: ds, _, i + 1, d', ⟨v, r, e, h, t⟩, q => by
  subst e
  obtain ⟨u, h1, h2⟩ := IsL.get (i := i) t (by simpa using q)
  exact ⟨u, by simpa using h1, h2⟩
theorem pP : ∀ (ds es : List Dv), ds.length = es.length → (List.range ds.length).all (fun j => deq (ds.getD j .non) (es.getD j .non)) = wC ds es
 | [], [], _ => rfl
 | d :: ds, e :: es, h => by
  have ih := pP ds es (by simpa using h)
  rw [List.length_cons, List.range_succ_eq_map, List.all_cons, List.all_map]
  show (deq d e && (List.range ds.length).all (fun j => deq (ds.getD j .non) (es.getD j .non))) = (deq d e && wC ds es)
  rw [ih]
 | [], _ :: _, h => by simp at h
 | _ :: _, [], h => by simp at h
theorem vE : ∀ (ds es : List Dv), ds.length ≠ es.length → wC ds es = false
 | [], [], h => absurd rfl h
 | d :: ds, e :: es, h => by
  show (deq d e && wC ds es) = false
  rw [vE ds es (fun q => h (by simp [q]))]
  simp
 | [], _ :: _, _ => rfl
 | _ :: _, [], _ => rfl
theorem nZ : ∀ {n : Nat} {ds : List Dv} {i : Nat} {d : Dv}, cY n ds = true → ds[i]? = some d → bB n d = true
 | n, [], _, _, _, e => by simp at e
 | n, d :: ds, 0, d', f, e => by
  simp at e
  subst e
  rw [cY, Bool.and_eq_true] at f
  exact f.1
 | n, d :: ds, i + 1, d', f, e => by
  rw [cY, Bool.and_eq_true] at f
  exact nZ (i := i) f.2 (by simpa using e)
theorem IsL.snoc {H : Hp} {d : Dv} {v : V} (h : Is H d v) : ∀ {ds : List Dv} {vs : List V}, IsL H ds vs → IsL H (ds ++ [d]) (vs ++ [v])
 | [], _, e => by
  rw [show _ = [] from e]
  exact ⟨v, [], rfl, h, rfl⟩
 | d' :: ds, _, ⟨v', r, e, h', t⟩ => by
  subst e
  exact ⟨v', r ++ [v], rfl, h', IsL.snoc h t⟩
theorem IsL.rev {H : Hp} : ∀ {ds : List Dv} {vs : List V}, IsL H ds vs → IsL H ds.reverse vs.reverse
 | [], _, e => by rw [show _ = [] from e]; exact rfl
 | d :: ds, _, ⟨v, r, e, h, t⟩ => by
  subst e
  rw [List.reverse_cons, List.reverse_cons]
  exact IsL.snoc h (IsL.rev t)
theorem IsL.strs (H : Hp) : ∀ zs : List Str, IsL H (zs.map Dv.str) (zs.map V.str)
 | [] => rfl
 | z :: zs => ⟨.str z, zs.map V.str, rfl, rfl, IsL.strs H zs⟩
theorem eJ : ∀ {ds : List Dv}, (∀ d ∈ ds, wA d = true) → uV ds = true
 | [], _ => rfl
 | d :: ds, h => by
  rw [uV, h d List.mem_cons_self, eJ fun e m => h e (List.mem_cons_of_mem _ m)]
  rfl
theorem hG.lst {H : Hp} {l : Addr} {xs : List V} {o : HO} (h : H l = some (.lst xs)) : hG H (upd H l o) := fun a ys e => by
 have : a ≠ l := mC e h (by intro z; cases z)
 rw [aQ this]
 exact e
theorem aK.over {H H' : Hp} {l : Addr} {o : HO} (S : aK H H') (hl : H l = none) : aK H (L2.upd H' l o) := fun b u e => by
 rw [aQ (aV e hl)]
 exact S b u e
theorem uY {n : Nat} : ∀ {ds : List Dv}, (∀ d ∈ ds, bB n d = true) → cY n ds = true
 | [], _ => by rw [cY]
 | d :: ds, h => by
  rw [cY, h d List.mem_cons_self, uY fun e m => h e (List.mem_cons_of_mem _ m)]
  rfl
inductive View (s : Shared) (H : Hp) : Dv → Value → Prop where
 | non : View s H .non .none
 | bl (b : Bool) : View s H (.bl b) (.bool b)
 | int (i : Int) (t : Tok) : View s H (.int i) (.int i t)
 | str (x : Str) (t : Tok) : View s H (.str x) (.str x t)
 | lst {ds : List Dv} {l : Addr} {its : List Value} {vs : List V} (hl : s.heap.IsList l its.toArray) (r : bO vs its) (h : IsL H ds vs) : View s H (.lst ds) (.ref l)
 | tup {ds : List Dv} {l : Addr} {its : List Value} {vs : List V} (hl : s.heap.IsTuple l its.toArray) (r : bO vs its) (h : IsL H ds vs) : View s H (.tup ds) (.ref l)
section
variable {X : Cx} {pins : List (Addr × Obj)} {σ : St} {H : Hp} {s : Shared}
theorem Is.view (I : Inv X pins σ H s) {n : Nat} {d : Dv} {v : V} {u : Value} (f : bB n d = true) (h : Is H d v) (r : bN v u) : View s H d u := by
 cases d with
 | non => cases (show v = .non from h); cases r; exact .non
 | bl b => cases (show v = .bl b from h); cases r; exact .bl b
 | int b => cases (show v = .int b from h); obtain ⟨t, rfl⟩ := r; exact .int b t
 | str b => cases (show v = .str b from h); obtain ⟨t, rfl⟩ := r; exact .str b t
 | lst ds =>
  obtain ⟨a, vs, rfl, o, h⟩ := h
  cases r
  obtain ⟨its, rv, pl, hz⟩ := I.list (SqL.of o)
  exact .lst pl.isList rv h
 | tup ds =>
  obtain ⟨a, vs, rfl, o, h⟩ := h
  cases r
  obtain ⟨its, rv, pl, hz⟩ := I.tuple (SqT.of o)
  exact .tup pl rv h
 | dct ks ds => simp [bB] at f
open PySem.SeqAt in
theorem lR {n : Nat} {A : Around} (hu : A.units + n < cLine)
  (ih : ∀ (d e : Dv) (v v' : V) (u u' : Value) (A : Around), A.units + n < cLine → bB n d = true → bB n e = true → Is H d v → Is H e v' → bN v u → bN v' u' → EqAt A s u u' (deq d e))
  {ds es : List Dv} {vs vs' : List V} {its its' : List Value} (f : cY n ds = true) (g : cY n es = true) (h : IsL H ds vs) (h' : IsL H es vs') (r : bO vs its) (r' : bO vs' its')
  (j : Nat) (h1 : j < its.toArray.size) (h2 : j < its'.toArray.size) : EqAt A s its.toArray[j] its'.toArray[j] (deq (ds.getD j .non) (es.getD j .non)) := by
 have l1 := r.length
 have l2 := r'.length
 have l3 := h.length
 have l4 := h'.length
 rw [List.size_toArray] at h1 h2
 have e1 : ds[j]? = some (ds.getD j .non) := by
  rw [List.getD_eq_getElem?_getD, List.getElem?_eq_getElem (by omega)]; rfl
 have e2 : es[j]? = some (es.getD j .non) := by
  rw [List.getD_eq_getElem?_getD, List.getElem?_eq_getElem (by omega)]; rfl
 obtain ⟨v, q1, i1⟩ := h.get e1
 obtain ⟨v', q2, i2⟩ := h'.get e2
 obtain ⟨u, p1, k1⟩ := r.get q1
 obtain ⟨u', p2, k2⟩ := r'.get q2
 have z1 : its.toArray[j] = u := by
  have := List.getElem?_eq_some_iff.mp p1
  obtain ⟨_, e⟩ := this
  simpa using e
 have z2 : its'.toArray[j] = u' := by
  have := List.getElem?_eq_some_iff.mp p2
  obtain ⟨_, e⟩ := this
  simpa using e
 rw [z1, z2]
 exact ih _ _ v v' u u' A hu (nZ f e1) (nZ g e2) i1 i2 k1 k2
open PySem.SeqAt in
theorem aIC (I : Inv X pins σ H s) {n : Nat}
  (ih : ∀ (d e : Dv) (v v' : V) (u u' : Value) (A : Around), A.units + n < cLine → bB n d = true → bB n e = true → Is H d v → Is H e v' → bN v u → bN v' u' → EqAt A s u u' (deq d e))
  (d e : Dv) (v v' : V) (u u' : Value) (A : Around) (hu : A.units + (n + 1) < cLine) (f : bB (n + 1) d = true) (g : bB (n + 1) e = true) (h : Is H d v) (h' : Is H e v') (r : bN v u) (r' : bN v' u') :
  RcAt A s u u' (deq d e) ∧ RcNeAt A s u u' (!deq d e) := by
 have hu0 : A.units < cLine := by omega
 have hu1 : A.in1.units + n < cLine := by show A.units + 1 + n < cLine; omega
 have w := Is.view I f h r
 have w' := Is.view I g h' r'
 cases w with
 | non =>
  cases w' with
  | non => exact ⟨RcAt.none_none, RcNeAt.none_none⟩
  | bl b => exact ⟨RcAt.none_bool _, RcNeAt.none_bool _⟩
  | int b t => exact ⟨RcAt.none_int _ _, RcNeAt.none_int _ _⟩
  | str b t => exact ⟨RcAt.none_str _ _, RcNeAt.none_str _ _⟩
  | lst hl _ _ => exact ⟨RcAt.none_list hl hu0, RcNeAt.none_list hl hu0⟩
  | tup hl _ _ => exact ⟨RcAt.none_tuple hl hu0, RcNeAt.none_tuple hl hu0⟩
 | bl a =>
  cases w' with
  | non => exact ⟨RcAt.bool_none _, RcNeAt.bool_none _⟩
  | bl b => exact ⟨RcAt.bool_bool _ _, RcNeAt.bool_bool _ _⟩
  | int b t => exact ⟨RcAt.bool_int _ _ _, RcNeAt.bool_int _ _ _⟩
  | str b t => exact ⟨RcAt.bool_str _ _ _, RcNeAt.bool_str _ _ _⟩
  | lst hl _ _ => exact ⟨RcAt.bool_list _ hl hu0, RcNeAt.bool_list _ hl hu0⟩
  | tup hl _ _ => exact ⟨RcAt.bool_tuple _ hl hu0, RcNeAt.bool_tuple _ hl hu0⟩
 | int a t =>
  cases w' with
  | non => exact ⟨RcAt.int_none _ _, RcNeAt.int_none _ _⟩
  | bl b => exact ⟨RcAt.int_bool _ _ _, RcNeAt.int_bool _ _ _⟩
  | int b t => exact ⟨RcAt.int_int _ _ _ _, RcNeAt.int_int _ _ _ _⟩
  | str b t => exact ⟨RcAt.int_str _ _ _ _, RcNeAt.int_str _ _ _ _⟩
  | lst hl _ _ => exact ⟨RcAt.int_list _ _ hl hu0, RcNeAt.int_list _ _ hl hu0⟩
  | tup hl _ _ => exact ⟨RcAt.int_tuple _ _ hl hu0, RcNeAt.int_tuple _ _ hl hu0⟩
 | str a t =>
  cases w' with
  | non => exact ⟨RcAt.str_none _ _, RcNeAt.str_none _ _⟩
  | bl b => exact ⟨RcAt.str_bool _ _ _, RcNeAt.str_bool _ _ _⟩
  | int b t => exact ⟨RcAt.str_int _ _ _ _, RcNeAt.str_int _ _ _ _⟩
  | str b t => exact ⟨RcAt.str_str _ _ _ _, RcNeAt.str_str _ _ _ _⟩
  | lst hl _ _ => exact ⟨RcAt.str_list _ _ hl hu0, RcNeAt.str_list _ _ hl hu0⟩
  | tup hl _ _ => exact ⟨RcAt.str_tuple _ _ hl hu0, RcNeAt.str_tuple _ _ hl hu0⟩
 | @lst ds l its vs hl rv hi =>
  cases w' with
  | non => exact ⟨RcAt.list_none hl hu0, RcNeAt.list_none hl hu0⟩
  | bl b => exact ⟨RcAt.list_bool _ hl hu0, RcNeAt.list_bool _ hl hu0⟩
  | int b t => exact ⟨RcAt.list_int _ _ hl hu0, RcNeAt.list_int _ _ hl hu0⟩
  | str b t => exact ⟨RcAt.list_str _ _ hl hu0, RcNeAt.list_str _ _ hl hu0⟩
  | @lst es l' its' vs' hl' rv' hi' =>
   have f' : cY n ds = true := by simpa [bB] using f
   have g' : cY n es = true := by simpa [bB] using g
   have l1 := rv.length
   have l2 := rv'.length
   have l3 := hi.length
   have l4 := hi'.length
   by_cases hq : ds.length = es.length
   ·have hsz : its.toArray.size = its'.toArray.size := by rw [List.size_toArray, List.size_toArray]; omega
    have key : (List.range its.toArray.size).all (fun j => deq (ds.getD j .non) (es.getD j .non)) = deq (.lst ds) (.lst es) := by
     rw [List.size_toArray, show its.length = ds.length by omega]
     exact pP ds es hq
    rw [← key]
    exact ⟨RcAt.lists hl hl' hsz hu0 (lR hu1 ih f' g' hi hi' rv rv'), RcNeAt.lists hl hl' hsz hu0 (lR hu1 ih f' g' hi hi' rv rv')⟩
   ·have key : deq (.lst ds) (.lst es) = false := vE ds es hq
    have hsz : (its.toArray.size != its'.toArray.size) = true := by
     rw [List.size_toArray, List.size_toArray, bne_iff_ne]; omega
    rw [key]
    exact ⟨RcAt.lists_lengths hl hl' hsz hu0, RcNeAt.lists_lengths hl hl' hsz hu0⟩
  | tup hl' _ _ => exact ⟨RcAt.list_tuple hl hl' hu0, RcNeAt.list_tuple hl hl' hu0⟩
 | @tup ds l its vs hl rv hi =>
  cases w' with
  | non => exact ⟨RcAt.tuple_none hl hu0, RcNeAt.tuple_none hl hu0⟩
  | bl b => exact ⟨RcAt.tuple_bool _ hl hu0, RcNeAt.tuple_bool _ hl hu0⟩
  | int b t => exact ⟨RcAt.tuple_int _ _ hl hu0, RcNeAt.tuple_int _ _ hl hu0⟩
  | str b t => exact ⟨RcAt.tuple_str _ _ hl hu0, RcNeAt.tuple_str _ _ hl hu0⟩
  | lst hl' _ _ => exact ⟨RcAt.tuple_list hl hl' hu0, RcNeAt.tuple_list hl hl' hu0⟩
  | @tup es l' its' vs' hl' rv' hi' =>
   have f' : cY n ds = true := by simpa [bB] using f
   have g' : cY n es = true := by simpa [bB] using g
   have l1 := rv.length
   have l2 := rv'.length
   have l3 := hi.length
   have l4 := hi'.length
   have key : ((List.range (min its.toArray.size its'.toArray.size)).all (fun j => deq (ds.getD j .non) (es.getD j .non)) && its.toArray.size == its'.toArray.size) = deq (.tup ds) (.tup es) := by
    rw [List.size_toArray, List.size_toArray, show its.length = ds.length by omega, show its'.length = es.length by omega]
    show _ = wC ds es
    by_cases hq : ds.length = es.length
    ·rw [← hq, Nat.min_self, pP ds es hq]
     simp
    ·rw [vE ds es hq, beq_eq_false_iff_ne.mpr hq]
     simp
   rw [← key]
   exact ⟨RcAt.tuples hl hl' hu0 (lR hu1 ih f' g' hi hi' rv rv'), RcNeAt.tuples hl hl' hu0 (lR hu1 ih f' g' hi hi' rv rv')⟩
open PySem.SeqAt in
theorem Is.eqAt (I : Inv X pins σ H s) : ∀ (n : Nat) (d e : Dv) (v v' : V) (u u' : Value) (A : Around), A.units + n < cLine → bB n d = true → bB n e = true → Is H d v → Is H e v' → bN v u → bN v' u' → EqAt A s u u' (deq d e) := by
 intro n
 induction n with
 | zero =>
  intro d e v v' u u' A hu f g h h' r r'
  cases d with
  | lst _ => simp [bB] at f
  | tup _ => simp [bB] at f
  | dct _ _ => simp [bB] at f
  | non =>
   cases e with
   | lst _ => simp [bB] at g
   | tup _ => simp [bB] at g
   | dct _ _ => simp [bB] at g
   | _ => cases h; cases h'; exact lU r r' rfl rfl
  | bl b =>
   cases e with
   | lst _ => simp [bB] at g
   | tup _ => simp [bB] at g
   | dct _ _ => simp [bB] at g
   | _ => cases h; cases h'; exact lU r r' rfl rfl
  | int b =>
   cases e with
   | lst _ => simp [bB] at g
   | tup _ => simp [bB] at g
   | dct _ _ => simp [bB] at g
   | _ => cases h; cases h'; exact lU r r' rfl rfl
  | str b =>
   cases e with
   | lst _ => simp [bB] at g
   | tup _ => simp [bB] at g
   | dct _ _ => simp [bB] at g
   | _ => cases h; cases h'; exact lU r r' rfl rfl
 | succ n ih =>
  intro d e v v' u u' A hu f g h h' r r'
  have rc := (aIC I ih d e v v' u u' A hu f g h h' r r').1
  have w := Is.view I f h r
  have w' := Is.view I g h' r'
  have fin : ∀ (l l' : Addr), u = .ref l → u' = .ref l' → EqAt A s u u' (deq d e) := by
   rintro l l' rfl rfl
   by_cases hq : l = l'
   ·subst hq
    have e1 : v = .ref l := r.inj (show bN (.ref l) (.ref l) from rfl)
    have e2 : v' = .ref l := r'.inj (show bN (.ref l) (.ref l) from rfl)
    subst e1 e2
    have e3 := Is.inj d e _ h h' ⟨_, f⟩ ⟨_, g⟩
    subst e3
    rw [jX _ d f]
    exact EqAt.same _
   ·exact EqAt.of_refs hq rc
  cases w with
  | lst hl _ _ =>
   cases w' with
   | lst hl' _ _ => exact fin _ _ rfl rfl
   | tup hl' _ _ => exact fin _ _ rfl rfl
   | non => exact EqAt.list_none hl (by omega)
   | bl b => exact EqAt.list_bool _ hl (by omega)
   | int b t => exact EqAt.list_int _ _ hl (by omega)
   | str b t => exact EqAt.list_str _ _ hl (by omega)
  | tup hl _ _ =>
   cases w' with
   | lst hl' _ _ => exact fin _ _ rfl rfl
   | tup hl' _ _ => exact fin _ _ rfl rfl
   | non => exact EqAt.tuple_none hl (by omega)
   | bl b => exact EqAt.tuple_bool _ hl (by omega)
   | int b t => exact EqAt.tuple_int _ _ hl (by omega)
   | str b t => exact EqAt.tuple_str _ _ hl (by omega)
  | non =>
   cases w' with
   | lst hl' _ _ => exact EqAt.none_list hl' (by omega)
   | tup hl' _ _ => exact EqAt.none_tuple hl' (by omega)
   | _ => cases h; cases h'; exact lU r r' rfl rfl
  | bl b =>
   cases w' with
   | lst hl' _ _ => exact EqAt.bool_list _ hl' (by omega)
   | tup hl' _ _ => exact EqAt.bool_tuple _ hl' (by omega)
   | _ => cases h; cases h'; exact lU r r' rfl rfl
  | int b t =>
   cases w' with
   | lst hl' _ _ => exact EqAt.int_list _ _ hl' (by omega)
   | tup hl' _ _ => exact EqAt.int_tuple _ _ hl' (by omega)
   | _ => cases h; cases h'; exact lU r r' rfl rfl
  | str b t =>
   cases w' with
   | lst hl' _ _ => exact EqAt.str_list _ _ hl' (by omega)
   | tup hl' _ _ => exact EqAt.str_tuple _ _ hl' (by omega)
   | _ => cases h; cases h'; exact lU r r' rfl rfl
end
def aOU (neg : Bool) : R2 := fun x y H Q => ∃ d e, Is H d x ∧ Is H e y ∧ bB 30 d = true ∧ bB 30 e = true ∧ Q (.bl (if neg then !deq d e else deq d e)) H
theorem yO {X : Cx} (hu : X.A.units + 64 < cLine) : OpR X (compareOp .Eq) (aOU false) := by
 intro pins s σ H x y v u Q I rx ry h
 obtain ⟨d, e, h, h', f, g, q⟩ := h
 exact (aIC (n := 29) I (Is.eqAt I 29) d e x y v u X.A (by omega) f g h h' rx ry).1 _ _ _ _ ⟨.bl _, H, I, rfl, q⟩
theorem aDC {X : Cx} (hu : X.A.units + 64 < cLine) : OpR X (compareOp .NotEq) (aOU true) := by
 intro pins s σ H x y v u Q I rx ry h
 obtain ⟨d, e, h, h', f, g, q⟩ := h
 exact (aIC (n := 29) I (Is.eqAt I 29) d e x y v u X.A (by omega) f g h h' rx ry).2 _ _ _ _ ⟨.bl _, H, I, rfl, q⟩
end L2
namespace L2
open PySem PySem.Spec PyProof.Rows
instance keyMem (k : Key) (l : List Key) : Decidable (k ∈ l) := decidable_of_iff (l.any (fun x => decide (x = k)) = true) (by simp)
def eA (key : Nat → Key) : Nat → List Key
 | 0 => []
 | i + 1 => if key i ∈ eA key i then eA key i else eA key i ++ [key i]
theorem tH (key : Nat → Key) : ∀ i, (eA key i).length ≤ i
 | 0 => Nat.le_refl _
 | i + 1 => by
  have ih := tH key i
  show (if key i ∈ eA key i then eA key i else eA key i ++ [key i]).length ≤ i + 1
  split
  ·omega
  ·rw [List.length_append, List.length_singleton]; omega
theorem aBE (key : Nat → Key) (k : Key) : ∀ i, k ∈ eA key i ↔ ∃ j, j < i ∧ key j = k
 | 0 => by
  constructor
  ·intro h; cases h
  ·rintro ⟨j, h, _⟩; omega
 | i + 1 => by
  have ih := aBE key k i
  show k ∈ (if key i ∈ eA key i then eA key i else eA key i ++ [key i]) ↔ _
  have step : (k ∈ eA key i ∨ k = key i) ↔ ∃ j, j < i + 1 ∧ key j = k := by
   rw [ih]
   constructor
   ·rintro (⟨j, h, e⟩ | e)
    ·exact ⟨j, by omega, e⟩
    ·exact ⟨i, by omega, e.symm⟩
   ·rintro ⟨j, h, e⟩
    by_cases hj : j = i
    ·subst hj; exact .inr e.symm
    ·exact .inl ⟨j, by omega, e⟩
  rw [← step]
  split
  ·rename_i h
   constructor
   ·exact .inl
   ·rintro (h' | rfl)
    ·exact h'
    ·exact h
  ·rw [List.mem_append, List.mem_singleton]
theorem wU (key : Nat → Key) : ∀ n, (eA key n).length = n ↔ ∀ i j, i < j → j < n → key i ≠ key j
 | 0 => ⟨fun _ i j _ h => absurd h (Nat.not_lt_zero _), fun _ => rfl⟩
 | n + 1 => by
  have ih := wU key n
  have le := tH key n
  have mm := aBE key (key n) n
  show (if key n ∈ eA key n then eA key n else eA key n ++ [key n]).length = n + 1 ↔ _
  split
  ·rename_i h
   constructor
   ·intro e; omega
   ·intro e
    obtain ⟨j, hj, q⟩ := mm.mp h
    exact absurd q (e j n hj (Nat.lt_succ_self n))
  ·rename_i h
   rw [List.length_append, List.length_singleton, Nat.add_right_cancel_iff, ih]
   constructor
   ·intro e i j hi hj
    by_cases q : j = n
    ·subst q
     exact fun z => h (mm.mpr ⟨i, hi, z⟩)
    ·exact e i j hi (by omega)
   ·intro e i j hi hj
    exact e i j hi (by omega)
def vF (ks : List Key) : List Key := eA (fun i => ks.getD i (.inl 0)) ks.length
theorem xD (ks : List Key) : (vF ks).length = ks.length ↔ ks.Nodup := by
 unfold vF
 rw [wU, List.nodup_iff_pairwise_ne, List.pairwise_iff_getElem]
 constructor
 ·intro h i j hi hj hij
  have := h i j hij hj
  simpa [List.getD_eq_getElem?_getD, hi, hj] using this
 ·intro h i j hij hj
  have hi : i < ks.length := by omega
  have := h i j hi hj hij
  simpa [List.getD_eq_getElem?_getD, hi, hj] using this
theorem aFH (ks : List Key) : (vF ks).length ≤ ks.length := tH _ _
def aGY (P : Program) (w : World) (a : Addr) (S : Key → Bool) (n : Nat) : HO := .ext fun h => h.SetOf (aZ P w) a S n
theorem aGY.ok {P : Program} {w : World} {H : Hp} {h : Heap} {a : Addr} {S : Key → Bool} {n : Nat} (x : h.SetOf (aZ P w) a S n) : cU P w H h a (aGY P w a S n) :=
 ⟨x, let ⟨o, _, _, _, ho, _⟩ := x; ⟨o, ho⟩, fun _ _ ⟨o, es, ep, t, ho, r⟩ k => ⟨o, es, ep, t, k o ho, r⟩⟩
theorem aIZ {P : Program} {w : World} {k : Key} {v : Value} (h : (aZ P w).is k v = true) : v.scannable = true := by
 rcases cX h with ⟨i, t, rfl, rfl⟩ | ⟨x, t, rfl, rfl⟩ <;> rfl
section
variable {P : Program} {w : World} {A : Around} {R : Result → Shared → Prop} {I : Addr} {fp wr : List Addr} {G : Array GenState → Array GenState → Prop} {n : Nat} {Pv : Nat → Value → Prop} {Stt : Nat → Shared → Prop}
theorem aCP {h : Heap} {a : Addr} {S S' : Key → Bool} {n n' : Nat} (x : h.SetOf (aZ P w) a S n) (e : ∀ k, S k = S' k) (q : n = n') : h.SetOf (aZ P w) a S' n' := by
 obtain rfl : S = S' := funext e
 subst q
 exact x
theorem aHX (W : WalksS P w A.in1 I fp wr G n Pv Stt) (D : Addr) (hD : D ∉ fp) (key : Nat → Key) (hv : ∀ i v, Pv i v → (aZ P w).is (key i) v = true) (hb : n + 1 < scanBound) (fin : ∀ s s', Moved (D :: wr) G s s' → s'.heap.SetOf (aZ P w) D (fun k => decide (k ∈ eA key n)) (eA key n).length → True) :
  ∀ (m i : Nat) (s : Shared), n - i = m → i ≤ n → Stt i s → s.heap.SetOf (aZ P w) D (fun k => decide (k ∈ eA key i)) (eA key i).length →
   (∀ s', Moved (D :: wr) G s s' → s'.heap.SetOf (aZ P w) D (fun k => decide (k ∈ eA key n)) (eA key n).length → R (.ok (.ret .none)) s') →
   codeAny (model P w) A (.builtin "set.update.loop" ⟨[.ref D, .ref I], []⟩) R s := by
 have hDw : D ∉ wr := fun z => hD (W.sub _ z)
 have sub : ∀ b ∈ wr, b ∈ D :: wr := fun b z => List.mem_cons_of_mem _ z
 have moved : ∀ {s s' : Shared} {S : Key → Bool} {c : Nat}, Moved wr G s s' → s.heap.SetOf (aZ P w) D S c → s'.heap.SetOf (aZ P w) D S c := fun mv ⟨o, es, ep, t, ho, r⟩ => ⟨o, es, ep, t, mv.heap D _ hDw ho, r⟩
 intro m
 induction m with
 | zero =>
  intro i s e1 e2 st hS hR
  obtain rfl : i = n := by omega
  refine codeAny_builtin PyProof.Rows.F.entry_set_update_loop ?_
  rw [Around.under_plainId PyProof.Rows.F.plain_set_update_loop _]
  show wpAny _ A.in1 (pyNext (.ref I) >>= _) _ _ s
  refine wpAny_bind (W.done s _ _ st fun s' mv => ?_)
  exact wpAny_pure (hR s' (mv.mono sub) (moved mv hS))
 | succ m ih =>
  intro i s e1 e2 st hS hR
  have lt : i < n := by omega
  refine codeAny_builtin PyProof.Rows.F.entry_set_update_loop ?_
  rw [Around.under_plainId PyProof.Rows.F.plain_set_update_loop _]
  show wpAny _ A.in1 (pyNext (.ref I) >>= _) _ _ s
  refine wpAny_bind (W.item i s _ _ lt st fun v s' pv st' mv => ?_)
  have hk := hv i v pv
  have hS1 := moved mv hS
  show wpAny _ A.in1 (holding [v] (setAdd D v) >>= _) _ _ s'
  refine wpAny_bind (wpAny_holding ?_)
  unfold setAdd
  refine wpAny_holding (wpAny_bind ((aZ P w).pyHash (k := key i) hk ?_))
  have room : (eA key i).length + 1 < scanBound := by have := tH key i; omega
  refine wpAny_setAddHashed_of (knd := aZ P w) (s := { s' with toks := s'.toks + 1 }) hk (aIZ hk) hS1 room fun h' sb hS2 => ?_
  have hS3 : h'.SetOf (aZ P w) D (fun k => decide (k ∈ eA key (i + 1))) (eA key (i + 1)).length := by
   refine aCP hS2 (fun k => ?_) ?_
   ·show (decide (k ∈ eA key i) || decide (k = key i)) = decide (k ∈ if key i ∈ eA key i then eA key i else eA key i ++ [key i])
    by_cases z : key i ∈ eA key i
    ·rw [if_pos z]
     by_cases y : k = key i
     ·subst y; simp [z]
     ·simp [y]
    ·rw [if_neg z]
     simp
   ·show (if decide (key i ∈ eA key i) = true then (eA key i).length else (eA key i).length + 1) = (if key i ∈ eA key i then eA key i else eA key i ++ [key i]).length
    by_cases z : key i ∈ eA key i
    ·rw [if_pos z, if_pos (decide_eq_true z)]
    ·rw [if_neg z, if_neg (by simpa using z)]
     simp
  refine wpAny_pure ⟨plainId_quiet PyProof.Rows.F.plain_set_update_loop _, ih (i + 1) _ (by omega) lt (W.frame _ s' _ _ st' (Nat.le_succ _) fun b hb o e => ?_) hS3 fun s2 mv2 hS4 => ?_⟩
  ·rw [sb.2 b (fun z : b = D => hD (by rw [← z]; exact hb))]
   exact e
  ·refine hR s2 (Moved.trans W.gtrans ((mv.mono sub).then_heap (Nat.le_succ _) fun b o hb e => ?_) mv2) hS4
   rw [sb.2 b (fun z : b = D => hb (by rw [z]; exact List.mem_cons_self))]
   exact e
end
section
variable {P : Program} {w : World} {A : Around} {E : Value → Shared → Prop} {s : Shared}
abbrev uN (led : Bool) : Obj := { cls := .type "set", dict := none, data := .set #[] 0 (.fresh 0 0 led) }
set_option maxHeartbeats 8000000 in
theorem aAK {l : Addr} {its : List Value} {ks : List Key} {Q : Value → Shared → Prop} (hh : A.handled = none) (hl : s.heap.IsList l its.toArray) (hk : ∀ i v, its[i]? = some v → (aZ P w).is (ks.getD i (.inl 0)) v = true) (hn : its.length = ks.length) (hb : its.length + 1 < scanBound)
  (h : ∀ (h' : Heap) (tk : Nat), h'.SetOf (aZ P w) s.heap.objs.size (fun k => decide (k ∈ vF ks)) (vF ks).length → (∀ b o, s.heap.get? b = some o → h'.get? b = some o) → Q (.ref s.heap.objs.size) { s with heap := h', toks := tk }) :
  wpAny (model P w) A (call (.type "set") [.ref l]) Q E s := by
 obtain ⟨c, tl, hmro⟩ := PySem.F.called_set.mro
 have m1 := PySem.F.called_set.made
 have m2 := PySem.F.called_set.sub
 refine wpAny_call (codeAny_of_tree ?_)
 show wpAny _ _ (callAny (.type "set") _) _ _ _
 refine wpAny_pure ⟨Code.quiet_builtin _ (by decide +kernel), codeAny_builtin PySem.F.entry_type_call ?_⟩
 rw [Around.under_plain (weight_type_call_type "set" [.ref l] []) rfl]
 have m3 := PySem.F.called_set.notType
 have m4 := PySem.F.called_set.canCreate
 have m5 := PySem.F.typeCall_set_1 (.ref l)
 repeat (any_goals (first | assumption | wp_step))
 refine codeAny_mono (code_set_new_1 (.ref l) (E := E) (Q₁ := fun ob s1 => ∃ led : Bool, ob = .ref s.heap.objs.size ∧ s1 = { s with heap := s.heap.push (uN led) }) fun led => ⟨led, rfl, rfl⟩) fun r s1 hr => ?_
 cases r with
 | error e => exact hr
 | ok fl =>
  cases fl with
  | ret ob =>
   obtain ⟨led, rfl, rfl⟩ := hr
   have hS : (s.heap.push (uN led)).get? s.heap.objs.size = some (uN led) := Heap.get?_push_size _ rfl
   have hT : Shared.TypeIs { s with heap := s.heap.push (uN led) } (.ref s.heap.objs.size) "set" := ⟨_, hS, rfl⟩
   have m6 := PySem.F.called_set.init.lookup
   have m7 := PySem.F.called_set.init.bind (.ref s.heap.objs.size)
   repeat (any_goals (first | assumption | wp_step))
   refine codeAny_mono (codeAny_call_builtin (R := wants (fun r s2 => r = .none ∧ ∃ h' tk, s2 = { s with heap := h', toks := tk } ∧ h'.SetOf (aZ P w) s.heap.objs.size (fun k => decide (k ∈ vF ks)) (vF ks).length ∧ (∀ b o, s.heap.get? b = some o → h'.get? b = some o)) E)
    PySem.F.called_set.init.plain PySem.F.entry_set_init (check_set_init_1 hT ?_)) fun r2 s2 hr2 => ?_
   ·obtain ⟨⟨oc, od, oda, osl⟩, hol, hcl, nl, hdl⟩ := hl
    simp only at hcl hdl
    subst hcl hdl
    have hol1 : (s.heap.push (uN led)).get? l = some { cls := .type "list", dict := od, data := .seq its.toArray nl, slots := osl } := Heap.get?_push_of_some _ hol
    have m8 := PySem.F.sub_list_set
    have m9 := PySem.F.sub_list_frozenset
    have m10 : (Value.type "list" == Value.type "dict") = false := by decide
    have hl1 : (s.heap.push (uN led)).IsList l its.toArray := ⟨_, hol1, rfl, nl, rfl⟩
    have lS : l < s.heap.objs.size := Heap.lt_size hol
    unfold Builtin.«set.__init__» noKeywords Builtin.Frozenset.updateFrom
    generalize hPI : pyIter = PI
    wp_walk
    subst hPI
    refine wpAny_pyIter_list hl1 (wpAny_bind (wpAny_runValue ?_))
    have hh3 : A.in1.in1.in1.handled = none := by simp [hh]
    have nI : l ≠ (s.heap.push (uN led)).objs.size := by rw [Heap.size_push]; exact Nat.ne_of_lt (Nat.lt_succ_of_lt lS)
    have nS : s.heap.objs.size ∉ [(s.heap.push (uN led)).objs.size, l] := by
     rw [Heap.size_push]
     simp only [List.mem_cons, List.mem_singleton, List.not_mem_nil, or_false, not_or]
     exact ⟨Nat.ne_of_lt (Nat.lt_succ_self _), Nat.ne_of_gt lS⟩
    have sz : its.toArray.size = ks.length := by rw [List.size_toArray, hn]
    refine aHX ((Walks.list hh3 _ l nI its.toArray).toS) s.heap.objs.size nS (fun i => ks.getD i (.inl 0)) (fun i v pv => hk i v (by simpa using pv)) (by rw [List.size_toArray]; exact hb) (fun _ _ _ _ => trivial) (its.toArray.size - 0) 0 _ (by omega) (Nat.zero_le _)
     ⟨⟨_, Heap.get?_push_size _ rfl, rfl, rfl⟩, (hl1.push _)⟩ ?_ ?_
    ·have g : ((s.heap.push (uN led)).push { cls := .type "list_iterator", data := .fields #[.ref l, .int 0 0] }).get? s.heap.objs.size = some (uN led) := Heap.get?_push_of_some _ hS
     exact ⟨_, #[], 0, _, g, ⟨rfl, rfl, rfl⟩, rfl, fun e he => by simp at he, fun k => by simp [eA], by decide, by rfl, rfl⟩
    ·intro s3 mv hS3
     obtain ⟨h3, g3, d3, t3, o3⟩ := s3
     have e1 : g3 = s.gens := mv.gens
     have e2 : d3 = s.drawn := mv.drawn
     have e3 : o3 = s.os := mv.os
     subst e1 e2 e3
     rw [sz] at hS3
     show wpAny _ _ _ _ _ _
     refine wpAny_pure ?_
     show wpAny _ _ (ret Value.none) _ _ _
     refine wpAny_pure ⟨rfl, h3, t3, rfl, hS3, fun b o e => ?_⟩
     have lb := Heap.lt_size e
     have b1 : b ≠ s.heap.objs.size := Nat.ne_of_lt lb
     have b2 : b ≠ (s.heap.push (uN led)).objs.size := by rw [Heap.size_push]; exact Nat.ne_of_lt (Nat.lt_succ_of_lt lb)
     exact mv.heap b o (by simp only [List.mem_cons, List.mem_singleton, List.not_mem_nil, or_false, not_or]; exact ⟨b1, b2⟩) (Heap.get?_push_of_some _ (Heap.get?_push_of_some _ e))
   ·cases r2 with
    | error e => exact hr2
    | ok f2 =>
     cases f2 with
     | ret r =>
      obtain ⟨rfl, h', tk, rfl, hS2, hk2⟩ := hr2
      repeat (any_goals (first | assumption | wp_step))
      exact h _ _ hS2 hk2
     | _ => exact hr2.elim
  | _ => exact hr.elim
end
section
variable {X : Cx}
theorem aFB {P : Program} {w : World} : ∀ {ks : List Key} {us : List Value}, bO (ks.map kV) us → ∀ i v, us[i]? = some v → (aZ P w).is (ks.getD i (.inl 0)) v = true
 | [], us, r, i, v, e => by
  rw [List.map_nil] at r
  cases r
  simp at e
 | k :: ks, us, r, i, v, e => by
  rw [List.map_cons] at r
  cases r with
  | cons r1 r2 =>
   cases i with
   | zero =>
    simp at e
    subst e
    cases k with
    | inl z => obtain ⟨t, rfl⟩ := r1; exact rG z t
    | inr z => obtain ⟨t, rfl⟩ := r1; exact rF z t
   | succ i =>
    have := aFB (P := P) (w := w) r2 i v (by simpa using e)
    simpa using this
theorem pI (hc : X.calm = true) : gJ X (.type "set") (fun xs H Q => ∃ (p : Addr) (ks : List Key), xs = [.ref p] ∧ SqL X.K H p (ks.map kV) ∧ ks.length ≤ 1000 ∧
  ∀ l, H l = none → Q (.ref l) (upd H l (aGY X.prog X.w l (fun k => decide (k ∈ vF ks)) (vF ks).length))) := by
 intro pins s σ H xs us Q I r h
 obtain ⟨p, ks, rfl, hq, hn, q⟩ := h
 obtain ⟨u, rfl, ru⟩ := bO.one r
 cases ru
 obtain ⟨its, rv, pl, hz⟩ := I.list hq
 have hlen := rv.length
 rw [List.length_map] at hlen
 refine aAK (ks := ks) (I.ok.hd hc) pl.isList (aFB rv) hlen.symm (by unfold scanBound; omega) fun h' tk hS hk => ?_
 exact ⟨.ref s.heap.objs.size, _, I.laid (t' := tk) hk (Nat.le_refl _) (aGY.ok hS), rfl, q _ (I.hok.fresh (Nat.le_refl _))⟩
theorem call_len_set : gJ X (.builtin "len") (fun xs H Q => ∃ l S n, xs = [.ref l] ∧ H l = some (aGY X.prog X.w l S n) ∧ n ≤ 1000 ∧ Q (.int n) H) := by
 intro pins s σ H xs us Q I r h
 obtain ⟨l, S, n, rfl, e, hn, q⟩ := h
 obtain ⟨u, rfl, ru⟩ := bO.one r
 cases ru
 obtain ⟨⟨o, es, ep, t, ho, hex, hd, hel, hmem, hb, hf, hes⟩, _⟩ := I.hok l _ e
 refine PySem.call_len_set ho hex hd hf (by rw [hes]; omega) ⟨.int n, H, I.tok _, ⟨s.toks + 1, by rw [hes]⟩, q⟩
end
end L2
namespace L2
open PySem PySem.Spec PyProof.Rows
section
variable {X : Cx}
theorem wW {k : Key} {v : Value} (h : uS k v = true) : bN (kV k) v := by
 rcases cX h with ⟨i, t, rfl, rfl⟩ | ⟨x, t, rfl, rfl⟩
 ·exact ⟨t, rfl⟩
 ·exact ⟨t, rfl⟩
theorem sU : ∀ {xs : List V} {us : List Value}, us.length = xs.length → (∀ (j : Nat) (u : Value) (x : V), us[j]? = some u → xs[j]? = some x → bN x u) → bO xs us
 | [], [], _, _ => .nil
 | x :: xs, u :: us, hl, h => .cons (h 0 u x rfl rfl) (sU (by simpa using hl) fun j v y e1 e2 => h (j + 1) v y (by simpa using e1) (by simpa using e2))
 | [], _ :: _, hl, _ => by simp at hl
 | _ :: _, [], hl, _ => by simp at hl
theorem KV.get : ∀ {kvs : List (Key × V)} {vs : List (Key × Value)} {i : Nat} {p : Key × Value}, KV kvs vs → vs[i]? = some p → ∃ q, kvs[i]? = some q ∧ q.1 = p.1 ∧ bN q.2 p.2
 | _, _, _, _, .nil, e => by simp at e
 | _, _, 0, _, .cons r _, e => by simp at e; subst e; exact ⟨_, rfl, r.1, r.2⟩
 | _, _, i + 1, p, .cons _ t, e => by
  obtain ⟨q, h1, h2⟩ := KV.get (i := i) (p := p) t (by simpa using e)
  exact ⟨q, by simpa using h1, h2⟩
theorem oB (hc : X.calm = true) : gJ X (.type "list") (fun xs H Q => ∃ p kvs, xs = [.ref p] ∧ Rd H p (.dK kvs) ∧ ∀ l, H l = none → Q (.ref l) (upd H l (.lst (kvs.map fun kv => kV kv.1)))) := by
 intro pins s σ H xs us Q I r h
 obtain ⟨p, kvs, rfl, hq, q⟩ := h
 obtain ⟨u, rfl, ru⟩ := bO.one r
 cases ru
 obtain ⟨hz, lo, vs, kv, hD⟩ := hq.ok I.hok
 obtain ⟨ep, hat⟩ := hD.dictAt
 have hl := KV.length kv
 refine PySem.W.kdl_call (PySem.W.kdl_dict (knd := aZ X.prog X.w) (kvs := vs) (ep := ep) lo) (I.ok.hd hc) hat (by omega) fun h' tk acc c hk hg hi => ?_
 refine ⟨.ref s.heap.objs.size, _, I.laid (t' := tk) hk (Nat.le_refl _) (show cU X.prog X.w _ h' _ (.lst (kvs.map fun kv => kV kv.1)) from ⟨by rw [List.length_map]; exact hz, acc.toList, c, ?_, by simpa using hg⟩), rfl, q _ (I.hok.fresh (Nat.le_refl _))⟩
 refine sU (by rw [List.length_map, Array.length_toList, hi.1, hl]) fun j u x e1 e2 => ?_
 obtain ⟨k, y, e3, e4⟩ := hi.2 j u (by rw [← Array.getElem?_toList]; exact e1)
 obtain ⟨z, e5, e6, _⟩ := KV.get kv e3
 rw [List.getElem?_map, e5] at e2
 have e2' : kV z.1 = x := by simpa using e2
 subst e2'
 rw [show z.1 = k from e6]
 exact wW e4
def aBX (v d : Addr) : HO := .ext fun h => h.IsValuesView v d
theorem aBX.ok {P : Program} {w : World} {H : Hp} {h : Heap} {v d : Addr} (x : h.IsValuesView v d) : cU P w H h v (aBX v d) :=
 ⟨x, let ⟨o, ho, _⟩ := x; ⟨o, ho⟩, fun _ _ ⟨o, ho, r⟩ k => ⟨o, k o ho, r⟩⟩
theorem wT : MtR X "dict.values" (fun x vs H Q => ∃ d kvs, x = .ref d ∧ vs = [] ∧ Rd H d (.dK kvs) ∧ ∀ v, H v = none → Q (.ref v) (upd H v (aBX v d))) := by
 intro pins s σ H x vs v us Q I rx rv h
 obtain ⟨d, kvs, rfl, rfl, hq, q⟩ := h
 cases rx
 have hus := rv.zero
 subst hus
 obtain ⟨hz, lo, ws, kv, hD⟩ := hq.ok I.hok
 refine call_meetsIn PySem.F.slot_dict_values hD.typeIs PySem.F.entry_dict_values (PySem.F.args_dict_values_1 _) (meets_dict_values (aZ X.prog X.w) d lo) ⟨⟨ws, hD⟩, ?_⟩
 exact ⟨.ref s.heap.objs.size, _, I.laid (t' := s.toks) (fun b ob e => Heap.get?_push_of_some _ e) (Nat.le_refl _) (aBX.ok ⟨_, Heap.get?_push_size _ rfl, rfl, rfl⟩), rfl, q _ (I.hok.fresh (Nat.le_refl _))⟩
theorem lH (hc : X.calm = true) : gJ X (.type "list") (fun xs H Q => ∃ v d kvs, xs = [.ref v] ∧ H v = some (aBX v d) ∧ Rd H d (.dK kvs) ∧ ∀ l, H l = none → Q (.ref l) (upd H l (.lst (kvs.map (·.2))))) := by
 intro pins s σ H xs us Q I r h
 obtain ⟨v, d, kvs, rfl, ev, hq, q⟩ := h
 obtain ⟨u, rfl, ru⟩ := bO.one r
 cases ru
 obtain ⟨hz, lo, vs, kv, hD⟩ := hq.ok I.hok
 obtain ⟨hv, _⟩ := I.hok v _ ev
 obtain ⟨ep, hat⟩ := hD.dictAt
 have hl := KV.length kv
 refine PySem.W.kdl_call (PySem.W.kdl_values (knd := aZ X.prog X.w) (kvs := vs) (ep := ep)) (I.ok.hd hc) ⟨hv, hat⟩ (by omega) fun h' tk acc c hk hg hi => ?_
 refine ⟨.ref s.heap.objs.size, _, I.laid (t' := tk) hk (Nat.le_refl _) (show cU X.prog X.w _ h' _ (.lst (kvs.map (·.2))) from ⟨by rw [List.length_map]; exact hz, acc.toList, c, ?_, by simpa using hg⟩), rfl, q _ (I.hok.fresh (Nat.le_refl _))⟩
 refine sU (by rw [List.length_map, Array.length_toList, hi.1, hl]) fun j u x e1 e2 => ?_
 obtain ⟨k, e3⟩ := hi.2 j u (by rw [← Array.getElem?_toList]; exact e1)
 obtain ⟨z, e5, _, e6⟩ := KV.get kv e3
 rw [List.getElem?_map, e5] at e2
 have e2' : z.2 = x := by simpa using e2
 subst e2'
 exact e6
end
section
variable {X : Cx} {e se : Expr} {te ts : TE} {p2 pos : Pos}
end
end L2
namespace L2
open PySem PySem.Spec PyProof.Rows
theorem uP : typeLookup (.type "list") "keys" = pure none := by rw [typeLookup_type, builtinLookup_eq_fast]; kernel_rfl
section
variable {P : Program} {w : World} {A : Around} {E : Value → Shared → Prop} {s : Shared}
theorem yX {a : Addr} {xs : Array Value} {k : Nat} {sl : Array (Option Value)} {Q : Option Value → Shared → Prop} (hA : A.handled = none) (hx : s.heap.get? a = some { cls := .type "list", dict := none, data := .seq xs k, slots := sl })
  (h : ∀ h' tk, (∀ b o, s.heap.get? b = some o → h'.get? b = some o) → Q none { s with heap := h', toks := tk }) : wpAny (model P w) A (getAttr? (.ref a) "keys") Q E s := by
 obtain ⟨hp, g, d, tk, os⟩ := s
 have hT : ∀ tk', (⟨hp, g, d, tk', os⟩ : Shared).TypeIs (.ref a) "list" := fun _ => ⟨_, hx, rfl⟩
 have f1 := sub_AttributeError
 have f3 := F.slot_list_getattribute.lookup
 have f4 := F.slot_list_getattribute.bind (.ref a)
 have f5 := am_list_getattr_none
 unfold getAttr? getAttrBy? getAttrBy
 repeat (any_goals (first | assumption | exact hT _ | ((with_reducible show wpAny _ _ (call (Value.builtin "list.__getattribute__") _ _) _ _ _); refine call_meets F.slot_list_getattribute (hT _) am_entry_list_getattribute (F.args_list_getattribute_2 _ _) (meets_getattribute_miss_list a xs k sl "keys" _ uP (by decide +kernel)) ⟨hx, hA, fun h' tk' e hx' => ?_⟩) | wp_step))
 obtain ⟨t', u', he⟩ := hx'.there
 show wpAny _ _ (getattributeRaised _ _ _ _ _ _ _) _ _ _
 unfold getattributeRaised
 repeat (any_goals (first | assumption | wp_step))
 exact h _ _ hx'.keeps
end
theorem mP : entryFor table "dict.update.loop" = some Builtin.«dict.update.loop» := entryFor_of_tree (by kernel_rfl)
theorem gL : plainId "dict.update.loop" = true := by decide +kernel
section
variable {P : Program} {w : World} {A : Around} {R : Result → Shared → Prop} {I : Addr} {fp wr : List Addr} {G : Array GenState → Array GenState → Prop} {n : Nat} {Pv : Nat → Value → Prop} {Stt : Nat → Shared → Prop}
theorem aGR (W : WalksS P w A.in1 I fp wr G n Pv Stt) (D : Addr) (hD : D ∉ fp) (res : Value) (kvs : List (Key × Value)) (hn : kvs.length = n) (hz : n ≤ sizeLine) (s₀ : Shared)
  (hv : ∀ (i : Nat) (v : Value), Pv i v → ∃ (a : Addr) (k : Key) (kv x : Value) (ob : Obj) (c : Nat), v = .ref a ∧ a ∉ D :: wr ∧ s₀.heap.get? a = some ob ∧ ob.cls = .type "tuple" ∧ ob.data = .seq #[kv, x] c ∧ kvs[i]? = some (k, x) ∧ (aZ P w).is k kv = true) :
  ∀ (m i : Nat) (s : Shared), n - i = m → i ≤ n → Stt i s → (∀ b o, b ∉ D :: wr → s₀.heap.get? b = some o → s.heap.get? b = some o) → s.heap.DictOf (aZ P w) D (merged [] (kvs.take i)) →
   (∀ s', Moved (D :: wr) G s s' → s'.heap.DictOf (aZ P w) D (merged [] kvs) → R (.ok (.ret res)) s') →
   codeAny (model P w) A (.builtin "dict.update.loop" ⟨[.ref D, .ref I, rawInt i, res], []⟩) R s := by
 have hDw : D ∉ wr := fun z => hD (W.sub _ z)
 have sub : ∀ b ∈ wr, b ∈ D :: wr := fun b z => List.mem_cons_of_mem _ z
 have moved : ∀ {s s' : Shared} {l : List (Key × Value)}, Moved wr G s s' → s.heap.DictOf (aZ P w) D l → s'.heap.DictOf (aZ P w) D l := fun mv ⟨o, es, ep, ho, r⟩ => ⟨o, es, ep, mv.heap D _ hDw ho, r⟩
 intro m
 induction m with
 | zero =>
  intro i s e1 e2 st kp hS hR
  obtain rfl : i = n := by omega
  rw [List.take_of_length_le (by omega)] at hS
  refine codeAny_builtin mP ?_
  rw [Around.under_plainId gL _]
  show wpAny _ A.in1 (pyNext (.ref I) >>= _) _ _ s
  refine wpAny_bind (W.done s _ _ st fun s' mv => ?_)
  show wpAny _ A.in1 (Builtin.Dict.addKeywords D [] >>= _) _ _ s'
  refine wpAny_bind (wpAny_pure ?_)
  exact wpAny_pure (hR s' (mv.mono sub) (moved mv hS))
 | succ m ih =>
  intro i s e1 e2 st kp hS hR
  have lt : i < n := by omega
  refine codeAny_builtin mP ?_
  rw [Around.under_plainId gL _]
  show wpAny _ A.in1 (pyNext (.ref I) >>= _) _ _ s
  refine wpAny_bind (W.item i s _ _ lt st fun v s' pv st' mv => ?_)
  obtain ⟨a, k, kv, x, ob, c, rfl, ha, hg, hc, hd, hi, hk⟩ := hv i v pv
  have hS1 := moved mv hS
  have hg1 : s'.heap.get? a = some ob := mv.heap a ob (fun z => ha (sub a z)) (kp a ob ha hg)
  have hT : s'.TypeIs (.ref a) "tuple" := ⟨ob, hg1, hc⟩
  refine wpAny_bind (wpAny_holding (wpAny_bind (wpAny_tryCatch ?_)))
  unfold Builtin.Dict.pairItems
  refine wpAny_bind (wpAny_typeOf hT ?_)
  rw [if_pos (by decide)]
  refine wpAny_bind (wpAny_seqItems hg1 hd (wpAny_pure ?_))
  show wpAny _ _ (holding [kv, x] (dictSet D kv x)) _ _ s'
  refine wpAny_holding (wpAny_dictSet_pairs hk hS1 (fun h' hS2 sb => ?_) ?_)
  ·have e : merged [] (kvs.take (i + 1)) = stored (merged [] (kvs.take i)) k x := merged_take_succ [] kvs i (k, x) hi
   rw [← e] at hS2
   refine wpAny_pure ⟨plainId_quiet gL _, ih (i + 1) _ (by omega) lt (W.frame _ s' _ _ st' (Nat.le_succ _) fun b hb o e => ?_) (fun b o hb e => ?_) hS2 fun s2 mv2 hS4 => ?_⟩
   ·rw [sb.2 b (fun z : b = D => hD (by rw [← z]; exact hb))]
    exact e
   ·rw [sb.2 b (fun z : b = D => hb (by rw [z]; exact List.mem_cons_self))]
    exact mv.heap b o (fun z => hb (sub b z)) (kp b o hb e)
   ·refine hR s2 (Moved.trans W.gtrans ((mv.mono sub).then_heap (Nat.le_succ _) fun b o hb e => ?_) mv2) hS4
    rw [sb.2 b (fun z : b = D => hb (by rw [z]; exact List.mem_cons_self))]
    exact e
  ·have := merged_length_le ([] : List (Key × Value)) (kvs.take i)
   rw [List.length_take] at this
   simp only [List.length_nil] at this
   omega
end
section
variable {P : Program} {w : World} {A : Around} {E : Value → Shared → Prop} {s : Shared}
theorem wB {l : Addr} {its : List Value} {kvs : List (Key × Value)} {Q : Value → Shared → Prop} (hh : A.handled = none) (hl : PlainL s.heap l its.toArray) (hn : its.length = kvs.length) (hz : its.length ≤ sizeLine)
  (hv : ∀ (i : Nat) (v : Value), its[i]? = some v → ∃ (a : Addr) (k : Key) (kv x : Value) (ob : Obj) (c : Nat), v = .ref a ∧ s.heap.get? a = some ob ∧ ob.cls = .type "tuple" ∧ ob.data = .seq #[kv, x] c ∧ kvs[i]? = some (k, x) ∧ (aZ P w).is k kv = true)
  (h : ∀ (h' : Heap) (tk : Nat), h'.DictOf (aZ P w) s.heap.objs.size (merged [] kvs) → (∀ b o, s.heap.get? b = some o → h'.get? b = some o) → Q (.ref s.heap.objs.size) { s with heap := h', toks := tk }) :
  wpAny (model P w) A (call (.type "dict") [.ref l]) Q E s := by
 refine callType_codes (Q₁ := fun (obj : Value) (s₁ : Shared) => obj = Value.ref s.heap.objs.size ∧ s₁ = { s with heap := s.heap.push { cls := .type "dict", data := .dict #[] } }) F.kt_called_dict (F.kt_typeCall_dict_1 _) F.entry_dict_init (kt_code_dict_new _ ⟨rfl, rfl⟩) ?_
 rintro obj s₁ ⟨rfl, rfl⟩
 have hnew : (s.heap.push { cls := .type "dict", data := .dict #[] }).DictOf (aZ P w) s.heap.objs.size [] := Heap.DictOf.new s.heap
 obtain ⟨⟨oc, od, oda, osl⟩, nl, hol, hcl, hod, hdl⟩ := id hl
 simp only at hcl hod hdl
 subst hcl hod hdl
 have lS : l < s.heap.objs.size := Heap.lt_size hol
 have hol1 := Heap.get?_push_of_some (h := s.heap) { cls := .type "dict", data := .dict #[] } hol
 refine ⟨hnew.typeIs, F.args_dict_init_2 _ _, ?_⟩
 unfold Builtin.«dict.__init__»
 refine wpAny_bind ?_
 unfold Builtin.Dict.selfAndRest
 refine wpAny_bind (wpAny_notOrdered_dict hnew.typeIs ?_)
 show wpAny _ _ (pure (s.heap.objs.size, [Value.ref l])) _ _ _
 refine wpAny_pure ?_
 show wpAny _ _ (Builtin.Dict.updateFrom "dict.__init__" s.heap.objs.size (.ref l) [] .none) _ _ _
 unfold Builtin.Dict.updateFrom
 refine wpAny_bind (wpAny_typeOf (T := "list") ⟨_, hol1, rfl⟩ ?_)
 rw [if_pos (by decide)]
 refine wpAny_bind (yX (by simp [hh]) hol1 fun h1 t1 k1 => ?_)
 show wpAny _ _ (rule _ >>= _) _ _ _
 refine wpAny_bind (wpAny_rule ?_)
 have hol2 := k1 _ _ hol1
 have hl2 : h1.IsList l its.toArray := ⟨_, hol2, rfl, nl, rfl⟩
 refine wpAny_bind (wpAny_pyIter_list (s := { s with heap := h1, toks := t1 }) hl2 ?_)
 have sz1 : s.heap.objs.size < h1.objs.size := by
  obtain ⟨o, es, ep, ho, _⟩ := hnew
  exact Heap.lt_size (k1 _ _ ho)
 have nI : l ≠ h1.objs.size := Nat.ne_of_lt (Heap.lt_size hol2)
 have nD : s.heap.objs.size ∉ [h1.objs.size, l] := by
  simp only [List.mem_cons, List.mem_singleton, List.not_mem_nil, or_false, not_or]
  exact ⟨Nat.ne_of_lt sz1, Nat.ne_of_gt lS⟩
 refine wpAny_pure ⟨plainId_quiet gL _, ?_⟩
 have hh2 : A.in1.in1.handled = none := by simp [hh]
 refine aGR ((Walks.list hh2 _ l nI its.toArray).toS) s.heap.objs.size nD .none kvs (by rw [List.size_toArray, hn]) (by rw [List.size_toArray]; exact hz) { s with heap := h1.push { cls := .type "list_iterator", data := .fields #[.ref l, .int 0 0] }, toks := t1 } (fun i v pv => ?_) (its.toArray.size - 0) 0 _ (by omega) (Nat.zero_le _)
  ⟨⟨_, Heap.get?_push_size _ rfl, rfl, rfl⟩, (hl2.push _)⟩ (fun _ _ _ e => e) ?_ ?_
 ·obtain ⟨a, k, kv, x, ob, c, rfl, hg, hc, hd, hi, hk⟩ := hv i v (by simpa using pv)
  have la := Heap.lt_size hg
  refine ⟨a, k, kv, x, ob, c, rfl, ?_, Heap.get?_push_of_some _ (k1 _ _ (Heap.get?_push_of_some _ hg)), hc, hd, hi, hk⟩
  simp only [List.mem_cons, List.mem_singleton, List.not_mem_nil, or_false, not_or]
  exact ⟨Nat.ne_of_lt la, Nat.ne_of_lt (Nat.lt_trans la sz1)⟩
 ·obtain ⟨o, es, ep, ho, r⟩ := hnew
  exact ⟨o, es, ep, Heap.get?_push_of_some _ (k1 _ _ ho), r⟩
 ·intro s3 mv hS3
  obtain ⟨h3, g3, d3, t3, o3⟩ := s3
  have e1 : g3 = s.gens := mv.gens
  have e2 : d3 = s.drawn := mv.drawn
  have e3 : o3 = s.os := mv.os
  subst e1 e2 e3
  refine ⟨rfl, h h3 t3 hS3 fun b o e => ?_⟩
  have lb := Heap.lt_size e
  refine mv.heap b o ?_ (Heap.get?_push_of_some _ (k1 _ _ (Heap.get?_push_of_some _ e)))
  simp only [List.mem_cons, List.mem_singleton, List.not_mem_nil, or_false, not_or]
  exact ⟨Nat.ne_of_lt lb, Nat.ne_of_lt (Nat.lt_trans lb sz1)⟩
end
def bT (H : Hp) (ys : List V) (kvs : List (Key × V)) : Prop := Paired (fun (y : V) (kv : Key × V) => ∃ a, y = .ref a ∧ H a = some (.tup [kV kv.1, kv.2])) ys kvs
theorem bT.nil (H : Hp) : bT H [] [] := Paired.nil
theorem bT.len {H : Hp} {ys : List V} {kvs : List (Key × V)} (h : bT H ys kvs) : ys.length = kvs.length := Paired.length h
theorem bT.same {H H' : Hp} (S : aK H H') : ∀ {ys : List V} {kvs : List (Key × V)}, bT H ys kvs → bT H' ys kvs
 | _, _, Paired.nil => Paired.nil
 | _, _, Paired.cons ⟨a, e, o⟩ t => Paired.cons ⟨a, e, S _ _ o⟩ (bT.same S t)
theorem bT.snoc {H : Hp} {ys : List V} {kvs : List (Key × V)} {p : Addr} {k : Key} {v : V} (h : bT H ys kvs) (hp : H p = none) : bT (upd H p (.tup [kV k, v])) (ys ++ [.ref p]) (kvs ++ [(k, v)]) :=
 Paired.snoc (h.same (aK.upd hp)) ⟨p, rfl, aF⟩
section
variable {X : Cx}
theorem aKJ {P : Program} {w : World} {k : Key} {u : Value} (r : bN (kV k) u) : (aZ P w).is k u = true := by
 cases k with
 | inl z => obtain ⟨t, rfl⟩ := r; exact rG z t
 | inr z => obtain ⟨t, rfl⟩ := r; exact rF z t
theorem qB {pins : List (Addr × Obj)} {σ : St} {H : Hp} {s : Shared} (I : Inv X pins σ H s) : ∀ {ys : List V} {kvs : List (Key × V)} {its : List Value}, bT H ys kvs → bO ys its →
  ∃ vk : List (Key × Value), KV kvs vk ∧ its.length = vk.length ∧ ∀ (i : Nat) (v : Value), its[i]? = some v → ∃ (a : Addr) (k : Key) (kv x : Value) (ob : Obj) (c : Nat), v = .ref a ∧ s.heap.get? a = some ob ∧ ob.cls = .type "tuple" ∧ ob.data = .seq #[kv, x] c ∧ vk[i]? = some (k, x) ∧ (aZ X.prog X.w).is k kv = true
 | _, _, _, Paired.nil, Paired.nil => ⟨[], Paired.nil, rfl, fun i v e => by simp at e⟩
 | _, (k, v0) :: kvs, u :: its, Paired.cons ⟨a, e, o⟩ t, Paired.cons r rs => by
  obtain ⟨vk, h1, h2, h3⟩ := qB I t rs
  subst e
  cases r
  obtain ⟨tis, rt, ⟨ob, g, hc, c, hd⟩, _⟩ := I.tuple (SqT.of o)
  obtain ⟨ku, xu, rfl, rk, rx⟩ := bO.two rt
  refine ⟨(k, xu) :: vk, Paired.cons ⟨rfl, rx⟩ h1, by simp [h2], fun i v e => ?_⟩
  cases i with
  | zero =>
   simp at e
   subst e
   exact ⟨a, k, ku, xu, ob, c, rfl, g, hc, hd, rfl, aKJ rk⟩
  | succ i =>
   obtain ⟨a', k', kv', x', ob', c', q⟩ := h3 i v (by simpa using e)
   exact ⟨a', k', kv', x', ob', c', by simpa using q⟩
theorem dB (hc : X.calm = true) : gJ X (.type "dict") (fun xs H Q => ∃ (p : Addr) (ys : List V) (kvs : List (Key × V)), xs = [.ref p] ∧ SqL X.K H p ys ∧ bT H ys kvs ∧ kvs.length ≤ 1000 ∧ (kvs.map (·.1)).Nodup ∧ ∀ l, H l = none → Q (.ref l) (upd H l (.dK kvs))) := by
 intro pins s σ H xs us Q I r h
 obtain ⟨p, ys, kvs, rfl, hq, hp, hn, nd, q⟩ := h
 obtain ⟨u, rfl, ru⟩ := bO.one r
 cases ru
 obtain ⟨its, rv, pl, hz⟩ := I.list hq
 obtain ⟨vk, kv, el, hv⟩ := qB I hp rv
 have big : (1000 : Nat) ≤ sizeLine := by decide
 have l1 := KV.length kv
 have ek : vk.map (·.1) = kvs.map (·.1) := (KV.keys kv).symm
 refine wB (kvs := vk) (I.ok.hd hc) pl el (by omega) hv fun h' tk hD hk => ?_
 rw [merged_nil_of_nodup vk (by rw [ek]; exact nd)] at hD
 refine ⟨.ref s.heap.objs.size, _, I.laid (t' := tk) hk (Nat.le_refl _) (show cU X.prog X.w _ h' _ (.dK kvs) from ⟨by omega, ?_, vk, kv, hD⟩), rfl, q _ (I.hok.fresh (Nat.le_refl _))⟩
 have b := I.big
 exact beq_eq_false_iff_ne.mpr (Nat.ne_of_gt b)
end
end L2
namespace L2
open PySem PySem.Spec PyProof.Rows
structure MethAt (K : PySem.W.Frag) (C : Addr) (m qual : Str) (st : Stmt) (ps : List Str) : Prop where
 ex : ∃ (f : Addr) (fd : FuncData), Fun K m qual st f fd ∧ jZ K fd ps [] ∧ Meth K C m f
structure InitAt (K : PySem.W.Frag) (C : Addr) (qual : Str) (st : Stmt) (ps : List Str) : Prop where
 ex : ∃ (f : Addr) (fd : FuncData), Fun K "__init__" qual st f fd ∧ jZ K fd ps [] ∧ Mk K C f
structure Mc (P : Program) (w : World) (K : PySem.W.Frag) (mg : Str → Option Value) (base : Heap) (k : Nat) (C : Addr) (m : Str) (ps : List Str) (sp : Sp) : Prop where
 ex : ∃ (f : Addr) (fd : FuncData), FnOk P w K mg base CX0 k f fd ps sp ∧ jZ K fd ps [] ∧ Meth K C m f
structure Ic (P : Program) (w : World) (K : PySem.W.Frag) (mg : Str → Option Value) (base : Heap) (k : Nat) (C : Addr) (ps : List Str) (sp : Sp) : Prop where
 ex : ∃ (f : Addr) (fd : FuncData), FnOk P w K mg base CX0 k f fd ps sp ∧ jZ K fd ps [] ∧ Mk K C f
section
variable {P : Program} {w : World} {K : PySem.W.Frag} {mg : Str → Option Value} {base : Heap} {C : Addr} {m qual : Str} {st : Stmt} {N ps : List Str} {k : Nat} {sp : Sp}
theorem MethAt.mc (D : MethAt K C m qual st ps) (S : FnScope N ps (aB st)) (len : ∀ vs H Q E, sp vs H Q E → vs.length = ps.length)
  (hbody : ∀ (f : Addr) (cdv : Value) (A : Around) (outer : List Env) (s : Shared) (H : Hp) (vs : List V) (Q : VK) (E : XK), Room k (A.deeper (envOfC qual (aB st) s.heap.objs.size f cdv)) → sp vs H Q E →
   ∃ t, PSs (vG CX0 P w K mg base N qual (aB st) f cdv A outer s H E).nox (aM st) t ∧ t { nx := fun _ H' => Q .non H', rt := Q } (start N vs) H) : Mc P w K mg base (k + 1) C m ps sp := by
 obtain ⟨f, fd, F, b, mm⟩ := D.ex
 exact ⟨f, fd, F.ok S len fun cdv A outer s H vs Q E hr h => hbody f cdv A outer s H vs Q E hr h, b, mm⟩
theorem InitAt.ic (D : InitAt K C qual st ps) (S : FnScope N ps (aB st)) (len : ∀ vs H Q E, sp vs H Q E → vs.length = ps.length)
  (hbody : ∀ (f : Addr) (cdv : Value) (A : Around) (outer : List Env) (s : Shared) (H : Hp) (vs : List V) (Q : VK) (E : XK), Room k (A.deeper (envOfC qual (aB st) s.heap.objs.size f cdv)) → sp vs H Q E →
   ∃ t, PSs (vG CX0 P w K mg base N qual (aB st) f cdv A outer s H E).nox (aM st) t ∧ t { nx := fun _ H' => Q .non H', rt := Q } (start N vs) H) : Ic P w K mg base (k + 1) C ps sp := by
 obtain ⟨f, fd, F, b, mm⟩ := D.ex
 exact ⟨f, fd, F.ok S len fun cdv A outer s H vs Q E hr h => hbody f cdv A outer s H vs Q E hr h, b, mm⟩
theorem Mc.imp {sp' : Sp} (F : Mc P w K mg base k C m ps sp) (h : ∀ vs H Q E, sp' vs H Q E → sp vs H Q E) : Mc P w K mg base k C m ps sp' := by
 obtain ⟨f, fd, G, b, mm⟩ := F.ex
 exact ⟨f, fd, G.imp h, b, mm⟩
theorem jC {f : Addr} {oc : Value} {od an : Option Addr} {osl : Array (Option Value)} {kV doc pm cdv ct : Value} (a : PySem.W.findIn K (.ref C) m = some (some (.ref f))) (i : PySem.W.isFn K (.ref f) = true)
  (l : K.lookup f = some ⟨oc, od, .func (PySem.W.fnOf m qual (aN st) (aM st) (aB st) .none kV doc pm an cdv ct), osl⟩) (c : PySem.W.codeIn K cdv qual = true) (kp : PySem.W.keepIn K (.ref f) = true)
  (hb : ∀ (kV doc pm : Value) (an : Option Addr) (cdv ct : Value) (us : List Value), us.length = ps.length → bindArgs (PySem.W.fnOf m qual (aN st) (aM st) (aB st) .none kV doc pm an cdv ct) ⟨us, []⟩ = pure (ps.zip us)) : MethAt K C m qual st ps :=
 ⟨f, _, rK l c kp, (rK l c kp).binds hb, ⟨a, i, kp⟩⟩
theorem aLG {f : Addr} {oc : Value} {od an : Option Addr} {osl : Array (Option Value)} {kV doc pm cdv ct : Value} (a : PySem.W.findIn K (.ref C) "__init__" = some (some (.ref f))) (i : PySem.W.isFn K (.ref f) = true)
  (l : K.lookup f = some ⟨oc, od, .func (PySem.W.fnOf "__init__" qual (aN st) (aM st) (aB st) .none kV doc pm an cdv ct), osl⟩) (c : PySem.W.codeIn K cdv qual = true) (kp : PySem.W.keepIn K (.ref f) = true)
  (mk : PySem.W.makesIn K C = true) (kc : PySem.W.keepIn K (.ref C) = true)
  (hb : ∀ (kV doc pm : Value) (an : Option Addr) (cdv ct : Value) (us : List Value), us.length = ps.length → bindArgs (PySem.W.fnOf "__init__" qual (aN st) (aM st) (aB st) .none kV doc pm an cdv ct) ⟨us, []⟩ = pure (ps.zip us)) : InitAt K C qual st ps :=
 ⟨f, _, rK l c kp, (rK l c kp).binds hb, ⟨mk, a, i, kc⟩⟩
end
section
variable {X : Cx} {k : Nat} {ps : List Str} {sp : Sp} {x m : Str} {p pos apos : Pos} {o e : Expr} {es : List Expr} {ta : TE} {t : TA} {C : Addr}
theorem aCY {pl : Sem Bool} (c : Cls X.K C) (F : Mc X.prog X.w X.K X.mg X.base k C m ps sp) (hr : Room k X.A) (ho : PE X o ta) (ha : PA X (e :: es) t)
  (hst : starEach (e :: es) X.env = (false, eval e X.env) :: starEach es X.env := by rfl) (hpl : (backTo pos (starEach es X.env)).any (·.1) = false := by rfl)
  (ht : eval (.Call (.Attribute o m apos) (e :: es) [] pos) X.env = (do
   let ov ← eval o X.env
   standAt apos.atName
   let (f, first) ← holding [ov] (getMethod ov m pl)
   callWith pos f first (backTo pos (starEach (e :: es) X.env)) (backToKw pos (keywordEach [] X.env))) := by rfl) :
  PE X (.Call (.Attribute o m apos) (e :: es) [] pos) (aEG C m sp [] E0 ta t) := by
 obtain ⟨f, fd, G, b, mm⟩ := F.ex
 exact aKN (pl := pl) ho c mm G hr b .nil aEY ha hst hpl ht
theorem jT {pl : Sem Bool} (c : Cls X.K C) (F : Mc X.prog X.w X.K X.mg X.base k C m ps sp) (hr : Room k X.A) (ho : PE X o ta)
  (ht : eval (.Call (.Attribute o m apos) [] [] pos) X.env = (do
   let ov ← eval o X.env
   standAt apos.atName
   let (f, first) ← holding [ov] (getMethod ov m pl)
   callWith pos f first (backTo pos (starEach [] X.env)) (backToKw pos (keywordEach [] X.env))) := by rfl) :
  PE X (.Call (.Attribute o m apos) [] [] pos) (aEG C m sp [] E0 ta aMI) := by
 obtain ⟨f, fd, G, b, mm⟩ := F.ex
 exact aIL (pl := pl) ho c mm G hr b .nil aEY ht
theorem aMC (hm : X.mg x = some (.ref C)) (F : Ic X.prog X.w X.K X.mg X.base k C ps sp) (hr : Room (k + 1) X.A) (ha : PA X (e :: es) t) (hg : Gl X x := by rfl) (hdb : (x == ("__debug__" : Str)) = false := by decide)
  (he : starEach (e :: es) X.env = (false, eval e X.env) :: starEach es X.env := by rfl) (hpl : (backTo pos (starEach es X.env)).any (·.1) = false := by rfl) :
  PE X (.Call (.Name x p) (e :: es) [] pos) (aLT C sp [] E0 t) := by
 obtain ⟨f, fd, G, b, mm⟩ := F.ex
 exact aKO mm G hr hg hm b .nil aEY ha hdb he hpl
end
section
variable {X : Cx} {K : PySem.W.Frag}
theorem aP (e : X.K = K) : IxR X (aOS K) := by subst e; exact aNG
theorem cS (e : X.K = K) : IxR X (aOT K) := by subst e; exact aLD
theorem aES (e : X.K = K) : SlR X (aOP K) := by subst e; exact aMO
theorem aHU (e : X.K = K) : SlR X (aOQ K) := by subst e; exact aKH
theorem aAT (e : X.K = K) : OpR X (binaryOp .Add) (aLZ K) := by subst e; exact aKU
theorem gD (e : X.K = K) : OpR X (compareOp .In) (rIn K false) := by subst e; exact aGA
theorem iG (e : X.K = K) : OpR X (compareOp .NotIn) (rIn K true) := by subst e; exact yN
theorem bH (e : X.K = K) : gJ X (.builtin "len") (fun xs H Q => ∃ p ys, xs = [.ref p] ∧ (SqL K H p ys ∨ SqT K H p ys) ∧ Q (.int ys.length) H) := by subst e; exact zK
theorem bY (e : X.K = K) : gJ X (.builtin "isinstance") (fun xs H Q => ∃ x y c t b, xs = [x, y] ∧ aNQ y = some c ∧ TyOf K H x t ∧ PySem.W.kitOne K t c = some b ∧ Q (.bl b) H) := by subst e; exact aBR
theorem pJ (e : X.K = K) : gJ X (.type "list") (fun xs H Q => ∃ p ys, xs = [.ref p] ∧ (SqL K H p ys ∨ SqT K H p ys) ∧ ∀ l, H l = none → Q (.ref l) (upd H l (.lst ys))) := by subst e; exact zI
end
theorem gU {j : Int} (h : decide (0 < j) = true) : 0 < j := of_decide_eq_true h
end L2
namespace L2
open PySem PySem.Spec PyProof.Rows
theorem jS {X : Cx} {i : Nat} {x : Str} {elt iter tg : Expr} {ifs : List Expr} {scope : Scope} {pos pos' cpos : Pos} {wi : TI} {g : TG} {tt : TT} {te : TE} (hXN : X.N.Nodup) (hix : X.N[i]? = some x) (N' : List Str) (nt : Nat) (cap : List Nat)
  (hc : X.calm = true) (hi : PI X tg iter wi) (hg : ∀ R, PG (blk X scope N' R) tg g) (hgk : aBZ nt g) (ht : ∀ R, aJZ (blk X scope N' R) ifs tt) (he : ∀ R, PE (blk X scope N' R) elt te)
  (hx : Loc X.env.scope x := by exact Or.inl rfl) (hfn : X.fn x = true ∨ X.env.scope.names.lookup x = some .local := by first | exact .inl rfl | exact .inr rfl | assumption)
  (hsw : swapsWith (.ListComp elt [⟨tg, iter, ifs, 0⟩] scope cpos) (some (.Name x pos')) pos.line X.env = pure true := by rfl)
  (hcell : (scope.names.all fun y => !(y.2 == .cell)) = true := by rfl) (hkind : scope.kind = .function := by rfl)
  (hnames : (scope.names.all fun y => !(y.2 == .local) || (scope.names.lookup y.1 == some .local)) = true := by rfl)
  (hfr : (scope.names.all fun y => !(y.2 == .free) || (X.env.kindOf y.1 == some .cell || X.env.kindOf y.1 == some .free)) = true := by rfl)
  (hN : N'.length = nt + cap.length := by rfl) (hcapN : (cap.map fun j => X.N[j]?) = (N'.drop nt).map some := by rfl) (hcapF : ((N'.drop nt).all fun x => scope.names.lookup x == some .free) = true := by rfl)
  (hs : ∀ x, foldedSetIterable iter X.env x = pure x := by intro _; rfl) :
  PS X (.Assign [.Name x pos'] (.ListComp elt [⟨tg, iter, ifs, 0⟩] scope cpos) pos) (aML (aLU nt cap wi g tt te) (aBJ i)) := by
 intro pins s σ H Ds I h
 have hfr' : ∀ y ∈ scope.names, y.2 = .free → (X.env.kindOf y.1 = some .cell ∨ X.env.kindOf y.1 = some .free) := fun y hy e => by
  have z := kG hfr y hy
  rw [e] at z
  have z' : (X.env.kindOf y.1 == some .cell || X.env.kindOf y.1 == some .free) = true := z
  rcases Bool.or_eq_true_iff.mp z' with q | q
  ·exact .inl (beq_iff_eq.mp q)
  ·exact .inr (beq_iff_eq.mp q)
 have hcell' : ∀ y ∈ scope.names, y.2 ≠ .cell := fun y hy e => by
  have z := kG hcell y hy
  rw [e] at z
  cases z
 obtain ⟨cl, hcl, hclk, hclh⟩ := vJ (scope := scope) (env := X.env) fun y hy e => I.ok.has y.1 (hfr' y hy e)
 have hnames' : ∀ y ∈ scope.names, y.2 = .local → scope.names.lookup y.1 = some .local := fun y hy e => by
  have z := kG hnames y hy
  rw [e] at z
  exact beq_iff_eq.mp z
 have hcapN' : ∀ (k j : Nat), cap[k]? = some j → N'[nt + k]? = X.N[j]? := fun k j e => by
  have z := congrArg (fun l : List (Option Str) => l[k]?) hcapN
  simp only [List.getElem?_map, e, Option.map_some, List.getElem?_drop] at z
  cases q : N'[nt + k]? with
  | none => rw [q] at z; cases z
  | some x => rw [q] at z; exact (Option.some.inj z).symm
 rw [exec_Assign_Name_used _ _ _ _ hsw]
 refine wpAny_bind (wpAny_standAt (wpAny_bind ?_))
 show wpAny _ X.A (do let _ ← comprehension (.ListComp elt [⟨tg, iter, ifs, 0⟩] scope cpos) scope X.env _ (newList []) false (eval iter X.env) (some (assign (.Name x pos') X.env))) _ _ s
 refine wpAny_bind (wpAny_mono (wpAny_comprehension_free (use := some (assign (.Name x pos') X.env)) (Q := fun _ s' => SP X pins Ds .next s') rfl hs hcl hkind hnames'
  (thn (hi pins s σ H _ I h) fun v s1 h1 => thn h1 fun itv s2 h2 => ?_)) (fun _ s' hq => wpAny_pure (wpAny_pure hq)) fun _ _ e => e)
 obtain ⟨it, fp, tn, J, H2, e, I2, T, st2, f2, hw⟩ := h2
 subst e
 refine vH (RR := fun acc C => compPost (model X.prog X.w) X.A X.xe (some (assign (.Name x pos') X.env)) (fun _ s' => SP X pins Ds .next s') acc C) hc I2 T st2 f2 hclk hclh hcell' hkind hfr' hN hcapN' (fun x hx => beq_iff_eq.mp (kG hcapF x hx)) hg hgk ht he hw ?_
 intro D C s' H' ys hD q I' B
 obtain ⟨m, hn⟩ := B.ns
 obtain ⟨oC, es, ep, hoC, hdC, hrest⟩ := id hn
 have nofs : C ∉ X.fs := fun hb => by
  obtain ⟨_, o, ho, _⟩ := I'.ok.funs.mem hb
  exact absurd (Nat.lt_of_lt_of_le (Heap.lt_size ho) B.ab) (Nat.lt_irrefl _)
 have IC : Inv X ((C, oC) :: pins) σ (upd H' D (.lst ys)) s' := I'.pins_of fun p hp => by
  rcases List.mem_cons.mp hp with rfl | hp
  ·exact ⟨hoC, B.fr, B.ne, nofs, fun v z => by rw [hdC] at z; cases z⟩
  ·exact I'.pin p (List.mem_append_right _ hp)
 show wpAny _ X.A (assign (.Name x pos') X.env (.ref D)) _ _ _
 refine thn (aO hXN hix hx hfn ((C, oC) :: pins) s' σ (upd H' D (.lst ys)) (.ref D) (.ref D) Ds.nx IC rfl (q D hD)) fun _ s'' h'' => ?_
 obtain ⟨σ2, H3, I3, q3⟩ := h''
 have pC := I3.pin (C, oC) (List.mem_append_right _ List.mem_cons_self)
 refine ⟨m, hn.at' (fun o e => ?_), fun h4 hs4 => ⟨σ2, H3, ?_, q3⟩⟩
 ·rw [hoC] at e
  cases e
  exact pC.1
 ·have I4 : Inv X pins σ2 H3 s'' := I3.pins_of fun p hp => I3.pin p (List.mem_append_right _ (List.mem_cons_of_mem _ hp))
  exact I4.turned (it := C) (t' := s''.toks) (fun b o hb e => hs4.extBut b o hb e) pC.2.1 B.ne (.inr B.ab) B.cl B.pn
end L2
namespace L2
open PySem PySem.Spec PyProof.Rows
section
variable {X : Cx}
end
structure InstC (K : PySem.W.Frag) (C : Addr) : Prop where
 ha : PySem.W.findIn K (.ref C) "__class__" = some (some (.builtin "object.__class__"))
 hn : PySem.W.specialIn K (.builtin "object.__class__") "__get__" = some (some (.builtin "getset_descriptor.__get__"))
 htk : PySem.W.takesIn K (.builtin "object.__class__") = some true
 hm : PySem.W.mroIn K C (.type "object") = some true
theorem MethAt.mcD {P : Program} {w : World} {K : PySem.W.Frag} {mg : Str → Option Value} {base : Heap} {C : Addr} {m qual : Str} {st : Stmt} {N ps : List Str} {k : Nat} {sp : Sp} (D : MethAt K C m qual st ps) (S : FnScope N ps (aB st)) (len : ∀ vs H Q E, sp vs H Q E → vs.length = ps.length)
  (hbody : ∀ (f : Addr) (cdv : Value) (A : Around) (outer : List Env) (s : Shared) (H : Hp) (vs : List V) (Q : VK) (E : XK), Room k (A.deeper (envOfC qual (aB st) s.heap.objs.size f cdv)) → sp vs H Q E →
   ∃ t, PSs (vG CX0 P w K mg base N qual (aB st) f cdv A outer s H E).nox (aM st) t ∧ t { nx := fun _ H' => cN Q .non H', rt := cN Q } (start N vs) H) : Mc P w K mg base (k + 1) C m ps sp := by
 obtain ⟨f, fd, F, b, mm⟩ := D.ex
 refine ⟨f, fd, FnOk.drop len (F.ok S (fun vs H Q E ⟨Q', h, _⟩ => len vs H Q' E h) fun cdv A outer s H vs Q E hr ⟨Q', h, e⟩ => ?_), b, mm⟩
 subst e
 exact hbody f cdv A outer s H vs Q' E hr h
theorem fN.under {H : Hp} {p q : Addr} {o u : HO} (hp : H p = none) (d : rL o = true) (hq : L2.upd H p o q = none) : fN (L2.upd (L2.upd H p o) q u) (L2.upd H q u) := fun b => by
 by_cases hb : b = q
 ·subst hb
  left
  rw [aF, aF]
 ·rw [aQ hb, aQ hb]
  by_cases hc : b = p
  ·subst hc
   right
   exact ⟨hp, o, aF, d⟩
  ·left
   rw [aQ hc]
end L2
namespace L2
open PySem PySem.Spec PyProof.Rows
section
variable {X : Cx}
theorem xL : bootBuiltins "any" = some (.builtin "any") := by decide +kernel
theorem aBS (hc : X.calm = true) : gJ X (.builtin "any") (fun xs H Q => ∃ (p : Addr) (bs : List Bool), xs = [.ref p] ∧ SqL X.K H p (bs.map V.bl) ∧ Q (.bl (bs.any id)) H) := by
 intro pins s σ H xs us Q I r h
 obtain ⟨p, bs, rfl, hq, q⟩ := h
 obtain ⟨u, rfl, ru⟩ := bO.one r
 cases ru
 obtain ⟨its, rv, pl, hz⟩ := I.list hq
 obtain ⟨m, F⟩ := I.fr
 have hb := oF rv
 have hl := pl.isList
 have hlt : p < s.heap.objs.size := by obtain ⟨_, e, _⟩ := hl; exact Heap.lt_size e
 refine call_any_walk (wpAny_pyIter_list hl ?_)
 refine ⟨s.heap.objs.size, [s.heap.objs.size, p], [s.heap.objs.size], its.toArray.size, _, _, fun i => (bs[i]?).getD false, rfl, Walks.list (A := X.A.in1) (I.ok.hd hc) _ p (Nat.ne_of_lt hlt) its.toArray,
  ⟨⟨_, Heap.get?_push_size _ rfl, rfl, rfl⟩, hl.push _⟩, fun i v s' Q' E' hP hQ => ?_, fun h' tk hk => ?_⟩
 ·obtain ⟨b, e, rfl⟩ := hb.get i v (by simpa using hP)
  simp only [e, Option.getD_some] at hQ
  exact wpAny_truthy_bool hQ
 ·have e : ((List.range its.toArray.size).any fun i => (bs[i]?).getD false) = bs.any id := by
   rw [List.size_toArray, hb.length]; exact LSm.range_any bs
  rw [e]
  exact ⟨.bl _, H, I.kept (LSm.kept_iter hk), rfl, q⟩
end
end L2
namespace Ld
open PySem L2
def kJ (c : Nat) : Bool := decide (97 ≤ c) && decide (c ≤ 122)
def eR (z : Str) : Bool := decide (1 ≤ z.length) && decide (z.length ≤ 8) && !decide (z = "sea") && z.cps.toList.all kJ
def isInt : Dv → Bool
 | .int _ => true
 | _ => false
def aJB : Dv → Bool
 | .bl _ => true
 | _ => false
def aPA : Dv → Bool
 | .str _ => true
 | _ => false
def aPC : Dv → Bool
 | .lst _ => true
 | _ => false
def aOZ : Dv → Bool
 | .tup _ => true
 | _ => false
def aEE (n : Int) : Dv → Bool
 | .tup ds => decide ((ds.length : Int) = n)
 | _ => false
def aIV (n : Int) : Dv → Bool
 | .lst ds => decide (1 ≤ ds.length) && decide ((ds.length : Int) ≤ n)
 | _ => false
def pO : Dv → Bool
 | .str z => eR z
 | _ => false
def hgt (i : Int) : Bool := decide (-1000000 ≤ i) && decide (i ≤ 1000000)
def amt (i : Int) : Bool := decide (0 ≤ i) && decide (i ≤ 1000000)
def gX : Dv → Bool
 | .int i => hgt i
 | _ => false
def lA : Dv → Bool
 | .int i => amt i
 | _ => false
def qD (zs : List Str) : Dv → Bool
 | .str z => decide (z ∈ zs)
 | _ => false
def cQ : Dv → Option Str
 | .tup (.str z :: _) => some z
 | _ => none
def cF : Dv → Bool
 | .tup [a, b, c] => pO a && (gX b && lA c)
 | _ => false
def lK : Dv → Bool
 | .lst ds => (decide (1 ≤ ds.length) && decide (ds.length ≤ 12)) && (ds.all cF && decide ((ds.map cQ).Nodup))
 | _ => false
def oH (zs : List Str) (a b : Dv) : Bool := qD zs a && (qD zs b && !deq a b)
def jW (c : Dv) : Dv → Bool
 | .non => true
 | .int i => hgt i && (match c with | .int j => decide (i < j) | _ => false)
 | _ => false
def cL (zs : List Str) : Dv → Bool
 | .tup [n, a, b, c, r, s] => pO n && oH zs a b && (gX c && (lA r && jW c s))
 | _ => false
def oI (zs : List Str) : Dv → Bool
 | .lst ds => (decide (1 ≤ ds.length) && decide (ds.length ≤ 40)) && (ds.all (cL zs) && decide ((ds.map cQ).Nodup))
 | _ => false
mutual
def eP : Dv → Bool
 | .str z => decide (z.length ≤ 1000)
 | .lst ds => decide (ds.length ≤ 1000) && hU ds
 | .tup ds => decide (ds.length ≤ 1000) && hU ds
 | _ => true
def hU : List Dv → Bool
 | [] => true
 | d :: ds => eP d && hU ds
end
theorem jH : ∀ {ds : List Dv} {d : Dv}, hU ds = true → d ∈ ds → eP d = true
 | [], _, _, m => by cases m
 | e :: ds, d, f, m => by
  rw [hU, Bool.and_eq_true] at f
  rcases List.mem_cons.mp m with rfl | m
  ·exact f.1
  ·exact jH f.2 m
theorem wJ {ds : List Dv} (h : eP (.tup ds) = true) : hU ds = true := (Bool.and_eq_true_iff.mp (show (decide (ds.length ≤ 1000) && hU ds) = true from h)).2
theorem jY (K : PySem.W.Frag) {H : Hp} {d : Dv} {x : V} (h : Is H d x) : ∃ t, TyOf K H x t ∧ PySem.W.kitOne K t (.type "int") = some (isInt d || aJB d) ∧ PySem.W.kitOne K t (.type "bool") = some (aJB d) ∧
  PySem.W.kitOne K t (.type "str") = some (aPA d) ∧ PySem.W.kitOne K t (.type "list") = some (aPC d) ∧ PySem.W.kitOne K t (.type "tuple") = some (aOZ d) := by
 cases d with
 | non => cases (show x = .non from h); exact ⟨_, .non, rfl, rfl, rfl, rfl, rfl⟩
 | bl b => cases (show x = .bl b from h); exact ⟨_, .bl b, rfl, kY _ _, rfl, rfl, rfl⟩
 | int i => cases (show x = .int i from h); exact ⟨_, .int i, kY _ _, rfl, rfl, rfl, rfl⟩
 | str z => cases (show x = .str z from h); exact ⟨_, .str z, rfl, rfl, kY _ _, rfl, rfl⟩
 | lst ds => obtain ⟨a, vs, rfl, e, _⟩ := h; exact ⟨_, .lst e, rfl, rfl, rfl, kY _ _, rfl⟩
 | tup ds => obtain ⟨a, vs, rfl, e, _⟩ := h; exact ⟨_, .tup e, rfl, rfl, rfl, rfl, kY _ _⟩
 | dct ks ds => obtain ⟨a, vs, rfl, e, _⟩ := h; exact ⟨_, .dK e, rfl, rfl, rfl, rfl, rfl⟩
theorem yY : ("abcdefghijklmnopqrstuvwxyz" : Str).cps.toList = [97, 98, 99, 100, 101, 102, 103, 104, 105, 106, 107, 108, 109, 110, 111, 112, 113, 114, 115, 116, 117, 118, 119, 120, 121, 122] := by decide +kernel
theorem aDM (c : Nat) : (!(Builtin.Str.occurrences ("abcdefghijklmnopqrstuvwxyz" : Str) ⟨#[c]⟩ 0 ("abcdefghijklmnopqrstuvwxyz" : Str).length 1).isEmpty) = kJ c := by
 rw [PySem.StrLaws.found_one, yY]
 have h1 : ∀ d, d ∈ ([97, 98, 99, 100, 101, 102, 103, 104, 105, 106, 107, 108, 109, 110, 111, 112, 113, 114, 115, 116, 117, 118, 119, 120, 121, 122] : List Nat) → 97 ≤ d ∧ d ≤ 122 := by decide
 have h2 : ∀ k, k < 26 → (97 + k) ∈ ([97, 98, 99, 100, 101, 102, 103, 104, 105, 106, 107, 108, 109, 110, 111, 112, 113, 114, 115, 116, 117, 118, 119, 120, 121, 122] : List Nat) := by decide
 unfold kJ
 by_cases h : 97 ≤ c ∧ c ≤ 122
 ·have e := h2 (c - 97) (by omega)
  rw [show 97 + (c - 97) = c by omega] at e
  rw [decide_eq_true e, decide_eq_true h.1, decide_eq_true h.2]
  rfl
 ·have e : ¬ c ∈ ([97, 98, 99, 100, 101, 102, 103, 104, 105, 106, 107, 108, 109, 110, 111, 112, 113, 114, 115, 116, 117, 118, 119, 120, 121, 122] : List Nat) := fun m => h (h1 c m)
  rw [decide_eq_false e]
  by_cases h' : 97 ≤ c
  ·rw [decide_eq_true h', decide_eq_false (fun z => h ⟨h', z⟩)]
   rfl
  ·rw [decide_eq_false h']
   rfl
def aL (d : Dv) : Str := (cQ d).getD ""
def mE (d : Dv) : Key := .inr (aL d)
theorem aJN {d : Dv} {z : Str} (h : cQ d = some z) : aL d = z := by unfold aL; rw [h]; rfl
def mD (d1 d2 : Addr) : List (Str × V) := jB "dyke_rows" (.ref d2) (jB "field_rows" (.ref d1) [])
theorem aPJ : ¬ (("field_rows" : Str) = "dyke_rows") := by decide +kernel
theorem zA (d1 d2 : Addr) : (mD d1 d2).lookup ("field_rows" : Str) = some (.ref d1) := by
 unfold mD
 rw [fI, if_neg aPJ, fI, if_pos rfl]
theorem zC (d1 d2 : Addr) : (mD d1 d2).lookup ("dyke_rows" : Str) = some (.ref d2) := by
 unfold mD
 rw [fI, if_pos rfl]
theorem cI (d1 d2 : Addr) {m : Str} (h1 : ¬ m = "dyke_rows") (h2 : ¬ m = "field_rows") : (mD d1 d2).lookup m = none := by
 unfold mD
 rw [fI, if_neg h1, fI, if_neg h2]
 all_goals rfl
def vO (H : Hp) (a : Addr) (ds : List Dv) : Prop := ∃ kvs, H a = some (.dK kvs) ∧ kvs.map (·.1) = ds.map mE ∧ IsL H ds (kvs.map (·.2))
theorem vO.same {H H' : Hp} (S : aK H H') {a : Addr} {ds : List Dv} (h : vO H a ds) : vO H' a ds := by
 obtain ⟨kvs, e, k, i⟩ := h
 exact ⟨kvs, S _ _ e, k, IsL.same S _ _ i⟩
structure LandAt (C : Addr) (H : Hp) (x : Addr) (fs ds : List Dv) : Prop where
 ex : ∃ dx d1 d2, H x = some (.ins C dx (mD d1 d2)) ∧ vO H d1 fs ∧ vO H d2 ds
 okf : lK (.lst fs) = true
 okd : oI ("sea" :: fs.map aL) (.lst ds) = true
theorem LandAt.same {C : Addr} {H H' : Hp} (S : aK H H') {x : Addr} {fs ds : List Dv} (h : LandAt C H x fs ds) : LandAt C H' x fs ds := by
 obtain ⟨⟨dx, d1, d2, e, t1, t2⟩, a, b⟩ := h
 exact ⟨⟨dx, d1, d2, S _ _ e, t1.same S, t2.same S⟩, a, b⟩
theorem xT : ∀ {kvs : List (Key × V)} {H : Hp} {ds : List Dv} {d : Dv}, kvs.map (·.1) = ds.map mE → IsL H ds (kvs.map (·.2)) → (ds.map aL).Nodup → d ∈ ds → ∃ v, eT kvs (.inr (aL d)) = some v ∧ Is H d v
 | [], _, [], _, _, _, _, m => by cases m
 | [], _, _ :: _, _, e, _, _, _ => by simp at e
 | _ :: _, _, [], _, _, _, _, m => by cases m
 | (k, v) :: kvs, H, d0 :: ds, d, e, i, n, m => by
  obtain ⟨v', r, e1, h0, t⟩ := i
  rw [List.map_cons] at e1
  cases e1
  rw [List.map_cons, List.map_cons, List.cons.injEq] at e
  have ek : k = mE d0 := e.1
  rw [List.map_cons, List.nodup_cons] at n
  by_cases q : aL d = aL d0
  ·have : d = d0 := by
    rcases List.mem_cons.mp m with rfl | m
    ·rfl
    ·exact absurd (List.mem_map.mpr ⟨d, m, q⟩) n.1
   subst this
   refine ⟨v, ?_, h0⟩
   unfold eT
   rw [List.find?_cons, ek]
   simp [mE]
  ·have m' : d ∈ ds := by
    rcases List.mem_cons.mp m with rfl | m
    ·exact absurd rfl q
    ·exact m
   obtain ⟨u, e2, h2⟩ := xT (kvs := kvs) e.2 t n.2 m'
   refine ⟨u, ?_, h2⟩
   unfold eT at e2 ⊢
   have hk : ¬ k = Sum.inr (aL d) := by
    rw [ek]
    intro z
    exact q (Sum.inr.inj z).symm
   rw [List.find?_cons, decide_eq_false (show ¬ (k, v).1 = Sum.inr (aL d) from hk)]
   exact e2
theorem iD : ∀ {ds : List Dv} {p : Dv → Bool}, (∀ d, p d = true → ∃ z, cQ d = some z) → ds.all p = true → ds.map cQ = (ds.map aL).map some
 | [], _, _, _ => rfl
 | d :: ds, p, hp, h => by
  rw [List.all_cons, Bool.and_eq_true] at h
  obtain ⟨z, e⟩ := hp d h.1
  rw [List.map_cons, List.map_cons, List.map_cons, iD hp h.2, aJN e, e]
theorem dZ (zs : List Str) : (zs.map some).Nodup ↔ zs.Nodup := by
 induction zs with
 | nil => simp
 | cons z zs ih =>
  rw [List.map_cons, List.nodup_cons, List.nodup_cons, ih]
  simp
theorem bS {d : Dv} (h : cF d = true) : ∃ z g e, d = .tup [.str z, .int g, .int e] ∧ eR z = true ∧ hgt g = true ∧ amt e = true := by
 unfold cF at h
 split at h
 ·rename_i a b c
  rw [Bool.and_eq_true, Bool.and_eq_true] at h
  obtain ⟨h1, h2, h3⟩ := h
  cases a with
  | str z =>
   cases b with
   | int g =>
    cases c with
    | int e => exact ⟨z, g, e, rfl, h1, h2, h3⟩
    | _ => cases h3
   | _ => cases h2
  | _ => cases h1
 ·cases h
theorem sE (d : Dv) (h : cF d = true) : ∃ z, cQ d = some z := by
 obtain ⟨z, _, _, rfl, _⟩ := bS h
 exact ⟨z, rfl⟩
theorem bA {zs : List Str} {d : Dv} (h : cL zs d = true) : ∃ n a b c r s, d = .tup [.str n, .str a, .str b, .int c, .int r, s] ∧ eR n = true ∧ a ∈ zs ∧ b ∈ zs ∧ a ≠ b ∧ hgt c = true ∧ amt r = true ∧ jW (.int c) s = true := by
 unfold cL at h
 split at h
 ·rename_i n a b c r s
  rw [Bool.and_eq_true, Bool.and_eq_true, Bool.and_eq_true, Bool.and_eq_true] at h
  obtain ⟨⟨h1, h2⟩, h3, h4, h5⟩ := h
  unfold oH at h2
  rw [Bool.and_eq_true, Bool.and_eq_true] at h2
  obtain ⟨h6, h7, h8⟩ := h2
  cases n with
  | str n =>
   cases a with
   | str a =>
    cases b with
    | str b =>
     cases c with
     | int c =>
      cases r with
      | int r =>
       refine ⟨n, a, b, c, r, s, rfl, h1, of_decide_eq_true h6, of_decide_eq_true h7, ?_, h3, h4, h5⟩
       intro z
       subst z
       have : (!(a == a)) = true := h8
       rw [beq_self_eq_true] at this
       cases this
      | _ => cases h4
     | _ => cases h3
    | _ => cases h7
   | _ => cases h6
  | _ => cases h1
 ·cases h
theorem vB {zs : List Str} (d : Dv) (h : cL zs d = true) : ∃ z, cQ d = some z := by
 obtain ⟨z, _, _, _, _, _, rfl, _⟩ := bA h
 exact ⟨z, rfl⟩
structure GoodF (fs : List Dv) : Prop where
 l1 : 1 ≤ fs.length
 l2 : fs.length ≤ 12
 all : ∀ d ∈ fs, cF d = true
 nd : (fs.map aL).Nodup
structure GoodD (zs : List Str) (ds : List Dv) : Prop where
 l1 : 1 ≤ ds.length
 l2 : ds.length ≤ 40
 all : ∀ d ∈ ds, cL zs d = true
 nd : (ds.map aL).Nodup
theorem rJ (fs : List Dv) : lK (.lst fs) = true ↔ GoodF fs := by
 show ((decide (1 ≤ fs.length) && decide (fs.length ≤ 12)) && (fs.all cF && decide ((fs.map cQ).Nodup))) = true ↔ _
 rw [Bool.and_eq_true, Bool.and_eq_true, Bool.and_eq_true, decide_eq_true_iff, decide_eq_true_iff, decide_eq_true_iff]
 constructor
 ·rintro ⟨⟨a, b⟩, c, d⟩
  rw [iD sE c, dZ] at d
  exact ⟨a, b, List.all_eq_true.mp c, d⟩
 ·rintro ⟨a, b, c, d⟩
  have c' := List.all_eq_true.mpr c
  refine ⟨⟨a, b⟩, c', ?_⟩
  rw [iD sE c', dZ]
  exact d
theorem oV (zs : List Str) (ds : List Dv) : oI zs (.lst ds) = true ↔ GoodD zs ds := by
 show ((decide (1 ≤ ds.length) && decide (ds.length ≤ 40)) && (ds.all (cL zs) && decide ((ds.map cQ).Nodup))) = true ↔ _
 rw [Bool.and_eq_true, Bool.and_eq_true, Bool.and_eq_true, decide_eq_true_iff, decide_eq_true_iff, decide_eq_true_iff]
 constructor
 ·rintro ⟨⟨a, b⟩, c, d⟩
  rw [iD vB c, dZ] at d
  exact ⟨a, b, List.all_eq_true.mp c, d⟩
 ·rintro ⟨a, b, c, d⟩
  have c' := List.all_eq_true.mpr c
  refine ⟨⟨a, b⟩, c', ?_⟩
  rw [iD vB c', dZ]
  exact d
def aPB : Dv → Bool
 | .non => true
 | _ => false
def hasSill : Dv → Bool
 | .tup [_, _, _, _, _, s] => !aPB s
 | _ => false
theorem wK : ∀ {ds : List Dv}, (∀ d ∈ ds, eP d = true) → hU ds = true
 | [], _ => rfl
 | d :: ds, h => by
  rw [hU, h d List.mem_cons_self, wK fun e m => h e (List.mem_cons_of_mem _ m)]
  rfl
end Ld
namespace Mt02
open PySem L2 Ld
def zM (i : Nat) : Nat := if i < 18 then 97 + i else 98 + i
theorem aJX {i j : Nat} (hi : i < 25) (hj : j < 25) (h : zM i = zM j) : i = j := by
 unfold zM at h
 split at h <;> split at h <;> omega
theorem aBW {i : Nat} (hi : i < 25) : kJ (zM i) = true ∧ zM i ≠ 115 := by
 unfold zM kJ
 split
 ·exact ⟨by rw [decide_eq_true (by omega), decide_eq_true (by omega)]; rfl, by omega⟩
 ·exact ⟨by rw [decide_eq_true (by omega), decide_eq_true (by omega)]; rfl, by omega⟩
theorem aGX : ("abcdefghijklmnopqrtuvwxyz" : Str).cps.toList = (List.range 25).map zM := by decide +kernel
theorem aLP {i : Int} (h0 : 0 ≤ i) (h1 : i < 25) : atI ("abcdefghijklmnopqrtuvwxyz" : Str).cps.toList i = some (zM i.toNat) := by
 obtain ⟨k, rfl⟩ := Int.eq_ofNat_of_zero_le h0
 rw [aGX]
 refine aI ?_
 rw [List.getElem?_map, List.getElem?_range (by omega)]
 simp
def rst (c : Int) : Nat → Int
 | 0 => c / 3
 | j + 1 => rst c j / 25
def num (o : Nat → Int) (c p b : Int) (k j : Nat) : Int := if (j : Int) = b then c / 17 + ((k : Int) / 25) else if (j : Int) = p then c / 11 + (k : Int) else o j
def rO (o : Nat → Int) (c p b : Int) (k j : Nat) : Nat := zM (num o c p b k j % 25).toNat
def nm (o : Nat → Int) (c p b : Int) (n k : Nat) : Str := ⟨((List.range n).map (rO o c p b k)).toArray⟩
theorem yV (o : Nat → Int) (c p b : Int) (n k : Nat) : (nm o c p b n k).length = n := by simp [nm, Str.length]
theorem nQ (o : Nat → Int) (c p b : Int) (n k : Nat) : (nm o c p b n k).cps.toList = (List.range n).map (rO o c p b k) := by simp [nm]
theorem aKX (o : Nat → Int) (c p b : Int) (k : Nat) : nm o c p b 0 k = "" := by
 show (⟨#[]⟩ : Str) = ""
 decide +kernel
theorem aKG {x y : Str} (h : x.cps.toList = y.cps.toList) : x = y := by
 cases x; cases y
 simp only [Str.mk.injEq]
 exact Array.toList_inj.mp h
theorem yU (o : Nat → Int) (c p b : Int) (n k : Nat) : nm o c p b n k ++ (⟨#[rO o c p b k n]⟩ : Str) = nm o c p b (n + 1) k := by
 apply aKG
 rw [Tx.app_codes, nQ, nQ, List.range_succ, List.map_append]
 rfl
theorem aFJ (o : Nat → Int) (c p b : Int) (k j : Nat) : kJ (rO o c p b k j) = true ∧ rO o c p b k j ≠ 115 := by
 have h0 := Int.emod_nonneg (num o c p b k j) (show (25 : Int) ≠ 0 by decide)
 have h1 := Int.emod_lt_of_pos (num o c p b k j) (show (0 : Int) < 25 by decide)
 exact aBW (by omega)
theorem aFT : ("sea" : Str).cps.toList = [115, 101, 97] := by decide +kernel
theorem aKY (o : Nat → Int) (c p b : Int) (n k : Nat) (h0 : 1 ≤ n) (h1 : n ≤ 8) : eR (nm o c p b n k) = true := by
 have e1 : (nm o c p b n k).cps.toList.all kJ = true := by
  rw [nQ, List.all_eq_true]
  intro y hy
  obtain ⟨j, _, rfl⟩ := List.mem_map.mp hy
  exact (aFJ o c p b k j).1
 have e2 : ¬ nm o c p b n k = "sea" := by
  intro h
  have := congrArg (fun z => z.cps.toList) h
  simp only [nQ, aFT] at this
  have h2 : (115 : Nat) ∈ (List.range n).map (rO o c p b k) := by rw [this]; exact List.mem_cons_self
  obtain ⟨j, _, e⟩ := List.mem_map.mp h2
  exact (aFJ o c p b k j).2 e
 unfold eR
 rw [yV, e1, decide_eq_true h0, decide_eq_true h1, decide_eq_false e2]
 rfl
theorem aMY {o : Nat → Int} {c p b : Int} {n m k l : Nat} (hp0 : 0 ≤ p) (hpn : p < n) (hb0 : 0 ≤ b) (hbn : b < n) (hpb : p ≠ b) (hk : k < 625) (hl : l < 625) (h : nm o c p b n k = nm o c p b m l) : k = l := by
 have hlen : n = m := by
  have := congrArg Str.length h
  rwa [yV, yV] at this
 subst hlen
 have hc : (List.range n).map (rO o c p b k) = (List.range n).map (rO o c p b l) := by
  have := congrArg (fun z => z.cps.toList) h
  simpa only [nQ] using this
 have at_ : ∀ j, j < n → rO o c p b k j = rO o c p b l j := fun j hj => by
  have := congrArg (fun z => z[j]?) hc
  simpa [List.getElem?_map, List.getElem?_range hj] using this
 have num_ : ∀ j, j < n → num o c p b k j % 25 = num o c p b l j % 25 := fun j hj => by
  have h1 := Int.emod_nonneg (num o c p b k j) (show (25 : Int) ≠ 0 by decide)
  have h2 := Int.emod_lt_of_pos (num o c p b k j) (show (0 : Int) < 25 by decide)
  have h3 := Int.emod_nonneg (num o c p b l j) (show (25 : Int) ≠ 0 by decide)
  have h4 := Int.emod_lt_of_pos (num o c p b l j) (show (0 : Int) < 25 by decide)
  have := aJX (by omega) (by omega) (at_ j hj)
  omega
 have n1 := num_ p.toNat (by omega)
 have n2 := num_ b.toNat (by omega)
 unfold num at n1 n2
 rw [if_neg (by omega), if_pos (by omega), if_neg (by omega), if_pos (by omega)] at n1
 rw [if_pos (by omega), if_pos (by omega)] at n2
 omega
structure Names (zs : List Str) (n : Nat) : Prop where
 len : zs.length = n
 nd : zs.Nodup
 good : ∀ z ∈ zs, eR z = true
theorem aIP {o : Nat → Int} {c p b : Int} {sh n : Nat} {len : Nat → Nat} (hp0 : 0 ≤ p) (hps : p < sh) (hb0 : 0 ≤ b) (hbs : b < sh) (hpb : p ≠ b) (hsh : 1 ≤ sh) (hl : ∀ k, sh ≤ len k ∧ len k ≤ 8) (hn : n ≤ 625) :
  Names ((List.range n).map fun k => nm o c p b (len k) k) n where
 len := by simp
 nd := by
  rw [List.nodup_iff_pairwise_ne, List.pairwise_map]
  refine List.Pairwise.imp_of_mem ?_ (List.pairwise_lt_range (n := n))
  intro k l hk hl' hkl he
  have := List.mem_range.mp hk
  have := List.mem_range.mp hl'
  have h1 := hl k
  have e := aMY (n := len k) (m := len l) hp0 (by omega) hb0 (by omega) hpb (by omega) (by omega) he
  omega
 good := by
  intro z hz
  obtain ⟨k, _, rfl⟩ := List.mem_map.mp hz
  have h1 := hl k
  exact aKY _ _ _ _ _ _ (by omega) (by omega)
end Mt02
namespace Mt04
open PySem L2 Ld
def rN : Dv → Int
 | .tup [_, _, _, .int c, _, _] => c
 | _ => 0
def hOf : Dv → Int
 | .tup [_, .int h] => h
 | _ => 0
def eS (ds : List Dv) (z : Str) : Int := (ds.find? fun d => decide (aL d = z)).elim 0 rN
def dP (ds : List Dv) : Dv → Bool
 | .tup [.str z, .int h] => decide (z ∈ ds.map aL) && (hgt h && decide (eS ds z ≤ h))
 | _ => false
def aBU (ds : List Dv) : Dv → Bool
 | .lst ws => ws.all (dP ds) && decide ((ws.map cQ).Nodup)
 | _ => false
theorem aLK {ds : List Dv} (nd : (ds.map aL).Nodup) {d : Dv} (m : d ∈ ds) : (ds.find? fun e => decide (aL e = aL d)) = some d := by
 induction ds with
 | nil => cases m
 | cons e ds ih =>
  rw [List.map_cons, List.nodup_cons] at nd
  rw [List.find?_cons]
  by_cases q : aL e = aL d
  ·rw [decide_eq_true q]
   rcases List.mem_cons.mp m with rfl | m
   ·rfl
   ·exact absurd (List.mem_map.mpr ⟨d, m, q.symm⟩) nd.1
  ·rw [decide_eq_false q]
   rcases List.mem_cons.mp m with rfl | m
   ·exact absurd rfl q
   ·exact ih nd.2 m
theorem oA {ds : List Dv} (nd : (ds.map aL).Nodup) {d : Dv} (m : d ∈ ds) : eS ds (aL d) = rN d := by
 unfold eS
 rw [aLK nd m]
 rfl
theorem hJ {ds : List Dv} {d : Dv} (h : dP ds d = true) : ∃ z v, d = .tup [.str z, .int v] ∧ z ∈ ds.map aL ∧ hgt v = true ∧ eS ds z ≤ v := by
 unfold dP at h
 split at h
 ·rename_i z v
  rw [Bool.and_eq_true, Bool.and_eq_true] at h
  exact ⟨z, v, rfl, of_decide_eq_true h.1, h.2.1, of_decide_eq_true h.2.2⟩
 ·cases h
theorem pL {ds : List Dv} (d : Dv) (h : dP ds d = true) : ∃ z, cQ d = some z := by
 obtain ⟨z, _, rfl, _⟩ := hJ h
 exact ⟨z, rfl⟩
structure GoodW (ds ws : List Dv) : Prop where
 all : ∀ d ∈ ws, dP ds d = true
 nd : (ws.map aL).Nodup
theorem wY (ds ws : List Dv) : aBU ds (.lst ws) = true ↔ GoodW ds ws := by
 show (ws.all (dP ds) && decide ((ws.map cQ).Nodup)) = true ↔ _
 rw [Bool.and_eq_true, decide_eq_true_iff]
 constructor
 ·rintro ⟨c, d⟩
  rw [iD pL c, dZ] at d
  exact ⟨List.all_eq_true.mp c, d⟩
 ·rintro ⟨c, d⟩
  have c' := List.all_eq_true.mpr c
  refine ⟨c', ?_⟩
  rw [iD pL c', dZ]
  exact d
def wAt (ws : List Dv) (z : Str) : Option Int := (ws.find? fun d => decide (aL d = z)).map hOf
def aBB (ws : List Dv) : Dv → Dv
 | .tup [.str n, a, b, .int c, r, s] => .tup [.str n, a, b, .int ((wAt ws n).getD c), r, s]
 | d => d
def jA (ds ws : List Dv) : List Dv := ds.map (aBB ws)
theorem aLA (ws : List Dv) (d : Dv) : aL (aBB ws d) = aL d := by
 unfold aBB
 split <;> rfl
theorem aFW (ds ws : List Dv) : (jA ds ws).map aL = ds.map aL := by
 unfold jA
 rw [List.map_map]
 exact List.map_congr_left fun d _ => aLA ws d
def vY (d : Dv) : Key × V := (mE d, .int (hOf d))
theorem aCD (ws : List Dv) (z : Str) : eT (ws.map vY) (.inr z) = (wAt ws z).map V.int := by
 induction ws with
 | nil => rfl
 | cons d ws ih =>
  unfold eT wAt at ih ⊢
  rw [List.map_cons, List.find?_cons, List.find?_cons]
  have e : decide ((vY d).1 = Sum.inr z) = decide (aL d = z) := by
   rw [Bool.eq_iff_iff, decide_eq_true_iff, decide_eq_true_iff]
   exact ⟨fun h => Sum.inr.inj h, fun h => congrArg Sum.inr h⟩
  rw [e]
  cases decide (aL d = z) with
  | true => rfl
  | false => exact ih
theorem zS {ds ws : List Dv} (g : GoodW ds ws) {z : Str} {v : Int} (h : wAt ws z = some v) : hgt v = true ∧ eS ds z ≤ v := by
 unfold wAt at h
 cases e : ws.find? (fun d => decide (aL d = z)) with
 | none => rw [e] at h; cases h
 | some d =>
  rw [e] at h
  have m := List.mem_of_find?_eq_some e
  have q : aL d = z := by
   have := List.find?_some e
   exact of_decide_eq_true this
  obtain ⟨z', v', rfl, _, h1, h2⟩ := hJ (g.all d m)
  have ev : v' = v := Option.some.inj h
  have ez : z' = z := q
  subst ev ez
  exact ⟨h1, h2⟩
theorem aKZ {zs : List Str} {ds ws : List Dv} (gd : GoodD zs ds) (g : GoodW ds ws) {d : Dv} (m : d ∈ ds) : cL zs (aBB ws d) = true := by
 obtain ⟨n, a, b, c, r, s, rfl, hn, ha, hb, hab, hc, hr, hs⟩ := bA (gd.all d m)
 have ec : eS ds n = c := oA gd.nd m
 show cL zs (.tup [.str n, .str a, .str b, .int ((wAt ws n).getD c), .int r, s]) = true
 have key : hgt ((wAt ws n).getD c) = true ∧ c ≤ (wAt ws n).getD c := by
  cases e : wAt ws n with
  | none => exact ⟨hc, Int.le_refl _⟩
  | some v =>
   have := zS g e
   rw [ec] at this
   exact this
 have ks : jW (.int ((wAt ws n).getD c)) s = true := by
  cases s with
  | non => rfl
  | int i =>
   have h1 : (hgt i && decide (i < c)) = true := hs
   rw [Bool.and_eq_true] at h1
   show (hgt i && decide (i < (wAt ws n).getD c)) = true
   rw [h1.1, decide_eq_true (Int.lt_of_lt_of_le (of_decide_eq_true h1.2) key.2)]
   rfl
  | _ => cases hs
 show (eR n && (decide (a ∈ zs) && (decide (b ∈ zs) && !(a == b))) && (hgt _ && (amt r && jW _ s))) = true
 rw [hn, decide_eq_true ha, decide_eq_true hb, key.1, hr, ks, beq_eq_false_iff_ne.mpr hab]
 rfl
theorem rV {zs : List Str} {ds ws : List Dv} (gd : GoodD zs ds) (g : GoodW ds ws) : GoodD zs (jA ds ws) where
 l1 := by unfold jA; rw [List.length_map]; exact gd.l1
 l2 := by unfold jA; rw [List.length_map]; exact gd.l2
 all := fun d m => by
  obtain ⟨e, me, rfl⟩ := List.mem_map.mp m
  exact aKZ gd g me
 nd := by rw [aFW]; exact gd.nd
end Mt04
namespace Mt22
open PySem L2 Ld
structure St where
 nm : Str
 near : Str
 far : Str
 h : Int
abbrev Lo := Str → Option Int
def sea : Str := "sea"
def lo0 : Lo := fun z => if z = sea then some (-1000000) else none
def aOO (lo : Lo) (s : St) : Lo := match lo s.near with
 | none => lo
 | some a => fun z => if z = s.far then some (match lo s.far with | none => max a s.h | some b => min (max a s.h) b) else lo z
def aON (S : List St) (lo : Lo) : Lo := S.foldl aOO lo
def aIA (S : List St) : Nat → Lo
 | 0 => lo0
 | n + 1 => aON S (aIA S n)
inductive Walk (S : List St) : Nat → Str → Int → Prop
 | sea : Walk S 0 Mt22.sea (-1000000)
 | step {k : Nat} {a : Int} {s : St} (w : Walk S k s.near a) (m : s ∈ S) : Walk S (k + 1) s.far (max a s.h)
def Le (lo lo' : Lo) : Prop := ∀ z c, lo' z = some c → ∃ d, lo z = some d ∧ d ≤ c
def Att (S : List St) (lo : Lo) : Prop := ∀ z c, lo z = some c → ∃ k, Walk S k z c
inductive Path (S : List St) : List Str → Str → Int → Prop
 | sea : Path S [] Mt22.sea (-1000000)
 | step {p : List Str} {a : Int} {s : St} (w : Path S p s.near a) (m : s ∈ S) (n : s.far ∉ p) : Path S (s.far :: p) s.far (max a s.h)
theorem kK {α : Type} [DecidableEq α] : ∀ {P N : List α}, P.Nodup → (∀ x ∈ P, x ∈ N) → P.length ≤ N.length
 | [], N, _, _ => Nat.zero_le _
 | x :: P, N, nd, sub => by
  have hx := sub x List.mem_cons_self
  rw [List.nodup_cons] at nd
  have := kK (P := P) (N := N.erase x) nd.2 fun y m => (List.mem_erase_of_ne (a := y) (b := x) (fun e => nd.1 (by rw [← e]; exact m))).mpr (sub y (List.mem_cons_of_mem _ m))
  rw [List.length_erase_of_mem hx] at this
  have hp := List.length_pos_of_mem hx
  rw [List.length_cons]
  omega
structure Flood (S : List St) (lo : Lo) : Prop where
 att : Att S lo
 low : ∀ k v b, Walk S k v b → ∃ c, lo v = some c ∧ c ≤ b
inductive Come (S : List St) (L : Int) : Str → Prop
 | sea : Come S L Mt22.sea
 | step {s : St} (w : Come S L s.near) (m : s ∈ S) (h : s.h < L) : Come S L s.far
end Mt22
namespace MtF
open PySem L2 Ld Mt04 Mt22
def aMP : Dv → Dv
 | .tup [_, _, _, _, _, s] => s
 | _ => .non
def aPD : Dv → Int
 | .int i => i
 | _ => 0
def aAU : Dv → Str
 | .tup [_, .str a, _, _, _, _] => a
 | _ => ""
def nH : Dv → Str
 | .tup [_, _, .str b, _, _, _] => b
 | _ => ""
def aMN (op : List Str) (d : Dv) : Int := if aL d ∈ op then aPD (aMP d) else rN d
def eB : Dv → Int
 | .tup [_, .int g, _] => g
 | _ => 0
def eK (fs : List Dv) (z : Str) : Int := (fs.find? fun d => decide (aL d = z)).elim 0 eB
theorem aFF {ds : List Dv} (nd : (ds.map aL).Nodup) {d : Dv} (m : d ∈ ds) : (ds.find? fun e => decide (aL e = aL d)) = some d := by
 induction ds with
 | nil => cases m
 | cons e ds ih =>
  rw [List.map_cons, List.nodup_cons] at nd
  rw [List.find?_cons]
  rcases List.mem_cons.mp m with rfl | m
  ·rw [decide_eq_true rfl]
  ·have hne : aL e ≠ aL d := fun c => nd.1 (c ▸ List.mem_map.mpr ⟨d, m, rfl⟩)
   rw [decide_eq_false hne]
   exact ih nd.2 m
theorem rH {fs : List Dv} (nd : (fs.map aL).Nodup) {d : Dv} (m : d ∈ fs) : eK fs (aL d) = eB d := by
 show (fs.find? fun e => decide (aL e = aL d)).elim 0 eB = _
 rw [aFF nd m]
 rfl
def aHE (fs : List Dv) (op : List Str) (d : Dv) (near far : Str) : List Mt22.St := if far = "sea" then [] else [⟨aL d, near, far, max (aMN op d) (eK fs far)⟩]
def stepsOf (fs : List Dv) (op : List Str) (d : Dv) : List Mt22.St := aHE fs op d (aAU d) (nH d) ++ aHE fs op d (nH d) (aAU d)
def aMM (fs ds : List Dv) (op : List Str) : List Mt22.St := ds.flatMap (stepsOf fs op)
def bZ (s : Mt22.St) : Dv := .tup [.str s.nm, .str s.near, .str s.far, .int s.h]
def flo (fs ds : List Dv) (op : List Str) : Mt22.Lo := aIA (aMM fs ds op) fs.length
def optV : Option Int → V
 | some i => .int i
 | none => .non
end MtF
namespace Mt21
open PySem L2 Ld Mt02
def ab (i : Int) : Nat := 97 + (i % 26).toNat
def oneL (i : Int) : Str := ⟨#[ab i]⟩
structure Put (z b : Str) (at' : Nat) (x y : Int) : Prop where
 codes : z.cps.toList = b.cps.toList.take at' ++ [ab x, ab y] ++ b.cps.toList.drop at'
end Mt21
namespace Mt31
open PySem L2 Ld Mt22
abbrev Cm := List (Str × Option Mt22.St)
def keys (cm : Cm) : List Str := cm.map (·.1)
structure Came (S : List Mt22.St) (cm : Cm) : Prop where
 nd : (keys cm).Nodup
 first : cm[0]? = some (Mt22.sea, none)
 prev : ∀ (i : Nat) (z : Str) (o : Option Mt22.St), 0 < i → cm[i]? = some (z, o) → ∃ s, o = some s ∧ s ∈ S ∧ s.far = z ∧ s.near ∈ keys (cm.take i)
def sT (S : List Mt22.St) (cm : Cm) (p : Nat) : Prop := ∀ (i : Nat) (u : Str), i < p → (keys cm)[i]? = some u → ∀ s ∈ S, s.near = u → s.far ∈ keys cm
theorem kZ (a b : Cm) : keys (a ++ b) = keys a ++ keys b := List.map_append
theorem sT.snoc {S : List Mt22.St} {cm : Cm} {p : Nat} (h : sT S cm p) (hp : p ≤ cm.length) (x : Str × Option Mt22.St) : sT S (cm ++ [x]) p := fun i u hi e s ms en => by
 rw [kZ, List.getElem?_append_left (by unfold keys; rw [List.length_map]; omega)] at e
 rw [kZ]
 exact List.mem_append_left _ (h i u hi e s ms en)
inductive Chain (S : List Mt22.St) : List Mt22.St → Str → Prop
 | nil : Chain S [] Mt22.sea
 | snoc {ss : List Mt22.St} {s : Mt22.St} (c : Chain S ss s.near) (m : s ∈ S) (n : s.far ∉ ss.map (·.far)) : Chain S (ss ++ [s]) s.far
def hm (ss : List Mt22.St) : Int := ss.foldl (fun a s => max a s.h) (-1000000)
theorem xG {S : List Mt22.St} {ss : List Mt22.St} {v : Str} (c : Chain S ss v) : (∀ s ∈ ss, s ∈ S) ∧ (ss.map (·.far)).Nodup := by
 induction c with
 | nil => exact ⟨(fun s m => by cases m), by simp⟩
 | @snoc ss s c m n ih =>
  refine ⟨fun t mt => ?_, ?_⟩
  ·rcases List.mem_append.mp mt with mt | mt
   ·exact ih.1 t mt
   ·rw [List.mem_singleton.mp mt]; exact m
  ·rw [List.map_append, List.nodup_append]
   refine ⟨ih.2, by simp, fun a ha b hb => ?_⟩
   have hb' : b = s.far := List.mem_singleton.mp hb
   intro e
   have e' : a = s.far := e.trans hb'
   exact n (e' ▸ ha)
def aNU (S : List Mt22.St) (cm : Cm) (j : Nat) (z : Str) (tl : List Mt22.St) (side : Str) : Prop := ∀ ss, Chain S ss z → (∀ y ∈ ss.map (·.far), y ∈ keys (cm.take (j + 1))) → Chain S (ss ++ tl) side
theorem aFP {S : List Mt22.St} {cm : Cm} (h : Came S cm) {i j : Nat} {z : Str} {s : Mt22.St} {tl : List Mt22.St} {side : Str} (hj : cm[j]? = some (z, some s)) (ms : s ∈ S) (hf : s.far = z) (hi : i < j) (hu : (keys cm)[i]? = some s.near) (t : aNU S cm j z tl side) : aNU S cm i s.near (s :: tl) side := fun ss c sub => by
 have e : ss ++ s :: tl = (ss ++ [s]) ++ tl := by rw [List.append_assoc]; rfl
 have kj : (keys cm)[j]? = some z := by unfold keys; rw [List.getElem?_map, hj]; rfl
 have ktake : ∀ n, keys (cm.take n) = (keys cm).take n := fun n => by unfold keys; rw [List.map_take]
 have fresh : s.far ∉ ss.map (·.far) := fun m => by
  have h1 := sub _ m
  rw [ktake, hf] at h1
  obtain ⟨k, hk⟩ := List.mem_iff_getElem?.mp h1
  have hkl := (List.getElem?_eq_some_iff.mp hk).1
  rw [List.length_take] at hkl
  rw [List.getElem?_take_of_lt (by omega)] at hk
  obtain ⟨h2, e2⟩ := List.getElem?_eq_some_iff.mp hk
  obtain ⟨h3, e3⟩ := List.getElem?_eq_some_iff.mp kj
  have := (List.getElem_inj h.nd).mp (e2.trans e3.symm)
  omega
 rw [e]
 refine t (ss ++ [s]) (hf ▸ Chain.snoc c ms fresh) fun y my => ?_
 rw [ktake]
 rw [List.map_append] at my
 rcases List.mem_append.mp my with my | my
 ·have := sub y my
  rw [ktake] at this
  obtain ⟨k, hk⟩ := List.mem_iff_getElem?.mp this
  have hkl := (List.getElem?_eq_some_iff.mp hk).1
  rw [List.length_take] at hkl
  rw [List.getElem?_take_of_lt (by omega)] at hk
  exact List.mem_of_getElem? (i := k) (by rw [List.getElem?_take_of_lt (by omega)]; exact hk)
 ·have : y = s.far := List.mem_singleton.mp my
  rw [this, hf]
  exact List.mem_of_getElem? (i := j) (by rw [List.getElem?_take_of_lt (by omega)]; exact kj)
end Mt31
namespace Mt61
open PySem L2 Mt22 Mt31
structure Gap where
 nm : Str
 a : Str
 b : Str
 cap : Int
abbrev Fl := Str → Int
def sm {α : Type} (xs : List α) (f : α → Int) : Int := (xs.map f).sum
section
variable {α β : Type}
theorem tQ (f : α → Int) : sm [] f = 0 := rfl
theorem bU (x : α) (xs : List α) (f : α → Int) : sm (x :: xs) f = f x + sm xs f := by
 unfold sm; rw [List.map_cons, List.sum_cons]
theorem aCM (f : α → Int) : ∀ xs ys : List α, sm (xs ++ ys) f = sm xs f + sm ys f
 | [], ys => by rw [List.nil_append, tQ]; omega
 | x :: xs, ys => by rw [List.cons_append, bU, bU, aCM f xs ys]; omega
theorem eU {f g : α → Int} : ∀ {xs : List α}, (∀ x ∈ xs, f x = g x) → sm xs f = sm xs g
 | [], _ => rfl
 | x :: xs, h => by rw [bU, bU, h x List.mem_cons_self, eU fun y m => h y (List.mem_cons_of_mem _ m)]
theorem aHT {f g : α → Int} : ∀ {xs : List α}, (∀ x ∈ xs, f x ≤ g x) → sm xs f ≤ sm xs g
 | [], _ => Int.le_refl _
 | x :: xs, h => by
  rw [bU, bU]
  have := h x List.mem_cons_self
  have := aHT (xs := xs) fun y m => h y (List.mem_cons_of_mem _ m)
  omega
theorem oQ {f : α → Int} {xs : List α} (h : ∀ x ∈ xs, f x = 0) : sm xs f = 0 := by
 rw [eU h]
 induction xs with
 | nil => rfl
 | cons x xs ih => rw [bU, ih fun y m => h y (List.mem_cons_of_mem _ m)]; rfl
theorem yB (f g : α → Int) : ∀ xs : List α, sm xs (fun x => f x + g x) = sm xs f + sm xs g
 | [] => rfl
 | x :: xs => by rw [bU, bU, bU, yB f g xs]; omega
theorem aCL (f g : α → Int) : ∀ xs : List α, sm xs (fun x => f x - g x) = sm xs f - sm xs g
 | [] => rfl
 | x :: xs => by rw [bU, bU, bU, aCL f g xs]; omega
theorem aER (f : α → β → Int) (ys : List β) : ∀ xs : List α, sm xs (fun x => sm ys (f x)) = sm ys (fun y => sm xs fun x => f x y)
 | [] => (oQ (fun _ _ => rfl)).symm
 | x :: xs => by
  rw [bU, aER f ys xs, ← yB]
  exact eU fun y _ => by rw [bU]
theorem aAI (X : α → Bool) (f : α → Int) : ∀ xs : List α, sm xs f = sm (xs.filter X) f + sm (xs.filter fun x => !X x) f
 | [] => rfl
 | x :: xs => by
  rw [bU, aAI X f xs]
  cases h : X x with
  | true => rw [List.filter_cons_of_pos h, List.filter_cons_of_neg (by simp [h]), bU]; omega
  | false => rw [List.filter_cons_of_neg (by simp [h]), List.filter_cons_of_pos (by simp [h]), bU]; omega
theorem hV (X : α → Bool) (f : α → Int) : ∀ xs : List α, sm (xs.filter X) f = sm xs fun x => if X x = true then f x else 0
 | [] => rfl
 | x :: xs => by
  cases h : X x with
  | true => rw [List.filter_cons_of_pos h, bU, bU, if_pos h, hV X f xs]
  | false => rw [List.filter_cons_of_neg (by simp [h]), bU, if_neg (by simp [h]), hV X f xs]; omega
end
theorem tD {V : List Str} (X : Str → Bool) {w : Str} (c : Int) (nd : V.Nodup) (m : w ∈ V) : sm (V.filter X) (fun v => if w = v then c else 0) = if X w = true then c else 0 := by
 rw [hV]
 induction V with
 | nil => cases m
 | cons v V ih =>
  rw [List.nodup_cons] at nd
  rw [bU]
  by_cases e : w = v
  ·subst e
   rw [oQ (xs := V) fun x mx => ?_]
   ·simp
   ·have : w ≠ x := fun e => nd.1 (e ▸ mx)
    simp [this]
  ·have mV : w ∈ V := by
    rcases List.mem_cons.mp m with h | h
    ·exact absurd h e
    ·exact h
   rw [ih nd.2 mV]
   simp [e]
theorem aEQ {G : List Gap} (nd : (G.map (·.nm)).Nodup) {g0 : Gap} (m : g0 ∈ G) (c : Gap → Int) : sm G (fun g => if g.nm = g0.nm then c g else 0) = c g0 := by
 induction G with
 | nil => cases m
 | cons g G ih =>
  rw [List.map_cons, List.nodup_cons] at nd
  rw [bU]
  rcases List.mem_cons.mp m with rfl | m
  ·rw [oQ (xs := G) fun x mx => ?_]
   ·simp
   ·have : x.nm ≠ g0.nm := fun e => nd.1 (e ▸ List.mem_map.mpr ⟨x, mx, rfl⟩)
    simp [this]
  ·have : g.nm ≠ g0.nm := fun e => nd.1 (e ▸ List.mem_map.mpr ⟨g0, m, rfl⟩)
   rw [ih nd.2 m]
   simp [this]
def qH (f : Fl) (v : Str) (g : Gap) : Int := (if g.b = v then f g.nm else 0) - (if g.a = v then f g.nm else 0)
def net (G : List Gap) (f : Fl) (v : Str) : Int := sm G (qH f v)
def aGK (X : Str → Bool) (f : Fl) (g : Gap) : Int := (if X g.b = true then f g.nm else 0) - (if X g.a = true then f g.nm else 0)
def val (G : List Gap) (f : Fl) : Int := - net G f sea
def aBN (X : Str → Bool) (g : Gap) : Int := if X g.a = X g.b then 0 else g.cap
def cut (G : List Gap) (X : Str → Bool) : Int := sm G (aBN X)
structure Gaps (V : List Str) (G : List Gap) : Prop where
 nd : (G.map (·.nm)).Nodup
 ends : ∀ g ∈ G, g.a ∈ V ∧ g.b ∈ V ∧ g.a ≠ g.b
 cap : ∀ g ∈ G, 0 ≤ g.cap
 vnd : V.Nodup
 sea : Mt22.sea ∈ V
def aCA (G : List Gap) (f : Fl) : Prop := ∀ g ∈ G, -g.cap ≤ f g.nm ∧ f g.nm ≤ g.cap
theorem yW {V : List Str} {G : List Gap} (h : Gaps V G) (X : Str → Bool) (f : Fl) : sm (V.filter X) (net G f) = sm G (aGK X f) := by
 unfold net
 rw [aER]
 refine eU fun g mg => ?_
 obtain ⟨ma, mb, _⟩ := h.ends g mg
 show sm (V.filter X) (fun v => (if g.b = v then f g.nm else 0) - (if g.a = v then f g.nm else 0)) = _
 rw [aCL, tD X (f g.nm) h.vnd mb, tD X (f g.nm) h.vnd ma]
 rfl
theorem aLB {V : List Str} {G : List Gap} (h : Gaps V G) (f : Fl) : sm V (net G f) = 0 := by
 have := yW h (fun _ => true) f
 rw [List.filter_eq_self.mpr (fun _ _ => rfl)] at this
 rw [this]
 refine oQ fun g _ => ?_
 unfold aGK
 simp
theorem tK {V : List Str} {G : List Gap} (h : Gaps V G) {f : Fl} {X : Str → Bool} (hs : X Mt22.sea = false) (hz : ∀ v ∈ V, v ≠ Mt22.sea → X v = false → net G f v = 0) : sm G (aGK X f) = val G f := by
 rw [← yW h X f]
 have a := aLB h f
 rw [aAI X (net G f) V] at a
 have b : sm (V.filter fun x => !X x) (net G f) = net G f Mt22.sea := by
  have e : sm (V.filter fun x => !X x) (net G f) = sm (V.filter fun x => !X x) (fun v => if Mt22.sea = v then net G f Mt22.sea else 0) := eU fun v mv => by
   rw [List.mem_filter] at mv
   by_cases hv : Mt22.sea = v
   ·rw [if_pos hv, hv]
   ·rw [if_neg hv]
    exact hz v mv.1 (fun e => hv e.symm) (by simpa using mv.2)
  rw [e, tD (fun x => !X x) _ h.vnd h.sea, hs]
  rfl
 unfold val
 omega
theorem aLF {G : List Gap} {f : Fl} (hf : aCA G f) (X : Str → Bool) : ∀ g ∈ G, aGK X f g ≤ aBN X g := fun g m => by
 obtain ⟨h1, h2⟩ := hf g m
 unfold aGK aBN
 cases ha : X g.a <;> cases hb : X g.b <;> simp <;> omega
theorem aMG {V : List Str} {G : List Gap} (h : Gaps V G) {f : Fl} (hf : aCA G f) {X : Str → Bool} (hs : X Mt22.sea = false) (hz : ∀ v ∈ V, v ≠ Mt22.sea → X v = false → net G f v = 0) : val G f ≤ cut G X := by
 rw [← tK h hs hz]
 exact aHT (aLF hf X)
theorem aMH {V : List Str} {G : List Gap} (h : Gaps V G) {f : Fl} {X : Str → Bool} (hs : X Mt22.sea = false) (hz : ∀ v ∈ V, v ≠ Mt22.sea → X v = false → net G f v = 0)
  (h1 : ∀ g ∈ G, X g.a = false → X g.b = true → f g.nm = g.cap) (h2 : ∀ g ∈ G, X g.a = true → X g.b = false → f g.nm = -g.cap) : val G f = cut G X := by
 rw [← tK h hs hz]
 refine eU fun g m => ?_
 have e1 := h1 g m
 have e2 := h2 g m
 unfold aGK aBN
 cases ha : X g.a <;> cases hb : X g.b <;> simp [ha, hb] at e1 e2 ⊢ <;> omega
def up (g : Gap) : Mt22.St := ⟨g.nm, g.a, g.b, 1⟩
def dn (g : Gap) : Mt22.St := ⟨g.nm, g.b, g.a, -1⟩
def stepsOf (G : List Gap) : List Mt22.St := G.flatMap fun g => [up g, dn g]
theorem mem_steps {G : List Gap} {s : Mt22.St} : s ∈ stepsOf G ↔ ∃ g ∈ G, s = up g ∨ s = dn g := by
 unfold stepsOf
 rw [List.mem_flatMap]
 simp
def kB (m : Int) (f : Fl) (s : Mt22.St) : Fl := fun n => if n = s.nm then f n + s.h * m else f n
theorem aLC {V : List Str} {G : List Gap} (h : Gaps V G) {s : Mt22.St} (ms : s ∈ stepsOf G) (m : Int) (f : Fl) (v : Str) : net G (kB m f s) v = net G f v + ((if s.far = v then m else 0) - (if s.near = v then m else 0)) := by
 obtain ⟨g0, m0, e⟩ := mem_steps.mp ms
 have key : net G (kB m f s) v = net G f v + sm G (fun g => if g.nm = g0.nm then ((if s.far = v then m else 0) - (if s.near = v then m else 0)) else 0) := by
  unfold net
  rw [← yB]
  refine eU fun g mg => ?_
  unfold qH kB
  have hn : s.nm = g0.nm := by rcases e with rfl | rfl <;> rfl
  by_cases hg : g.nm = g0.nm
  ·have eg : g = g0 := by
    have nd := h.nd
    obtain ⟨i, hi⟩ := List.mem_iff_getElem?.mp mg
    obtain ⟨j, hj⟩ := List.mem_iff_getElem?.mp m0
    obtain ⟨li, ei⟩ := List.getElem?_eq_some_iff.mp hi
    obtain ⟨lj, ej⟩ := List.getElem?_eq_some_iff.mp hj
    have : i = j := (List.getElem_inj (xs := G.map (·.nm)) (h₀ := by rw [List.length_map]; exact li) (h₁ := by rw [List.length_map]; exact lj) nd).mp (by rw [List.getElem_map, List.getElem_map, ei, ej, hg])
    subst this
    rw [← ei, ← ej]
   subst eg
   rw [if_pos hg, if_pos hn.symm]
   rcases e with rfl | rfl
   ·show (if g.b = v then f g.nm + 1 * m else 0) - (if g.a = v then f g.nm + 1 * m else 0) = (if g.b = v then f g.nm else 0) - (if g.a = v then f g.nm else 0) + ((if g.b = v then m else 0) - (if g.a = v then m else 0))
    split <;> split <;> omega
   ·show (if g.b = v then f g.nm + -1 * m else 0) - (if g.a = v then f g.nm + -1 * m else 0) = (if g.b = v then f g.nm else 0) - (if g.a = v then f g.nm else 0) + ((if g.a = v then m else 0) - (if g.b = v then m else 0))
    split <;> split <;> omega
  ·have hg' : ¬ g.nm = s.nm := fun e => hg (e.trans hn)
   simp only [if_neg hg, if_neg hg']
   omega
 rw [key, aEQ h.nd m0]
theorem qZ {V : List Str} {G : List Gap} (h : Gaps V G) {S ss : List Mt22.St} {z : Str} (c : Chain S ss z) (hS : ∀ s ∈ S, s ∈ stepsOf G) (m : Int) (f : Fl) (v : Str) : net G (ss.foldl (kB m) f) v = net G f v + ((if z = v then m else 0) - (if Mt22.sea = v then m else 0)) := by
 induction c with
 | nil =>
  show net G f v = _
  omega
 | @snoc ss s c ms n ih =>
  rw [List.foldl_append]
  show net G (kB m (ss.foldl (kB m) f) s) v = _
  rw [aLC h (hS s ms), ih]
  omega
theorem aFD (m : Int) (n : Str) : ∀ (ss : List Mt22.St) (f : Fl), (ss.foldl (kB m) f) n = f n + m * sm ss (fun s => if s.nm = n then s.h else 0)
 | [], f => by rw [tQ, Int.mul_zero, Int.add_zero]; rfl
 | s :: ss, f => by
  show (ss.foldl (kB m) (kB m f s)) n = _
  rw [aFD m n ss, bU, Int.mul_add]
  unfold kB
  by_cases e : s.nm = n
  ·rw [if_pos e, if_pos e.symm, Int.mul_comm m s.h]
   omega
  ·rw [if_neg e, if_neg (fun q => e q.symm), Int.mul_zero]
   omega
theorem aLI {V : List Str} {G : List Gap} (h : Gaps V G) {g g' : Gap} (m : g ∈ G) (m' : g' ∈ G) (e : g.nm = g'.nm) : g = g' := by
 obtain ⟨i, hi⟩ := List.mem_iff_getElem?.mp m
 obtain ⟨j, hj⟩ := List.mem_iff_getElem?.mp m'
 obtain ⟨li, ei⟩ := List.getElem?_eq_some_iff.mp hi
 obtain ⟨lj, ej⟩ := List.getElem?_eq_some_iff.mp hj
 have : i = j := (List.getElem_inj (xs := G.map (·.nm)) (h₀ := by rw [List.length_map]; exact li) (h₁ := by rw [List.length_map]; exact lj) h.nd).mp (by rw [List.getElem_map, List.getElem_map, ei, ej, e])
 subst this
 rw [← ei, ← ej]
instance stDec : DecidableEq Mt22.St := fun a b => decidable_of_iff (a.nm = b.nm ∧ a.near = b.near ∧ a.far = b.far ∧ a.h = b.h) (by
 cases a; cases b; simp)
theorem aAJ {V : List Str} {G : List Gap} (h : Gaps V G) {g : Gap} (mg : g ∈ G) : ∀ {ss : List Mt22.St}, (∀ s ∈ ss, s ∈ stepsOf G) → ss.Nodup → sm ss (fun s => if s.nm = g.nm then s.h else 0) = (if up g ∈ ss then 1 else 0) - (if dn g ∈ ss then 1 else 0)
 | [], _, _ => by simp [tQ]
 | s :: ss, hs, nd => by
  rw [List.nodup_cons] at nd
  rw [bU, aAJ h mg (fun t m => hs t (List.mem_cons_of_mem _ m)) nd.2]
  have ne : up g ≠ dn g := fun e => by
   have := congrArg Mt22.St.h e
   exact absurd this (by show (1 : Int) ≠ -1; decide)
  by_cases e : s.nm = g.nm
  ·obtain ⟨g', m', e'⟩ := mem_steps.mp (hs s List.mem_cons_self)
   have eg : g' = g := aLI h m' mg (by rcases e' with rfl | rfl <;> exact e)
   subst eg
   rcases e' with rfl | rfl
   ·rw [if_pos e, if_pos List.mem_cons_self, if_neg nd.1]
    have : (dn g' ∈ up g' :: ss) ↔ dn g' ∈ ss := by simp [Ne.symm ne]
    simp only [this]
    show (1 : Int) + _ = _
    omega
   ·rw [if_pos e, if_pos (show dn g' ∈ dn g' :: ss from List.mem_cons_self), if_neg nd.1]
    have : (up g' ∈ dn g' :: ss) ↔ up g' ∈ ss := by simp [ne]
    simp only [this]
    show (-1 : Int) + _ = _
    omega
  ·have n1 : s ≠ up g := fun q => e (by rw [q]; rfl)
   have n2 : s ≠ dn g := fun q => e (by rw [q]; rfl)
   have : (up g ∈ s :: ss) ↔ up g ∈ ss := by simp [Ne.symm n1]
   have h2 : (dn g ∈ s :: ss) ↔ dn g ∈ ss := by simp [Ne.symm n2]
   simp only [this, h2, if_neg e]
   omega
def mG (G : List Gap) (n : Str) : Int := sm G fun g => if g.nm = n then g.cap else 0
theorem lF {V : List Str} {G : List Gap} (h : Gaps V G) {g : Gap} (m : g ∈ G) : mG G g.nm = g.cap := aEQ h.nd m (·.cap)
def room (G : List Gap) (f : Fl) (s : Mt22.St) : Int := mG G s.nm - s.h * f s.nm
theorem aET {V : List Str} {G : List Gap} (h : Gaps V G) {g : Gap} (m : g ∈ G) (f : Fl) : room G f (up g) = g.cap - f g.nm := by
 show mG G g.nm - 1 * f g.nm = _
 rw [lF h m]
 omega
theorem aEU {V : List Str} {G : List Gap} (h : Gaps V G) {g : Gap} (m : g ∈ G) (f : Fl) : room G f (dn g) = g.cap + f g.nm := by
 show mG G g.nm - -1 * f g.nm = _
 rw [lF h m]
 omega
theorem aDT {V : List Str} {G : List Gap} (h : Gaps V G) {S ss : List Mt22.St} {z : Str} (c : Chain S ss z) (hS : ∀ s ∈ S, s ∈ stepsOf G) {m : Int} (m0 : 0 ≤ m) {f : Fl} (hf : aCA G f) (hr : ∀ s ∈ ss, m ≤ room G f s) : aCA G (ss.foldl (kB m) f) := fun g mg => by
 obtain ⟨f1, f2⟩ := hf g mg
 obtain ⟨sub, nd⟩ := xG c
 have nd' : ss.Nodup := by
  rw [List.nodup_iff_pairwise_ne]
  exact ((List.pairwise_map.mp (List.nodup_iff_pairwise_ne.mp nd))).imp fun hne e => hne (by rw [e])
 rw [aFD, aAJ h mg (fun s ms => hS s (sub s ms)) nd']
 have r1 : up g ∈ ss → m ≤ g.cap - f g.nm := fun q => by have := hr _ q; rwa [aET h mg] at this
 have r2 : dn g ∈ ss → m ≤ g.cap + f g.nm := fun q => by have := hr _ q; rwa [aEU h mg] at this
 by_cases u : up g ∈ ss <;> by_cases d : dn g ∈ ss
 ·rw [if_pos u, if_pos d]; have := r1 u; have := r2 d; omega
 ·rw [if_pos u, if_neg d]; have := r1 u; omega
 ·rw [if_neg u, if_pos d]; have := r2 d; omega
 ·rw [if_neg u, if_neg d]; omega
structure Stream (V : List Str) (G : List Gap) (ws : List Str) (f : Fl) : Prop where
 fits : aCA G f
 zero : ∀ v ∈ V, v ≠ Mt22.sea → v ∉ ws → net G f v = 0
 gain : ∀ v ∈ ws, 0 ≤ net G f v
theorem Stream.none {V : List Str} {G : List Gap} (h : Gaps V G) (ws : List Str) {f : Fl} (hf : ∀ g ∈ G, f g.nm = 0) : Stream V G ws f := by
 have z : ∀ v, net G f v = 0 := fun v => oQ fun g m => by
  unfold qH
  rw [hf g m]
  simp
 refine ⟨fun g m => ?_, fun v _ _ _ => z v, fun v _ => by rw [z v]; exact Int.le_refl _⟩
 have := h.cap g m
 rw [hf g m]
 omega
theorem Stream.more {V : List Str} {G : List Gap} (h : Gaps V G) {ws : List Str} {f : Fl} (st : Stream V G ws f) {S ss : List Mt22.St} {z : Str} (c : Chain S ss z) (hS : ∀ s ∈ S, s ∈ stepsOf G) {m : Int} (m0 : 0 ≤ m) (hr : ∀ s ∈ ss, m ≤ room G f s) (mz : z ∈ ws) (ns : Mt22.sea ∉ ws) :
  Stream V G ws (ss.foldl (kB m) f) ∧ val G (ss.foldl (kB m) f) = val G f + m := by
 have zs : z ≠ Mt22.sea := fun e => ns (e ▸ mz)
 refine ⟨⟨aDT h c hS m0 st.fits hr, fun v mv hv hw => ?_, fun v mv => ?_⟩, ?_⟩
 ·rw [qZ h c hS, st.zero v mv hv hw, if_neg (show ¬ z = v from fun e => hw (e ▸ mz)), if_neg (show ¬ Mt22.sea = v from fun e => hv e.symm)]
  rfl
 ·rw [qZ h c hS, if_neg (show ¬ Mt22.sea = v from fun e => ns (e ▸ mv))]
  have := st.gain v mv
  split <;> omega
 ·unfold val
  rw [qZ h c hS, if_neg zs, if_pos rfl]
  omega
def zV (G : List Gap) : Int := sm G (·.cap)
theorem aFN {V : List Str} {G : List Gap} (h : Gaps V G) {f : Fl} (hf : aCA G f) : val G f ≤ zV G := by
 unfold val net zV
 have : sm G (qH f Mt22.sea) ≥ sm G (fun g => 0 - g.cap) := aHT fun g m => by
  obtain ⟨f1, f2⟩ := hf g m
  obtain ⟨_, _, ne⟩ := h.ends g m
  have := h.cap g m
  unfold qH
  by_cases e1 : g.b = Mt22.sea <;> by_cases e2 : g.a = Mt22.sea
  ·exact absurd (e2.trans e1.symm) ne
  ·rw [if_pos e1, if_neg e2]; omega
  ·rw [if_neg e1, if_pos e2]; omega
  ·rw [if_neg e1, if_neg e2]; omega
 rw [aCL, oQ (f := fun _ => (0 : Int)) (fun _ _ => rfl)] at this
 have e : (sm G fun x => x.cap) = sm G Gap.cap := rfl
 omega
structure Round (G : List Gap) (f : Fl) (ws R B : List Str) : Prop where
 sea : Mt22.sea ∈ R
 closed : ∀ s ∈ stepsOf G, 0 < room G f s → s.near ∈ R → s.far ∈ R
 wout : ∀ z ∈ ws, z ∉ R
 win : ∀ z ∈ ws, z ∈ B
 bout : ∀ z ∈ B, z ∉ R
 bclosed : ∀ s ∈ stepsOf G, s.far ∉ R → s.near ∈ B → s.far ∈ B
instance memStr (z : Str) (l : List Str) : Decidable (z ∈ l) := inferInstance
def inB (B : List Str) : Str → Bool := fun z => decide (z ∈ B)
theorem lM {V : List Str} {G : List Gap} (h : Gaps V G) {f : Fl} (hf : aCA G f) {ws R B : List Str} (r : Round G f ws R B) {g : Gap} (m : g ∈ G) :
  (g.a ∉ B → g.b ∈ B → g.a ∈ R ∧ f g.nm = g.cap) ∧ (g.a ∈ B → g.b ∉ B → g.b ∈ R ∧ f g.nm = -g.cap) := by
 obtain ⟨f1, f2⟩ := hf g m
 have mu : up g ∈ stepsOf G := mem_steps.mpr ⟨g, m, .inl rfl⟩
 have md : dn g ∈ stepsOf G := mem_steps.mpr ⟨g, m, .inr rfl⟩
 refine ⟨fun ha hb => ?_, fun ha hb => ?_⟩
 ·have aR : g.a ∈ R := Classical.byContradiction fun n => ha (r.bclosed _ md n hb)
  refine ⟨aR, ?_⟩
  have : ¬ 0 < room G f (up g) := fun q => r.bout _ hb (r.closed _ mu q aR)
  rw [aET h m] at this
  omega
 ·have bR : g.b ∈ R := Classical.byContradiction fun n => hb (r.bclosed _ mu n ha)
  refine ⟨bR, ?_⟩
  have : ¬ 0 < room G f (dn g) := fun q => r.bout _ ha (r.closed _ md q bR)
  rw [aEU h m] at this
  omega
theorem wN {V : List Str} {G : List Gap} (h : Gaps V G) {f : Fl} {ws R B : List Str} (st : Stream V G ws f) (r : Round G f ws R B) : val G f = cut G (inB B) := by
 have sB : Mt22.sea ∉ B := fun m => r.bout _ m r.sea
 refine aMH h (decide_eq_false sB) (fun v mv hv hX => ?_) (fun g m ha hb => ?_) (fun g m ha hb => ?_)
 ·exact st.zero v mv hv fun w => (of_decide_eq_false hX) (r.win v w)
 ·exact ((lM h st.fits r m).1 (of_decide_eq_false ha) (of_decide_eq_true hb)).2
 ·exact ((lM h st.fits r m).2 (of_decide_eq_true ha) (of_decide_eq_false hb)).2
def cB (G : List Gap) (R B : List Str) : List Mt22.St := (stepsOf G).filter fun s => decide (s.near ∈ R) && decide (s.far ∈ B)
theorem uB {V : List Str} {G : List Gap} (h : Gaps V G) {f : Fl} {ws R B : List Str} (st : Stream V G ws f) (r : Round G f ws R B) : sm (cB G R B) (fun s => mG G s.nm) = val G f := by
 rw [wN h st r]
 unfold cB cut stepsOf
 rw [hV]
 have key : ∀ G' : List Gap, (∀ g ∈ G', g ∈ G) → sm (G'.flatMap fun g => [up g, dn g]) (fun s => if (decide (s.near ∈ R) && decide (s.far ∈ B)) = true then mG G s.nm else 0) = sm G' (aBN (inB B)) := by
  intro G'
  induction G' with
  | nil => intro _; rfl
  | cons g G' ih =>
   intro sub
   have m := sub g List.mem_cons_self
   rw [List.flatMap_cons, aCM, ih fun x mx => sub x (List.mem_cons_of_mem _ mx), bU g]
   congr 1
   rw [bU, bU, tQ]
   show (if (decide (g.a ∈ R) && decide (g.b ∈ B)) = true then mG G g.nm else 0) + ((if (decide (g.b ∈ R) && decide (g.a ∈ B)) = true then mG G g.nm else 0) + 0) = (if decide (g.a ∈ B) = decide (g.b ∈ B) then 0 else g.cap)
   rw [lF h m]
   obtain ⟨e1, e2⟩ := lM h st.fits r m
   by_cases ha : g.a ∈ B <;> by_cases hb : g.b ∈ B
   ·have := r.bout _ ha
    have := r.bout _ hb
    simp [*]
   ·have := r.bout _ ha
    have := (e2 ha hb).1
    simp [*]
   ·have := r.bout _ hb
    have := (e1 ha hb).1
    simp [*]
   ·simp [*]
 exact key G fun g m => m
def aBY (G : List Gap) (ws : List Str) (c : Int) : Prop := (∃ X : Str → Bool, X Mt22.sea = false ∧ (∀ z ∈ ws, X z = true) ∧ cut G X = c) ∧ ∀ X : Str → Bool, X Mt22.sea = false → (∀ z ∈ ws, X z = true) → c ≤ cut G X
theorem aAR {V : List Str} {G : List Gap} (h : Gaps V G) {f : Fl} {ws R B : List Str} (st : Stream V G ws f) (r : Round G f ws R B) : aBY G ws (val G f) := by
 refine ⟨⟨inB B, decide_eq_false fun m => r.bout _ m r.sea, fun z m => decide_eq_true (r.win z m), (wN h st r).symm⟩, fun X hs hw => ?_⟩
 refine aMG h st.fits hs fun v mv hv hX => st.zero v mv hv fun w => ?_
 rw [hw v w] at hX
 cases hX
theorem aBY.uniq {G : List Gap} {ws : List Str} {c d : Int} (h : aBY G ws c) (h' : aBY G ws d) : c = d := by
 obtain ⟨⟨X, s, w, e⟩, a⟩ := h
 obtain ⟨⟨X', s', w', e'⟩, a'⟩ := h'
 have := a X' s' w'
 have := a' X s w
 omega
end Mt61
namespace Mt61
open PySem L2 Mt22 Mt31
structure CameG (zs : List Str) (S : List Mt22.St) (cm : Cm) : Prop where
 nd : (keys cm).Nodup
 le : zs.length ≤ cm.length
 first : ∀ (i : Nat) (z : Str), zs[i]? = some z → cm[i]? = some (z, none)
 prev : ∀ (i : Nat) (z : Str) (o : Option Mt22.St), zs.length ≤ i → cm[i]? = some (z, o) → ∃ s, o = some s ∧ s ∈ S ∧ s.far = z ∧ s.near ∈ keys (cm.take i)
theorem CameG.snoc {zs : List Str} {S : List Mt22.St} {cm : Cm} (h : CameG zs S cm) {s : Mt22.St} (ms : s ∈ S) (hn : s.near ∈ keys cm) (hf : s.far ∉ keys cm) : CameG zs S (cm ++ [(s.far, some s)]) where
 nd := by
  rw [kZ, List.nodup_append]
  refine ⟨h.nd, by simp [keys], fun a ha b hb => ?_⟩
  have : b = s.far := by simpa [keys] using hb
  rw [this]
  exact fun e => hf (e ▸ ha)
 le := by
  rw [List.length_append]
  have := h.le
  omega
 first i z e := by
  have := (List.getElem?_eq_some_iff.mp e).1
  have := h.le
  rw [List.getElem?_append_left (by omega)]
  exact h.first i z e
 prev i z o hi e := by
  by_cases hl : i < cm.length
  ·rw [List.getElem?_append_left hl] at e
   obtain ⟨t, h1, h2, h3, h4⟩ := h.prev i z o hi e
   exact ⟨t, h1, h2, h3, by rw [List.take_append_of_le_length (Nat.le_of_lt hl)]; exact h4⟩
  ·have hlen := (List.getElem?_eq_some_iff.mp e).1
   rw [List.length_append] at hlen
   have hi' : i = cm.length := by
    have : ([(s.far, some s)] : Cm).length = 1 := rfl
    omega
   subst hi'
   rw [List.getElem?_append_right (Nat.le_refl _), Nat.sub_self] at e
   cases e
   refine ⟨s, rfl, ms, rfl, ?_⟩
   rw [List.take_append_of_le_length (Nat.le_refl _), List.take_of_length_le (Nat.le_refl _)]
   exact hn
theorem CameG.init {zs : List Str} (S : List Mt22.St) (nd : zs.Nodup) : CameG zs S (zs.map fun z => (z, none)) where
 nd := by
  have : keys (zs.map fun z => ((z, none) : Str × Option Mt22.St)) = zs := by unfold keys; rw [List.map_map]; exact List.map_id _
  rw [this]
  exact nd
 le := by rw [List.length_map]; exact Nat.le_refl _
 first i z e := by rw [List.getElem?_map, e]; rfl
 prev i z o hi e := by
  have := (List.getElem?_eq_some_iff.mp e).1
  rw [List.length_map] at this
  omega
theorem CameG.came {S : List Mt22.St} {cm : Cm} (h : CameG [Mt22.sea] S cm) : Came S cm := ⟨h.nd, h.first 0 _ rfl, fun i z o hi e => h.prev i z o (by show 1 ≤ i; omega) e⟩
theorem CameG.mem {zs : List Str} {S : List Mt22.St} {cm : Cm} (h : CameG zs S cm) {z : Str} (m : z ∈ keys cm) : z ∈ zs ∨ ∃ s ∈ S, s.far = z := by
 unfold keys at m
 obtain ⟨x, mx, rfl⟩ := List.mem_map.mp m
 obtain ⟨i, hi⟩ := List.mem_iff_getElem?.mp mx
 by_cases hl : i < zs.length
 ·obtain ⟨z, ez⟩ : ∃ z, zs[i]? = some z := ⟨_, List.getElem?_eq_getElem hl⟩
  have := h.first i z ez
  rw [hi] at this
  cases this
  exact .inl (List.mem_of_getElem? ez)
 ·obtain ⟨s, _, ms, e, _⟩ := h.prev i x.1 x.2 (by omega) hi
  exact .inr ⟨s, ms, e⟩
theorem CameG.start {zs : List Str} {S : List Mt22.St} {cm : Cm} (h : CameG zs S cm) {z : Str} (m : z ∈ zs) : z ∈ keys cm := by
 obtain ⟨i, hi⟩ := List.mem_iff_getElem?.mp m
 exact List.mem_map.mpr ⟨_, List.mem_of_getElem? (h.first i z hi), rfl⟩
theorem nJ {S : List Mt22.St} {cm : Cm} (c : sT S cm cm.length) : ∀ s ∈ S, s.near ∈ keys cm → s.far ∈ keys cm := fun s ms hn => by
 obtain ⟨i, hi⟩ := List.mem_iff_getElem?.mp hn
 have hl := (List.getElem?_eq_some_iff.mp hi).1
 unfold keys at hl
 rw [List.length_map] at hl
 exact c i _ hl hi s ms rfl
end Mt61
namespace Mt05
open PySem L2 Ld Mt02
def noS (z : Str) : Prop := ¬ (115 : Nat) ∈ z.cps.toList
structure NamesS (zs : List Str) (n : Nat) : Prop where
 nm : Names zs n
 nos : ∀ z ∈ zs, noS z
end Mt05
namespace L2
open PySem PySem.Spec PyProof.Rows
theorem xM : bootBuiltins "abs" = some (.builtin "abs") := by decide +kernel
theorem rP : bootBuiltins "sum" = some (.builtin "sum") := by decide +kernel
theorem aJC {ns : List Int} {us : List Value} (h : IntsAre us ns) : us.length = ns.length ∧ ∀ (i : Nat) (v : Value), us[i]? = some v → ∃ t, v = .int (ns.getD i 0) t := by
 induction h with
 | nil => exact ⟨rfl, fun i v e => by cases e⟩
 | cons n t r ih =>
  refine ⟨by rw [List.length_cons, List.length_cons, ih.1], fun i v e => ?_⟩
  cases i with
  | zero => cases e; exact ⟨t, rfl⟩
  | succ i => exact ih.2 i v e
theorem rW (ns : List Int) : ∀ n, n ≤ ns.length → preSum (fun i => ns.getD i 0) n = (ns.take n).sum
 | 0, _ => by rw [List.take_zero]; rfl
 | n + 1, h => by
  have ih := rW ns n (by omega)
  have e : ns.take (n + 1) = ns.take n ++ [ns.getD n 0] := by
   rw [List.take_add_one, List.getElem?_eq_getElem (by omega), List.getD_eq_getElem?_getD, List.getElem?_eq_getElem (by omega)]
   rfl
  rw [e, List.sum_append, ← ih]
  show preSum _ n + ns.getD n 0 = _
  simp
section
variable {X : Cx}
theorem vL (hc : X.calm = true) : gJ X (.builtin "sum") (fun xs H Q => ∃ (p : Addr) (ns : List Int), xs = [.ref p] ∧ SqL X.K H p (ns.map V.int) ∧ Q (.int ns.sum) H) := by
 intro pins s σ H xs us Q I r h
 obtain ⟨p, ns, rfl, hq, q⟩ := h
 obtain ⟨u, rfl, ru⟩ := bO.one r
 cases ru
 obtain ⟨its, rv, pl, hz⟩ := I.list hq
 have hb := aJC (uU rv)
 have hl := pl.isList
 have hlt : p < s.heap.objs.size := by obtain ⟨_, e, _⟩ := hl; exact Heap.lt_size e
 refine call_sum_walkG (wpAny_pyIter_list hl ?_)
 refine ⟨s.heap.objs.size, [s.heap.objs.size, p], [s.heap.objs.size], its.toArray.size, _, _, fun i => ns.getD i 0, rfl, Walks.list (A := X.A.in1) (I.ok.hd hc) _ p (Nat.ne_of_lt hlt) its.toArray,
  ⟨⟨_, Heap.get?_push_size _ rfl, rfl, rfl⟩, hl.push _⟩, fun b hb' => ?_, fun i v hP => hb.2 i v (by simpa using hP), fun h' tk t' hk => ?_⟩
 ·simp only [List.mem_cons, List.not_mem_nil, or_false] at hb'
  show b < (s.heap.push _).objs.size
  rw [show (s.heap.push _).objs.size = s.heap.objs.size + 1 from Array.size_push ..]
  rcases hb' with e | e
  ·rw [e]; exact Nat.lt_succ_self _
  ·rw [e]; exact Nat.lt_succ_of_lt hlt
 ·have e : preSum (fun i => ns.getD i 0) its.toArray.size = ns.sum := by
   rw [rW _ _ (by rw [List.size_toArray]; omega), List.take_of_length_le (by rw [List.size_toArray]; omega)]
  rw [e]
  exact ⟨.int _, H, I.kept (LSm.kept_iter hk), ⟨_, rfl⟩, q⟩
end
end L2
namespace Mt53
open PySem L2 Ld Mt02 Mt04
def aEW : Dv → Int
 | .tup [_, _, _, _, .int r, _] => r
 | _ => 0
def uC (ds : List Dv) (z : Str) : Int := (ds.find? fun d => decide (aL d = z)).elim 0 aEW
theorem aEV {ds : List Dv} (nd : (ds.map aL).Nodup) {d : Dv} (m : d ∈ ds) : uC ds (aL d) = aEW d := by
 have : (ds.find? fun e => decide (aL e = aL d)) = some d := by
  induction ds with
  | nil => cases m
  | cons e ds ih =>
   rw [List.map_cons, List.nodup_cons] at nd
   rw [List.find?_cons]
   rcases List.mem_cons.mp m with rfl | m
   ·rw [decide_eq_true rfl]
   ·have hne : aL e ≠ aL d := fun c => nd.1 (c ▸ List.mem_map.mpr ⟨d, m, rfl⟩)
    rw [decide_eq_false hne]
    exact ih nd.2 m
 show (ds.find? fun e => decide (aL e = aL d)).elim 0 aEW = _
 rw [this]
 rfl
def aBP (ds : List Dv) (w : Dv) : Int := uC ds (aL w) * (hOf w - eS ds (aL w))
def zH (ds ws : List Dv) : Int := (ws.map (aBP ds)).sum
end Mt53
namespace Mt51
open PySem L2 Ld Mt04 Mt22 MtF Mt53
structure Gp where
 nm : Str
 one : Str
 other : Str
 coins : Int
def lB (g : Gp) : Dv := .tup [.str g.nm, .str g.one, .str g.other, .int g.coins]
def lowS (fs : List Dv) (L : Int) : List Str := "sea" :: (fs.filter fun d => decide (eB d < L)).map aL
def qI (fs : List Dv) (L : Int) (d : Dv) : Bool := decide (rN d < L) && (decide (aAU d ∈ lowS fs L) && decide (nH d ∈ lowS fs L))
def zW (L : Int) (d : Dv) : Gp := ⟨aL d, aAU d, nH d, aEW d * (L - rN d)⟩
def gapsD (fs ds : List Dv) (L : Int) : List Gp := (ds.filter (qI fs L)).map (zW L)
inductive Reach (G : List Gp) : Str → Prop
 | sea : Reach G Mt22.sea
 | fwd {g : Gp} (m : g ∈ G) (r : Reach G g.one) : Reach G g.other
 | bwd {g : Gp} (m : g ∈ G) (r : Reach G g.other) : Reach G g.one
theorem aDL {fs : List Dv} (gf : GoodF fs) {L : Int} {z : Str} (h : z ∈ lowS fs L) (hz : z ≠ "sea") : eK fs z < L := by
 rcases List.mem_cons.mp h with e | h
 ·exact absurd e hz
 ·obtain ⟨d, md, rfl⟩ := List.mem_map.mp h
  rw [List.mem_filter] at md
  rw [rH gf.nd md.1]
  exact of_decide_eq_true md.2
theorem aDO {fs : List Dv} (gf : GoodF fs) {L : Int} {z : Str} (m : z ∈ fs.map aL) (h : eK fs z < L) : z ∈ lowS fs L := by
 obtain ⟨d, md, rfl⟩ := List.mem_map.mp m
 rw [rH gf.nd md] at h
 exact List.mem_cons_of_mem _ (List.mem_map.mpr ⟨d, List.mem_filter.mpr ⟨md, decide_eq_true h⟩, rfl⟩)
theorem aIT {fs ds : List Dv} {L : Int} {g : Gp} : g ∈ gapsD fs ds L ↔ ∃ d ∈ ds, rN d < L ∧ aAU d ∈ lowS fs L ∧ nH d ∈ lowS fs L ∧ g = zW L d := by
 unfold gapsD
 rw [List.mem_map]
 constructor
 ·rintro ⟨d, md, rfl⟩
  rw [List.mem_filter] at md
  obtain ⟨m, h⟩ := md
  unfold qI at h
  rw [Bool.and_eq_true, Bool.and_eq_true] at h
  exact ⟨d, m, of_decide_eq_true h.1, of_decide_eq_true h.2.1, of_decide_eq_true h.2.2, rfl⟩
 ·rintro ⟨d, m, h1, h2, h3, rfl⟩
  refine ⟨d, List.mem_filter.mpr ⟨m, ?_⟩, rfl⟩
  unfold qI
  rw [decide_eq_true h1, decide_eq_true h2, decide_eq_true h3]
  rfl
structure Grow (G : List Gp) (V : List Str) (zs : List Str) : Prop where
 nd : zs.Nodup
 sub : ∀ z ∈ zs, z ∈ V
 sea : Mt22.sea ∈ zs
 sound : ∀ z ∈ zs, Reach G z
def Nbr (zs : List Str) (u : Str) (g : Gp) : Prop := (u = g.one → g.other ∈ zs) ∧ (u = g.other → g.one ∈ zs)
def oM (G : List Gp) (zs : List Str) (k : Nat) : Prop := ∀ i u, i < k → zs[i]? = some u → ∀ g ∈ G, Nbr zs u g
theorem Grow.snoc {G : List Gp} {V zs : List Str} (h : Grow G V zs) {z : Str} (n : z ∉ zs) (v : z ∈ V) (r : Reach G z) : Grow G V (zs ++ [z]) where
 nd := by
  rw [List.nodup_append]
  refine ⟨h.nd, by simp, fun a ha b hb => ?_⟩
  rw [List.mem_singleton.mp hb]
  exact fun e => n (e ▸ ha)
 sub x m := by
  rcases List.mem_append.mp m with m | m
  ·exact h.sub x m
  ·rw [List.mem_singleton.mp m]; exact v
 sea := List.mem_append_left _ h.sea
 sound x m := by
  rcases List.mem_append.mp m with m | m
  ·exact h.sound x m
  ·rw [List.mem_singleton.mp m]; exact r
theorem Nbr.snoc {zs : List Str} {u : Str} {g : Gp} (h : Nbr zs u g) (more : List Str) : Nbr (zs ++ more) u g :=
 ⟨fun e => List.mem_append_left _ (h.1 e), fun e => List.mem_append_left _ (h.2 e)⟩
theorem oM.snoc {G : List Gp} {zs : List Str} {k : Nat} (h : oM G zs k) (hk : k ≤ zs.length) (more : List Str) : oM G (zs ++ more) k := fun i u hi e g m => by
 rw [List.getElem?_append_left (by omega)] at e
 exact (h i u hi e g m).snoc more
theorem aDY {G : List Gp} {V zs : List Str} (h : Grow G V zs) (c : oM G zs zs.length) (z : Str) : z ∈ zs ↔ Reach G z := by
 refine ⟨h.sound z, fun r => ?_⟩
 induction r with
 | sea => exact h.sea
 | fwd m r ih =>
  obtain ⟨i, hi⟩ := List.mem_iff_getElem?.mp ih
  exact (c i _ (List.getElem?_eq_some_iff.mp hi).1 hi _ m).1 rfl
 | bwd m r ih =>
  obtain ⟨i, hi⟩ := List.mem_iff_getElem?.mp ih
  exact (c i _ (List.getElem?_eq_some_iff.mp hi).1 hi _ m).2 rfl
end Mt51
namespace L2
open PySem PySem.Spec PyProof.Rows
section
variable {X : Cx}
end
def zN (nt : Nat) (u : TGs) : Prop := ∀ vs σ H Q, u vs σ H Q → u vs σ H fun σ2 H2 => Q σ2 H2 ∧ σ2.length = σ.length ∧ ∀ i, nt ≤ i → σ2[i]? = σ[i]?
theorem aDP {nt : Nat} : zN nt aPH := fun vs σ H Q ⟨e, q⟩ => ⟨e, q, rfl, fun _ _ => rfl⟩
theorem nW {nt i : Nat} {u : TGs} (h : i < nt) (hu : zN nt u) : zN nt (aME (aBJ i) u) := fun vs σ H Q ⟨v, r, e, q⟩ => by
 have q' := hu r (σ.set i (some v)) H Q q
 have ef : (fun (σ2 : St) (H2 : Hp) => Q σ2 H2 ∧ σ2.length = (σ.set i (some v)).length ∧ ∀ j, nt ≤ j → σ2[j]? = (σ.set i (some v))[j]?) = (fun (σ2 : St) (H2 : Hp) => Q σ2 H2 ∧ σ2.length = σ.length ∧ ∀ j, nt ≤ j → σ2[j]? = σ[j]?) := by
  funext σ2 H2
  rw [List.length_set]
  have : (∀ j, nt ≤ j → σ2[j]? = (σ.set i (some v))[j]?) = (∀ j, nt ≤ j → σ2[j]? = σ[j]?) := by
   refine propext ⟨fun h1 j hj => ?_, fun h1 j hj => ?_⟩
   ·rw [h1 j hj, List.getElem?_set_ne (by omega)]
   ·rw [h1 j hj, List.getElem?_set_ne (by omega)]
  rw [this]
 rw [ef] at q'
 exact ⟨v, r, e, q'⟩
theorem aGN {nt n : Nat} {K : PySem.W.Frag} {u : TGs} (hu : zN nt u) : aBZ nt (aNO K n u) := fun x σ H Q ⟨a, xs, e, hq, hl, q⟩ => ⟨a, xs, e, hq, hl, hu xs σ H Q q⟩
theorem aKM {X : Cx} {pos : Pos} {es : List Expr} {k : Nat} {t : TGs} {n : Nat} {K : PySem.W.Frag} (e : X.K = K) (hc : X.calm = true) (h : PGs X es t)
  (hn : (assignEach es X.env).length = n := by rfl) (hst : (assignEach es X.env).findIdx? (·.1) = none := by rfl) : PG X (.Tuple es k pos) (aNO K n t) := by subst e; exact nG hc h hn hst
end L2
namespace L2
open PySem PySem.Spec PyProof.Rows
theorem aJF {prog : Program} {w : World} {A : Around} {E : Value → Shared → Prop} {s : Shared} {r : Addr} {Q : Bool → Shared → Prop} (hT : s.TypeIs (.ref r) "list_reverseiterator") (h : Q false s) :
  wpAny (model prog w) A (Builtin.List.listLengthHint (.ref r)) Q E s := by
 unfold Builtin.List.listLengthHint
 refine wpAny_bind (wpAny_specialOf hT (r := none) (by rfl) ?_)
 dsimp only
 rw [if_neg (by decide), if_neg (by decide)]
 refine wpAny_bind (wpAny_specialOf hT (r := some (.builtin "list_reverseiterator.__length_hint__")) (by rfl) ?_)
 dsimp only
 rw [show splitId "list_reverseiterator.__length_hint__" = some ("list_reverseiterator", "__length_hint__") from by decide +kernel]
 dsimp only
 refine wpAny_bind (wpAny_isInstance hT (b := true) (by rfl) ?_)
 rw [if_neg (by decide), if_pos (by decide +kernel), if_neg (by decide +kernel)]
 exact wpAny_pure h
theorem aDW {prog : Program} {w : World} {A : Around} {s : Shared} {R : Result → Shared → Prop} {I l : Addr} {items : Array Value} (hh : A.handled = none) (hI : s.heap.IsRevIter I l ((items.size : Int) - 1)) (hl : s.heap.IsList l items) (hne : l ≠ I) (hn : items.size ≤ sizeLine)
  (S : Addr) (hSI : S ≠ I) (hSl : S ≠ l) (res : Value) (c₀ : Nat) (hS : s.heap.get? S = some { cls := .type "list", data := .seq #[] c₀ })
  (hR : ∀ (h' : Heap) (tk : Nat) (acc' : Array Value) (c' : Nat), (∀ (b : Addr) (o : Obj), b ≠ S → b ≠ I → s.heap.get? b = some o → h'.get? b = some o) → h'.get? S = some { cls := .type "list", data := .seq acc' c' } → ItemsOf (fun i v => items[items.size - 1 - i]? = some v) acc' items.size → R (.ok (.ret res)) { s with heap := h', toks := tk }) :
  wpAny (model prog w) A.in1 (Builtin.List.listExtendWith (.ref S) (.ref I) res) (fun fin s' => match fin with | .done f => R (.ok f) s' | .again c' => c'.quiet = true ∧ codeAny (model prog w) A c' R s') (fun e s' => R (.error e) s') s := by
 have hT : s.TypeIs (.ref I) "list_reverseiterator" := hI.typeIs
 have hSf : ¬ S ∈ [I, l] := by simp [hSI, hSl]
 have W := Walks.listRev (prog := prog) (w := w) (A := A.in1) hh I l hne items
 have key : ∀ (h : Heap) (c₁ : Nat) (tk : Nat), (∀ (b : Addr) (o : Obj), b ≠ S → s.heap.get? b = some o → h.get? b = some o) → h.get? S = some { cls := .type "list", data := .seq #[] c₁ } →
   codeAny (model prog w) A (.builtin "list.extend.loop" { pos := [.ref S, .ref I, res] }) R { s with heap := h, toks := tk } := fun h c₁ tk hk hS₁ => by
  refine codeAny_extend_loopS W.toS hn S hSf res items.size 0 { s with heap := h, toks := tk } #[] c₁ rfl (Nat.zero_le _) ?_ hS₁ (ItemsOf.nil _) fun s' acc' c' hm hS' hacc => ?_
  ·refine ⟨Nat.zero_le _, ?_, ?_⟩
   ·have : ((items.size : Int) - 1 - ((0 : Nat) : Int)) = (items.size : Int) - 1 := by omega
    rw [this]
    obtain ⟨o, ho, r⟩ := hI
    exact ⟨o, hk _ _ (Ne.symm hSI) ho, r⟩
   ·obtain ⟨o, ho, r⟩ := hl
    exact ⟨o, hk _ _ (Ne.symm hSl) ho, r⟩
  ·rw [Moved.eq_with hm]
   refine hR s'.heap s'.toks acc' c' (fun b o h1 h2 e => hm.heap b o (fun hmem => ?_) (hk b o h1 e)) hS' hacc
   rcases List.mem_cons.mp hmem with e' | hmem
   ·exact h1 e'
   ·exact h2 (List.mem_singleton.mp hmem)
 unfold Builtin.List.listExtendWith
 refine wpAny_bind (wpAny_typeOf hT ?_)
 have e0 : Builtin.List.listSameRef (.ref S) (.ref I) = false := by
  show (S == I) = false
  exact beq_eq_false_iff_ne.mpr hSI
 rw [e0, if_neg (by decide +kernel)]
 refine wpAny_bind (wpAny_pyIter_revIter hI ?_)
 refine wpAny_bind (wpAny_holding (aJF hT ?_))
 have e0 : s = { s with heap := s.heap, toks := s.toks } := rfl
 refine wpAny_ite_split (fun _ => ?_) (fun _ => ?_)
 ·refine wpAny_bind (wpAny_rule (wpAny_bind ?_))
  unfold Builtin.List.listTouch
  refine wpAny_bind (wpAny_updateSeq hS rfl ?_)
  have hS₂ := Heap.get?_update_self (Obj.mapSeq fun x => x.push Value.none) hS rfl
  refine wpAny_updateSeq hS₂ rfl ?_
  have hS₃ := Heap.get?_update_self (Obj.mapSeq fun x => x.pop) hS₂ rfl
  refine wpAny_pure ⟨plainId_quiet F.plain_extend_loop _, key _ _ _ (fun b o hb e => ?_) hS₃⟩
  rw [Heap.get?_update_other _ _ (Ne.symm hb), Heap.get?_update_other _ _ (Ne.symm hb)]
  exact e
 ·exact wpAny_pure ⟨plainId_quiet F.plain_extend_loop _, key s.heap c₀ s.toks (fun b o _ e => e) hS⟩
theorem aJD {prog : Program} {w : World} {A : Around} {s : Shared} {R : Result → Shared → Prop} {I l : Addr} {items : Array Value} (hh : A.handled = none) (hI : s.heap.IsRevIter I l ((items.size : Int) - 1)) (hl : s.heap.IsList l items) (hne : l ≠ I) (hn : items.size ≤ sizeLine)
  (S : Addr) (hSI : S ≠ I) (hSl : S ≠ l) (hS : s.heap.get? S = some { cls := .type "list", data := .seq #[] })
  (hR : ∀ (h' : Heap) (tk : Nat) (acc' : Array Value) (c' : Nat), (∀ (b : Addr) (o : Obj), b ≠ S → b ≠ I → s.heap.get? b = some o → h'.get? b = some o) → h'.get? S = some { cls := .type "list", data := .seq acc' c' } → ItemsOf (fun i v => items[items.size - 1 - i]? = some v) acc' items.size → R (.ok (.ret .none)) { s with heap := h', toks := tk }) :
  wpAny (model prog w) A.in1 (Builtin.«list.__init__» { pos := [.ref S, .ref I] }) (fun fin s' => match fin with | .done f => R (.ok f) s' | .again c' => c'.quiet = true ∧ codeAny (model prog w) A c' R s') (fun e s' => R (.error e) s') s := by
 refine wpAny_bind (wpAny_bind (wpAny_seqItems hS rfl (wpAny_pure ?_)))
 refine wpAny_bind (wpAny_updateSeq hS rfl ?_)
 have hS₂ := Heap.get?_update_self (Obj.mapSeq fun x => #[]) hS rfl
 have oth : ∀ (b : Addr) (o : Obj), b ≠ S → s.heap.get? b = some o → (s.heap.update S (Obj.mapSeq fun x => #[])).get? b = some o := fun b o hb e => (Heap.get?_update_other s.heap (Obj.mapSeq fun x => #[]) (Ne.symm hb)).trans e
 refine wpAny_bind (wpAny_letGo ?_)
 refine aDW hh ?_ ?_ hne hn S hSI hSl .none _ hS₂ fun h' tk acc' c' hk hS' hacc => hR h' tk acc' c' (fun b o h1 h2 e => hk b o h1 h2 (oth b o h1 e)) hS' hacc
 ·obtain ⟨o, ho, r⟩ := hI
  exact ⟨o, oth _ _ (Ne.symm hSI) ho, r⟩
 ·obtain ⟨o, ho, r⟩ := hl
  exact ⟨o, oth _ _ (Ne.symm hSl) ho, r⟩
theorem aBG {prog : Program} {w : World} {A : Around} {E : Value → Shared → Prop} {s : Shared} {Q : Value → Shared → Prop} {I l : Addr} {items : Array Value} (hh : A.handled = none) (hI : s.heap.IsRevIter I l ((items.size : Int) - 1)) (hl : s.heap.IsList l items) (hne : l ≠ I) (hn : items.size ≤ sizeLine)
  (hQ : ∀ (h' : Heap) (tk : Nat) (acc' : Array Value) (c' : Nat), (∀ (b : Addr) (o : Obj), b ≠ I → s.heap.get? b = some o → h'.get? b = some o) → h'.get? s.heap.objs.size = some { cls := .type "list", data := .seq acc' c' } → ItemsOf (fun i v => items[items.size - 1 - i]? = some v) acc' items.size → Q (.ref s.heap.objs.size) { s with heap := h', toks := tk }) :
  wpAny (model prog w) A (call (.type "list") [.ref I]) Q E s := by
 have lI : I < s.heap.objs.size := by obtain ⟨_, e, _⟩ := hI; exact Heap.lt_size e
 have ll : l < s.heap.objs.size := by obtain ⟨_, e, _⟩ := hl; exact Heap.lt_size e
 refine callType_codes F.called_list (F.typeCall_list_1 (.ref I)) F.entry_list_init (code_list_new (.ref I) (Q₁ := fun o s₁ => o = .ref s.heap.objs.size ∧ s₁ = { s with heap := s.heap.push { cls := .type "list", data := .seq #[] } }) ⟨rfl, rfl⟩) fun obj s₁ h₁ => ?_
 obtain ⟨rfl, rfl⟩ := h₁
 have hS := Heap.get?_push_size (o := { cls := Value.type "list", data := Data.seq #[] }) s.heap rfl
 refine ⟨⟨_, hS, rfl⟩, F.args_list_init_2 _ _, ?_⟩
 refine aJD (A := A.in1) hh ?_ ?_ hne hn s.heap.objs.size (Ne.symm (Nat.ne_of_lt lI)) (Ne.symm (Nat.ne_of_lt ll)) hS fun h' tk acc' c' hk hS' hacc => ⟨rfl, ?_⟩
 ·obtain ⟨o, ho, r⟩ := hI
  exact ⟨o, Heap.get?_push_of_some _ ho, r⟩
 ·obtain ⟨o, ho, r⟩ := hl
  exact ⟨o, Heap.get?_push_of_some _ ho, r⟩
 ·exact hQ h' tk acc' c' (fun b o h1 e => hk b o (Nat.ne_of_lt (Heap.lt_size e)) h1 (Heap.get?_push_of_some _ e)) hS' hacc
theorem vM : bootBuiltins "reversed" = some (.type "reversed") := by decide +kernel
section
variable {X : Cx} {e : Expr} {t : TA} {p1 p2 : Pos} {pos1 pos2 : Pos}
def aOR (K : PySem.W.Frag) : List V → Hp → VK → Prop := fun xs H Q => ∃ p ys, xs = [.ref p] ∧ SqL K H p ys ∧ ∀ l, H l = none → Q (.ref l) (upd H l (.lst ys.reverse))
theorem aCZ (hc : X.calm = true) (hg1 : Gl X "list") (hm1 : X.mg "list" = none) (hg2 : Gl X "reversed") (hm2 : X.mg "reversed" = none) (ha : PA X [e] t)
  (he1 : starEach [e] X.env = (false, eval e X.env) :: starEach [] X.env := by rfl)
  (he2 : starEach [.Call (.Name "reversed" p2) [e] [] pos2] X.env = (false, eval (.Call (.Name "reversed" p2) [e] [] pos2) X.env) :: starEach [] X.env := by rfl) :
  PE X (.Call (.Name "list" p1) [.Call (.Name "reversed" p2) [e] [] pos2] [] pos1) (tCB (aOR X.K) t) := by
 intro pins s σ H Q I h
 refine wpAny_Call_Name_kw (rB I hg1 hm1 dI ?_ (by decide) (by decide))
 refine PyProof.Rows.callWith_type1 ?_ he2 rfl
 rw [he2]
 show wpAny _ _ (spliced ((false, eval _ X.env) :: backTo pos1 (starEach [] X.env))) _ _ s
 refine Calls.spliced_cons ?_
 refine wpAny_Call_Name_kw (rB I hg2 hm2 vM ?_ (by decide) (by decide))
 refine PyProof.Rows.callWith_type1 (thn (ha pos2 pins s σ H _ I h) fun us s1 ⟨vs, H1, I1, r1, q1⟩ => ?_) he1 rfl
 obtain ⟨p, ys, rfl, hq, q⟩ := q1
 obtain ⟨u, rfl, ru⟩ := bO.one r1
 cases ru
 obtain ⟨its, rv, pl, hz⟩ := I1.list hq
 have hl := pl.isList
 have hlt : p < s1.heap.objs.size := by obtain ⟨_, e, _⟩ := hl; exact Heap.lt_size e
 refine call_reversed_list hl ?_
 refine Calls.spliced_nil ?_
 refine aBG (l := p) (items := its.toArray) (I.ok.hd hc) ⟨_, Heap.get?_push_size _ rfl, rfl, rfl⟩ ?_ (Nat.ne_of_lt hlt) (by rw [List.size_toArray, ← rv.length]; exact hz) fun h' tk acc c hk hg hi => ?_
 ·obtain ⟨o, ho, r⟩ := hl
  exact ⟨o, Heap.get?_push_of_some _ ho, r⟩
 have hk' : ∀ (b : Addr) (o : Obj), s1.heap.get? b = some o → h'.get? b = some o := fun b o e => hk b o (Nat.ne_of_lt (Heap.lt_size e)) (Heap.get?_push_of_some _ e)
 have hge : s1.heap.objs.size ≤ (s1.heap.push (revObj p ((its.toArray.size : Int) - 1))).objs.size := by
  rw [show (s1.heap.push (revObj p ((its.toArray.size : Int) - 1))).objs.size = s1.heap.objs.size + 1 from Array.size_push ..]
  exact Nat.le_succ _
 refine ⟨.ref _, _, I1.laid (t' := tk) hk' hge (show cU X.prog X.w _ h' _ (.lst ys.reverse) from ⟨by rw [List.length_reverse]; exact hz, acc.toList, c, ?_, by simpa using hg⟩), rfl, q _ (I1.hok.fresh hge)⟩
 have hlen := rv.length
 have e0 : acc.size = its.length := by rw [hi.1, List.size_toArray]
 refine sU (by rw [List.length_reverse, Array.length_toList, e0, hlen]) fun j u x e1 e2 => ?_
 have e3 := hi.2 j u (by rw [← Array.getElem?_toList]; exact e1)
 have hj : j < ys.length := by
  have := (List.getElem?_eq_some_iff.mp e2).1
  rw [List.length_reverse] at this
  exact this
 rw [List.getElem?_reverse hj] at e2
 have e4 : its[ys.length - 1 - j]? = some u := by
  have : its.toArray[its.toArray.size - 1 - j]? = some u := e3
  rw [List.size_toArray] at this
  rw [hlen]
  simpa using this
 obtain ⟨u', e5, r5⟩ := rv.get e2
 rw [e4] at e5
 cases e5
 exact r5
end
end L2
namespace L2
open PySem PySem.Spec PyProof.Rows
section
variable {X : Cx}
end
end L2
namespace L2
open PySem PySem.Spec PyProof.Rows
section
variable {X : Cx}
def tL (K : PySem.W.Frag) (t : TE) : TT := fun σ H Q => t σ H fun x H1 => ∃ p xs, x = .ref p ∧ SqL K H1 p xs ∧ Q (!xs.isEmpty) H1
theorem aCW {e : Expr} {t : TE} (h : PE X e t) (he : ∀ whole, isTrue e X.env whole = (do let v ← whole; standAt e.pos; holding [v] (truthy v)) := by intro _; rfl) : PT X e (tL X.K t) := by
 intro pins s σ H Q I hw
 refine isTrue_plain (thn (h pins s σ H _ I hw) fun v s1 ⟨x, H1, I1, r1, q1⟩ => ?_) (he _)
 obtain ⟨p, xs, rfl, hq, q⟩ := q1
 cases r1
 obtain ⟨its, rv, pl, hz⟩ := I1.list hq
 have hlen := rv.length
 refine wpAny_truthy_list pl.isList ?_ ?_
 ·have : (sizeLine : Nat) < 2 ^ 63 := by decide
  rw [List.size_toArray]
  omega
 ·have e : its.toArray.isEmpty = xs.isEmpty := by
   cases xs with
   | nil => cases rv; rfl
   | cons x r => cases rv; rfl
  rw [e]
  exact ⟨H1, I1.tok _, q⟩
end
end L2
namespace L2
open PySem PySem.Spec PyProof.Rows
section
variable {prog : Program} {w : World} {A : Around} {R : Result → Shared → Prop} {I S : Addr} {fp wr : List Addr} {n : Nat} {P : Nat → Value → Prop} {St : Nat → Heap → Prop}
end
section
variable {prog : Program} {w : World} {A : Around} {E : Value → Shared → Prop} {s : Shared}
end
section
variable {X : Cx}
theorem aBH (f : Nat → Int) : ∀ k, argBest (fun i j => decide (f i < f j)) k ≤ k ∧ ∀ j ≤ k, f (argBest (fun i j => decide (f i < f j)) k) ≤ f j
 | 0 => ⟨Nat.le_refl _, fun j h => by rw [Nat.le_zero.mp h]; exact Int.le_refl _⟩
 | k + 1 => by
  obtain ⟨a1, a2⟩ := aBH f k
  unfold argBest
  by_cases q : f (k + 1) < f (argBest (fun i j => decide (f i < f j)) k)
  ·rw [if_pos (decide_eq_true q)]
   exact ⟨Nat.le_refl _, fun j m => by
    by_cases e : j = k + 1
    ·rw [e]; exact Int.le_refl _
    ·have := a2 j (by omega)
     omega⟩
  ·rw [if_neg (by rw [decide_eq_true_eq]; exact q)]
   exact ⟨by omega, fun j m => by
    by_cases e : j = k + 1
    ·rw [e]; omega
    ·exact a2 j (by omega)⟩
end
end L2
namespace L2
open PySem PySem.Spec PyProof.Rows
def Itd (d : Addr) (o : Obj) (kvs : List (Key × V)) : It :=
 ⟨fun i H => H d = some (.frz o (.dK kvs)) ∧ i < kvs.length, fun i H x H' => H' = H ∧ ∃ kv, kvs[i]? = some kv ∧ x = kV kv.1, fun i H => H d = some (.frz o (.dK kvs)) ∧ kvs.length ≤ i⟩
theorem wF {P : Program} {w : World} {K : PySem.W.Frag} {tg : Expr} {d it : Addr} {o : Obj} {kvs : List (Key × V)} {vs : List (Key × Value)} {ep : Nat} {h0 : Heap} (kv : KV kvs vs) (hd0 : h0.get? d = some o) (hat : h0.DictAt (aZ P w) d vs ep) :
  Turn P w K tg (Itd d o kvs) [it] it (fun i h => h.IsKeyIter it d i vs.length ep) where
 mem := by simp
 obj := fun i h st b hb => by
  have e : b = it := by simpa using hb
  subst e
  obtain ⟨ob, e, c, dd⟩ := st
  exact ⟨ob, e, fun v z => by rw [dd] at z; cases z⟩
 keep := fun i h h' st k => st.at fun ob e => k it (by simp) ob e
 item := by
  intro X hP hw hK hc i pins s σ H E I hf st hg
  subst hP hw hK
  obtain ⟨hH, hi⟩ := hg
  obtain ⟨f0, f1, f2, f3, f4, f5⟩ := hf it (by simp)
  have hget : s.heap.get? d = some o := (show cU X.prog X.w H s.heap d (.frz o (.dK kvs)) from I.hok d _ hH).1
  have hat' := hat.at' (h' := s.heap) fun ob e => by rw [hd0] at e; cases e; exact hget
  have hl := KV.length kv
  obtain ⟨⟨k, v⟩, hx⟩ : ∃ p, vs[i]? = some p := ⟨_, List.getElem?_eq_getElem (by omega)⟩
  obtain ⟨q, eq, e1, e2⟩ := KV.get kv hx
  refine wpAny_pyNext_dict_item st hat' hx fun key h' hkey st' sb => ?_
  have I1 : Inv X pins σ H { s with heap := h' } := I.turned (t' := s.toks) (fun b ob hb e => (sb.2 b hb).trans e) f0 f1 f3 f4 f5
  obtain ⟨ob, e, c, dd⟩ := id st'
  refine ⟨key, rfl, aFC (s := { s with heap := h' }) e c dd (by decide) ⟨kV q.1, H, I1, ?_, ⟨rfl, q, eq, rfl⟩, st', fun b hb => (hf b hb).1⟩⟩
  rw [show q.1 = k from e1]
  exact wW hkey
 done := by
  intro X hP hw hK hc i pins s σ H E I hf st hg
  subst hP hw hK
  obtain ⟨hH, hi⟩ := hg
  obtain ⟨f0, f1, f2, f3, f4, f5⟩ := hf it (by simp)
  have hget : s.heap.get? d = some o := (show cU X.prog X.w H s.heap d (.frz o (.dK kvs)) from I.hok d _ hH).1
  have hat' := hat.at' (h' := s.heap) fun ob e => by rw [hd0] at e; cases e; exact hget
  have hl := KV.length kv
  exact wpAny_pyNext_dict_end (I.ok.hd hc) st hat' (List.getElem?_eq_none (by omega)) fun h' eb => ⟨rfl, I.turned (t' := s.toks) (fun b ob hb e => eb b ob hb e) f0 f1 f3 f4 f5⟩
 self := fun _ _ _ _ _ st h => wpAny_pyIter_keyiter st h
section
variable {X : Cx} {tg : Expr}
def aPG (td : TE) : TI := fun σ H R => td σ H fun x H1 => ∃ d kvs, x = .ref d ∧ H1 d = some (.dK kvs) ∧ ∀ o, R (Itd d o kvs) (upd H1 d (.frz o (.dK kvs)))
theorem tG {l : Expr} {tl : TE} (hl : PE X l tl) : PI X tg l (aPG tl) := by
 intro pins s σ H R I h
 refine thn (hl pins s σ H _ I h) fun v s1 ⟨x, H1, I1, r1, q1⟩ => ?_
 obtain ⟨d, kvs, e, hH, q⟩ := q1
 subst e
 cases r1
 have hok := I1.hok d _ hH
 obtain ⟨hz, lo, vs, kv, hD⟩ := id hok
 obtain ⟨ep, hat⟩ := hD.dictAt
 obtain ⟨o, es, ho, _⟩ := id hat
 refine wpAny_pyIter_dict lo hat ?_
 have I2 : Inv X pins σ (upd H1 d (.frz o (.dK kvs))) s1 := I1.write (x := d) (e := d) (o := .frz o (.dK kvs)) (h' := s1.heap) (t' := s1.toks) (by rw [hH]; exact trivial) (.inl rfl) (fun _ _ _ q => q) ⟨o, ho⟩ ⟨ho, hz, lo, vs, kv, hD⟩
 refine ⟨s1.heap.objs.size, [s1.heap.objs.size], _, _, upd H1 d (.frz o (.dK kvs)), rfl, I2.kept (t' := s1.toks) fun b ob e => Heap.get?_push_of_some _ e, wF kv ho hat, ⟨_, Heap.get?_push_size _ rfl, rfl, rfl⟩, fun b hb => ?_, q o⟩
 have e : b = s1.heap.objs.size := by simpa using hb
 subst e
 exact I2.fpOk (Nat.le_refl _) (I2.hok.fresh (Nat.le_refl _))
theorem oY {d : Addr} {o : Obj} {kvs : List (Key × V)} {σb : St} {g : TG} {tt : TT} {te : TE} {fin : List V → Hp → Prop} {H : Hp} (hz : kvs.length ≤ sizeLine) (Pv : Nat → List V → Hp → Prop) (h0 : Pv 0 [] H)
  (hl : ∀ i ys H, i ≤ kvs.length → Pv i ys H → H d = some (.frz o (.dK kvs)) ∧ ys.length ≤ i)
  (hs : ∀ i kv ys H (K : VK) (K' : Hp → Prop), kvs[i]? = some kv → Pv i ys H → (∀ y H4, Pv (i + 1) (ys ++ [y]) H4 → K y H4) → (∀ H3, Pv (i + 1) ys H3 → K' H3) →
   g (kV kv.1) σb H fun σ2 H2 => tt σ2 H2 fun b H3 => if b = true then te σ2 H3 K else K' H3)
  (hd : ∀ ys H, Pv kvs.length ys H → fin ys H) : ∃ W : CW, (∃ m, W 0 m [] H) ∧ ∀ i m ys H, W i m ys H → zX σb (Itd d o kvs) g tt te W fin i m ys H := by
 refine ⟨fun i m ys H => m = kvs.length - i ∧ i ≤ kvs.length ∧ Pv i ys H, ⟨kvs.length, by simp, Nat.zero_le _, h0⟩, ?_⟩
 rintro i m ys H ⟨rfl, hi, p⟩
 obtain ⟨q, ql⟩ := hl i ys H hi p
 by_cases hlt : i < kvs.length
 ·refine .inr ⟨⟨q, hlt⟩, by omega, fun x H' y => ?_⟩
  obtain ⟨e, kv, ek, ex⟩ := y
  subst e ex
  exact hs i kv ys _ _ _ ek p (fun y H4 q => ⟨kvs.length - (i + 1), by omega, rfl, hlt, q⟩) fun H3 q => ⟨kvs.length - (i + 1), by omega, rfl, hlt, q⟩
 ·have e : i = kvs.length := by omega
  subst e
  exact .inl ⟨⟨q, Nat.le_refl _⟩, hd ys H p⟩
end
end L2
namespace L2
open PySem PySem.Spec PyProof.Rows
section
variable {X : Cx} {tg : Expr}
def aNN (td : TE) : TI := fun σ H R => td σ H fun x H1 => ∃ d o kvs, x = .ref d ∧ H1 d = some (.frz o (.dK kvs)) ∧ R (Itd d o kvs) H1
theorem aIJ {l : Expr} {tl : TE} (hl : PE X l tl) : PI X tg l (aNN tl) := by
 intro pins s σ H R I h
 refine thn (hl pins s σ H _ I h) fun v s1 ⟨x, H1, I1, r1, q1⟩ => ?_
 obtain ⟨d, o, kvs, e, hH, q⟩ := q1
 subst e
 cases r1
 have hok := I1.hok d _ hH
 obtain ⟨ho, hz, lo, vs, kv, hD⟩ := (show cU X.prog X.w H1 s1.heap d (.frz o (.dK kvs)) from hok)
 obtain ⟨ep, hat⟩ := hD.dictAt
 refine wpAny_pyIter_dict lo hat ?_
 refine ⟨s1.heap.objs.size, [s1.heap.objs.size], _, _, H1, rfl, I1.kept (t' := s1.toks) fun b ob e => Heap.get?_push_of_some _ e, wF kv ho hat, ⟨_, Heap.get?_push_size _ rfl, rfl, rfl⟩, fun b hb => ?_, q⟩
 have e : b = s1.heap.objs.size := by simpa using hb
 subst e
 exact I1.fpOk (Nat.le_refl _) (I1.hok.fresh (Nat.le_refl _))
theorem aGT (hc : X.calm = true) : gJ X (.builtin "min") (fun xs H Q => ∃ (p : Addr) (ns : List Int), xs = [.ref p] ∧ SqL X.K H p (ns.map V.int) ∧ 0 < ns.length ∧ ∀ M, M ∈ ns → (∀ a ∈ ns, M ≤ a) → Q (.int M) H) := by
 intro pins s σ H xs us Q I r h
 obtain ⟨p, ns, rfl, hq, h0, q⟩ := h
 obtain ⟨u, rfl, ru⟩ := bO.one r
 cases ru
 obtain ⟨its, rv, pl, hz⟩ := I.list hq
 have hi := uU rv
 obtain ⟨ys, ey⟩ := hi.allInts.items
 have en : ns = ys.toList.map fun x => x.1 := by
  have h1 := nums_intItems ys
  rw [← ey] at h1
  rw [← h1]
  exact hi.numsOf.symm
 have hl : s.heap.IsList p (intItems ys) := by rw [← ey]; exact pl.isList
 have hlen : ns.length = ys.size := by rw [en, List.length_map, Array.length_toList]
 refine min_intList (I.ok.hd hc) hl (by omega) fun v h' tk hv hk => ?_
 obtain ⟨tv, rfl⟩ := intItems_at hv
 obtain ⟨g1, g2⟩ := aBH (numAt ys) (ys.size - 1)
 refine ⟨.int _, H, I.kept (t' := tk) hk, ⟨_, rfl⟩, q _ ?_ fun a ma => ?_⟩
 ·rw [numAt_eq, ← en, List.getD_eq_getElem?_getD, List.getElem?_eq_getElem (show argBest (fun i j => decide (numAt ys i < numAt ys j)) (ys.size - 1) < ns.length by omega)]
  exact List.getElem_mem _
 ·obtain ⟨j, hj⟩ := List.mem_iff_getElem?.mp ma
  have hjl := (List.getElem?_eq_some_iff.mp hj).1
  have := g2 j (by omega)
  rw [numAt_eq ys j, ← en, List.getD_eq_getElem?_getD, hj] at this
  exact this
end
end L2
namespace L2
open PySem PySem.Spec PyProof.Rows
section
variable {X : Cx}
theorem aJK {d : Addr} {o : Obj} {kvs : List (Key × V)} {g : TG} {tb : TS} {D : Ends} {σ : St} {H : Hp} (Pv : Nat → St → Hp → Prop) (h0 : Pv 0 σ H) (hl : ∀ i σ H, i ≤ kvs.length → Pv i σ H → H d = some (.frz o (.dK kvs)))
  (hs : ∀ i kv σ H, kvs[i]? = some kv → Pv i σ H → g (kV kv.1) σ H fun σ2 H2 => tb { D with nx := Pv (i + 1), ct := Pv (i + 1), bk := D.nx } σ2 H2) (hd : ∀ σ H, Pv kvs.length σ H → D.nx σ H) :
  ∃ W : Nat → Nat → St → Hp → Prop, (∃ m, W 0 m σ H) ∧ ∀ i m σ H, W i m σ H →
   ((Itd d o kvs).stop i H ∧ D.nx σ H) ∨ ((Itd d o kvs).go i H ∧ ∃ N : St → Hp → Prop, (∀ σ' H', N σ' H' → ∃ m', m' < m ∧ W (i + 1) m' σ' H') ∧ ∀ x H', (Itd d o kvs).yld i H x H' → g x σ H' fun σ2 H2 => tb { D with nx := N, ct := N, bk := D.nx } σ2 H2) := by
 refine ⟨fun i m σ H => m + i = kvs.length ∧ Pv i σ H, ⟨kvs.length, rfl, h0⟩, ?_⟩
 intro i m σ H hw
 obtain ⟨hm, pv⟩ := hw
 have at_ := hl i σ H (by omega) pv
 rcases Nat.lt_or_ge i kvs.length with lt | ge
 ·refine .inr ⟨⟨at_, lt⟩, Pv (i + 1), (fun σ' H' p' => ⟨kvs.length - (i + 1), by omega, by omega, p'⟩), fun x H' y => ?_⟩
  obtain ⟨eH, kv, ek, ex⟩ := y
  subst eH ex
  exact hs i kv σ _ ek pv
 ·have ei : i = kvs.length := by omega
  subst ei
  exact .inl ⟨⟨at_, Nat.le_refl _⟩, hd σ H pv⟩
end
end L2
namespace K54
open PySem L2
local macro_rules | `(tactic| trivial) => `(tactic| first | exact .inl rfl | exact .inr rfl | assumption)
def top (i : Nat) : Stmt := PySem.Challenge.pw_dykemoot_k54_whole_fewest_coins.main.body.getD i (.Pass ⟨0, 0, 0, 0⟩)
abbrev pX : Stmt := top 0
abbrev gN : Stmt := top 14
theorem vQ : FnScope ["thing"] ["thing"] (aB gN) := ⟨rfl, rfl, rfl, by decide +kernel, rfl, by decide +kernel, by decide +kernel⟩
abbrev iP : Stmt := top 15
theorem yH : FnScope ["thing"] ["thing"] (aB iP) := ⟨rfl, rfl, rfl, by decide +kernel, rfl, by decide +kernel, by decide +kernel⟩
abbrev fT : Stmt := top 16
theorem tT : FnScope ["thing"] ["thing"] (aB fT) := ⟨rfl, rfl, rfl, by decide +kernel, rfl, by decide +kernel, by decide +kernel⟩
abbrev fU : Stmt := top 17
theorem tU : FnScope ["thing"] ["thing"] (aB fU) := ⟨rfl, rfl, rfl, by decide +kernel, rfl, by decide +kernel, by decide +kernel⟩
abbrev fS : Stmt := top 18
theorem mT : FnScope ["thing", "names"] ["thing", "names"] (aB fS) := ⟨rfl, rfl, rfl, by decide +kernel, rfl, by decide +kernel, by decide +kernel⟩
abbrev eZ : Stmt := top 19
theorem sI : FnScope ["thing", "most"] ["thing", "most"] (aB eZ) := ⟨rfl, rfl, rfl, by decide +kernel, rfl, by decide +kernel, by decide +kernel⟩
abbrev eD : Stmt := top 20
theorem qP : FnScope ["thing", "length"] ["thing", "length"] (aB eD) := ⟨rfl, rfl, rfl, by decide +kernel, rfl, by decide +kernel, by decide +kernel⟩
abbrev eY : Stmt := top 21
theorem sH : FnScope ["rows"] ["rows"] (aB eY) := ⟨rfl, rfl, rfl, by decide +kernel, rfl, by decide +kernel, by decide +kernel⟩
abbrev gO : Stmt := top 22
theorem vR : FnScope ["thing"] ["thing"] (aB gO) := ⟨rfl, rfl, rfl, by decide +kernel, rfl, by decide +kernel, by decide +kernel⟩
abbrev fB : Stmt := top 23
theorem sK : FnScope ["thing"] ["thing"] (aB fB) := ⟨rfl, rfl, rfl, by decide +kernel, rfl, by decide +kernel, by decide +kernel⟩
abbrev fX : Stmt := top 24
theorem tX : FnScope ["one", "other", "sides"] ["one", "other", "sides"] (aB fX) := ⟨rfl, rfl, rfl, by decide +kernel, rfl, by decide +kernel, by decide +kernel⟩
abbrev iO : Stmt := top 25
theorem yG : FnScope ["thing", "crown"] ["thing", "crown"] (aB iO) := ⟨rfl, rfl, rfl, by decide +kernel, rfl, by decide +kernel, by decide +kernel⟩
abbrev iR : Stmt := top 26
theorem yJ : FnScope ["thing", "sides"] ["thing", "sides"] (aB iR) := ⟨rfl, rfl, rfl, by decide +kernel, rfl, by decide +kernel, by decide +kernel⟩
abbrev fY : Stmt := top 27
theorem tY : FnScope ["thing", "sides"] ["thing", "sides"] (aB fY) := ⟨rfl, rfl, rfl, by decide +kernel, rfl, by decide +kernel, by decide +kernel⟩
abbrev iN : Stmt := top 28
theorem yF : FnScope ["land", "thing"] ["land", "thing"] (aB iN) := ⟨rfl, rfl, rfl, by decide +kernel, rfl, by decide +kernel, by decide +kernel⟩
abbrev fW : Stmt := top 29
theorem tW : FnScope ["land", "thing"] ["land", "thing"] (aB fW) := ⟨rfl, rfl, rfl, by decide +kernel, rfl, by decide +kernel, by decide +kernel⟩
abbrev dC : Stmt := top 30
theorem iK : FnScope ["land", "thing", "names"] ["land", "thing"] (aB dC) := ⟨rfl, rfl, rfl, by decide +kernel, rfl, by decide +kernel, by decide +kernel⟩
abbrev eW : Stmt := top 31
theorem sG : FnScope ["dyke", "crown"] ["dyke", "crown"] (aB eW) := ⟨rfl, rfl, rfl, by decide +kernel, rfl, by decide +kernel, by decide +kernel⟩
abbrev gS : Stmt := iI (top 32) 0
theorem vU : FnScope ["self", "fields", "dykes"] ["self", "fields", "dykes"] (aB gS) := ⟨rfl, rfl, rfl, by decide +kernel, rfl, by decide +kernel, by decide +kernel⟩
abbrev eG : Stmt := iI (top 32) 1
theorem qR : FnScope ["self"] ["self"] (aB eG) := ⟨rfl, rfl, rfl, by decide +kernel, rfl, by decide +kernel, by decide +kernel⟩
abbrev fC : Stmt := iI (top 32) 2
theorem sL : FnScope ["self"] ["self"] (aB fC) := ⟨rfl, rfl, rfl, by decide +kernel, rfl, by decide +kernel, by decide +kernel⟩
abbrev cV : Stmt := iI (top 32) 3
theorem mH : FnScope ["self"] ["self"] (aB cV) := ⟨rfl, rfl, rfl, by decide +kernel, rfl, by decide +kernel, by decide +kernel⟩
abbrev dD : Stmt := iI (top 32) 4
theorem mU : FnScope ["self"] ["self"] (aB dD) := ⟨rfl, rfl, rfl, by decide +kernel, rfl, by decide +kernel, by decide +kernel⟩
abbrev fK : Stmt := iI (top 32) 5
abbrev eF : Stmt := iI (top 32) 6
theorem qQ : FnScope ["self", "field"] ["self", "field"] (aB eF) := ⟨rfl, rfl, rfl, by decide +kernel, rfl, by decide +kernel, by decide +kernel⟩
abbrev iF : Stmt := iI (top 32) 7
abbrev fZ : Stmt := iI (top 32) 8
theorem tZ : FnScope ["self", "name"] ["self", "name"] (aB fZ) := ⟨rfl, rfl, rfl, by decide +kernel, rfl, by decide +kernel, by decide +kernel⟩
abbrev eE : Stmt := iI (top 32) 9
theorem hW : FnScope ["self", "works", "crowns", "dykes"] ["self", "works"] (aB eE) := ⟨rfl, rfl, rfl, by decide +kernel, rfl, by decide +kernel, by decide +kernel⟩
abbrev jK : Stmt := top 34
theorem iJ : FnScope ["starts", "steps", "came", "waiting", "near", "step"] ["starts", "steps"] (aB jK) := ⟨rfl, rfl, rfl, by decide +kernel, rfl, by decide +kernel, by decide +kernel⟩
abbrev iM : Stmt := top 35
theorem iZ : FnScope ["came", "side", "path", "step"] ["came", "side"] (aB iM) := ⟨rfl, rfl, rfl, by decide +kernel, rfl, by decide +kernel, by decide +kernel⟩
abbrev fA : Stmt := top 37
theorem sJ : FnScope ["land", "fields", "height"] ["land", "fields", "height"] (aB fA) := ⟨rfl, rfl, rfl, by decide +kernel, rfl, by decide +kernel, by decide +kernel⟩
abbrev gQ : Stmt := top 38
theorem vS : FnScope ["dyke", "height"] ["dyke", "height"] (aB gQ) := ⟨rfl, rfl, rfl, by decide +kernel, rfl, by decide +kernel, by decide +kernel⟩
abbrev gR : Stmt := top 39
theorem vT : FnScope ["land", "works"] ["land", "works"] (aB gR) := ⟨rfl, rfl, rfl, by decide +kernel, rfl, by decide +kernel, by decide +kernel⟩
abbrev jL : Stmt := top 40
theorem aAL : FnScope ["land", "side", "height"] ["land", "side", "height"] (aB jL) := ⟨rfl, rfl, rfl, by decide +kernel, rfl, by decide +kernel, by decide +kernel⟩
abbrev jM : Stmt := top 41
theorem aAM : FnScope ["land", "dyke", "height"] ["land", "dyke", "height"] (aB jM) := ⟨rfl, rfl, rfl, by decide +kernel, rfl, by decide +kernel, by decide +kernel⟩
abbrev fV : Stmt := top 42
theorem tV : FnScope ["land", "height"] ["land", "height"] (aB fV) := ⟨rfl, rfl, rfl, by decide +kernel, rfl, by decide +kernel, by decide +kernel⟩
abbrev eX : Stmt := top 43
theorem gB : FnScope ["land", "names", "steps", "name", "dyke"] ["land", "names"] (aB eX) := ⟨rfl, rfl, rfl, by decide +kernel, rfl, by decide +kernel, by decide +kernel⟩
abbrev mW : Stmt := top 44
theorem aFV : FnScope ["step", "most", "stream"] ["step", "most", "stream"] (aB mW) := ⟨rfl, rfl, rfl, by decide +kernel, rfl, by decide +kernel, by decide +kernel⟩
abbrev iL : Stmt := top 45
theorem yE : FnScope ["steps", "most", "stream"] ["steps", "most", "stream"] (aB iL) := ⟨rfl, rfl, rfl, by decide +kernel, rfl, by decide +kernel, by decide +kernel⟩
abbrev dG : Stmt := top 46
theorem fM : FnScope ["steps", "most", "stream", "fields", "came", "ends"] ["steps", "most", "stream", "fields"] (aB dG) := ⟨rfl, rfl, rfl, by decide +kernel, rfl, by decide +kernel, by decide +kernel⟩
abbrev dH : Stmt := top 47
theorem cO : FnScope ["steps", "most", "fields", "stream", "path", "amount", "step"] ["steps", "most", "fields"] (aB dH) := ⟨rfl, rfl, rfl, by decide +kernel, rfl, by decide +kernel, by decide +kernel⟩
abbrev eC : Stmt := top 48
theorem kN : FnScope ["steps", "flowed", "fields", "height", "behind"] ["steps", "flowed", "fields", "height"] (aB eC) := ⟨rfl, rfl, rfl, by decide +kernel, rfl, by decide +kernel, by decide +kernel⟩
abbrev jN : Stmt := top 49
theorem gG : FnScope ["land", "fields", "height", "most", "steps", "stream", "works", "amounts"] ["land", "fields", "height"] (aB jN) := ⟨rfl, rfl, rfl, by decide +kernel, rfl, by decide +kernel, by decide +kernel⟩
abbrev iQ : Stmt := top 50
theorem yI : FnScope ["thing", "most"] ["thing", "most"] (aB iQ) := ⟨rfl, rfl, rfl, by decide +kernel, rfl, by decide +kernel, by decide +kernel⟩
abbrev fR : Stmt := top 51
theorem mR : FnScope ["thing", "most", "names"] ["thing", "most"] (aB fR) := ⟨rfl, rfl, rfl, by decide +kernel, rfl, by decide +kernel, by decide +kernel⟩
abbrev gP : Stmt := top 52
theorem fP : FnScope ["land", "stream", "gains", "name", "amount", "dyke"] ["land", "stream"] (aB gP) := ⟨rfl, rfl, rfl, by decide +kernel, rfl, by decide +kernel, by decide +kernel⟩
abbrev fQ : Stmt := top 53
theorem jJ : FnScope ["land", "fields", "height", "stream", "gains", "others"] ["land", "fields", "height", "stream"] (aB fQ) := ⟨rfl, rfl, rfl, by decide +kernel, rfl, by decide +kernel, by decide +kernel⟩
abbrev iS : Stmt := top 55
theorem yK : FnScope ["_law_script", "_law_k"] ["_law_script", "_law_k"] (aB iS) := ⟨rfl, rfl, rfl, by decide +kernel, rfl, by decide +kernel, by decide +kernel⟩
abbrev kO : Stmt := top 56
theorem aCQ : FnScope ["_law_found"] ["_law_found"] (aB kO) := ⟨rfl, rfl, rfl, by decide +kernel, rfl, by decide +kernel, by decide +kernel⟩
abbrev kQ : Stmt := top 57
theorem cH : FnScope ["_law_cell", "_law_many", "_law_size", "_law_at", "_law_beside", "_law_short", "_law_names_here", "_law_k", "_law_name", "_law_rest", "_law_j", "_law_number"] ["_law_cell", "_law_many"] (aB kQ) := ⟨rfl, rfl, rfl, by decide +kernel, rfl, by decide +kernel, by decide +kernel⟩
abbrev kR : Stmt := top 58
theorem aCR : FnScope ["_law_script", "_law_k"] ["_law_script", "_law_k"] (aB kR) := ⟨rfl, rfl, rfl, by decide +kernel, rfl, by decide +kernel, by decide +kernel⟩
abbrev jQ : Stmt := top 59
theorem aAN : FnScope ["_law_cell"] ["_law_cell"] (aB jQ) := ⟨rfl, rfl, rfl, by decide +kernel, rfl, by decide +kernel, by decide +kernel⟩
abbrev jO : Stmt := top 60
theorem rS : FnScope ["_law_cell", "_law_near"] ["_law_cell"] (aB jO) := ⟨rfl, rfl, rfl, by decide +kernel, rfl, by decide +kernel, by decide +kernel⟩
abbrev jR : Stmt := top 61
theorem aAO : FnScope ["_law_cell"] ["_law_cell"] (aB jR) := ⟨rfl, rfl, rfl, by decide +kernel, rfl, by decide +kernel, by decide +kernel⟩
abbrev jP : Stmt := top 62
theorem gH : FnScope ["_law_script", "_law_most", "_law_cell", "_law_names_here", "_law_fields_here", "_law_k"] ["_law_script", "_law_most"] (aB jP) := ⟨rfl, rfl, rfl, by decide +kernel, rfl, by decide +kernel, by decide +kernel⟩
abbrev kT : Stmt := top 63
theorem cZ : FnScope ["_law_script", "_law_fields_here", "_law_most", "_law_cell", "_law_names_here", "_law_sides", "_law_dykes_here", "_law_k", "_law_first", "_law_second", "_law_crown", "_law_sill"] ["_law_script", "_law_fields_here", "_law_most"] (aB kT) := ⟨rfl, rfl, rfl, by decide +kernel, rfl, by decide +kernel, by decide +kernel⟩
abbrev mX : Stmt := top 64
theorem hZ : FnScope ["_law_land_here", "_law_number", "_law_names_here", "_law_wish_here", "_law_many", "_law_k"] ["_law_land_here", "_law_number"] (aB mX) := ⟨rfl, rfl, rfl, by decide +kernel, rfl, by decide +kernel, by decide +kernel⟩
abbrev kS : Stmt := top 65
theorem aCS : FnScope ["_law_cell"] ["_law_cell"] (aB kS) := ⟨rfl, rfl, rfl, by decide +kernel, rfl, by decide +kernel, by decide +kernel⟩
abbrev mY : Stmt := top 66
theorem wL : FnScope ["_law_script", "_law_most", "_law_many", "_law_fields_here"] ["_law_script", "_law_most", "_law_many"] (aB mY) := ⟨rfl, rfl, rfl, by decide +kernel, rfl, by decide +kernel, by decide +kernel⟩
abbrev nB : Stmt := top 67
theorem fJ : FnScope ["_law_land_here", "_law_height_here", "_law_low", "_law_found", "_law_name", "_law_one", "_law_other", "_law_crown", "_law_rate", "_law_sill"] ["_law_land_here", "_law_height_here"] (aB nB) := ⟨rfl, rfl, rfl, by decide +kernel, rfl, by decide +kernel, by decide +kernel⟩
abbrev nC : Stmt := top 68
theorem eM : FnScope ["_law_gaps_here", "_law_come_here", "_law_at", "_law_name", "_law_one", "_law_other", "_law_coins", "_law_side", "_law_there"] ["_law_gaps_here"] (aB nC) := ⟨rfl, rfl, rfl, by decide +kernel, rfl, by decide +kernel, by decide +kernel⟩
abbrev mZ : Stmt := top 69
theorem wM : FnScope ["_law_land_here", "_law_fields_here", "_law_height_here", "_law_come_here"] ["_law_land_here", "_law_fields_here", "_law_height_here"] (aB mZ) := ⟨rfl, rfl, rfl, by decide +kernel, rfl, by decide +kernel, by decide +kernel⟩
abbrev gT : Stmt := top 70
theorem kH : FnScope ["_law_land_here", "_law_steps", "_law_step", "_law_told"] ["_law_land_here", "_law_steps"] (aB gT) := ⟨rfl, rfl, rfl, by decide +kernel, rfl, by decide +kernel, by decide +kernel⟩
abbrev kP : Stmt := top 71
theorem gC : FnScope ["_law_land_here", "_law_gaps_here", "_law_wish_here", "_law_stream", "_law_gains", "_law_name", "_law_amount_here", "_law_some"] ["_law_land_here", "_law_gaps_here", "_law_wish_here", "_law_stream"] (aB kP) := ⟨rfl, rfl, rfl, by decide +kernel, rfl, by decide +kernel, by decide +kernel⟩
abbrev nA : Stmt := top 72
theorem dR : FnScope ["_law_land_here", "_law_wish_here", "_law_height_here", "_law_handed", "_law_found", "_law_coins", "_law_works", "_law_stream", "_law_total", "_law_name", "_law_crown", "_law_bank"] ["_law_land_here", "_law_wish_here", "_law_height_here"] (aB nA) := ⟨rfl, rfl, rfl, by decide +kernel, rfl, by decide +kernel, by decide +kernel⟩
abbrev oS : Stmt := top 73
theorem gM : FnScope ["_law_script", "_law_land_here", "_law_banks", "_law_cell", "_law_number", "_law_wish_here", "_law_height_here", "_law_found", "_law_again"] ["_law_script"] (aB oS) := ⟨rfl, rfl, rfl, by decide +kernel, rfl, by decide +kernel, by decide +kernel⟩
structure Txt (K : PySem.W.Frag) (mg : Str → Option Value) (C : Addr) : Prop where
 cl_Land : Cls K C
 mg_Land : mg "Land" = some (.ref C)
 a_field_rows : oJ K C "field_rows"
 a_dyke_rows : oJ K C "dyke_rows"
 ci_Land : InstC K C
 i_Land : InitAt K C "Land.__init__" gS ["self", "fields", "dykes"]
 m_land_p_fields : MethAt K C "fields" "Land.fields" eG ["self"]
 m_land_p_dykes : MethAt K C "dykes" "Land.dykes" fC ["self"]
 m_land_p_field_names : MethAt K C "field_names" "Land.field_names" cV ["self"]
 m_land_p_dyke_names : MethAt K C "dyke_names" "Land.dyke_names" dD ["self"]
 m_land_p_sluices : MethAt K C "sluices" "Land.sluices" fK ["self"]
 m_land_p_ground : MethAt K C "ground" "Land.ground" eF ["self", "field"]
 m_land_p_dues : MethAt K C "dues" "Land.dues" iF ["self", "field"]
 m_land_p_dyke : MethAt K C "dyke" "Land.dyke" fZ ["self", "name"]
 m_land_p_raised : MethAt K C "raised" "Land.raised" eE ["self", "works"]
 d_p_wall : DefAt K mg "_wall" pX ["k"]
 d_p_is_whole : DefAt K mg "is_whole" gN ["thing"]
 d_p_is_name : DefAt K mg "is_name" iP ["thing"]
 d_p_is_height : DefAt K mg "is_height" fT ["thing"]
 d_p_is_amount : DefAt K mg "is_amount" fU ["thing"]
 d_p_is_one_of : DefAt K mg "is_one_of" fS ["thing", "names"]
 d_p_is_list_of : DefAt K mg "is_list_of" eZ ["thing", "most"]
 d_p_is_tuple_of : DefAt K mg "is_tuple_of" eD ["thing", "length"]
 d_p_none_twice : DefAt K mg "none_twice" eY ["rows"]
 d_p_is_field : DefAt K mg "is_field" gO ["thing"]
 d_p_are_fields : DefAt K mg "are_fields" fB ["thing"]
 d_p_are_sides : DefAt K mg "are_sides" fX ["one", "other", "sides"]
 d_p_is_sill : DefAt K mg "is_sill" iO ["thing", "crown"]
 d_p_is_dyke : DefAt K mg "is_dyke" iR ["thing", "sides"]
 d_p_are_dykes : DefAt K mg "are_dykes" fY ["thing", "sides"]
 d_p_is_work : DefAt K mg "is_work" iN ["land", "thing"]
 d_p_are_works : DefAt K mg "are_works" fW ["land", "thing"]
 d_p_are_some_fields : DefAt K mg "are_some_fields" dC ["land", "thing"]
 d_p_with_crown : DefAt K mg "with_crown" eW ["dyke", "crown"]
 d_p_spread : DefAt K mg "spread" jK ["starts", "steps"]
 d_p_path_to : DefAt K mg "path_to" iM ["came", "side"]
 d_p_check_wish : DefAt K mg "check_wish" fA ["land", "fields", "height"]
 d_p_coins_to : DefAt K mg "coins_to" gQ ["dyke", "height"]
 d_p_coins_of : DefAt K mg "coins_of" gR ["land", "works"]
 d_p_is_low : DefAt K mg "is_low" jL ["land", "side", "height"]
 d_p_is_gap : DefAt K mg "is_gap" jM ["land", "dyke", "height"]
 d_p_gap_coins : DefAt K mg "gap_coins" fV ["land", "height"]
 d_p_steps_over : DefAt K mg "steps_over" eX ["land", "names"]
 d_p_room : DefAt K mg "room" mW ["step", "most", "stream"]
 d_p_reached : DefAt K mg "reached" iL ["steps", "most", "stream"]
 d_p_path_with_room : DefAt K mg "path_with_room" dG ["steps", "most", "stream", "fields"]
 d_p_fullest_stream : DefAt K mg "fullest_stream" dH ["steps", "most", "fields"]
 d_p_works_round : DefAt K mg "works_round" eC ["steps", "flowed", "fields", "height"]
 d_p_fewest : DefAt K mg "fewest" jN ["land", "fields", "height"]
 d_p_is_flow : DefAt K mg "is_flow" iQ ["thing", "most"]
 d_p_is_stream : DefAt K mg "is_stream" fR ["thing", "most"]
 d_p_gains_by : DefAt K mg "gains_by" gP ["land", "stream"]
 d_p_paper_for : DefAt K mg "paper_for" fQ ["land", "fields", "height", "stream"]
 d_l_cell_at : DefAt K mg "_law_cell_at" iS ["_law_script", "_law_k"]
 d_l_whole : DefAt K mg "_law_whole" kO ["_law_found"]
 d_l_names : DefAt K mg "_law_names" kQ ["_law_cell", "_law_many"]
 d_l_mixed : DefAt K mg "_law_mixed" kR ["_law_script", "_law_k"]
 d_l_digits : DefAt K mg "_law_digits" jQ ["_law_cell"]
 d_l_height : DefAt K mg "_law_height" jO ["_law_cell"]
 d_l_amount : DefAt K mg "_law_amount" jR ["_law_cell"]
 d_l_fields : DefAt K mg "_law_fields" jP ["_law_script", "_law_most"]
 d_l_dykes : DefAt K mg "_law_dykes" kT ["_law_script", "_law_fields_here", "_law_most"]
 d_l_wish : DefAt K mg "_law_wish" mX ["_law_land_here", "_law_number"]
 d_l_level : DefAt K mg "_law_level" kS ["_law_cell"]
 d_l_land : DefAt K mg "_law_land" mY ["_law_script", "_law_most", "_law_many"]
 d_l_gaps : DefAt K mg "_law_gaps" nB ["_law_land_here", "_law_height_here"]
 d_l_come : DefAt K mg "_law_come" nC ["_law_gaps_here"]
 d_l_kept : DefAt K mg "_law_kept" mZ ["_law_land_here", "_law_fields_here", "_law_height_here"]
 d_l_in_order : DefAt K mg "_law_in_order" gT ["_law_land_here", "_law_steps"]
 d_l_paper : DefAt K mg "_law_paper" kP ["_law_land_here", "_law_gaps_here", "_law_wish_here", "_law_stream"]
 d_l_good : DefAt K mg "_law_good" nA ["_law_land_here", "_law_wish_here", "_law_height_here"]
 d_p_law : DefAt K mg "law" oS ["_law_script"]
 g_SEA : lW mg "SEA" (.str "sea")
 g_LETTERS : lW mg "LETTERS" (.str "abcdefghijklmnopqrstuvwxyz")
 g_MOST_LETTERS : lW mg "MOST_LETTERS" (.int 8)
 g_MOST_HEIGHT : lW mg "MOST_HEIGHT" (.int 1000000)
 g_MOST_AMOUNT : lW mg "MOST_AMOUNT" (.int 1000000)
 g_MOST_FIELDS : lW mg "MOST_FIELDS" (.int 12)
 g_MOST_DYKES : lW mg "MOST_DYKES" (.int 40)
 n_abs : mg "abs" = none
 n_all : mg "all" = none
 n_any : mg "any" = none
 n_bool : mg "bool" = none
 n_dict : mg "dict" = none
 n_int : mg "int" = none
 n_isinstance : mg "isinstance" = none
 n_len : mg "len" = none
 n_list : mg "list" = none
 n_max : mg "max" = none
 n_min : mg "min" = none
 n_range : mg "range" = none
 n_reversed : mg "reversed" = none
 n_set : mg "set" = none
 n_str : mg "str" = none
 n_sum : mg "sum" = none
 n_tuple : mg "tuple" = none
section
variable {P : Program} {w : World} {K : PySem.W.Frag} {mg : Str → Option Value} {base : Heap} {C : Addr}
open Ld
theorem bQ : (1000 : Nat) ≤ sizeLine := by decide
def sW : Sp := sp1 fun x H Q => ∃ d, Is H d x ∧ Q (.bl (isInt d)) H
theorem kI (T : Txt K mg C) : Fc P w K mg base 1 "is_whole" ["thing"] sW := by
 refine T.d_p_is_whole.fc vQ mI (fun f cdv A outer s H vs Q E hr h => ?_)
 obtain ⟨x, rfl, d, hd, q⟩ := h
 obtain ⟨t, ty, e1, e2, _⟩ := jY K hd
 refine ⟨_, (aH (@aS _ _ _ _ (@dA _ _ _ _ _ _ _ (@aU _ _ _ _ _ _ _ _ _ (@bY _ (K) rfl) rfl T.n_isinstance bJ (aA (pv 0) (aA (@kD _ _ _ _ T.n_int xK (by rfl) (by decide) (by decide)) aD)) (by decide) (by decide) (by rfl) (by rfl)) (@dS _ _ _ _ _ (@aIK _ _ _ _ (@aU _ _ _ _ _ _ _ _ _ (@bY _ (K) rfl) rfl T.n_isinstance bJ (aA (pv 0) (aA (@kD _ _ _ _ T.n_bool vN (by rfl) (by decide) (by decide)) aD)) (by decide) (by decide) (by rfl) (by rfl))))))), ?_⟩
 refine ⟨_, rfl, _, _, _, t, _, rfl, rfl, ty, e1, _, rfl, ?_⟩
 refine gW (fun h => ?_) (fun h => ?_)
 ·refine ⟨_, rfl, _, _, _, t, _, rfl, rfl, ty, e2, _, rfl, ?_⟩
  have e : (!aJB d) = isInt d := by cases d <;> simp_all [isInt, aJB]
  rw [e]
  exact q
 ·have e : isInt d = false := by cases d <;> simp_all [isInt, aJB]
  rw [e] at q
  exact q
def aCH : Sp := sp1 fun x H Q => ∃ d, Is H d x ∧ eP d = true ∧ Q (.bl (pO d)) H
theorem qF (T : Txt K mg C) : Fc P w K mg base 1 "is_name" ["thing"] aCH := by
 refine T.d_p_is_name.fcD yH mI (fun f cdv A outer s H vs Q E hr h => ?_)
 obtain ⟨x, rfl, d, hd, hz, q⟩ := h
 obtain ⟨t, ty, e1, e2, e3, _⟩ := jY K hd
 have big := bQ
 refine ⟨_, (aG (@cW _ _ _ _ _ _ _ _ (@PW.pt _ _ _ (@fE _ _ _ _ _ _ _ (@cK _ _ _ _ (@cG _ _ _ (@aU _ _ _ _ _ _ _ _ _ (@bY _ (K) rfl) rfl T.n_isinstance bJ (aA (pv 0) (aA (@kD _ _ _ _ T.n_str rQ (by rfl) (by decide) (by decide)) aD)) (by decide) (by decide) (by rfl) (by rfl)) (by intro _; rfl))) (@fD _ _ _ _ (@cK _ _ _ _ (@aIF _ _ _ _ _ _ _ _ _ _ _ _ qC qC aE (@aU _ _ _ _ _ _ _ _ _ zJ rfl T.n_len cA (aA (pv 0) aD) (by decide) (by decide) (by rfl) (by rfl)) (@sN _ _ _ _ T.g_MOST_LETTERS (by rfl) (by decide)) (by with_unfolding_all rfl)))))) (aH (@aS _ _ _ _ lY)) bP) (aH (@aS _ _ _ _ (@dA _ _ _ _ _ _ _ (@dJ _ _ _ _ _ _ _ _ lZ (pv 0) (@sN _ _ _ _ T.g_SEA (by rfl) (by decide)) (@bI _ _ (by decide) (by decide))) (@dS _ _ _ _ _ (@aU _ _ _ _ _ _ _ _ _ (@lJ _ rfl) rfl T.n_all jG (aA (@bV _ _ _ _ _ _ _ _ _ _ _ ["sign"] 1 [] rfl (@aMU _ _ _ _ (pv 0)) (fun R => @aO _ _ (0) _ (show List.Nodup (["sign"] : List Str) by decide +kernel) rfl (Or.inl rfl) (by trivial)) (@aW _ _ (by decide)) (fun R => cC) (fun R => (@dJ _ _ _ _ _ _ _ _ aFZ (pv 0) (@sN _ _ _ _ T.g_LETTERS (by rfl) (by decide)) (by with_unfolding_all rfl))) (by rfl) (by rfl) (by rfl) (by rfl) (by rfl) (by rfl) (by rfl) (by intro _; rfl)) aD) (by decide) (by decide) (by rfl) (by rfl))))))), ?_⟩
 refine ⟨_, rfl, _, _, _, t, _, rfl, rfl, ty, e3, _, rfl, ?_⟩
 cases d with
 | str z =>
  cases (show x = .str z from hd)
  have hz : z.length ≤ 1000 := of_decide_eq_true hz
  have q : Q (.bl (eR z)) H := q
  have hzs : z.length ≤ sizeLine := by omega
  refine bM ?_
  refine ⟨_, rfl, z, rfl, hzs, _, _, rfl, rfl, _, rfl, ?_⟩
  refine gW (fun h1 => ?_) (fun h1 => ?_)
  ·refine ⟨_, _, rfl, rfl, _, rfl, ?_⟩
   have h1' : 1 ≤ z.length := by
    have := of_decide_eq_true h1
    omega
   refine gW (fun h2 => ?_) (fun h2 => ?_)
   ·have e : eR z = false := by
     have h2' : ¬ z.length ≤ 8 := by
      intro h3
      have : ((z.length : Nat) : Int) ≤ 8 := by omega
      simp [this] at h2
     simp [eR, h2']
    rw [e] at q
    exact cN.of (.refl _) q
   ·have h2' : z.length ≤ 8 := by
     have h3 : decide (((z.length : Nat) : Int) ≤ 8) = true := by
      cases h4 : decide (((z.length : Nat) : Int) ≤ 8) with
      | true => rfl
      | false => exact absurd (by rw [h4]; rfl) h2
     have := of_decide_eq_true h3
     omega
    refine ⟨_, rfl, rfl, _, rfl, ?_⟩
    refine gW (fun h3 => ?_) (fun h3 => ?_)
    ·have h3' : ¬ z = "sea" := by
      intro h4
      subst h4
      simp at h3
     refine ⟨_, rfl, z, rfl, ?_⟩
     refine aJU (Nat.le_trans hz (by decide)) (fun i ys H' => H' = H ∧ ys = (z.cps.toList.take i).map fun c => V.bl (kJ c)) ⟨rfl, rfl⟩ ?_ ?_ ?_
     ·rintro i ys H' ⟨_, rfl⟩
      rw [List.length_map, List.length_take]
      omega
     ·rintro i c ys H' K1 K2 hc ⟨rfl, rfl⟩ k1 k2
      refine ⟨_, rfl, _, _, rfl, rfl, k1 _ _ ⟨rfl, ?_⟩⟩
      have hc' : z.cps.toList[i]? = some c := by simpa using hc
      rw [List.take_add_one, hc', aDM]
      simp
     ·rintro ys H' ⟨rfl, rfl⟩
      intro p hp'
      refine ⟨p, z.cps.toList.map kJ, rfl, SqL.of ?_, ?_⟩
      ·rw [aF, List.take_of_length_le (by simp), List.map_map]
       rfl
      ·refine ⟨H', fN.lst hp', ?_⟩
       have e : eR z = (z.cps.toList.map kJ).all id := by
        rw [List.all_map]
        simp [eR, h1', h2', h3']
       rw [← e]
       exact q
    ·have e : eR z = false := by
      have h4 : z = "sea" := by
       apply Classical.byContradiction
       intro h5
       exact h3 (by simp [h5])
      subst h4
      simp [eR]
     rw [e] at q
     exact cN.of (.refl _) q
  ·have e : eR z = false := by
    have h1' : ¬ 1 ≤ z.length := by
     intro h3
     exact h1 (decide_eq_true (by omega))
    simp [eR, h1']
   rw [e] at q
   exact ⟨_, rfl, cN.of (.refl _) q⟩
 | non => exact cN.of (.refl _) q
 | bl b => exact cN.of (.refl _) q
 | int i => exact cN.of (.refl _) q
 | lst a => exact cN.of (.refl _) q
 | tup a => exact cN.of (.refl _) q
 | dct a b => exact cN.of (.refl _) q
def kM : Sp := sp1 fun x H Q => ∃ d, Is H d x ∧ Q (.bl (gX d)) H
theorem fG (T : Txt K mg C) : Fc P w K mg base 2 "is_height" ["thing"] kM := by
 have G_p_is_whole : Fc P w K mg base 1 "is_whole" ["thing"] sW := kI T
 refine T.d_p_is_height.fc tT mI (fun f cdv A outer s H vs Q E hr h => ?_)
 obtain ⟨x, rfl, d, hd, q⟩ := h
 refine ⟨_, (aH (@aS _ _ _ _ (@dA _ _ _ _ _ _ _ (@bL _ _ _ _ _ _ _ _ _ _ G_p_is_whole (hr.mono (by decide)) (aA (pv 0) aD) (by rfl) (by decide) (by rfl) (by rfl)) (@dS _ _ _ _ _ (@qA _ _ _ _ _ _ _ _ _ _ _ _ qC qC (@aMA _ _ _ _ _ _ aHA (@sN _ _ _ _ T.g_MOST_HEIGHT (by rfl) (by decide))) (pv 0) (@sN _ _ _ _ T.g_MOST_HEIGHT (by rfl) (by decide)) (by with_unfolding_all rfl)))))), ?_⟩
 refine ⟨_, rfl, _, rfl, d, hd, _, rfl, ?_⟩
 cases d with
 | int i =>
  cases (show x = .int i from hd)
  refine dO ?_
  have q : Q (.bl (decide (-1000000 ≤ i) && decide (i ≤ 1000000))) H := q
  refine ⟨_, rfl, _, rfl, _, _, rfl, rfl, _, rfl, ?_⟩
  refine gW (fun h1 => ?_) (fun h1 => ?_)
  ·refine ⟨_, _, rfl, rfl, ?_⟩
   rw [decide_eq_true (show -1000000 ≤ i from of_decide_eq_true h1), Bool.true_and] at q
   exact q
  ·rw [show decide (-1000000 ≤ i) = false from by simpa using h1, Bool.false_and] at q
   exact q
 | _ => exact bM q
def tP : Sp := sp1 fun x H Q => ∃ d, Is H d x ∧ Q (.bl (lA d)) H
theorem nL (T : Txt K mg C) : Fc P w K mg base 2 "is_amount" ["thing"] tP := by
 have G_p_is_whole : Fc P w K mg base 1 "is_whole" ["thing"] sW := kI T
 refine T.d_p_is_amount.fc tU mI (fun f cdv A outer s H vs Q E hr h => ?_)
 obtain ⟨x, rfl, d, hd, q⟩ := h
 refine ⟨_, (aH (@aS _ _ _ _ (@dA _ _ _ _ _ _ _ (@bL _ _ _ _ _ _ _ _ _ _ G_p_is_whole (hr.mono (by decide)) (aA (pv 0) aD) (by rfl) (by decide) (by rfl) (by rfl)) (@dS _ _ _ _ _ (@qA _ _ _ _ _ _ _ _ _ _ _ _ qC qC aE (pv 0) (@sN _ _ _ _ T.g_MOST_AMOUNT (by rfl) (by decide)) (by with_unfolding_all rfl)))))), ?_⟩
 refine ⟨_, rfl, _, rfl, d, hd, _, rfl, ?_⟩
 cases d with
 | int i =>
  cases (show x = .int i from hd)
  refine dO ?_
  have q : Q (.bl (decide (0 ≤ i) && decide (i ≤ 1000000))) H := q
  refine ⟨_, rfl, _, _, rfl, rfl, _, rfl, ?_⟩
  refine gW (fun h1 => ?_) (fun h1 => ?_)
  ·refine ⟨_, _, rfl, rfl, ?_⟩
   rw [decide_eq_true (show 0 ≤ i from of_decide_eq_true h1), Bool.true_and] at q
   exact q
  ·rw [show decide (0 ≤ i) = false from by simpa using h1, Bool.false_and] at q
   exact q
 | _ => exact bM q
def sZ (K : PySem.W.Frag) : Sp := sp2 fun x y H Q => ∃ (d : Dv) (p : Addr) (zs : List Str), Is H d x ∧ y = .ref p ∧ SqL K H p (zs.map V.str) ∧ Q (.bl (qD zs d)) H
theorem gY (z : Str) (zs : List Str) : inV (.str z) (zs.map V.str) = decide (z ∈ zs) := by
 unfold inV
 rw [Bool.eq_iff_iff, List.any_eq_true, decide_eq_true_iff]
 constructor
 ·rintro ⟨y, hy, e⟩
  obtain ⟨u, hu, rfl⟩ := List.mem_map.mp hy
  have e' : (u == z) = true := e
  rw [← beq_iff_eq.mp e']
  exact hu
 ·intro h
  exact ⟨_, List.mem_map.mpr ⟨z, h, rfl⟩, beq_self_eq_true z⟩
theorem dY (zs : List Str) : (zs.map V.str).all qJ = true := by
 rw [List.all_eq_true]
 intro y hy
 obtain ⟨u, _, rfl⟩ := List.mem_map.mp hy
 rfl
theorem jU (T : Txt K mg C) : Fc P w K mg base 1 "is_one_of" ["thing", "names"] (sZ K) := by
 refine T.d_p_is_one_of.fc mT gK (fun f cdv A outer s H vs Q E hr h => ?_)
 obtain ⟨x, y, rfl, d, p, zs, hd, rfl, hp, q⟩ := h
 obtain ⟨t, ty, e1, e2, e3, _⟩ := jY K hd
 refine ⟨_, (aH (@aS _ _ _ _ (@dA _ _ _ _ _ _ _ (@aU _ _ _ _ _ _ _ _ _ (@bY _ (K) rfl) rfl T.n_isinstance bJ (aA (pv 0) (aA (@kD _ _ _ _ T.n_str rQ (by rfl) (by decide) (by decide)) aD)) (by decide) (by decide) (by rfl) (by rfl)) (@dS _ _ _ _ _ (@dJ _ _ _ _ _ _ _ _ (@gD _ (K) rfl) (pv 0) (pv 1) (by with_unfolding_all rfl)))))), ?_⟩
 refine ⟨_, rfl, _, _, _, t, _, rfl, rfl, ty, e3, _, rfl, ?_⟩
 cases d with
 | str z =>
  cases (show x = .str z from hd)
  refine dO ⟨_, rfl, _, rfl, p, _, rfl, .inl hp, rfl, dY zs, ?_⟩
  show Q (.bl (inV (.str z) (zs.map V.str))) H
  rw [gY]
  exact q
 | _ => exact bM q
def pV : Sp := sp2 fun x y H Q => ∃ (d : Dv) (n : Int), Is H d x ∧ y = .int n ∧ Q (.bl (aIV n d)) H
theorem iV (T : Txt K mg C) : Fc P w K mg base 1 "is_list_of" ["thing", "most"] pV := by
 refine T.d_p_is_list_of.fc sI gK (fun f cdv A outer s H vs Q E hr h => ?_)
 obtain ⟨x, y, rfl, d, n, hd, rfl, q⟩ := h
 obtain ⟨t, ty, e1, e2, e3, e4, _⟩ := jY K hd
 refine ⟨_, (aH (@aS _ _ _ _ (@dA _ _ _ _ _ _ _ (@aU _ _ _ _ _ _ _ _ _ (@bY _ (K) rfl) rfl T.n_isinstance bJ (aA (pv 0) (aA (@kD _ _ _ _ T.n_list dI (by rfl) (by decide) (by decide)) aD)) (by decide) (by decide) (by rfl) (by rfl)) (@dS _ _ _ _ _ (@qA _ _ _ _ _ _ _ _ _ _ _ _ qC qC aE (@aU _ _ _ _ _ _ _ _ _ (@bH _ (K) rfl) rfl T.n_len cA (aA (pv 0) aD) (by decide) (by decide) (by rfl) (by rfl)) (pv 1) (by with_unfolding_all rfl)))))), ?_⟩
 refine ⟨_, rfl, _, _, _, t, _, rfl, rfl, ty, e4, _, rfl, ?_⟩
 cases d with
 | lst ds =>
  obtain ⟨a, vs, rfl, o, hl⟩ := hd
  have hlen := hl.length
  have q : Q (.bl (decide (1 ≤ ds.length) && decide ((ds.length : Int) ≤ n))) H := q
  refine dO ⟨_, rfl, a, vs, rfl, .inl (SqL.of o), _, _, rfl, rfl, _, rfl, ?_⟩
  rw [hlen]
  refine gW (fun h1 => ?_) (fun h1 => ?_)
  ·refine ⟨_, rfl, _, _, rfl, rfl, ?_⟩
   have h1' : 1 ≤ ds.length := by have := of_decide_eq_true h1; omega
   rw [decide_eq_true h1', Bool.true_and] at q
   exact q
  ·have h1' : ¬ 1 ≤ ds.length := fun c => h1 (decide_eq_true (by omega))
   rw [decide_eq_false h1', Bool.false_and] at q
   exact q
 | _ => exact bM q
def pT : Sp := sp2 fun x y H Q => ∃ (d : Dv) (n : Int), Is H d x ∧ y = .int n ∧ Q (.bl (aEE n d)) H
theorem fL (T : Txt K mg C) : Fc P w K mg base 1 "is_tuple_of" ["thing", "length"] pT := by
 refine T.d_p_is_tuple_of.fc qP gK (fun f cdv A outer s H vs Q E hr h => ?_)
 obtain ⟨x, y, rfl, d, n, hd, rfl, q⟩ := h
 obtain ⟨t, ty, e1, e2, e3, e4, e5⟩ := jY K hd
 refine ⟨_, (aH (@aS _ _ _ _ (@dA _ _ _ _ _ _ _ (@aU _ _ _ _ _ _ _ _ _ (@bY _ (K) rfl) rfl T.n_isinstance bJ (aA (pv 0) (aA (@kD _ _ _ _ T.n_tuple oE (by rfl) (by decide) (by decide)) aD)) (by decide) (by decide) (by rfl) (by rfl)) (@dS _ _ _ _ _ (@dJ _ _ _ _ _ _ _ _ nK (@aU _ _ _ _ _ _ _ _ _ (@bH _ (K) rfl) rfl T.n_len cA (aA (pv 0) aD) (by decide) (by decide) (by rfl) (by rfl)) (pv 1) (@bI _ _ (by decide) (by decide))))))), ?_⟩
 refine ⟨_, rfl, _, _, _, t, _, rfl, rfl, ty, e5, _, rfl, ?_⟩
 cases d with
 | tup ds =>
  obtain ⟨a, vs, rfl, o, hl⟩ := hd
  have hlen := hl.length
  have q : Q (.bl (decide ((ds.length : Int) = n))) H := q
  refine dO ⟨_, rfl, a, vs, rfl, .inr (SqT.of o), _, rfl, rfl, ?_⟩
  rw [hlen]
  have e : decide (V.int (ds.length : Int) = V.int n) = decide ((ds.length : Int) = n) := by rw [jD, Bool.eq_iff_iff]; simp
  rw [e]
  exact q
 | _ => exact bM q
def sX : Sp := sp1 fun x H Q => ∃ (p : Addr) (vs : List V) (ds : List Dv) (zs : List Str), x = .ref p ∧ H p = some (.lst vs) ∧ IsL H ds vs ∧ ds.map cQ = zs.map some ∧ zs.length ≤ 1000 ∧ Q (.bl (decide zs.Nodup)) H
theorem aGO {H : Hp} {d : Dv} {v : V} {z : Str} (h : Is H d v) (e : cQ d = some z) : ∃ a r, v = .ref a ∧ H a = some (.tup (.str z :: r)) := by
 cases d with
 | tup ds =>
  cases ds with
  | nil => cases e
  | cons d0 ds =>
   cases d0 with
   | str y =>
    cases e
    obtain ⟨a, vs, rfl, o, v0, r, rfl, h0, _⟩ := h
    cases (show v0 = .str z from h0)
    exact ⟨a, r, rfl, o⟩
   | _ => cases e
 | _ => cases e
theorem gI (zs : List Str) : (zs.map (Sum.inr : Str → Key)).Nodup ↔ zs.Nodup := by
 induction zs with
 | nil => simp
 | cons z zs ih =>
  rw [List.map_cons, List.nodup_cons, List.nodup_cons, ih]
  simp
theorem aFA (zs : List Str) : (zs.map (Sum.inr : Str → Key)).map kV = zs.map V.str := by
 rw [List.map_map]; rfl
theorem iU (T : Txt K mg C) : Fc P w K mg base 1 "none_twice" ["rows"] sX := by
 refine T.d_p_none_twice.fcD sH mI (fun f cdv A outer s H vs Q E hr h => ?_)
 obtain ⟨x, rfl, p, us, ds, zs, rfl, hp, hi, hz, hn, q⟩ := h
 have big := bQ
 have l1 := hi.length
 have l2 : ds.length = zs.length := by have := congrArg List.length hz; simpa using this
 refine ⟨_, (aH (@aS _ _ _ _ (@dJ _ _ _ _ _ _ _ _ nK (@aU _ _ _ _ _ _ _ _ _ call_len_set rfl T.n_len cA (aA (@cT _ _ _ _ _ _ _ _ _ (@pI _ rfl) rfl T.n_set xI (aA (@bV _ _ _ _ _ _ _ _ _ _ _ ["row"] 1 [] rfl (@bF _ _ _ _ (pv 0)) (fun R => @aO _ _ (0) _ (show List.Nodup (["row"] : List Str) by decide +kernel) rfl (Or.inl rfl) (by trivial)) (@aW _ _ (by decide)) (fun R => cC) (fun R => (@aX _ _ _ _ _ _ _ (@aP _ (K) rfl) (pv 0) aE (fun _ _ => rfl))) (by rfl) (by rfl) (by rfl) (by rfl) (by rfl) (by rfl) (by rfl) (by intro _; rfl)) aD) (by decide) (by decide) (by rfl) (by rfl)) aD) (by decide) (by decide) (by rfl) (by rfl)) (@aU _ _ _ _ _ _ _ _ _ (@bH _ (K) rfl) rfl T.n_len cA (aA (pv 0) aD) (by decide) (by decide) (by rfl) (by rfl)) (@bI _ _ (by decide) (by decide))))), ?_⟩
 refine ⟨_, rfl, p, rfl, ⟨_, SqL.of hp⟩, ?_⟩
 refine bD (F := K) (xs := us) (by omega) (fun i ys H' => H' = H ∧ ys = (zs.take i).map V.str) ⟨rfl, rfl⟩ ?_ ?_ ?_
 ·rintro i ys H' hi' ⟨rfl, rfl⟩
  exact ⟨SqL.of hp, by rw [List.length_map, List.length_take]; omega⟩
 ·rintro i x ys H' K1 K2 hx ⟨rfl, rfl⟩ k1 k2
  have hil : i < us.length := (List.getElem?_eq_some_iff.mp hx).1
  obtain ⟨d, ed⟩ : ∃ d, ds[i]? = some d := ⟨_, List.getElem?_eq_getElem (by omega)⟩
  obtain ⟨z, ez⟩ : ∃ z, zs[i]? = some z := ⟨_, List.getElem?_eq_getElem (by omega)⟩
  obtain ⟨v, ev, iv⟩ := hi.get ed
  rw [hx] at ev
  cases ev
  have ef : cQ d = some z := by
   have := congrArg (fun l => l[i]?) hz
   simpa [ed, ez] using this
  obtain ⟨a, r, rfl, o⟩ := aGO iv ef
  refine ⟨_, rfl, a, _, 0, .str z, rfl, rfl, SqT.of o, aI (j := 0) rfl, k1 _ _ ⟨rfl, ?_⟩⟩
  rw [List.take_add_one, ez]
  simp
 ·rintro ys H' ⟨rfl, rfl⟩
  intro p1 hp1
  have hys : (zs.take us.length).map V.str = (zs.map (Sum.inr : Str → Key)).map kV := by
   rw [List.take_of_length_le (by omega), aFA]
  refine ⟨p1, zs.map Sum.inr, rfl, SqL.of (by rw [aF, hys]), by rw [List.length_map]; exact hn, fun p2 hp2 => ?_⟩
  have hle := aFH (zs.map (Sum.inr : Str → Key))
  rw [List.length_map] at hle
  have np : p ≠ p1 := aV hp hp1
  have np2 : p ≠ p2 := aV (show upd H' p1 _ p = _ from (aQ np).trans hp) hp2
  refine ⟨p2, _, _, rfl, aF, by omega, _, rfl, p, us, rfl, .inl (SqL.of (by rw [aQ np2, aQ np]; exact hp)), rfl, ?_⟩
  have e : decide (V.int ((vF (zs.map (Sum.inr : Str → Key))).length : Int) = V.int (us.length : Int)) = decide zs.Nodup := by
   rw [jD, Bool.eq_iff_iff, decide_eq_true_iff, ← gI, ← xD, List.length_map, beq_iff_eq]
   omega
  rw [e]
  exact cN.of ((fN.new hp2 rfl).trans (fN.lst hp1)) q
def aEM : Sp := sp1 fun x H Q => ∃ d, Is H d x ∧ eP d = true ∧ Q (.bl (cF d)) H
theorem vV (T : Txt K mg C) : Fc P w K mg base 3 "is_field" ["thing"] aEM := by
 have G_p_is_tuple_of : Fc P w K mg base 1 "is_tuple_of" ["thing", "length"] pT := fL T
 have G_p_is_name : Fc P w K mg base 1 "is_name" ["thing"] aCH := qF T
 have G_p_is_height : Fc P w K mg base 2 "is_height" ["thing"] kM := fG T
 have G_p_is_amount : Fc P w K mg base 2 "is_amount" ["thing"] tP := nL T
 refine T.d_p_is_field.fc vR mI (fun f cdv A outer s H vs Q E hr h => ?_)
 obtain ⟨x, rfl, d, hd, hs, q⟩ := h
 refine ⟨_, (aG (@cW _ _ _ _ _ _ _ _ (@cK _ _ _ _ (@cG _ _ _ (@bL _ _ _ _ _ _ _ _ _ _ G_p_is_tuple_of (hr.mono (by decide)) (aA (pv 0) (aA aE aD)) (by rfl) (by decide) (by rfl) (by rfl)) (by intro _; rfl))) (aH (@aS _ _ _ _ lY)) bP) (aH (@aS _ _ _ _ (@dA _ _ _ _ _ _ _ (@bL _ _ _ _ _ _ _ _ _ _ G_p_is_name (hr.mono (by decide)) (aA (@aX _ _ _ _ _ _ _ (@aP _ (K) rfl) (pv 0) aE (fun _ _ => rfl)) aD) (by rfl) (by decide) (by rfl) (by rfl)) (@dA _ _ _ _ _ _ _ (@bL _ _ _ _ _ _ _ _ _ _ G_p_is_height (hr.mono (by decide)) (aA (@aX _ _ _ _ _ _ _ (@aP _ (K) rfl) (pv 0) aE (fun _ _ => rfl)) aD) (by rfl) (by decide) (by rfl) (by rfl)) (@dS _ _ _ _ _ (@bL _ _ _ _ _ _ _ _ _ _ G_p_is_amount (hr.mono (by decide)) (aA (@aX _ _ _ _ _ _ _ (@aP _ (K) rfl) (pv 0) aE (fun _ _ => rfl)) aD) (by rfl) (by decide) (by rfl) (by rfl)))))))), ?_⟩
 refine ⟨_, rfl, _, _, rfl, d, 3, hd, rfl, _, rfl, ?_⟩
 by_cases h3 : ∃ a b c, d = .tup [a, b, c]
 ·obtain ⟨a, b, c, rfl⟩ := h3
  obtain ⟨t, us, rfl, o, va, r1, rfl, ha, vb, r2, rfl, hb, vc, r3, rfl, hc, h0⟩ := hd
  cases (show r3 = [] from h0)
  have sa : eP a = true := by
   exact jH (wJ hs) List.mem_cons_self
  have q : Q (.bl (pO a && (gX b && lA c))) H := q
  refine bM ⟨_, rfl, t, _, 0, va, rfl, rfl, SqT.of o, aI (j := 0) rfl, _, rfl, a, ha, sa, _, rfl, ?_⟩
  cases ea : pO a with
  | false => rw [ea] at q; exact bM q
  | true =>
   rw [ea, Bool.true_and] at q
   refine dO ⟨_, rfl, t, _, 1, vb, rfl, rfl, SqT.of o, aI (j := 1) rfl, _, rfl, b, hb, _, rfl, ?_⟩
   cases eb : gX b with
   | false => rw [eb] at q; exact bM q
   | true =>
    rw [eb, Bool.true_and] at q
    exact dO ⟨_, rfl, t, _, 2, vc, rfl, rfl, SqT.of o, aI (j := 2) rfl, _, rfl, c, hc, q⟩
 ·have e1 : cF d = false := by
   unfold cF
   split
   ·rename_i a b c
    exact absurd ⟨a, b, c, rfl⟩ h3
   ·rfl
  have e2 : aEE 3 d = false := by
   cases d with
   | tup ds =>
    refine decide_eq_false (fun e => ?_)
    have e' : ds.length = 3 := by omega
    match ds, e', h3 with
    | [a, b, c], _, h3 => exact h3 ⟨a, b, c, rfl⟩
   | _ => rfl
  dsimp only
  rw [e2]
  rw [e1] at q
  exact dO q
theorem oW {p : Dv → Bool} (hp : ∀ d, p d = true → ∃ z, cQ d = some z) : ∀ {ds : List Dv}, ds.all p = true → ∃ zs : List Str, ds.map cQ = zs.map some
 | [], _ => ⟨[], rfl⟩
 | d :: ds, h => by
  rw [List.all_cons, Bool.and_eq_true] at h
  obtain ⟨z, e⟩ := hp d h.1
  obtain ⟨zs, e2⟩ := oW hp h.2
  exact ⟨z :: zs, by rw [List.map_cons, List.map_cons, e, e2]⟩
theorem vZ (d : Dv) (h : cF d = true) : ∃ z, cQ d = some z := by
 unfold cF at h
 split at h
 ·rename_i a b c
  rw [Bool.and_eq_true] at h
  cases a with
  | str z => exact ⟨z, rfl⟩
  | _ => cases h.1
 ·cases h
def aAE : Sp := sp1 fun x H Q => ∃ d, Is H d x ∧ eP d = true ∧ Q (.bl (lK d)) H
theorem sR (T : Txt K mg C) : Fc P w K mg base 4 "are_fields" ["thing"] aAE := by
 have G_p_is_list_of : Fc P w K mg base 1 "is_list_of" ["thing", "most"] pV := iV T
 have G_p_is_field : Fc P w K mg base 3 "is_field" ["thing"] aEM := vV T
 have G_p_none_twice : Fc P w K mg base 1 "none_twice" ["rows"] sX := iU T
 refine T.d_p_are_fields.fcD sK mI (fun f cdv A outer s H vs Q E hr h => ?_)
 obtain ⟨x, rfl, d, hd, hs, q⟩ := h
 have big := bQ
 refine ⟨_, (aH (@aS _ _ _ _ (@dA _ _ _ _ _ _ _ (@bL _ _ _ _ _ _ _ _ _ _ G_p_is_list_of (hr.mono (by decide)) (aA (pv 0) (aA (@sN _ _ _ _ T.g_MOST_FIELDS (by rfl) (by decide)) aD)) (by rfl) (by decide) (by rfl) (by rfl)) (@dA _ _ _ _ _ _ _ (@aU _ _ _ _ _ _ _ _ _ (@lJ _ rfl) rfl T.n_all jG (aA (@bV _ _ _ _ _ _ _ _ _ _ _ ["row"] 1 [] rfl (@bF _ _ _ _ (pv 0)) (fun R => @aO _ _ (0) _ (show List.Nodup (["row"] : List Str) by decide +kernel) rfl (Or.inl rfl) (by trivial)) (@aW _ _ (by decide)) (fun R => cC) (fun R => (@bL _ _ _ _ _ _ _ _ _ _ G_p_is_field (hr.mono (by decide)) (aA (pv 0) aD) (by rfl) (by decide) (by rfl) (by rfl))) (by rfl) (by rfl) (by rfl) (by rfl) (by rfl) (by rfl) (by rfl) (by intro _; rfl)) aD) (by decide) (by decide) (by rfl) (by rfl)) (@dS _ _ _ _ _ (@bL _ _ _ _ _ _ _ _ _ _ G_p_none_twice (hr.mono (by decide)) (aA (pv 0) aD) (by rfl) (by decide) (by rfl) (by rfl))))))), ?_⟩
 refine ⟨_, rfl, _, _, rfl, d, 12, hd, rfl, _, rfl, ?_⟩
 cases d with
 | lst ds =>
  obtain ⟨p, us, rfl, o, hi⟩ := hd
  have l1 := hi.length
  have hs' := Bool.and_eq_true_iff.mp (show (decide (ds.length ≤ 1000) && hU ds) = true from hs)
  have l2 : ds.length ≤ 1000 := of_decide_eq_true hs'.1
  have q : Q (.bl ((decide (1 ≤ ds.length) && decide (ds.length ≤ 12)) && (ds.all cF && decide ((ds.map cQ).Nodup)))) H := q
  have e0 : (decide (1 ≤ ds.length) && decide ((ds.length : Int) ≤ 12)) = (decide (1 ≤ ds.length) && decide (ds.length ≤ 12)) := by
   congr 1
   rw [Bool.eq_iff_iff, decide_eq_true_iff, decide_eq_true_iff]
   omega
  show if (decide (1 ≤ ds.length) && decide ((ds.length : Int) ≤ 12)) = true then _ else _
  rw [e0]
  refine gW (fun h1 => ?_) (fun h1 => ?_)
  ·rw [h1, Bool.true_and] at q
   refine ⟨_, rfl, p, rfl, ⟨_, SqL.of o⟩, ?_⟩
   refine bD (F := K) (xs := us) (by omega) (fun i ys H' => H' = H ∧ ys = (ds.take i).map fun d => V.bl (cF d)) ⟨rfl, rfl⟩ ?_ ?_ ?_
   ·rintro i ys H' hi' ⟨rfl, rfl⟩
    exact ⟨SqL.of o, by rw [List.length_map, List.length_take]; omega⟩
   ·rintro i x ys H' K1 K2 hx ⟨rfl, rfl⟩ k1 k2
    have hil : i < us.length := (List.getElem?_eq_some_iff.mp hx).1
    obtain ⟨d, ed⟩ : ∃ d, ds[i]? = some d := ⟨_, List.getElem?_eq_getElem (by omega)⟩
    obtain ⟨v, ev, iv⟩ := hi.get ed
    rw [hx] at ev
    cases ev
    refine ⟨_, rfl, _, rfl, d, iv, jH hs'.2 (List.mem_of_getElem? ed), k1 _ _ ⟨rfl, ?_⟩⟩
    rw [List.take_add_one, ed]
    simp
   ·rintro ys H' ⟨rfl, rfl⟩
    intro p1 hp1
    have np : p ≠ p1 := aV o hp1
    refine ⟨p1, ds.map cF, rfl, SqL.of ?_, _, rfl, ?_⟩
    ·rw [aF, List.take_of_length_le (by omega), List.map_map]
     rfl
    have e1 : (ds.map cF).all id = ds.all cF := by rw [List.all_map]; rfl
    rw [e1]
    refine gW (fun h2 => ?_) (fun h2 => ?_)
    ·rw [h2, Bool.true_and] at q
     obtain ⟨zs, ez⟩ := oW vZ h2
     have l3 : zs.length = ds.length := by have := congrArg List.length ez; simpa using this.symm
     refine ⟨_, rfl, _, rfl, p, us, ds, zs, rfl, by rw [aQ np]; exact o, IsL.same (aK.upd hp1) _ _ hi, ez, by omega, ?_⟩
     have e2 : decide zs.Nodup = decide (ds.map cQ).Nodup := by rw [ez, Bool.eq_iff_iff, decide_eq_true_iff, decide_eq_true_iff, dZ]
     rw [e2]
     exact cN.of (fN.lst hp1) q
    ·have h2' : ds.all cF = false := by simpa using h2
     rw [h2'] at q
     exact cN.of (fN.lst hp1) q
  ·have h1' : (decide (1 ≤ ds.length) && decide (ds.length ≤ 12)) = false := by simpa using h1
   rw [h1'] at q
   exact cN.of (.refl _) q
 | _ => exact bM (cN.of (.refl _) q)
def aEH (K : PySem.W.Frag) : Sp := sp3 fun x y u H Q => ∃ (a b : Dv) (p : Addr) (zs : List Str), Is H a x ∧ Is H b y ∧ u = .ref p ∧ SqL K H p (zs.map V.str) ∧ Q (.bl (oH zs a b)) H
theorem uI (T : Txt K mg C) : Fc P w K mg base 2 "are_sides" ["one", "other", "sides"] (aEH K) := by
 have G_p_is_one_of : Fc P w K mg base 1 "is_one_of" ["thing", "names"] (sZ K) := jU T
 refine T.d_p_are_sides.fc tX rA (fun f cdv A outer s H vs Q E hr h => ?_)
 obtain ⟨x, y, u, rfl, a, b, p, zs, ha, hb, rfl, hp, q⟩ := h
 refine ⟨_, (aH (@aS _ _ _ _ (@dA _ _ _ _ _ _ _ (@bL _ _ _ _ _ _ _ _ _ _ G_p_is_one_of (hr.mono (by decide)) (aA (pv 0) (aA (pv 2) aD)) (by rfl) (by decide) (by rfl) (by rfl)) (@dA _ _ _ _ _ _ _ (@bL _ _ _ _ _ _ _ _ _ _ G_p_is_one_of (hr.mono (by decide)) (aA (pv 1) (aA (pv 2) aD)) (by rfl) (by decide) (by rfl) (by rfl)) (@dS _ _ _ _ _ (@dJ _ _ _ _ _ _ _ _ lZ (pv 0) (pv 1) (@bI _ _ (by decide) (by decide)))))))), ?_⟩
 have q : Q (.bl (qD zs a && (qD zs b && !deq a b))) H := q
 refine ⟨_, rfl, _, rfl, _, _, rfl, a, p, zs, ha, rfl, hp, _, rfl, ?_⟩
 cases ea : qD zs a with
 | false => rw [ea] at q; exact bM q
 | true =>
  rw [ea, Bool.true_and] at q
  refine dO ⟨_, rfl, _, rfl, _, _, rfl, b, p, zs, hb, rfl, hp, _, rfl, ?_⟩
  cases eb : qD zs b with
  | false => rw [eb] at q; exact bM q
  | true =>
   rw [eb, Bool.true_and] at q
   cases a with
   | str z =>
    cases b with
    | str z' =>
     cases (show x = .str z from ha)
     cases (show y = .str z' from hb)
     refine dO ⟨_, rfl, _, rfl, rfl, ?_⟩
     have e : (!decide (V.str z = V.str z')) = !deq (.str z) (.str z') := by rw [oX]; rfl
     rw [e]
     exact q
    | _ => cases eb
   | _ => cases ea
def aHJ : Sp := sp2 fun x y H Q => ∃ (d : Dv) (j : Int), Is H d x ∧ y = .int j ∧ Q (.bl (jW (.int j) d)) H
theorem yR (T : Txt K mg C) : Fc P w K mg base 3 "is_sill" ["thing", "crown"] aHJ := by
 have G_p_is_height : Fc P w K mg base 2 "is_height" ["thing"] kM := fG T
 refine T.d_p_is_sill.fc yG gK (fun f cdv A outer s H vs Q E hr h => ?_)
 obtain ⟨x, y, rfl, d, j, hd, rfl, q⟩ := h
 refine ⟨_, (aH (@aS _ _ _ _ (@aMB _ _ _ _ _ _ _ (@dJ _ _ _ _ _ _ _ _ aDD (pv 0) eO (@bI _ _ (by decide) (by decide))) (@dS _ _ _ _ _ (@dA _ _ _ _ _ _ _ (@bL _ _ _ _ _ _ _ _ _ _ G_p_is_height (hr.mono (by decide)) (aA (pv 0) aD) (by rfl) (by decide) (by rfl) (by rfl)) (@dS _ _ _ _ _ (@dJ _ _ _ _ _ _ _ _ pB (pv 0) (pv 1) (@bI _ _ (by decide) (by decide))))))))), ?_⟩
 refine ⟨_, rfl, rfl, _, rfl, ?_⟩
 cases d with
 | non =>
  cases (show x = .non from hd)
  rw [decide_eq_true rfl]
  exact dO q
 | int i =>
  cases (show x = .int i from hd)
  rw [decide_eq_false (show ¬ V.int i = V.non by intro z; cases z)]
  refine bM ⟨_, rfl, _, rfl, .int i, rfl, _, rfl, ?_⟩
  have q : Q (.bl (hgt i && decide (i < j))) H := q
  show if hgt i = true then _ else _
  cases e : hgt i with
  | false => rw [e] at q; exact bM q
  | true => rw [e, Bool.true_and] at q; exact dO ⟨_, rfl, _, rfl, _, _, rfl, rfl, q⟩
 | bl b =>
  cases (show x = .bl b from hd)
  rw [decide_eq_false (show ¬ V.bl b = V.non by intro z; cases z)]
  exact bM ⟨_, rfl, _, rfl, .bl b, rfl, _, rfl, bM q⟩
 | str b =>
  cases (show x = .str b from hd)
  rw [decide_eq_false (show ¬ V.str b = V.non by intro z; cases z)]
  exact bM ⟨_, rfl, _, rfl, .str b, rfl, _, rfl, bM q⟩
 | lst b =>
  obtain ⟨a, us, rfl, o⟩ := id hd
  rw [decide_eq_false (show ¬ V.ref a = V.non by intro z; cases z)]
  exact bM ⟨_, rfl, _, rfl, .lst b, hd, _, rfl, bM q⟩
 | tup b =>
  obtain ⟨a, us, rfl, o⟩ := id hd
  rw [decide_eq_false (show ¬ V.ref a = V.non by intro z; cases z)]
  exact bM ⟨_, rfl, _, rfl, .tup b, hd, _, rfl, bM q⟩
 | dct b c =>
  obtain ⟨a, us, rfl, o⟩ := id hd
  rw [decide_eq_false (show ¬ V.ref a = V.non by intro z; cases z)]
  exact bM ⟨_, rfl, _, rfl, .dct b c, hd, _, rfl, bM q⟩
def aHQ (K : PySem.W.Frag) : Sp := sp2 fun x y H Q => ∃ (d : Dv) (p : Addr) (zs : List Str), Is H d x ∧ eP d = true ∧ y = .ref p ∧ SqL K H p (zs.map V.str) ∧ Q (.bl (cL zs d)) H
theorem yT (T : Txt K mg C) : Fc P w K mg base 4 "is_dyke" ["thing", "sides"] (aHQ K) := by
 have G_p_is_tuple_of : Fc P w K mg base 1 "is_tuple_of" ["thing", "length"] pT := fL T
 have G_p_is_name : Fc P w K mg base 1 "is_name" ["thing"] aCH := qF T
 have G_p_are_sides : Fc P w K mg base 2 "are_sides" ["one", "other", "sides"] (aEH K) := uI T
 have G_p_is_height : Fc P w K mg base 2 "is_height" ["thing"] kM := fG T
 have G_p_is_amount : Fc P w K mg base 2 "is_amount" ["thing"] tP := nL T
 have G_p_is_sill : Fc P w K mg base 3 "is_sill" ["thing", "crown"] aHJ := yR T
 refine T.d_p_is_dyke.fc yJ gK (fun f cdv A outer s H vs Q E hr h => ?_)
 obtain ⟨x, y, rfl, d, p, zs, hd, hs, rfl, hp, q⟩ := h
 refine ⟨_, (aG (@cW _ _ _ _ _ _ _ _ (@PW.pt _ _ _ (@fE _ _ _ _ _ _ _ (@cK _ _ _ _ (@cG _ _ _ (@bL _ _ _ _ _ _ _ _ _ _ G_p_is_tuple_of (hr.mono (by decide)) (aA (pv 0) (aA aE aD)) (by rfl) (by decide) (by rfl) (by rfl)) (by intro _; rfl))) (@fE _ _ _ _ _ _ _ (@cK _ _ _ _ (@cG _ _ _ (@bL _ _ _ _ _ _ _ _ _ _ G_p_is_name (hr.mono (by decide)) (aA (@aX _ _ _ _ _ _ _ (@aP _ (K) rfl) (pv 0) aE (fun _ _ => rfl)) aD) (by rfl) (by decide) (by rfl) (by rfl)) (by intro _; rfl))) (@fD _ _ _ _ (@cK _ _ _ _ (@cG _ _ _ (@bL _ _ _ _ _ _ _ _ _ _ G_p_are_sides (hr.mono (by decide)) (aA (@aX _ _ _ _ _ _ _ (@aP _ (K) rfl) (pv 0) aE (fun _ _ => rfl)) (aA (@aX _ _ _ _ _ _ _ (@aP _ (K) rfl) (pv 0) aE (fun _ _ => rfl)) (aA (pv 1) aD))) (by rfl) (by decide) (by rfl) (by rfl)) (by intro _; rfl))))))) (aH (@aS _ _ _ _ lY)) bP) (aH (@aS _ _ _ _ (@dA _ _ _ _ _ _ _ (@bL _ _ _ _ _ _ _ _ _ _ G_p_is_height (hr.mono (by decide)) (aA (@aX _ _ _ _ _ _ _ (@aP _ (K) rfl) (pv 0) aE (fun _ _ => rfl)) aD) (by rfl) (by decide) (by rfl) (by rfl)) (@dA _ _ _ _ _ _ _ (@bL _ _ _ _ _ _ _ _ _ _ G_p_is_amount (hr.mono (by decide)) (aA (@aX _ _ _ _ _ _ _ (@aP _ (K) rfl) (pv 0) aE (fun _ _ => rfl)) aD) (by rfl) (by decide) (by rfl) (by rfl)) (@dS _ _ _ _ _ (@bL _ _ _ _ _ _ _ _ _ _ G_p_is_sill (hr.mono (by decide)) (aA (@aX _ _ _ _ _ _ _ (@aP _ (K) rfl) (pv 0) aE (fun _ _ => rfl)) (aA (@aX _ _ _ _ _ _ _ (@aP _ (K) rfl) (pv 0) aE (fun _ _ => rfl)) aD)) (by rfl) (by decide) (by rfl) (by rfl)))))))), ?_⟩
 refine ⟨_, rfl, _, _, rfl, d, 6, hd, rfl, _, rfl, ?_⟩
 by_cases h6 : ∃ n a b c r l, d = .tup [n, a, b, c, r, l]
 ·obtain ⟨n, a, b, c, r, l, rfl⟩ := h6
  obtain ⟨t, us, rfl, o, v0, r0, rfl, i0, v1, r1, rfl, i1, v2, r2, rfl, i2, v3, r3, rfl, i3, v4, r4, rfl, i4, v5, r5, rfl, i5, h0⟩ := hd
  cases (show r5 = [] from h0)
  have sn : eP n = true := by
   exact jH (wJ hs) List.mem_cons_self
  have q : Q (.bl (pO n && oH zs a b && (gX c && (lA r && jW c l)))) H := q
  have at_ : ∀ (j : Nat) (v : V), ([v0, v1, v2, v3, v4, v5] : List V)[j]? = some v → atI [v0, v1, v2, v3, v4, v5] (j : Int) = some v := fun j v e => aI e
  refine bM ⟨_, rfl, t, _, 0, v0, rfl, rfl, SqT.of o, at_ 0 _ rfl, _, rfl, n, i0, sn, _, rfl, ?_⟩
  cases en : pO n with
  | false => rw [en] at q; exact dO q
  | true =>
   rw [en, Bool.true_and] at q
   refine bM ⟨_, rfl, t, _, 1, v1, rfl, rfl, SqT.of o, at_ 1 _ rfl, _, rfl, t, _, 2, v2, rfl, rfl, SqT.of o, at_ 2 _ rfl, _, rfl, _, _, _, rfl, a, b, p, zs, i1, i2, rfl, hp, _, rfl, ?_⟩
   cases es : oH zs a b with
   | false => rw [es] at q; exact dO q
   | true =>
    rw [es, Bool.true_and] at q
    refine bM ⟨_, rfl, t, _, 3, v3, rfl, rfl, SqT.of o, at_ 3 _ rfl, _, rfl, c, i3, _, rfl, ?_⟩
    cases ec : gX c with
    | false => rw [ec] at q; exact bM q
    | true =>
     rw [ec, Bool.true_and] at q
     refine dO ⟨_, rfl, t, _, 4, v4, rfl, rfl, SqT.of o, at_ 4 _ rfl, _, rfl, r, i4, _, rfl, ?_⟩
     cases er : lA r with
     | false => rw [er] at q; exact bM q
     | true =>
      rw [er, Bool.true_and] at q
      cases c with
      | int j =>
       cases (show v3 = .int j from i3)
       exact dO ⟨_, rfl, t, _, 5, v5, rfl, rfl, SqT.of o, at_ 5 _ rfl, _, rfl, t, _, 3, _, rfl, rfl, SqT.of o, at_ 3 _ rfl, _, _, rfl, l, j, i5, rfl, q⟩
      | _ => cases ec
 ·have e1 : cL zs d = false := by
   unfold cL
   split
   ·rename_i n a b c r l
    exact absurd ⟨n, a, b, c, r, l, rfl⟩ h6
   ·rfl
  have e2 : aEE 6 d = false := by
   cases d with
   | tup ds =>
    refine decide_eq_false (fun e => ?_)
    have e' : ds.length = 6 := by omega
    match ds, e', h6 with
    | [n, a, b, c, r, l], _, h6 => exact h6 ⟨n, a, b, c, r, l, rfl⟩
   | _ => rfl
  dsimp only
  rw [e2]
  rw [e1] at q
  exact dO q
theorem zD {zs : List Str} (d : Dv) (h : cL zs d = true) : ∃ z, cQ d = some z := by
 unfold cL at h
 split at h
 ·rename_i n a b c r l
  rw [Bool.and_eq_true, Bool.and_eq_true] at h
  cases n with
  | str z => exact ⟨z, rfl⟩
  | _ => cases h.1.1
 ·cases h
def aEN (K : PySem.W.Frag) : Sp := sp2 fun x y H Q => ∃ (d : Dv) (p : Addr) (zs : List Str), Is H d x ∧ eP d = true ∧ y = .ref p ∧ H p = some (.lst (zs.map V.str)) ∧ Q (.bl (oI zs d)) H
theorem uJ (T : Txt K mg C) : Fc P w K mg base 5 "are_dykes" ["thing", "sides"] (aEN K) := by
 have G_p_is_list_of : Fc P w K mg base 1 "is_list_of" ["thing", "most"] pV := iV T
 have G_p_is_dyke : Fc P w K mg base 4 "is_dyke" ["thing", "sides"] (aHQ K) := yT T
 have G_p_none_twice : Fc P w K mg base 1 "none_twice" ["rows"] sX := iU T
 refine T.d_p_are_dykes.fcD tY gK (fun f cdv A outer s H vs Q E hr h => ?_)
 obtain ⟨x, y, rfl, d, p0, zs0, hd, hs, rfl, hp0, q⟩ := h
 have big := bQ
 refine ⟨_, (aH (@aS _ _ _ _ (@dA _ _ _ _ _ _ _ (@bL _ _ _ _ _ _ _ _ _ _ G_p_is_list_of (hr.mono (by decide)) (aA (pv 0) (aA (@sN _ _ _ _ T.g_MOST_DYKES (by rfl) (by decide)) aD)) (by rfl) (by decide) (by rfl) (by rfl)) (@dA _ _ _ _ _ _ _ (@aU _ _ _ _ _ _ _ _ _ (@lJ _ rfl) rfl T.n_all jG (aA (@bV _ _ _ _ _ _ _ _ _ _ _ ["row", "sides"] 1 [1] rfl (@bF _ _ _ _ (pv 0)) (fun R => @aO _ _ (0) _ (show List.Nodup (["row", "sides"] : List Str) by decide +kernel) rfl (Or.inl rfl) (by trivial)) (@aW _ _ (by decide)) (fun R => cC) (fun R => (@bL _ _ _ _ _ _ _ _ _ _ G_p_is_dyke (hr.mono (by decide)) (aA (pv 0) (aA (pv 1) aD)) (by rfl) (by decide) (by rfl) (by rfl))) (by rfl) (by rfl) (by rfl) (by rfl) (by rfl) (by rfl) (by rfl) (by intro _; rfl)) aD) (by decide) (by decide) (by rfl) (by rfl)) (@dS _ _ _ _ _ (@bL _ _ _ _ _ _ _ _ _ _ G_p_none_twice (hr.mono (by decide)) (aA (pv 0) aD) (by rfl) (by decide) (by rfl) (by rfl))))))), ?_⟩
 refine ⟨_, rfl, _, _, rfl, d, 40, hd, rfl, _, rfl, ?_⟩
 cases d with
 | lst ds =>
  obtain ⟨p, us, rfl, o, hi⟩ := hd
  have l1 := hi.length
  have hs' := Bool.and_eq_true_iff.mp (show (decide (ds.length ≤ 1000) && hU ds) = true from hs)
  have l2 : ds.length ≤ 1000 := of_decide_eq_true hs'.1
  have q : Q (.bl ((decide (1 ≤ ds.length) && decide (ds.length ≤ 40)) && (ds.all (cL zs0) && decide ((ds.map cQ).Nodup)))) H := q
  have e0 : (decide (1 ≤ ds.length) && decide ((ds.length : Int) ≤ 40)) = (decide (1 ≤ ds.length) && decide (ds.length ≤ 40)) := by
   congr 1
   rw [Bool.eq_iff_iff, decide_eq_true_iff, decide_eq_true_iff]
   omega
  show if (decide (1 ≤ ds.length) && decide ((ds.length : Int) ≤ 40)) = true then _ else _
  rw [e0]
  refine gW (fun h1 => ?_) (fun h1 => ?_)
  ·rw [h1, Bool.true_and] at q
   refine ⟨_, rfl, p, rfl, ⟨_, SqL.of o⟩, ?_⟩
   refine bD (F := K) (xs := us) (by omega) (fun i ys H' => H' = H ∧ ys = (ds.take i).map fun d => V.bl (cL zs0 d)) ⟨rfl, rfl⟩ ?_ ?_ ?_
   ·rintro i ys H' hi' ⟨rfl, rfl⟩
    exact ⟨SqL.of o, by rw [List.length_map, List.length_take]; omega⟩
   ·rintro i x ys H' K1 K2 hx ⟨rfl, rfl⟩ k1 k2
    have hil : i < us.length := (List.getElem?_eq_some_iff.mp hx).1
    obtain ⟨d, ed⟩ : ∃ d, ds[i]? = some d := ⟨_, List.getElem?_eq_getElem (by omega)⟩
    obtain ⟨v, ev, iv⟩ := hi.get ed
    rw [hx] at ev
    cases ev
    refine ⟨_, rfl, _, rfl, _, _, rfl, d, p0, zs0, iv, jH hs'.2 (List.mem_of_getElem? ed), rfl, SqL.of hp0, k1 _ _ ⟨rfl, ?_⟩⟩
    rw [List.take_add_one, ed]
    simp
   ·rintro ys H' ⟨rfl, rfl⟩
    intro p1 hp1
    have np : p ≠ p1 := aV o hp1
    refine ⟨p1, ds.map (cL zs0), rfl, SqL.of ?_, _, rfl, ?_⟩
    ·rw [aF, List.take_of_length_le (by omega), List.map_map]
     rfl
    have e1 : (ds.map (cL zs0)).all id = ds.all (cL zs0) := by rw [List.all_map]; rfl
    rw [e1]
    refine gW (fun h2 => ?_) (fun h2 => ?_)
    ·rw [h2, Bool.true_and] at q
     obtain ⟨zs, ez⟩ := oW zD h2
     have l3 : zs.length = ds.length := by have := congrArg List.length ez; simpa using this.symm
     refine ⟨_, rfl, _, rfl, p, us, ds, zs, rfl, by rw [aQ np]; exact o, IsL.same (aK.upd hp1) _ _ hi, ez, by omega, ?_⟩
     have e2 : decide zs.Nodup = decide (ds.map cQ).Nodup := by rw [ez, Bool.eq_iff_iff, decide_eq_true_iff, decide_eq_true_iff, dZ]
     rw [e2]
     exact cN.of (fN.lst hp1) q
    ·have h2' : ds.all (cL zs0) = false := by simpa using h2
     rw [h2'] at q
     exact cN.of (fN.lst hp1) q
  ·have h1' : (decide (1 ≤ ds.length) && decide (ds.length ≤ 40)) = false := by simpa using h1
   rw [h1'] at q
   exact cN.of (.refl _) q
 | _ => exact bM (cN.of (.refl _) q)
def aCI (C : Addr) : Sp := sp3 fun x v1 v2 H Q => ∃ (p dx : Addr) (fs ds : List Dv), x = .ref p ∧ H p = some (.ins C dx []) ∧ Is H (.lst fs) v1 ∧ Is H (.lst ds) v2 ∧ eP (.lst fs) = true ∧ eP (.lst ds) = true ∧
 lK (.lst fs) = true ∧ oI ("sea" :: fs.map aL) (.lst ds) = true ∧ ∀ H', LandAt C H' p fs ds → (∀ b o, H b = some o → b ≠ p → H' b = some o) → Q .non H'
def pM (C : Addr) (sel : List Dv → List Dv → List Dv) : Sp := sp1 fun x H Q => ∃ (p : Addr) (fs ds : List Dv), x = .ref p ∧ LandAt C H p fs ds ∧ ∀ (l : Addr) (vs : List V) (H' : Hp), aK H H' → H l = none → H' l = some (.lst vs) → IsL H' (sel fs ds) vs → Q (.ref l) H'
def lL (C : Addr) (sel : List Dv → List Dv → List Str) : Sp := sp1 fun x H Q => ∃ (p : Addr) (fs ds : List Dv), x = .ref p ∧ LandAt C H p fs ds ∧ ∀ (l : Addr) (H' : Hp), aK H H' → H l = none → H' l = some (.lst ((sel fs ds).map V.str)) → Q (.ref l) H'
def pU (C : Addr) (sel : List Dv → List Dv → List Dv) : Sp := sp1 fun x H Q => ∃ (p : Addr) (fs ds : List Dv), x = .ref p ∧ LandAt C H p fs ds ∧ ∀ (l : Addr) (vs : List V), H l = none → IsL H (sel fs ds) vs → Q (.ref l) (upd H l (.lst vs))
def sY (C : Addr) (sel : List Dv → List Dv → List Str) : Sp := sp1 fun x H Q => ∃ (p : Addr) (fs ds : List Dv), x = .ref p ∧ LandAt C H p fs ds ∧ ∀ (l : Addr), H l = none → Q (.ref l) (upd H l (.lst ((sel fs ds).map V.str)))
theorem aAP {C : Addr} {sel : List Dv → List Dv → List Dv} : ∀ vs H Q E, pM C sel vs H Q E → pU C sel vs H Q E := by
 rintro vs H Q E ⟨x, rfl, p, fs, ds, rfl, L, q⟩
 exact ⟨_, rfl, p, fs, ds, rfl, L, fun l us hl hi => q l us _ (aK.upd hl) hl aF (IsL.same (aK.upd hl) _ _ hi)⟩
theorem zY {C : Addr} {sel : List Dv → List Dv → List Str} : ∀ vs H Q E, lL C sel vs H Q E → sY C sel vs H Q E := by
 rintro vs H Q E ⟨x, rfl, p, fs, ds, rfl, L, q⟩
 exact ⟨_, rfl, p, fs, ds, rfl, L, fun l hl => q l _ (aK.upd hl) hl aF⟩
theorem kE (T : Txt K mg C) : Mc P w K mg base 1 C "fields" ["self"] (pU C fun fs _ => fs) := by
 refine T.m_land_p_fields.mcD qR mI (fun f cdv A outer s H vs Q E hr h => ?_)
 obtain ⟨x, rfl, p, fs, ds, rfl, L, q⟩ := h
 obtain ⟨dx, d1, d2, hx, ⟨k1, h1, e1, i1⟩, t2⟩ := L.ex
 refine ⟨_, (aH (@aS _ _ _ _ (@cT _ _ _ _ _ _ _ _ _ (@lH _ rfl) rfl T.n_list dI (aA (@aDA _ _ _ _ _ _ _ _ _ PySem.F.plainAttrs_dict PySem.F.slot_dict_values PySem.F.type_dict_values wT (@qU _ _ _ _ _ (pv 0) rfl) (by rfl) (by rfl)) aD) (by decide) (by decide) (by rfl) (by rfl)))), ?_⟩
 refine ⟨_, rfl, p, C, dx, _, _, rfl, hx, T.cl_Land, T.a_field_rows, zA _ _, .inr (.inr (.inl ⟨rfl, .inl ⟨_, h1⟩⟩)), d1, k1, rfl, rfl, .inl h1, fun v hv => ?_⟩
 have nv : d1 ≠ v := aV h1 hv
 refine ⟨v, d1, k1, rfl, aF, .inl (by rw [aQ nv]; exact h1), fun l hl => ?_⟩
 exact cN.of (fN.under hv rfl hl) (q l _ ((aK.upd hv).free hl) i1)
theorem kX (T : Txt K mg C) : Mc P w K mg base 1 C "dykes" ["self"] (pU C fun _ ds => ds) := by
 refine T.m_land_p_dykes.mcD sL mI (fun f cdv A outer s H vs Q E hr h => ?_)
 obtain ⟨x, rfl, p, fs, ds, rfl, L, q⟩ := h
 obtain ⟨dx, d1, d2, hx, t1, ⟨k1, h1, e1, i1⟩⟩ := L.ex
 refine ⟨_, (aH (@aS _ _ _ _ (@cT _ _ _ _ _ _ _ _ _ (@lH _ rfl) rfl T.n_list dI (aA (@aDA _ _ _ _ _ _ _ _ _ PySem.F.plainAttrs_dict PySem.F.slot_dict_values PySem.F.type_dict_values wT (@qU _ _ _ _ _ (pv 0) rfl) (by rfl) (by rfl)) aD) (by decide) (by decide) (by rfl) (by rfl)))), ?_⟩
 refine ⟨_, rfl, p, C, dx, _, _, rfl, hx, T.cl_Land, T.a_dyke_rows, zC _ _, .inr (.inr (.inl ⟨rfl, .inl ⟨_, h1⟩⟩)), d2, k1, rfl, rfl, .inl h1, fun v hv => ?_⟩
 have nv : d2 ≠ v := aV h1 hv
 refine ⟨v, d2, k1, rfl, aF, .inl (by rw [aQ nv]; exact h1), fun l hl => ?_⟩
 exact cN.of (fN.under hv rfl hl) (q l _ ((aK.upd hv).free hl) i1)
theorem qY (T : Txt K mg C) : Mc P w K mg base 1 C "fields" ["self"] (pM C fun fs _ => fs) := (kE T).imp aAP
theorem iW (T : Txt K mg C) : Mc P w K mg base 1 C "dykes" ["self"] (pM C fun _ ds => ds) := (kX T).imp aAP
theorem uR {kvs : List (Key × V)} {ds : List Dv} (e : kvs.map (·.1) = ds.map mE) : (kvs.map fun kv => kV kv.1) = (ds.map aL).map V.str := by
 have h : (kvs.map fun kv => kV kv.1) = (kvs.map (·.1)).map kV := by rw [List.map_map]; rfl
 rw [h, e, List.map_map, List.map_map]
 rfl
theorem lP (T : Txt K mg C) : Mc P w K mg base 1 C "field_names" ["self"] (sY C fun fs _ => fs.map aL) := by
 refine T.m_land_p_field_names.mc mH mI (fun f cdv A outer s H vs Q E hr h => ?_)
 obtain ⟨x, rfl, p, fs, ds, rfl, L, q⟩ := h
 obtain ⟨dx, d1, d2, hx, ⟨k1, h1, e1, i1⟩, t2⟩ := L.ex
 refine ⟨_, (aH (@aS _ _ _ _ (@cT _ _ _ _ _ _ _ _ _ (@oB _ rfl) rfl T.n_list dI (aA (@qU _ _ _ _ _ (pv 0) rfl) aD) (by decide) (by decide) (by rfl) (by rfl)))), ?_⟩
 refine ⟨_, rfl, p, C, dx, _, _, rfl, hx, T.cl_Land, T.a_field_rows, zA _ _, d1, k1, rfl, .inl h1, fun l hl => ?_⟩
 have := q l hl
 rw [uR e1]
 exact this
theorem hE (T : Txt K mg C) : Mc P w K mg base 1 C "dyke_names" ["self"] (sY C fun _ ds => ds.map aL) := by
 refine T.m_land_p_dyke_names.mc mU mI (fun f cdv A outer s H vs Q E hr h => ?_)
 obtain ⟨x, rfl, p, fs, ds, rfl, L, q⟩ := h
 obtain ⟨dx, d1, d2, hx, t1, ⟨k1, h1, e1, i1⟩⟩ := L.ex
 refine ⟨_, (aH (@aS _ _ _ _ (@cT _ _ _ _ _ _ _ _ _ (@oB _ rfl) rfl T.n_list dI (aA (@qU _ _ _ _ _ (pv 0) rfl) aD) (by decide) (by decide) (by rfl) (by rfl)))), ?_⟩
 refine ⟨_, rfl, p, C, dx, _, _, rfl, hx, T.cl_Land, T.a_dyke_rows, zC _ _, d2, k1, rfl, .inl h1, fun l hl => ?_⟩
 have := q l hl
 rw [uR e1]
 exact this
theorem cR (T : Txt K mg C) : Mc P w K mg base 1 C "field_names" ["self"] (lL C fun fs _ => fs.map aL) := (lP T).imp zY
theorem nP (T : Txt K mg C) : Mc P w K mg base 1 C "dyke_names" ["self"] (lL C fun _ ds => ds.map aL) := (hE T).imp zY
theorem gA {H : Hp} {n a b : Str} {c r : Int} {s : Dv} {v : V} (h : Is H (.tup [.str n, .str a, .str b, .int c, .int r, s]) v) : ∃ t vs, v = .ref t ∧ H t = some (.tup [.str n, .str a, .str b, .int c, .int r, vs]) ∧ Is H s vs := by
 obtain ⟨t, us, rfl, o, v0, r0, rfl, i0, v1, r1, rfl, i1, v2, r2, rfl, i2, v3, r3, rfl, i3, v4, r4, rfl, i4, v5, r5, rfl, i5, h0⟩ := h
 cases (show r5 = [] from h0)
 cases (show v0 = _ from i0)
 cases (show v1 = _ from i1)
 cases (show v2 = _ from i2)
 cases (show v3 = _ from i3)
 cases (show v4 = _ from i4)
 exact ⟨t, v5, rfl, o, i5⟩
theorem lE {H : Hp} {n : Str} {g e : Int} {v : V} (h : Is H (.tup [.str n, .int g, .int e]) v) : ∃ t, v = .ref t ∧ H t = some (.tup [.str n, .int g, .int e]) := by
 obtain ⟨t, us, rfl, o, v0, r0, rfl, i0, v1, r1, rfl, i1, v2, r2, rfl, i2, h0⟩ := h
 cases (show r2 = [] from h0)
 cases (show v0 = _ from i0)
 cases (show v1 = _ from i1)
 cases (show v2 = _ from i2)
 exact ⟨t, rfl, o⟩
theorem bG {C : Addr} {H : Hp} {p : Addr} {fs ds : List Dv} (L : LandAt C H p fs ds) : GoodF fs ∧ GoodD ("sea" :: fs.map aL) ds := ⟨(rJ _).mp L.okf, (oV _ _).mp L.okd⟩
def aAD (C : Addr) : Sp := sp2 fun x y H Q => ∃ (p : Addr) (fs ds : List Dv) (z : Str) (g e : Int), x = .ref p ∧ y = .str z ∧ LandAt C H p fs ds ∧ Dv.tup [.str z, .int g, .int e] ∈ fs ∧ Q (.int g) H
theorem qX (T : Txt K mg C) : Mc P w K mg base 1 C "ground" ["self", "field"] (aAD C) := by
 refine T.m_land_p_ground.mc qQ gK (fun f cdv A outer s H vs Q E hr h => ?_)
 obtain ⟨x, y, rfl, p, fs, ds, z, g, e, rfl, rfl, L, m, q⟩ := h
 have hu := gZ hr
 obtain ⟨dx, d1, d2, hx, ⟨k1, h1, e1, i1⟩, t2⟩ := L.ex
 obtain ⟨v, ev, iv⟩ := xT e1 i1 (bG L).1.nd m
 obtain ⟨t, rfl, o⟩ := lE iv
 refine ⟨_, (aH (@aS _ _ _ _ (@aX _ _ _ _ _ _ _ (@aP _ (K) rfl) (@dN _ _ _ _ _ _ hu (@qU _ _ _ _ _ (pv 0) rfl) (pv 1) (fun _ _ => rfl)) aE (fun _ _ => rfl)))), ?_⟩
 refine ⟨_, rfl, p, C, dx, _, _, rfl, hx, T.cl_Land, T.a_field_rows, zA _ _, _, rfl, d1, .ref t, rfl, ?_, t, _, 1, .int g, rfl, rfl, SqT.of o, aI (j := 1) rfl, q⟩
 rw [← ev]
 exact oK.k (k := Sum.inr z) h1
def oO (C : Addr) : Sp := sp2 fun x y H Q => ∃ (p : Addr) (fs ds : List Dv) (d : Dv), x = .ref p ∧ y = .str (aL d) ∧ LandAt C H p fs ds ∧ d ∈ ds ∧ ∀ v, Is H d v → Q v H
theorem fH (T : Txt K mg C) : Mc P w K mg base 1 C "dyke" ["self", "name"] (oO C) := by
 refine T.m_land_p_dyke.mc tZ gK (fun f cdv A outer s H vs Q E hr h => ?_)
 obtain ⟨x, y, rfl, p, fs, ds, d, rfl, rfl, L, m, q⟩ := h
 have hu := gZ hr
 obtain ⟨dx, d1, d2, hx, t1, ⟨k1, h1, e1, i1⟩⟩ := L.ex
 obtain ⟨v, ev, iv⟩ := xT e1 i1 (bG L).2.nd m
 refine ⟨_, (aH (@aS _ _ _ _ (@dN _ _ _ _ _ _ hu (@qU _ _ _ _ _ (pv 0) rfl) (pv 1) (fun _ _ => rfl)))), ?_⟩
 refine ⟨_, rfl, p, C, dx, _, _, rfl, hx, T.cl_Land, T.a_dyke_rows, zC _ _, _, rfl, d2, v, rfl, ?_, q v iv⟩
 rw [← ev]
 exact oK.k (k := Sum.inr (aL d)) h1
theorem aEC {α β : Type} : ∀ {xs : List α} {ys : List β}, xs.length = ys.length → (xs.zip ys).map (·.1) = xs
 | [], [], _ => rfl
 | x :: xs, y :: ys, h => by rw [List.zip_cons_cons, List.map_cons, aEC (by simpa using h)]
 | [], _ :: _, h => by simp at h
 | _ :: _, [], h => by simp at h
theorem aEB {α β : Type} : ∀ {xs : List α} {ys : List β}, xs.length = ys.length → (xs.zip ys).map (·.2) = ys
 | [], [], _ => rfl
 | x :: xs, y :: ys, h => by rw [List.zip_cons_cons, List.map_cons, aEB (by simpa using h)]
 | [], _ :: _, h => by simp at h
 | _ :: _, [], h => by simp at h
def dE (ds : List Dv) (us : List V) : List (Key × V) := (ds.map mE).zip us
theorem lN {ds : List Dv} {us : List V} (h : us.length = ds.length) : (dE ds us).map (·.1) = ds.map mE := aEC (by rw [List.length_map]; exact h.symm)
theorem uE {ds : List Dv} {us : List V} (h : us.length = ds.length) : (dE ds us).map (·.2) = us := aEB (by rw [List.length_map]; exact h.symm)
theorem oU {ds : List Dv} {us : List V} (h : us.length = ds.length) : (dE ds us).length = us.length := by
 unfold dE
 rw [List.length_zip, List.length_map]
 omega
theorem aAS {ds : List Dv} {us : List V} {i : Nat} {d : Dv} {v : V} (e1 : ds[i]? = some d) (e2 : us[i]? = some v) : (dE ds us)[i]? = some (mE d, v) := by
 unfold dE
 rw [List.getElem?_zip_eq_some]
 exact ⟨by rw [List.getElem?_map, e1]; rfl, e2⟩
theorem rE {ds : List Dv} (h : (ds.map aL).Nodup) : (ds.map mE).Nodup := by
 have e : ds.map mE = (ds.map aL).map Sum.inr := by rw [List.map_map]; rfl
 rw [e, gI]
 exact h
theorem pF (T : Txt K mg C) : Ic P w K mg base 6 C ["self", "fields", "dykes"] (aCI C) := by
 have G_p_are_fields : Fc P w K mg base 4 "are_fields" ["thing"] aAE := sR T
 have G_p_are_dykes : Fc P w K mg base 5 "are_dykes" ["thing", "sides"] (aEN K) := uJ T
 refine T.i_Land.ic vU rA (fun f cdv A outer s H vs Q E hr h => ?_)
 obtain ⟨x, v1, v2, rfl, p, dx, fs, ds, rfl, hx, hf, hd, sf, sd, okf, okd, q⟩ := h
 have big := bQ
 have gf := (rJ _).mp okf
 have gd := (oV _ _).mp okd
 have lf := gf.l2
 have ld := gd.l2
 obtain ⟨a1, us, rfl, o1, i1⟩ := id hf
 obtain ⟨a2, ws, rfl, o2, i2⟩ := id hd
 have l1 := i1.length
 have l2 := i2.length
 refine ⟨_, (aG (@cW _ _ _ _ _ _ _ _ (@cK _ _ _ _ (@cG _ _ _ (@bL _ _ _ _ _ _ _ _ _ _ G_p_are_fields (hr.mono (by decide)) (aA (pv 1) aD) (by rfl) (by decide) (by rfl) (by rfl)) (by intro _; rfl))) (aH nE) bP) (aG (@cW _ _ _ _ _ _ _ _ (@cK _ _ _ _ (@cG _ _ _ (@bL _ _ _ _ _ _ _ _ _ _ G_p_are_dykes (hr.mono (by decide)) (aA (pv 2) (aA (@aJ _ _ _ _ _ _ _ _ uF (@dL _ _ _ _ (aA (@sN _ _ _ _ T.g_SEA (by rfl) (by decide)) aD)) (@bV _ _ _ _ _ _ _ _ _ _ _ ["field"] 1 [] rfl (@bF _ _ _ _ (pv 1)) (fun R => @aO _ _ (0) _ (show List.Nodup (["field"] : List Str) by decide +kernel) rfl (Or.inl rfl) (by trivial)) (@aW _ _ (by decide)) (fun R => cC) (fun R => (@aX _ _ _ _ _ _ _ (@aP _ (K) rfl) (pv 0) aE (fun _ _ => rfl))) (by rfl) (by rfl) (by rfl) (by rfl) (by rfl) (by rfl) (by rfl) (by intro _; rfl))) aD)) (by rfl) (by decide) (by rfl) (by rfl)) (by intro _; rfl))) (aH nE) bP) (aG (@aIG _ _ _ _ _ _ _ _ (pv 0) (@cT _ _ _ _ _ _ _ _ _ (@dB _ rfl) rfl T.n_dict gE (aA (@bV _ _ _ _ _ _ _ _ _ _ _ ["field"] 1 [] rfl (@bF _ _ _ _ (pv 1)) (fun R => @aO _ _ (0) _ (show List.Nodup (["field"] : List Str) by decide +kernel) rfl (Or.inl rfl) (by trivial)) (@aW _ _ (by decide)) (fun R => cC) (fun R => (@fF _ _ _ _ _ (aA (@aX _ _ _ _ _ _ _ (@aP _ (K) rfl) (pv 0) aE (fun _ _ => rfl)) (aA (pv 0) aD)))) (by rfl) (by rfl) (by rfl) (by rfl) (by rfl) (by rfl) (by rfl) (by intro _; rfl)) aD) (by decide) (by decide) (by rfl) (by rfl)) rfl) (aH (@aIG _ _ _ _ _ _ _ _ (pv 0) (@cT _ _ _ _ _ _ _ _ _ (@dB _ rfl) rfl T.n_dict gE (aA (@bV _ _ _ _ _ _ _ _ _ _ _ ["dyke"] 1 [] rfl (@bF _ _ _ _ (pv 2)) (fun R => @aO _ _ (0) _ (show List.Nodup (["dyke"] : List Str) by decide +kernel) rfl (Or.inl rfl) (by trivial)) (@aW _ _ (by decide)) (fun R => cC) (fun R => (@fF _ _ _ _ _ (aA (@aX _ _ _ _ _ _ _ (@aP _ (K) rfl) (pv 0) aE (fun _ _ => rfl)) (aA (pv 0) aD)))) (by rfl) (by rfl) (by rfl) (by rfl) (by rfl) (by rfl) (by rfl) (by intro _; rfl)) aD) (by decide) (by decide) (by rfl) (by rfl)) rfl))))), ?_⟩
 refine ⟨_, rfl, _, rfl, .lst fs, hf, sf, _, rfl, ?_⟩
 rw [okf]
 refine bM ?_
 refine ⟨_, rfl, aY rfl, fun p1 hp1 => ?_⟩
 have S1 := aK.upd (o := .lst [.str "sea"]) hp1
 refine ⟨_, rfl, a1, rfl, ⟨_, SqL.of (S1 _ _ o1)⟩, ?_⟩
 refine bD (F := K) (xs := us) (by omega) (fun i ys H' => H' = upd H p1 (.lst [.str "sea"]) ∧ ys = ((fs.take i).map aL).map V.str) ⟨rfl, rfl⟩ ?_ ?_ ?_
 ·rintro i ys H' hi' ⟨rfl, rfl⟩
  exact ⟨SqL.of (S1 _ _ o1), by rw [List.length_map, List.length_map, List.length_take]; omega⟩
 ·rintro i x ys H' K1 K2 hx' ⟨rfl, rfl⟩ k1 k2
  have hil : i < us.length := (List.getElem?_eq_some_iff.mp hx').1
  obtain ⟨d, ed⟩ : ∃ d, fs[i]? = some d := ⟨_, List.getElem?_eq_getElem (by omega)⟩
  obtain ⟨v, ev, iv⟩ := i1.get ed
  rw [hx'] at ev
  cases ev
  obtain ⟨z, g, e, rfl, _⟩ := bS (gf.all d (List.mem_of_getElem? ed))
  obtain ⟨t, rfl, o⟩ := lE iv
  refine ⟨_, rfl, t, _, 0, .str z, rfl, rfl, SqT.of (S1 _ _ o), aI (j := 0) rfl, k1 _ _ ⟨rfl, ?_⟩⟩
  rw [List.take_add_one, ed]
  simp [aL, cQ]
 ·rintro ys H' ⟨rfl, rfl⟩
  intro p2 hp2
  rw [List.take_of_length_le (by omega)]
  have S2 := aK.upd (o := .lst ((fs.map aL).map V.str)) hp2
  refine ⟨p1, p2, _, _, rfl, rfl, S2 _ _ aF, aF, by simp only [List.length_map, List.length_cons, List.length_nil]; omega, fun p3 hp3 => ?_⟩
  have S3 := aK.upd (o := .lst ([.str "sea"] ++ (fs.map aL).map V.str)) hp3
  have S := S1.trans (S2.trans S3)
  generalize hH3 : upd (upd (upd H p1 (.lst [.str "sea"])) p2 (.lst ((fs.map aL).map V.str))) p3 (.lst ([.str "sea"] ++ (fs.map aL).map V.str)) = H3 at S
  have hp3' : H3 p3 = some (.lst ((("sea" : Str) :: fs.map aL).map V.str)) := by rw [← hH3, aF]; rfl
  refine ⟨_, _, rfl, .lst ds, p3, _, Is.same S _ _ hd, sd, rfl, hp3', _, rfl, ?_⟩
  rw [okd]
  refine bM ?_
  refine ⟨_, rfl, a1, rfl, ⟨_, SqL.of (S _ _ o1)⟩, ?_⟩
  refine bD (F := K) (xs := us) (by omega) (fun i ys H' => aK H3 H' ∧ bT H' ys ((dE fs us).take i)) ⟨aK.refl _, bT.nil _⟩ ?_ ?_ ?_
  ·rintro i ys H' hi' ⟨S4, pr⟩
   exact ⟨SqL.of (S4 _ _ (S _ _ o1)), by have := pr.len; rw [List.length_take] at this; omega⟩
  ·rintro i x ys H' K1 K2 hx' ⟨S4, pr⟩ k1 k2
   have hil : i < us.length := (List.getElem?_eq_some_iff.mp hx').1
   obtain ⟨d, ed⟩ : ∃ d, fs[i]? = some d := ⟨_, List.getElem?_eq_getElem (by omega)⟩
   obtain ⟨v, ev, iv⟩ := i1.get ed
   rw [hx'] at ev
   cases ev
   obtain ⟨z, g, e, rfl, _⟩ := bS (gf.all d (List.mem_of_getElem? ed))
   obtain ⟨t, rfl, o⟩ := lE iv
   have ot := S4 _ _ (S _ _ o)
   refine ⟨_, rfl, t, _, 0, .str z, rfl, rfl, SqT.of ot, aI (j := 0) rfl, _, rfl, aY rfl, fun pt hpt => k1 _ _ ⟨S4.trans (aK.upd hpt), ?_⟩⟩
   rw [List.take_add_one, aAS ed hx']
   exact pr.snoc (k := Sum.inr z) hpt
  ·rintro ys H4 ⟨S4, pr⟩
   rw [List.take_of_length_le (by rw [oU l1]; omega)] at pr
   intro p4 hp4
   have S5 := aK.upd (o := .lst ys) hp4
   refine ⟨p4, ys, dE fs us, rfl, SqL.of aF, pr.same S5, by rw [oU l1]; omega, by rw [lN l1]; exact rE gf.nd, fun d1 hd1 => ?_⟩
   have S6 := aK.upd (o := .dK (dE fs us)) hd1
   have SA := S.trans (S4.trans (S5.trans S6))
   have hd1' : upd (upd H4 p4 (.lst ys)) d1 (.dK (dE fs us)) d1 = some (.dK (dE fs us)) := aF
   generalize upd (upd H4 p4 (.lst ys)) d1 (.dK (dE fs us)) = H6 at SA hd1'
   refine ⟨_, rfl, p, C, dx, [], rfl, SA _ _ hx, T.cl_Land, T.a_field_rows, (by show 0 < 1000; decide), ?_⟩
   have SB : ∀ b o, H b = some o → b ≠ p → upd H6 p (.ins C dx (jB "field_rows" (.ref d1) [])) b = some o := fun b o e hb => by rw [aQ hb]; exact SA _ _ e
   have nd1 : d1 ≠ p := mC hd1' (SA _ _ hx) (by intro z; cases z)
   have SD : aFM H (upd H6 p (.ins C dx (jB "field_rows" (.ref d1) []))) := fun b o e dt => SB b o e (fun z => by subst z; rw [hx] at e; cases e; cases dt)
   have hp7 : upd H6 p (.ins C dx (jB "field_rows" (.ref d1) [])) p = some (.ins C dx (jB "field_rows" (.ref d1) [])) := aF
   have hd7 : upd H6 p (.ins C dx (jB "field_rows" (.ref d1) [])) d1 = some (.dK (dE fs us)) := by rw [aQ nd1]; exact hd1'
   generalize upd H6 p (.ins C dx (jB "field_rows" (.ref d1) [])) = H7 at SB SD hp7 hd7
   refine ⟨_, rfl, a2, rfl, ⟨_, SqL.of (SD _ _ o2 rfl)⟩, ?_⟩
   refine bD (F := K) (xs := ws) (by omega) (fun i ys H' => aK H7 H' ∧ bT H' ys ((dE ds ws).take i)) ⟨aK.refl _, bT.nil _⟩ ?_ ?_ ?_
   ·rintro i ys H' hi' ⟨S8, pr⟩
    exact ⟨SqL.of (S8 _ _ (SD _ _ o2 rfl)), by have := pr.len; rw [List.length_take] at this; omega⟩
   ·rintro i x ys H' K1 K2 hx' ⟨S8, pr⟩ k1 k2
    have hil : i < ws.length := (List.getElem?_eq_some_iff.mp hx').1
    obtain ⟨d, ed⟩ : ∃ d, ds[i]? = some d := ⟨_, List.getElem?_eq_getElem (by omega)⟩
    obtain ⟨v, ev, iv⟩ := i2.get ed
    rw [hx'] at ev
    cases ev
    obtain ⟨n, a, b, c, r, sl, rfl, _⟩ := bA (gd.all d (List.mem_of_getElem? ed))
    obtain ⟨t, vs, rfl, o, _⟩ := gA iv
    have ot := S8 _ _ (SD _ _ o rfl)
    refine ⟨_, rfl, t, _, 0, .str n, rfl, rfl, SqT.of ot, aI (j := 0) rfl, _, rfl, aY rfl, fun pt hpt => k1 _ _ ⟨S8.trans (aK.upd hpt), ?_⟩⟩
    rw [List.take_add_one, aAS ed hx']
    exact pr.snoc (k := Sum.inr n) hpt
   ·rintro ys H8 ⟨S8, pr⟩
    rw [List.take_of_length_le (by rw [oU l2]; omega)] at pr
    intro p9 hp9
    have S9 := aK.upd (o := .lst ys) hp9
    refine ⟨p9, ys, dE ds ws, rfl, SqL.of aF, pr.same S9, by rw [oU l2]; omega, by rw [lN l2]; exact rE gd.nd, fun d2 hd2 => ?_⟩
    have S10 := aK.upd (o := .dK (dE ds ws)) hd2
    have SC := S8.trans (S9.trans S10)
    have hd2' : upd (upd H8 p9 (.lst ys)) d2 (.dK (dE ds ws)) d2 = some (.dK (dE ds ws)) := aF
    generalize upd (upd H8 p9 (.lst ys)) d2 (.dK (dE ds ws)) = H10 at SC hd2'
    refine ⟨_, rfl, p, C, dx, _, rfl, SC _ _ hp7, T.cl_Land, T.a_dyke_rows, (by show 1 < 1000; decide), ?_⟩
    have nd2 : d2 ≠ p := mC hd2' (SC _ _ hp7) (by intro z; cases z)
    have SE : aFM H (upd H10 p (.ins C dx (mD d1 d2))) := fun b o e dt => by
     have hb : b ≠ p := fun z => by subst z; rw [hx] at e; cases e; cases dt
     rw [aQ hb]
     exact SC _ _ (SB _ _ e hb)
    refine q _ ⟨⟨dx, d1, d2, aF, ⟨_, (aQ nd1).trans (SC _ _ hd7), lN l1, ?_⟩, ⟨_, (aQ nd2).trans hd2', lN l2, ?_⟩⟩, okf, okd⟩ fun b o e hb => ?_
    ·rw [uE l1]
     exact IsL.sameD SE _ _ i1
    ·rw [uE l2]
     exact IsL.sameD SE _ _ i2
    ·show upd H10 p (.ins C dx (mD d1 d2)) b = some o
     rw [aQ hb]
     exact SC _ _ (SB _ _ e hb)
open Mt02
def aCK (K : PySem.W.Frag) : Sp := sp2 fun x y H Q => ∃ (a : Addr) (ns : List Int) (k : Int), x = .ref a ∧ y = .int k ∧ SqL K H a (ns.map V.int) ∧ ns.length ≤ 63 ∧ 0 ≤ k ∧ Q (.int (ns.getD k.toNat 0)) H
theorem qG (T : Txt K mg C) : Fc P w K mg base 1 "_law_cell_at" ["_law_script", "_law_k"] (aCK K) := by
 refine T.d_l_cell_at.fc yK gK (fun f cdv A outer s H vs Q E hr h => ?_)
 obtain ⟨x, y, rfl, a, ns, k, rfl, rfl, hS, hl, hk, q⟩ := h
 refine ⟨_, (aG (@cW _ _ _ _ _ _ _ _ (@bE _ _ _ _ _ _ _ _ pB (pv 1) (@aU _ _ _ _ _ _ _ _ _ (@bH _ (K) rfl) rfl T.n_len cA (aA (pv 0) aD) (by decide) (by decide) (by rfl) (by rfl)) (@bI _ _ (by decide) (by decide))) (aH (@aS _ _ _ _ (@aX _ _ _ _ _ _ _ (@cS _ (K) rfl) (pv 0) (pv 1) (fun _ _ => rfl)))) bP) (aH (@aS _ _ _ _ aE))), ?_⟩
 refine ⟨_, rfl, _, rfl, a, _, rfl, .inl hS, _, _, rfl, rfl, _, rfl, ?_⟩
 obtain ⟨j, rfl⟩ := Int.eq_ofNat_of_zero_le hk
 rw [List.length_map]
 refine gW (fun h1 => ?_) (fun h1 => ?_)
 ·have h1' : j < ns.length := by
   have := of_decide_eq_true h1
   omega
  refine ⟨_, rfl, _, rfl, a, _, _, .int (ns.getD j 0), rfl, rfl, hS, aI ?_, ?_⟩
  ·rw [List.getElem?_map, List.getElem?_eq_getElem h1', List.getD_eq_getElem?_getD, List.getElem?_eq_getElem h1']
   rfl
  ·simpa using q
 ·have h1' : ¬ j < ns.length := by
   intro h2
   exact h1 (decide_eq_true (by omega))
  have e : ns.getD j 0 = 0 := by
   rw [List.getD_eq_getElem?_getD, List.getElem?_eq_none (by omega)]
   rfl
  have q' : Q (.int (ns.getD j 0)) H := by simpa using q
  rw [e] at q'
  exact q'
def Scr (K : PySem.W.Frag) (H : Hp) (x : V) : Prop := ∃ (a : Addr) (ns : List Int), x = .ref a ∧ SqL K H a (ns.map V.int) ∧ ns.length ≤ 63
theorem Scr.same {K : PySem.W.Frag} {H H' : Hp} {x : V} (S : aK H H') (h : Scr K H x) : Scr K H' x := by
 obtain ⟨a, ns, e, q, l⟩ := h
 exact ⟨a, ns, e, S.seq q, l⟩
def xZ (K : PySem.W.Frag) : Sp := sp2 fun x y H Q => ∃ k : Int, Scr K H x ∧ y = .int k ∧ 0 ≤ k ∧ ∀ m : Int, 0 ≤ m → Q (.int m) H
theorem uM (T : Txt K mg C) : Fc P w K mg base 2 "_law_mixed" ["_law_script", "_law_k"] (xZ K) := by
 have G_l_cell_at : Fc P w K mg base 1 "_law_cell_at" ["_law_script", "_law_k"] (aCK K) := qG T
 refine T.d_l_mixed.fc aCR gK (fun f cdv A outer s H vs Q E hr h => ?_)
 obtain ⟨x, y, rfl, k, ⟨a, ns, rfl, hS, hl⟩, rfl, hk, q⟩ := h
 refine ⟨_, (aH (@aS _ _ _ _ (@aJ _ _ _ _ _ _ _ _ cD (@aJ _ _ _ _ _ _ _ _ lO (@bL _ _ _ _ _ _ _ _ _ _ G_l_cell_at (hr.mono (by decide)) (aA (pv 0) (aA (pv 1) aD)) (by rfl) (by decide) (by rfl) (by rfl)) aE) (@aJ _ _ _ _ _ _ _ _ dM (@aJ _ _ _ _ _ _ _ _ dW aE aE) aE)))), ?_⟩
 refine ⟨_, rfl, _, rfl, _, _, rfl, a, ns, k, rfl, rfl, hS, hl, hk, _, _, rfl, rfl, .inr ⟨by decide, by decide⟩, _, _, rfl, rfl, ⟨by decide, by decide, by decide⟩, _, _, rfl, rfl, _, _, rfl, rfl, (gU rfl), ?_⟩
 exact q _ (Int.emod_nonneg _ (by decide))
def oP (lo hi : Int) : Sp := sp1 fun x H Q => ∃ c : Int, x = .int c ∧ ∀ m : Int, lo ≤ m → m ≤ hi → Q (.int m) H
theorem at4 {a b c d i : Int} (h0 : 0 ≤ i) (h1 : i < 4) : ∃ m : Int, atI ([.int a, .int b, .int c, .int d] : List V) i = some (.int m) ∧ (m = a ∨ m = b ∨ m = c ∨ m = d) := by
 obtain ⟨k, rfl⟩ := Int.eq_ofNat_of_zero_le h0
 have hk : k < 4 := by omega
 match k, hk with
 | 0, _ => exact ⟨a, aI rfl, .inl rfl⟩
 | 1, _ => exact ⟨b, aI rfl, .inr (.inl rfl)⟩
 | 2, _ => exact ⟨c, aI rfl, .inr (.inr (.inl rfl))⟩
 | 3, _ => exact ⟨d, aI rfl, .inr (.inr (.inr rfl))⟩
theorem p6 : (10 : Int) ^ (6 : Int).toNat = 1000000 := by decide
theorem rY (T : Txt K mg C) : Fc P w K mg base 1 "_law_height" ["_law_cell"] (oP (-1000000) 1000000) := by
 refine T.d_l_height.fcD rS mI (fun f cdv A outer s H vs Q E hr h => ?_)
 obtain ⟨x, rfl, c, rfl, q⟩ := h
 refine ⟨_, (aG (@aT _ _ (1) _ _ _ _ rS.nd rfl (Or.inl rfl) (@aJ _ _ _ _ _ _ _ _ dU (@aJ _ _ _ _ _ _ _ _ cD (@aJ _ _ _ _ _ _ _ _ bK (pv 0) aE) aE) aE) (by rfl) (by trivial)) (aH (@aS _ _ _ _ (@aX _ _ _ _ _ _ _ (@cS _ (K) rfl) (@dL _ _ _ _ (aA (pv 1) (aA (pv 1) (aA (@aJ _ _ _ _ _ _ _ _ dU (@aJ _ _ _ _ _ _ _ _ cD (@aJ _ _ _ _ _ _ _ _ bK (pv 0) aE) aE) (@aJ _ _ _ _ _ _ _ _ dW aE aE)) (aA (@aJ _ _ _ _ _ _ _ _ dU (@aJ _ _ _ _ _ _ _ _ dW aE aE) (@aJ _ _ _ _ _ _ _ _ lO (@aJ _ _ _ _ _ _ _ _ cD (@aJ _ _ _ _ _ _ _ _ bK (pv 0) aE) aE) aE)) aD))))) (@aJ _ _ _ _ _ _ _ _ cD (pv 0) aE) (fun _ _ => rfl))))), ?_⟩
 refine ⟨_, rfl, _, _, rfl, rfl, ⟨by decide, by decide⟩, _, _, rfl, rfl, (gU rfl), _, _, rfl, rfl, ?_⟩
 refine ⟨_, rfl, _, rfl, _, rfl, _, _, rfl, rfl, ⟨by decide, by decide⟩, _, _, rfl, rfl, (gU rfl), _, _, rfl, rfl, ⟨by decide, by decide, by decide⟩, _, _, rfl, rfl, _, _, rfl, rfl, ⟨by decide, by decide, by decide⟩, _, rfl, _, _, rfl, rfl, ⟨by decide, by decide⟩, _, _, rfl, rfl, (gU rfl), _, _, rfl, rfl, .inr ⟨by decide, by decide⟩, _, _, rfl, rfl, aY rfl, fun p hp => ?_⟩
 obtain ⟨m, em, hm⟩ := at4 (a := c / 4 % 9 - 3) (b := c / 4 % 9 - 3) (c := c / 4 % 2000001 - 10 ^ (6 : Int).toNat) (d := 10 ^ (6 : Int).toNat - c / 4 % 2 * 2000000) (i := c % 4) (Int.emod_nonneg _ (by decide)) (Int.emod_lt_of_pos _ (gU rfl))
 refine ⟨_, rfl, _, _, rfl, rfl, (gU rfl), p, _, _, .int m, rfl, rfl, SqL.of aF, em, cN.of (fN.lst hp) (q m ?_ ?_)⟩
 ·rw [p6] at hm; omega
 ·rw [p6] at hm; omega
theorem rZ (T : Txt K mg C) : Fc P w K mg base 1 "_law_amount" ["_law_cell"] (oP 0 1000000) := by
 refine T.d_l_amount.fcD aAO mI (fun f cdv A outer s H vs Q E hr h => ?_)
 obtain ⟨x, rfl, c, rfl, q⟩ := h
 refine ⟨_, (aH (@aS _ _ _ _ (@aX _ _ _ _ _ _ _ (@cS _ (K) rfl) (@dL _ _ _ _ (aA (@aJ _ _ _ _ _ _ _ _ cD (@aJ _ _ _ _ _ _ _ _ bK (pv 0) aE) aE) (aA (@aJ _ _ _ _ _ _ _ _ cD (@aJ _ _ _ _ _ _ _ _ bK (pv 0) aE) aE) (aA (@aJ _ _ _ _ _ _ _ _ dU (@aJ _ _ _ _ _ _ _ _ dW aE aE) (@aJ _ _ _ _ _ _ _ _ cD (@aJ _ _ _ _ _ _ _ _ bK (pv 0) aE) aE)) (aA (@aJ _ _ _ _ _ _ _ _ cD (@aJ _ _ _ _ _ _ _ _ bK (pv 0) aE) aE) aD))))) (@aJ _ _ _ _ _ _ _ _ cD (pv 0) aE) (fun _ _ => rfl)))), ?_⟩
 refine ⟨_, rfl, _, _, rfl, rfl, ⟨by decide, by decide⟩, _, _, rfl, rfl, (gU rfl), _, rfl, _, _, rfl, rfl, ⟨by decide, by decide⟩, _, _, rfl, rfl, (gU rfl), _, _, rfl, rfl, ⟨by decide, by decide, by decide⟩, _, rfl, _, _, rfl, rfl, ⟨by decide, by decide⟩, _, _, rfl, rfl, (gU rfl), _, _, rfl, rfl, _, rfl, _, _, rfl, rfl, ⟨by decide, by decide⟩, _, _, rfl, rfl, (gU rfl), aY rfl, fun p hp => ?_⟩
 obtain ⟨m, em, hm⟩ := at4 (a := c / 4 % 5) (b := c / 4 % 100) (c := 10 ^ (6 : Int).toNat - c / 4 % 3) (d := c / 4 % 1000001) (i := c % 4) (Int.emod_nonneg _ (by decide)) (Int.emod_lt_of_pos _ (gU rfl))
 refine ⟨_, rfl, _, _, rfl, rfl, (gU rfl), p, _, _, .int m, rfl, rfl, SqL.of aF, em, cN.of (fN.lst hp) (q m ?_ ?_)⟩
 ·rw [p6] at hm; omega
 ·rw [p6] at hm; omega
def xY : Sp := sp2 fun x y H Q => ∃ (c : Int) (n : Nat), x = .int c ∧ y = .int n ∧ n ≤ 100 ∧ ∀ (zs : List Str) (l : Addr), Names zs n → H l = none → Q (.ref l) (upd H l (.lst (zs.map V.str)))
theorem aIQ {c S p b : Int} (hS : S = 2 + c % 7) (hp : p = c / 7 % S) (hb : b = (p + 1 + c / 61 % (S - 1)) % S) : 2 ≤ S ∧ S ≤ 8 ∧ 0 ≤ p ∧ p < S ∧ 0 ≤ b ∧ b < S ∧ p ≠ b := by
 have h1 : 2 ≤ S ∧ S ≤ 8 := by omega
 have hp0 : 0 ≤ p := by rw [hp]; exact Int.emod_nonneg _ (by omega)
 have hp1 : p < S := by rw [hp]; exact Int.emod_lt_of_pos _ (by omega)
 have hb0 : 0 ≤ b := by rw [hb]; exact Int.emod_nonneg _ (by omega)
 have hb1 : b < S := by rw [hb]; exact Int.emod_lt_of_pos _ (by omega)
 have r0 : 0 ≤ c / 61 % (S - 1) := Int.emod_nonneg _ (by omega)
 have r1 : c / 61 % (S - 1) < S - 1 := Int.emod_lt_of_pos _ (by omega)
 refine ⟨h1.1, h1.2, hp0, hp1, hb0, hb1, ?_⟩
 intro e
 generalize c / 61 % (S - 1) = r at *
 by_cases hlt : p + 1 + r < S
 ·rw [Int.emod_eq_of_lt (by omega) hlt] at hb
  omega
 ·have e2 : (p + 1 + r) % S = p + 1 + r - S := by
   rw [← Int.sub_emod_right, Int.emod_eq_of_lt (by omega) (by omega)]
  omega
theorem uL (T : Txt K mg C) : Fc P w K mg base 1 "_law_names" ["_law_cell", "_law_many"] xY := by
 refine T.d_l_names.fc cH gK (fun f cdv A outer s H vs Q E hr h => ?_)
 obtain ⟨x, y, rfl, c, n, rfl, rfl, hn, q⟩ := h
 have big := bQ
 generalize hS : 2 + c % 7 = S
 generalize hp : c / 7 % S = p
 generalize hb : (p + 1 + c / 61 % (S - 1)) % S = b
 obtain ⟨s0, s1, p0, p1, b0, b1, hpb⟩ := aIQ hS.symm hp.symm hb.symm
 generalize hM : (if b > p then b else p) = M
 have m0 : p ≤ M ∧ b ≤ M ∧ M < S := by
  rw [← hM]
  split <;> omega
 have len : ∀ k : Nat, 0 ≤ (k : Int) % (S - (1 + M) + 1) ∧ (k : Int) % (S - (1 + M) + 1) < S - (1 + M) + 1 := fun k => ⟨Int.emod_nonneg _ (by omega), Int.emod_lt_of_pos _ (by omega)⟩
 let oth : Nat → Int := fun j => rst c j + (j : Int) * (j : Int) * 5
 refine ⟨_, (aG (@aT _ _ (2) _ _ _ _ cH.nd rfl (Or.inl rfl) (@aJ _ _ _ _ _ _ _ _ dM aE (@aJ _ _ _ _ _ _ _ _ cD (pv 0) aE)) (by rfl) (by trivial)) (aG (@aT _ _ (3) _ _ _ _ cH.nd rfl (Or.inl rfl) (@aJ _ _ _ _ _ _ _ _ cD (@aJ _ _ _ _ _ _ _ _ bK (pv 0) aE) (pv 2)) (by rfl) (by trivial)) (aG (@aT _ _ (4) _ _ _ _ cH.nd rfl (Or.inl rfl) (@aJ _ _ _ _ _ _ _ _ cD (@aJ _ _ _ _ _ _ _ _ dM (@aJ _ _ _ _ _ _ _ _ dM (pv 3) aE) (@aJ _ _ _ _ _ _ _ _ cD (@aJ _ _ _ _ _ _ _ _ bK (pv 0) aE) (@aJ _ _ _ _ _ _ _ _ dU (pv 2) aE))) (pv 2)) (by rfl) (by trivial)) (aG (@aT _ _ (5) _ _ _ _ cH.nd rfl (Or.inl rfl) (@aJ _ _ _ _ _ _ _ _ dM aE (@aU _ _ _ _ _ _ _ _ _ (@xH _ rfl) rfl T.n_max xJ (aA (pv 3) (aA (pv 4) aD)) (by decide) (by decide) (by rfl) (by rfl))) (by rfl) (by trivial)) (aG (@aT _ _ (6) _ _ _ _ cH.nd rfl (Or.inl rfl) (@dL _ _ _ _ aD) (by rfl) (by trivial)) (aG (@eN _ _ _ _ _ _ _ _ PassesOwn.never rfl (@kW _ _ _ _ _ _ rfl T.n_range (aA (pv 1) aD) (by rfl)) (@aO _ _ (7) _ cH.nd rfl (Or.inl rfl) (by trivial)) (aG (@aT _ _ (8) _ _ _ _ cH.nd rfl (Or.inl rfl) qT (by rfl) (by trivial)) (aG (@aT _ _ (9) _ _ _ _ cH.nd rfl (Or.inl rfl) (@aJ _ _ _ _ _ _ _ _ bK (pv 0) aE) (by rfl) (by trivial)) (aG (@eN _ _ _ _ _ _ _ _ PassesOwn.never rfl (@kW _ _ _ _ _ _ rfl T.n_range (aA (@aJ _ _ _ _ _ _ _ _ dM (pv 5) (@aJ _ _ _ _ _ _ _ _ cD (pv 7) (@aJ _ _ _ _ _ _ _ _ dM (@aJ _ _ _ _ _ _ _ _ dU (pv 2) (pv 5)) aE))) aD) (by rfl)) (@aO _ _ (10) _ cH.nd rfl (Or.inl rfl) (by trivial)) (aG (@aT _ _ (11) _ _ _ _ cH.nd rfl (Or.inl rfl) (@aJ _ _ _ _ _ _ _ _ dM (pv 9) (@aJ _ _ _ _ _ _ _ _ lO (@aJ _ _ _ _ _ _ _ _ lO (pv 10) (pv 10)) aE)) (by rfl) (by trivial)) (aG (@aT _ _ (9) _ _ _ _ cH.nd rfl (Or.inl rfl) (@aJ _ _ _ _ _ _ _ _ bK (pv 9) aE) (by rfl) (by trivial)) (aG (@cW _ _ _ _ _ _ _ _ (@bE _ _ _ _ _ _ _ _ nK (pv 10) (pv 3) (@bI _ _ (by decide) (by decide))) (aH (@aT _ _ (11) _ _ _ _ cH.nd rfl (Or.inl rfl) (@aJ _ _ _ _ _ _ _ _ dM (@aJ _ _ _ _ _ _ _ _ bK (pv 0) aE) (pv 7)) (by rfl) (by trivial))) bP) (aG (@cW _ _ _ _ _ _ _ _ (@bE _ _ _ _ _ _ _ _ nK (pv 10) (pv 4) (@bI _ _ (by decide) (by decide))) (aH (@aT _ _ (11) _ _ _ _ cH.nd rfl (Or.inl rfl) (@aJ _ _ _ _ _ _ _ _ dM (@aJ _ _ _ _ _ _ _ _ bK (pv 0) aE) (@aJ _ _ _ _ _ _ _ _ bK (pv 7) aE)) (by rfl) (by trivial))) bP) (aH (@aT _ _ (8) _ _ _ _ cH.nd rfl (Or.inl rfl) (@aJ _ _ _ _ _ _ _ _ aDE (pv 8) (@aX _ _ _ _ _ _ _ aNH qT (@aJ _ _ _ _ _ _ _ _ cD (pv 11) aE) (fun _ _ => rfl))) (by rfl) (by trivial))))))) (by intro _; rfl)) (aH (@eQ _ _ _ _ (@lX _ _ _ _ _ _ _ _ _ _ _ _ PySem.F.plainAttrs_list PySem.F.slot_list_append PySem.F.type_list_append dX (pv 6) (aA (pv 8) aD) (by rfl) (by rfl) (by rfl) (by rfl) (by rfl)) (by rfl)))))) (by intro _; rfl)) (aH (@aS _ _ _ _ (pv 6))))))))), ?_⟩
 refine ⟨_, rfl, _, _, rfl, rfl, (gU rfl), _, _, rfl, rfl, ?_⟩
 dsimp only
 rw [hS]
 refine ⟨_, rfl, _, _, rfl, rfl, ⟨by decide, by decide⟩, _, rfl, _, _, rfl, rfl, (by show 0 < S; omega), ?_⟩
 dsimp only
 rw [hp]
 refine ⟨_, rfl, _, _, rfl, rfl, _, rfl, _, _, rfl, rfl, ⟨by decide, by decide⟩, _, rfl, _, _, rfl, rfl, _, _, rfl, rfl, (by show 0 < S - 1; omega), _, _, rfl, rfl, _, rfl, _, _, rfl, rfl, (by show 0 < S; omega), ?_⟩
 dsimp only
 rw [hb]
 refine ⟨_, rfl, _, rfl, _, _, rfl, _, _, rfl, rfl, ?_⟩
 dsimp only
 rw [hM]
 refine ⟨aY rfl, fun l hl => ?_⟩
 refine ⟨_, rfl, _, rfl, by omega, by omega, ?_⟩
 rw [Int.toNat_natCast]
 refine lC (lo := 0) (n := n) (fun i σ H' => ∃ v7 v8 v9 v10 v11, σ = [some (.int c), some (.int n), some (.int S), some (.int p), some (.int b), some (.int (1 + M)), some (.ref l), v7, v8, v9, v10, v11] ∧
  H' = upd H l (.lst (((List.range i).map fun (k : Nat) => nm oth c p b (1 + M + (k : Int) % (S - (1 + M) + 1)).toNat k).map V.str))) ⟨_, _, _, _, _, rfl, rfl⟩ ?_ ?_
 ·rintro k σ H' hk ⟨v7, v8, v9, v10, v11, rfl, rfl⟩
  have lk := len k
  refine ⟨_, rfl, _, _, rfl, rfl, ⟨by decide, by decide⟩, ?_⟩
  refine ⟨_, rfl, _, rfl, _, rfl, _, rfl, _, _, rfl, rfl, _, _, rfl, rfl, _, _, rfl, rfl, (by show 0 < S - (1 + M) + 1; omega), _, _, rfl, rfl, _, rfl, ?_, ?_, ?_⟩
  ·rw [Int.zero_add]; omega
  ·rw [Int.zero_add]; omega
  rw [Int.zero_add]
  refine lC (lo := 0) (n := (1 + M + (k : Int) % (S - (1 + M) + 1)).toNat) (fun j σ H' => ∃ v10 v11, σ = [some (.int c), some (.int n), some (.int S), some (.int p), some (.int b), some (.int (1 + M)), some (.ref l), some (.int k), some (.str (nm oth c p b j k)), some (.int (rst c j)), v10, v11] ∧
   H' = upd H l (.lst (((List.range k).map fun (k : Nat) => nm oth c p b (1 + M + (k : Int) % (S - (1 + M) + 1)).toNat k).map V.str))) ⟨v10, v11, by rw [aKX]; rfl, rfl⟩ ?_ ?_
  ·rintro j σ H' hj ⟨v10, v11, rfl, rfl⟩
   have hj8 : j < 8 := by omega
   have key : ∀ m : Int, m = num oth c p b k j → atI ("abcdefghijklmnopqrtuvwxyz" : Str).cps.toList (m % 25) = some (rO oth c p b k j) := fun m e => by
    subst e
    exact aLP (Int.emod_nonneg _ (by decide)) (Int.emod_lt_of_pos _ (gU rfl))
   have fits : (nm oth c p b j k).length + (⟨#[rO oth c p b k j]⟩ : Str).length ≤ sizeLine := by
    rw [yV]
    show j + 1 ≤ _
    omega
   rw [Int.zero_add]
   refine ⟨_, rfl, _, rfl, _, rfl, _, _, rfl, rfl, .inl ⟨by omega, by omega⟩, _, _, rfl, rfl, .inr ⟨by decide, by decide⟩, _, _, rfl, rfl, ?_⟩
   refine ⟨_, rfl, _, _, rfl, rfl, ⟨by decide, by decide⟩, ?_⟩
   refine ⟨_, rfl, _, rfl, rfl, _, rfl, ?_⟩
   have ej : ∀ z : Int, decide (V.int (j : Int) = V.int z) = decide ((j : Int) = z) := fun z => by rw [jD, Bool.eq_iff_iff]; simp
   rw [ej]
   refine gW (fun h1 => ?_) (fun h1 => ?_)
   ·have h1' := of_decide_eq_true h1
    refine ⟨_, rfl, _, _, rfl, rfl, ⟨by decide, by decide⟩, _, rfl, _, _, rfl, rfl, ?_⟩
    refine ⟨_, rfl, _, rfl, rfl, _, rfl, ?_⟩
    rw [ej]
    refine gW (fun h2 => ?_) (fun h2 => ?_)
    ·have h2' := of_decide_eq_true h2
     omega
    ·refine ⟨_, rfl, _, rfl, _, _, rfl, rfl, (gU rfl), _, _, _, rfl, rfl, by decide, key _ ?_, _, _, rfl, rfl, fits, ?_⟩
     ·unfold num
      rw [if_neg (fun z => h2 (decide_eq_true z)), if_pos h1']
     ·exact ⟨_, _, by rw [← yU]; rfl, rfl⟩
   ·refine ⟨_, rfl, _, rfl, rfl, _, rfl, ?_⟩
    rw [ej]
    refine gW (fun h2 => ?_) (fun h2 => ?_)
    ·have h2' := of_decide_eq_true h2
     refine ⟨_, rfl, _, _, rfl, rfl, ⟨by decide, by decide⟩, _, rfl, _, _, rfl, rfl, ⟨by decide, by decide⟩, _, _, rfl, rfl, ?_⟩
     refine ⟨_, rfl, _, rfl, _, _, rfl, rfl, (gU rfl), _, _, _, rfl, rfl, by decide, key _ ?_, _, _, rfl, rfl, fits, ?_⟩
     ·unfold num
      rw [if_pos h2']
     ·exact ⟨_, _, by rw [← yU]; rfl, rfl⟩
    ·refine ⟨_, rfl, _, rfl, _, _, rfl, rfl, (gU rfl), _, _, _, rfl, rfl, by decide, key _ ?_, _, _, rfl, rfl, fits, ?_⟩
     ·unfold num
      rw [if_neg (fun z => h2 (decide_eq_true z)), if_neg (fun z => h1 (decide_eq_true z))]
     ·exact ⟨_, _, by rw [← yU]; rfl, rfl⟩
  ·rintro σ H' ⟨v10, v11, rfl, rfl⟩
   refine ⟨_, rfl, .inl ⟨rfl, _, SqL.of aF⟩, _, rfl, l, _, _, rfl, rfl, aF, by simp only [List.length_map, List.length_range]; omega, ?_⟩
   refine ⟨_, _, _, _, _, rfl, ?_⟩
   rw [aKC, List.range_succ, List.map_append, List.map_append]
   rfl
 ·rintro σ H' ⟨v7, v8, v9, v10, v11, rfl, rfl⟩
  refine ⟨_, rfl, ?_⟩
  refine q _ l (aIP (sh := (1 + M).toNat) (len := fun (k : Nat) => (1 + M + (k : Int) % (S - (1 + M) + 1)).toNat) p0 (by omega) b0 (by omega) hpb (by omega) (fun k => ?_) (by omega)) hl
  have lk := len k
  omega
structure Fds (fs : List Dv) (n : Nat) : Prop where
 l1 : 1 ≤ fs.length
 l2 : fs.length ≤ n
 all : ∀ d ∈ fs, cF d = true
 nd : (fs.map aL).Nodup
theorem aDV {d : Dv} (h : cF d = true) : wA d = true := by
 obtain ⟨z, g, e, rfl, _⟩ := bS h
 rfl
theorem aJO {z : Str} {g e : Int} (hz : eR z = true) (g0 : -1000000 ≤ g) (g1 : g ≤ 1000000) (e0 : 0 ≤ e) (e1 : e ≤ 1000000) : cF (.tup [.str z, .int g, .int e]) = true := by
 show (eR z && (hgt g && amt e)) = true
 unfold hgt amt
 rw [hz, decide_eq_true g0, decide_eq_true g1, decide_eq_true e0, decide_eq_true e1]
 rfl
def wH (K : PySem.W.Frag) : Sp := sp2 fun x y H Q => ∃ n : Nat, Scr K H x ∧ y = .int n ∧ 1 ≤ n ∧ n ≤ 40 ∧ ∀ (l : Addr) (vs : List V) (fs : List Dv) (H' : Hp), aK H H' → H l = none → H' l = some (.lst vs) → IsL H' fs vs → Fds fs n → Q (.ref l) H'
theorem aAY (T : Txt K mg C) : Fc P w K mg base 3 "_law_fields" ["_law_script", "_law_most"] (wH K) := by
 have G_l_mixed : Fc P w K mg base 2 "_law_mixed" ["_law_script", "_law_k"] (xZ K) := uM T
 have G_l_names : Fc P w K mg base 1 "_law_names" ["_law_cell", "_law_many"] xY := uL T
 have G_l_height : Fc P w K mg base 1 "_law_height" ["_law_cell"] (oP (-1000000) 1000000) := rY T
 have G_l_amount : Fc P w K mg base 1 "_law_amount" ["_law_cell"] (oP 0 1000000) := rZ T
 refine T.d_l_fields.fc gH gK (fun f cdv A outer s H vs Q E hr h => ?_)
 obtain ⟨x, y, rfl, n, hS, rfl, n0, n1, q⟩ := h
 have big := bQ
 refine ⟨_, (aG (@aT _ _ (2) _ _ _ _ gH.nd rfl (Or.inl rfl) (@bL _ _ _ _ _ _ _ _ _ _ G_l_mixed (hr.mono (by decide)) (aA (pv 0) (aA aE aD)) (by rfl) (by decide) (by rfl) (by rfl)) (by rfl) (by trivial)) (aG (@aT _ _ (3) _ _ _ _ gH.nd rfl (Or.inl rfl) (@bL _ _ _ _ _ _ _ _ _ _ G_l_names (hr.mono (by decide)) (aA (@aJ _ _ _ _ _ _ _ _ bK (pv 2) aE) (aA (@aJ _ _ _ _ _ _ _ _ dM aE (@aJ _ _ _ _ _ _ _ _ cD (pv 2) (pv 1))) aD)) (by rfl) (by decide) (by rfl) (by rfl)) (by rfl) (by trivial)) (aG (@aT _ _ (4) _ _ _ _ gH.nd rfl (Or.inl rfl) (@dL _ _ _ _ aD) (by rfl) (by trivial)) (aG (@eN _ _ _ _ _ _ _ _ PassesOwn.never rfl (@kW _ _ _ _ _ _ rfl T.n_range (aA (@aU _ _ _ _ _ _ _ _ _ (@bH _ (K) rfl) rfl T.n_len cA (aA (pv 3) aD) (by decide) (by decide) (by rfl) (by rfl)) aD) (by rfl)) (@aO _ _ (5) _ gH.nd rfl (Or.inl rfl) (by trivial)) (aG (@aT _ _ (2) _ _ _ _ gH.nd rfl (Or.inl rfl) (@bL _ _ _ _ _ _ _ _ _ _ G_l_mixed (hr.mono (by decide)) (aA (pv 0) (aA (@aJ _ _ _ _ _ _ _ _ dM aE (pv 5)) aD)) (by rfl) (by decide) (by rfl) (by rfl)) (by rfl) (by trivial)) (aH (@eQ _ _ _ _ (@lX _ _ _ _ _ _ _ _ _ _ _ _ PySem.F.plainAttrs_list PySem.F.slot_list_append PySem.F.type_list_append dX (pv 4) (aA (@fF _ _ _ _ _ (aA (@aX _ _ _ _ _ _ _ (@cS _ (K) rfl) (pv 3) (pv 5) (fun _ _ => rfl)) (aA (@bL _ _ _ _ _ _ _ _ _ _ G_l_height (hr.mono (by decide)) (aA (pv 2) aD) (by rfl) (by decide) (by rfl) (by rfl)) (aA (@bL _ _ _ _ _ _ _ _ _ _ G_l_amount (hr.mono (by decide)) (aA (@aJ _ _ _ _ _ _ _ _ bK (pv 2) (@aJ _ _ _ _ _ _ _ _ dW aE aE)) aD) (by rfl) (by decide) (by rfl) (by rfl)) aD)))) aD) (by rfl) (by rfl) (by rfl) (by rfl) (by rfl)) (by rfl)))) (by intro _; rfl)) (aH (@aS _ _ _ _ (pv 4))))))), ?_⟩
 refine ⟨_, rfl, _, _, rfl, 0, hS, rfl, by decide, fun c c0 => ?_⟩
 have r0 : 0 ≤ c % (n : Int) := Int.emod_nonneg _ (by omega)
 have r1 : c % (n : Int) < n := Int.emod_lt_of_pos _ (by omega)
 refine ⟨_, rfl, _, _, rfl, rfl, ⟨by decide, by decide⟩, _, rfl, _, rfl, _, _, rfl, rfl, (by show 0 < (n : Int); omega), _, _, rfl, rfl, ?_⟩
 obtain ⟨m, hm⟩ := Int.eq_ofNat_of_zero_le (show 0 ≤ 1 + c % (n : Int) by omega)
 refine ⟨_, _, rfl, _, m, rfl, by show V.int (1 + c % (n : Int)) = _; rw [hm], by omega, fun zs pz hz hpz => ?_⟩
 have lz := hz.len
 have S1 := aK.upd (o := .lst (zs.map V.str)) hpz
 refine ⟨aY rfl, fun l hl => ?_⟩
 have S2 := aK.upd (o := .lst []) hl
 have npz : pz ≠ l := aV aF hl
 refine ⟨_, rfl, pz, _, rfl, .inl (SqL.of (S2 _ _ aF)), _, rfl, by rw [List.length_map]; omega, by rw [List.length_map]; omega, ?_⟩
 rw [List.length_map, Int.toNat_natCast]
 have fl : H l = none := S1.free hl
 refine lC (lo := 0) (n := zs.length) (fun i σ H' => ∃ (v2 v5 : Option V) (us : List V) (fs : List Dv), σ = [some x, some (.int n), v2, some (.ref pz), some (.ref l), v5] ∧ aK H H' ∧ H' pz = some (.lst (zs.map V.str)) ∧ H' l = some (.lst us) ∧ IsL H' fs us ∧ fs.map aL = zs.take i ∧ (∀ d ∈ fs, cF d = true))
  ⟨_, _, [], [], rfl, S1.trans S2, S2 _ _ aF, aF, rfl, rfl, fun d m => by cases m⟩ ?_ ?_
 ·rintro i σ H' hi ⟨v2, v5, us, fs, rfl, S, hz', hl', hi', en, af⟩
  have lf : fs.length = i := by
   have := congrArg List.length en
   rw [List.length_map, List.length_take] at this
   omega
  have lu := hi'.length
  obtain ⟨z, ez⟩ : ∃ z, zs[i]? = some z := ⟨_, List.getElem?_eq_getElem hi⟩
  have gz := hz.good z (List.mem_of_getElem? ez)
  refine ⟨_, rfl, _, rfl, _, _, rfl, rfl, _, _, rfl, 3 + (0 + (i : Int)), hS.same S, rfl, by omega, fun c2 c20 => ?_⟩
  refine ⟨_, rfl, .inl ⟨rfl, _, SqL.of hl'⟩, _, rfl, _, rfl, pz, _, 0 + (i : Int), .str z, rfl, rfl, SqL.of hz', ?_, ?_⟩
  ·rw [Int.zero_add]
   exact aI (by rw [List.getElem?_map, ez]; rfl)
  refine ⟨_, rfl, _, rfl, c2, rfl, fun g g0 g1 => ?_⟩
  refine ⟨_, rfl, _, _, rfl, rfl, ⟨by decide, by decide, by decide⟩, _, _, rfl, rfl, ⟨by decide, by decide⟩, _, rfl, _, rfl, fun e e0 e1 => ?_⟩
  refine ⟨aY rfl, fun t ht => ?_⟩
  have S3 := aK.upd (o := .tup [.str z, .int g, .int e]) ht
  have hl3 : upd H' t (.tup [.str z, .int g, .int e]) l = some (.lst us) := S3 _ _ hl'
  have ok : cF (.tup [.str z, .int g, .int e]) = true := aJO gz g0 g1 e0 e1
  refine ⟨l, us, .ref t, rfl, rfl, hl3, by omega, ?_⟩
  refine ⟨_, _, us ++ [.ref t], fs ++ [.tup [.str z, .int g, .int e]], rfl, (S.trans S3).over fl, ?_, aF, ?_, ?_, ?_⟩
  ·rw [aQ npz]
   exact S3 _ _ hz'
  ·refine IsL.keep (hG.lst hl3) _ _ (eJ fun d m => aDV ?_) (IsL.snoc ?_ (IsL.same S3 _ _ hi'))
   ·rcases List.mem_append.mp m with m | m
    ·exact af d m
    ·rw [List.mem_singleton.mp m]
     exact ok
   ·exact ⟨t, _, rfl, aF, .str z, _, rfl, rfl, .int g, _, rfl, rfl, .int e, _, rfl, rfl, rfl⟩
  ·rw [List.map_append, en, List.take_add_one, ez]
   rfl
  ·intro d m
   rcases List.mem_append.mp m with m | m
   ·exact af d m
   ·rw [List.mem_singleton.mp m]
    exact ok
 ·rintro σ H' ⟨v2, v5, us, fs, rfl, S, hz', hl', hi', en, af⟩
  rw [List.take_of_length_le (Nat.le_refl _)] at en
  have lf : fs.length = zs.length := by
   have := congrArg List.length en
   rwa [List.length_map] at this
  refine ⟨_, rfl, q l us fs H' S fl hl' hi' ⟨by omega, by omega, af, by rw [en]; exact hz.nd⟩⟩
structure Dks (zs : List Str) (ds : List Dv) (n : Nat) : Prop where
 l1 : 1 ≤ ds.length
 l2 : ds.length ≤ n
 all : ∀ d ∈ ds, cL zs d = true
 nd : (ds.map aL).Nodup
theorem aFR {c s : Dv} (h : jW c s = true) : wA s = true := by
 cases s with
 | non => rfl
 | int i => rfl
 | _ => cases h
theorem xC {zs : List Str} {d : Dv} (h : cL zs d = true) : wA d = true := by
 obtain ⟨n, a, b, c, r, s, rfl, _, _, _, _, _, _, hs⟩ := bA h
 have := aFR hs
 show (true && (true && (true && (true && (true && (wA s && true)))))) = true
 rw [this]
 rfl
theorem aLL {zs : List Str} {n a b : Str} {c r : Int} {s : Dv} (hn : eR n = true) (ha : a ∈ zs) (hb : b ∈ zs) (hab : a ≠ b) (hc : hgt c = true) (hr : amt r = true) (hs : jW (.int c) s = true) : cL zs (.tup [.str n, .str a, .str b, .int c, .int r, s]) = true := by
 show (eR n && (decide (a ∈ zs) && (decide (b ∈ zs) && !(a == b))) && (hgt c && (amt r && jW (.int c) s))) = true
 rw [hn, decide_eq_true ha, decide_eq_true hb, hc, hr, hs, beq_eq_false_iff_ne.mpr hab]
 rfl
theorem aDN {i : Int} (h0 : -1000000 ≤ i) (h1 : i ≤ 1000000) : hgt i = true := by
 unfold hgt
 rw [decide_eq_true h0, decide_eq_true h1]
 rfl
theorem aNS {i : Int} (h0 : 0 ≤ i) (h1 : i ≤ 1000000) : amt i = true := by
 unfold amt
 rw [decide_eq_true h0, decide_eq_true h1]
 rfl
theorem oR {z : Str} (h : eR z = true) : z ≠ "sea" := by
 intro e
 subst e
 simp [eR] at h
theorem aHV {fs : List Dv} {n : Nat} (h : Fds fs n) : ("sea" :: fs.map aL : List Str).Nodup := by
 rw [List.nodup_cons]
 refine ⟨fun m => ?_, h.nd⟩
 obtain ⟨d, md, e⟩ := List.mem_map.mp m
 obtain ⟨z, g, e', rfl, hz, _⟩ := bS (h.all d md)
 exact oR hz e
theorem aOW {zs : List Str} (h : zs.Nodup) {i j : Nat} {a b : Str} (ha : zs[i]? = some a) (hb : zs[j]? = some b) (hij : i ≠ j) : a ≠ b := by
 intro e
 subst e
 obtain ⟨h1, e1⟩ := List.getElem?_eq_some_iff.mp ha
 obtain ⟨h2, e2⟩ := List.getElem?_eq_some_iff.mp hb
 exact hij ((List.getElem_inj h).mp (e1.trans e2.symm))
theorem aFS {c f L s r : Int} (hL : 2 ≤ L) (hf0 : 0 ≤ f) (hf1 : f < L) (hr : r = c % (L - 1)) (hs : s = (f + 1 + r) % L) : 0 ≤ s ∧ s < L ∧ f ≠ s := by
 have r0 : 0 ≤ r := by rw [hr]; exact Int.emod_nonneg _ (by omega)
 have r1 : r < L - 1 := by rw [hr]; exact Int.emod_lt_of_pos _ (by omega)
 have s0 : 0 ≤ s := by rw [hs]; exact Int.emod_nonneg _ (by omega)
 have s1 : s < L := by rw [hs]; exact Int.emod_lt_of_pos _ (by omega)
 refine ⟨s0, s1, ?_⟩
 intro e
 by_cases hlt : f + 1 + r < L
 ·rw [Int.emod_eq_of_lt (by omega) hlt] at hs
  omega
 ·have e2 : (f + 1 + r) % L = f + 1 + r - L := by
   rw [← Int.sub_emod_right, Int.emod_eq_of_lt (by omega) (by omega)]
  omega
theorem at2 {a b i : Int} (h0 : 0 ≤ i) (h1 : i < 2) : ∃ m : Int, atI ([.int a, .int b] : List V) i = some (.int m) ∧ (m = a ∨ m = b) := by
 obtain ⟨k, rfl⟩ := Int.eq_ofNat_of_zero_le h0
 have hk : k < 2 := by omega
 match k, hk with
 | 0, _ => exact ⟨a, aI rfl, .inl rfl⟩
 | 1, _ => exact ⟨b, aI rfl, .inr rfl⟩
def aAG (K : PySem.W.Frag) : Sp := sp3 fun x y u H Q => ∃ (n : Nat) (a : Addr) (vs : List V) (fs : List Dv) (k : Nat), Scr K H x ∧ y = .ref a ∧ H a = some (.lst vs) ∧ IsL H fs vs ∧ Fds fs k ∧ k ≤ 100 ∧ u = .int n ∧ 1 ≤ n ∧ n ≤ 40 ∧
 ∀ (l : Addr) (us : List V) (ds : List Dv) (H' : Hp), aK H H' → H l = none → H' l = some (.lst us) → IsL H' ds us → Dks ("sea" :: fs.map aL) ds n → Q (.ref l) H'
theorem aDH (T : Txt K mg C) : Fc P w K mg base 3 "_law_dykes" ["_law_script", "_law_fields_here", "_law_most"] (aAG K) := by
 have G_l_mixed : Fc P w K mg base 2 "_law_mixed" ["_law_script", "_law_k"] (xZ K) := uM T
 have G_l_names : Fc P w K mg base 1 "_law_names" ["_law_cell", "_law_many"] xY := uL T
 have G_l_height : Fc P w K mg base 1 "_law_height" ["_law_cell"] (oP (-1000000) 1000000) := rY T
 have G_l_amount : Fc P w K mg base 1 "_law_amount" ["_law_cell"] (oP 0 1000000) := rZ T
 refine T.d_l_dykes.fc cZ rA (fun f cdv A outer s H vs Q E hr h => ?_)
 obtain ⟨x, y, u, rfl, n, a, ws, fs, kf, hS, rfl, ha, hi, gf, hkf, rfl, n0, n1, q⟩ := h
 have big := bQ
 have lw := hi.length
 have f1 := gf.l1
 have f2 := gf.l2
 refine ⟨_, (aG (@aT _ _ (3) _ _ _ _ cZ.nd rfl (Or.inl rfl) (@bL _ _ _ _ _ _ _ _ _ _ G_l_mixed (hr.mono (by decide)) (aA (pv 0) (aA aE aD)) (by rfl) (by decide) (by rfl) (by rfl)) (by rfl) (by trivial)) (aG (@aT _ _ (4) _ _ _ _ cZ.nd rfl (Or.inl rfl) (@bL _ _ _ _ _ _ _ _ _ _ G_l_names (hr.mono (by decide)) (aA (@aJ _ _ _ _ _ _ _ _ bK (pv 3) aE) (aA (@aJ _ _ _ _ _ _ _ _ dM aE (@aJ _ _ _ _ _ _ _ _ cD (pv 3) (pv 2))) aD)) (by rfl) (by decide) (by rfl) (by rfl)) (by rfl) (by trivial)) (aG (@aT _ _ (5) _ _ _ _ cZ.nd rfl (Or.inl rfl) (@aJ _ _ _ _ _ _ _ _ uF (@dL _ _ _ _ (aA qT aD)) (@bV _ _ _ _ _ _ _ _ _ _ _ ["_law_field"] 1 [] rfl (@bF _ _ _ _ (pv 1)) (fun R => @aO _ _ (0) _ (show List.Nodup (["_law_field"] : List Str) by decide +kernel) rfl (Or.inl rfl) (by trivial)) (@aW _ _ (by decide)) (fun R => cC) (fun R => (@aX _ _ _ _ _ _ _ (@aP _ (K) rfl) (pv 0) aE (fun _ _ => rfl))) (by rfl) (by rfl) (by rfl) (by rfl) (by rfl) (by rfl) (by rfl) (by intro _; rfl))) (by rfl) (by trivial)) (aG (@aT _ _ (6) _ _ _ _ cZ.nd rfl (Or.inl rfl) (@dL _ _ _ _ aD) (by rfl) (by trivial)) (aG (@eN _ _ _ _ _ _ _ _ PassesOwn.never rfl (@kW _ _ _ _ _ _ rfl T.n_range (aA (@aU _ _ _ _ _ _ _ _ _ (@bH _ (K) rfl) rfl T.n_len cA (aA (pv 4) aD) (by decide) (by decide) (by rfl) (by rfl)) aD) (by rfl)) (@aO _ _ (7) _ cZ.nd rfl (Or.inl rfl) (by trivial)) (aG (@aT _ _ (3) _ _ _ _ cZ.nd rfl (Or.inl rfl) (@bL _ _ _ _ _ _ _ _ _ _ G_l_mixed (hr.mono (by decide)) (aA (pv 0) (aA (@aJ _ _ _ _ _ _ _ _ dM aE (pv 7)) aD)) (by rfl) (by decide) (by rfl) (by rfl)) (by rfl) (by trivial)) (aG (@aT _ _ (8) _ _ _ _ cZ.nd rfl (Or.inl rfl) (@aJ _ _ _ _ _ _ _ _ cD (pv 3) (@aU _ _ _ _ _ _ _ _ _ (@bH _ (K) rfl) rfl T.n_len cA (aA (pv 5) aD) (by decide) (by decide) (by rfl) (by rfl))) (by rfl) (by trivial)) (aG (@aT _ _ (9) _ _ _ _ cZ.nd rfl (Or.inl rfl) (@aJ _ _ _ _ _ _ _ _ cD (@aJ _ _ _ _ _ _ _ _ dM (@aJ _ _ _ _ _ _ _ _ dM (pv 8) aE) (@aJ _ _ _ _ _ _ _ _ cD (@aJ _ _ _ _ _ _ _ _ bK (pv 3) aE) (@aJ _ _ _ _ _ _ _ _ dU (@aU _ _ _ _ _ _ _ _ _ (@bH _ (K) rfl) rfl T.n_len cA (aA (pv 5) aD) (by decide) (by decide) (by rfl) (by rfl)) aE))) (@aU _ _ _ _ _ _ _ _ _ (@bH _ (K) rfl) rfl T.n_len cA (aA (pv 5) aD) (by decide) (by decide) (by rfl) (by rfl))) (by rfl) (by trivial)) (aG (@aT _ _ (10) _ _ _ _ cZ.nd rfl (Or.inl rfl) (@bL _ _ _ _ _ _ _ _ _ _ G_l_height (hr.mono (by decide)) (aA (@aJ _ _ _ _ _ _ _ _ bK (pv 3) aE) aD) (by rfl) (by decide) (by rfl) (by rfl)) (by rfl) (by trivial)) (aG (@aT _ _ (11) _ _ _ _ cZ.nd rfl (Or.inl rfl) eO (by rfl) (by trivial)) (aG (@cW _ _ _ _ _ _ _ _ (@PW.pt _ _ _ (@pN _ _ _ _ _ _ _ (@bE _ _ _ _ _ _ _ _ nK (@aJ _ _ _ _ _ _ _ _ cD (@aJ _ _ _ _ _ _ _ _ bK (pv 3) (@aJ _ _ _ _ _ _ _ _ dW aE aE)) aE) aE (@bI _ _ (by decide) (by decide))) (@oT _ _ _ _ (@bE _ _ _ _ _ _ _ _ aIO (pv 10) (@aJ _ _ _ _ _ _ _ _ dU aE (@aJ _ _ _ _ _ _ _ _ dW aE aE)) (@bI _ _ (by decide) (by decide)))))) (aH (@aT _ _ (11) _ _ _ _ cZ.nd rfl (Or.inl rfl) (@aU _ _ _ _ _ _ _ _ _ (@xH _ rfl) rfl T.n_max xJ (aA (@aJ _ _ _ _ _ _ _ _ dU aE (@aJ _ _ _ _ _ _ _ _ dW aE aE)) (aA (@aJ _ _ _ _ _ _ _ _ dU (@aJ _ _ _ _ _ _ _ _ dU (pv 10) aE) (@aJ _ _ _ _ _ _ _ _ cD (@aJ _ _ _ _ _ _ _ _ bK (pv 3) (@aJ _ _ _ _ _ _ _ _ dW aE aE)) (@aX _ _ _ _ _ _ _ (@cS _ (K) rfl) (@dL _ _ _ _ (aA aE (aA (@aJ _ _ _ _ _ _ _ _ dW aE aE) aD))) (@aJ _ _ _ _ _ _ _ _ cD (@aJ _ _ _ _ _ _ _ _ bK (pv 3) (@aJ _ _ _ _ _ _ _ _ dW aE aE)) aE) (fun _ _ => rfl)))) aD)) (by decide) (by decide) (by rfl) (by rfl)) (by rfl) (by trivial))) bP) (aH (@eQ _ _ _ _ (@lX _ _ _ _ _ _ _ _ _ _ _ _ PySem.F.plainAttrs_list PySem.F.slot_list_append PySem.F.type_list_append dX (pv 6) (aA (@fF _ _ _ _ _ (aA (@aX _ _ _ _ _ _ _ (@cS _ (K) rfl) (pv 4) (pv 7) (fun _ _ => rfl)) (aA (@aX _ _ _ _ _ _ _ (@cS _ (K) rfl) (pv 5) (pv 8) (fun _ _ => rfl)) (aA (@aX _ _ _ _ _ _ _ (@cS _ (K) rfl) (pv 5) (pv 9) (fun _ _ => rfl)) (aA (pv 10) (aA (@bL _ _ _ _ _ _ _ _ _ _ G_l_amount (hr.mono (by decide)) (aA (@aJ _ _ _ _ _ _ _ _ bK (pv 3) (@aJ _ _ _ _ _ _ _ _ dW aE aE)) aD) (by rfl) (by decide) (by rfl) (by rfl)) (aA (pv 11) aD))))))) aD) (by rfl) (by rfl) (by rfl) (by rfl) (by rfl)) (by rfl))))))))) (by intro _; rfl)) (aH (@aS _ _ _ _ (pv 6)))))))), ?_⟩
 refine ⟨_, rfl, _, _, rfl, 1, hS, rfl, by decide, fun c c0 => ?_⟩
 have r0 : 0 ≤ c % (n : Int) := Int.emod_nonneg _ (by omega)
 have r1 : c % (n : Int) < n := Int.emod_lt_of_pos _ (by omega)
 refine ⟨_, rfl, _, _, rfl, rfl, ⟨by decide, by decide⟩, _, rfl, _, rfl, _, _, rfl, rfl, (by show 0 < (n : Int); omega), _, _, rfl, rfl, ?_⟩
 obtain ⟨m, hm⟩ := Int.eq_ofNat_of_zero_le (show 0 ≤ 1 + c % (n : Int) by omega)
 refine ⟨_, _, rfl, _, m, rfl, by show V.int (1 + c % (n : Int)) = _; rw [hm], by omega, fun zs pz hz hpz => ?_⟩
 have lz := hz.len
 have S1 := aK.upd (o := .lst (zs.map V.str)) hpz
 refine ⟨aY rfl, fun p1 hp1 => ?_⟩
 have S2 := aK.upd (o := .lst [.str "sea"]) hp1
 have S12 := S1.trans S2
 refine ⟨_, rfl, a, rfl, ⟨_, SqL.of (S12 _ _ ha)⟩, ?_⟩
 refine bD (F := K) (xs := ws) (by omega) (fun i ys H' => H' = upd (upd H pz (.lst (zs.map V.str))) p1 (.lst [.str "sea"]) ∧ ys = ((fs.take i).map aL).map V.str) ⟨rfl, rfl⟩ ?_ ?_ ?_
 ·rintro i ys H' hi' ⟨rfl, rfl⟩
  exact ⟨SqL.of (S12 _ _ ha), by rw [List.length_map, List.length_map, List.length_take]; omega⟩
 ·rintro i x ys H' K1 K2 hx' ⟨rfl, rfl⟩ k1 k2
  have hil : i < ws.length := (List.getElem?_eq_some_iff.mp hx').1
  obtain ⟨d, ed⟩ : ∃ d, fs[i]? = some d := ⟨_, List.getElem?_eq_getElem (by omega)⟩
  obtain ⟨v, ev, iv⟩ := hi.get ed
  rw [hx'] at ev
  cases ev
  obtain ⟨z, g, e, rfl, _⟩ := bS (gf.all d (List.mem_of_getElem? ed))
  obtain ⟨t, rfl, o⟩ := lE iv
  refine ⟨_, rfl, t, _, 0, .str z, rfl, rfl, SqT.of (S12 _ _ o), aI (j := 0) rfl, k1 _ _ ⟨rfl, ?_⟩⟩
  rw [List.take_add_one, ed]
  simp [aL, cQ]
 ·rintro ys H' ⟨rfl, rfl⟩
  intro p2 hp2
  rw [List.take_of_length_le (by omega)]
  have S3 := aK.upd (o := .lst ((fs.map aL).map V.str)) hp2
  refine ⟨p1, p2, _, _, rfl, rfl, S3 _ _ aF, aF, by simp only [List.length_map, List.length_cons, List.length_nil]; omega, fun p3 hp3 => ?_⟩
  have S4 := aK.upd (o := .lst ([.str "sea"] ++ (fs.map aL).map V.str)) hp3
  have S14 := S12.trans (S3.trans S4)
  have hpz4 := (S2.trans (S3.trans S4)) pz _ aF
  have hp34 : upd (upd (upd (upd H pz (.lst (zs.map V.str))) p1 (.lst [.str "sea"])) p2 (.lst ((fs.map aL).map V.str))) p3 (.lst ([.str "sea"] ++ (fs.map aL).map V.str)) p3 = some (.lst ((("sea" : Str) :: fs.map aL).map V.str)) := aF
  generalize upd (upd (upd (upd H pz (.lst (zs.map V.str))) p1 (.lst [.str "sea"])) p2 (.lst ((fs.map aL).map V.str))) p3 (.lst ([.str "sea"] ++ (fs.map aL).map V.str)) = H4 at S14 hpz4 hp34
  refine ⟨aY rfl, fun l hl => ?_⟩
  have S5 := aK.upd (o := .lst []) hl
  have fl : H l = none := S14.free hl
  have npz : pz ≠ l := aV hpz4 hl
  have np3 : p3 ≠ l := aV hp34 hl
  have sl : ((("sea" : Str) :: fs.map aL).length) = fs.length + 1 := by simp
  have snd := aHV gf
  generalize hsd : ("sea" :: fs.map aL : List Str) = sd at *
  have sl2 : (sd.map V.str).length = fs.length + 1 := by rw [List.length_map, sl]
  refine ⟨_, rfl, pz, _, rfl, .inl (SqL.of (S5 _ _ hpz4)), _, rfl, by rw [List.length_map]; omega, by rw [List.length_map]; omega, ?_⟩
  rw [List.length_map, Int.toNat_natCast]
  refine lC (lo := 0) (n := zs.length) (fun i σ H' => ∃ (v3 v7 v8 v9 v10 v11 : Option V) (us : List V) (ds : List Dv), σ = [some x, some (.ref a), some (.int n), v3, some (.ref pz), some (.ref p3), some (.ref l), v7, v8, v9, v10, v11] ∧ aK H H' ∧ H' pz = some (.lst (zs.map V.str)) ∧ H' p3 = some (.lst (sd.map V.str)) ∧ H' l = some (.lst us) ∧ IsL H' ds us ∧ ds.map aL = zs.take i ∧ (∀ d ∈ ds, cL sd d = true))
   ⟨_, _, _, _, _, _, [], [], rfl, S14.trans S5, S5 _ _ hpz4, S5 _ _ hp34, aF, rfl, rfl, fun d m => by cases m⟩ ?_ ?_
  ·rintro i σ H' hi2 ⟨v3, v7, v8, v9, v10, v11, us, ds, rfl, S, hz', hsd', hl', hi', en, af⟩
   have lf : ds.length = i := by
    have := congrArg List.length en
    rw [List.length_map, List.length_take] at this
    omega
   have lu := hi'.length
   obtain ⟨z, ez⟩ : ∃ z, zs[i]? = some z := ⟨_, List.getElem?_eq_getElem hi2⟩
   have gz := hz.good z (List.mem_of_getElem? ez)
   refine ⟨_, rfl, _, rfl, _, _, rfl, rfl, _, _, rfl, 15 + (0 + (i : Int)), hS.same S, rfl, by omega, fun c2 c20 => ?_⟩
   have L0 : (0 : Int) < ((sd.map V.str).length : Int) := by omega
   refine ⟨_, rfl, _, rfl, p3, _, rfl, .inl (SqL.of hsd'), _, _, rfl, rfl, L0, ?_⟩
   have f0 : 0 ≤ c2 % ((sd.map V.str).length : Int) := Int.emod_nonneg _ (by omega)
   have f1' : c2 % ((sd.map V.str).length : Int) < ((sd.map V.str).length : Int) := Int.emod_lt_of_pos _ L0
   refine ⟨_, rfl, _, _, rfl, rfl, _, rfl, _, _, rfl, rfl, ⟨by decide, by decide⟩, _, rfl, p3, _, rfl, .inl (SqL.of hsd'), _, _, rfl, rfl, _, _, rfl, rfl, (by show 0 < ((sd.map V.str).length : Int) - 1; omega), _, _, rfl, rfl, _, rfl, p3, _, rfl, .inl (SqL.of hsd'), _, _, rfl, rfl, L0, ?_⟩
   obtain ⟨se0, se1, fne⟩ := aFS (c := c2 / 13) (f := c2 % ((sd.map V.str).length : Int)) (L := ((sd.map V.str).length : Int)) (by omega) f0 f1' rfl rfl
   obtain ⟨fj, hfj⟩ := Int.eq_ofNat_of_zero_le f0
   obtain ⟨sj, hsj⟩ := Int.eq_ofNat_of_zero_le se0
   rw [hfj] at f1'
   rw [hsj] at se1
   rw [hfj, ← hfj, hsj] at fne
   obtain ⟨za, eza⟩ : ∃ z, sd[fj]? = some z := ⟨_, List.getElem?_eq_getElem (by omega)⟩
   obtain ⟨zb, ezb⟩ : ∃ z, sd[sj]? = some z := ⟨_, List.getElem?_eq_getElem (by omega)⟩
   have atA : (sd.map V.str)[fj]? = some (V.str za) := by rw [List.getElem?_map, eza]; rfl
   have atB : (sd.map V.str)[sj]? = some (V.str zb) := by rw [List.getElem?_map, ezb]; rfl
   have iA : atI (sd.map V.str) (c2 % ((sd.map V.str).length : Int)) = some (V.str za) := by rw [hfj]; exact aI atA
   have iB : atI (sd.map V.str) ((c2 % ((sd.map V.str).length : Int) + 1 + c2 / 13 % (((sd.map V.str).length : Int) - 1)) % ((sd.map V.str).length : Int)) = some (V.str zb) := by rw [hsj]; exact aI atB
   have zab : za ≠ zb := aOW snd eza ezb (by omega)
   refine ⟨_, rfl, _, _, rfl, rfl, ⟨by decide, by decide⟩, _, rfl, _, rfl, fun cr cr0 cr1 => ?_⟩
   have fin : ∀ (sv : V) (sdv : Dv) (H2 : Hp), aK H H2 → H2 pz = some (.lst (zs.map V.str)) → H2 p3 = some (.lst (sd.map V.str)) → H2 l = some (.lst us) → IsL H2 ds us → (∀ H3, Is H3 sdv sv) → jW (.int cr) sdv = true →
     ∀ (rt : Int), 0 ≤ rt → rt ≤ 1000000 → ∀ t, H2 t = none → ∃ us' ds', aK H (upd (upd H2 t (.tup [.str z, .str za, .str zb, .int cr, .int rt, sv])) l (.lst us')) ∧ us' = us ++ [.ref t] ∧ upd (upd H2 t (.tup [.str z, .str za, .str zb, .int cr, .int rt, sv])) l (.lst us') pz = some (.lst (zs.map V.str)) ∧
      upd (upd H2 t (.tup [.str z, .str za, .str zb, .int cr, .int rt, sv])) l (.lst us') p3 = some (.lst (sd.map V.str)) ∧ IsL (upd (upd H2 t (.tup [.str z, .str za, .str zb, .int cr, .int rt, sv])) l (.lst us')) ds' us' ∧ ds'.map aL = zs.take (i + 1) ∧ (∀ d ∈ ds', cL sd d = true) := by
    intro sv sdv H2 S' hz2 hs2 hl2 hi2' his hsl rt rt0 rt1 t ht
    have S3' := aK.upd (o := .tup [.str z, .str za, .str zb, .int cr, .int rt, sv]) ht
    have hl3 := S3' _ _ hl2
    have ok : cL sd (.tup [.str z, .str za, .str zb, .int cr, .int rt, sdv]) = true := aLL gz (List.mem_of_getElem? eza) (List.mem_of_getElem? ezb) zab (aDN cr0 cr1) (aNS rt0 rt1) hsl
    refine ⟨us ++ [.ref t], ds ++ [.tup [.str z, .str za, .str zb, .int cr, .int rt, sdv]], (S'.trans S3').over fl, rfl, ?_, ?_, ?_, ?_, ?_⟩
    ·rw [aQ npz]
     exact S3' _ _ hz2
    ·rw [aQ np3]
     exact S3' _ _ hs2
    ·refine IsL.keep (hG.lst hl3) _ _ (eJ fun d m => xC (zs := sd) ?_) (IsL.snoc ?_ (IsL.same S3' _ _ hi2'))
     ·rcases List.mem_append.mp m with m | m
      ·exact af d m
      ·rw [List.mem_singleton.mp m]
       exact ok
     ·exact ⟨t, _, rfl, aF, .str z, _, rfl, rfl, .str za, _, rfl, rfl, .str zb, _, rfl, rfl, .int cr, _, rfl, rfl, .int rt, _, rfl, rfl, sv, _, rfl, his _, rfl⟩
    ·rw [List.map_append, en, List.take_add_one, ez]
     rfl
    ·intro d m
     rcases List.mem_append.mp m with m | m
     ·exact af d m
     ·rw [List.mem_singleton.mp m]
      exact ok
   refine ⟨_, rfl, _, _, rfl, rfl, ⟨by decide, by decide, by decide⟩, _, _, rfl, rfl, ⟨by decide, by decide⟩, _, _, rfl, rfl, (gU rfl), rfl, _, rfl, ?_⟩
   refine gW (fun t1 => ?_) (fun t1 => ?_)
   ·refine ⟨_, rfl, _, _, rfl, rfl, ⟨by decide, by decide, by decide⟩, _, _, rfl, rfl, _, _, rfl, rfl, _, rfl, ?_⟩
    refine gW (fun t2 => ?_) (fun t2 => ?_)
    ·have t2' : 0 - (10 : Int) ^ (6 : Int).toNat < cr := of_decide_eq_true t2
     rw [p6] at t2'
     refine ⟨_, _, rfl, rfl, ⟨by decide, by decide, by decide⟩, _, _, rfl, rfl, ?_⟩
     refine ⟨_, rfl, _, _, rfl, rfl, _, rfl, _, _, rfl, rfl, ⟨by decide, by decide, by decide⟩, _, _, rfl, rfl, ⟨by decide, by decide⟩, _, _, rfl, rfl, ⟨by decide, by decide, by decide⟩, aY rfl, fun pl hpl => ?_⟩
     obtain ⟨md, emd, hmd⟩ := at2 (a := 3) (b := 10 ^ (6 : Int).toNat) (i := c2 / 10 ^ (10 : Int).toNat % 2) (Int.emod_nonneg _ (by decide)) (Int.emod_lt_of_pos _ (gU rfl))
     rw [p6] at hmd
     refine ⟨_, rfl, _, _, rfl, rfl, ⟨by decide, by decide, by decide⟩, _, _, rfl, rfl, ⟨by decide, by decide⟩, _, _, rfl, rfl, (gU rfl), pl, _, _, .int md, rfl, rfl, SqL.of aF, emd, _, _, rfl, rfl, (by show 0 < md; omega), _, _, rfl, rfl, _, _, rfl, ?_⟩
     have q0 : 0 ≤ c2 / 10 ^ (17 : Int).toNat % md := Int.emod_nonneg _ (by omega)
     generalize c2 / 10 ^ (17 : Int).toNat % md = qq at *
     generalize hsi : (if cr - 1 - qq > 0 - (10 : Int) ^ (6 : Int).toNat then cr - 1 - qq else 0 - (10 : Int) ^ (6 : Int).toNat) = si
     rw [p6] at hsi
     have s2 : -1000000 ≤ si ∧ si < cr := by
      rw [← hsi]
      split <;> omega
     have hss : jW (.int cr) (.int si) = true := by
      show (hgt si && decide (si < cr)) = true
      rw [aDN s2.1 (by omega), decide_eq_true s2.2]
      rfl
     refine ⟨_, rfl, .inl ⟨rfl, _, SqL.of ((aK.upd hpl) _ _ hl')⟩, _, rfl, _, rfl, pz, _, 0 + (i : Int), .str z, rfl, rfl, SqL.of ((aK.upd hpl) _ _ hz'), (by rw [Int.zero_add]; exact aI (by rw [List.getElem?_map, ez]; rfl)), ?_⟩
     refine ⟨_, rfl, _, rfl, p3, _, _, .str za, rfl, rfl, SqL.of ((aK.upd hpl) _ _ hsd'), iA, _, rfl, _, rfl, p3, _, _, .str zb, rfl, rfl, SqL.of ((aK.upd hpl) _ _ hsd'), iB, _, rfl, ?_⟩
     refine ⟨_, rfl, _, _, rfl, rfl, ⟨by decide, by decide, by decide⟩, _, _, rfl, rfl, ⟨by decide, by decide⟩, _, rfl, _, rfl, fun rt rt0 rt1 => ?_⟩
     refine ⟨_, rfl, aY rfl, fun t ht => ?_⟩
     obtain ⟨us', ds', g1, rfl, g2, g3, g4, g5, g6⟩ := fin (.int si) (.int si) _ (S.trans (aK.upd hpl)) ((aK.upd hpl) _ _ hz') ((aK.upd hpl) _ _ hsd') ((aK.upd hpl) _ _ hl') (IsL.same (aK.upd hpl) _ _ hi') (fun _ => rfl) hss rt rt0 rt1 t ht
     exact ⟨l, us, .ref t, rfl, rfl, (aK.upd ht) _ _ ((aK.upd hpl) _ _ hl'), by omega, _, _, _, _, _, _, _, ds', rfl, g1, g2, g3, aF, g4, g5, g6⟩
    ·refine ⟨_, rfl, .inl ⟨rfl, _, SqL.of (hl')⟩, _, rfl, _, rfl, pz, _, 0 + (i : Int), .str z, rfl, rfl, SqL.of (hz'), (by rw [Int.zero_add]; exact aI (by rw [List.getElem?_map, ez]; rfl)), ?_⟩
     refine ⟨_, rfl, _, rfl, p3, _, _, .str za, rfl, rfl, SqL.of (hsd'), iA, _, rfl, _, rfl, p3, _, _, .str zb, rfl, rfl, SqL.of (hsd'), iB, _, rfl, ?_⟩
     refine ⟨_, rfl, _, _, rfl, rfl, ⟨by decide, by decide, by decide⟩, _, _, rfl, rfl, ⟨by decide, by decide⟩, _, rfl, _, rfl, fun rt rt0 rt1 => ?_⟩
     refine ⟨_, rfl, aY rfl, fun t ht => ?_⟩
     obtain ⟨us', ds', g1, rfl, g2, g3, g4, g5, g6⟩ := fin .non .non _ S (hz') (hsd') (hl') hi' (fun _ => rfl) rfl rt rt0 rt1 t ht
     exact ⟨l, us, .ref t, rfl, rfl, (aK.upd ht) _ _ (hl'), by omega, _, _, _, _, _, _, _, ds', rfl, g1, g2, g3, aF, g4, g5, g6⟩
   ·refine ⟨_, rfl, .inl ⟨rfl, _, SqL.of (hl')⟩, _, rfl, _, rfl, pz, _, 0 + (i : Int), .str z, rfl, rfl, SqL.of (hz'), (by rw [Int.zero_add]; exact aI (by rw [List.getElem?_map, ez]; rfl)), ?_⟩
    refine ⟨_, rfl, _, rfl, p3, _, _, .str za, rfl, rfl, SqL.of (hsd'), iA, _, rfl, _, rfl, p3, _, _, .str zb, rfl, rfl, SqL.of (hsd'), iB, _, rfl, ?_⟩
    refine ⟨_, rfl, _, _, rfl, rfl, ⟨by decide, by decide, by decide⟩, _, _, rfl, rfl, ⟨by decide, by decide⟩, _, rfl, _, rfl, fun rt rt0 rt1 => ?_⟩
    refine ⟨_, rfl, aY rfl, fun t ht => ?_⟩
    obtain ⟨us', ds', g1, rfl, g2, g3, g4, g5, g6⟩ := fin .non .non _ S (hz') (hsd') (hl') hi' (fun _ => rfl) rfl rt rt0 rt1 t ht
    exact ⟨l, us, .ref t, rfl, rfl, (aK.upd ht) _ _ (hl'), by omega, _, _, _, _, _, _, _, ds', rfl, g1, g2, g3, aF, g4, g5, g6⟩
  ·rintro σ H' ⟨v3, v7, v8, v9, v10, v11, us, ds, rfl, S, hz', hsd', hl', hi', en, af⟩
   rw [List.take_of_length_le (Nat.le_refl _)] at en
   have lf : ds.length = zs.length := by
    have := congrArg List.length en
    rwa [List.length_map] at this
   refine ⟨_, rfl, q l us ds H' S fl hl' hi' ⟨by omega, by omega, af, by rw [en]; exact hz.nd⟩⟩
theorem aGP {fs : List Dv} {n : Nat} (h : Fds fs n) (hn : n ≤ 12) : lK (.lst fs) = true := (rJ fs).mpr ⟨h.l1, Nat.le_trans h.l2 hn, h.all, h.nd⟩
theorem aJQ {zs : List Str} {ds : List Dv} {n : Nat} (h : Dks zs ds n) (hn : n ≤ 40) : oI zs (.lst ds) = true := (oV zs ds).mpr ⟨h.l1, Nat.le_trans h.l2 hn, h.all, h.nd⟩
theorem jV {z : Str} (h : eR z = true) : z.length ≤ 1000 := by
 unfold eR at h
 rw [Bool.and_eq_true, Bool.and_eq_true, Bool.and_eq_true] at h
 have := of_decide_eq_true h.1.1.2
 omega
theorem sD {d : Dv} (h : cF d = true) : eP d = true := by
 obtain ⟨z, g, e, rfl, hz, _⟩ := bS h
 show (decide (3 ≤ 1000) && (decide (z.length ≤ 1000) && (true && (true && true)))) = true
 rw [decide_eq_true (jV hz)]
 rfl
theorem tS {fs : List Dv} (hf : ∀ d ∈ fs, cF d = true) {a : Str} (h : a ∈ ("sea" :: fs.map aL : List Str)) : a.length ≤ 1000 := by
 rcases List.mem_cons.mp h with rfl | h
 ·decide +kernel
 ·obtain ⟨d, m, rfl⟩ := List.mem_map.mp h
  obtain ⟨z, g, e, rfl, hz, _⟩ := bS (hf d m)
  exact jV hz
theorem vA {fs : List Dv} (hf : ∀ d ∈ fs, cF d = true) {d : Dv} (h : cL ("sea" :: fs.map aL) d = true) : eP d = true := by
 obtain ⟨n, a, b, c, r, s, rfl, hn, ha, hb, _, _, _, hs⟩ := bA h
 have e : eP s = true := by
  cases s with
  | non => rfl
  | int i => rfl
  | _ => cases hs
 show (decide (6 ≤ 1000) && (decide (n.length ≤ 1000) && (decide (a.length ≤ 1000) && (decide (b.length ≤ 1000) && (true && (true && (eP s && true))))))) = true
 rw [decide_eq_true (jV hn), decide_eq_true (tS hf ha), decide_eq_true (tS hf hb), e]
 rfl
theorem jE {ds : List Dv} (h : ∀ d ∈ ds, eP d = true) (hl : ds.length ≤ 1000) : eP (.lst ds) = true := by
 show (decide (ds.length ≤ 1000) && hU ds) = true
 rw [decide_eq_true hl, wK h]
 rfl
theorem aGQ {zs : List Str} {d : Dv} (h : cL zs d = true) : bB 29 d = true := by
 obtain ⟨n, a, b, c, r, s, rfl, _, _, _, _, _, _, hs⟩ := bA h
 cases s with
 | non => rfl
 | int i => rfl
 | _ => cases hs
theorem aBK {ds : List Dv} (h : ∀ d ∈ ds, bB 29 d = true) : bB 30 (.lst ds) = true := by
 have := uY h
 simpa [bB] using this
theorem cJ (zs : List Str) : bB 30 (.lst (zs.map Dv.str)) = true := aBK fun d m => by
 obtain ⟨z, _, rfl⟩ := List.mem_map.mp m
 rfl
theorem aLJ {C : Addr} {H : Hp} {p : Addr} {fs ds : List Dv} (L : LandAt C H p fs ds) : bB 30 (.lst ds) = true := aBK fun d m => aGQ ((bG L).2.all d m)
theorem iE {H : Hp} {l : Addr} {zs : List Str} (h : H l = some (.lst (zs.map V.str))) : Is H (.lst (zs.map Dv.str)) (.ref l) := ⟨l, _, rfl, h, IsL.strs H zs⟩
open Mt04
def aHF (C : Addr) : Sp := sp2 fun x y H Q => ∃ (p : Addr) (fs ds : List Dv) (d : Dv), x = .ref p ∧ LandAt C H p fs ds ∧ Is H d y ∧ Q (.bl (dP ds d)) H
theorem yQ (T : Txt K mg C) : Fc P w K mg base 3 "is_work" ["land", "thing"] (aHF C) := by
 have G_p_is_tuple_of : Fc P w K mg base 1 "is_tuple_of" ["thing", "length"] pT := fL T
 have G_p_is_one_of : Fc P w K mg base 1 "is_one_of" ["thing", "names"] (sZ K) := jU T
 have G_p_is_height : Fc P w K mg base 2 "is_height" ["thing"] kM := fG T
 have G_land_p_dyke_names : Mc P w K mg base 1 C "dyke_names" ["self"] (sY C fun _ ds => ds.map aL) := hE T
 have G_land_p_dyke : Mc P w K mg base 1 C "dyke" ["self", "name"] (oO C) := fH T
 refine T.d_p_is_work.fcD yF gK (fun f cdv A outer s H vs Q E hr h => ?_)
 obtain ⟨x, y, rfl, p, fs, ds, d, rfl, L, hd, q⟩ := h
 obtain ⟨dx, e1, e2, hx, _⟩ := L.ex
 have no : ∀ m : Str, ¬ m = "dyke_rows" → ¬ m = "field_rows" → (mD e1 e2).lookup m = none := fun m h1 h2 => cI _ _ h1 h2
 refine ⟨_, (aG (@cW _ _ _ _ _ _ _ _ (@PW.pt _ _ _ (@fE _ _ _ _ _ _ _ (@cK _ _ _ _ (@cG _ _ _ (@bL _ _ _ _ _ _ _ _ _ _ G_p_is_tuple_of (hr.mono (by decide)) (aA (pv 1) (aA aE aD)) (by rfl) (by decide) (by rfl) (by rfl)) (by intro _; rfl))) (@fD _ _ _ _ (@cK _ _ _ _ (@cG _ _ _ (@bL _ _ _ _ _ _ _ _ _ _ G_p_is_one_of (hr.mono (by decide)) (aA (@aX _ _ _ _ _ _ _ (@aP _ (K) rfl) (pv 1) aE (fun _ _ => rfl)) (aA (@jT _ _ _ _ _ _ _ _ _ _ _ T.cl_Land G_land_p_dyke_names (hr.mono (by decide)) (pv 0) (by rfl)) aD)) (by rfl) (by decide) (by rfl) (by rfl)) (by intro _; rfl)))))) (aH (@aS _ _ _ _ lY)) bP) (aH (@aS _ _ _ _ (@dA _ _ _ _ _ _ _ (@bL _ _ _ _ _ _ _ _ _ _ G_p_is_height (hr.mono (by decide)) (aA (@aX _ _ _ _ _ _ _ (@aP _ (K) rfl) (pv 1) aE (fun _ _ => rfl)) aD) (by rfl) (by decide) (by rfl) (by rfl)) (@dS _ _ _ _ _ (@dJ _ _ _ _ _ _ _ _ aMD (@aX _ _ _ _ _ _ _ (@aP _ (K) rfl) (pv 1) aE (fun _ _ => rfl)) (@aX _ _ _ _ _ _ _ (@aP _ (K) rfl) (@aCY _ _ _ _ _ _ _ _ _ _ _ _ _ _ T.cl_Land G_land_p_dyke (hr.mono (by decide)) (pv 0) (aA (@aX _ _ _ _ _ _ _ (@aP _ (K) rfl) (pv 1) aE (fun _ _ => rfl)) aD) (by rfl) (by rfl) (by rfl)) aE (fun _ _ => rfl)) (@bI _ _ (by decide) (by decide)))))))), ?_⟩
 refine ⟨_, rfl, _, _, rfl, d, 2, hd, rfl, _, rfl, ?_⟩
 by_cases h2 : ∃ a b, d = .tup [a, b]
 ·obtain ⟨a, b, rfl⟩ := h2
  obtain ⟨t, us, rfl, o, va, r1, rfl, ha, vb, r2, rfl, hb, h0⟩ := hd
  cases (show r2 = [] from h0)
  refine bM ⟨_, rfl, t, _, 0, va, rfl, rfl, SqT.of o, aI (j := 0) rfl, _, rfl, p, dx, _, rfl, hx, no _ (by decide +kernel) (by decide +kernel), _, rfl, p, fs, ds, rfl, L, fun l hl => ?_⟩
  have S := aK.upd (o := .lst ((ds.map aL).map V.str)) hl
  refine ⟨_, _, rfl, a, l, ds.map aL, Is.same S _ _ ha, rfl, SqL.of aF, _, rfl, ?_⟩
  have dr := fN.lst (xs := (ds.map aL).map V.str) hl
  cases ea : qD (ds.map aL) a with
  | false =>
   have e : dP ds (.tup [a, b]) = false := by
    unfold dP
    split
    ·rename_i z v hq
     cases hq
     have : decide (z ∈ ds.map aL) = false := ea
     rw [this]
     rfl
    ·rfl
   rw [e] at q
   exact dO (cN.of dr q)
  | true =>
   refine bM ⟨_, rfl, t, _, 1, vb, rfl, rfl, SqT.of (S _ _ o), aI (j := 1) rfl, _, rfl, b, Is.same S _ _ hb, _, rfl, ?_⟩
   cases eb : gX b with
   | false =>
    have e : dP ds (.tup [a, b]) = false := by
     unfold dP
     split
     ·rename_i z v hq
      cases hq
      have : hgt v = false := eb
      rw [this]
      simp
     ·rfl
    rw [e] at q
    exact bM (cN.of dr q)
   | true =>
    cases a with
    | str z =>
     cases b with
     | int v =>
      have mz : z ∈ ds.map aL := of_decide_eq_true ea
      obtain ⟨d', md, rfl⟩ := List.mem_map.mp mz
      cases (show va = .str (aL d') from ha)
      cases (show vb = .int v from hb)
      have gd := (bG L).2
      refine dO ⟨_, rfl, t, _, 1, _, rfl, rfl, SqT.of (S _ _ o), aI (j := 1) rfl, _, rfl, p, dx, _, rfl, S _ _ hx, no _ (by decide +kernel) (by decide +kernel), _, rfl, t, _, 0, _, rfl, rfl, SqT.of (S _ _ o), aI (j := 0) rfl, _, _, rfl, p, fs, ds, d', rfl, rfl, L.same S, md, fun v1 iv1 => ?_⟩
      have ec := oA gd.nd md
      obtain ⟨n, a', b', c, r, sl, rfl, _⟩ := bA (gd.all d' md)
      obtain ⟨t', sv, rfl, o', _⟩ := gA iv1
      refine ⟨t', _, 3, .int c, rfl, rfl, SqT.of o', aI (j := 3) rfl, _, _, rfl, rfl, cN.of dr ?_⟩
      have e : dP ds (.tup [.str (aL (.tup [.str n, .str a', .str b', .int c, .int r, sl])), .int v]) = decide (c ≤ v) := by
       show (decide (_ ∈ ds.map aL) && (hgt v && decide (eS ds _ ≤ v))) = _
       rw [decide_eq_true mz, show hgt v = true from eb, ec]
       rfl
      rw [e] at q
      exact q
     | _ => cases eb
    | _ => cases ea
 ·have e1' : dP ds d = false := by
   unfold dP
   split
   ·rename_i z v
    exact absurd ⟨_, _, rfl⟩ h2
   ·rfl
  have e2' : aEE 2 d = false := by
   cases d with
   | tup ds' =>
    refine decide_eq_false (fun e => ?_)
    have e' : ds'.length = 2 := by omega
    match ds', e', h2 with
    | [a, b], _, h2 => exact h2 ⟨a, b, rfl⟩
   | _ => rfl
  dsimp only
  rw [e2']
  rw [e1'] at q
  exact dO (cN.of (.refl _) q)
def xU (C : Addr) : Sp := sp2 fun x y H Q => ∃ (p : Addr) (fs ds : List Dv) (d : Dv), x = .ref p ∧ LandAt C H p fs ds ∧ Is H d y ∧ eP d = true ∧ Q (.bl (aBU ds d)) H
theorem nN (T : Txt K mg C) : Fc P w K mg base 4 "are_works" ["land", "thing"] (xU C) := by
 have G_p_is_work : Fc P w K mg base 3 "is_work" ["land", "thing"] (aHF C) := yQ T
 have G_p_none_twice : Fc P w K mg base 1 "none_twice" ["rows"] sX := iU T
 refine T.d_p_are_works.fcD tW gK (fun f cdv A outer s H vs Q E hr h => ?_)
 obtain ⟨x, y, rfl, p0, fs, ds0, d, rfl, L, hd, hs, q⟩ := h
 have big := bQ
 obtain ⟨t, ty, e1, e2, e3, e4, _⟩ := jY K hd
 refine ⟨_, (aH (@aS _ _ _ _ (@dA _ _ _ _ _ _ _ (@aU _ _ _ _ _ _ _ _ _ (@bY _ (K) rfl) rfl T.n_isinstance bJ (aA (pv 1) (aA (@kD _ _ _ _ T.n_list dI (by rfl) (by decide) (by decide)) aD)) (by decide) (by decide) (by rfl) (by rfl)) (@dA _ _ _ _ _ _ _ (@aU _ _ _ _ _ _ _ _ _ (@lJ _ rfl) rfl T.n_all jG (aA (@bV _ _ _ _ _ _ _ _ _ _ _ ["row", "land"] 1 [0] rfl (@bF _ _ _ _ (pv 1)) (fun R => @aO _ _ (0) _ (show List.Nodup (["row", "land"] : List Str) by decide +kernel) rfl (Or.inl rfl) (by trivial)) (@aW _ _ (by decide)) (fun R => cC) (fun R => (@bL _ _ _ _ _ _ _ _ _ _ G_p_is_work (hr.mono (by decide)) (aA (pv 1) (aA (pv 0) aD)) (by rfl) (by decide) (by rfl) (by rfl))) (by rfl) (by rfl) (by rfl) (by rfl) (by rfl) (by rfl) (by rfl) (by intro _; rfl)) aD) (by decide) (by decide) (by rfl) (by rfl)) (@dS _ _ _ _ _ (@bL _ _ _ _ _ _ _ _ _ _ G_p_none_twice (hr.mono (by decide)) (aA (pv 1) aD) (by rfl) (by decide) (by rfl) (by rfl))))))), ?_⟩
 refine ⟨_, rfl, _, _, _, t, _, rfl, rfl, ty, e4, _, rfl, ?_⟩
 cases d with
 | lst ds =>
  obtain ⟨p, us, rfl, o, hi⟩ := hd
  have l1 := hi.length
  have hs' := Bool.and_eq_true_iff.mp (show (decide (ds.length ≤ 1000) && hU ds) = true from hs)
  have l2 : ds.length ≤ 1000 := of_decide_eq_true hs'.1
  have q : Q (.bl (ds.all (dP ds0) && decide ((ds.map cQ).Nodup))) H := q
  refine dO ⟨_, rfl, p, rfl, ⟨_, SqL.of o⟩, ?_⟩
  refine bD (F := K) (xs := us) (by omega) (fun i ys H' => H' = H ∧ ys = (ds.take i).map fun d => V.bl (dP ds0 d)) ⟨rfl, rfl⟩ ?_ ?_ ?_
  ·rintro i ys H' hi' ⟨rfl, rfl⟩
   exact ⟨SqL.of o, by rw [List.length_map, List.length_take]; omega⟩
  ·rintro i x ys H' K1 K2 hx ⟨rfl, rfl⟩ k1 k2
   have hil : i < us.length := (List.getElem?_eq_some_iff.mp hx).1
   obtain ⟨d, ed⟩ : ∃ d, ds[i]? = some d := ⟨_, List.getElem?_eq_getElem (by omega)⟩
   obtain ⟨v, ev, iv⟩ := hi.get ed
   rw [hx] at ev
   cases ev
   refine ⟨_, rfl, _, rfl, _, _, rfl, p0, fs, ds0, d, rfl, L, iv, k1 _ _ ⟨rfl, ?_⟩⟩
   rw [List.take_add_one, ed]
   simp
  ·rintro ys H' ⟨rfl, rfl⟩
   intro p1 hp1
   have np : p ≠ p1 := aV o hp1
   refine ⟨p1, ds.map (dP ds0), rfl, SqL.of ?_, _, rfl, ?_⟩
   ·rw [aF, List.take_of_length_le (by omega), List.map_map]
    rfl
   have e1 : (ds.map (dP ds0)).all id = ds.all (dP ds0) := by rw [List.all_map]; rfl
   rw [e1]
   refine gW (fun h2 => ?_) (fun h2 => ?_)
   ·rw [h2, Bool.true_and] at q
    obtain ⟨zs, ez⟩ := oW pL h2
    have l3 : zs.length = ds.length := by have := congrArg List.length ez; simpa using this.symm
    refine ⟨_, rfl, _, rfl, p, us, ds, zs, rfl, by rw [aQ np]; exact o, IsL.same (aK.upd hp1) _ _ hi, ez, by omega, ?_⟩
    have e2 : decide zs.Nodup = decide (ds.map cQ).Nodup := by rw [ez, Bool.eq_iff_iff, decide_eq_true_iff, decide_eq_true_iff, dZ]
    rw [e2]
    exact cN.of (fN.lst hp1) q
   ·have h2' : ds.all (dP ds0) = false := by simpa using h2
    rw [h2'] at q
    exact cN.of (fN.lst hp1) q
 | _ => exact bM (cN.of (.refl _) q)
def aEO : Sp := sp2 fun x y H Q => ∃ (t : Addr) (n a b : Str) (c r h : Int) (sv : V), x = .ref t ∧ y = .int h ∧ H t = some (.tup [.str n, .str a, .str b, .int c, .int r, sv]) ∧
 ∀ (p : Addr) (H' : Hp), aK H H' → H' p = some (.tup [.str n, .str a, .str b, .int h, .int r, sv]) → Q (.ref p) H'
theorem sO (T : Txt K mg C) : Fc P w K mg base 1 "with_crown" ["dyke", "crown"] aEO := by
 refine T.d_p_with_crown.fc sG gK (fun f cdv A outer s H vs Q E hr h => ?_)
 obtain ⟨x, y, rfl, t, n, a, b, c, r, h, sv, rfl, rfl, o, q⟩ := h
 refine ⟨_, (aH (@aS _ _ _ _ (@aJ _ _ _ _ _ _ _ _ (@aAT _ (K) rfl) (@aJ _ _ _ _ _ _ _ _ (@aAT _ (K) rfl) (@uD _ _ _ _ _ _ _ _ _ _ (@aES _ (K) rfl) (pv 0) aEX (@tF _ _ _ aE)) (@fF _ _ _ _ _ (aA (pv 1) aD))) (@uD _ _ _ _ _ _ _ _ _ _ (@aES _ (K) rfl) (pv 0) (@tF _ _ _ aE) aEX)))), ?_⟩
 refine ⟨_, rfl, _, rfl, t, _, rfl, SqT.of o, (fun w => absurd (show HT.sIx 6 6 (some 3) = 6 from w.2) (by decide)), fun p1 hp1 => ?_⟩
 have S1 := aK.upd (o := .tup [.str n, .str a, .str b]) hp1
 refine ⟨_, rfl, aY rfl, fun p2 hp2 => ?_⟩
 have S2 := aK.upd (o := .tup [.int h]) hp2
 refine ⟨p1, p2, [.str n, .str a, .str b], [.int h], rfl, rfl, SqT.of (S2 _ _ aF), SqT.of aF, (by intro w; cases w), aY rfl, (fun w => by cases w), fun _ p3 hp3 => ?_⟩
 have S3 := aK.upd (o := .tup ([.str n, .str a, .str b] ++ [.int h])) hp3
 have T3 := S1.trans (S2.trans S3)
 refine ⟨_, rfl, _, rfl, t, _, rfl, SqT.of (T3 _ _ o), (fun w => absurd (show HT.sIx 6 0 (some 4) = 0 from w.1) (by decide)), fun p4 hp4 => ?_⟩
 have S4 := aK.upd (o := .tup [.int r, sv]) hp4
 refine ⟨p3, p4, [.str n, .str a, .str b] ++ [.int h], [.int r, sv], rfl, rfl, SqT.of (S4 _ _ aF), SqT.of aF, (by intro w; cases w), aY rfl, (fun w => by cases w), fun _ p5 hp5 => ?_⟩
 have S5 := aK.upd (o := .tup (([.str n, .str a, .str b] ++ [.int h]) ++ [.int r, sv])) hp5
 exact q p5 _ (T3.trans (S4.trans S5)) aF
theorem zQ {H : Hp} {z : Str} {v : Int} {x : V} (h : Is H (.tup [.str z, .int v]) x) : ∃ t, x = .ref t ∧ H t = some (.tup [.str z, .int v]) := by
 obtain ⟨t, us, rfl, o, v0, r0, rfl, i0, v1, r1, rfl, i1, h0⟩ := h
 cases (show r1 = [] from h0)
 cases (show v0 = _ from i0)
 cases (show v1 = _ from i1)
 exact ⟨t, rfl, o⟩
theorem rR {ds : List Dv} {H : Hp} : ∀ {ws : List Dv} {us : List V}, (∀ d ∈ ws, dP ds d = true) → IsL H ws us → bT H us (ws.map vY)
 | [], _, _, e => by rw [show _ = [] from e]; exact bT.nil _
 | d :: ws, _, g, ⟨v, r, e, h, t⟩ => by
  subst e
  obtain ⟨z, n, rfl, _⟩ := hJ (g d List.mem_cons_self)
  obtain ⟨a, rfl, o⟩ := zQ h
  exact .cons ⟨a, rfl, o⟩ (rR (fun e m => g e (List.mem_cons_of_mem _ m)) t)
theorem aCB (ws : List Dv) : (ws.map vY).map (·.1) = ws.map mE := by
 rw [List.map_map]
 rfl
def aAB (C : Addr) : Sp := sp2 fun x y H Q => ∃ (p : Addr) (fs ds ws : List Dv), x = .ref p ∧ LandAt C H p fs ds ∧ Is H (.lst ws) y ∧ ws.length ≤ 1000 ∧ GoodW ds ws ∧ ∀ (p' : Addr) (H' : Hp), aK H H' → H p' = none → LandAt C H' p' fs (jA ds ws) → Q (.ref p') H'
theorem aJI {o : Option Int} {c : Int} : (o.map V.int).getD (.int c) = .int (o.getD c) := by cases o <;> rfl
theorem qW (T : Txt K mg C) : Mc P w K mg base 8 C "raised" ["self", "works"] (aAB C) := by
 have G_p_are_works : Fc P w K mg base 4 "are_works" ["land", "thing"] (xU C) := nN T
 have G_land_p_dykes : Mc P w K mg base 1 C "dykes" ["self"] (pU C fun _ ds => ds) := kX T
 have G_land_p_fields : Mc P w K mg base 1 C "fields" ["self"] (pU C fun fs _ => fs) := kE T
 have G_p_with_crown : Fc P w K mg base 1 "with_crown" ["dyke", "crown"] aEO := sO T
 have G_land_pinit : Ic P w K mg base 6 C ["self", "fields", "dykes"] (aCI C) := pF T
 refine T.m_land_p_raised.mc hW gK (fun f cdv A outer s H vs Q E hr h => ?_)
 obtain ⟨x, y, rfl, p, fs, ds, ws, rfl, L, hw, lw, gw, q⟩ := h
 have big := bQ
 have hu := gZ hr
 obtain ⟨dx, e1, e2, hx, _⟩ := L.ex
 have no : ∀ m : Str, ¬ m = "dyke_rows" → ¬ m = "field_rows" → (mD e1 e2).lookup m = none := fun m h1 h2 => cI _ _ h1 h2
 have gf := (bG L).1
 have gd := (bG L).2
 have d2 := gd.l2
 have f2 := gf.l2
 have fa : ∀ d ∈ fs, cF d = true := gf.all
 have sw : eP (.lst ws) = true := jE (fun d m => by
  obtain ⟨z, v, rfl, hz, _⟩ := hJ (gw.all d m)
  obtain ⟨d', md, rfl⟩ := List.mem_map.mp hz
  obtain ⟨n, a, b, c, r, sl, rfl, hn, _⟩ := bA (gd.all d' md)
  have e := jV hn
  show (decide (2 ≤ 1000) && (decide (n.length ≤ 1000) && (true && true))) = true
  rw [decide_eq_true e]
  rfl) lw
 refine ⟨_, (aG (@cW _ _ _ _ _ _ _ _ (@cK _ _ _ _ (@cG _ _ _ (@bL _ _ _ _ _ _ _ _ _ _ G_p_are_works (hr.mono (by decide)) (aA (pv 0) (aA (pv 1) aD)) (by rfl) (by decide) (by rfl) (by rfl)) (by intro _; rfl))) (aH nE) bP) (aG (@aT _ _ (2) _ _ _ _ hW.nd rfl (Or.inr rfl) (@cT _ _ _ _ _ _ _ _ _ (@dB _ rfl) rfl T.n_dict gE (aA (pv 1) aD) (by decide) (by decide) (by rfl) (by rfl)) (by rfl) (by trivial)) (aG (@jS _ (3) _ _ _ _ _ _ _ _ _ _ _ _ _ hW.nd rfl ["dyke", "crowns"] 1 [2] rfl (@bF _ _ _ _ (@jT _ _ _ _ _ _ _ _ _ _ _ T.cl_Land G_land_p_dykes (hr.mono (by decide)) (pv 0) (by rfl))) (fun R => @aO _ _ (0) _ (show List.Nodup (["dyke", "crowns"] : List Str) by decide +kernel) rfl (Or.inl rfl) (by trivial)) (@aW _ _ (by decide)) (fun R => cC) (fun R => (@bL _ _ _ _ _ _ _ _ _ _ G_p_with_crown (hr.mono (by decide)) (aA (pv 0) (aA (@aIN _ _ _ _ _ _ _ _ _ hu (pv 1) (@aX _ _ _ _ _ _ _ (@aP _ (K) rfl) (pv 0) aE (fun _ _ => rfl)) (@aX _ _ _ _ _ _ _ (@aP _ (K) rfl) (pv 0) aE (fun _ _ => rfl)) ⟨rfl, rfl, rfl, rfl⟩) aD)) (by rfl) (by decide) (by rfl) (by rfl))) (by exact Or.inl rfl) (by trivial) (by rfl) (by rfl) (by rfl) (by rfl) (by rfl) (by rfl) (by rfl) (by rfl) (by intro _; rfl)) (aH (@aS _ _ _ _ (@aMC _ _ _ _ _ _ _ _ _ _ _ T.mg_Land G_land_pinit (hr.mono (by decide)) (aA (@jT _ _ _ _ _ _ _ _ _ _ _ T.cl_Land G_land_p_fields (hr.mono (by decide)) (pv 0) (by rfl)) (aA (pv 3) aD)) (by rfl) (by decide) (by rfl) (by rfl))))))), ?_⟩
 refine ⟨_, rfl, _, rfl, _, _, rfl, p, fs, ds, .lst ws, rfl, L, hw, sw, _, rfl, ?_⟩
 rw [(wY ds ws).mpr gw]
 refine bM ?_
 obtain ⟨a, us, rfl, ho, hi⟩ := hw
 refine ⟨_, rfl, a, us, ws.map vY, rfl, SqL.of ho, rR gw.all hi, by rw [List.length_map]; exact lw, by rw [aCB]; exact rE gw.nd, fun cd hcd => ?_⟩
 have S1 := aK.upd (o := .dK (ws.map vY)) hcd
 refine ⟨_, rfl, p, dx, _, rfl, S1 _ _ hx, no _ (by decide +kernel) (by decide +kernel), _, rfl, p, fs, ds, rfl, L.same S1, fun l vs hl hv => ?_⟩
 have S2 := aK.upd (o := .lst vs) hl
 have hcd2 : upd (upd H cd (.dK (ws.map vY))) l (.lst vs) cd = some (.dK (ws.map vY)) := S2 _ _ aF
 have hl2 : upd (upd H cd (.dK (ws.map vY))) l (.lst vs) l = some (.lst vs) := aF
 have hv2 := IsL.same S2 _ _ hv
 have T2 := S1.trans S2
 generalize upd (upd H cd (.dK (ws.map vY))) l (.lst vs) = H2 at hcd2 hl2 hv2 T2
 have lv : vs.length = ds.length := hv2.length
 refine ⟨l, rfl, ⟨_, SqL.of hl2⟩, ?_⟩
 refine bD (F := K) (xs := vs) (by omega) (fun i ys H' => aK H2 H' ∧ IsL H' ((ds.take i).map (aBB ws)) ys) ⟨aK.refl _, rfl⟩ ?_ ?_ ?_
 ·rintro i ys H' hi' ⟨S, ie⟩
  have := ie.length
  rw [List.length_map, List.length_take] at this
  exact ⟨SqL.of (S _ _ hl2), by omega⟩
 ·rintro i xv ys H' K1 K2 hx' ⟨S, ie⟩ k1 k2
  have hil : i < vs.length := (List.getElem?_eq_some_iff.mp hx').1
  obtain ⟨d, ed⟩ : ∃ d, ds[i]? = some d := ⟨_, List.getElem?_eq_getElem (by omega)⟩
  obtain ⟨v, ev, iv⟩ := (show IsL H2 ds vs from hv2).get ed
  rw [hx'] at ev
  cases ev
  obtain ⟨n, a', b', c, r, sl, rfl, _⟩ := bA (gd.all d (List.mem_of_getElem? ed))
  obtain ⟨t, sv, rfl, o, isv⟩ := gA iv
  refine ⟨_, rfl, _, rfl, cd, rfl, .inl ⟨_, .inl (S _ _ hcd2)⟩, _, rfl, t, _, 0, .str n, rfl, rfl, SqT.of (S _ _ o), aI (j := 0) rfl, _, rfl, t, _, 3, .int c, rfl, rfl, SqT.of (S _ _ o), aI (j := 3) rfl, _, oK.k (k := Sum.inr n) (S _ _ hcd2), ?_⟩
  refine ⟨_, _, rfl, t, n, a', b', c, r, (wAt ws n).getD c, sv, rfl, by rw [aCD, aJI], S _ _ o, fun p3 H3 S3 hp3 => k1 _ _ ⟨S.trans S3, ?_⟩⟩
  rw [List.take_add_one, ed, List.map_append]
  refine IsL.snoc ?_ (IsL.same S3 _ _ ie)
  exact ⟨p3, _, rfl, hp3, .str n, _, rfl, rfl, .str a', _, rfl, rfl, .str b', _, rfl, rfl, .int _, _, rfl, rfl, .int r, _, rfl, rfl, sv, _, rfl, Is.same (S.trans S3) _ _ isv, rfl⟩
 rintro ys H3 ⟨S3, ie⟩
 rw [List.take_of_length_le (by omega)] at ie
 intro p4 hp4
 have S4 := aK.upd (o := .lst ys) hp4
 have hp4' : upd H3 p4 (.lst ys) p4 = some (.lst ys) := aF
 have ie4 := IsL.same S4 _ _ ie
 have T4 := T2.trans (S3.trans S4)
 generalize upd H3 p4 (.lst ys) = H4 at hp4' ie4 T4
 refine ⟨_, rfl, p, dx, _, rfl, T4 _ _ hx, no _ (by decide +kernel) (by decide +kernel), _, rfl, p, fs, ds, rfl, L.same T4, fun l5 v5 hl5 hv5 => ?_⟩
 have S5 := aK.upd (o := .lst v5) hl5
 refine ⟨_, rfl, fun p' dx' np' ndx' nex' => ?_⟩
 have S6 : aK (upd H4 l5 (.lst v5)) (upd (upd (upd H4 l5 (.lst v5)) dx' (.own p')) p' (.ins C dx' [])) := fun b o e => by
  rw [aQ (aV e np'), aQ (aV e ndx')]
  exact e
 have gd' := rV gd gw
 have d2' := gd'.l2
 refine ⟨_, _, _, rfl, p', dx', fs, jA ds ws, rfl, aF, ⟨l5, v5, rfl, S6 _ _ aF, IsL.same (S5.trans S6) _ _ hv5⟩, ⟨p4, ys, rfl, S6 _ _ (S5 _ _ hp4'), IsL.same (S5.trans S6) _ _ ie4⟩, jE (fun d m => sD (fa d m)) (by omega), jE (fun d m => vA fa (gd'.all d m)) (by omega), L.okf, (oV _ _).mpr gd', fun H' L' fr => ⟨rfl, ?_⟩⟩
 refine q p' H' (fun b o e => ?_) (T4.free (S5.free np')) L'
 have e' := S5 _ _ (T4 _ _ e)
 exact fr b o (S6 _ _ e') (aV e' np')
def aAH : Sp := sp1 fun x H Q => ∃ c : Int, x = .int c ∧ ∀ m : Int, Q (.int m) H
theorem aAZ (T : Txt K mg C) : Fc P w K mg base 1 "_law_digits" ["_law_cell"] aAH := by
 refine T.d_l_digits.fc aAN mI (fun f cdv A outer s H vs Q E hr h => ?_)
 obtain ⟨x, rfl, c, rfl, q⟩ := h
 refine ⟨_, (aH (@aS _ _ _ _ (@aJ _ _ _ _ _ _ _ _ aEZ (@aJ _ _ _ _ _ _ _ _ dM (@aJ _ _ _ _ _ _ _ _ dM (@aJ _ _ _ _ _ _ _ _ cD (@aJ _ _ _ _ _ _ _ _ bK (pv 0) (@aJ _ _ _ _ _ _ _ _ dW aE aE)) (@aJ _ _ _ _ _ _ _ _ aEZ (@aJ _ _ _ _ _ _ _ _ dW aE aE) (@aJ _ _ _ _ _ _ _ _ dW aE aE))) (@aJ _ _ _ _ _ _ _ _ cD (pv 0) (@aJ _ _ _ _ _ _ _ _ dW aE aE))) aE) (@aJ _ _ _ _ _ _ _ _ dW aE aE)))), ?_⟩
 have b1 : ((10 : Int) ^ (60 : Int).toNat * 10 ^ (60 : Int).toNat) + 10 ^ 31 < 2 ^ 600 := by decide
 have m0 : (0 : Int) < (10 : Int) ^ (60 : Int).toNat * 10 ^ (60 : Int).toNat := by decide
 have big2 : ((10007 : Int) ^ (30 : Int).toNat).natAbs < 2 ^ 600 := by decide
 have r0 : 0 ≤ c / 10 ^ (30 : Int).toNat % (10 ^ (60 : Int).toNat * 10 ^ (60 : Int).toNat) := Int.emod_nonneg _ (by decide)
 have r1 : c / 10 ^ (30 : Int).toNat % (10 ^ (60 : Int).toNat * 10 ^ (60 : Int).toNat) < 10 ^ (60 : Int).toNat * 10 ^ (60 : Int).toNat := Int.emod_lt_of_pos _ m0
 have t0 : 0 ≤ c % 10 ^ (30 : Int).toNat := Int.emod_nonneg _ (by decide)
 have t1 : c % 10 ^ (30 : Int).toNat < 10 ^ 30 := Int.emod_lt_of_pos _ (by decide)
 refine ⟨_, rfl, _, _, rfl, rfl, ⟨by decide, by decide, by decide⟩, _, _, rfl, rfl, ⟨by decide, by decide⟩, _, _, rfl, rfl, ⟨by decide, by decide, by decide⟩, _, _, rfl, rfl, ⟨by decide, by decide, by decide⟩, _, _, rfl, rfl, ⟨by decide, by decide⟩, _, _, rfl, rfl, m0, _, rfl, _, _, rfl, rfl, ⟨by decide, by decide, by decide⟩, _, _, rfl, rfl, (gU rfl), _, _, rfl, rfl, _, _, rfl, rfl, _, _, rfl, rfl, ⟨by decide, by decide, by decide⟩, _, _, rfl, rfl, ?_, q _⟩
 generalize c / 10 ^ (30 : Int).toNat % (10 ^ (60 : Int).toNat * 10 ^ (60 : Int).toNat) = u at *
 generalize c % 10 ^ (30 : Int).toNat = v at *
 generalize (10 : Int) ^ (60 : Int).toNat * 10 ^ (60 : Int).toNat = mm at *
 have b600 : (2 : Nat) ^ 600 < 2 ^ 4096 := by decide
 refine ⟨?_, Nat.lt_trans big2 b600⟩
 refine Nat.lt_trans (m := 2 ^ 600) ?_ b600
 have e : ((2 : Nat) ^ 600 : Int) = 2 ^ 600 := by norm_cast
 show (u + v + 1).natAbs < _
 omega
open Mt53
theorem jD (a b : Int) : decide (V.int a = V.int b) = decide (a = b) := by
 by_cases h : a = b
 ·subst h; simp
 ·rw [decide_eq_false h, decide_eq_false (fun c => h (by cases c; rfl))]
def qN : Sp := sp2 fun x y H Q => ∃ (t : Addr) (n a b : Str) (c r h : Int) (sv : V), x = .ref t ∧ y = .int h ∧ H t = some (.tup [.str n, .str a, .str b, .int c, .int r, sv]) ∧ 0 ≤ r ∧ r ≤ 1000000 ∧ Q (.int (r * (h - c))) H
theorem pE (T : Txt K mg C) : Fc P w K mg base 1 "coins_to" ["dyke", "height"] qN := by
 refine T.d_p_coins_to.fc vS gK (fun f cdv A outer s H vs Q E hr h => ?_)
 obtain ⟨x, y, rfl, t, n, a, b, c, r, h, sv, rfl, rfl, o, r0, r1, q⟩ := h
 refine ⟨_, (aH (@aS _ _ _ _ (@aJ _ _ _ _ _ _ _ _ lO (@aX _ _ _ _ _ _ _ (@aP _ (K) rfl) (pv 0) aE (fun _ _ => rfl)) (@aJ _ _ _ _ _ _ _ _ dU (pv 1) (@aX _ _ _ _ _ _ _ (@aP _ (K) rfl) (pv 0) aE (fun _ _ => rfl)))))), ?_⟩
 exact ⟨_, rfl, t, _, 4, .int r, rfl, rfl, SqT.of o, aI (j := 4) rfl, _, rfl, _, rfl, t, _, 3, .int c, rfl, rfl, SqT.of o, aI (j := 3) rfl, _, _, rfl, rfl, _, _, rfl, rfl, .inl ⟨by omega, by omega⟩, q⟩
theorem aNT {r : Int} (h : amt r = true) : 0 ≤ r ∧ r ≤ 1000000 := by
 have := Bool.and_eq_true_iff.mp h
 exact ⟨of_decide_eq_true this.1, of_decide_eq_true this.2⟩
theorem zP {zs : List Str} {ds ws : List Dv} (gd : GoodD zs ds) (gw : GoodW ds ws) (lw : ws.length ≤ 1000) : eP (.lst ws) = true := jE (fun d m => by
  obtain ⟨z, v, rfl, hz, _⟩ := hJ (gw.all d m)
  obtain ⟨d', md, rfl⟩ := List.mem_map.mp hz
  obtain ⟨n, a, b, c, r, sl, rfl, hn, _⟩ := bA (gd.all d' md)
  have e := jV hn
  show (decide (2 ≤ 1000) && (decide (n.length ≤ 1000) && (true && true))) = true
  rw [decide_eq_true e]
  rfl) lw
def wI (C : Addr) : Sp := sp2 fun x y H Q => ∃ (p : Addr) (fs ds ws : List Dv), x = .ref p ∧ LandAt C H p fs ds ∧ Is H (.lst ws) y ∧ ws.length ≤ 1000 ∧ GoodW ds ws ∧ Q (.int (zH ds ws)) H
theorem vX (T : Txt K mg C) : Fc P w K mg base 5 "coins_of" ["land", "works"] (wI C) := by
 have G_p_are_works : Fc P w K mg base 4 "are_works" ["land", "thing"] (xU C) := nN T
 have G_p_coins_to : Fc P w K mg base 1 "coins_to" ["dyke", "height"] qN := pE T
 have G_land_p_dyke : Mc P w K mg base 1 C "dyke" ["self", "name"] (oO C) := fH T
 refine T.d_p_coins_of.fcD vT gK (fun f cdv A outer s H vs Q E hr h => ?_)
 obtain ⟨x, y, rfl, p, fs, ds, ws, rfl, L, hw, lw, gw, q⟩ := h
 have big := bQ
 obtain ⟨dx, e1, e2, hx, _⟩ := L.ex
 have no : ∀ m : Str, ¬ m = "dyke_rows" → ¬ m = "field_rows" → (mD e1 e2).lookup m = none := fun m h1 h2 => cI _ _ h1 h2
 have gd := (bG L).2
 refine ⟨_, (aG (@cW _ _ _ _ _ _ _ _ (@cK _ _ _ _ (@cG _ _ _ (@bL _ _ _ _ _ _ _ _ _ _ G_p_are_works (hr.mono (by decide)) (aA (pv 0) (aA (pv 1) aD)) (by rfl) (by decide) (by rfl) (by rfl)) (by intro _; rfl))) (aH nE) bP) (aH (@aS _ _ _ _ (@aU _ _ _ _ _ _ _ _ _ (vL rfl) rfl T.n_sum rP (aA (@bV _ _ _ _ _ _ _ _ _ _ _ ["work", "land"] 1 [0] rfl (@bF _ _ _ _ (pv 1)) (fun R => @aO _ _ (0) _ (show List.Nodup (["work", "land"] : List Str) by decide +kernel) rfl (Or.inl rfl) (by trivial)) (@aW _ _ (by decide)) (fun R => cC) (fun R => (@bL _ _ _ _ _ _ _ _ _ _ G_p_coins_to (hr.mono (by decide)) (aA (@aCY _ _ _ _ _ _ _ _ _ _ _ _ _ _ T.cl_Land G_land_p_dyke (hr.mono (by decide)) (pv 1) (aA (@aX _ _ _ _ _ _ _ (@aP _ (K) rfl) (pv 0) aE (fun _ _ => rfl)) aD) (by rfl) (by rfl) (by rfl)) (aA (@aX _ _ _ _ _ _ _ (@aP _ (K) rfl) (pv 0) aE (fun _ _ => rfl)) aD)) (by rfl) (by decide) (by rfl) (by rfl))) (by rfl) (by rfl) (by rfl) (by rfl) (by rfl) (by rfl) (by rfl) (by intro _; rfl)) aD) (by decide) (by decide) (by rfl) (by rfl))))), ?_⟩
 refine ⟨_, rfl, _, rfl, _, _, rfl, p, fs, ds, .lst ws, rfl, L, hw, zP gd gw lw, _, rfl, ?_⟩
 rw [(wY ds ws).mpr gw]
 refine bM ?_
 obtain ⟨a, us, rfl, ho, hi⟩ := hw
 have lu := hi.length
 refine ⟨_, rfl, a, rfl, ⟨_, SqL.of ho⟩, ?_⟩
 refine bD (F := K) (xs := us) (by omega) (fun i ys H' => H' = H ∧ ys = ((ws.take i).map (aBP ds)).map V.int) ⟨rfl, rfl⟩ ?_ ?_ ?_
 ·rintro i ys H' hi' ⟨rfl, rfl⟩
  exact ⟨SqL.of ho, by rw [List.length_map, List.length_map, List.length_take]; omega⟩
 ·rintro i x ys H' K1 K2 hx' ⟨rfl, rfl⟩ k1 k2
  have hil : i < us.length := (List.getElem?_eq_some_iff.mp hx').1
  obtain ⟨d, ed⟩ : ∃ d, ws[i]? = some d := ⟨_, List.getElem?_eq_getElem (by omega)⟩
  obtain ⟨v, ev, iv⟩ := hi.get ed
  rw [hx'] at ev
  cases ev
  obtain ⟨z, h, rfl, mz, _⟩ := hJ (gw.all d (List.mem_of_getElem? ed))
  obtain ⟨d', md, rfl⟩ := List.mem_map.mp mz
  obtain ⟨t, rfl, o⟩ := zQ iv
  have ec := oA gd.nd md
  have er := aEV gd.nd md
  refine ⟨_, rfl, p, dx, _, rfl, hx, no _ (by decide +kernel) (by decide +kernel), _, rfl, t, _, 0, _, rfl, rfl, SqT.of o, aI (j := 0) rfl, _, _, rfl, p, fs, ds, d', rfl, rfl, L, md, fun v1 iv1 => ?_⟩
  obtain ⟨n, a', b', c, r, sl, rfl, _, _, _, _, _, hr', _⟩ := bA (gd.all d' md)
  obtain ⟨t', sv, rfl, o', _⟩ := gA iv1
  obtain ⟨r0, r1⟩ := aNT hr'
  refine ⟨_, rfl, t, _, 1, .int h, rfl, rfl, SqT.of o, aI (j := 1) rfl, _, _, rfl, t', n, a', b', c, r, h, sv, rfl, rfl, o', r0, r1, k1 _ _ ⟨rfl, ?_⟩⟩
  rw [List.take_add_one, ed, List.map_append, List.map_append]
  have e : aBP ds (.tup [.str n, .int h]) = r * (h - c) := by
   show uC ds n * (h - eS ds n) = _
   rw [show eS ds n = c from ec, show uC ds n = r from er]
  show _ ++ [V.int _] = _ ++ [V.int (aBP ds (.tup [.str n, .int h]))]
  rw [e]
 ·rintro ys H' ⟨rfl, rfl⟩
  intro p1 hp1
  rw [List.take_of_length_le (by omega)] at *
  exact ⟨p1, _, rfl, SqL.of aF, cN.of (fN.lst hp1) q⟩
open Mt22 MtF
theorem aNA {zs : List Str} {n : Int} (h1 : 1 ≤ zs.length) (h2 : (zs.length : Int) ≤ n) : aIV n (.lst (zs.map Dv.str)) = true := by
 unfold aIV
 simp only [List.length_map]
 rw [decide_eq_true (by omega), decide_eq_true (by omega)]
 rfl
def aHI (C : Addr) : Sp := sp2 fun x y H Q => ∃ (p l : Addr) (fs ds : List Dv) (zs : List Str), x = .ref p ∧ LandAt C H p fs ds ∧ y = .ref l ∧ H l = some (.lst (zs.map V.str)) ∧ 1 ≤ zs.length ∧ zs.Nodup ∧ (∀ z ∈ zs, z ∈ fs.map aL) ∧ ∀ H', aK H H' → Q (.bl true) H'
theorem nO (T : Txt K mg C) : Fc P w K mg base 2 "are_some_fields" ["land", "thing"] (aHI C) := by
 have G_land_p_field_names : Mc P w K mg base 1 C "field_names" ["self"] (lL C fun fs _ => fs.map aL) := cR T
 have G_p_is_list_of : Fc P w K mg base 1 "is_list_of" ["thing", "most"] pV := iV T
 have G_p_is_one_of : Fc P w K mg base 1 "is_one_of" ["thing", "names"] (sZ K) := jU T
 refine T.d_p_are_some_fields.fc iK gK (fun f cdv A outer s H vs Q E hr h => ?_)
 obtain ⟨x, y, rfl, p, l, fs, ds, zs, rfl, L, rfl, hl, l1, nd, sub, q⟩ := h
 have big := bQ
 have gf := (bG L).1
 have f2 := gf.l2
 have lz : zs.length ≤ fs.length := by
  have := kK nd sub
  rw [List.length_map] at this
  exact this
 obtain ⟨dx, d1, d2, hx, _⟩ := L.ex
 refine ⟨_, (aG (@aT _ _ (2) _ _ _ _ iK.nd rfl (Or.inr rfl) (@jT _ _ _ _ _ _ _ _ _ _ _ T.cl_Land G_land_p_field_names (hr.mono (by decide)) (pv 0) (by rfl)) (by rfl) (by trivial)) (aG (@cW _ _ _ _ _ _ _ _ (@PW.pt _ _ _ (@fE _ _ _ _ _ _ _ (@cK _ _ _ _ (@cG _ _ _ (@bL _ _ _ _ _ _ _ _ _ _ G_p_is_list_of (hr.mono (by decide)) (aA (pv 1) (aA (@aU _ _ _ _ _ _ _ _ _ (@bH _ (K) rfl) rfl T.n_len cA (aA (pv 2) aD) (by decide) (by decide) (by rfl) (by rfl)) aD)) (by rfl) (by decide) (by rfl) (by rfl)) (by intro _; rfl))) (@fD _ _ _ _ (@cK _ _ _ _ (@cG _ _ _ (@aU _ _ _ _ _ _ _ _ _ (@lJ _ rfl) rfl T.n_all jG (aA (@bV _ _ _ _ _ _ _ _ _ _ _ ["name", "names"] 1 [2] rfl (@bF _ _ _ _ (pv 1)) (fun R => @aO _ _ (0) _ (show List.Nodup (["name", "names"] : List Str) by decide +kernel) rfl (Or.inl rfl) (by trivial)) (@aW _ _ (by decide)) (fun R => cC) (fun R => (@bL _ _ _ _ _ _ _ _ _ _ G_p_is_one_of (hr.mono (by decide)) (aA (pv 0) (aA (pv 1) aD)) (by rfl) (by decide) (by rfl) (by rfl))) (by rfl) (by rfl) (by rfl) (by rfl) (by rfl) (by rfl) (by rfl) (by intro _; rfl)) aD) (by decide) (by decide) (by rfl) (by rfl)) (by intro _; rfl)))))) (aH (@aS _ _ _ _ lY)) bP) (aH (@aS _ _ _ _ (@dJ _ _ _ _ _ _ _ _ nK (@aU _ _ _ _ _ _ _ _ _ call_len_set rfl T.n_len cA (aA (@cT _ _ _ _ _ _ _ _ _ (@pI _ rfl) rfl T.n_set xI (aA (pv 1) aD) (by decide) (by decide) (by rfl) (by rfl)) aD) (by decide) (by decide) (by rfl) (by rfl)) (@aU _ _ _ _ _ _ _ _ _ (@bH _ (K) rfl) rfl T.n_len cA (aA (pv 1) aD) (by decide) (by decide) (by rfl) (by rfl)) (@bI _ _ (by decide) (by decide))))))), ?_⟩
 refine ⟨_, rfl, p, dx, _, rfl, hx, cI _ _ (by decide +kernel) (by decide +kernel), _, rfl, p, fs, ds, rfl, L, fun ln H1 S1 fln hln => ?_⟩
 have hl1 := S1 _ _ hl
 refine ⟨_, rfl, _, rfl, ln, _, rfl, .inl (SqL.of hln), _, _, rfl, .lst (zs.map Dv.str), _, iE hl1, rfl, _, rfl, ?_⟩
 rw [aNA l1 (by rw [List.length_map, List.length_map]; omega)]
 refine bM ?_
 refine ⟨_, rfl, l, rfl, ⟨_, SqL.of hl1⟩, ?_⟩
 refine bD (F := K) (xs := zs.map V.str) (by rw [List.length_map]; omega) (fun i ys H' => H1 = H' ∧ ys = (zs.take i).map fun z => V.bl true) ⟨rfl, rfl⟩ ?_ ?_ ?_
 ·rintro i ys H' hi' ⟨rfl, rfl⟩
  exact ⟨SqL.of hl1, by rw [List.length_map, List.length_take]; omega⟩
 ·rintro i xv ys H' K1 K2 hx ⟨rfl, rfl⟩ k1 k2
  obtain ⟨z, ez⟩ : ∃ z, zs[i]? = some z := by
   have := (List.getElem?_eq_some_iff.mp hx).1
   rw [List.length_map] at this
   exact ⟨_, List.getElem?_eq_getElem this⟩
  rw [List.getElem?_map, ez] at hx
  cases hx
  refine ⟨_, rfl, _, rfl, _, _, rfl, .str z, ln, _, rfl, rfl, SqL.of hln, ?_⟩
  rw [show qD (fs.map aL) (.str z) = true from decide_eq_true (sub z (List.mem_of_getElem? ez))]
  refine k1 _ _ ⟨rfl, ?_⟩
  rw [List.take_add_one, ez, List.map_append]
  rfl
 rintro ys H' ⟨rfl, rfl⟩
 rw [List.length_map, List.take_of_length_le (Nat.le_refl _)]
 intro p4 hp4
 have S4 := aK.upd (o := .lst (zs.map fun z => V.bl true)) hp4
 refine ⟨p4, zs.map fun _ => true, rfl, SqL.of ?_, _, rfl, ?_⟩
 ·rw [aF, List.map_map]
  rfl
 rw [show (zs.map fun _ => true).all id = true from List.all_eq_true.mpr fun b m => by obtain ⟨z, _, rfl⟩ := List.mem_map.mp m; rfl]
 refine bM ?_
 have hl4 := S4 _ _ hl1
 refine ⟨_, rfl, l, zs.map Sum.inr, rfl, SqL.of (by rw [hl4, aFA]), by rw [List.length_map]; omega, fun p5 hp5 => ?_⟩
 have hle := aFH (zs.map (Sum.inr : Str → Key))
 rw [List.length_map] at hle
 refine ⟨p5, _, _, rfl, aF, by omega, _, rfl, l, zs.map V.str, rfl, .inl (SqL.of (by rw [aQ (aV hl4 hp5)]; exact hl4)), rfl, ?_⟩
 have e : decide (V.int ((vF (zs.map (Sum.inr : Str → Key))).length : Int) = V.int ((zs.map V.str).length : Int)) = true := by
  rw [jD, List.length_map, (xD _).mpr ((gI zs).mpr nd), List.length_map]
  first | exact decide_eq_true rfl | exact beq_self_eq_true _
 rw [e]
 exact q _ (S1.trans (S4.trans (aK.upd hp5)))
def tM (C : Addr) : Sp := sp3 fun x y u H Q => ∃ (p l : Addr) (fs ds : List Dv) (zs : List Str) (L : Int), x = .ref p ∧ LandAt C H p fs ds ∧ y = .ref l ∧ H l = some (.lst (zs.map V.str)) ∧ 1 ≤ zs.length ∧ zs.Nodup ∧ (∀ z ∈ zs, z ∈ fs.map aL) ∧ u = .int L ∧ hgt L = true ∧ ∀ H', aK H H' → Q .non H'
theorem mB (T : Txt K mg C) : Fc P w K mg base 3 "check_wish" ["land", "fields", "height"] (tM C) := by
 have G_p_are_some_fields : Fc P w K mg base 2 "are_some_fields" ["land", "thing"] (aHI C) := nO T
 have G_p_is_height : Fc P w K mg base 2 "is_height" ["thing"] kM := fG T
 refine T.d_p_check_wish.fc sJ rA (fun f cdv A outer s H vs Q E hr h => ?_)
 obtain ⟨x, y, u, rfl, p, l, fs, ds, zs, lv, rfl, L, rfl, hl, l1, nd, sub, rfl, hL, q⟩ := h
 refine ⟨_, (aH (@cW _ _ _ _ _ _ _ _ (@PW.pt _ _ _ (@fE _ _ _ _ _ _ _ (@cK _ _ _ _ (@cG _ _ _ (@bL _ _ _ _ _ _ _ _ _ _ G_p_are_some_fields (hr.mono (by decide)) (aA (pv 0) (aA (pv 1) aD)) (by rfl) (by decide) (by rfl) (by rfl)) (by intro _; rfl))) (@fD _ _ _ _ (@cK _ _ _ _ (@cG _ _ _ (@bL _ _ _ _ _ _ _ _ _ _ G_p_is_height (hr.mono (by decide)) (aA (pv 2) aD) (by rfl) (by decide) (by rfl) (by rfl)) (by intro _; rfl)))))) (aH nE) bP)), ?_⟩
 refine ⟨_, rfl, _, rfl, _, _, rfl, p, l, fs, ds, zs, rfl, L, rfl, hl, l1, nd, sub, fun H1 S1 => ⟨_, rfl, bM ?_⟩⟩
 refine ⟨_, rfl, _, rfl, .int lv, rfl, _, rfl, ?_⟩
 rw [show gX (.int lv) = true from hL]
 exact bM (q H1 S1)
open Mt22 MtF Mt51
def aEI : Sp := sp1 fun x H Q => ∃ c : Int, x = .int c ∧ ∀ m : Int, hgt m = true → Q (.int m) H
theorem aDG (T : Txt K mg C) : Fc P w K mg base 1 "_law_level" ["_law_cell"] aEI := by
 refine T.d_l_level.fcD aCS mI (fun f cdv A outer s H vs Q E hr h => ?_)
 obtain ⟨x, rfl, c, rfl, q⟩ := h
 refine ⟨_, (aH (@aS _ _ _ _ (@aX _ _ _ _ _ _ _ (@cS _ (K) rfl) (@dL _ _ _ _ (aA (@aJ _ _ _ _ _ _ _ _ dU (@aJ _ _ _ _ _ _ _ _ cD (@aJ _ _ _ _ _ _ _ _ bK (pv 0) aE) aE) aE) (aA (@aJ _ _ _ _ _ _ _ _ dU (@aJ _ _ _ _ _ _ _ _ cD (@aJ _ _ _ _ _ _ _ _ bK (pv 0) aE) aE) aE) (aA (@aJ _ _ _ _ _ _ _ _ dU (@aJ _ _ _ _ _ _ _ _ cD (@aJ _ _ _ _ _ _ _ _ bK (pv 0) aE) aE) (@aJ _ _ _ _ _ _ _ _ dW aE aE)) (aA (@aJ _ _ _ _ _ _ _ _ dU (@aJ _ _ _ _ _ _ _ _ dW aE aE) (@aJ _ _ _ _ _ _ _ _ cD (@aJ _ _ _ _ _ _ _ _ bK (pv 0) aE) aE)) aD))))) (@aJ _ _ _ _ _ _ _ _ cD (pv 0) aE) (fun _ _ => rfl)))), ?_⟩
 refine ⟨_, rfl, _, _, rfl, rfl, ⟨by decide, by decide⟩, _, _, rfl, rfl, (gU rfl), _, _, rfl, rfl, _, rfl, _, _, rfl, rfl, ⟨by decide, by decide⟩, _, _, rfl, rfl, (gU rfl), _, _, rfl, rfl, _, rfl, _, _, rfl, rfl, ⟨by decide, by decide⟩, _, _, rfl, rfl, (gU rfl), _, _, rfl, rfl, ⟨by decide, by decide, by decide⟩, _, _, rfl, rfl, _, _, rfl, rfl, ⟨by decide, by decide, by decide⟩, _, rfl, _, _, rfl, rfl, ⟨by decide, by decide⟩, _, _, rfl, rfl, (gU rfl), _, _, rfl, rfl, aY rfl, fun p hp => ?_⟩
 obtain ⟨m, em, hm⟩ := at4 (a := c / 4 % 11 - 3) (b := c / 4 % 11 - 2) (c := c / 4 % 2000001 - 10 ^ (6 : Int).toNat) (d := 10 ^ (6 : Int).toNat - c / 4 % 2) (i := c % 4) (Int.emod_nonneg _ (by decide)) (Int.emod_lt_of_pos _ (gU rfl))
 refine ⟨_, rfl, _, _, rfl, rfl, (gU rfl), p, _, _, .int m, rfl, rfl, SqL.of aF, em, cN.of (fN.lst hp) (q m (aDN ?_ ?_))⟩
 ·rw [p6] at hm; omega
 ·rw [p6] at hm; omega
def aHG (C : Addr) (K : PySem.W.Frag) : Sp := sp2 fun x y H Q => ∃ (p : Addr) (fs ds : List Dv) (n : Int), x = .ref p ∧ LandAt C H p fs ds ∧ y = .int n ∧
 ∀ (l : Addr) (zs : List Str) (H' : Hp), aK H H' → H l = none → H' l = some (.lst (zs.map V.str)) → 1 ≤ zs.length → zs.length ≤ 4 → zs.Nodup → (∀ z ∈ zs, z ∈ fs.map aL) → Q (.ref l) H'
theorem aGB (T : Txt K mg C) : Fc P w K mg base 2 "_law_wish" ["_law_land_here", "_law_number"] (aHG C K) := by
 have G_land_p_field_names : Mc P w K mg base 1 C "field_names" ["self"] (lL C fun fs _ => fs.map aL) := cR T
 refine T.d_l_wish.fc hZ gK (fun f cdv A outer s H vs Q E hr h => ?_)
 obtain ⟨x, y, rfl, p, fs, ds, num, rfl, L, rfl, q⟩ := h
 have big := bQ
 have gf := (bG L).1
 have f1 := gf.l1
 have f2 := gf.l2
 obtain ⟨dx, d1, d2, hx, _⟩ := L.ex
 refine ⟨_, (aG (@aT _ _ (2) _ _ _ _ hZ.nd rfl (Or.inl rfl) (@jT _ _ _ _ _ _ _ _ _ _ _ T.cl_Land G_land_p_field_names (hr.mono (by decide)) (pv 0) (by rfl)) (by rfl) (by trivial)) (aG (@aT _ _ (3) _ _ _ _ hZ.nd rfl (Or.inl rfl) (@dL _ _ _ _ aD) (by rfl) (by trivial)) (aG (@aT _ _ (4) _ _ _ _ hZ.nd rfl (Or.inl rfl) (@aJ _ _ _ _ _ _ _ _ dM aE (@aJ _ _ _ _ _ _ _ _ cD (pv 1) aE)) (by rfl) (by trivial)) (aG (@aT _ _ (1) _ _ _ _ hZ.nd rfl (Or.inl rfl) (@aJ _ _ _ _ _ _ _ _ bK (pv 1) aE) (by rfl) (by trivial)) (aG (@eN _ _ _ _ _ _ _ _ PassesOwn.never rfl (@kW _ _ _ _ _ _ rfl T.n_range (aA (pv 4) aD) (by rfl)) (@aO _ _ (5) _ hZ.nd rfl (Or.inl rfl) (by trivial)) (aG (@cW _ _ _ _ _ _ _ _ (@bE _ _ _ _ _ _ _ _ (@iG _ (K) rfl) (@aX _ _ _ _ _ _ _ (@cS _ (K) rfl) (pv 2) (@aJ _ _ _ _ _ _ _ _ cD (pv 1) (@aU _ _ _ _ _ _ _ _ _ (@bH _ (K) rfl) rfl T.n_len cA (aA (pv 2) aD) (by decide) (by decide) (by rfl) (by rfl))) (fun _ _ => rfl)) (pv 3) (by with_unfolding_all rfl)) (aH (@eQ _ _ _ _ (@lX _ _ _ _ _ _ _ _ _ _ _ _ PySem.F.plainAttrs_list PySem.F.slot_list_append PySem.F.type_list_append dX (pv 3) (aA (@aX _ _ _ _ _ _ _ (@cS _ (K) rfl) (pv 2) (@aJ _ _ _ _ _ _ _ _ cD (pv 1) (@aU _ _ _ _ _ _ _ _ _ (@bH _ (K) rfl) rfl T.n_len cA (aA (pv 2) aD) (by decide) (by decide) (by rfl) (by rfl))) (fun _ _ => rfl)) aD) (by rfl) (by rfl) (by rfl) (by rfl) (by rfl)) (by rfl))) bP) (aH (@aT _ _ (1) _ _ _ _ hZ.nd rfl (Or.inl rfl) (@aJ _ _ _ _ _ _ _ _ bK (pv 1) (@aU _ _ _ _ _ _ _ _ _ (@bH _ (K) rfl) rfl T.n_len cA (aA (pv 2) aD) (by decide) (by decide) (by rfl) (by rfl))) (by rfl) (by trivial)))) (by intro _; rfl)) (aH (@aS _ _ _ _ (pv 3)))))))), ?_⟩
 refine ⟨_, rfl, p, dx, _, rfl, hx, cI _ _ (by decide +kernel) (by decide +kernel), _, rfl, p, fs, ds, rfl, L, fun ln H1 S1 fln hln => ?_⟩
 have lsn : ((fs.map aL).map V.str).length = fs.length := by rw [List.length_map, List.length_map]
 have dv0 : (0 : Int) < (((fs.map aL).map V.str).length : Nat) := by omega
 have dv1 : ((((fs.map aL).map V.str).length : Nat) : Int).natAbs.log2 < 9000 := by
  have hb : (((((fs.map aL).map V.str).length : Nat) : Int)).natAbs < 2 ^ 60 := by omega
  exact Nat.lt_trans ((Nat.log2_lt (by omega)).mpr hb) (by decide)
 refine ⟨aY rfl, fun l hl => ?_⟩
 have S2 := aK.upd (o := .lst []) hl
 have nl : l ≠ ln := fun e => by rw [e, hln] at hl; cases hl
 have n0 : 0 ≤ num % 4 := Int.emod_nonneg _ (by decide)
 have n1 : num % 4 < 4 := Int.emod_lt_of_pos _ (by decide)
 refine ⟨_, rfl, _, _, rfl, rfl, (gU rfl), _, _, rfl, rfl, ?_⟩
 refine ⟨_, rfl, _, _, rfl, rfl, ⟨by decide, by decide⟩, ?_⟩
 refine ⟨_, rfl, _, rfl, by omega, by omega, ?_⟩
 refine lC (lo := 0) (n := (1 + num % 4).toNat) (fun i σ H' => ∃ (n : Int) (v4 v5 : Option V) (zs : List Str), σ = [some (.ref p), some (.int n), some (.ref ln), some (.ref l), v4, v5] ∧ aK H H' ∧ H' ln = some (.lst ((fs.map aL).map V.str)) ∧ H' l = some (.lst (zs.map V.str)) ∧ zs.length ≤ i ∧ (0 < i → 1 ≤ zs.length) ∧ zs.Nodup ∧ (∀ z ∈ zs, z ∈ fs.map aL))
  ⟨_, _, _, [], rfl, S1.trans S2, S2 _ _ hln, aF, Nat.le_refl _, (fun h => absurd h (by omega)), by simp, (fun z m => by cases m)⟩ ?_ ?_
 ·rintro i σ H3 hi ⟨n, v4, v5, zs, rfl, S3, hln3, hl3, lz, lz1, nd, sub⟩
  have k0 : 0 ≤ n % ((((fs.map aL).map V.str).length : Nat) : Int) := Int.emod_nonneg _ (by omega)
  have k1 : n % ((((fs.map aL).map V.str).length : Nat) : Int) < (((fs.map aL).map V.str).length : Nat) := Int.emod_lt_of_pos _ dv0
  obtain ⟨j, hj⟩ := Int.eq_ofNat_of_zero_le k0
  obtain ⟨z, ez⟩ : ∃ z, (fs.map aL)[j]? = some z := ⟨_, List.getElem?_eq_getElem (by rw [List.length_map]; omega)⟩
  have ezv : ((fs.map aL).map V.str)[j]? = some (V.str z) := by rw [List.getElem?_map, ez]; rfl
  have mz := List.mem_of_getElem? ez
  refine ⟨_, rfl, _, rfl, _, rfl, ln, _, rfl, .inl (SqL.of hln3), _, _, rfl, rfl, dv0, ln, _, _, .str z, rfl, rfl, SqL.of hln3, (by rw [hj]; exact aI ezv), _, rfl, l, _, rfl, .inl (SqL.of hl3), rfl, dY zs, _, rfl, ?_⟩
  rw [if_pos rfl, gY]
  refine gW (fun fr => ?_) (fun fr => ?_)
  ·have fresh : ¬ z ∈ zs := by
    intro m
    rw [decide_eq_true m] at fr
    cases fr
   refine ⟨_, rfl, .inl ⟨rfl, _, SqL.of hl3⟩, _, rfl, _, rfl, _, rfl, ln, _, rfl, .inl (SqL.of hln3), _, _, rfl, rfl, dv0, ln, _, _, .str z, rfl, rfl, SqL.of hln3, (by rw [hj]; exact aI ezv), l, zs.map V.str, .str z, rfl, rfl, hl3, by rw [List.length_map]; omega, ?_⟩
   have e5 : zs.map V.str ++ [V.str z] = (zs ++ [z]).map V.str := by rw [List.map_append]; rfl
   rw [e5]
   have hln5 : upd H3 l (.lst ((zs ++ [z]).map V.str)) ln = some (.lst ((fs.map aL).map V.str)) := by rw [aQ (Ne.symm nl)]; exact hln3
   refine ⟨_, rfl, _, rfl, ln, _, rfl, .inl (SqL.of hln5), _, _, rfl, rfl, ⟨dv0, dv1⟩, ?_⟩
   refine ⟨_, _, _, zs ++ [z], rfl, S3.over (S1.free hl), hln5, aF, by rw [List.length_append]; show _ + 1 ≤ _; omega, fun _ => by rw [List.length_append]; show 1 ≤ _ + 1; omega, ?_, fun y m => ?_⟩
   ·rw [List.nodup_append]
    refine ⟨nd, by simp, fun x hx y hy => ?_⟩
    rw [List.mem_singleton.mp hy]
    exact fun e => fresh (e ▸ hx)
   ·rcases List.mem_append.mp m with m | m
    ·exact sub y m
    ·rw [List.mem_singleton.mp m]; exact mz
  ·have old : z ∈ zs := by
    by_cases h : z ∈ zs
    ·exact h
    ·rw [decide_eq_false h] at fr
     exact absurd rfl fr
   refine ⟨_, rfl, _, rfl, ln, _, rfl, .inl (SqL.of hln3), _, _, rfl, rfl, ⟨dv0, dv1⟩, ?_⟩
   exact ⟨_, _, _, zs, rfl, S3, hln3, hl3, by omega, fun _ => List.length_pos_of_mem old, nd, sub⟩
 ·rintro σ H3 ⟨n, v4, v5, zs, rfl, S3, hln3, hl3, lz, lz1, nd, sub⟩
  exact ⟨_, rfl, q l zs H3 S3 (S1.free hl) hl3 (lz1 (by omega)) (by omega) nd sub⟩
def aEK (C : Addr) (K : PySem.W.Frag) : Sp := sp3 fun x y u H Q => Scr K H x ∧ y = .int 12 ∧ u = .int 40 ∧ ∀ (p : Addr) (fs ds : List Dv) (H' : Hp), aK H H' → LandAt C H' p fs ds → Q (.ref p) H'
theorem aGC (T : Txt K mg C) : Fc P w K mg base 8 "_law_land" ["_law_script", "_law_most", "_law_many"] (aEK C K) := by
 have G_l_fields : Fc P w K mg base 3 "_law_fields" ["_law_script", "_law_most"] (wH K) := aAY T
 have G_l_dykes : Fc P w K mg base 3 "_law_dykes" ["_law_script", "_law_fields_here", "_law_most"] (aAG K) := aDH T
 have G_land_pinit : Ic P w K mg base 6 C ["self", "fields", "dykes"] (aCI C) := pF T
 refine T.d_l_land.fc wL rA (fun f cdv A outer s H vs Q E hr h => ?_)
 obtain ⟨x, y, u, rfl, scr, rfl, rfl, q⟩ := h
 have hu := gZ hr
 refine ⟨_, (aG (@aT _ _ (3) _ _ _ _ wL.nd rfl (Or.inl rfl) (@bL _ _ _ _ _ _ _ _ _ _ G_l_fields (hr.mono (by decide)) (aA (pv 0) (aA (pv 1) aD)) (by rfl) (by decide) (by rfl) (by rfl)) (by rfl) (by trivial)) (aH (@aS _ _ _ _ (@aMC _ _ _ _ _ _ _ _ _ _ _ T.mg_Land G_land_pinit (hr.mono (by decide)) (aA (pv 3) (aA (@bL _ _ _ _ _ _ _ _ _ _ G_l_dykes (hr.mono (by decide)) (aA (pv 0) (aA (pv 3) (aA (pv 2) aD))) (by rfl) (by decide) (by rfl) (by rfl)) aD)) (by rfl) (by decide) (by rfl) (by rfl))))), ?_⟩
 refine ⟨_, rfl, _, rfl, _, _, rfl, 12, scr, rfl, by decide, by decide, fun lf vf fs H1 S1 fl1 hf0 hif0 gf => ?_⟩
 refine ⟨_, rfl, _, rfl, _, rfl, _, rfl, _, _, _, rfl, 40, lf, vf, fs, 12, scr.same S1, rfl, hf0, hif0, gf, by decide, rfl, by decide, by decide, fun ld vd ds H2 S2 fl2 hd hid gd => ?_⟩
 intro p dx np ndx nex
 have S3' : aK H2 (upd (upd H2 dx (.own p)) p (.ins C dx [])) := fun b o e => by
  rw [aQ (aV e np), aQ (aV e ndx)]
  exact e
 have hf := S2 _ _ hf0
 have hif := IsL.same S2 _ _ hif0
 have f2 := gf.l2
 have d2 := gd.l2
 have smf : eP (.lst fs) = true := jE (fun d m => sD (gf.all d m)) (by omega)
 have smd : eP (.lst ds) = true := jE (fun d m => vA gf.all (gd.all d m)) (by omega)
 refine ⟨_, _, _, rfl, p, dx, fs, ds, rfl, aF, ⟨lf, vf, rfl, S3' _ _ hf, IsL.same S3' _ _ hif⟩, ⟨ld, vd, rfl, S3' _ _ hd, IsL.same S3' _ _ hid⟩, smf, smd, aGP gf (by decide), aJQ gd (by decide), fun H3 L fr => ⟨rfl, ?_⟩⟩
 exact q p fs ds H3 (S1.trans (S2.trans fun b o e => fr b o (S3' _ _ e) (aV e np))) L
theorem aJJ (g : Gp) : wA (lB g) = true := rfl
def yA (C : Addr) : Sp := sp2 fun x y H Q => ∃ (p : Addr) (fs ds : List Dv) (L : Int), x = .ref p ∧ LandAt C H p fs ds ∧ y = .int L ∧
 ∀ (l : Addr) (us : List V) (H' : Hp), aK H H' → H l = none → H' l = some (.lst us) → IsL H' ((gapsD fs ds L).map lB) us → Q (.ref l) H'
theorem wR (T : Txt K mg C) : Fc P w K mg base 2 "_law_gaps" ["_law_land_here", "_law_height_here"] (yA C) := by
 have G_land_p_dykes : Mc P w K mg base 1 C "dykes" ["self"] (pM C fun _ ds => ds) := iW T
 have G_land_p_fields : Mc P w K mg base 1 C "fields" ["self"] (pM C fun fs _ => fs) := qY T
 refine T.d_l_gaps.fc fJ gK (fun f cdv A outer s H vs Q E hr h => ?_)
 obtain ⟨x, y, rfl, p, fs, ds, lv, rfl, L, rfl, q⟩ := h
 have big := bQ
 have gf := (bG L).1
 have gd := (bG L).2
 have d2 := gd.l2
 have f2 := gf.l2
 refine ⟨_, (aG (@aT _ _ (2) _ _ _ _ fJ.nd rfl (Or.inl rfl) (@aJ _ _ _ _ _ _ _ _ uF (@dL _ _ _ _ (aA qT aD)) (@bV _ _ _ _ _ _ _ _ _ _ _ ["_law_name", "_law_bottom", "_law_many", "_law_height_here"] 3 [1] rfl (@bF _ _ _ _ (@jT _ _ _ _ _ _ _ _ _ _ _ T.cl_Land G_land_p_fields (hr.mono (by decide)) (pv 0) (by rfl))) (fun R => aKM (K := K) (n := 3) rfl rfl (@bX _ _ _ _ _ (@aO _ _ (0) _ (show List.Nodup (["_law_name", "_law_bottom", "_law_many", "_law_height_here"] : List Str) by decide +kernel) rfl (Or.inl rfl) (by trivial)) (@bX _ _ _ _ _ (@aO _ _ (1) _ (show List.Nodup (["_law_name", "_law_bottom", "_law_many", "_law_height_here"] : List Str) by decide +kernel) rfl (Or.inl rfl) (by trivial)) (@bX _ _ _ _ _ (@aO _ _ (2) _ (show List.Nodup (["_law_name", "_law_bottom", "_law_many", "_law_height_here"] : List Str) by decide +kernel) rfl (Or.inl rfl) (by trivial)) kC (by rfl)) (by rfl)) (by rfl))) (aGN (nW (by decide) (nW (by decide) (nW (by decide) aDP)))) (fun R => @eI _ _ _ (@bE _ _ _ _ _ _ _ _ pB (pv 1) (pv 3) (@bI _ _ (by decide) (by decide)))) (fun R => (pv 0)) (by rfl) (by rfl) (by rfl) (by rfl) (by rfl) (by rfl) (by rfl) (by intro _; rfl))) (by rfl) (by trivial)) (aG (@aT _ _ (3) _ _ _ _ fJ.nd rfl (Or.inl rfl) (@dL _ _ _ _ aD) (by rfl) (by trivial)) (aG (@eN _ _ _ _ _ _ _ _ PassesOwn.never rfl (@bF _ _ _ _ (@jT _ _ _ _ _ _ _ _ _ _ _ T.cl_Land G_land_p_dykes (hr.mono (by decide)) (pv 0) (by rfl))) (@nG _ _ _ _ _ _ rfl (@bX _ _ _ _ _ (@aO _ _ (4) _ fJ.nd rfl (Or.inl rfl) (by trivial)) (@bX _ _ _ _ _ (@aO _ _ (5) _ fJ.nd rfl (Or.inl rfl) (by trivial)) (@bX _ _ _ _ _ (@aO _ _ (6) _ fJ.nd rfl (Or.inl rfl) (by trivial)) (@bX _ _ _ _ _ (@aO _ _ (7) _ fJ.nd rfl (Or.inl rfl) (by trivial)) (@bX _ _ _ _ _ (@aO _ _ (8) _ fJ.nd rfl (Or.inl rfl) (by trivial)) (@bX _ _ _ _ _ (@aO _ _ (9) _ fJ.nd rfl (Or.inl rfl) (by trivial)) kC (by rfl)) (by rfl)) (by rfl)) (by rfl)) (by rfl)) (by rfl)) (by rfl) (by rfl)) (aH (@cW _ _ _ _ _ _ _ _ (@PW.pt _ _ _ (@pN _ _ _ _ _ _ _ (@bE _ _ _ _ _ _ _ _ pB (pv 7) (pv 1) (@bI _ _ (by decide) (by decide))) (@pN _ _ _ _ _ _ _ (@bE _ _ _ _ _ _ _ _ (@gD _ (K) rfl) (pv 5) (pv 2) (by with_unfolding_all rfl)) (@oT _ _ _ _ (@bE _ _ _ _ _ _ _ _ (@gD _ (K) rfl) (pv 6) (pv 2) (by with_unfolding_all rfl)))))) (aH (@eQ _ _ _ _ (@lX _ _ _ _ _ _ _ _ _ _ _ _ PySem.F.plainAttrs_list PySem.F.slot_list_append PySem.F.type_list_append dX (pv 3) (aA (@fF _ _ _ _ _ (aA (pv 4) (aA (pv 5) (aA (pv 6) (aA (@aJ _ _ _ _ _ _ _ _ lO (pv 8) (@aJ _ _ _ _ _ _ _ _ dU (pv 1) (pv 7))) aD))))) aD) (by rfl) (by rfl) (by rfl) (by rfl) (by rfl)) (by rfl))) bP)) (by intro _; rfl)) (aH (@aS _ _ _ _ (pv 3)))))), ?_⟩
 refine ⟨aY rfl, fun q1 hq1 => ?_⟩
 have S1 := aK.upd (o := .lst [.str "sea"]) hq1
 have hq1' : upd H q1 (.lst [.str "sea"]) q1 = some (.lst [.str "sea"]) := aF
 generalize upd H q1 (.lst [.str "sea"]) = H1 at S1 hq1'
 have L1 := L.same S1
 obtain ⟨dx, d1, d2', hx, _⟩ := L1.ex
 refine ⟨_, rfl, p, dx, _, rfl, hx, cI _ _ (by decide +kernel) (by decide +kernel), _, rfl, p, fs, ds, rfl, L1, fun lf vf H2 S2 flf hlf hif => ?_⟩
 have lvf : vf.length = fs.length := hif.length
 refine ⟨lf, rfl, ⟨_, SqL.of hlf⟩, ?_⟩
 refine bD (F := K) (xs := vf) (by omega) (fun i ys H' => H2 = H' ∧ ys = (((fs.take i).filter fun d => decide (eB d < lv)).map aL).map V.str ∧ ys.length ≤ i) ⟨rfl, rfl, Nat.le_refl _⟩ ?_ ?_ ?_
 ·rintro i ys H' hi' ⟨rfl, rfl, l⟩
  exact ⟨SqL.of hlf, l⟩
 ·rintro i xv ys H' K1 K2 hx' ⟨rfl, rfl, ll⟩ k1 k2
  have hil : i < vf.length := (List.getElem?_eq_some_iff.mp hx').1
  obtain ⟨d, ed⟩ : ∃ d, fs[i]? = some d := ⟨_, List.getElem?_eq_getElem (by omega)⟩
  obtain ⟨v, ev, iv⟩ := (show IsL H2 fs vf from hif).get ed
  rw [hx'] at ev
  cases ev
  obtain ⟨z, g, e, rfl, _⟩ := bS (gf.all d (List.mem_of_getElem? ed))
  obtain ⟨t, rfl, o⟩ := lE iv
  refine ⟨t, _, rfl, SqT.of o, rfl, _, _, rfl, _, _, rfl, _, _, rfl, rfl, ?_⟩
  refine ⟨_, rfl, _, rfl, _, _, rfl, rfl, _, rfl, ?_⟩
  have ell : (((fs.take i).filter fun d => decide (eB d < lv)).map aL).map V.str = (((fs.take i).filter fun d => decide (eB d < lv)).map aL).map V.str := rfl
  refine gW (fun h1 => ?_) (fun h1 => ?_)
  ·refine ⟨_, rfl, k1 _ _ ⟨rfl, ?_, by rw [List.length_append]; show _ + 1 ≤ _; omega⟩⟩
   rw [List.take_add_one, ed, List.filter_append]
   show _ = (((_ ++ [Dv.tup [.str z, .int g, .int e]].filter _).map aL).map V.str)
   rw [List.filter_cons_of_pos (p := fun d => decide (eB d < lv)) (a := .tup [.str z, .int g, .int e]) h1, List.filter_nil, List.map_append, List.map_append]
   rfl
  ·refine k2 _ ⟨rfl, ?_, by omega⟩
   rw [List.take_add_one, ed, List.filter_append]
   show _ = (((_ ++ [Dv.tup [.str z, .int g, .int e]].filter _).map aL).map V.str)
   rw [List.filter_cons_of_neg (p := fun d => decide (eB d < lv)) (a := .tup [.str z, .int g, .int e]) h1, List.filter_nil, List.append_nil]
 rintro ys H' ⟨rfl, rfl, ll⟩
 rw [List.take_of_length_le (by omega)] at *
 intro p1 hp1
 have S3 := aK.upd (o := .lst (((fs.filter fun d => decide (eB d < lv)).map aL).map V.str)) hp1
 refine ⟨q1, p1, _, _, rfl, rfl, (S2.trans S3) _ _ hq1', aF, by simp only [List.length_singleton]; omega, fun lo hlo => ?_⟩
 have S4 := aK.upd (o := .lst ([V.str "sea"] ++ ((fs.filter fun d => decide (eB d < lv)).map aL).map V.str)) hlo
 have hlo4 : upd (upd H2 p1 (.lst (((fs.filter fun d => decide (eB d < lv)).map aL).map V.str))) lo (.lst ([V.str "sea"] ++ ((fs.filter fun d => decide (eB d < lv)).map aL).map V.str)) lo = some (.lst ((lowS fs lv).map V.str)) := aF
 have T4 := S1.trans (S2.trans (S3.trans S4))
 generalize upd (upd H2 p1 (.lst (((fs.filter fun d => decide (eB d < lv)).map aL).map V.str))) lo (.lst ([V.str "sea"] ++ ((fs.filter fun d => decide (eB d < lv)).map aL).map V.str)) = H4 at hlo4 T4
 refine ⟨aY rfl, fun l hl => ?_⟩
 have S5 := aK.upd (o := .lst []) hl
 have hl5 : upd H4 l (.lst []) l = some (.lst []) := aF
 have nlo : l ≠ lo := fun e => by rw [e, hlo4] at hl; cases hl
 have hlo5 := S5 _ _ hlo4
 have T5 := T4.trans S5
 have hl0 := T4.free hl
 generalize upd H4 l (.lst []) = H5 at S5 hl5 hlo5 T5
 have L5 := L.same T5
 obtain ⟨dx5, x1, x2, hx5, _⟩ := L5.ex
 refine ⟨_, rfl, p, dx5, _, rfl, hx5, cI _ _ (by decide +kernel) (by decide +kernel), _, rfl, p, fs, ds, rfl, L5, fun lb vb H6 S6 flb hlb hib => ?_⟩
 have lvb : vb.length = ds.length := hib.length
 have nlb : l ≠ lb := aV hl5 flb
 have hds : uV ds = true := eJ fun d m => xC (gd.all d m)
 refine ⟨lb, rfl, ⟨_, SqL.of hlb⟩, eL (K := K) (a := lb) (xs := vb)
  (fun i σ H' => ∃ (v4 v5 v6 v7 v8 v9 : Option V) (us : List V), σ = [some (.ref p), some (.int lv), some (.ref lo), some (.ref l), v4, v5, v6, v7, v8, v9] ∧ aK H H' ∧ H' lb = some (.lst vb) ∧ IsL H' ds vb ∧ H' lo = some (.lst ((lowS fs lv).map V.str)) ∧ H' l = some (.lst us) ∧ us.length ≤ i ∧ IsL H' ((gapsD fs (ds.take i) lv).map lB) us)
  ⟨_, _, _, _, _, _, [], rfl, T5.trans S6, hlb, hib, S6 _ _ hlo5, S6 _ _ hl5, Nat.le_refl _, rfl⟩ (fun i σ H' _ ⟨_, _, _, _, _, _, _, _, _, e, _⟩ => SqL.of e) ?_ ?_⟩
 ·rintro i xv σ H7 hi ⟨v4, v5, v6, v7, v8, v9, us, rfl, S7, hlb7, hib7, hlo7, hl7, lus, ius⟩
  have hil : i < vb.length := (List.getElem?_eq_some_iff.mp hi).1
  obtain ⟨d, ed⟩ : ∃ d, ds[i]? = some d := ⟨_, List.getElem?_eq_getElem (by omega)⟩
  obtain ⟨v, ev, iv⟩ := hib7.get ed
  rw [hi] at ev
  cases ev
  have md := List.mem_of_getElem? ed
  have eapp : gapsD fs (ds.take (i + 1)) lv = gapsD fs (ds.take i) lv ++ (if qI fs lv d = true then [zW lv d] else []) := by
   unfold gapsD
   rw [List.take_add_one, ed, List.filter_append, List.map_append]
   congr 1
   show ([d].filter (qI fs lv)).map (zW lv) = _
   by_cases hg : qI fs lv d = true
   ·rw [if_pos hg, List.filter_cons_of_pos hg]; rfl
   ·rw [if_neg hg, List.filter_cons_of_neg hg]; rfl
  obtain ⟨n, a', b', c, r, sl, rfl, _, ha, hb, _, _, hr', _⟩ := bA (gd.all d md)
  obtain ⟨t, sv, rfl, o, isv⟩ := gA iv
  have hr0 : 0 ≤ r ∧ r ≤ 1000000 := by
   have := Bool.and_eq_true_iff.mp hr'
   exact ⟨of_decide_eq_true this.1, of_decide_eq_true this.2⟩
  refine ⟨t, _, rfl, SqT.of o, rfl, _, _, rfl, _, _, rfl, _, _, rfl, _, _, rfl, _, _, rfl, _, _, rfl, rfl, ?_⟩
  have stay : qI fs lv (.tup [.str n, .str a', .str b', .int c, .int r, sl]) = false → gapsD fs (ds.take (i + 1)) lv = gapsD fs (ds.take i) lv := fun h => by
   rw [eapp, h, if_neg Bool.false_ne_true, List.append_nil]
  refine ⟨_, rfl, _, rfl, _, _, rfl, rfl, _, rfl, ?_⟩
  refine gW (fun h1 => ?_) (fun h1 => ?_)
  ·refine ⟨_, rfl, _, rfl, lo, _, rfl, .inl (SqL.of hlo7), rfl, dY _, _, rfl, ?_⟩
   rw [if_neg Bool.false_ne_true, gY]
   refine gW (fun h2 => ?_) (fun h2 => ?_)
   ·refine ⟨_, rfl, _, rfl, lo, _, rfl, .inl (SqL.of hlo7), rfl, dY _, _, rfl, ?_⟩
    rw [if_neg Bool.false_ne_true, gY]
    refine gW (fun h3 => ?_) (fun h3 => ?_)
    ·have hg : qI fs lv (.tup [.str n, .str a', .str b', .int c, .int r, sl]) = true := by
      show (decide (c < lv) && (decide (a' ∈ lowS fs lv) && decide (b' ∈ lowS fs lv))) = true
      rw [h1, h2, h3]
      rfl
     refine ⟨_, rfl, .inl ⟨rfl, _, SqL.of hl7⟩, _, rfl, _, rfl, _, rfl, _, rfl, _, rfl, _, rfl, _, _, rfl, rfl, _, _, rfl, rfl, .inl ⟨by omega, by omega⟩, aY rfl, fun pt hpt => ?_⟩
     have R6 := aK.upd (o := .tup [.str n, .str a', .str b', .int (r * (lv - c))]) hpt
     have hl8 := R6 _ _ hl7
     have KT := hG.lst (o := .lst (us ++ [.ref pt])) hl8
     refine ⟨l, us, .ref pt, rfl, rfl, hl8, by omega, ?_⟩
     refine ⟨_, _, _, _, _, _, us ++ [.ref pt], rfl, (S7.trans R6).over hl0, ?_, IsL.keep KT _ _ hds (IsL.same R6 _ _ hib7), ?_, aF, by rw [List.length_append]; show _ + 1 ≤ _; omega, IsL.keep KT _ _ ?_ ?_⟩
     ·rw [aQ (Ne.symm nlb)]; exact R6 _ _ hlb7
     ·rw [aQ (Ne.symm nlo)]; exact R6 _ _ hlo7
     ·refine eJ fun d m => ?_
      obtain ⟨g, _, rfl⟩ := List.mem_map.mp m
      exact aJJ g
     ·rw [eapp, if_pos hg, List.map_append]
      exact IsL.snoc (d := lB (zW lv (.tup [.str n, .str a', .str b', .int c, .int r, sl]))) (v := .ref pt) ⟨pt, _, rfl, aF, _, _, rfl, rfl, _, _, rfl, rfl, _, _, rfl, rfl, _, _, rfl, rfl, rfl⟩ (IsL.same R6 _ _ ius)
    ·refine ⟨_, _, _, _, _, _, us, rfl, S7, hlb7, hib7, hlo7, hl7, by omega, ?_⟩
     rw [stay ?_]
     ·exact ius
     ·show (decide (c < lv) && (decide (a' ∈ lowS fs lv) && decide (b' ∈ lowS fs lv))) = false
      rw [show decide (b' ∈ lowS fs lv) = false by simpa using h3, Bool.and_false, Bool.and_false]
   ·refine ⟨_, _, _, _, _, _, us, rfl, S7, hlb7, hib7, hlo7, hl7, by omega, ?_⟩
    rw [stay ?_]
    ·exact ius
    ·show (decide (c < lv) && (decide (a' ∈ lowS fs lv) && decide (b' ∈ lowS fs lv))) = false
     rw [show decide (a' ∈ lowS fs lv) = false by simpa using h2, Bool.false_and, Bool.and_false]
  ·refine ⟨_, _, _, _, _, _, us, rfl, S7, hlb7, hib7, hlo7, hl7, by omega, ?_⟩
   rw [stay ?_]
   ·exact ius
   ·show (decide (c < lv) && (decide (a' ∈ lowS fs lv) && decide (b' ∈ lowS fs lv))) = false
    rw [show decide (c < lv) = false by simpa using h1, Bool.false_and]
 ·rintro σ H7 ⟨v4, v5, v6, v7, v8, v9, us, rfl, S7, hlb7, hib7, hlo7, hl7, lus, ius⟩
  rw [List.take_of_length_le (by omega)] at ius
  exact ⟨_, rfl, q l us H7 S7 hl0 hl7 ius⟩
open Mt53 Mt22 MtF Mt31 Mt61
def lowS (fs : List Dv) (L : Int) (z : Str) : Bool := decide (z = "sea") || decide (eK fs z < L)
def gOf (L : Int) : Dv → Gap
 | .tup [.str n, .str a, .str b, .int c, .int r, _] => ⟨n, a, b, r * (L - c)⟩
 | _ => ⟨"", "", "", 0⟩
def isG (fs : List Dv) (L : Int) : Dv → Bool
 | .tup [.str _, .str a, .str b, .int c, .int _, _] => decide (c < L) && (lowS fs L a && lowS fs L b)
 | _ => false
def gapsD (fs ds : List Dv) (L : Int) : List Gap := (ds.filter (isG fs L)).map (gOf L)
def cM (G : List Gap) : List (Key × V) := G.map fun g => (Sum.inr g.nm, V.int g.cap)
theorem aDS {zs : List Str} {d : Dv} (h : cL zs d = true) (L : Int) : (gOf L d).nm = aL d := by
 obtain ⟨n, a, b, c, r, s, rfl, _⟩ := bA h
 rfl
theorem kF {fs ds : List Dv} (gf : GoodF fs) (gd : GoodD ("sea" :: fs.map aL) ds) (L : Int) : Gaps ("sea" :: fs.map aL) (gapsD fs ds L) := by
 have mem : ∀ g ∈ gapsD fs ds L, ∃ d ∈ ds, isG fs L d = true ∧ g = gOf L d := fun g m => by
  obtain ⟨d, md, rfl⟩ := List.mem_map.mp m
  rw [List.mem_filter] at md
  exact ⟨d, md.1, md.2, rfl⟩
 refine ⟨?_, fun g m => ?_, fun g m => ?_, ?_, List.mem_cons_self⟩
 ·have e : (gapsD fs ds L).map (·.nm) = (ds.filter (isG fs L)).map aL := by
   unfold gapsD
   rw [List.map_map]
   refine List.map_congr_left fun d md => ?_
   exact aDS (gd.all d (List.mem_filter.mp md).1) L
  rw [e]
  exact List.Nodup.sublist (List.Sublist.map _ List.filter_sublist) gd.nd
 ·obtain ⟨d, md, _, rfl⟩ := mem g m
  obtain ⟨n, a, b, c, r, s, rfl, _, ha, hb, hab, _⟩ := bA (gd.all d md)
  exact ⟨ha, hb, hab⟩
 ·obtain ⟨d, md, hg, rfl⟩ := mem g m
  obtain ⟨n, a, b, c, r, s, rfl, _, ha, hb, hab, hc, hr, _⟩ := bA (gd.all d md)
  have h1 : c < L := of_decide_eq_true (Bool.and_eq_true_iff.mp (show (decide (c < L) && (lowS fs L a && lowS fs L b)) = true from hg)).1
  have h2 : 0 ≤ r := by
   have := Bool.and_eq_true_iff.mp (show (decide (0 ≤ r) && decide (r ≤ 1000000)) = true from hr)
   exact of_decide_eq_true this.1
  show 0 ≤ r * (L - c)
  exact Int.mul_nonneg h2 (by omega)
 ·rw [List.nodup_cons]
  refine ⟨fun m => ?_, gf.nd⟩
  obtain ⟨d, md, e⟩ := List.mem_map.mp m
  obtain ⟨z, g, u, rfl, hz, _⟩ := bS (gf.all d md)
  exact oR hz e
def aLW (C : Addr) : Sp := sp3 fun x y u H Q => ∃ (p : Addr) (fs ds : List Dv) (z : Str) (L : Int), x = .ref p ∧ LandAt C H p fs ds ∧ y = .str z ∧ z ∈ (("sea" : Str) :: fs.map aL) ∧ u = .int L ∧ Q (.bl (lowS fs L z)) H
theorem aAV (T : Txt K mg C) : Fc P w K mg base 2 "is_low" ["land", "side", "height"] (aLW C) := by
 have G_land_p_ground : Mc P w K mg base 1 C "ground" ["self", "field"] (aAD C) := qX T
 refine T.d_p_is_low.fc aAL rA (fun f cdv A outer s H vs Q E hr h => ?_)
 obtain ⟨x, y, u, rfl, p, fs, ds, z, lv, rfl, L, rfl, mz, rfl, q⟩ := h
 obtain ⟨dx, d1, d2, hx, _⟩ := L.ex
 have gf := (bG L).1
 refine ⟨_, (aH (@aS _ _ _ _ (@aMB _ _ _ _ _ _ _ (@dJ _ _ _ _ _ _ _ _ nK (pv 1) (@sN _ _ _ _ T.g_SEA (by rfl) (by decide)) (@bI _ _ (by decide) (by decide))) (@dS _ _ _ _ _ (@dJ _ _ _ _ _ _ _ _ pB (@aCY _ _ _ _ _ _ _ _ _ _ _ _ _ _ T.cl_Land G_land_p_ground (hr.mono (by decide)) (pv 0) (aA (pv 1) aD) (by rfl) (by rfl) (by rfl)) (pv 2) (@bI _ _ (by decide) (by decide))))))), ?_⟩
 refine ⟨_, rfl, rfl, ?_⟩
 by_cases hz : z = "sea"
 ·subst hz
  rw [decide_eq_true rfl]
  exact ⟨_, rfl, dO q⟩
 ·rw [decide_eq_false (fun c => hz (V.str.inj c))]
  have mf : z ∈ fs.map aL := by
   rcases List.mem_cons.mp mz with h | h
   ·exact absurd h hz
   ·exact h
  obtain ⟨d, md, e⟩ := List.mem_map.mp mf
  obtain ⟨z', g, u, rfl, hz', _⟩ := bS (gf.all d md)
  have e' : z' = z := e
  subst e'
  have eg : eK fs z' = g := rH gf.nd md
  refine ⟨_, rfl, bM ?_⟩
  refine ⟨_, rfl, p, dx, _, rfl, hx, cI _ _ (by decide +kernel) (by decide +kernel), _, rfl, _, _, rfl, p, fs, ds, z', g, u, rfl, rfl, L, md, _, rfl, _, _, rfl, rfl, ?_⟩
  have : lowS fs lv z' = decide (g < lv) := by
   unfold lowS
   rw [decide_eq_false hz, eg]
   rfl
  show Q (V.bl (decide (g < lv))) H
  rw [← this]
  exact q
def aLX (C : Addr) : Sp := sp3 fun x y u H Q => ∃ (p : Addr) (fs ds : List Dv) (d : Dv) (L : Int), x = .ref p ∧ LandAt C H p fs ds ∧ Is H d y ∧ d ∈ ds ∧ u = .int L ∧ Q (.bl (isG fs L d)) H
theorem aAW (T : Txt K mg C) : Fc P w K mg base 3 "is_gap" ["land", "dyke", "height"] (aLX C) := by
 have G_p_is_low : Fc P w K mg base 2 "is_low" ["land", "side", "height"] (aLW C) := aAV T
 refine T.d_p_is_gap.fc aAM rA (fun f cdv A outer s H vs Q E hr h => ?_)
 obtain ⟨x, y, u, rfl, p, fs, ds, d, lv, rfl, L, hd, md, rfl, q⟩ := h
 have gd := (bG L).2
 obtain ⟨n, a, b, c, r, sl, rfl, _, ha, hb, hab, hc, hr', _⟩ := bA (gd.all d md)
 obtain ⟨t, sv, rfl, o, isv⟩ := gA hd
 refine ⟨_, (aH (@aS _ _ _ _ (@dA _ _ _ _ _ _ _ (@dJ _ _ _ _ _ _ _ _ pB (@aX _ _ _ _ _ _ _ (@aP _ (K) rfl) (pv 1) aE (fun _ _ => rfl)) (pv 2) (@bI _ _ (by decide) (by decide))) (@dA _ _ _ _ _ _ _ (@bL _ _ _ _ _ _ _ _ _ _ G_p_is_low (hr.mono (by decide)) (aA (pv 0) (aA (@aX _ _ _ _ _ _ _ (@aP _ (K) rfl) (pv 1) aE (fun _ _ => rfl)) (aA (pv 2) aD))) (by rfl) (by decide) (by rfl) (by rfl)) (@dS _ _ _ _ _ (@bL _ _ _ _ _ _ _ _ _ _ G_p_is_low (hr.mono (by decide)) (aA (pv 0) (aA (@aX _ _ _ _ _ _ _ (@aP _ (K) rfl) (pv 1) aE (fun _ _ => rfl)) (aA (pv 2) aD))) (by rfl) (by decide) (by rfl) (by rfl))))))), ?_⟩
 refine ⟨_, rfl, t, _, 3, .int c, rfl, rfl, SqT.of o, aI (j := 3) rfl, _, rfl, _, _, rfl, rfl, ?_⟩
 have q : Q (.bl (decide (c < lv) && (lowS fs lv a && lowS fs lv b))) H := q
 refine ⟨_, rfl, ?_⟩
 cases h1 : decide (c < lv) with
 | false =>
  rw [h1] at q
  exact bM q
 | true =>
  rw [h1] at q
  refine dO ?_
  refine ⟨_, rfl, _, rfl, t, _, 1, .str a, rfl, rfl, SqT.of o, aI (j := 1) rfl, _, rfl, _, _, _, rfl, p, fs, ds, a, lv, rfl, L, rfl, ha, rfl, ?_⟩
  refine ⟨_, rfl, ?_⟩
  cases h2 : lowS fs lv a with
  | false =>
   rw [h2] at q
   exact bM q
  | true =>
   rw [h2] at q
   refine dO ?_
   exact ⟨_, rfl, _, rfl, t, _, 2, .str b, rfl, rfl, SqT.of o, aI (j := 2) rfl, _, rfl, _, _, _, rfl, p, fs, ds, b, lv, rfl, L, rfl, hb, rfl, q⟩
theorem iC (G : List Gap) : (cM G).length = G.length := List.length_map _
theorem aDR (G : List Gap) : (cM G).map (·.1) = (G.map (·.nm)).map Sum.inr := by
 unfold cM
 rw [List.map_map, List.map_map]
 rfl
theorem iT (fs ds : List Dv) (L : Int) : (gapsD fs ds L).length ≤ ds.length := by
 unfold gapsD
 rw [List.length_map]
 exact List.length_filter_le _ _
def aCJ (C : Addr) : Sp := sp2 fun x y H Q => ∃ (p : Addr) (fs ds : List Dv) (L : Int), x = .ref p ∧ LandAt C H p fs ds ∧ y = .int L ∧ ∀ (cd : Addr) (H' : Hp), aK H H' → H cd = none → H' cd = some (.dK (cM (gapsD fs ds L))) → Q (.ref cd) H'
theorem nM (T : Txt K mg C) : Fc P w K mg base 4 "gap_coins" ["land", "height"] (aCJ C) := by
 have G_p_is_gap : Fc P w K mg base 3 "is_gap" ["land", "dyke", "height"] (aLX C) := aAW T
 have G_p_coins_to : Fc P w K mg base 1 "coins_to" ["dyke", "height"] qN := pE T
 have G_land_p_dykes : Mc P w K mg base 1 C "dykes" ["self"] (pM C fun _ ds => ds) := iW T
 refine T.d_p_gap_coins.fc tV gK (fun f cdv A outer s H vs Q E hr h => ?_)
 obtain ⟨x, y, rfl, p, fs, ds, lv, rfl, L, rfl, q⟩ := h
 have big := bQ
 have gf := (bG L).1
 have gd := (bG L).2
 have d2 := gd.l2
 have GG := kF gf gd lv
 have gl := iT fs ds lv
 obtain ⟨dx, d1, d2', hx, _⟩ := L.ex
 refine ⟨_, (aH (@aS _ _ _ _ (@cT _ _ _ _ _ _ _ _ _ (@dB _ rfl) rfl T.n_dict gE (aA (@bV _ _ _ _ _ _ _ _ _ _ _ ["dyke", "land", "height"] 1 [0, 1] rfl (@bF _ _ _ _ (@jT _ _ _ _ _ _ _ _ _ _ _ T.cl_Land G_land_p_dykes (hr.mono (by decide)) (pv 0) (by rfl))) (fun R => @aO _ _ (0) _ (show List.Nodup (["dyke", "land", "height"] : List Str) by decide +kernel) rfl (Or.inl rfl) (by trivial)) (@aW _ _ (by decide)) (fun R => @eI _ _ _ (@cG _ _ _ (@bL _ _ _ _ _ _ _ _ _ _ G_p_is_gap (hr.mono (by decide)) (aA (pv 1) (aA (pv 0) (aA (pv 2) aD))) (by rfl) (by decide) (by rfl) (by rfl)) (by intro _; rfl))) (fun R => (@fF _ _ _ _ _ (aA (@aX _ _ _ _ _ _ _ (@aP _ (K) rfl) (pv 0) aE (fun _ _ => rfl)) (aA (@bL _ _ _ _ _ _ _ _ _ _ G_p_coins_to (hr.mono (by decide)) (aA (pv 0) (aA (pv 2) aD)) (by rfl) (by decide) (by rfl) (by rfl)) aD)))) (by rfl) (by rfl) (by rfl) (by rfl) (by rfl) (by rfl) (by rfl) (by intro _; rfl)) aD) (by decide) (by decide) (by rfl) (by rfl)))), ?_⟩
 refine ⟨_, rfl, p, dx, _, rfl, hx, cI _ _ (by decide +kernel) (by decide +kernel), _, rfl, p, fs, ds, rfl, L, fun lb vb H2 S2 flb hlb hib => ?_⟩
 have lvb : vb.length = ds.length := hib.length
 refine ⟨lb, rfl, ⟨_, SqL.of hlb⟩, ?_⟩
 refine bD (F := K) (xs := vb) (by omega) (fun i ys H' => aK H2 H' ∧ bT H' ys (cM (gapsD fs (ds.take i) lv))) ⟨aK.refl _, bT.nil _⟩ ?_ ?_ ?_
 ·rintro i ys H' hi' ⟨S', pa⟩
  have := pa.len
  have := iT fs (ds.take i) lv
  rw [iC] at *
  rw [List.length_take] at this
  exact ⟨SqL.of (S' _ _ hlb), by omega⟩
 ·rintro i xv ys H' K1 K2 hx' ⟨S', pa⟩ k1 k2
  have hil : i < vb.length := (List.getElem?_eq_some_iff.mp hx').1
  obtain ⟨d, ed⟩ : ∃ d, ds[i]? = some d := ⟨_, List.getElem?_eq_getElem (by omega)⟩
  obtain ⟨v, ev, iv⟩ := hib.get ed
  rw [hx'] at ev
  cases ev
  have md := List.mem_of_getElem? ed
  have iv' := Is.same S' _ _ iv
  refine ⟨_, rfl, _, rfl, _, rfl, _, _, _, rfl, p, fs, ds, d, lv, rfl, L.same (S2.trans S'), iv', md, rfl, _, rfl, ?_⟩
  have et : gapsD fs (ds.take (i + 1)) lv = gapsD fs (ds.take i) lv ++ (if isG fs lv d = true then [gOf lv d] else []) := by
   unfold gapsD
   rw [List.take_add_one, ed, List.filter_append, List.map_append]
   cases h : isG fs lv d <;> simp [h]
  cases hg : isG fs lv d with
  | false =>
   rw [hg] at et
   refine bM (k2 _ ⟨S', ?_⟩)
   rw [et]
   simpa using pa
  | true =>
   rw [hg] at et
   refine dO ?_
   obtain ⟨n, a, b, c, r, sl, rfl, _, ha, hb, hab, hc, hr', _⟩ := bA (gd.all d md)
   obtain ⟨t, sv, rfl, o, isv⟩ := gA iv'
   have h2 := Bool.and_eq_true_iff.mp (show (decide (0 ≤ r) && decide (r ≤ 1000000)) = true from hr')
   refine ⟨_, rfl, t, _, 0, .str n, rfl, rfl, SqT.of o, aI (j := 0) rfl, _, rfl, _, rfl, _, _, rfl, t, n, a, b, c, r, lv, sv, rfl, rfl, o, of_decide_eq_true h2.1, of_decide_eq_true h2.2, aY rfl, fun p3 hp3 => k1 _ _ ⟨S'.trans (aK.upd hp3), ?_⟩⟩
   rw [et]
   have e2 : cM (gapsD fs (ds.take i) lv ++ [gOf lv (.tup [.str n, .str a, .str b, .int c, .int r, sl])]) = cM (gapsD fs (ds.take i) lv) ++ [(Sum.inr n, V.int (r * (lv - c)))] := by
    unfold cM
    rw [List.map_append]
    rfl
   rw [if_pos rfl, e2]
   exact bT.snoc (k := Sum.inr n) pa hp3
 rintro ys H3 ⟨S3, pa⟩
 rw [List.take_of_length_le (by omega)] at pa
 intro p4 hp4
 have S4 := aK.upd (o := .lst ys) hp4
 refine ⟨p4, ys, cM (gapsD fs ds lv), rfl, SqL.of aF, pa.same S4, by rw [iC]; omega, by rw [aDR]; exact (gI _).mpr GG.nd, fun cd hcd => ?_⟩
 have T4 := S2.trans (S3.trans S4)
 exact q cd _ (T4.trans (aK.upd hcd)) (T4.free hcd) aF
open Mt22 MtF
theorem aDX {zs : List Str} {d : Dv} (h : cL zs d = true) : wA d = true := by
 obtain ⟨n, a, b, c, r, s, rfl, _, _, _, _, _, _, hs⟩ := bA h
 cases s with
 | non => rfl
 | int i => rfl
 | _ => cases hs
theorem gF (s : Mt22.St) : wA (bZ s) = true := rfl
open Mt22 MtF
theorem aEF {H : Hp} {d d1 : Addr} {fs : List Dv} {kvs : List (Key × V)} {o : Obj} (h : vO H d1 fs) (hd : H d = some (.dK kvs)) (nr : ∀ v ∈ kvs.map (·.2), ∀ a, v ≠ .ref a) (l1 : 1 ≤ fs.length) (ht : ∀ f ∈ fs, ∃ us, f = .tup us) (hh : uV fs = true) : vO (upd H d (.frz o (.dK kvs))) d1 fs := by
 obtain ⟨kv1, e, k, i⟩ := h
 have nd : d1 ≠ d := fun c => by
  rw [c, hd] at e
  cases e
  cases fs with
  | nil => exact absurd l1 (by decide)
  | cons f fs =>
   obtain ⟨us, rfl⟩ := ht f List.mem_cons_self
   obtain ⟨v, r, ev, ⟨a, w, ea, _⟩, _⟩ := i
   exact nr v (by rw [ev]; exact List.mem_cons_self) a ea
 refine ⟨kv1, by rw [aQ nd]; exact e, k, IsL.keep (fun b xs hb => ?_) fs _ hh i⟩
 rw [aQ (fun c => by rw [c, hd] at hb; cases hb)]
 exact hb
theorem aIY {H : Hp} {x d : Addr} {fs ds : List Dv} {kvs : List (Key × V)} {o : Obj} (L : LandAt C H x fs ds) (hd : H d = some (.dK kvs)) (nr : ∀ v ∈ kvs.map (·.2), ∀ a, v ≠ .ref a) : LandAt C (upd H d (.frz o (.dK kvs))) x fs ds := by
 obtain ⟨gf, gd⟩ := bG L
 obtain ⟨⟨dx, d1, d2, e, t1, t2⟩, a, b⟩ := L
 refine ⟨⟨dx, d1, d2, by rw [aQ (fun c => by rw [c, hd] at e; cases e)]; exact e, aEF t1 hd nr gf.l1 (fun f m => ?_) (eJ fun f m => ?_), aEF t2 hd nr gd.l1 (fun f m => ?_) (eJ fun d m => aDX (gd.all d m))⟩, a, b⟩
 ·obtain ⟨z, g, e, rfl, _⟩ := bS (gf.all f m)
  exact ⟨_, rfl⟩
 ·obtain ⟨z, g, e, rfl, _⟩ := bS (gf.all f m)
  rfl
 ·obtain ⟨n, a, b, c, r, s, rfl, _⟩ := bA (gd.all f m)
  exact ⟨_, rfl⟩
open Mt53 Mt22 MtF Mt31 Mt61
theorem nX {fs ds : List Dv} {L : Int} {zs : List Str} (gd : GoodD zs ds) {g : Gap} (m : g ∈ gapsD fs ds L) : ∃ d ∈ ds, isG fs L d = true ∧ g = gOf L d ∧ aL d = g.nm := by
 obtain ⟨d, md, rfl⟩ := List.mem_map.mp m
 rw [List.mem_filter] at md
 exact ⟨d, md.1, md.2, rfl, (aDS (gd.all d md.1) L).symm⟩
theorem oN (G : List Gap) : (Mt61.stepsOf G).length = 2 * G.length := by
 unfold Mt61.stepsOf
 induction G with
 | nil => rfl
 | cons g G ih =>
  rw [List.flatMap_cons, List.length_append, ih]
  show 2 + 2 * G.length = 2 * (G.length + 1)
  omega
theorem wG {H : Hp} {t : Addr} {s : Mt22.St} (h : H t = some (.tup [.str s.nm, .str s.near, .str s.far, .int s.h])) : Is H (bZ s) (.ref t) := ⟨t, _, rfl, h, _, _, rfl, rfl, _, _, rfl, rfl, _, _, rfl, rfl, _, _, rfl, rfl, rfl⟩
def aAA (C : Addr) : Sp := sp2 fun x y H Q => ∃ (p d : Addr) (fs ds : List Dv) (L : Int), x = .ref p ∧ LandAt C H p fs ds ∧ y = .ref d ∧ H d = some (.dK (cM (gapsD fs ds L))) ∧ ∀ (o : Obj) (l : Addr) (us : List V) (H' : Hp), aK (upd H d (.frz o (.dK (cM (gapsD fs ds L))))) H' → H l = none → H' l = some (.lst us) → IsL H' ((Mt61.stepsOf (gapsD fs ds L)).map bZ) us → Q (.ref l) H'
theorem sP (T : Txt K mg C) : Fc P w K mg base 2 "steps_over" ["land", "names"] (aAA C) := by
 have G_land_p_dyke : Mc P w K mg base 1 C "dyke" ["self", "name"] (oO C) := fH T
 refine T.d_p_steps_over.fc gB gK (fun f cdv A outer s H vs Q E hr h => ?_)
 obtain ⟨x, y, rfl, p, d, fs, ds, lv, rfl, L, rfl, hd, q⟩ := h
 have big := bQ
 have gf := (bG L).1
 have gd := (bG L).2
 have d2 := gd.l2
 have GG := kF gf gd lv
 have gl := iT fs ds lv
 refine ⟨_, (aG (@aT _ _ (2) _ _ _ _ gB.nd rfl (Or.inl rfl) (@dL _ _ _ _ aD) (by rfl) (by trivial)) (aG (@eN _ _ _ _ _ _ _ _ PassesOwn.never rfl (@tG _ _ _ _ (pv 1)) (@aO _ _ (3) _ gB.nd rfl (Or.inl rfl) (by trivial)) (aG (@aT _ _ (4) _ _ _ _ gB.nd rfl (Or.inl rfl) (@aCY _ _ _ _ _ _ _ _ _ _ _ _ _ _ T.cl_Land G_land_p_dyke (hr.mono (by decide)) (pv 0) (aA (pv 3) aD) (by rfl) (by rfl) (by rfl)) (by rfl) (by trivial)) (aG (@eQ _ _ _ _ (@lX _ _ _ _ _ _ _ _ _ _ _ _ PySem.F.plainAttrs_list PySem.F.slot_list_append PySem.F.type_list_append dX (pv 2) (aA (@fF _ _ _ _ _ (aA (pv 3) (aA (@aX _ _ _ _ _ _ _ (@aP _ (K) rfl) (pv 4) aE (fun _ _ => rfl)) (aA (@aX _ _ _ _ _ _ _ (@aP _ (K) rfl) (pv 4) aE (fun _ _ => rfl)) (aA aE aD))))) aD) (by rfl) (by rfl) (by rfl) (by rfl) (by rfl)) (by rfl)) (aH (@eQ _ _ _ _ (@lX _ _ _ _ _ _ _ _ _ _ _ _ PySem.F.plainAttrs_list PySem.F.slot_list_append PySem.F.type_list_append dX (pv 2) (aA (@fF _ _ _ _ _ (aA (pv 3) (aA (@aX _ _ _ _ _ _ _ (@aP _ (K) rfl) (pv 4) aE (fun _ _ => rfl)) (aA (@aX _ _ _ _ _ _ _ (@aP _ (K) rfl) (pv 4) aE (fun _ _ => rfl)) (aA (@aMA _ _ _ _ _ _ aHA aE) aD))))) aD) (by rfl) (by rfl) (by rfl) (by rfl) (by rfl)) (by rfl))))) (by intro _; rfl)) (aH (@aS _ _ _ _ (pv 2))))), ?_⟩
 refine ⟨aY rfl, fun l hl => ?_⟩
 have S1 := aK.upd (o := .lst []) hl
 have nld : d ≠ l := aV hd hl
 refine ⟨_, rfl, d, _, rfl, by rw [aQ nld]; exact hd, fun o => ?_⟩
 have nr : ∀ v ∈ (cM (gapsD fs ds lv)).map (·.2), ∀ a, v ≠ .ref a := fun v m a e => by
  obtain ⟨kv, mk, rfl⟩ := List.mem_map.mp m
  obtain ⟨g, _, rfl⟩ := List.mem_map.mp mk
  cases e
 have L0 : LandAt C (upd H d (.frz o (.dK (cM (gapsD fs ds lv))))) p fs ds := aIY L hd nr
 have hl0 : upd H d (.frz o (.dK (cM (gapsD fs ds lv)))) l = none := by rw [aQ (Ne.symm nld)]; exact hl
 have SS : aK (upd H d (.frz o (.dK (cM (gapsD fs ds lv))))) (upd (upd H l (.lst [])) d (.frz o (.dK (cM (gapsD fs ds lv))))) := fun b u e => by
  by_cases hb : b = d
  ·subst hb
   rw [aF] at e ⊢
   exact e
  ·rw [aQ hb] at e ⊢
   exact S1 _ _ e
 have r1 : upd (upd H l (.lst [])) d (.frz o (.dK (cM (gapsD fs ds lv)))) l = some (.lst []) := by rw [aQ (Ne.symm nld), aF]
 have qq := fun us H' => q o l us H'
 have dF : upd H d (.frz o (.dK (cM (gapsD fs ds lv)))) d = some (.frz o (.dK (cM (gapsD fs ds lv)))) := aF
 generalize upd (upd H l (.lst [])) d (.frz o (.dK (cM (gapsD fs ds lv)))) = H2 at SS r1
 generalize upd H d (.frz o (.dK (cM (gapsD fs ds lv)))) = H0 at L0 hl0 SS qq dF
 refine aJK (fun i σ H' => ∃ (v3 v4 : Option V) (us : List V), σ = [some (.ref p), some (.ref d), some (.ref l), v3, v4] ∧ aK H0 H' ∧ H' l = some (.lst us) ∧ IsL H' ((Mt61.stepsOf ((gapsD fs ds lv).take i)).map bZ) us) ⟨_, _, [], rfl, SS, r1, rfl⟩ (fun i σ H' _ ⟨_, _, _, _, S', _⟩ => S' _ _ dF) ?_ ?_
 ·rintro i kv σ H' hk ⟨v3, v4, us, rfl, S', hl', ius⟩
  unfold cM at hk
  rw [List.getElem?_map] at hk
  obtain ⟨g, eg, ekv⟩ := Option.map_eq_some_iff.mp hk
  have hil := (List.getElem?_eq_some_iff.mp eg).1
  have mg' := List.mem_of_getElem? eg
  obtain ⟨dk, mdk, hg, rfl, en⟩ := nX gd mg'
  have L' := L0.same S'
  obtain ⟨dx, d1, d2', hx, _⟩ := L'.ex
  have lus := ius.length
  rw [List.length_map, oN, List.length_take] at lus
  have et : Mt61.stepsOf ((gapsD fs ds lv).take (i + 1)) = Mt61.stepsOf ((gapsD fs ds lv).take i) ++ [up (gOf lv dk), dn (gOf lv dk)] := by
   unfold Mt61.stepsOf
   rw [List.take_add_one, eg, List.flatMap_append]
   rfl
  obtain ⟨n, a, b, c, r, sl, rfl, _⟩ := bA (gd.all dk mdk)
  have ek : kV kv.1 = V.str n := by rw [← ekv]; rfl
  rw [ek]
  refine ⟨_, rfl, p, dx, _, rfl, hx, cI _ _ (by decide +kernel) (by decide +kernel), _, rfl, _, _, rfl, p, fs, ds, _, rfl, rfl, L', mdk, fun v iv => ?_⟩
  obtain ⟨t, sv, rfl, ot, isv⟩ := gA iv
  refine ⟨_, rfl, .inl ⟨rfl, _, SqL.of hl'⟩, _, rfl, _, rfl, t, _, 1, .str a, rfl, rfl, SqT.of ot, aI (j := 1) rfl, _, rfl, t, _, 2, .str b, rfl, rfl, SqT.of ot, aI (j := 2) rfl, aY rfl, fun ta hta => ?_⟩
  have Sa := aK.upd (o := .tup [.str n, .str a, .str b, .int 1]) hta
  have ra : upd H' ta (.tup [.str n, .str a, .str b, .int 1]) ta = _ := aF
  generalize upd H' ta (.tup [.str n, .str a, .str b, .int 1]) = Ha at Sa ra
  have hla := Sa _ _ hl'
  refine ⟨l, us, .ref ta, rfl, rfl, hla, by omega, ?_⟩
  have KT := hG.lst (o := .lst (us ++ [.ref ta])) hla
  have Sb : aK H0 (upd Ha l (.lst (us ++ [.ref ta]))) := (S'.trans Sa).over hl0
  have rb : upd Ha l (.lst (us ++ [.ref ta])) l = some (.lst (us ++ [.ref ta])) := aF
  have ib : IsL (upd Ha l (.lst (us ++ [.ref ta]))) ((Mt61.stepsOf ((gapsD fs ds lv).take i)).map bZ ++ [bZ (up ⟨n, a, b, r * (lv - c)⟩)]) (us ++ [.ref ta]) := by
   refine IsL.keep KT _ _ (eJ fun d m => ?_) (IsL.snoc (wG ra) (IsL.same Sa _ _ ius))
   rcases List.mem_append.mp m with m | m
   ·obtain ⟨s, _, rfl⟩ := List.mem_map.mp m
    exact gF s
   ·rw [List.mem_singleton.mp m]
    exact gF _
  have ob := KT _ _ (Sa _ _ ot)
  generalize upd Ha l (.lst (us ++ [.ref ta])) = Hb at Sb rb ib ob
  refine ⟨_, rfl, .inl ⟨rfl, _, SqL.of rb⟩, _, rfl, _, rfl, t, _, 2, .str b, rfl, rfl, SqT.of ob, aI (j := 2) rfl, _, rfl, t, _, 1, .str a, rfl, rfl, SqT.of ob, aI (j := 1) rfl, _, rfl, aY rfl, fun tb htb => ?_⟩
  have Sc := aK.upd (o := .tup [.str n, .str b, .str a, .int (-1)]) htb
  have rc : upd Hb tb (.tup [.str n, .str b, .str a, .int (-1)]) tb = _ := aF
  generalize upd Hb tb (.tup [.str n, .str b, .str a, .int (-1)]) = Hc at Sc rc
  have hlc := Sc _ _ rb
  refine ⟨l, us ++ [.ref ta], .ref tb, rfl, rfl, hlc, by rw [List.length_append]; show _ + 1 < _; omega, ?_⟩
  have KT2 := hG.lst (o := .lst (us ++ [.ref ta] ++ [.ref tb])) hlc
  refine ⟨_, _, us ++ [.ref ta] ++ [.ref tb], rfl, (Sb.trans Sc).over hl0, aF, ?_⟩
  rw [et, List.map_append]
  show IsL _ (_ ++ [bZ (up ⟨n, a, b, r * (lv - c)⟩), bZ (dn ⟨n, a, b, r * (lv - c)⟩)]) _
  rw [show ∀ (xs : List Dv) (p q : Dv), xs ++ [p, q] = xs ++ [p] ++ [q] from fun xs p q => by simp]
  refine IsL.keep KT2 _ _ (eJ fun d m => ?_) (IsL.snoc (wG (s := dn ⟨n, a, b, r * (lv - c)⟩) rc) (IsL.same Sc _ _ ib))
  rcases List.mem_append.mp m with m | m
  ·rcases List.mem_append.mp m with m | m
   ·obtain ⟨s, _, rfl⟩ := List.mem_map.mp m
    exact gF s
   ·rw [List.mem_singleton.mp m]
    exact gF _
  ·rw [List.mem_singleton.mp m]
   exact gF _
 ·rintro σ H' ⟨v3, v4, us, rfl, S', hl', ius⟩
  rw [iC, List.take_of_length_le (Nat.le_refl _)] at ius
  exact ⟨_, rfl, qq us H' S' hl hl' ius⟩
open Mt22 MtF Mt31 Mt61
def CV (H : Hp) (o : Option Mt22.St) (v : V) : Prop := match o with
 | none => v = .non
 | some s => Is H (bZ s) v
theorem CV.same {H H' : Hp} (S : aK H H') {o : Option Mt22.St} {v : V} (h : CV H o v) : CV H' o v := by
 cases o with
 | none => exact h
 | some s => exact Is.same S _ _ h
theorem CV.keep {H H' : Hp} (S : hG H H') {o : Option Mt22.St} {v : V} (h : CV H o v) : CV H' o v := by
 cases o with
 | none => exact h
 | some s => exact Is.keep S _ _ (gF s) h
structure CamKV (H : Hp) (kvs : List (Key × V)) (cm : Cm) : Prop where
 len : kvs.length = cm.length
 at' : ∀ (i : Nat) (z : Str) (o : Option Mt22.St), cm[i]? = some (z, o) → ∃ v, kvs[i]? = some (Sum.inr z, v) ∧ CV H o v
theorem CamKV.keys {H : Hp} {kvs : List (Key × V)} {cm : Cm} (h : CamKV H kvs cm) : kvs.map (·.1) = (Mt31.keys cm).map Sum.inr := by
 apply List.ext_getElem?
 intro i
 unfold Mt31.keys
 rw [List.getElem?_map, List.getElem?_map, List.getElem?_map]
 cases e : cm[i]? with
 | none =>
  rw [List.getElem?_eq_none_iff] at e
  rw [List.getElem?_eq_none (by rw [h.len]; exact e)]
  rfl
 | some x =>
  obtain ⟨z, o⟩ := x
  obtain ⟨v, ev, _⟩ := h.at' i z o e
  rw [ev]
  rfl
theorem CamKV.same {H H' : Hp} (S : aK H H') {kvs : List (Key × V)} {cm : Cm} (h : CamKV H kvs cm) : CamKV H' kvs cm :=
 ⟨h.len, fun i z o e => by obtain ⟨v, e1, c⟩ := h.at' i z o e; exact ⟨v, e1, c.same S⟩⟩
theorem CamKV.keep {H H' : Hp} (S : hG H H') {kvs : List (Key × V)} {cm : Cm} (h : CamKV H kvs cm) : CamKV H' kvs cm :=
 ⟨h.len, fun i z o e => by obtain ⟨v, e1, c⟩ := h.at' i z o e; exact ⟨v, e1, c.keep S⟩⟩
theorem zT {κ : Type} [DecidableEq κ] : ∀ {kvs : List (κ × V)} {i : Nat} {k : κ} {v : V}, (kvs.map (·.1)).Nodup → kvs[i]? = some (k, v) → eT kvs k = some v
 | p :: r, 0, k, v, nd, e => by cases e; exact mL rfl
 | p :: r, i + 1, k, v, nd, e => by
  rw [List.map_cons, List.nodup_cons] at nd
  have e' : r[i]? = some (k, v) := e
  rw [mN (fun c => nd.1 (by rw [c]; exact List.mem_map.mpr ⟨_, List.mem_of_getElem? e', rfl⟩))]
  exact zT nd.2 e'
theorem aDI {zs : List Str} (h : zs.Nodup) : (zs.map (Sum.inr : Str → Key)).Nodup := (gI zs).mpr h
theorem CamKV.val {H : Hp} {S : List Mt22.St} {kvs : List (Key × V)} {cm : Cm} (h : CamKV H kvs cm) (c : Came S cm) {i : Nat} {z : Str} {o : Option Mt22.St} (e : cm[i]? = some (z, o)) : ∃ v, eT kvs (Sum.inr z) = some v ∧ CV H o v := by
 obtain ⟨v, ev, cv⟩ := h.at' i z o e
 exact ⟨v, zT (by rw [h.keys]; exact aDI c.nd) ev, cv⟩
theorem CamKV.none {H : Hp} {kvs : List (Key × V)} {cm : Cm} (h : CamKV H kvs cm) {z : Str} (n : ¬ z ∈ Mt31.keys cm) : eT kvs (Sum.inr z) = none := by
 cases e : eT kvs (Sum.inr z) with
 | none => rfl
 | some v =>
  have := aKB e
  rw [h.keys] at this
  obtain ⟨y, my, ey⟩ := List.mem_map.mp this
  cases ey
  exact absurd my n
theorem CamKV.some {H : Hp} {kvs : List (Key × V)} {cm : Cm} (h : CamKV H kvs cm) {z : Str} (n : z ∈ Mt31.keys cm) : (eT kvs (Sum.inr z)).isSome = true := by
 cases e : eT kvs (Sum.inr z) with
 | some v => rfl
 | none =>
  have := aGZ e
  rw [h.keys] at this
  exact absurd (List.mem_map.mpr ⟨z, n, rfl⟩) this
theorem aQG (x : V) (r : List V) : seqIndex? 0 (x :: r).length = some 0 := by
 rw [List.length_cons]
 unfold seqIndex?
 simp
 try omega
theorem kL {H : Hp} {s : Mt22.St} {v : V} (h : Is H (bZ s) v) : ∃ t, v = .ref t ∧ H t = some (.tup [.str s.nm, .str s.near, .str s.far, .int s.h]) := by
 obtain ⟨t, us, rfl, o, v0, r0, rfl, i0, v1, r1, rfl, i1, v2, r2, rfl, i2, v3, r3, rfl, i3, h0⟩ := h
 cases (show r3 = [] from h0)
 cases (show v0 = _ from i0)
 cases (show v1 = _ from i1)
 cases (show v2 = _ from i2)
 cases (show v3 = _ from i3)
 exact ⟨t, rfl, o⟩
theorem oX (a b : Str) : decide (V.str a = V.str b) = decide (a = b) := by
 by_cases h : a = b
 ·subst h; simp
 ·rw [decide_eq_false h, decide_eq_false (fun c => h (by cases c; rfl))]
def qL : Sp := sp2 fun x y H Q => ∃ (ls lt : Addr) (us : List V) (S : List Mt22.St) (zs V0 : List Str), x = .ref ls ∧ y = .ref lt ∧ zs.Nodup ∧ (∀ z ∈ zs, z ∈ V0) ∧ H ls = some (.lst (zs.map V.str)) ∧ H lt = some (.lst us) ∧ IsL H (S.map bZ) us ∧ S.length ≤ 80 ∧ V0.length ≤ 13 ∧ (∀ s ∈ S, s.far ∈ V0) ∧
 ∀ (d : Addr) (cm : Cm) (kvs : List (Key × V)) (H' : Hp), aK H H' → H d = none → H' d = some (.dK kvs) → CamKV H' kvs cm → CameG zs S cm → sT S cm cm.length → cm.length ≤ 13 → Q (.ref d) H'
theorem rX (T : Txt K mg C) : Fc P w K mg base 1 "spread" ["starts", "steps"] qL := by
 refine T.d_p_spread.fc iJ gK (fun f cdv A outer s H vs Q E hr h => ?_)
 obtain ⟨x, y, rfl, ls, lt, us, S, zs, V0, rfl, rfl, ndz, sV, hls, hlt, ius, lS, lV, farV, q⟩ := h
 have lz : zs.length ≤ 13 := by have := kK ndz sV; omega
 have big := bQ
 have hu := gZ hr
 have lus := ius.length
 rw [List.length_map] at lus
 have lcm : ∀ cm : Cm, CameG zs S cm → (∀ z ∈ keys cm, z ∈ V0) → cm.length ≤ 13 := fun cm c sub => by
  have := kK c.nd sub
  unfold keys at this
  rw [List.length_map] at this
  omega
 refine ⟨_, (aG (@aT _ _ (2) _ _ _ _ iJ.nd rfl (Or.inl rfl) (@cT _ _ _ _ _ _ _ _ _ (@dB _ rfl) rfl T.n_dict gE (aA (@bV _ _ _ _ _ _ _ _ _ _ _ ["side"] 1 [] rfl (@bF _ _ _ _ (pv 0)) (fun R => @aO _ _ (0) _ (show List.Nodup (["side"] : List Str) by decide +kernel) rfl (Or.inl rfl) (by trivial)) (@aW _ _ (by decide)) (fun R => cC) (fun R => (@fF _ _ _ _ _ (aA (pv 0) (aA eO aD)))) (by rfl) (by rfl) (by rfl) (by rfl) (by rfl) (by rfl) (by rfl) (by intro _; rfl)) aD) (by decide) (by decide) (by rfl) (by rfl)) (by rfl) (by trivial)) (aG (@aT _ _ (3) _ _ _ _ iJ.nd rfl (Or.inl rfl) (@cT _ _ _ _ _ _ _ _ _ (@pJ _ (K) rfl) rfl T.n_list dI (aA (pv 0) aD) (by decide) (by decide) (by rfl) (by rfl)) (by rfl) (by trivial)) (aG (@pZ _ _ _ _ _ _ PassesOwn.never (aCW (pv 3)) (aG (@aT _ _ (4) _ _ _ _ iJ.nd rfl (Or.inl rfl) (@lX _ _ _ _ _ _ _ _ _ _ _ _ PySem.F.plainAttrs_list PySem.F.slot_list_pop PySem.F.type_list_pop aIR (pv 3) (aA aE aD) (by rfl) (by rfl) (by rfl) (by rfl) (by rfl)) (by rfl) (by trivial)) (aH (@eN _ _ _ _ _ _ _ _ PassesOwn.never rfl (@bF _ _ _ _ (pv 1)) (@aO _ _ (5) _ iJ.nd rfl (Or.inl rfl) (by trivial)) (aH (@cW _ _ _ _ _ _ _ _ (@PW.pt _ _ _ (@pN _ _ _ _ _ _ _ (@bE _ _ _ _ _ _ _ _ nK (@aX _ _ _ _ _ _ _ (@aP _ (K) rfl) (pv 5) aE (fun _ _ => rfl)) (pv 4) (@bI _ _ (by decide) (by decide))) (@oT _ _ _ _ (@yL _ _ _ _ _ _ (@wP _ _ _ _ _ hu (@aX _ _ _ _ _ _ _ (@aP _ (K) rfl) (pv 5) aE (fun _ _ => rfl)) (pv 2)) (by first | exact nobehind _ (by decide) (by decide) | rfl))))) (aG (@tE _ _ _ _ _ _ _ _ _ hu (pv 2) (@aX _ _ _ _ _ _ _ (@aP _ (K) rfl) (pv 5) aE (fun _ _ => rfl)) (pv 5) rfl) (aH (@eQ _ _ _ _ (@lX _ _ _ _ _ _ _ _ _ _ _ _ PySem.F.plainAttrs_list PySem.F.slot_list_append PySem.F.type_list_append dX (pv 3) (aA (@aX _ _ _ _ _ _ _ (@aP _ (K) rfl) (pv 5) aE (fun _ _ => rfl)) aD) (by rfl) (by rfl) (by rfl) (by rfl) (by rfl)) (by rfl)))) bP)) (by intro _; rfl))))) (aH (@aS _ _ _ _ (pv 2)))))), ?_⟩
 refine ⟨_, rfl, ls, rfl, ⟨_, SqL.of hls⟩, ?_⟩
 refine bD (F := K) (xs := zs.map V.str) (by rw [List.length_map]; omega) (fun i ys H' => aK H H' ∧ bT H' ys ((zs.take i).map fun z => ((Sum.inr z, .non) : Key × V))) ⟨aK.refl _, bT.nil _⟩ ?_ ?_ ?_
 ·rintro i ys H' hi' ⟨S', pa⟩
  have := pa.len
  rw [List.length_map, List.length_take] at this
  exact ⟨SqL.of (S' _ _ hls), by omega⟩
 ·rintro i xv ys H' K1 K2 hx' ⟨S', pa⟩ k1 k2
  rw [List.getElem?_map] at hx'
  obtain ⟨z, ez, rfl⟩ := Option.map_eq_some_iff.mp hx'
  refine ⟨_, rfl, aY rfl, fun p3 hp3 => k1 _ _ ⟨S'.trans (aK.upd hp3), ?_⟩⟩
  rw [List.take_add_one, ez, List.map_append]
  exact bT.snoc (k := Sum.inr z) pa hp3
 rintro ys H1 ⟨S1, pa⟩
 rw [List.length_map, List.take_of_length_le (Nat.le_refl _)] at pa
 intro p4 hp4
 have S2 := aK.upd (o := .lst ys) hp4
 have kz : (zs.map fun z => ((Sum.inr z, .non) : Key × V)).map (·.1) = zs.map Sum.inr := by rw [List.map_map]; rfl
 refine ⟨p4, ys, zs.map fun z => ((Sum.inr z, .non) : Key × V), rfl, SqL.of aF, pa.same S2, by rw [List.length_map]; omega, by rw [kz]; exact (gI zs).mpr ndz, fun d hd => ?_⟩
 have S3 := aK.upd (o := .dK (zs.map fun z => ((Sum.inr z, .non) : Key × V))) hd
 have T3 := S1.trans (S2.trans S3)
 have hd0 := (S1.trans S2).free hd
 refine ⟨_, rfl, ls, _, rfl, .inl (SqL.of (T3 _ _ hls)), fun lw hlw => ?_⟩
 have S4 := aK.upd (o := .lst (zs.map V.str)) hlw
 have T4 := T3.trans S4
 have hd4 : upd (upd (upd H1 p4 (.lst ys)) d (.dK (zs.map fun z => ((Sum.inr z, .non) : Key × V)))) lw (.lst (zs.map V.str)) d = some (.dK (zs.map fun z => ((Sum.inr z, .non) : Key × V))) := S4 _ _ aF
 have hw4 : upd (upd (upd H1 p4 (.lst ys)) d (.dK (zs.map fun z => ((Sum.inr z, .non) : Key × V)))) lw (.lst (zs.map V.str)) lw = some (.lst (zs.map V.str)) := aF
 have hlw0 := T3.free hlw
 have ndw : d ≠ lw := aV (show upd (upd H1 p4 (.lst ys)) d (.dK (zs.map fun z => ((Sum.inr z, .non) : Key × V))) d = some _ from aF) hlw
 generalize upd (upd (upd H1 p4 (.lst ys)) d (.dK (zs.map fun z => ((Sum.inr z, .non) : Key × V)))) lw (.lst (zs.map V.str)) = H4 at T4 hd4 hw4
 have c0 : CameG zs S (zs.map fun z => (z, none)) := CameG.init S ndz
 have k00 : keys (zs.map fun z => ((z, none) : Str × Option Mt22.St)) = zs := by unfold keys; rw [List.map_map]; exact List.map_id _
 have k0 : CamKV H4 (zs.map fun z => ((Sum.inr z, .non) : Key × V)) (zs.map fun z => (z, none)) := ⟨by rw [List.length_map, List.length_map], fun i z o e => by
  rw [List.getElem?_map] at e
  obtain ⟨z', ez, e'⟩ := Option.map_eq_some_iff.mp e
  cases e'
  exact ⟨.non, by rw [List.getElem?_map, ez]; rfl, rfl⟩⟩
 refine pS (fun σ H' => ∃ (v4 v5 : Option V) (p : Nat) (cm : Cm) (kvs : List (Key × V)), σ = [some (.ref ls), some (.ref lt), some (.ref d), some (.ref lw), v4, v5] ∧ aK H H' ∧ H' d = some (.dK kvs) ∧ CamKV H' kvs cm ∧ CameG zs S cm ∧ (∀ z ∈ keys cm, z ∈ V0) ∧ p ≤ cm.length ∧ H' lw = some (.lst (((keys cm).drop p).map V.str)) ∧ sT S cm p)
  (fun _ H' => match H' d, H' lw with | some (.dK kvs), some (.lst ws) => 14 - (kvs.length - ws.length) | _, _ => 0) ⟨_, _, 0, zs.map fun z => (z, none), _, rfl, T4, hd4, k0, c0, (fun z m => by rw [k00] at m; exact sV z m), Nat.zero_le _, by rw [k00, List.drop_zero]; exact hw4, (fun i u hi => absurd hi (by omega))⟩ ?_ ?_
 ·rintro σ H5 ⟨v4, v5, p, cm, kvs, rfl, S5, hd5, ck, c, sub, hp, hw5, op⟩
  have l13 := lcm cm c sub
  refine ⟨_, rfl, lw, _, rfl, SqL.of hw5, ?_⟩
  have kl : (keys cm).length = cm.length := by unfold keys; rw [List.length_map]
  by_cases hpl : p < cm.length
  ·obtain ⟨u, eu⟩ : ∃ u, (keys cm)[p]? = some u := ⟨_, List.getElem?_eq_getElem (by omega)⟩
   have ed : (keys cm).drop p = u :: (keys cm).drop (p + 1) := by
    obtain ⟨h1, h2⟩ := List.getElem?_eq_some_iff.mp eu
    rw [← h2]
    exact (List.getElem_cons_drop h1).symm
   rw [ed] at hw5 ⊢
   refine dO ?_
   refine ⟨_, rfl, .inl ⟨rfl, _, SqL.of hw5⟩, lw, _, 0, 0, .str u, rfl, rfl, hw5, by decide, by decide, aQG _ _, rfl, ?_⟩
   have hw6 : upd H5 lw (.lst (((u :: (keys cm).drop (p + 1)).map V.str).eraseIdx 0)) lw = some (.lst (((keys cm).drop (p + 1)).map V.str)) := aF
   have hd6 : upd H5 lw (.lst (((u :: (keys cm).drop (p + 1)).map V.str).eraseIdx 0)) d = some (.dK kvs) := by rw [aQ ndw]; exact hd5
   have ck6 := ck.keep (hG.lst (o := .lst (((u :: (keys cm).drop (p + 1)).map V.str).eraseIdx 0)) hw5)
   have S6 : aK H (upd H5 lw (.lst (((u :: (keys cm).drop (p + 1)).map V.str).eraseIdx 0))) := S5.over hlw0
   generalize upd H5 lw (.lst (((u :: (keys cm).drop (p + 1)).map V.str).eraseIdx 0)) = H6 at hw6 hd6 ck6 S6
   refine ⟨_, rfl, lt, rfl, ⟨_, SqL.of (S6 _ _ hlt)⟩, eL (K := K) (a := lt) (xs := us)
    (fun j σ H' => ∃ (v5 : Option V) (more : Cm) (kvs : List (Key × V)), σ = [some (.ref ls), some (.ref lt), some (.ref d), some (.ref lw), some (.str u), v5] ∧ aK H H' ∧ H' d = some (.dK kvs) ∧ CamKV H' kvs (cm ++ more) ∧ CameG zs S (cm ++ more) ∧ (∀ z ∈ keys (cm ++ more), z ∈ V0) ∧ H' lw = some (.lst (((keys (cm ++ more)).drop (p + 1)).map V.str)) ∧ sT S (cm ++ more) p ∧ ∀ s ∈ S.take j, s.near = u → s.far ∈ keys (cm ++ more))
    ⟨_, [], kvs, rfl, S6, hd6, by rw [List.append_nil]; exact ck6, by rw [List.append_nil]; exact c, by rw [List.append_nil]; exact sub, by rw [List.append_nil]; exact hw6, by rw [List.append_nil]; exact op, (fun s m => by cases m)⟩ (fun j σ H' _ ⟨_, _, _, _, S', _⟩ => SqL.of (S' _ _ hlt)) ?_ ?_⟩
   ·rintro j xv σ H7 hj ⟨w5, more, kvs7, rfl, S7, hd7, ck7, c7, sub7, hw7, op7, cl7⟩
    have hjl : j < us.length := (List.getElem?_eq_some_iff.mp hj).1
    obtain ⟨st, es⟩ : ∃ st, S[j]? = some st := ⟨_, List.getElem?_eq_getElem (by omega)⟩
    obtain ⟨v, ev, iv⟩ := ius.get (show (S.map bZ)[j]? = some (bZ st) by rw [List.getElem?_map, es]; rfl)
    rw [hj] at ev
    cases ev
    have ms := List.mem_of_getElem? es
    obtain ⟨t, rfl, o⟩ := kL iv
    have o7 := S7 _ _ o
    have et : S.take (j + 1) = S.take j ++ [st] := by rw [List.take_add_one, es]; rfl
    have l7 := lcm _ c7 sub7
    have kl7 : (keys (cm ++ more)).length = (cm ++ more).length := by unfold keys; rw [List.length_map]
    have lw7 : (((keys (cm ++ more)).drop (p + 1)).map V.str).length ≤ 13 := by rw [List.length_map, List.length_drop]; omega
    have uk : u ∈ keys (cm ++ more) := by rw [kZ]; exact List.mem_append_left _ (List.mem_of_getElem? eu)
    refine ⟨_, rfl, t, _, 1, .str st.near, rfl, rfl, SqT.of o7, aI (j := 1) rfl, _, rfl, rfl, _, rfl, ?_⟩
    rw [oX]
    refine gW (fun c1 => ?_) (fun c1 => ?_)
    ·have e1 : st.near = u := of_decide_eq_true c1
     refine ⟨_, rfl, t, _, 2, .str st.far, rfl, rfl, SqT.of o7, aI (j := 2) rfl, _, rfl, d, _, rfl, .inl ⟨kvs7, Sum.inr st.far, .inl hd7, rfl, rfl⟩, _, rfl, ?_⟩
     by_cases hk : st.far ∈ keys (cm ++ more)
     ·rw [ck7.some hk]
      refine bM ⟨_, more, kvs7, rfl, S7, hd7, ck7, c7, sub7, hw7, op7, fun s m en => ?_⟩
      rw [et] at m
      rcases List.mem_append.mp m with m | m
      ·exact cl7 s m en
      ·rw [List.mem_singleton.mp m]; exact hk
     ·have hno := ck7.none hk
      rw [hno]
      refine dO ?_
      have lkv : kvs7.length < sizeLine := by rw [ck7.len]; omega
      refine ⟨_, rfl, _, rfl, _, rfl, t, _, 2, .str st.far, rfl, rfl, SqT.of o7, aI (j := 2) rfl, d, _, rfl, .inl ⟨kvs7, Sum.inr st.far, hd7, rfl, lkv, rfl⟩, ?_⟩
      rw [aIE _ hno]
      have KT1 : hG H7 (upd H7 d (.dK (kvs7 ++ [(Sum.inr st.far, .ref t)]))) := fun b ys e => by
       rw [aQ (fun eb => by rw [eb, hd7] at e; cases e)]
       exact e
      have hw8 : upd H7 d (.dK (kvs7 ++ [(Sum.inr st.far, .ref t)])) lw = some (.lst (((keys (cm ++ more)).drop (p + 1)).map V.str)) := by rw [aQ (Ne.symm ndw)]; exact hw7
      have o8 : upd H7 d (.dK (kvs7 ++ [(Sum.inr st.far, .ref t)])) t = some (.tup [.str st.nm, .str st.near, .str st.far, .int st.h]) := KT1 _ _ o7
      have hd8 : upd H7 d (.dK (kvs7 ++ [(Sum.inr st.far, .ref t)])) d = some (.dK (kvs7 ++ [(Sum.inr st.far, .ref t)])) := aF
      have S8 : aK H (upd H7 d (.dK (kvs7 ++ [(Sum.inr st.far, .ref t)]))) := S7.over hd0
      have ck8 := ck7.keep KT1
      generalize upd H7 d (.dK (kvs7 ++ [(Sum.inr st.far, .ref t)])) = H8 at hw8 o8 hd8 S8 ck8
      refine ⟨_, rfl, .inl ⟨rfl, _, SqL.of hw8⟩, _, rfl, t, _, 2, .str st.far, rfl, rfl, SqT.of o8, aI (j := 2) rfl, lw, _, .str st.far, rfl, rfl, hw8, by omega, ?_⟩
      have KT2 := hG.lst (o := .lst (((keys (cm ++ more)).drop (p + 1)).map V.str ++ [.str st.far])) hw8
      have c9 := c7.snoc ms (by rw [e1]; exact uk) hk
      rw [List.append_assoc] at c9
      have kk : keys (cm ++ (more ++ [(st.far, some st)])) = keys (cm ++ more) ++ [st.far] := by rw [← List.append_assoc, kZ]; rfl
      refine ⟨_, more ++ [(st.far, some st)], kvs7 ++ [(Sum.inr st.far, .ref t)], rfl, S8.over hlw0, by rw [aQ ndw]; exact hd8, ?_, c9, ?_, ?_, ?_, ?_⟩
      ·rw [← List.append_assoc]
       have ck9 := ck8.keep KT2
       refine ⟨by rw [List.length_append, List.length_append, ck9.len]; rfl, fun i z o' e => ?_⟩
       by_cases hi : i < (cm ++ more).length
       ·rw [List.getElem?_append_left hi] at e
        obtain ⟨v, ev, cv⟩ := ck9.at' i z o' e
        exact ⟨v, by rw [List.getElem?_append_left (by rw [ck9.len]; exact hi)]; exact ev, cv⟩
       ·have hle := (List.getElem?_eq_some_iff.mp e).1
        rw [List.length_append] at hle
        have h1' : ([(st.far, some st)] : Cm).length = 1 := rfl
        have hie : i = (cm ++ more).length := by omega
        subst hie
        rw [List.getElem?_append_right (Nat.le_refl _), Nat.sub_self] at e
        cases e
        refine ⟨.ref t, by rw [List.getElem?_append_right (by rw [ck9.len]; exact Nat.le_refl _), ck9.len, Nat.sub_self]; rfl, ?_⟩
        exact ⟨t, _, rfl, KT2 _ _ o8, _, _, rfl, rfl, _, _, rfl, rfl, _, _, rfl, rfl, _, _, rfl, rfl, rfl⟩
      ·intro z m
       rw [kk] at m
       rcases List.mem_append.mp m with m | m
       ·exact sub7 z m
       ·rw [List.mem_singleton.mp m]; exact farV st ms
      ·rw [aF, kk, List.drop_append_of_le_length (by rw [kl7, List.length_append]; omega), List.map_append]
       rfl
      ·rw [← List.append_assoc]
       exact op7.snoc (by rw [List.length_append]; omega) _
      ·intro s m en
       rw [kk]
       rw [et] at m
       rcases List.mem_append.mp m with m | m
       ·exact List.mem_append_left _ (cl7 s m en)
       ·rw [List.mem_singleton.mp m]; exact List.mem_append_right _ (List.mem_singleton.mpr rfl)
    ·refine ⟨_, more, kvs7, rfl, S7, hd7, ck7, c7, sub7, hw7, op7, fun s m en => ?_⟩
     rw [et] at m
     rcases List.mem_append.mp m with m | m
     ·exact cl7 s m en
     ·rw [List.mem_singleton.mp m] at en
      exact absurd (decide_eq_true en) c1
   ·rintro σ H7 ⟨w5, more, kvs7, rfl, S7, hd7, ck7, c7, sub7, hw7, op7, cl7⟩
    rw [List.take_of_length_le (by omega)] at cl7
    have l7 := lcm _ c7 sub7
    have kl7 : (keys (cm ++ more)).length = (cm ++ more).length := by unfold keys; rw [List.length_map]
    have ca : (cm ++ more).length = cm.length + more.length := List.length_append
    refine ⟨⟨_, _, p + 1, cm ++ more, kvs7, rfl, S7, hd7, ck7, c7, sub7, by omega, hw7, fun i u' hi e s ms en => ?_⟩, ?_⟩
    ·by_cases hip : i < p
     ·exact op7 i u' hip e s ms en
     ·have hie : i = p := by omega
      subst hie
      rw [kZ, List.getElem?_append_left (by omega), eu] at e
      cases e
      exact cl7 s ms en
    ·rw [hd7, hw7, hd5, hw5]
     dsimp only
     rw [ck7.len, ck.len, List.length_map, List.length_map, List.length_drop, List.length_cons, List.length_drop]
     omega
  ·have hpe : p = cm.length := by omega
   subst hpe
   rw [show (keys cm).drop cm.length = [] from List.drop_eq_nil_of_le (by omega)]
   refine bM ⟨_, rfl, q d cm kvs H5 S5 hd0 hd5 ck c op l13⟩
 ·intro σ H Q Q' h hc
  obtain ⟨v, e, p, xs, e2, hq, q⟩ := hc
  exact ⟨v, e, p, xs, e2, hq, h _ _ q⟩
open Mt53 Mt22 MtF Mt31 Mt61
theorem sC {f : Gap → V} : ∀ {G : List Gap} {g : Gap}, (G.map (·.nm)).Nodup → g ∈ G → eT (G.map fun g => ((Sum.inr g.nm : Key), f g)) (Sum.inr g.nm) = some (f g)
 | e :: G, g, nd, m => by
  rw [List.map_cons] at nd ⊢
  rw [List.nodup_cons] at nd
  rcases List.mem_cons.mp m with rfl | m
  ·exact mL rfl
  ·rw [mN (fun c => nd.1 (by rw [Sum.inr.inj c]; exact List.mem_map.mpr ⟨g, m, rfl⟩))]
   exact sC nd.2 m
def bW (G : List Gap) (f : Fl) : List (Key × V) := G.map fun g => (Sum.inr g.nm, V.int (f g.nm))
theorem pY {H H' : Hp} {a : Addr} {u : HO} (r : Rd H a u) (S : aK H H') : Rd H' a u := by
 rcases r with h | ⟨o, h⟩
 ·exact .inl (S _ _ h)
 ·exact .inr ⟨o, S _ _ h⟩
theorem mQ {G : List Gap} {s : Mt22.St} (m : s ∈ Mt61.stepsOf G) : ∃ g ∈ G, g.nm = s.nm ∧ (s.h = 1 ∨ s.h = -1) := by
 obtain ⟨g, mg, e⟩ := mem_steps.mp m
 rcases e with rfl | rfl
 ·exact ⟨g, mg, rfl, .inl rfl⟩
 ·exact ⟨g, mg, rfl, .inr rfl⟩
def aCG : Sp := sp3 fun x y u H Q => ∃ (dm de : Addr) (V0 : List Str) (G : List Gap) (f : Fl) (s : Mt22.St), Is H (bZ s) x ∧ s ∈ Mt61.stepsOf G ∧ Gaps V0 G ∧ y = .ref dm ∧ Rd H dm (.dK (cM G)) ∧ u = .ref de ∧ Rd H de (.dK (bW G f)) ∧ Q (.int (Mt61.room G f s)) H
theorem wQ (T : Txt K mg C) : Fc P w K mg base 1 "room" ["step", "most", "stream"] aCG := by
 refine T.d_p_room.fc aFV rA (fun f cdv A outer s H vs Q E hr h => ?_)
 obtain ⟨x, y, u, rfl, dm, de, V0, G, fl, st, hx, ms, GG, rfl, hm, rfl, he, q⟩ := h
 have hu := gZ hr
 obtain ⟨t, rfl, o⟩ := kL hx
 obtain ⟨g, mg', en, hh⟩ := mQ ms
 have v1 : eT (cM G) (Sum.inr st.nm) = some (.int g.cap) := by rw [← en]; exact sC (f := fun g => V.int g.cap) GG.nd mg'
 have v2 : eT (bW G fl) (Sum.inr st.nm) = some (.int (fl st.nm)) := by rw [← en]; exact sC (f := fun g => V.int (fl g.nm)) GG.nd mg'
 refine ⟨_, (aH (@aS _ _ _ _ (@aJ _ _ _ _ _ _ _ _ dU (@dN _ _ _ _ _ _ hu (pv 1) (@aX _ _ _ _ _ _ _ (@aP _ (K) rfl) (pv 0) aE (fun _ _ => rfl)) (fun _ _ => rfl)) (@aJ _ _ _ _ _ _ _ _ lO (@aX _ _ _ _ _ _ _ (@aP _ (K) rfl) (pv 0) aE (fun _ _ => rfl)) (@dN _ _ _ _ _ _ hu (pv 2) (@aX _ _ _ _ _ _ _ (@aP _ (K) rfl) (pv 0) aE (fun _ _ => rfl)) (fun _ _ => rfl)))))), ?_⟩
 refine ⟨_, rfl, _, rfl, t, _, 0, .str st.nm, rfl, rfl, SqT.of o, aI (j := 0) rfl, dm, _, rfl, .inl ⟨_, Sum.inr st.nm, hm, rfl, v1.symm⟩, ?_⟩
 refine ⟨_, rfl, t, _, 3, .int st.h, rfl, rfl, SqT.of o, aI (j := 3) rfl, _, rfl, _, rfl, t, _, 0, .str st.nm, rfl, rfl, SqT.of o, aI (j := 0) rfl, de, _, rfl, .inl ⟨_, Sum.inr st.nm, he, rfl, v2.symm⟩, ?_⟩
 refine ⟨_, _, rfl, rfl, .inl (by rcases hh with h | h <;> rw [h] <;> exact ⟨by decide, by decide⟩), _, _, rfl, rfl, ?_⟩
 have e : Mt61.room G fl st = g.cap - st.h * fl st.nm := by
  unfold Mt61.room
  rw [← en, lF GG mg']
 rw [e] at q
 exact q
def flow (G : List Gap) (f : Fl) : List Mt22.St := (Mt61.stepsOf G).filter fun s => decide (0 < Mt61.room G f s)
theorem aFG {V0 : List Str} {G : List Gap} (GG : Gaps V0 G) {s : Mt22.St} (m : s ∈ Mt61.stepsOf G) : s.near ∈ V0 ∧ s.far ∈ V0 := by
 obtain ⟨g, mg, e⟩ := mem_steps.mp m
 obtain ⟨ha, hb, _⟩ := GG.ends g mg
 rcases e with rfl | rfl
 ·exact ⟨ha, hb⟩
 ·exact ⟨hb, ha⟩
def qM : Sp := sp3 fun x y u H Q => ∃ (l dm de : Addr) (us : List V) (V0 : List Str) (G : List Gap) (f : Fl), x = .ref l ∧ H l = some (.lst us) ∧ IsL H ((Mt61.stepsOf G).map bZ) us ∧ G.length ≤ 40 ∧ V0.length ≤ 13 ∧ Gaps V0 G ∧ y = .ref dm ∧ Rd H dm (.dK (cM G)) ∧ u = .ref de ∧ Rd H de (.dK (bW G f)) ∧
 ∀ (d : Addr) (cm : Cm) (kvs : List (Key × V)) (H' : Hp), aK H H' → H d = none → H' d = some (.dK kvs) → CamKV H' kvs cm → CameG [Mt22.sea] (flow G f) cm → sT (flow G f) cm cm.length → cm.length ≤ 13 → Q (.ref d) H'
theorem qE (T : Txt K mg C) : Fc P w K mg base 2 "reached" ["steps", "most", "stream"] qM := by
 have G_p_room : Fc P w K mg base 1 "room" ["step", "most", "stream"] aCG := wQ T
 have G_p_spread : Fc P w K mg base 1 "spread" ["starts", "steps"] qL := rX T
 refine T.d_p_reached.fc yE rA (fun f cdv A outer s H vs Q E hr h => ?_)
 obtain ⟨x, y, u, rfl, l, dm, de, us, V0, G, fl, rfl, hl, ius, g40, v13, GG, rfl, hm, rfl, he, q⟩ := h
 have big := bQ
 have lus := ius.length
 have sl := oN G
 rw [List.length_map, sl] at lus
 refine ⟨_, (aH (@aS _ _ _ _ (@bL _ _ _ _ _ _ _ _ _ _ G_p_spread (hr.mono (by decide)) (aA (@dL _ _ _ _ (aA (@sN _ _ _ _ T.g_SEA (by rfl) (by decide)) aD)) (aA (@bV _ _ _ _ _ _ _ _ _ _ _ ["step", "most", "stream"] 1 [1, 2] rfl (@bF _ _ _ _ (pv 0)) (fun R => @aO _ _ (0) _ (show List.Nodup (["step", "most", "stream"] : List Str) by decide +kernel) rfl (Or.inl rfl) (by trivial)) (@aW _ _ (by decide)) (fun R => @eI _ _ _ (@bE _ _ _ _ _ _ _ _ aIO (@bL _ _ _ _ _ _ _ _ _ _ G_p_room (hr.mono (by decide)) (aA (pv 0) (aA (pv 1) (aA (pv 2) aD))) (by rfl) (by decide) (by rfl) (by rfl)) aE (@bI _ _ (by decide) (by decide)))) (fun R => (pv 0)) (by rfl) (by rfl) (by rfl) (by rfl) (by rfl) (by rfl) (by rfl) (by intro _; rfl)) aD)) (by rfl) (by decide) (by rfl) (by rfl)))), ?_⟩
 refine ⟨aY rfl, fun l1 h1 => ?_⟩
 have S1 := aK.upd (o := .lst [.str "sea"]) h1
 have r1 : upd H l1 (.lst [.str "sea"]) l1 = some (.lst (([Mt22.sea] : List Str).map V.str)) := aF
 generalize upd H l1 (.lst [.str "sea"]) = H1 at S1 r1
 refine ⟨_, rfl, l, rfl, ⟨_, SqL.of (S1 _ _ hl)⟩, ?_⟩
 refine bD (F := K) (xs := us) (by omega) (fun i ys H' => H1 = H' ∧ IsL H' ((((Mt61.stepsOf G).take i).filter fun s => decide (0 < Mt61.room G fl s)).map bZ) ys) ⟨rfl, rfl⟩ ?_ ?_ ?_
 ·rintro i ys H' hi ⟨rfl, iy⟩
  refine ⟨SqL.of (S1 _ _ hl), ?_⟩
  have := iy.length
  have := List.length_filter_le (fun s => decide (0 < Mt61.room G fl s)) ((Mt61.stepsOf G).take i)
  rw [List.length_take] at this
  rw [List.length_map] at *
  omega
 ·rintro i xv ys H' K1 K2 hx' ⟨rfl, iy⟩ k1 k2
  have hil : i < us.length := (List.getElem?_eq_some_iff.mp hx').1
  obtain ⟨st, es⟩ : ∃ st, (Mt61.stepsOf G)[i]? = some st := ⟨_, List.getElem?_eq_getElem (by omega)⟩
  obtain ⟨v, ev, iv⟩ := (IsL.same S1 _ _ ius).get (show ((Mt61.stepsOf G).map bZ)[i]? = some (bZ st) by rw [List.getElem?_map, es]; rfl)
  rw [hx'] at ev
  cases ev
  refine ⟨_, rfl, _, rfl, _, rfl, _, _, _, rfl, dm, de, V0, G, fl, st, iv, List.mem_of_getElem? es, GG, rfl, pY hm S1, rfl, pY he S1, _, _, rfl, rfl, _, rfl, ?_⟩
  have et : ((Mt61.stepsOf G).take (i + 1)).filter (fun s => decide (0 < Mt61.room G fl s)) = ((Mt61.stepsOf G).take i).filter (fun s => decide (0 < Mt61.room G fl s)) ++ (if decide (0 < Mt61.room G fl st) = true then [st] else []) := by
   rw [List.take_add_one, es, List.filter_append]
   cases h : decide (0 < Mt61.room G fl st) <;> simp [h]
   all_goals simpa using h
  cases hg : decide (0 < Mt61.room G fl st) with
  | false =>
   rw [hg] at et
   refine bM (k2 _ ⟨rfl, ?_⟩)
   rw [et]
   simpa using iy
  | true =>
   rw [hg] at et
   refine dO ⟨_, rfl, k1 _ _ ⟨rfl, ?_⟩⟩
   rw [et, if_pos rfl, List.map_append]
   exact IsL.snoc iv iy
 rintro ys H2 ⟨rfl, iy⟩
 rw [List.take_of_length_le (by omega)] at iy
 intro l2 h2
 have S2 := aK.upd (o := .lst ys) h2
 refine ⟨_, _, rfl, l1, l2, ys, flow G fl, [Mt22.sea], V0, rfl, rfl, by simp, (fun z m => by rw [List.mem_singleton.mp m]; exact GG.sea), S2 _ _ r1, aF, IsL.same S2 _ _ iy, ?_, v13, fun s m => (aFG GG (List.mem_filter.mp m).1).2, fun d cm kvs H' S3 nd hd ck cg op l13 => ?_⟩
 ·have := List.length_filter_le (fun s => decide (0 < Mt61.room G fl s)) (Mt61.stepsOf G)
  unfold flow
  omega
 ·exact q d cm kvs H' (S1.trans (S2.trans S3)) ((S1.trans S2).free nd) hd ck cg op l13
open Mt53 Mt22 MtF Mt31 Mt61
def aHL : Sp := sp2 fun x y H Q => ∃ (d : Addr) (kvs : List (Key × V)) (cm : Cm) (S : List Mt22.St) (side : Str), x = .ref d ∧ y = .str side ∧ Rd H d (.dK kvs) ∧ CamKV H kvs cm ∧ Came S cm ∧ cm.length ≤ 13 ∧ side ∈ keys cm ∧
 ∀ (l : Addr) (us : List V) (ss : List Mt22.St) (H' : Hp), aK H H' → H l = none → H' l = some (.lst us) → IsL H' (ss.map bZ) us → Chain S ss side → ss.length ≤ 13 → Q (.ref l) H'
theorem aJA {cm : Cm} {z : Str} (m : z ∈ keys cm) : ∃ (i : Nat) (o : Option Mt22.St), cm[i]? = some (z, o) := by
 obtain ⟨i, hi⟩ := List.mem_iff_getElem?.mp m
 unfold keys at hi
 rw [List.getElem?_map] at hi
 cases e : cm[i]? with
 | none => rw [e] at hi; cases hi
 | some x =>
  rw [e] at hi
  obtain ⟨a, o⟩ := x
  cases hi
  exact ⟨i, o, e⟩
theorem yP (T : Txt K mg C) : Fc P w K mg base 1 "path_to" ["came", "side"] aHL := by
 refine T.d_p_path_to.fc iZ gK (fun f cdv A outer s H vs Q E hr h => ?_)
 obtain ⟨x, y, rfl, d, kvs, cm, S, side, rfl, rfl, hd, ck, c, l13, ms, q⟩ := h
 have big := bQ
 have hu := gZ hr
 obtain ⟨j0, o0, e0⟩ := aJA ms
 obtain ⟨v0, ev0, cv0⟩ := ck.val c e0
 have hj0 := (List.getElem?_eq_some_iff.mp e0).1
 refine ⟨_, (aG (@aT _ _ (2) _ _ _ _ iZ.nd rfl (Or.inl rfl) (@dL _ _ _ _ aD) (by rfl) (by trivial)) (aG (@aT _ _ (3) _ _ _ _ iZ.nd rfl (Or.inl rfl) (@dN _ _ _ _ _ _ hu (pv 0) (pv 1) (fun _ _ => rfl)) (by rfl) (by trivial)) (aG (@pZ _ _ _ _ _ _ PassesOwn.never (@bE _ _ _ _ _ _ _ _ aKT (pv 3) eO (@bI _ _ (by decide) (by decide))) (aG (@eQ _ _ _ _ (@lX _ _ _ _ _ _ _ _ _ _ _ _ PySem.F.plainAttrs_list PySem.F.slot_list_append PySem.F.type_list_append dX (pv 2) (aA (pv 3) aD) (by rfl) (by rfl) (by rfl) (by rfl) (by rfl)) (by rfl)) (aH (@aT _ _ (3) _ _ _ _ iZ.nd rfl (Or.inl rfl) (@dN _ _ _ _ _ _ hu (pv 0) (@aX _ _ _ _ _ _ _ (@aP _ (K) rfl) (pv 3) aE (fun _ _ => rfl)) (fun _ _ => rfl)) (by rfl) (by trivial))))) (aH (@aS _ _ _ _ (aCZ rfl rfl T.n_list rfl T.n_reversed (aA (pv 2) aD))))))), ?_⟩
 refine ⟨aY rfl, fun lp hlp => ?_⟩
 have S1 := aK.upd (o := .lst []) hlp
 have h1 : upd H lp (.lst []) lp = some (.lst []) := aF
 generalize upd H lp (.lst []) = H1 at S1 h1
 refine ⟨_, rfl, _, rfl, d, v0, rfl, .inl ⟨kvs, Sum.inr side, pY hd S1, rfl, ev0.symm⟩, ?_⟩
 refine pS (fun σ H' => ∃ (j : Nat) (z : Str) (o : Option Mt22.St) (v : V) (ps : List Mt22.St) (us : List V), σ = [some (.ref d), some (.str side), some (.ref lp), some v] ∧ aK H H' ∧ H' lp = some (.lst us) ∧ IsL H' (ps.map bZ) us ∧ cm[j]? = some (z, o) ∧ CV H' o v ∧ aNU S cm j z ps.reverse side ∧ ps.length + j < cm.length)
  (fun _ H' => match H' lp with | some (.lst us) => 14 - us.length | _ => 0) ⟨j0, side, o0, v0, [], [], rfl, S1, h1, rfl, e0, cv0.same S1, (fun ss ch _ => by rw [List.reverse_nil, List.append_nil]; exact ch), by show 0 + j0 < _; omega⟩ ?_ ?_
 ·rintro σ H2 ⟨j, z, o, v, ps, us, rfl, S2, h2, ius, ej, cv, tl, lj⟩
  have lus := ius.length
  rw [List.length_map] at lus
  refine ⟨_, rfl, rfl, _, rfl, ?_⟩
  cases o with
  | none =>
   have hv : v = .non := cv
   subst hv
   have hj : j = 0 := by
    cases j with
    | zero => rfl
    | succ j =>
     obtain ⟨s', h', _⟩ := c.prev (j + 1) z none (by omega) ej
     cases h'
   subst hj
   have hz : z = Mt22.sea := by
    have := c.first
    rw [ej] at this
    cases this
    rfl
   subst hz
   have ch := tl [] .nil (fun y m => by cases m)
   rw [List.nil_append] at ch
   rw [decide_eq_true rfl]
   refine bM ⟨_, rfl, lp, us, rfl, SqL.of h2, fun l hl => ?_⟩
   refine q l us.reverse ps.reverse _ (S2.trans (aK.upd hl)) (S2.free hl) aF ?_ ch (by rw [List.length_reverse]; omega)
   rw [List.map_reverse]
   exact IsL.rev (IsL.same (aK.upd hl) _ _ ius)
  | some s =>
   obtain ⟨t, rfl, ot⟩ := kL cv
   have hj : 0 < j := by
    cases j with
    | zero =>
     have := c.first
     rw [ej] at this
     cases this
    | succ j => omega
   obtain ⟨s', es', mS, hf, hn⟩ := c.prev j z (some s) hj ej
   cases es'
   obtain ⟨i, oi, ei⟩ := aJA hn
   have hil := (List.getElem?_eq_some_iff.mp ei).1
   rw [List.length_take] at hil
   have hij : i < j := by omega
   rw [List.getElem?_take_of_lt hij] at ei
   obtain ⟨v', ev', cv'⟩ := ck.val c ei
   have ki : (keys cm)[i]? = some s.near := by unfold keys; rw [List.getElem?_map, ei]; rfl
   have hne : (!decide (V.ref t = V.non)) = true := by rw [decide_eq_false (by intro c; cases c)]; rfl
   rw [hne]
   refine dO ?_
   refine ⟨_, rfl, .inl ⟨rfl, _, SqL.of h2⟩, _, rfl, lp, us, .ref t, rfl, rfl, h2, by omega, ?_⟩
   have KT := hG.lst (o := .lst (us ++ [.ref t])) h2
   have S3 : aK H (upd H2 lp (.lst (us ++ [.ref t]))) := S2.over hlp
   refine ⟨_, rfl, _, rfl, t, _, 1, .str s.near, rfl, rfl, SqT.of (KT _ _ ot), aI (j := 1) rfl, d, v', rfl, .inl ⟨kvs, Sum.inr s.near, pY hd S3, rfl, ev'.symm⟩, ?_⟩
   refine ⟨⟨i, s.near, oi, v', ps ++ [s], us ++ [.ref t], rfl, S3, aF, ?_, ei, cv'.same S3, ?_, by rw [List.length_append]; show _ + 1 + _ < _; omega⟩, ?_⟩
   ·refine IsL.keep KT _ _ (eJ fun d m => ?_) ?_
    ·obtain ⟨s, _, rfl⟩ := List.mem_map.mp m
     exact gF s
    ·rw [List.map_append]
     exact IsL.snoc (d := bZ s) (v := .ref t) cv ius
   ·rw [List.reverse_append]
    exact aFP c ej mS hf hij ki tl
   ·rw [h2, aF]
    dsimp only
    rw [List.length_append]
    show 14 - (us.length + 1) < 14 - us.length
    omega
 ·intro σ H Q Q' h hc
  obtain ⟨v, e, hq, k, e2, q⟩ := hc
  exact ⟨v, e, hq, k, e2, h _ _ q⟩
theorem aGS {S ss : List Mt22.St} {z : Str} (c : Chain S ss z) : ss = [] → z = Mt22.sea := by
 induction c with
 | nil => intro _; rfl
 | snoc c m n ih => intro e; simp at e
def aKA (G : List Gap) (f : Fl) (ws : List Str) : Prop := ∃ cm : Cm, CameG [Mt22.sea] (flow G f) cm ∧ sT (flow G f) cm cm.length ∧ ∀ z ∈ ws, z ∉ keys cm
def aPN (G : List Gap) (f : Fl) (ws : List Str) (ss : List Mt22.St) : Prop := (ss = [] ∧ aKA G f ws) ∨ ∃ z, Chain (flow G f) ss z ∧ z ∈ ws ∧ ss ≠ [] ∧ ss.length ≤ 13
def xV : Sp := fun vs H Q _ => ∃ (x y u v : V) (l dm de lw : Addr) (us : List V) (V0 : List Str) (G : List Gap) (f : Fl) (ws : List Str), vs = [x, y, u, v] ∧ x = .ref l ∧ H l = some (.lst us) ∧ IsL H ((Mt61.stepsOf G).map bZ) us ∧ G.length ≤ 40 ∧ V0.length ≤ 13 ∧ Gaps V0 G ∧ y = .ref dm ∧ Rd H dm (.dK (cM G)) ∧ u = .ref de ∧ Rd H de (.dK (bW G f)) ∧ v = .ref lw ∧ H lw = some (.lst (ws.map V.str)) ∧ Mt22.sea ∉ ws ∧
 ∀ (lp : Addr) (us : List V) (ss : List Mt22.St) (H' : Hp), aK H H' → H lp = none → H' lp = some (.lst us) → IsL H' (ss.map bZ) us → aPN G f ws ss → Q (.ref lp) H'
theorem aOY : ∀ vs H Q E, xV vs H Q E → vs.length = 4 := fun vs H Q E ⟨x, y, u, v, l, dm, de, lw, us, V0, G, f, ws, e, _⟩ => by rw [e]; rfl
theorem oZ (T : Txt K mg C) : Fc P w K mg base 3 "path_with_room" ["steps", "most", "stream", "fields"] xV := by
 have G_p_reached : Fc P w K mg base 2 "reached" ["steps", "most", "stream"] qM := qE T
 have G_p_path_to : Fc P w K mg base 1 "path_to" ["came", "side"] aHL := yP T
 refine T.d_p_path_with_room.fc fM aOY (fun f cdv A outer s H vs Q E hr h => ?_)
 obtain ⟨x, y, u, v, l, dm, de, lw, us, V0, G, fl, ws, rfl, rfl, hl, ius, g40, v13, GG, rfl, hm, rfl, he, rfl, hlw, ns, q⟩ := h
 have big := bQ
 have hu := gZ hr
 refine ⟨_, (aG (@aT _ _ (4) _ _ _ _ fM.nd rfl (Or.inl rfl) (@bL _ _ _ _ _ _ _ _ _ _ G_p_reached (hr.mono (by decide)) (aA (pv 0) (aA (pv 1) (aA (pv 2) aD))) (by rfl) (by decide) (by rfl) (by rfl)) (by rfl) (by trivial)) (aG (@jS _ (5) _ _ _ _ _ _ _ _ _ _ _ _ _ fM.nd rfl ["side", "fields"] 1 [3] rfl (@tG _ _ _ _ (pv 4)) (fun R => @aO _ _ (0) _ (show List.Nodup (["side", "fields"] : List Str) by decide +kernel) rfl (Or.inl rfl) (by trivial)) (@aW _ _ (by decide)) (fun R => @eI _ _ _ (@bE _ _ _ _ _ _ _ _ (@gD _ (K) rfl) (pv 0) (pv 1) (by with_unfolding_all rfl))) (fun R => (pv 0)) (by exact Or.inl rfl) (by trivial) (by rfl) (by rfl) (by rfl) (by rfl) (by rfl) (by rfl) (by rfl) (by rfl) (by intro _; rfl)) (aH (@aS _ _ _ _ (@aIM _ _ _ _ _ _ _ _ (aCW (pv 5)) (@bL _ _ _ _ _ _ _ _ _ _ G_p_path_to (hr.mono (by decide)) (aA (pv 4) (aA (@aX _ _ _ _ _ _ _ (@cS _ (K) rfl) (pv 5) aE (fun _ _ => rfl)) aD)) (by rfl) (by decide) (by rfl) (by rfl)) (@dL _ _ _ _ aD)))))), ?_⟩
 refine ⟨_, rfl, _, rfl, _, rfl, _, _, _, rfl, l, dm, de, us, V0, G, fl, rfl, hl, ius, g40, v13, GG, rfl, hm, rfl, he, fun d cm kvs H1 S1 nd hd ck cg op l13 => ?_⟩
 refine ⟨_, rfl, d, kvs, rfl, hd, fun o => ?_⟩
 have SF : aK H (upd H1 d (.frz o (.dK kvs))) := S1.over nd
 have KF : hG H1 (upd H1 d (.frz o (.dK kvs))) := fun b ys e => by
  rw [aQ (fun c => by rw [c, hd] at e; cases e)]
  exact e
 have ckF := ck.keep KF
 have dF : upd H1 d (.frz o (.dK kvs)) d = some (.frz o (.dK kvs)) := aF
 generalize upd H1 d (.frz o (.dK kvs)) = H2 at SF ckF dF
 have lk : kvs.length = cm.length := ck.len
 have hlw2 := SF _ _ hlw
 refine oY (by omega) (fun i ys H' => H2 = H' ∧ ys = (((keys cm).take i).filter fun z => decide (z ∈ ws)).map V.str) ⟨rfl, rfl⟩ ?_ ?_ ?_
 ·rintro i ys H' hi ⟨rfl, rfl⟩
  refine ⟨dF, ?_⟩
  have := List.length_filter_le (fun z => decide (z ∈ ws)) ((keys cm).take i)
  rw [List.length_take] at this
  rw [List.length_map]
  omega
 ·rintro i kv ys H' K1 K2 hk ⟨rfl, rfl⟩ k1 k2
  have hil := (List.getElem?_eq_some_iff.mp hk).1
  obtain ⟨⟨z, oo⟩, ez⟩ : ∃ x, cm[i]? = some x := ⟨_, List.getElem?_eq_getElem (by omega)⟩
  obtain ⟨vv, ev, _⟩ := ckF.at' i z oo ez
  rw [hk] at ev
  cases ev
  have kz : (keys cm)[i]? = some z := by unfold keys; rw [List.getElem?_map, ez]; rfl
  refine ⟨_, rfl, _, rfl, lw, _, rfl, .inl (SqL.of hlw2), rfl, dY ws, _, rfl, ?_⟩
  show (if inV (V.str z) (ws.map V.str) = true then _ else _)
  rw [gY]
  have et : ((keys cm).take (i + 1)).filter (fun z => decide (z ∈ ws)) = ((keys cm).take i).filter (fun z => decide (z ∈ ws)) ++ (if decide (z ∈ ws) = true then [z] else []) := by
   rw [List.take_add_one, kz, List.filter_append]
   cases h : decide (z ∈ ws) <;> simp [h]
   all_goals simpa using h
  cases hg : decide (z ∈ ws) with
  | false =>
   rw [hg] at et
   refine bM (k2 _ ⟨rfl, ?_⟩)
   rw [et]
   simp
  | true =>
   rw [hg] at et
   refine dO ⟨_, rfl, k1 _ _ ⟨rfl, ?_⟩⟩
   rw [et, if_pos rfl, List.map_append]
   rfl
 rintro ys H3 ⟨rfl, rfl⟩
 rw [List.take_of_length_le (by unfold keys; rw [List.length_map]; omega)]
 intro le hle
 have S3 := aK.upd (o := .lst (((keys cm).filter fun z => decide (z ∈ ws)).map V.str)) hle
 have r3 : upd H2 le (.lst (((keys cm).filter fun z => decide (z ∈ ws)).map V.str)) le = some (.lst (((keys cm).filter fun z => decide (z ∈ ws)).map V.str)) := aF
 have T3 := SF.trans S3
 have ck3 := ckF.same S3
 have d3 := S3 _ _ dF
 generalize upd H2 le (.lst (((keys cm).filter fun z => decide (z ∈ ws)).map V.str)) = H3 at S3 r3 T3 ck3 d3
 refine ⟨_, rfl, le, _, rfl, SqL.of r3, ?_⟩
 cases ef : (keys cm).filter fun z => decide (z ∈ ws) with
 | nil =>
  refine bM ⟨aY rfl, fun lp hlp => ?_⟩
  refine q lp [] [] _ (T3.trans (aK.upd hlp)) (T3.free hlp) aF rfl (.inl ⟨rfl, cm, cg, op, fun z mz mk => ?_⟩)
  have : z ∈ (keys cm).filter fun z => decide (z ∈ ws) := List.mem_filter.mpr ⟨mk, decide_eq_true mz⟩
  rw [ef] at this
  cases this
 | cons z zr =>
  have mz : z ∈ (keys cm).filter fun z => decide (z ∈ ws) := by rw [ef]; exact List.mem_cons_self
  rw [List.mem_filter] at mz
  have zw : z ∈ ws := of_decide_eq_true mz.2
  rw [ef] at r3
  refine dO ?_
  refine ⟨_, rfl, _, rfl, le, _, 0, .str z, rfl, rfl, SqL.of r3, aI (j := 0) rfl, _, _, rfl, d, kvs, cm, flow G fl, z, rfl, rfl, .inr ⟨o, d3⟩, ck3, cg.came, l13, mz.1, fun lp us' ss H4 S4 nlp hlp iss ch s13 => ?_⟩
  refine q lp us' ss H4 (T3.trans S4) (T3.free nlp) hlp iss (.inr ⟨z, ch, zw, fun e => ?_, s13⟩)
  have := aGS ch e
  rw [this] at zw
  exact ns zw
open Mt53 Mt22 MtF Mt31 Mt61
def aJM (kvs : List (Key × V)) : Fl := fun n => match eT kvs (Sum.inr n) with
 | some (.int i) => i
 | _ => 0
theorem iH {H : Hp} {ds : List Dv} {us : List V} (h : IsL H ds us) : ds.length = us.length := by have := h.length; omega
theorem aFE {G : List Gap} (nd : (G.map (·.nm)).Nodup) (f : Fl) {g : Gap} (m : g ∈ G) : aJM (bW G f) g.nm = f g.nm := by
 unfold aJM
 rw [show eT (bW G f) (Sum.inr g.nm) = some (.int (f g.nm)) from sC (f := fun g => V.int (f g.nm)) nd m]
theorem wE {G : List Gap} {f f' : Fl} (h : ∀ g ∈ G, f g.nm = f' g.nm) : val G f = val G f' := by
 unfold val net
 rw [eU fun g m => show qH f Mt22.sea g = qH f' Mt22.sea g by unfold qH; rw [h g m]]
theorem aBL {G : List Gap} {f : Fl} {n : Str} {x : Int} (m : n ∈ G.map (·.nm)) : kA (bW G f) (Sum.inr n) (.int x) = bW G (fun k => if k = n then x else f k) := by
 unfold kA
 have ha : ((bW G f).any fun kv => decide (kv.1 = (Sum.inr n : Key))) = true := by
  obtain ⟨g, mg, e⟩ := List.mem_map.mp m
  refine List.any_eq_true.mpr ⟨_, List.mem_map.mpr ⟨g, mg, rfl⟩, ?_⟩
  rw [← e]
  exact decide_eq_true rfl
 rw [if_pos ha]
 unfold bW
 rw [List.map_map]
 refine List.map_congr_left fun g _ => ?_
 show (if (Sum.inr g.nm : Key) = Sum.inr n then ((Sum.inr g.nm : Key), V.int x) else (Sum.inr g.nm, V.int (f g.nm))) = (Sum.inr g.nm, V.int (if g.nm = n then x else f g.nm))
 by_cases e : g.nm = n
 ·rw [if_pos (by rw [e]), if_pos e]
 ·rw [if_neg (fun c => e (Sum.inr.inj c)), if_neg e]
theorem aJL {G : List Gap} {f : Fl} {s : Mt22.St} {m : Int} (ms : s ∈ Mt61.stepsOf G) : kA (bW G f) (Sum.inr s.nm) (.int (f s.nm + s.h * m)) = bW G (kB m f s) := by
 obtain ⟨g, mg, en, _⟩ := mQ ms
 rw [aBL (by rw [← en]; exact List.mem_map.mpr ⟨g, mg, rfl⟩)]
 unfold bW
 refine List.map_congr_left fun g _ => ?_
 show (Sum.inr g.nm, V.int (if g.nm = s.nm then f s.nm + s.h * m else f g.nm)) = (Sum.inr g.nm, V.int (if g.nm = s.nm then f g.nm + s.h * m else f g.nm))
 by_cases e : g.nm = s.nm
 ·rw [if_pos e, if_pos e, e]
 ·rw [if_neg e, if_neg e]
theorem lD (G : List Gap) (f : Fl) : (bW G f).length = G.length := List.length_map _
theorem xB (G : List Gap) (f : Fl) : (bW G f).map (·.1) = (G.map (·.nm)).map Sum.inr := by
 unfold bW
 rw [List.map_map, List.map_map]
 rfl
theorem uX {G : List Gap} {f : Fl} : ∀ s ∈ flow G f, s ∈ Mt61.stepsOf G := fun s m => (List.mem_filter.mp m).1
def aHO : Sp := sp3 fun x y u H Q => ∃ (l dm lw : Addr) (o : Obj) (us : List V) (V0 : List Str) (G : List Gap) (ws : List Str), x = .ref l ∧ H l = some (.lst us) ∧ IsL H ((Mt61.stepsOf G).map bZ) us ∧ G.length ≤ 40 ∧ V0.length ≤ 13 ∧ Gaps V0 G ∧ y = .ref dm ∧ H dm = some (.frz o (.dK (cM G))) ∧ u = .ref lw ∧ H lw = some (.lst (ws.map V.str)) ∧ Mt22.sea ∉ ws ∧
 ∀ (de : Addr) (f : Fl) (H' : Hp), aK H H' → H de = none → H' de = some (.dK (bW G f)) → Stream V0 G ws f → aKA G f ws → Q (.ref de) H'
theorem pA (T : Txt K mg C) : Fc P w K mg base 4 "fullest_stream" ["steps", "most", "fields"] aHO := by
 have G_p_path_with_room : Fc P w K mg base 3 "path_with_room" ["steps", "most", "stream", "fields"] xV := oZ T
 have G_p_room : Fc P w K mg base 1 "room" ["step", "most", "stream"] aCG := wQ T
 refine T.d_p_fullest_stream.fc cO rA (fun f cdv A outer s H vs Q E hr h => ?_)
 obtain ⟨x, y, u, rfl, l, dm, lw, o, us, V0, G, ws, rfl, hl, ius, g40, v13, GG, rfl, hm, rfl, hlw, ns, q⟩ := h
 have big := bQ
 have hu := gZ hr
 refine ⟨_, (aG (@aT _ _ (3) _ _ _ _ cO.nd rfl (Or.inr rfl) (@cT _ _ _ _ _ _ _ _ _ (@dB _ rfl) rfl T.n_dict gE (aA (@bV _ _ _ _ _ _ _ _ _ _ _ ["name"] 1 [] rfl (aIJ (pv 1)) (fun R => @aO _ _ (0) _ (show List.Nodup (["name"] : List Str) by decide +kernel) rfl (Or.inl rfl) (by trivial)) (@aW _ _ (by decide)) (fun R => cC) (fun R => (@fF _ _ _ _ _ (aA (pv 0) (aA aE aD)))) (by rfl) (by rfl) (by rfl) (by rfl) (by rfl) (by rfl) (by rfl) (by intro _; rfl)) aD) (by decide) (by decide) (by rfl) (by rfl)) (by rfl) (by trivial)) (aG (@aT _ _ (4) _ _ _ _ cO.nd rfl (Or.inl rfl) (@bL _ _ _ _ _ _ _ _ _ _ G_p_path_with_room (hr.mono (by decide)) (aA (pv 0) (aA (pv 1) (aA (pv 3) (aA (pv 2) aD)))) (by rfl) (by decide) (by rfl) (by rfl)) (by rfl) (by trivial)) (aG (@pZ _ _ _ _ _ _ PassesOwn.never (aCW (pv 4)) (aG (@aT _ _ (5) _ _ _ _ cO.nd rfl (Or.inl rfl) (@aU _ _ _ _ _ _ _ _ _ (aGT rfl) rfl T.n_min aGU (aA (@bV _ _ _ _ _ _ _ _ _ _ _ ["step", "most", "stream"] 1 [1, 3] rfl (@bF _ _ _ _ (pv 4)) (fun R => @aO _ _ (0) _ (show List.Nodup (["step", "most", "stream"] : List Str) by decide +kernel) rfl (Or.inl rfl) (by trivial)) (@aW _ _ (by decide)) (fun R => cC) (fun R => (@bL _ _ _ _ _ _ _ _ _ _ G_p_room (hr.mono (by decide)) (aA (pv 0) (aA (pv 1) (aA (pv 2) aD))) (by rfl) (by decide) (by rfl) (by rfl))) (by rfl) (by rfl) (by rfl) (by rfl) (by rfl) (by rfl) (by rfl) (by intro _; rfl)) aD) (by decide) (by decide) (by rfl) (by rfl)) (by rfl) (by trivial)) (aG (@eN _ _ _ _ _ _ _ _ PassesOwn.never rfl (@bF _ _ _ _ (pv 4)) (@aO _ _ (6) _ cO.nd rfl (Or.inl rfl) (by trivial)) (aH (@yM _ _ _ _ _ _ _ _ _ _ _ hu (pv 3) (@aX _ _ _ _ _ _ _ (@aP _ (K) rfl) (pv 6) aE (fun _ _ => rfl)) (@aJ _ _ _ _ _ _ _ _ lO (@aX _ _ _ _ _ _ _ (@aP _ (K) rfl) (pv 6) aE (fun _ _ => rfl)) (pv 5)) aJE (fun _ _ _ => rfl))) (by intro _; rfl)) (aH (@aT _ _ (4) _ _ _ _ cO.nd rfl (Or.inl rfl) (@bL _ _ _ _ _ _ _ _ _ _ G_p_path_with_room (hr.mono (by decide)) (aA (pv 0) (aA (pv 1) (aA (pv 3) (aA (pv 2) aD)))) (by rfl) (by decide) (by rfl) (by rfl)) (by rfl) (by trivial)))))) (aH (@aS _ _ _ _ (pv 3)))))), ?_⟩
 refine ⟨_, rfl, dm, o, _, rfl, hm, ?_⟩
 refine oY (by rw [iC]; omega) (fun i ys H' => aK H H' ∧ bT H' ys (bW (G.take i) fun _ => 0)) ⟨aK.refl _, bT.nil _⟩ ?_ ?_ ?_
 ·rintro i ys H' hi ⟨S', pa⟩
  have := pa.len
  rw [lD, List.length_take] at this
  exact ⟨S' _ _ hm, by omega⟩
 ·rintro i kv ys H' K1 K2 hk ⟨S', pa⟩ k1 k2
  unfold cM at hk
  rw [List.getElem?_map] at hk
  obtain ⟨g, eg, ekv⟩ := Option.map_eq_some_iff.mp hk
  have ek : kV kv.1 = V.str g.nm := by rw [← ekv]; rfl
  rw [ek]
  refine ⟨_, rfl, aY rfl, fun p3 hp3 => k1 _ _ ⟨S'.trans (aK.upd hp3), ?_⟩⟩
  have e2 : bW (G.take (i + 1)) (fun _ => 0) = bW (G.take i) (fun _ => 0) ++ [(Sum.inr g.nm, V.int 0)] := by
   unfold bW
   rw [List.take_add_one, eg, List.map_append]
   rfl
  rw [e2]
  exact bT.snoc (k := Sum.inr g.nm) pa hp3
 rintro ys H1 ⟨S1, pa⟩
 rw [iC, List.take_of_length_le (Nat.le_refl _)] at pa
 intro p4 hp4
 have S2 := aK.upd (o := .lst ys) hp4
 refine ⟨p4, ys, bW G fun _ => 0, rfl, SqL.of aF, pa.same S2, by rw [lD]; omega, by rw [xB]; exact (gI _).mpr GG.nd, fun de hde => ?_⟩
 have S3 := aK.upd (o := .dK (bW G fun _ => 0)) hde
 have T3 := S1.trans (S2.trans S3)
 have nde := (S1.trans S2).free hde
 have he3 : upd (upd H1 p4 (.lst ys)) de (.dK (bW G fun _ => 0)) de = some (.dK (bW G fun _ => 0)) := aF
 generalize upd (upd H1 p4 (.lst ys)) de (.dK (bW G fun _ => 0)) = H3 at S3 T3 he3
 have st0 : Stream V0 G ws (fun _ => 0) := Stream.none GG ws fun _ _ => rfl
 refine ⟨_, rfl, _, rfl, _, rfl, _, rfl, _, _, _, _, l, dm, de, lw, us, V0, G, fun _ => 0, ws, rfl, rfl, T3 _ _ hl, IsL.same T3 _ _ ius, g40, v13, GG, rfl, .inr ⟨o, T3 _ _ hm⟩, rfl, .inl he3, rfl, T3 _ _ hlw, ns, fun lp us4 ss H4 S4 nlp hlp iss go => ?_⟩
 refine pS (fun σ H' => ∃ (f5 : Fl) (lp : Addr) (us5 : List V) (ss : List Mt22.St) (v5 v6 : Option V), σ = [some (.ref l), some (.ref dm), some (.ref lw), some (.ref de), some (.ref lp), v5, v6] ∧ aK H H' ∧ H' de = some (.dK (bW G f5)) ∧ Stream V0 G ws f5 ∧ H' lp = some (.lst us5) ∧ IsL H' (ss.map bZ) us5 ∧ aPN G f5 ws ss)
  (fun _ H' => match H' de with | some (.dK kvs) => (zV G - val G (aJM kvs)).toNat | _ => 0) ⟨fun _ => 0, lp, us4, ss, _, _, rfl, T3.trans S4, S4 _ _ he3, st0, hlp, iss, go⟩ ?_ ?_
 ·rintro σ H5 ⟨f5, lp, us5, ss, v5, v6, rfl, S5, he5, st5, hlp5, iss5, go5⟩
  have lss := iH iss5
  rw [List.length_map] at lss
  refine ⟨_, rfl, lp, us5, rfl, SqL.of hlp5, ?_⟩
  rcases go5 with ⟨rfl, en⟩ | ⟨z, ch, mz, ne, s13⟩
  ·have : us5 = [] := List.eq_nil_of_length_eq_zero lss.symm
   subst this
   exact bM ⟨_, rfl, q de f5 H5 S5 nde he5 st5 en⟩
  have une : us5.isEmpty = false := by
   cases us5 with
   | nil => exact absurd (List.eq_nil_of_length_eq_zero lss) ne
   | cons a b => rfl
  rw [une]
  refine dO ?_
  obtain ⟨csub, cnd⟩ := xG ch
  have rpos : ∀ s ∈ ss, 0 < Mt61.room G f5 s := fun s m => of_decide_eq_true (List.mem_filter.mp (csub s m)).2
  have hm5 := S5 _ _ hm
  refine ⟨_, rfl, lp, rfl, ⟨_, SqL.of hlp5⟩, ?_⟩
  refine bD (F := K) (xs := us5) (by omega) (fun i ys H' => H5 = H' ∧ ys = ((ss.take i).map (Mt61.room G f5)).map V.int) ⟨rfl, rfl⟩ ?_ ?_ ?_
  ·rintro i ys H' hi ⟨rfl, rfl⟩
   exact ⟨SqL.of hlp5, by rw [List.length_map, List.length_map, List.length_take]; omega⟩
  ·rintro i xv ys H' K1 K2 hx' ⟨rfl, rfl⟩ k1 k2
   have hil : i < us5.length := (List.getElem?_eq_some_iff.mp hx').1
   obtain ⟨st, es⟩ : ∃ st, ss[i]? = some st := ⟨_, List.getElem?_eq_getElem (by omega)⟩
   obtain ⟨v, ev, iv⟩ := iss5.get (show (ss.map bZ)[i]? = some (bZ st) by rw [List.getElem?_map, es]; rfl)
   rw [hx'] at ev
   cases ev
   have ms := List.mem_of_getElem? es
   refine ⟨_, rfl, _, rfl, _, rfl, _, _, _, rfl, dm, de, V0, G, f5, st, iv, uX _ (csub st ms), GG, rfl, .inr ⟨o, hm5⟩, rfl, .inl he5, k1 _ _ ⟨rfl, ?_⟩⟩
   rw [List.take_add_one, es, List.map_append, List.map_append]
   rfl
  rintro ys H6 ⟨rfl, rfl⟩
  rw [List.take_of_length_le (by omega)]
  intro la hla
  have S6 := aK.upd (o := .lst ((ss.map (Mt61.room G f5)).map V.int)) hla
  have r6 : upd H5 la (.lst ((ss.map (Mt61.room G f5)).map V.int)) la = some (.lst ((ss.map (Mt61.room G f5)).map V.int)) := aF
  generalize upd H5 la (.lst ((ss.map (Mt61.room G f5)).map V.int)) = H6 at S6 r6
  have T6 := S5.trans S6
  refine ⟨la, ss.map (Mt61.room G f5), rfl, SqL.of r6, by rw [List.length_map]; exact List.length_pos_iff.mpr ne, fun M mM least => ?_⟩
  have M0 : 0 < M := by
   obtain ⟨s, ms, rfl⟩ := List.mem_map.mp mM
   exact rpos s ms
  have hM : ∀ s ∈ ss, M ≤ Mt61.room G f5 s := fun s m => least _ (List.mem_map.mpr ⟨s, m, rfl⟩)
  have he6 := S6 _ _ he5
  have hlp6 := S6 _ _ hlp5
  have iss6 := IsL.same S6 _ _ iss5
  refine ⟨_, rfl, lp, rfl, ⟨_, SqL.of hlp6⟩, eL (K := K) (a := lp) (xs := us5) (fun i σ H' => ∃ v6, σ = [some (.ref l), some (.ref dm), some (.ref lw), some (.ref de), some (.ref lp), some (.int M), v6] ∧ aK H H' ∧ H' de = some (.dK (bW G ((ss.take i).foldl (kB M) f5))) ∧ H' lp = some (.lst us5) ∧ IsL H' (ss.map bZ) us5) ⟨_, rfl, T6, he6, hlp6, iss6⟩ ?_ ?_ ?_⟩
  ·rintro i σ H' hi ⟨v6, rfl, S', he', hl', is'⟩
   exact SqL.of hl'
  ·rintro i xv σ H' hx ⟨v6, rfl, S', he', hl', is'⟩
   have hil : i < us5.length := (List.getElem?_eq_some_iff.mp hx).1
   obtain ⟨st, es⟩ : ∃ st, ss[i]? = some st := ⟨_, List.getElem?_eq_getElem (by omega)⟩
   obtain ⟨v, ev, iv⟩ := is'.get (show (ss.map bZ)[i]? = some (bZ st) by rw [List.getElem?_map, es]; rfl)
   rw [hx] at ev
   cases ev
   have ms := uX _ (csub st (List.mem_of_getElem? es))
   obtain ⟨t, rfl, ot⟩ := kL iv
   obtain ⟨g, mg', en, hh⟩ := mQ ms
   have v2 : eT (bW G ((ss.take i).foldl (kB M) f5)) (Sum.inr st.nm) = some (.int (((ss.take i).foldl (kB M) f5) st.nm)) := by rw [← en]; exact sC (f := fun g => V.int (((ss.take i).foldl (kB M) f5) g.nm)) GG.nd mg'
   refine ⟨_, rfl, _, rfl, t, _, 0, .str st.nm, rfl, rfl, SqT.of ot, aI (j := 0) rfl, de, _, rfl, .inl ⟨_, Sum.inr st.nm, .inl he', rfl, v2.symm⟩, ?_⟩
   refine ⟨_, rfl, t, _, 3, .int st.h, rfl, rfl, SqT.of ot, aI (j := 3) rfl, _, rfl, _, _, rfl, rfl, .inl (by rcases hh with h | h <;> rw [h] <;> exact ⟨by decide, by decide⟩), _, _, rfl, rfl, _, .inl ⟨_, Sum.inr st.nm, he', rfl, by rw [lD]; omega, rfl⟩, ?_⟩
   rw [aJL ms]
   have nlp' : lp ≠ de := mC hl' he' (by intro c; cases c)
   have KT : hG H' (upd H' de (.dK (bW G (kB M ((ss.take i).foldl (kB M) f5) st)))) := fun b ys e => by
    rw [aQ (fun c => by rw [c, he'] at e; cases e)]
    exact e
   refine ⟨_, rfl, S'.over nde, ?_, by rw [aQ nlp']; exact hl', IsL.keep KT _ _ (eJ fun d m => ?_) is'⟩
   ·rw [aF, List.take_add_one, es, List.foldl_append]
    rfl
   ·obtain ⟨s, _, rfl⟩ := List.mem_map.mp m
    exact gF s
  ·rintro σ H7 ⟨v6, rfl, S7, he7, hl7, is7⟩
   rw [← lss, List.take_of_length_le (Nat.le_refl _)] at he7
   obtain ⟨st7, va7⟩ := st5.more GG ch uX (Int.le_of_lt M0) hM mz ns
   refine ⟨_, rfl, _, rfl, _, rfl, _, rfl, _, _, _, _, l, dm, de, lw, us, V0, G, ss.foldl (kB M) f5, ws, rfl, rfl, S7 _ _ hl, IsL.same S7 _ _ ius, g40, v13, GG, rfl, .inr ⟨o, S7 _ _ hm⟩, rfl, .inl he7, rfl, S7 _ _ hlw, ns, fun lp8 us8 ss8 H8 S8 nlp8 hlp8 iss8 go8 => ?_⟩
   refine ⟨⟨_, lp8, us8, ss8, _, _, rfl, S7.trans S8, S8 _ _ he7, st7, hlp8, iss8, go8⟩, ?_⟩
   rw [he5, S8 _ _ he7]
   show (zV G - val G (aJM (bW G (ss.foldl (kB M) f5)))).toNat < (zV G - val G (aJM (bW G f5))).toNat
   rw [wE fun g m => aFE GG.nd _ m, wE fun g m => aFE GG.nd f5 m, va7]
   have := aFN GG st7.fits
   omega
 ·intro σ H Q Q' h hc
  obtain ⟨v, e, p, xs, e2, hq, q⟩ := hc
  exact ⟨v, e, p, xs, e2, hq, h _ _ q⟩
open Mt53 Mt22 MtF Mt31 Mt61
theorem aDZ {H : Hp} {kvs : List (Key × V)} {cm : Cm} (h : CamKV H kvs cm) (z : Str) : (eT kvs (Sum.inr z)).isSome = decide (z ∈ keys cm) := by
 by_cases m : z ∈ keys cm
 ·rw [h.some m, decide_eq_true m]
 ·rw [h.none m, decide_eq_false m]
  rfl
def aFY (G : List Gap) (R : List Str) : List Mt22.St := (Mt61.stepsOf G).filter fun s => !decide (s.far ∈ R)
def dQ (L : Int) (s : Mt22.St) : Dv := .tup [.str s.nm, .int L]
theorem jF {α : Type} {P : α → Bool} {xs : List α} {i : Nat} {x : α} (e : xs[i]? = some x) : (xs.take (i + 1)).filter P = (xs.take i).filter P ++ (if P x = true then [x] else []) := by
 rw [List.take_add_one, e, List.filter_append]
 cases h : P x <;> simp [h]
def aHK : Sp := fun vs H Q _ => ∃ (x y u v : V) (l df lw : Addr) (us : List V) (V0 : List Str) (G : List Gap) (kvs : List (Key × V)) (cm : Cm) (ws : List Str) (L : Int), vs = [x, y, u, v] ∧ x = .ref l ∧ H l = some (.lst us) ∧ IsL H ((Mt61.stepsOf G).map bZ) us ∧ G.length ≤ 40 ∧ V0.length ≤ 13 ∧ Gaps V0 G ∧ y = .ref df ∧ Rd H df (.dK kvs) ∧ CamKV H kvs cm ∧ u = .ref lw ∧ H lw = some (.lst (ws.map V.str)) ∧ ws.Nodup ∧ (∀ z ∈ ws, z ∈ V0) ∧ v = .int L ∧
 ∀ (cmB : Cm) (lr : Addr) (us' : List V) (H' : Hp), aK H H' → H lr = none → H' lr = some (.lst us') → IsL H' ((cB G (keys cm) (keys cmB)).map (dQ L)) us' → CameG ws (aFY G (keys cm)) cmB → sT (aFY G (keys cm)) cmB cmB.length → Q (.ref lr) H'
theorem aNB : ∀ vs H Q E, aHK vs H Q E → vs.length = 4 := fun vs H Q E ⟨x, y, u, v, l, df, lw, us, V0, G, kvs, cm, ws, L, e, _⟩ => by rw [e]; rfl
theorem qV (T : Txt K mg C) : Fc P w K mg base 2 "works_round" ["steps", "flowed", "fields", "height"] aHK := by
 have G_p_spread : Fc P w K mg base 1 "spread" ["starts", "steps"] qL := rX T
 refine T.d_p_works_round.fc kN aNB (fun f cdv A outer s H vs Q E hr h => ?_)
 obtain ⟨x, y, u, v, l, df, lw, us, V0, G, kvs, cm, ws, lv, rfl, rfl, hl, ius, g40, v13, GG, rfl, hf, ck, rfl, hlw, ndw, subw, rfl, q⟩ := h
 have big := bQ
 have hu := gZ hr
 have lus := iH ius
 have sl := oN G
 rw [List.length_map, sl] at lus
 refine ⟨_, (aG (@aT _ _ (4) _ _ _ _ kN.nd rfl (Or.inr rfl) (@bL _ _ _ _ _ _ _ _ _ _ G_p_spread (hr.mono (by decide)) (aA (pv 2) (aA (@bV _ _ _ _ _ _ _ _ _ _ _ ["step", "flowed"] 1 [1] rfl (@bF _ _ _ _ (pv 0)) (fun R => @aO _ _ (0) _ (show List.Nodup (["step", "flowed"] : List Str) by decide +kernel) rfl (Or.inl rfl) (by trivial)) (@aW _ _ (by decide)) (fun R => @eI _ _ _ (@yL _ _ _ _ _ _ (@wP _ _ _ _ _ hu (@aX _ _ _ _ _ _ _ (@aP _ (K) rfl) (pv 0) aE (fun _ _ => rfl)) (pv 1)) (by first | exact nobehind _ (by decide) (by decide) | rfl))) (fun R => (pv 0)) (by rfl) (by rfl) (by rfl) (by rfl) (by rfl) (by rfl) (by rfl) (by intro _; rfl)) aD)) (by rfl) (by decide) (by rfl) (by rfl)) (by rfl) (by trivial)) (aH (@aS _ _ _ _ (@bV _ _ _ _ _ _ _ _ _ _ _ ["step", "flowed", "height", "behind"] 1 [1, 3, 4] rfl (@bF _ _ _ _ (pv 0)) (fun R => @aO _ _ (0) _ (show List.Nodup (["step", "flowed", "height", "behind"] : List Str) by decide +kernel) rfl (Or.inl rfl) (by trivial)) (@aW _ _ (by decide)) (fun R => @eI _ _ _ (@PW.pt _ _ _ (@pN _ _ _ _ _ _ _ (@yL _ _ _ _ _ _ (@aDB _ _ _ _ _ hu (@aX _ _ _ _ _ _ _ (@aP _ (K) rfl) (pv 0) aE (fun _ _ => rfl)) (pv 1)) (by first | exact nobehind _ (by decide) (by decide) | rfl)) (@oT _ _ _ _ (@yL _ _ _ _ _ _ (@aDB _ _ _ _ _ hu (@aX _ _ _ _ _ _ _ (@aP _ (K) rfl) (pv 0) aE (fun _ _ => rfl)) (pv 3)) (by first | exact nobehind _ (by decide) (by decide) | rfl)))))) (fun R => (@fF _ _ _ _ _ (aA (@aX _ _ _ _ _ _ _ (@aP _ (K) rfl) (pv 0) aE (fun _ _ => rfl)) (aA (pv 2) aD)))) (by rfl) (by rfl) (by rfl) (by rfl) (by rfl) (by rfl) (by rfl) (by intro _; rfl))))), ?_⟩
 refine ⟨_, rfl, _, rfl, l, rfl, ⟨_, SqL.of hl⟩, ?_⟩
 refine bD (F := K) (xs := us) (by omega) (fun i ys H' => H = H' ∧ IsL H' ((((Mt61.stepsOf G).take i).filter fun s => !decide (s.far ∈ keys cm)).map bZ) ys) ⟨rfl, rfl⟩ ?_ ?_ ?_
 ·rintro i ys H' hi ⟨rfl, iy⟩
  refine ⟨SqL.of hl, ?_⟩
  have := iy.length
  have := List.length_filter_le (fun s : Mt22.St => !decide (s.far ∈ keys cm)) ((Mt61.stepsOf G).take i)
  rw [List.length_take] at this
  rw [List.length_map] at *
  omega
 ·rintro i xv ys H' K1 K2 hx' ⟨rfl, iy⟩ k1 k2
  have hil : i < us.length := (List.getElem?_eq_some_iff.mp hx').1
  obtain ⟨st, es⟩ : ∃ st, (Mt61.stepsOf G)[i]? = some st := ⟨_, List.getElem?_eq_getElem (by omega)⟩
  obtain ⟨v, ev, iv⟩ := ius.get (show ((Mt61.stepsOf G).map bZ)[i]? = some (bZ st) by rw [List.getElem?_map, es]; rfl)
  rw [hx'] at ev
  cases ev
  obtain ⟨t, rfl, o⟩ := kL iv
  have et := jF (P := fun s : Mt22.St => !decide (s.far ∈ keys cm)) es
  refine ⟨_, rfl, t, _, 2, .str st.far, rfl, rfl, SqT.of o, aI (j := 2) rfl, _, rfl, df, _, rfl, .inl ⟨kvs, Sum.inr st.far, hf, rfl, rfl⟩, _, rfl, ?_⟩
  rw [aDZ ck]
  cases hg : (!decide (st.far ∈ keys cm)) with
  | false =>
   rw [hg] at et
   refine bM (k2 _ ⟨rfl, ?_⟩)
   rw [et]
   simpa using iy
  | true =>
   rw [hg] at et
   refine dO ⟨_, rfl, k1 _ _ ⟨rfl, ?_⟩⟩
   rw [et, if_pos rfl, List.map_append]
   exact IsL.snoc iv iy
 rintro ys H2 ⟨rfl, iy⟩
 rw [List.take_of_length_le (by omega)] at iy
 intro l2 h2
 have S2 := aK.upd (o := .lst ys) h2
 refine ⟨_, _, rfl, lw, l2, ys, aFY G (keys cm), ws, V0, rfl, rfl, ndw, subw, S2 _ _ hlw, aF, IsL.same S2 _ _ iy, ?_, v13, fun s m => (aFG GG (List.mem_filter.mp m).1).2, fun db cmB kvB H3 S3 ndb hdb ckB cgB opB l13 => ?_⟩
 ·have := List.length_filter_le (fun s : Mt22.St => !decide (s.far ∈ keys cm)) (Mt61.stepsOf G)
  unfold aFY
  omega
 have T3 := S2.trans S3
 have ius3 := IsL.same T3 _ _ ius
 refine ⟨_, rfl, l, rfl, ⟨_, SqL.of (T3 _ _ hl)⟩, ?_⟩
 refine bD (F := K) (xs := us) (by omega) (fun i ys H' => aK H3 H' ∧ IsL H' ((((Mt61.stepsOf G).take i).filter fun s => decide (s.near ∈ keys cm) && decide (s.far ∈ keys cmB)).map (dQ lv)) ys) ⟨aK.refl _, rfl⟩ ?_ ?_ ?_
 ·rintro i ys H' hi ⟨S', iy⟩
  refine ⟨SqL.of (S' _ _ (T3 _ _ hl)), ?_⟩
  have := iy.length
  have := List.length_filter_le (fun s : Mt22.St => decide (s.near ∈ keys cm) && decide (s.far ∈ keys cmB)) ((Mt61.stepsOf G).take i)
  rw [List.length_take] at this
  rw [List.length_map] at *
  omega
 ·rintro i xv ys H' K1 K2 hx' ⟨S', iy⟩ k1 k2
  have hil : i < us.length := (List.getElem?_eq_some_iff.mp hx').1
  obtain ⟨st, es⟩ : ∃ st, (Mt61.stepsOf G)[i]? = some st := ⟨_, List.getElem?_eq_getElem (by omega)⟩
  obtain ⟨v, ev, iv⟩ := (IsL.same S' _ _ ius3).get (show ((Mt61.stepsOf G).map bZ)[i]? = some (bZ st) by rw [List.getElem?_map, es]; rfl)
  rw [hx'] at ev
  cases ev
  obtain ⟨t, rfl, o⟩ := kL iv
  have et := jF (P := fun s : Mt22.St => decide (s.near ∈ keys cm) && decide (s.far ∈ keys cmB)) es
  have no : (decide (st.near ∈ keys cm) && decide (st.far ∈ keys cmB)) = false → K2 H' := fun hg => by
   refine k2 _ ⟨S', ?_⟩
   rw [et, hg]
   simpa using iy
  refine ⟨_, rfl, t, _, 1, .str st.near, rfl, rfl, SqT.of o, aI (j := 1) rfl, _, rfl, df, _, rfl, .inl ⟨kvs, Sum.inr st.near, pY hf (T3.trans S'), rfl, rfl⟩, _, rfl, ?_⟩
  rw [aDZ ck]
  cases h1 : decide (st.near ∈ keys cm) with
  | false => exact bM (no (by rw [h1]; rfl))
  | true =>
   refine dO ?_
   refine ⟨_, rfl, t, _, 2, .str st.far, rfl, rfl, SqT.of o, aI (j := 2) rfl, _, rfl, db, _, rfl, .inl ⟨kvB, Sum.inr st.far, .inl (S' _ _ hdb), rfl, rfl⟩, _, rfl, ?_⟩
   rw [aDZ ckB]
   cases h2 : decide (st.far ∈ keys cmB) with
   | false => exact bM (no (by rw [h1, h2]; rfl))
   | true =>
    refine dO ⟨_, rfl, t, _, 0, .str st.nm, rfl, rfl, SqT.of o, aI (j := 0) rfl, _, rfl, aY rfl, fun ta hta => k1 _ _ ⟨S'.trans (aK.upd hta), ?_⟩⟩
    rw [h1, h2] at et
    rw [et, List.map_append]
    exact IsL.snoc (show Is _ (dQ lv st) (.ref ta) from ⟨ta, _, rfl, aF, _, _, rfl, rfl, _, _, rfl, rfl, rfl⟩) (IsL.same (aK.upd hta) _ _ iy)
 rintro ys4 H4 ⟨S4, iy4⟩
 rw [List.take_of_length_le (by omega)] at iy4
 intro lr hlr
 have S5 := aK.upd (o := .lst ys4) hlr
 exact q cmB lr ys4 _ (T3.trans (S4.trans S5)) ((T3.trans S4).free hlr) aF (IsL.same S5 _ _ iy4) cgB opB
open Mt53 Mt22 MtF Mt31 Mt61
theorem aJW {zs : List Str} {S : List Mt22.St} {cm : Cm} (h : CameG zs S cm) {R : List Str} (hz : ∀ z ∈ zs, z ∈ R) (cl : ∀ s ∈ S, s.near ∈ R → s.far ∈ R) : ∀ z ∈ keys cm, z ∈ R := by
 have : ∀ (n i : Nat) (z : Str), i < n → (keys cm)[i]? = some z → z ∈ R := by
  intro n
  induction n with
  | zero => intro i z hi; omega
  | succ n ih =>
   intro i z hi e
   unfold keys at e
   rw [List.getElem?_map] at e
   obtain ⟨⟨z', o⟩, e', rfl⟩ := Option.map_eq_some_iff.mp e
   by_cases hl : i < zs.length
   ·obtain ⟨y, ey⟩ : ∃ y, zs[i]? = some y := ⟨_, List.getElem?_eq_getElem hl⟩
    have := h.first i y ey
    rw [e'] at this
    cases this
    exact hz _ (List.mem_of_getElem? ey)
   ·obtain ⟨s, _, ms, ef, hn⟩ := h.prev i z' o (by omega) e'
    obtain ⟨j, hj⟩ := List.mem_iff_getElem?.mp hn
    have hjl := (List.getElem?_eq_some_iff.mp hj).1
    unfold keys at hjl
    rw [List.length_map, List.length_take] at hjl
    have hj' : (keys cm)[j]? = some s.near := by
     unfold keys at hj ⊢
     rw [List.getElem?_map, List.getElem?_take_of_lt (by omega)] at hj
     rw [List.getElem?_map]
     exact hj
    show z' ∈ R
    rw [← ef]
    exact cl s ms (ih j _ (by omega) hj')
 intro z m
 obtain ⟨i, hi⟩ := List.mem_iff_getElem?.mp m
 exact this (i + 1) i z (by omega) hi
theorem aIB {V0 : List Str} {G : List Gap} (GG : Gaps V0 G) {f : Fl} {ws : List Str} (en : aKA G f ws) {cm cmB : Cm} (cg : CameG [Mt22.sea] (flow G f) cm) (op : sT (flow G f) cm cm.length) (cgB : CameG ws (aFY G (keys cm)) cmB) (opB : sT (aFY G (keys cm)) cmB cmB.length) : Round G f ws (keys cm) (keys cmB) := by
 obtain ⟨cm1, cg1, op1, out⟩ := en
 have sub := aJW cg (R := keys cm1) (fun z m => by rw [List.mem_singleton.mp m]; exact cg1.start (List.mem_singleton.mpr rfl)) (nJ op1)
 have wout : ∀ z ∈ ws, z ∉ keys cm := fun z m k => out z m (sub z k)
 refine ⟨cg.start (List.mem_singleton.mpr rfl), fun s ms hr hn => ?_, wout, fun z m => cgB.start m, fun z m => ?_, fun s ms hf hn => ?_⟩
 ·exact nJ op s (List.mem_filter.mpr ⟨ms, decide_eq_true hr⟩) hn
 ·rcases cgB.mem m with m | ⟨s, ms, rfl⟩
  ·exact wout z m
  ·have := (List.mem_filter.mp ms).2
   simpa using this
 ·exact nJ opB s (List.mem_filter.mpr ⟨ms, by simpa using hf⟩) hn
theorem aAQ {R B : List Str} (out : ∀ z ∈ B, z ∉ R) : ∀ {G : List Gap}, (G.map (·.nm)).Nodup → ((cB G R B).map (·.nm)).Nodup ∧ ∀ n ∈ (cB G R B).map (·.nm), n ∈ G.map (·.nm)
 | [], _ => ⟨by simp [cB, Mt61.stepsOf], fun n m => by simp [cB, Mt61.stepsOf] at m⟩
 | g :: G, nd => by
  rw [List.map_cons, List.nodup_cons] at nd
  obtain ⟨h1, h2⟩ := aAQ out nd.2
  have e : cB (g :: G) R B = ([up g, dn g].filter fun s => decide (s.near ∈ R) && decide (s.far ∈ B)) ++ cB G R B := by
   unfold cB Mt61.stepsOf
   rw [List.flatMap_cons, List.filter_append]
  have hf : ([up g, dn g].filter fun s => decide (s.near ∈ R) && decide (s.far ∈ B)) = [] ∨ ∃ s, s.nm = g.nm ∧ ([up g, dn g].filter fun s => decide (s.near ∈ R) && decide (s.far ∈ B)) = [s] := by
   rw [List.filter_cons]
   cases hu : (decide ((up g).near ∈ R) && decide ((up g).far ∈ B)) with
   | true =>
    rw [Bool.and_eq_true] at hu
    have ub : g.b ∈ B := of_decide_eq_true hu.2
    have : (decide ((dn g).near ∈ R) && decide ((dn g).far ∈ B)) = false := by
     have : (dn g).near ∉ R := out _ ub
     rw [decide_eq_false this]
     rfl
    rw [List.filter_cons, this]
    exact .inr ⟨up g, rfl, rfl⟩
   | false =>
    rw [List.filter_cons]
    cases hd : (decide ((dn g).near ∈ R) && decide ((dn g).far ∈ B)) with
    | true => exact .inr ⟨dn g, rfl, rfl⟩
    | false => exact .inl rfl
  rw [e]
  rcases hf with hf | ⟨s, en, hf⟩
  ·rw [hf, List.nil_append]
   exact ⟨h1, fun n m => List.mem_cons_of_mem _ (h2 n m)⟩
  ·rw [hf]
   refine ⟨?_, fun n m => ?_⟩
   ·rw [List.map_append, List.map_cons, List.map_nil, List.singleton_append, List.nodup_cons, en]
    exact ⟨fun m => nd.1 (h2 _ m), h1⟩
   ·rw [List.map_append] at m
    rcases List.mem_append.mp m with m | m
    ·rw [List.map_cons, List.map_nil, List.mem_singleton, en] at m
     rw [m]
     exact List.mem_cons_self
    ·exact List.mem_cons_of_mem _ (h2 n m)
theorem qS {G : List Gap} {R B : List Str} : ∀ s ∈ cB G R B, s ∈ Mt61.stepsOf G := fun s m => (List.mem_filter.mp m).1
theorem aBO {fs ds : List Dv} {zs : List Str} (gd : GoodD zs ds) {L : Int} {V0 : List Str} (GG : Gaps V0 (gapsD fs ds L)) {s : Mt22.St} (m : s ∈ Mt61.stepsOf (gapsD fs ds L)) : aBP ds (dQ L s) = mG (gapsD fs ds L) s.nm ∧ s.nm ∈ ds.map aL ∧ eS ds s.nm ≤ L := by
 obtain ⟨g, mg, en, _⟩ := mQ m
 obtain ⟨d, md, hg, rfl, ed⟩ := nX gd mg
 have ec := oA gd.nd md
 have er := aEV gd.nd md
 have cap := lF GG mg
 rw [← en, ← ed]
 rw [← ed] at cap
 refine ⟨?_, List.mem_map.mpr ⟨d, md, rfl⟩, ?_⟩
 ·show uC ds s.nm * (L - eS ds s.nm) = _
  rw [← en, ← ed, cap, ec, er]
  obtain ⟨n, a, b, c, r, sl, rfl, _⟩ := bA (gd.all d md)
  rfl
 ·rw [ec]
  obtain ⟨n, a, b, c, r, sl, rfl, _⟩ := bA (gd.all d md)
  have h1 : c < L := of_decide_eq_true (Bool.and_eq_true_iff.mp (show (decide (c < L) && (lowS fs L a && lowS fs L b)) = true from hg)).1
  show c ≤ L
  omega
theorem pK {fs ds : List Dv} {zs : List Str} (gd : GoodD zs ds) {L : Int} (hL : hgt L = true) {V0 : List Str} (GG : Gaps V0 (gapsD fs ds L)) {R B : List Str} (out : ∀ z ∈ B, z ∉ R) : GoodW ds ((cB (gapsD fs ds L) R B).map (dQ L)) := by
 refine ⟨fun d m => ?_, ?_⟩
 ·obtain ⟨s, ms, rfl⟩ := List.mem_map.mp m
  obtain ⟨_, h2, h3⟩ := aBO gd GG (qS s ms)
  show (decide (s.nm ∈ ds.map aL) && (hgt L && decide (eS ds s.nm ≤ L))) = true
  rw [decide_eq_true h2, hL, decide_eq_true h3]
  rfl
 ·rw [List.map_map]
  exact (aAQ out GG.nd).1
theorem aCC {fs ds : List Dv} {zs : List Str} (gd : GoodD zs ds) {L : Int} {V0 : List Str} (GG : Gaps V0 (gapsD fs ds L)) {f : Fl} {ws R B : List Str} (st : Stream V0 (gapsD fs ds L) ws f) (r : Round (gapsD fs ds L) f ws R B) : zH ds ((cB (gapsD fs ds L) R B).map (dQ L)) = val (gapsD fs ds L) f := by
 rw [← uB GG st r]
 unfold zH
 rw [List.map_map]
 show sm _ _ = _
 exact eU fun s m => (aBO gd GG (qS s m)).1
theorem wO {G : List Gap} {R B : List Str} : (cB G R B).length ≤ 2 * G.length := by
 rw [← oN]
 exact List.length_filter_le _ _
def aFL (f : Fl) (g : Gap) : Dv := .tup [.str g.nm, .int (f g.nm)]
def iX (G : List Gap) (f : Fl) : List Dv := (G.filter fun g => !decide (f g.nm = 0)).map (aFL f)
def aAF (C : Addr) : Sp := sp3 fun x y u H Q => ∃ (p l : Addr) (fs ds : List Dv) (zs : List Str) (L : Int), x = .ref p ∧ LandAt C H p fs ds ∧ y = .ref l ∧ H l = some (.lst (zs.map V.str)) ∧ 1 ≤ zs.length ∧ zs.Nodup ∧ (∀ z ∈ zs, z ∈ fs.map aL) ∧ u = .int L ∧ hgt L = true ∧
 ∀ (t lk la : Addr) (uk ua : List V) (f : Fl) (R B : List Str) (H' : Hp), aK H H' → H t = none → H lk = none → H la = none → lk ≠ la → H' t = some (.tup [.int (val (gapsD fs ds L) f), .ref lk, .ref la]) → H' lk = some (.lst uk) → IsL H' ((cB (gapsD fs ds L) R B).map (dQ L)) uk → H' la = some (.lst ua) → IsL H' (iX (gapsD fs ds L) f) ua → Stream ("sea" :: fs.map aL) (gapsD fs ds L) zs f → Round (gapsD fs ds L) f zs R B → Q (.ref t) H'
theorem aAX (T : Txt K mg C) : Fc P w K mg base 6 "fewest" ["land", "fields", "height"] (aAF C) := by
 have G_p_check_wish : Fc P w K mg base 3 "check_wish" ["land", "fields", "height"] (tM C) := mB T
 have G_p_gap_coins : Fc P w K mg base 4 "gap_coins" ["land", "height"] (aCJ C) := nM T
 have G_p_steps_over : Fc P w K mg base 2 "steps_over" ["land", "names"] (aAA C) := sP T
 have G_p_fullest_stream : Fc P w K mg base 4 "fullest_stream" ["steps", "most", "fields"] aHO := pA T
 have G_p_reached : Fc P w K mg base 2 "reached" ["steps", "most", "stream"] qM := qE T
 have G_p_works_round : Fc P w K mg base 2 "works_round" ["steps", "flowed", "fields", "height"] aHK := qV T
 have G_p_coins_of : Fc P w K mg base 5 "coins_of" ["land", "works"] (wI C) := vX T
 refine T.d_p_fewest.fc gG rA (fun f cdv A outer s H vs Q E hr h => ?_)
 obtain ⟨x, y, u, rfl, p, l, fs, ds, zs, lv, rfl, L, rfl, hl, l1, nd, sub, rfl, hL, q⟩ := h
 have big := bQ
 have hu := gZ hr
 have gf := (bG L).1
 have gd := (bG L).2
 have d2 := gd.l2
 have f2 := gf.l2
 have GG := kF gf gd lv
 have gl := iT fs ds lv
 have v13 : (("sea" : Str) :: fs.map aL).length ≤ 13 := by rw [List.length_cons, List.length_map]; omega
 have ns : Mt22.sea ∉ zs := fun m => by
  obtain ⟨d, md, e⟩ := List.mem_map.mp (sub _ m)
  obtain ⟨z, g, u, rfl, hz, _⟩ := bS (gf.all d md)
  exact oR hz e
 refine ⟨_, (aG (@eQ _ _ _ _ (@bL _ _ _ _ _ _ _ _ _ _ G_p_check_wish (hr.mono (by decide)) (aA (pv 0) (aA (pv 1) (aA (pv 2) aD))) (by rfl) (by decide) (by rfl) (by rfl)) (by rfl)) (aG (@aT _ _ (3) _ _ _ _ gG.nd rfl (Or.inl rfl) (@bL _ _ _ _ _ _ _ _ _ _ G_p_gap_coins (hr.mono (by decide)) (aA (pv 0) (aA (pv 2) aD)) (by rfl) (by decide) (by rfl) (by rfl)) (by rfl) (by trivial)) (aG (@aT _ _ (4) _ _ _ _ gG.nd rfl (Or.inl rfl) (@bL _ _ _ _ _ _ _ _ _ _ G_p_steps_over (hr.mono (by decide)) (aA (pv 0) (aA (pv 3) aD)) (by rfl) (by decide) (by rfl) (by rfl)) (by rfl) (by trivial)) (aG (@aT _ _ (5) _ _ _ _ gG.nd rfl (Or.inr rfl) (@bL _ _ _ _ _ _ _ _ _ _ G_p_fullest_stream (hr.mono (by decide)) (aA (pv 4) (aA (pv 3) (aA (pv 1) aD))) (by rfl) (by decide) (by rfl) (by rfl)) (by rfl) (by trivial)) (aG (@aT _ _ (6) _ _ _ _ gG.nd rfl (Or.inl rfl) (@bL _ _ _ _ _ _ _ _ _ _ G_p_works_round (hr.mono (by decide)) (aA (pv 4) (aA (@bL _ _ _ _ _ _ _ _ _ _ G_p_reached (hr.mono (by decide)) (aA (pv 4) (aA (pv 3) (aA (pv 5) aD))) (by rfl) (by decide) (by rfl) (by rfl)) (aA (pv 1) (aA (pv 2) aD)))) (by rfl) (by decide) (by rfl) (by rfl)) (by rfl) (by trivial)) (aG (@jS _ (7) _ _ _ _ _ _ _ _ _ _ _ _ _ gG.nd rfl ["name", "stream"] 1 [5] rfl (@tG _ _ _ _ (pv 5)) (fun R => @aO _ _ (0) _ (show List.Nodup (["name", "stream"] : List Str) by decide +kernel) rfl (Or.inl rfl) (by trivial)) (@aW _ _ (by decide)) (fun R => @eI _ _ _ (@bE _ _ _ _ _ _ _ _ lZ (@dN _ _ _ _ _ _ hu (pv 1) (pv 0) (fun _ _ => rfl)) aE (@bI _ _ (by decide) (by decide)))) (fun R => (@fF _ _ _ _ _ (aA (pv 0) (aA (@dN _ _ _ _ _ _ hu (pv 1) (pv 0) (fun _ _ => rfl)) aD)))) (by exact Or.inl rfl) (by trivial) (by rfl) (by rfl) (by rfl) (by rfl) (by rfl) (by rfl) (by rfl) (by rfl) (by intro _; rfl)) (aH (@aS _ _ _ _ (@fF _ _ _ _ _ (aA (@bL _ _ _ _ _ _ _ _ _ _ G_p_coins_of (hr.mono (by decide)) (aA (pv 0) (aA (pv 6) aD)) (by rfl) (by decide) (by rfl) (by rfl)) (aA (pv 6) (aA (pv 7) aD)))))))))))), ?_⟩
 refine ⟨_, rfl, _, rfl, _, rfl, _, _, _, rfl, p, l, fs, ds, zs, lv, rfl, L, rfl, hl, l1, nd, sub, rfl, hL, fun H1 S1 => ?_⟩
 refine ⟨_, rfl, _, rfl, _, _, rfl, p, fs, ds, lv, rfl, L.same S1, rfl, fun dm H2 S2 nm2 hm2 => ?_⟩
 have T2 := S1.trans S2
 refine ⟨_, rfl, _, rfl, _, _, rfl, p, dm, fs, ds, lv, rfl, L.same T2, rfl, hm2, fun o ls us H3 S3 nls hls ius => ?_⟩
 have nmH : H dm = none := S1.free nm2
 have T3 : aK H H3 := fun b u e => S3 _ _ (by rw [aQ (fun c => by rw [c, nmH] at e; cases e)]; exact T2 _ _ e)
 have hm3 : H3 dm = some (.frz o (.dK (cM (gapsD fs ds lv)))) := S3 _ _ aF
 refine ⟨_, rfl, _, rfl, _, rfl, _, _, _, rfl, ls, dm, l, o, us, "sea" :: fs.map aL, gapsD fs ds lv, zs, rfl, hls, ius, by omega, v13, GG, rfl, hm3, rfl, T3 _ _ hl, ns, fun de fl H4 S4 nde hde st en => ?_⟩
 have T4 := T3.trans S4
 have ius4 := IsL.same S4 _ _ ius
 refine ⟨_, rfl, _, rfl, _, rfl, _, rfl, _, _, _, rfl, ls, dm, de, us, "sea" :: fs.map aL, gapsD fs ds lv, fl, rfl, S4 _ _ hls, ius4, by omega, v13, GG, rfl, .inr ⟨o, S4 _ _ hm3⟩, rfl, .inl hde, fun df cm kvs H5 S5 ndf hdf ck cg op l13 => ?_⟩
 have T5 := T4.trans S5
 refine ⟨_, rfl, _, rfl, _, _, _, _, ls, df, l, us, "sea" :: fs.map aL, gapsD fs ds lv, kvs, cm, zs, lv, rfl, rfl, (S4.trans S5) _ _ hls, IsL.same S5 _ _ ius4, by omega, v13, GG, rfl, .inl hdf, ck, rfl, T5 _ _ hl, nd, fun z m => List.mem_cons_of_mem _ (sub z m), rfl, fun cmB lk uk H6 S6 nlk hlk iuk cgB opB => ?_⟩
 have rd := aIB GG en cg op cgB opB
 have T6 := T5.trans S6
 have hde6 := (S5.trans S6) _ _ hde
 have ndeH : H de = none := T3.free nde
 refine ⟨_, rfl, de, _, rfl, hde6, fun o2 => ?_⟩
 have T7 : aK H (upd H6 de (.frz o2 (.dK (bW (gapsD fs ds lv) fl)))) := T6.over ndeH
 have K7 : hG H6 (upd H6 de (.frz o2 (.dK (bW (gapsD fs ds lv) fl)))) := fun b ys e => by
  rw [aQ (fun c => by rw [c, hde6] at e; cases e)]
  exact e
 have iuk7 : IsL (upd H6 de (.frz o2 (.dK (bW (gapsD fs ds lv) fl)))) ((cB (gapsD fs ds lv) (keys cm) (keys cmB)).map (dQ lv)) uk := IsL.keep K7 _ _ (eJ fun d m => by obtain ⟨s, _, rfl⟩ := List.mem_map.mp m; rfl) iuk
 have hlk7 : upd H6 de (.frz o2 (.dK (bW (gapsD fs ds lv) fl))) lk = some (.lst uk) := by rw [aQ (mC hlk hde6 (by intro c; cases c))]; exact hlk
 have dF : upd H6 de (.frz o2 (.dK (bW (gapsD fs ds lv) fl))) de = some (.frz o2 (.dK (bW (gapsD fs ds lv) fl))) := aF
 generalize upd H6 de (.frz o2 (.dK (bW (gapsD fs ds lv) fl))) = H7 at T7 iuk7 hlk7 dF
 refine oY (by rw [lD]; omega) (fun i ys H' => aK H7 H' ∧ IsL H' (iX ((gapsD fs ds lv).take i) fl) ys) ⟨aK.refl _, rfl⟩ ?_ ?_ ?_
 ·rintro i ys H' hi ⟨S', iy⟩
  refine ⟨S' _ _ dF, ?_⟩
  have := iy.length
  unfold iX at this
  have := List.length_filter_le (fun g : Gap => !decide (fl g.nm = 0)) ((gapsD fs ds lv).take i)
  rw [List.length_take] at this
  rw [List.length_map] at *
  omega
 ·rintro i kv ys H' K1 K2 hk ⟨S', iy⟩ k1 k2
  unfold bW at hk
  rw [List.getElem?_map] at hk
  obtain ⟨g, eg, ekv⟩ := Option.map_eq_some_iff.mp hk
  have mg' := List.mem_of_getElem? eg
  have ek : kV kv.1 = V.str g.nm := by rw [← ekv]; rfl
  rw [ek]
  have v2 : eT (bW (gapsD fs ds lv) fl) (Sum.inr g.nm) = some (.int (fl g.nm)) := sC (f := fun g => V.int (fl g.nm)) GG.nd mg'
  have et := jF (P := fun g : Gap => !decide (fl g.nm = 0)) eg
  refine ⟨_, rfl, _, rfl, de, _, rfl, .inl ⟨_, Sum.inr g.nm, .inr ⟨o2, S' _ _ dF⟩, rfl, v2.symm⟩, rfl, _, rfl, ?_⟩
  rw [jD]
  cases hg : (!decide (fl g.nm = 0)) with
  | false =>
   rw [hg] at et
   refine bM (k2 _ ⟨S', ?_⟩)
   unfold iX at iy ⊢
   rw [et]
   simpa using iy
  | true =>
   rw [hg] at et
   refine dO ⟨_, rfl, _, rfl, _, rfl, de, _, rfl, .inl ⟨_, Sum.inr g.nm, .inr ⟨o2, S' _ _ dF⟩, rfl, v2.symm⟩, aY rfl, fun ta hta => k1 _ _ ⟨S'.trans (aK.upd hta), ?_⟩⟩
   unfold iX
   rw [et, if_pos rfl, List.map_append]
   exact IsL.snoc (show Is _ (aFL fl g) (.ref ta) from ⟨ta, _, rfl, aF, _, _, rfl, rfl, _, _, rfl, rfl, rfl⟩) (IsL.same (aK.upd hta) _ _ iy)
 rintro ua H8 ⟨S8, iua⟩
 rw [lD, List.take_of_length_le (Nat.le_refl _)] at iua
 intro la hla
 have S9 := aK.upd (o := .lst ua) hla
 have r9 : upd H8 la (.lst ua) la = some (.lst ua) := aF
 have T9 := T7.trans (S8.trans S9)
 have nla := (T7.trans S8).free hla
 have U9 := S8.trans S9
 have iua9 := IsL.same S9 _ _ iua
 have nlka : lk ≠ la := aV (S8 _ _ hlk7) hla
 generalize upd H8 la (.lst ua) = H9 at S9 r9 T9 U9 iua9
 have iuk9 := IsL.same U9 _ _ iuk7
 have hlk9 := U9 _ _ hlk7
 have rl := wO (G := gapsD fs ds lv) (R := keys cm) (B := keys cmB)
 refine ⟨_, rfl, _, rfl, _, _, rfl, p, fs, ds, (cB (gapsD fs ds lv) (keys cm) (keys cmB)).map (dQ lv), rfl, L.same T9, ⟨lk, uk, rfl, hlk9, iuk9⟩, by rw [List.length_map]; omega, pK gd hL GG rd.bout, _, rfl, _, rfl, aY rfl, fun t ht => ?_⟩
 have S10 := aK.upd (o := .tup [.int (zH ds ((cB (gapsD fs ds lv) (keys cm) (keys cmB)).map (dQ lv))), .ref lk, .ref la]) ht
 refine q t lk la uk ua fl (keys cm) (keys cmB) _ (T9.trans S10) (T9.free ht) (T5.free nlk) nla nlka ?_ (S10 _ _ hlk9) (IsL.same S10 _ _ iuk9) (S10 _ _ r9) (IsL.same S10 _ _ iua9) st rd
 rw [aF, aCC gd GG st rd]
open Mt22 MtF Mt51
def aHR (K : PySem.W.Frag) : Sp := sp1 fun x H Q => ∃ (lg : Addr) (us : List V) (G : List Gp) (V0 : List Str), x = .ref lg ∧ H lg = some (.lst us) ∧ IsL H (G.map lB) us ∧ G.length ≤ 40 ∧ V0.length ≤ 13 ∧ Mt22.sea ∈ V0 ∧ (∀ g ∈ G, g.one ∈ V0 ∧ g.other ∈ V0) ∧
 ∀ (l : Addr) (zs : List Str) (H' : Hp), aK H H' → H l = none → H' l = some (.lst (zs.map V.str)) → zs.length ≤ 13 → (∀ z, z ∈ zs ↔ Reach G z) → Q (.ref l) H'
theorem zF {H : Hp} {g : Gp} {v : V} (h : Is H (lB g) v) : ∃ t, v = .ref t ∧ H t = some (.tup [.str g.nm, .str g.one, .str g.other, .int g.coins]) := by
 obtain ⟨t, us, rfl, o, v0, r0, rfl, i0, v1, r1, rfl, i1, v2, r2, rfl, i2, v3, r3, rfl, i3, h0⟩ := h
 cases (show r3 = [] from h0)
 cases (show v0 = _ from i0)
 cases (show v1 = _ from i1)
 cases (show v2 = _ from i2)
 cases (show v3 = _ from i3)
 exact ⟨t, rfl, o⟩
theorem aGF (T : Txt K mg C) : Fc P w K mg base 1 "_law_come" ["_law_gaps_here"] (aHR K) := by
 refine T.d_l_come.fc eM mI (fun f cdv A outer s H vs Q E hr h => ?_)
 obtain ⟨x, rfl, lg, us, G, V0, rfl, hlg, ius, lG, lV, sV, sub, q⟩ := h
 have big := bQ
 have lus := ius.length
 rw [List.length_map] at lus
 refine ⟨_, (aG (@aT _ _ (1) _ _ _ _ eM.nd rfl (Or.inl rfl) (@dL _ _ _ _ (aA qT aD)) (by rfl) (by trivial)) (aG (@aT _ _ (2) _ _ _ _ eM.nd rfl (Or.inl rfl) aE (by rfl) (by trivial)) (aG (@pZ _ _ _ _ _ _ PassesOwn.never (@bE _ _ _ _ _ _ _ _ pB (pv 2) (@aU _ _ _ _ _ _ _ _ _ (@bH _ (K) rfl) rfl T.n_len cA (aA (pv 1) aD) (by decide) (by decide) (by rfl) (by rfl)) (@bI _ _ (by decide) (by decide))) (aG (@eN _ _ _ _ _ _ _ _ PassesOwn.never rfl (@bF _ _ _ _ (pv 0)) (@nG _ _ _ _ _ _ rfl (@bX _ _ _ _ _ (@aO _ _ (3) _ eM.nd rfl (Or.inl rfl) (by trivial)) (@bX _ _ _ _ _ (@aO _ _ (4) _ eM.nd rfl (Or.inl rfl) (by trivial)) (@bX _ _ _ _ _ (@aO _ _ (5) _ eM.nd rfl (Or.inl rfl) (by trivial)) (@bX _ _ _ _ _ (@aO _ _ (6) _ eM.nd rfl (Or.inl rfl) (by trivial)) kC (by rfl)) (by rfl)) (by rfl)) (by rfl)) (by rfl) (by rfl)) (aH (@eN _ _ _ _ _ _ _ _ PassesOwn.never rfl (@bF _ _ _ _ (@dL _ _ _ _ (aA (@fF _ _ _ _ _ (aA (pv 4) (aA (pv 5) aD))) (aA (@fF _ _ _ _ _ (aA (pv 5) (aA (pv 4) aD))) aD)))) (@nG _ _ _ _ _ _ rfl (@bX _ _ _ _ _ (@aO _ _ (7) _ eM.nd rfl (Or.inl rfl) (by trivial)) (@bX _ _ _ _ _ (@aO _ _ (8) _ eM.nd rfl (Or.inl rfl) (by trivial)) kC (by rfl)) (by rfl)) (by rfl) (by rfl)) (aH (@cW _ _ _ _ _ _ _ _ (@PW.pt _ _ _ (@pN _ _ _ _ _ _ _ (@bE _ _ _ _ _ _ _ _ nK (pv 7) (@aX _ _ _ _ _ _ _ (@cS _ (K) rfl) (pv 1) (pv 2) (fun _ _ => rfl)) (@bI _ _ (by decide) (by decide))) (@oT _ _ _ _ (@bE _ _ _ _ _ _ _ _ (@iG _ (K) rfl) (pv 8) (pv 1) (by with_unfolding_all rfl))))) (aH (@eQ _ _ _ _ (@lX _ _ _ _ _ _ _ _ _ _ _ _ PySem.F.plainAttrs_list PySem.F.slot_list_append PySem.F.type_list_append dX (pv 1) (aA (pv 8) aD) (by rfl) (by rfl) (by rfl) (by rfl) (by rfl)) (by rfl))) bP)) (by intro _; rfl))) (by intro _; rfl)) (aH (@aT _ _ (2) _ _ _ _ eM.nd rfl (Or.inl rfl) (@aJ _ _ _ _ _ _ _ _ dM (pv 2) aE) (by rfl) (by trivial))))) (aH (@aS _ _ _ _ (pv 1)))))), ?_⟩
 refine ⟨aY rfl, fun lc hlc => ?_⟩
 have S1 := aK.upd (o := .lst [.str "sea"]) hlc
 have h1 : upd H lc (.lst [.str "sea"]) lc = some (.lst (([Mt22.sea] : List Str).map V.str)) := aF
 generalize upd H lc (.lst [.str "sea"]) = H1 at S1 h1
 have nlg : lc ≠ lg := fun e => by rw [e, hlg] at hlc; cases hlc
 have g0 : Grow G V0 [Mt22.sea] := ⟨by simp, (fun z m => by rw [List.mem_singleton.mp m]; exact sV), List.mem_singleton.mpr rfl, (fun z m => by rw [List.mem_singleton.mp m]; exact .sea)⟩
 refine pS (fun σ H' => ∃ (k : Nat) (zs : List Str) (v3 v4 v5 v6 v7 v8 : Option V), σ = [some (.ref lg), some (.ref lc), some (.int k), v3, v4, v5, v6, v7, v8] ∧ aK H H' ∧ H' lc = some (.lst (zs.map V.str)) ∧ k ≤ zs.length ∧ Grow G V0 zs ∧ oM G zs k)
  (fun σ _ => match σ with | [_, _, some (.int k), _, _, _, _, _, _] => 14 - k.toNat | _ => 0) ⟨0, [Mt22.sea], _, _, _, _, _, _, rfl, S1, h1, Nat.zero_le _, g0, (fun i u hi => absurd hi (by omega))⟩ ?_ ?_
 ·rintro σ H2 ⟨k, zs, v3, v4, v5, v6, v7, v8, rfl, S2, h2, hk, gr, cl⟩
  have lzs : zs.length ≤ 13 := Nat.le_trans (kK gr.nd gr.sub) lV
  have hus := S2 _ _ hlg
  refine ⟨_, rfl, _, rfl, lc, _, rfl, .inl (SqL.of h2), _, _, rfl, rfl, _, rfl, ?_⟩
  rw [List.length_map]
  refine gW (fun c1 => ?_) (fun c1 => ?_)
  ·have hk1 : k < zs.length := by
    have := of_decide_eq_true c1
    omega
   obtain ⟨u, eu⟩ : ∃ u, zs[k]? = some u := ⟨_, List.getElem?_eq_getElem hk1⟩
   refine ⟨_, rfl, lg, rfl, ⟨_, SqL.of hus⟩, eL (K := K) (a := lg) (xs := us)
    (fun i σ H' => ∃ (v3 v4 v5 v6 v7 v8 : Option V) (more : List Str), σ = [some (.ref lg), some (.ref lc), some (.int k), v3, v4, v5, v6, v7, v8] ∧ aK H H' ∧ H' lc = some (.lst ((zs ++ more).map V.str)) ∧ Grow G V0 (zs ++ more) ∧ ∀ g ∈ G.take i, Nbr (zs ++ more) u g)
    ⟨_, _, _, _, _, _, [], rfl, S2, by rw [List.append_nil]; exact h2, by rw [List.append_nil]; exact gr, (fun g m => by cases m)⟩ (fun i σ H' _ ⟨_, _, _, _, _, _, _, _, S, _⟩ => SqL.of (S _ _ hlg)) ?_ ?_⟩
   ·rintro i xv σ H3 hi ⟨w3, w4, w5, w6, w7, w8, more, rfl, S3, h3, gr3, nb3⟩
    have hil : i < us.length := (List.getElem?_eq_some_iff.mp hi).1
    obtain ⟨g, eg⟩ : ∃ g, G[i]? = some g := ⟨_, List.getElem?_eq_getElem (by omega)⟩
    obtain ⟨v, ev, iv⟩ := ius.get (show (G.map lB)[i]? = some (lB g) by rw [List.getElem?_map, eg]; rfl)
    rw [hi] at ev
    cases ev
    have mg' := List.mem_of_getElem? eg
    obtain ⟨t, rfl, o⟩ := zF iv
    have o3 := S3 _ _ o
    have et : G.take (i + 1) = G.take i ++ [g] := by rw [List.take_add_one, eg]; rfl
    refine ⟨t, _, rfl, SqT.of o3, rfl, _, _, rfl, _, _, rfl, _, _, rfl, _, _, rfl, rfl, ?_⟩
    refine ⟨_, rfl, _, rfl, aY rfl, fun q1 hq1 => ?_⟩
    have R1 := aK.upd (o := .tup [.str g.one, .str g.other]) hq1
    refine ⟨_, rfl, _, rfl, aY rfl, fun q2 hq2 => ?_⟩
    have R2 := aK.upd (o := .tup [.str g.other, .str g.one]) hq2
    refine ⟨aY rfl, fun q3 hq3 => ?_⟩
    have R3 := aK.upd (o := .lst [.ref q1, .ref q2]) hq3
    have R := R1.trans (R2.trans R3)
    have g1 : upd (upd (upd H3 q1 (.tup [.str g.one, .str g.other])) q2 (.tup [.str g.other, .str g.one])) q3 (.lst [.ref q1, .ref q2]) q1 = some (.tup [.str g.one, .str g.other]) := (R2.trans R3) _ _ aF
    have g2 : upd (upd (upd H3 q1 (.tup [.str g.one, .str g.other])) q2 (.tup [.str g.other, .str g.one])) q3 (.lst [.ref q1, .ref q2]) q2 = some (.tup [.str g.other, .str g.one]) := R3 _ _ aF
    have g3 : upd (upd (upd H3 q1 (.tup [.str g.one, .str g.other])) q2 (.tup [.str g.other, .str g.one])) q3 (.lst [.ref q1, .ref q2]) q3 = some (.lst [.ref q1, .ref q2]) := aF
    have nq3 : lc ≠ q3 := aV ((R1.trans R2) _ _ h3) hq3
    have S4 := S3.trans R
    have h4 := R _ _ h3
    generalize upd (upd (upd H3 q1 (.tup [.str g.one, .str g.other])) q2 (.tup [.str g.other, .str g.one])) q3 (.lst [.ref q1, .ref q2]) = H4 at g1 g2 g3 S4 h4
    refine ⟨q3, rfl, ⟨_, SqL.of g3⟩, eL (K := K) (a := q3) (xs := [.ref q1, .ref q2])
     (fun j σ H' => ∃ (v7 v8 : Option V) (more : List Str), σ = [some (.ref lg), some (.ref lc), some (.int k), some (.str g.nm), some (.str g.one), some (.str g.other), some (.int g.coins), v7, v8] ∧ aK H H' ∧ H' q1 = some (.tup [.str g.one, .str g.other]) ∧ H' q2 = some (.tup [.str g.other, .str g.one]) ∧ H' q3 = some (.lst [.ref q1, .ref q2]) ∧ H' lc = some (.lst ((zs ++ more).map V.str)) ∧ Grow G V0 (zs ++ more) ∧ (∀ g ∈ G.take i, Nbr (zs ++ more) u g) ∧ (0 < j → u = g.one → g.other ∈ zs ++ more) ∧ (1 < j → u = g.other → g.one ∈ zs ++ more))
     ⟨_, _, more, rfl, S4, g1, g2, g3, h4, gr3, nb3, (fun h => absurd h (by omega)), (fun h => absurd h (by omega))⟩ (fun j σ H' _ ⟨_, _, _, _, _, _, _, e, _⟩ => SqL.of e) ?_ ?_⟩
    ·rintro j yv σ H5 hj ⟨x7, x8, mo, rfl, S5, g15, g25, g35, h5, gr5, nb5, n1, n2⟩
     have hj2 : j < 2 := (List.getElem?_eq_some_iff.mp hj).1
     have lmo : (zs ++ mo).length ≤ 13 := Nat.le_trans (kK gr5.nd gr5.sub) lV
     obtain ⟨qq, side, there, rfl, hq, hside, hthere, hr, done⟩ : ∃ (qq : Addr) (side there : Str), yv = .ref qq ∧ H5 qq = some (.tup [.str side, .str there]) ∧ side ∈ V0 ∧ there ∈ V0 ∧ (Reach G side → Reach G there) ∧
       ∀ ys : List Str, (∀ z ∈ zs ++ mo, z ∈ ys) → (u = side → there ∈ ys) → (0 < j + 1 → u = g.one → g.other ∈ ys) ∧ (1 < j + 1 → u = g.other → g.one ∈ ys) := by
      match j, hj2 with
      | 0, _ =>
       cases hj
       exact ⟨q1, g.one, g.other, rfl, g15, (sub g mg').1, (sub g mg').2, Reach.fwd mg', fun ys h e => ⟨fun _ => e, fun h => absurd h (by omega)⟩⟩
      | 1, _ =>
       cases hj
       exact ⟨q2, g.other, g.one, rfl, g25, (sub g mg').2, (sub g mg').1, Reach.bwd mg', fun ys h e => ⟨fun _ e' => h _ (n1 (by omega) e'), fun _ => e⟩⟩
     have euk : (zs ++ mo)[k]? = some u := by rw [List.getElem?_append_left hk1]; exact eu
     have euv : ((zs ++ mo).map V.str)[k]? = some (V.str u) := by rw [List.getElem?_map, euk]; rfl
     have ru : Reach G u := gr5.sound u (List.mem_of_getElem? euk)
     refine ⟨qq, _, rfl, SqT.of hq, rfl, _, _, rfl, _, _, rfl, rfl, ?_⟩
     refine ⟨_, rfl, _, rfl, _, rfl, lc, _, _, .str u, rfl, rfl, SqL.of h5, aI euv, rfl, _, rfl, ?_⟩
     rw [oX]
     refine gW (fun c2 => ?_) (fun c2 => ?_)
     ·have e2 : side = u := of_decide_eq_true c2
      refine ⟨_, rfl, _, rfl, lc, _, rfl, .inl (SqL.of h5), rfl, dY _, _, rfl, ?_⟩
      rw [if_pos rfl, gY]
      refine gW (fun c3 => ?_) (fun c3 => ?_)
      ·have fresh : ¬ there ∈ zs ++ mo := fun m => by rw [decide_eq_true m] at c3; cases c3
       refine ⟨_, rfl, .inl ⟨rfl, _, SqL.of h5⟩, _, rfl, lc, _, .str there, rfl, rfl, h5, by rw [List.length_map]; omega, ?_⟩
       have e5 : (zs ++ mo).map V.str ++ [V.str there] = (zs ++ (mo ++ [there])).map V.str := by rw [← List.append_assoc, List.map_append (l₂ := [there])]; rfl
       rw [e5]
       have gr6 := gr5.snoc fresh hthere (hr (e2 ▸ ru))
       rw [List.append_assoc] at gr6
       have mem6 : ∀ z ∈ zs ++ mo, z ∈ zs ++ (mo ++ [there]) := fun z m => by rw [← List.append_assoc]; exact List.mem_append_left _ m
       have th6 : there ∈ zs ++ (mo ++ [there]) := by rw [← List.append_assoc]; exact List.mem_append_right _ (List.mem_singleton.mpr rfl)
       obtain ⟨d1, d2⟩ := done (zs ++ (mo ++ [there])) mem6 (fun _ => th6)
       refine ⟨_, _, mo ++ [there], rfl, S5.over hlc, ?_, ?_, ?_, aF, gr6, fun g m => ?_, d1, d2⟩
       ·rw [aQ (fun e => by rw [e, h5] at g15; cases g15)]; exact g15
       ·rw [aQ (fun e => by rw [e, h5] at g25; cases g25)]; exact g25
       ·rw [aQ (Ne.symm nq3)]; exact g35
       ·rw [← List.append_assoc]; exact (nb5 g m).snoc [there]
      ·have old : there ∈ zs ++ mo := by
        by_cases h : there ∈ zs ++ mo
        ·exact h
        ·rw [decide_eq_false h] at c3; exact absurd rfl c3
       obtain ⟨d1, d2⟩ := done (zs ++ mo) (fun z m => m) (fun _ => old)
       exact ⟨_, _, mo, rfl, S5, g15, g25, g35, h5, gr5, nb5, d1, d2⟩
     ·have e2 : ¬ u = side := fun e => c2 (decide_eq_true e.symm)
      obtain ⟨d1, d2⟩ := done (zs ++ mo) (fun z m => m) (fun e => absurd e e2)
      exact ⟨_, _, mo, rfl, S5, g15, g25, g35, h5, gr5, nb5, d1, d2⟩
    ·rintro σ H5 ⟨x7, x8, mo, rfl, S5, g15, g25, g35, h5, gr5, nb5, n1, n2⟩
     refine ⟨_, _, _, _, _, _, mo, rfl, S5, h5, gr5, fun g' m => ?_⟩
     rw [et] at m
     rcases List.mem_append.mp m with m | m
     ·exact nb5 g' m
     ·rw [List.mem_singleton.mp m]
      exact ⟨n1 (by show 0 < 2; omega), n2 (by show 1 < 2; omega)⟩
   ·rintro σ H3 ⟨w3, w4, w5, w6, w7, w8, more, rfl, S3, h3, gr3, nb3⟩
    rw [List.take_of_length_le (by omega)] at nb3
    have lm : (zs ++ more).length ≤ 13 := Nat.le_trans (kK gr3.nd gr3.sub) lV
    have lz : zs.length ≤ (zs ++ more).length := by rw [List.length_append]; omega
    refine ⟨_, rfl, _, _, rfl, rfl, ⟨k + 1, zs ++ more, _, _, _, _, _, _, rfl, S3, h3, by omega, gr3, fun i u' hi e g m => ?_⟩, ?_⟩
    ·by_cases hik : i < k
     ·exact (cl.snoc (by omega) more) i u' hik e g m
     ·have : i = k := by omega
      subst this
      rw [List.getElem?_append_left hk1, eu] at e
      cases e
      exact nb3 g m
    ·show 14 - ((k : Int) + 1).toNat < 14 - (k : Int).toNat
     omega
  ·have hk1 : k = zs.length := by
    by_cases h : k < zs.length
    ·exact absurd (decide_eq_true (by omega)) c1
    ·omega
   subst hk1
   exact ⟨_, rfl, q lc zs H2 S2 hlc h2 lzs (aDY gr cl)⟩
 ·intro σ H Q Q' h hc
  obtain ⟨v, e, w, e2, p, ys, e3, hq, i, j, e4, e5, k, e6, q⟩ := hc
  exact ⟨v, e, w, e2, p, ys, e3, hq, i, j, e4, e5, k, e6, h _ _ q⟩
open Mt53 Mt22 MtF Mt31 Mt61 Mt51
def toG (g : Gp) : Gap := ⟨g.nm, g.one, g.other, g.coins⟩
theorem wZ {fs ds : List Dv} (gf : GoodF fs) (gd : GoodD ("sea" :: fs.map aL) ds) (L : Int) : (Mt51.gapsD fs ds L).map toG = gapsD fs ds L := by
 unfold Mt51.gapsD gapsD
 rw [List.map_map]
 have e : ds.filter (qI fs L) = ds.filter (isG fs L) := by
  refine List.filter_congr fun d md => ?_
  obtain ⟨n, a, b, c, r, s, rfl, _, ha, hb, _⟩ := bA (gd.all d md)
  have low : ∀ z : Str, z ∈ (("sea" : Str) :: fs.map aL) → decide (z ∈ Mt51.lowS fs L) = lowS fs L z := fun z mz => by
   unfold lowS
   by_cases hz : z = "sea"
   ·rw [decide_eq_true hz, decide_eq_true (show z ∈ Mt51.lowS fs L by rw [hz]; exact List.mem_cons_self)]
    rfl
   ·have mf : z ∈ fs.map aL := by
     rcases List.mem_cons.mp mz with h | h
     ·exact absurd h hz
     ·exact h
    rw [decide_eq_false hz, Bool.false_or]
    by_cases hm : z ∈ Mt51.lowS fs L
    ·rw [decide_eq_true hm, decide_eq_true (aDL gf hm hz)]
    ·rw [decide_eq_false hm, decide_eq_false fun h => hm (aDO gf mf h)]
  show (decide (c < L) && (decide (a ∈ Mt51.lowS fs L) && decide (b ∈ Mt51.lowS fs L))) = (decide (c < L) && (lowS fs L a && lowS fs L b))
  rw [low a ha, low b hb]
 rw [e]
 refine List.map_congr_left fun d md => ?_
 obtain ⟨n, a, b, c, r, s, rfl, _⟩ := bA (gd.all d (List.mem_filter.mp md).1)
 rfl
def aPL (fs ds : List Dv) (L : Int) (B : Str → Bool) : Prop := B Mt22.sea = false ∧ ∀ d ∈ ds, isG fs L d = true → B (aAU d) = B (nH d)
theorem aNJ {fs : List Dv} {L : Int} {n a b : Str} {c r : Int} {s : Dv} (h1 : c < L) (ha : a = "sea" ∨ eK fs a < L) (hb : b = "sea" ∨ eK fs b < L) : isG fs L (.tup [.str n, .str a, .str b, .int c, .int r, s]) = true := by
 show (decide (c < L) && (lowS fs L a && lowS fs L b)) = true
 have low : ∀ z : Str, z = "sea" ∨ eK fs z < L → lowS fs L z = true := fun z h => by
  unfold lowS
  rcases h with h | h
  ·rw [decide_eq_true h]; rfl
  ·rw [decide_eq_true h, Bool.or_true]
 rw [decide_eq_true h1, low a ha, low b hb]
 rfl
theorem aNI {fs : List Dv} {L : Int} {n a b : Str} {c r : Int} {s : Dv} (h : isG fs L (.tup [.str n, .str a, .str b, .int c, .int r, s]) = true) : c < L ∧ (a = "sea" ∨ eK fs a < L) ∧ (b = "sea" ∨ eK fs b < L) := by
 have h1 := Bool.and_eq_true_iff.mp (show (decide (c < L) && (lowS fs L a && lowS fs L b)) = true from h)
 have h2 := Bool.and_eq_true_iff.mp h1.2
 have low : ∀ z : Str, lowS fs L z = true → z = "sea" ∨ eK fs z < L := fun z h => by
  unfold lowS at h
  rcases Bool.or_eq_true_iff.mp h with h | h
  ·exact .inl (of_decide_eq_true h)
  ·exact .inr (of_decide_eq_true h)
 exact ⟨of_decide_eq_true h1.1, low a h2.1, low b h2.2⟩
theorem aMZ {fs ds wk : List Dv} (gd : GoodD ("sea" :: fs.map aL) ds) (gw : GoodW ds wk) {d : Dv} (md : d ∈ ds) {L : Int} (h : isG fs L (aBB wk d) = true) : isG fs L d = true ∧ aAU (aBB wk d) = aAU d ∧ nH (aBB wk d) = nH d ∧ ∀ v, wAt wk (aL d) = some v → v < L := by
 have ec := oA gd.nd md
 obtain ⟨n, a, b, c, r, sl, rfl, _⟩ := bA (gd.all d md)
 obtain ⟨q1, q2, q3⟩ := aNI (show isG fs L (.tup [.str n, .str a, .str b, .int ((wAt wk n).getD c), .int r, sl]) = true from h)
 have ec' : eS ds n = c := ec
 refine ⟨aNJ ?_ q2 q3, rfl, rfl, fun v e => ?_⟩
 ·cases e : wAt wk n with
  | none => rw [e] at q1; exact q1
  | some v =>
   have := (zS gw e).2
   rw [e] at q1
   have q1' : v < L := q1
   omega
 ·have e' : wAt wk n = some v := e
  rw [e'] at q1
  exact q1
theorem aCV {fs ds : List Dv} (gf : GoodF fs) (gd : GoodD ("sea" :: fs.map aL) ds) {L : Int} (hL : hgt L = true) {f : Fl} {ws R B : List Str} (st : Stream ("sea" :: fs.map aL) (gapsD fs ds L) ws f) (r : Round (gapsD fs ds L) f ws R B) : aPL fs (jA ds ((cB (gapsD fs ds L) R B).map (dQ L))) L (inB B) := by
 have GG := kF gf gd L
 have gw := pK gd hL GG (R := R) (B := B) r.bout
 refine ⟨decide_eq_false fun m => r.bout _ m r.sea, fun d' md' hg => ?_⟩
 obtain ⟨d, md, rfl⟩ := List.mem_map.mp md'
 obtain ⟨g1, e1, e2, hv⟩ := aMZ gd gw md hg
 rw [e1, e2]
 have mg : gOf L d ∈ gapsD fs ds L := List.mem_map.mpr ⟨d, List.mem_filter.mpr ⟨md, g1⟩, rfl⟩
 have hwk : ∀ s ∈ cB (gapsD fs ds L) R B, s.nm = aL d → False := fun s ms en => by
  have nd := gw.nd
  have mw : dQ L s ∈ (cB (gapsD fs ds L) R B).map (dQ L) := List.mem_map.mpr ⟨s, ms, rfl⟩
  have : wAt ((cB (gapsD fs ds L) R B).map (dQ L)) (aL d) = some L := by
   unfold wAt
   rw [← en, show s.nm = aL (dQ L s) from rfl, aFF nd mw]
   rfl
  have := hv L this
  omega
 obtain ⟨x1, x2⟩ := lM GG st.fits r mg
 obtain ⟨n, a, b, c, r', sl, rfl, _⟩ := bA (gd.all d md)
 show decide (a ∈ B) = decide (b ∈ B)
 by_cases ha : a ∈ B <;> by_cases hb : b ∈ B
 ·rw [decide_eq_true ha, decide_eq_true hb]
 ·exfalso
  have bR := (x2 ha hb).1
  exact hwk (dn (gOf L (.tup [.str n, .str a, .str b, .int c, .int r', sl]))) (List.mem_filter.mpr ⟨Mt61.mem_steps.mpr ⟨_, mg, .inr rfl⟩, by
   rw [Bool.and_eq_true]
   exact ⟨decide_eq_true bR, decide_eq_true ha⟩⟩) rfl
 ·exfalso
  have aR := (x1 ha hb).1
  exact hwk (up (gOf L (.tup [.str n, .str a, .str b, .int c, .int r', sl]))) (List.mem_filter.mpr ⟨Mt61.mem_steps.mpr ⟨_, mg, .inl rfl⟩, by
   rw [Bool.and_eq_true]
   exact ⟨decide_eq_true aR, decide_eq_true hb⟩⟩) rfl
 ·rw [decide_eq_false ha, decide_eq_false hb]
theorem aCN {fs ds : List Dv} (gf : GoodF fs) (gd : GoodD ("sea" :: fs.map aL) ds) {L : Int} {X : Str → Bool} (h : aPL fs ds L X) {z : Str} (r : Reach (Mt51.gapsD fs ds L) z) : X z = false := by
 have same : ∀ g ∈ Mt51.gapsD fs ds L, X g.one = X g.other := fun g m => by
  have mg : toG g ∈ gapsD fs ds L := by rw [← wZ gf gd L]; exact List.mem_map.mpr ⟨g, m, rfl⟩
  obtain ⟨d, md, hg, e, _⟩ := nX gd mg
  have := h.2 d md hg
  obtain ⟨n, a, b, c, r, s, rfl, _⟩ := bA (gd.all d md)
  cases g
  cases e
  exact this
 induction r with
 | sea => exact h.1
 | fwd m r ih => rw [← same _ m]; exact ih
 | bwd m r ih => rw [same _ m]; exact ih
theorem uZ {ns ms : List Str} (h : ns.Sublist ms) (nd : ms.Nodup) : ms.filter (fun z => decide (z ∈ ns)) = ns := by
 induction h with
 | slnil => rfl
 | cons a h ih =>
  rw [List.nodup_cons] at nd
  rw [List.filter_cons_of_neg (by simpa using fun m => nd.1 (h.subset m)), ih nd.2]
 | cons_cons a h ih =>
  rw [List.nodup_cons] at nd
  rw [List.filter_cons_of_pos (by simp)]
  congr 1
  rw [← ih nd.2]
  refine List.filter_congr fun z mz => ?_
  have hz : z ≠ a := fun e => nd.1 (e ▸ mz)
  rw [ih nd.2]
  simp [hz]
theorem uA {R B : List Str} (out : ∀ z ∈ B, z ∉ R) : ∀ G : List Gap, ((cB G R B).map (·.nm)).Sublist (G.map (·.nm))
 | [] => List.nil_sublist _
 | g :: G => by
  have ih := uA out G
  have e : cB (g :: G) R B = ([up g, dn g].filter fun s => decide (s.near ∈ R) && decide (s.far ∈ B)) ++ cB G R B := by
   unfold cB Mt61.stepsOf
   rw [List.flatMap_cons, List.filter_append]
  have hf : (([up g, dn g].filter fun s => decide (s.near ∈ R) && decide (s.far ∈ B)).map (·.nm)).Sublist [g.nm] := by
   rw [List.filter_cons]
   cases hu : (decide ((up g).near ∈ R) && decide ((up g).far ∈ B)) with
   | true =>
    rw [Bool.and_eq_true] at hu
    have ub : g.b ∈ B := of_decide_eq_true hu.2
    have : (decide ((dn g).near ∈ R) && decide ((dn g).far ∈ B)) = false := by
     have : (dn g).near ∉ R := out _ ub
     rw [decide_eq_false this]
     rfl
    rw [List.filter_cons, this]
    exact List.Sublist.refl _
   | false =>
    rw [List.filter_cons]
    cases hd : (decide ((dn g).near ∈ R) && decide ((dn g).far ∈ B)) with
    | true => exact List.Sublist.refl _
    | false => exact List.nil_sublist _
  rw [e, List.map_append, List.map_cons]
  exact hf.append ih
theorem aBI {fs ds : List Dv} {zs : List Str} (gd : GoodD zs ds) (L : Int) : ((gapsD fs ds L).map (·.nm)).Sublist (ds.map aL) := by
 unfold gapsD
 rw [List.map_map]
 have e : (ds.filter (isG fs L)).map ((fun g : Gap => g.nm) ∘ gOf L) = (ds.filter (isG fs L)).map aL := List.map_congr_left fun d m => aDS (gd.all d (List.mem_filter.mp m).1) L
 rw [e]
 exact List.Sublist.map _ List.filter_sublist
theorem aBV {G : List Gap} {f : Fl} : ((G.filter fun g => !decide (f g.nm = 0)).map (·.nm)).Sublist (G.map (·.nm)) := List.Sublist.map _ List.filter_sublist
theorem aEP {α : Type} {F : α → Int} {xs : List α} {i : Nat} {x : α} (e : xs[i]? = some x) : sm (xs.take (i + 1)) F = sm (xs.take i) F + F x := by
 rw [List.take_add_one, e, aCM]
 show _ + sm [x] F = _
 rw [bU, tQ]
 omega
theorem uO (G : List Gap) (f : Fl) (z : Str) : sm (G.filter fun g => !decide (f g.nm = 0)) (qH f z) = net G f z := by
 rw [hV]
 refine eU fun g _ => ?_
 by_cases h : f g.nm = 0
 ·rw [decide_eq_true h, if_neg (by decide)]
  unfold qH
  rw [h]
  simp
 ·rw [decide_eq_false h, if_pos (by decide)]
theorem aHS {V0 : List Str} (nv : V0.Nodup) (F : Str → Int) : ∀ {zs : List Str}, zs.Nodup → (∀ z ∈ zs, z ∈ V0) → sm (V0.filter fun v => decide (v ∈ zs)) F = sm zs F
 | [], _, _ => by
  rw [List.filter_eq_nil_iff.mpr (fun a _ => by simp)]
 | z :: zs, nz, sub => by
  rw [List.nodup_cons] at nz
  have ih := aHS nv F nz.2 fun y m => sub y (List.mem_cons_of_mem _ m)
  have pk := tD (V := V0) (fun _ => true) (F z) nv (sub z List.mem_cons_self)
  rw [List.filter_eq_self.mpr (fun _ _ => rfl), if_pos rfl] at pk
  rw [bU, ← ih, ← pk, hV, hV, ← yB]
  refine eU fun x _ => ?_
  by_cases h : z = x
  ·subst h
   rw [decide_eq_true List.mem_cons_self, decide_eq_false nz.1, if_pos rfl, if_pos rfl, if_neg (by decide)]
   omega
  ·rw [if_neg h]
   have h' : ¬ x = z := fun e => h e.symm
   by_cases m : x ∈ zs
   ·rw [decide_eq_true m, decide_eq_true (List.mem_cons_of_mem _ m)]
    omega
   ·rw [decide_eq_false m, decide_eq_false (by simp [h', m])]
    omega
theorem zR {V0 : List Str} {G : List Gap} (GG : Gaps V0 G) {ws : List Str} {f : Fl} (st : Stream V0 G ws f) (nz : ws.Nodup) (sub : ∀ z ∈ ws, z ∈ V0) (ns : Mt22.sea ∉ ws) : sm ws (net G f) = val G f := by
 rw [← aHS GG.vnd (net G f) nz sub, yW GG]
 exact tK GG (decide_eq_false ns) fun v mv hs hx => st.zero v mv hs (of_decide_eq_false hx)
open Mt53 Mt22 MtF Mt31 Mt61
def aAC : Sp := sp2 fun x y H Q => ∃ (z : Str) (d : Addr) (r : Option V), x = .str z ∧ y = .ref d ∧ oK H d (.str z) r ∧ Q (.bl r.isSome) H
theorem sQ (T : Txt K mg C) : Fc P w K mg base 1 "is_one_of" ["thing", "names"] aAC := by
 refine T.d_p_is_one_of.fc mT gK (fun f cdv A outer s H vs Q E hr h => ?_)
 obtain ⟨x, y, rfl, z, d, r, rfl, rfl, g, q⟩ := h
 have hu := gZ hr
 obtain ⟨t, ty, e1, e2, e3, _⟩ := jY K (show Is H (.str z) (.str z) from rfl)
 refine ⟨_, (aH (aS (dA (aU (bY (K := K) rfl) rfl T.n_isinstance bJ (aA (pv 0) (aA (kD T.n_str rQ) aD))) (dS (aMW (aDB hu (pv 0) (pv 1))))))), ?_⟩
 refine ⟨_, rfl, _, _, _, t, _, rfl, rfl, ty, e3, _, rfl, ?_⟩
 exact dO ⟨_, rfl, _, rfl, d, r, rfl, g, q⟩
def aHP : Sp := sp2 fun x y H Q => ∃ (t d : Addr) (n : Str) (k c : Int), x = .ref t ∧ H t = some (.tup [.str n, .int k]) ∧ y = .ref d ∧ oK H d (.str n) (some (.int c)) ∧ k ≠ 0 ∧ -c ≤ k ∧ k ≤ c ∧ Q (.bl true) H
theorem aHZ {H : Hp} {t : Addr} {n : Str} {k : Int} (h : H t = some (.tup [.str n, .int k])) : Is H (.tup [.str n, .int k]) (.ref t) := ⟨t, _, rfl, h, _, _, rfl, rfl, _, _, rfl, rfl, rfl⟩
theorem yS (T : Txt K mg C) : Fc P w K mg base 2 "is_flow" ["thing", "most"] aHP := by
 have G_p_is_tuple_of : Fc P w K mg base 1 "is_tuple_of" ["thing", "length"] pT := fL T
 have G_p_is_one_of : Fc P w K mg base 1 "is_one_of" ["thing", "names"] aAC := sQ T
 have G_p_is_whole : Fc P w K mg base 1 "is_whole" ["thing"] sW := kI T
 refine T.d_p_is_flow.fc yI gK (fun f cdv A outer s H vs Q E hr h => ?_)
 obtain ⟨x, y, rfl, t, d, n, k, c, rfl, o, rfl, g, k0, k1, k2, q⟩ := h
 have hu := gZ hr
 refine ⟨_, (aG (@cW _ _ _ _ _ _ _ _ (@PW.pt _ _ _ (@fE _ _ _ _ _ _ _ (@cK _ _ _ _ (@cG _ _ _ (@bL _ _ _ _ _ _ _ _ _ _ G_p_is_tuple_of (hr.mono (by decide)) (aA (pv 0) (aA aE aD)) (by rfl) (by decide) (by rfl) (by rfl)) (by intro _; rfl))) (@fE _ _ _ _ _ _ _ (@cK _ _ _ _ (@cG _ _ _ (@bL _ _ _ _ _ _ _ _ _ _ G_p_is_one_of (hr.mono (by decide)) (aA (@aX _ _ _ _ _ _ _ (@aP _ (K) rfl) (pv 0) aE (fun _ _ => rfl)) (aA (pv 1) aD)) (by rfl) (by decide) (by rfl) (by rfl)) (by intro _; rfl))) (@fD _ _ _ _ (@cK _ _ _ _ (@cG _ _ _ (@bL _ _ _ _ _ _ _ _ _ _ G_p_is_whole (hr.mono (by decide)) (aA (@aX _ _ _ _ _ _ _ (@aP _ (K) rfl) (pv 0) aE (fun _ _ => rfl)) aD) (by rfl) (by decide) (by rfl) (by rfl)) (by intro _; rfl))))))) (aH (@aS _ _ _ _ lY)) bP) (aH (@aS _ _ _ _ (@qA _ _ _ _ _ _ _ _ _ _ _ _ pB qC aE (@aU _ _ _ _ _ _ _ _ _ aBT rfl T.n_abs xM (aA (@aX _ _ _ _ _ _ _ (@aP _ (K) rfl) (pv 0) aE (fun _ _ => rfl)) aD) (by decide) (by decide) (by rfl) (by rfl)) (@dN _ _ _ _ _ _ hu (pv 1) (@aX _ _ _ _ _ _ _ (@aP _ (K) rfl) (pv 0) aE (fun _ _ => rfl)) (fun _ _ => rfl)) (by with_unfolding_all rfl))))), ?_⟩
 refine ⟨_, rfl, _, _, rfl, .tup [.str n, .int k], 2, aHZ o, rfl, _, rfl, bM ?_⟩
 refine ⟨_, rfl, t, _, 0, .str n, rfl, rfl, SqT.of o, aI (j := 0) rfl, _, rfl, _, _, rfl, n, d, _, rfl, rfl, g, _, rfl, bM ?_⟩
 refine ⟨_, rfl, t, _, 1, .int k, rfl, rfl, SqT.of o, aI (j := 1) rfl, _, rfl, .int k, rfl, _, rfl, bM ?_⟩
 have ab : 0 < (if k < 0 then -k else k) ∧ (if k < 0 then -k else k) ≤ c := by split <;> omega
 refine ⟨_, rfl, t, _, 1, .int k, rfl, rfl, SqT.of o, aI (j := 1) rfl, k, rfl, _, _, rfl, rfl, _, rfl, ?_⟩
 rw [decide_eq_true ab.1]
 refine dO ⟨_, rfl, _, rfl, t, _, 0, .str n, rfl, rfl, SqT.of o, aI (j := 0) rfl, d, _, rfl, g, _, _, rfl, rfl, ?_⟩
 show Q (.bl (decide ((if k < 0 then -k else k) ≤ c))) H
 rw [decide_eq_true ab.2]
 exact q
def rT (nk : Str × Int) : Dv := .tup [.str nk.1, .int nk.2]
theorem aCU {H : Hp} {nk : Str × Int} {v : V} (h : Is H (rT nk) v) : ∃ t, v = .ref t ∧ H t = some (.tup [.str nk.1, .int nk.2]) := by
 obtain ⟨t, us, rfl, o, va, r1, rfl, ha, vb, r2, rfl, hb, h0⟩ := h
 cases (show r2 = [] from h0)
 cases (show va = _ from ha)
 cases (show vb = _ from hb)
 exact ⟨t, rfl, o⟩
theorem tJ {H : Hp} {G : List Gap} {f : Fl} {us : List V} {i : Nat} {xv : V} (ius : IsL H (iX G f) us) (hx : us[i]? = some xv) : ∃ g t, (G.filter fun g => !decide (f g.nm = 0))[i]? = some g ∧ g ∈ G ∧ f g.nm ≠ 0 ∧ xv = .ref t ∧ H t = some (.tup [.str g.nm, .int (f g.nm)]) := by
 have hil : i < us.length := (List.getElem?_eq_some_iff.mp hx).1
 have ll := iH ius
 unfold iX at ll ius
 rw [List.length_map] at ll
 obtain ⟨g, eg⟩ : ∃ g, (G.filter fun g => !decide (f g.nm = 0))[i]? = some g := ⟨_, List.getElem?_eq_getElem (by omega)⟩
 obtain ⟨v, ev, iv⟩ := ius.get (show ((G.filter fun g => !decide (f g.nm = 0)).map (aFL f))[i]? = some (aFL f g) by rw [List.getElem?_map, eg]; rfl)
 rw [hx] at ev
 cases ev
 obtain ⟨t, rfl, o⟩ := aCU (nk := (g.nm, f g.nm)) iv
 have mg := List.mem_filter.mp (List.mem_of_getElem? eg)
 exact ⟨g, t, eg, mg.1, by simpa using mg.2, rfl, o⟩
theorem aJY (us : List V) : (us.map fun _ => true).all id = true := by
 rw [List.all_eq_true]
 intro b m
 obtain ⟨_, _, rfl⟩ := List.mem_map.mp m
 rfl
def aHH (K : PySem.W.Frag) : Sp := sp2 fun x y H Q => ∃ (l d : Addr) (us : List V) (V0 : List Str) (G : List Gap) (f : Fl), x = .ref l ∧ H l = some (.lst us) ∧ IsL H (iX G f) us ∧ G.length ≤ 40 ∧ Gaps V0 G ∧ aCA G f ∧ y = .ref d ∧ H d = some (.dK (cM G)) ∧ ∀ (o : Obj) (H' : Hp), aK (upd H d (.frz o (.dK (cM G)))) H' → Q (.bl true) H'
theorem uH (T : Txt K mg C) : Fc P w K mg base 3 "is_stream" ["thing", "most"] (aHH K) := by
 have G_p_is_flow : Fc P w K mg base 2 "is_flow" ["thing", "most"] aHP := yS T
 refine T.d_p_is_stream.fc mR gK (fun f cdv A outer s H vs Q E hr h => ?_)
 obtain ⟨x, y, rfl, l, d, us, V0, G, fl, rfl, hl, ius, g40, GG, fits, rfl, hd, q⟩ := h
 have big := bQ
 have hu := gZ hr
 have lus : (iX G fl).length = us.length := iH ius
 have lam : (iX G fl).length ≤ 40 := by
  unfold iX
  rw [List.length_map]
  exact Nat.le_trans (List.length_filter_le _ _) g40
 refine ⟨_, (aG (@cW _ _ _ _ _ _ _ _ (@PW.pt _ _ _ (@fE _ _ _ _ _ _ _ (@cK _ _ _ _ (@cG _ _ _ (@aU _ _ _ _ _ _ _ _ _ (@bY _ (K) rfl) rfl T.n_isinstance bJ (aA (pv 0) (aA (@kD _ _ _ _ T.n_list dI (by rfl) (by decide) (by decide)) aD)) (by decide) (by decide) (by rfl) (by rfl)) (by intro _; rfl))) (@fD _ _ _ _ (@cK _ _ _ _ (@cG _ _ _ (@aU _ _ _ _ _ _ _ _ _ (@lJ _ rfl) rfl T.n_all jG (aA (@bV _ _ _ _ _ _ _ _ _ _ _ ["flow", "most"] 1 [1] rfl (@bF _ _ _ _ (pv 0)) (fun R => @aO _ _ (0) _ (show List.Nodup (["flow", "most"] : List Str) by decide +kernel) rfl (Or.inl rfl) (by trivial)) (@aW _ _ (by decide)) (fun R => cC) (fun R => (@bL _ _ _ _ _ _ _ _ _ _ G_p_is_flow (hr.mono (by decide)) (aA (pv 0) (aA (pv 1) aD)) (by rfl) (by decide) (by rfl) (by rfl))) (by rfl) (by rfl) (by rfl) (by rfl) (by rfl) (by rfl) (by rfl) (by intro _; rfl)) aD) (by decide) (by decide) (by rfl) (by rfl)) (by intro _; rfl)))))) (aH (@aS _ _ _ _ lY)) bP) (aG (@aT _ _ (2) _ _ _ _ mR.nd rfl (Or.inr rfl) (@bV _ _ _ _ _ _ _ _ _ _ _ ["flow"] 1 [] rfl (@bF _ _ _ _ (pv 0)) (fun R => @aO _ _ (0) _ (show List.Nodup (["flow"] : List Str) by decide +kernel) rfl (Or.inl rfl) (by trivial)) (@aW _ _ (by decide)) (fun R => cC) (fun R => (@aX _ _ _ _ _ _ _ (@aP _ (K) rfl) (pv 0) aE (fun _ _ => rfl))) (by rfl) (by rfl) (by rfl) (by rfl) (by rfl) (by rfl) (by rfl) (by intro _; rfl)) (by rfl) (by trivial)) (aH (@aS _ _ _ _ (@dJ _ _ _ _ _ _ _ _ (@yO _ hr.units) (pv 2) (@bV _ _ _ _ _ _ _ _ _ _ _ ["name", "names"] 1 [2] rfl (@tG _ _ _ _ (pv 1)) (fun R => @aO _ _ (0) _ (show List.Nodup (["name", "names"] : List Str) by decide +kernel) rfl (Or.inl rfl) (by trivial)) (@aW _ _ (by decide)) (fun R => @eI _ _ _ (@bE _ _ _ _ _ _ _ _ (@gD _ (K) rfl) (pv 0) (pv 1) (by with_unfolding_all rfl))) (fun R => (pv 0)) (by rfl) (by rfl) (by rfl) (by rfl) (by rfl) (by rfl) (by rfl) (by intro _; rfl)) (@bI _ _ (by decide) (by decide))))))), ?_⟩
 obtain ⟨ty, hty, e1, e2, e3, e4, _⟩ := jY K (show Is H (.lst (iX G fl)) (.ref l) from ⟨l, us, rfl, hl, ius⟩)
 refine ⟨_, rfl, _, _, _, ty, _, rfl, rfl, hty, e4, _, rfl, bM ?_⟩
 refine ⟨_, rfl, l, rfl, ⟨_, SqL.of hl⟩, ?_⟩
 refine bD (F := K) (xs := us) (by omega) (fun i ys H' => H = H' ∧ ys = ((us.take i).map fun _ => true).map V.bl) ⟨rfl, rfl⟩ ?_ ?_ ?_
 ·rintro i ys H' hi ⟨rfl, rfl⟩
  exact ⟨SqL.of hl, by rw [List.length_map, List.length_map, List.length_take]; omega⟩
 ·rintro i xv ys H' K1 K2 hx ⟨rfl, rfl⟩ k1 k2
  obtain ⟨g, t, eg, mg', f0, rfl, ot⟩ := tJ ius hx
  have vg : eT (cM G) (Sum.inr g.nm) = some (.int g.cap) := sC (f := fun g => V.int g.cap) GG.nd mg'
  refine ⟨_, rfl, _, rfl, _, _, rfl, t, d, g.nm, fl g.nm, g.cap, rfl, ot, rfl, .inl ⟨_, Sum.inr g.nm, .inl hd, rfl, vg.symm⟩, f0, (fits g mg').1, (fits g mg').2, k1 _ _ ⟨rfl, ?_⟩⟩
  rw [List.take_add_one, hx, List.map_append, List.map_append]
  rfl
 rintro ys H1 ⟨rfl, rfl⟩
 rw [List.take_of_length_le (Nat.le_refl _)]
 intro la hla
 have S1 := aK.upd (o := .lst ((us.map fun _ => true).map V.bl)) hla
 have r1 : upd H la (.lst ((us.map fun _ => true).map V.bl)) la = some (.lst ((us.map fun _ => true).map V.bl)) := aF
 generalize upd H la (.lst ((us.map fun _ => true).map V.bl)) = H1 at S1 r1
 refine ⟨la, us.map fun _ => true, rfl, SqL.of r1, _, rfl, ?_⟩
 rw [aJY]
 refine bM ?_
 have hl1 := S1 _ _ hl
 have ius1 := IsL.same S1 _ _ ius
 have hd1 := S1 _ _ hd
 refine ⟨_, rfl, l, rfl, ⟨_, SqL.of hl1⟩, ?_⟩
 refine bD (F := K) (xs := us) (by omega) (fun i ys H' => H1 = H' ∧ ys = (((G.filter fun g => !decide (fl g.nm = 0)).take i).map (·.nm)).map V.str) ⟨rfl, rfl⟩ ?_ ?_ ?_
 ·rintro i ys H' hi ⟨rfl, rfl⟩
  refine ⟨SqL.of hl1, ?_⟩
  rw [List.length_map, List.length_map, List.length_take]
  omega
 ·rintro i xv ys H' K1 K2 hx ⟨rfl, rfl⟩ k1 k2
  obtain ⟨g, t, eg, mg', f0, rfl, ot⟩ := tJ ius1 hx
  refine ⟨_, rfl, t, _, 0, .str g.nm, rfl, rfl, SqT.of ot, aI (j := 0) rfl, k1 _ _ ⟨rfl, ?_⟩⟩
  rw [List.take_add_one, eg, List.map_append, List.map_append]
  rfl
 rintro ys H2 ⟨rfl, rfl⟩
 have sb := aBV (G := G) (f := fl)
 have llf : (G.filter fun g => !decide (fl g.nm = 0)).length = us.length := by
  rw [← lus]
  unfold iX
  rw [List.length_map]
 rw [List.take_of_length_le (by omega)]
 have fsb := uZ sb GG.nd
 have lsb := sb.length_le
 rw [List.length_map] at lsb
 generalize (G.filter fun g => !decide (fl g.nm = 0)).map (·.nm) = ns at sb fsb lsb
 intro ln hln
 have S2 := aK.upd (o := .lst (ns.map V.str)) hln
 have r2 : upd H1 ln (.lst (ns.map V.str)) ln = some (.lst (ns.map V.str)) := aF
 generalize upd H1 ln (.lst (ns.map V.str)) = H2 at S2 r2
 have hd2 := S2 _ _ hd1
 refine ⟨_, rfl, _, rfl, d, _, rfl, hd2, fun o => ?_⟩
 have dF : upd H2 d (.frz o (.dK (cM G))) d = some (.frz o (.dK (cM G))) := aF
 have r3 : upd H2 d (.frz o (.dK (cM G))) ln = some (.lst (ns.map V.str)) := by rw [aQ (mC r2 hd2 (by intro c; cases c))]; exact r2
 have S3 : aK (upd H d (.frz o (.dK (cM G)))) (upd H2 d (.frz o (.dK (cM G)))) := fun b u e => by
  by_cases hb : b = d
  ·subst hb
   rw [aF] at e ⊢
   exact e
  ·rw [aQ hb] at e ⊢
   exact (S1.trans S2) _ _ e
 have q' := q o
 generalize upd H2 d (.frz o (.dK (cM G))) = H3 at dF r3 S3
 refine oY (by rw [iC]; omega) (fun i ys H' => H3 = H' ∧ ys = (((G.take i).map (·.nm)).filter fun z => decide (z ∈ ns)).map V.str) ⟨rfl, rfl⟩ ?_ ?_ ?_
 ·rintro i ys H' hi ⟨rfl, rfl⟩
  refine ⟨dF, ?_⟩
  have := List.length_filter_le (fun z => decide (z ∈ ns)) ((G.take i).map (·.nm))
  rw [List.length_map, List.length_take] at this
  rw [List.length_map]
  omega
 ·rintro i kv ys H' K1 K2 hk ⟨rfl, rfl⟩ k1 k2
  unfold cM at hk
  rw [List.getElem?_map] at hk
  obtain ⟨g, eg, ekv⟩ := Option.map_eq_some_iff.mp hk
  have ek : kV kv.1 = V.str g.nm := by rw [← ekv]; rfl
  rw [ek]
  refine ⟨_, rfl, _, rfl, ln, _, rfl, .inl (SqL.of r3), rfl, dY ns, _, rfl, ?_⟩
  rw [if_neg Bool.false_ne_true, gY]
  have et : (((G.take (i + 1)).map (·.nm)).filter fun z => decide (z ∈ ns)) = (((G.take i).map (·.nm)).filter fun z => decide (z ∈ ns)) ++ [g.nm].filter fun z => decide (z ∈ ns) := by
   rw [List.take_add_one, eg, List.map_append, List.filter_append]
   rfl
  refine gW (fun h1 => ?_) (fun h1 => ?_)
  ·refine ⟨_, rfl, k1 _ _ ⟨rfl, ?_⟩⟩
   rw [et, List.filter_cons_of_pos (p := fun z => decide (z ∈ ns)) h1, List.filter_nil, List.map_append]
   rfl
  ·refine k2 _ ⟨rfl, ?_⟩
   rw [et, List.filter_cons_of_neg (p := fun z => decide (z ∈ ns)) h1, List.filter_nil, List.append_nil]
 rintro ys H4 ⟨rfl, rfl⟩
 rw [iC, List.take_of_length_le (Nat.le_refl _), fsb]
 intro lc hlc
 have S4 := aK.upd (o := .lst (ns.map V.str)) hlc
 refine ⟨.lst (ns.map Dv.str), .lst (ns.map Dv.str), iE (S4 _ _ r3), iE aF, cJ _, cJ _, ?_⟩
 show Q (.bl (deq _ _)) _
 rw [jX 30 _ (cJ _)]
 exact q' _ (S3.trans S4)
open Mt53 Mt22 MtF Mt31 Mt61
def cP (V0 : List Str) : List Gap := V0.map fun z => ⟨z, z, z, 0⟩
theorem yD (V0 : List Str) : (cP V0).map (·.nm) = V0 := by
 unfold cP
 rw [List.map_map]
 exact List.map_id V0
theorem jI (V0 : List Str) (h : Fl) : (bW (cP V0) h).length = V0.length := by
 rw [lD]
 exact List.length_map _
theorem fO {V0 : List Str} {z : Str} (nd : V0.Nodup) (m : z ∈ V0) (h : Fl) : eT (bW (cP V0) h) (Sum.inr z) = some (.int (h z)) :=
 sC (f := fun g => V.int (h g.nm)) (G := cP V0) (g := ⟨z, z, z, 0⟩) (by rw [yD]; exact nd) (List.mem_map.mpr ⟨z, m, rfl⟩)
theorem pW {V0 : List Str} {z : Str} (m : z ∈ V0) (h : Fl) (x : Int) : kA (bW (cP V0) h) (Sum.inr z) (.int x) = bW (cP V0) (fun k => if k = z then x else h k) :=
 aBL (by rw [yD]; exact m)
def mF (xs : List Gap) (f : Fl) : Fl := fun z => sm xs (qH f z)
theorem xA {xs : List Gap} {i : Nat} {g : Gap} (e : xs[i]? = some g) (f : Fl) (ne : g.a ≠ g.b) : (fun k => if k = g.b then (if g.b = g.a then mF (xs.take i) f g.a - f g.nm else mF (xs.take i) f g.b) + f g.nm else if k = g.a then mF (xs.take i) f g.a - f g.nm else mF (xs.take i) f k) = mF (xs.take (i + 1)) f := by
 funext k
 show _ = sm (xs.take (i + 1)) (qH f k)
 rw [aEP e]
 show _ = mF (xs.take i) f k + qH f k g
 unfold qH
 rw [if_neg (show ¬ g.b = g.a from Ne.symm ne)]
 by_cases hb : k = g.b
 ·subst hb
  rw [if_pos rfl, if_pos rfl, if_neg (show ¬ g.a = g.b from ne)]
  omega
 ·rw [if_neg (show ¬ k = g.b from hb), if_neg (show ¬ g.b = k from fun c => hb c.symm)]
  by_cases ha : k = g.a
  ·subst ha
   rw [if_pos rfl, if_pos rfl]
   omega
  ·rw [if_neg (show ¬ k = g.a from ha), if_neg (show ¬ g.a = k from fun c => ha c.symm)]
   omega
def aEL (C : Addr) : Sp := sp2 fun x y H Q => ∃ (p l : Addr) (fs ds : List Dv) (L : Int) (us : List V) (f : Fl), x = .ref p ∧ LandAt C H p fs ds ∧ y = .ref l ∧ H l = some (.lst us) ∧ IsL H (iX (gapsD fs ds L) f) us ∧ ∀ (d : Addr) (H' : Hp), aK H H' → H d = none → H' d = some (.dK (bW (cP ("sea" :: fs.map aL)) (net (gapsD fs ds L) f))) → Q (.ref d) H'
theorem vW (T : Txt K mg C) : Fc P w K mg base 2 "gains_by" ["land", "stream"] (aEL C) := by
 have G_land_p_field_names : Mc P w K mg base 1 C "field_names" ["self"] (lL C fun fs _ => fs.map aL) := cR T
 have G_land_p_dyke : Mc P w K mg base 1 C "dyke" ["self", "name"] (oO C) := fH T
 refine T.d_p_gains_by.fc fP gK (fun f cdv A outer s H vs Q E hr h => ?_)
 obtain ⟨x, y, rfl, p, l, fs, ds, lv, us, fl, rfl, L, rfl, hl, ius, q⟩ := h
 have big := bQ
 have hu := gZ hr
 have gf := (bG L).1
 have gd := (bG L).2
 have d2 := gd.l2
 have f2 := gf.l2
 have GG := kF gf gd lv
 have gl := iT fs ds lv
 have lus := iH ius
 have lam : (iX (gapsD fs ds lv) fl).length ≤ 40 := by
  unfold iX
  rw [List.length_map]
  exact Nat.le_trans (List.length_filter_le _ _) (by omega)
 refine ⟨_, (aG (@aT _ _ (2) _ _ _ _ fP.nd rfl (Or.inl rfl) (@cT _ _ _ _ _ _ _ _ _ (@dB _ rfl) rfl T.n_dict gE (aA (@bV _ _ _ _ _ _ _ _ _ _ _ ["side"] 1 [] rfl (@bF _ _ _ _ (@aJ _ _ _ _ _ _ _ _ uF (@dL _ _ _ _ (aA (@sN _ _ _ _ T.g_SEA (by rfl) (by decide)) aD)) (@jT _ _ _ _ _ _ _ _ _ _ _ T.cl_Land G_land_p_field_names (hr.mono (by decide)) (pv 0) (by rfl)))) (fun R => @aO _ _ (0) _ (show List.Nodup (["side"] : List Str) by decide +kernel) rfl (Or.inl rfl) (by trivial)) (@aW _ _ (by decide)) (fun R => cC) (fun R => (@fF _ _ _ _ _ (aA (pv 0) (aA aE aD)))) (by rfl) (by rfl) (by rfl) (by rfl) (by rfl) (by rfl) (by rfl) (by intro _; rfl)) aD) (by decide) (by decide) (by rfl) (by rfl)) (by rfl) (by trivial)) (aG (@eN _ _ _ _ _ _ _ _ PassesOwn.never rfl (@bF _ _ _ _ (pv 1)) (@nG _ _ _ _ _ _ rfl (@bX _ _ _ _ _ (@aO _ _ (3) _ fP.nd rfl (Or.inl rfl) (by trivial)) (@bX _ _ _ _ _ (@aO _ _ (4) _ fP.nd rfl (Or.inl rfl) (by trivial)) kC (by rfl)) (by rfl)) (by rfl) (by rfl)) (aG (@aT _ _ (5) _ _ _ _ fP.nd rfl (Or.inl rfl) (@aCY _ _ _ _ _ _ _ _ _ _ _ _ _ _ T.cl_Land G_land_p_dyke (hr.mono (by decide)) (pv 0) (aA (pv 3) aD) (by rfl) (by rfl) (by rfl)) (by rfl) (by trivial)) (aG (@yM _ _ _ _ _ _ _ _ _ _ _ hu (pv 2) (@aX _ _ _ _ _ _ _ (@aP _ (K) rfl) (pv 5) aE (fun _ _ => rfl)) (pv 4) aNM (fun _ _ _ => rfl)) (aH (@yM _ _ _ _ _ _ _ _ _ _ _ hu (pv 2) (@aX _ _ _ _ _ _ _ (@aP _ (K) rfl) (pv 5) aE (fun _ _ => rfl)) (pv 4) aJE (fun _ _ _ => rfl))))) (by intro _; rfl)) (aH (@aS _ _ _ _ (pv 2))))), ?_⟩
 refine ⟨aY rfl, fun q1 hq1 => ?_⟩
 have S1 := aK.upd (o := .lst [.str "sea"]) hq1
 have hq1' : upd H q1 (.lst [.str "sea"]) q1 = some (.lst [.str "sea"]) := aF
 generalize upd H q1 (.lst [.str "sea"]) = H1 at S1 hq1'
 have L1 := L.same S1
 obtain ⟨dx, d1, d2', hx, _⟩ := L1.ex
 refine ⟨_, rfl, p, dx, _, rfl, hx, cI _ _ (by decide +kernel) (by decide +kernel), _, rfl, p, fs, ds, rfl, L1, fun ln H2 S2 fln hln => ?_⟩
 refine ⟨q1, ln, _, _, rfl, rfl, S2 _ _ hq1', hln, by rw [List.length_map, List.length_map]; simp only [List.length_singleton]; omega, fun lo hlo => ?_⟩
 have S3 := aK.upd (o := .lst ([V.str "sea"] ++ (fs.map aL).map V.str)) hlo
 have r3 : upd H2 lo (.lst ([V.str "sea"] ++ (fs.map aL).map V.str)) lo = some (.lst ((("sea" : Str) :: fs.map aL).map V.str)) := aF
 generalize upd H2 lo (.lst ([V.str "sea"] ++ (fs.map aL).map V.str)) = H3 at S3 r3
 have T3 := S1.trans (S2.trans S3)
 have nV := GG.vnd
 have lV : (("sea" : Str) :: fs.map aL).length ≤ 13 := by rw [List.length_cons, List.length_map]; omega
 have eV : ∀ g ∈ gapsD fs ds lv, g.a ∈ (("sea" : Str) :: fs.map aL) ∧ g.b ∈ (("sea" : Str) :: fs.map aL) ∧ g.a ≠ g.b := GG.ends
 have q' := q
 generalize hVV : (("sea" : Str) :: fs.map aL) = VV at r3 nV lV eV q'
 refine ⟨lo, rfl, ⟨_, SqL.of r3⟩, ?_⟩
 refine bD (F := K) (xs := VV.map V.str) (by rw [List.length_map]; omega) (fun i ys H' => aK H3 H' ∧ bT H' ys (bW (cP (VV.take i)) fun _ => 0)) ⟨aK.refl _, bT.nil _⟩ ?_ ?_ ?_
 ·rintro i ys H' hi ⟨S', pa⟩
  have := pa.len
  rw [jI, List.length_take] at this
  exact ⟨SqL.of (S' _ _ r3), by omega⟩
 ·rintro i xv ys H' K1 K2 hx' ⟨S', pa⟩ k1 k2
  rw [List.getElem?_map] at hx'
  obtain ⟨z, ez, rfl⟩ := Option.map_eq_some_iff.mp hx'
  refine ⟨_, rfl, aY rfl, fun p3 hp3 => k1 _ _ ⟨S'.trans (aK.upd hp3), ?_⟩⟩
  have e2 : bW (cP (VV.take (i + 1))) (fun _ => 0) = bW (cP (VV.take i)) (fun _ => 0) ++ [(Sum.inr z, V.int 0)] := by
   unfold bW cP
   rw [List.take_add_one, ez, List.map_append, List.map_append]
   rfl
  rw [e2]
  exact bT.snoc (k := Sum.inr z) pa hp3
 rintro ys H4 ⟨S4, pa⟩
 rw [List.length_map, List.take_of_length_le (Nat.le_refl _)] at pa
 intro p4 hp4
 have S5 := aK.upd (o := .lst ys) hp4
 refine ⟨p4, ys, bW (cP VV) fun _ => 0, rfl, SqL.of aF, pa.same S5, by rw [jI]; omega, by rw [xB, yD]; exact (gI _).mpr nV, fun de hde => ?_⟩
 have S6 := aK.upd (o := .dK (bW (cP VV) fun _ => 0)) hde
 have T6 := T3.trans (S4.trans (S5.trans S6))
 have nde := (T3.trans (S4.trans S5)).free hde
 have he6 : upd (upd H4 p4 (.lst ys)) de (.dK (bW (cP VV) fun _ => 0)) de = some (.dK (bW (cP VV) fun _ => 0)) := aF
 generalize upd (upd H4 p4 (.lst ys)) de (.dK (bW (cP VV) fun _ => 0)) = H6 at S6 T6 he6
 refine ⟨_, rfl, l, rfl, ⟨_, SqL.of (T6 _ _ hl)⟩, eL (K := K) (a := l) (xs := us) (fun i σ H' => ∃ v3 v4 v5, σ = [some (.ref p), some (.ref l), some (.ref de), v3, v4, v5] ∧ aK H H' ∧ H' de = some (.dK (bW (cP VV) (mF (((gapsD fs ds lv).filter fun g => !decide (fl g.nm = 0)).take i) fl)))) ⟨_, _, _, rfl, T6, he6⟩ ?_ ?_ ?_⟩
 ·rintro i σ H' hi ⟨v3, v4, v5, rfl, S', he'⟩
  exact SqL.of (S' _ _ hl)
 ·rintro i xv σ H' hx' ⟨v3, v4, v5, rfl, S', he'⟩
  obtain ⟨g, t, eg, mg', f0, rfl, ot⟩ := tJ (IsL.same S' _ _ ius) hx'
  obtain ⟨ma, mb, nab⟩ := eV g mg'
  have gs := xA eg fl nab
  refine ⟨t, _, rfl, SqT.of ot, rfl, _, _, rfl, _, _, rfl, rfl, ?_⟩
  obtain ⟨dk, mdk, hg, rfl, en⟩ := nX gd mg'
  have L' := L.same S'
  obtain ⟨dx', d1', d2'', hx2, _⟩ := L'.ex
  obtain ⟨n, a, b, c, r, sl, rfl, _⟩ := bA (gd.all dk mdk)
  rw [show fl (gOf lv (.tup [.str n, .str a, .str b, .int c, .int r, sl])).nm = fl n from rfl]
  refine ⟨_, rfl, p, dx', _, rfl, hx2, cI _ _ (by decide +kernel) (by decide +kernel), _, rfl, _, _, rfl, p, fs, ds, _, rfl, rfl, L', mdk, fun v iv => ?_⟩
  obtain ⟨t2, sv, rfl, ot2, isv⟩ := gA iv
  have ma' : a ∈ VV := ma
  have mb' : b ∈ VV := mb
  generalize hh : mF (((gapsD fs ds lv).filter fun g => !decide (fl g.nm = 0)).take i) fl = h0 at he' gs
  refine ⟨_, rfl, _, rfl, t2, _, 1, .str a, rfl, rfl, SqT.of ot2, aI (j := 1) rfl, de, _, rfl, .inl ⟨_, Sum.inr a, .inl he', rfl, (fO nV ma' _).symm⟩, ?_⟩
  refine ⟨_, rfl, _, _, rfl, rfl, _, .inl ⟨_, Sum.inr a, he', rfl, by rw [jI]; omega, rfl⟩, ?_⟩
  rw [pW ma']
  have S1' := S'.over (o := .dK (bW (cP VV) fun k => if k = a then h0 a - fl n else h0 k)) nde
  have o1 : upd H' de (.dK (bW (cP VV) fun k => if k = a then h0 a - fl n else h0 k)) t2 = _ := (aQ (mC ot2 he' (by intro c; cases c))).trans ot2
  have e1 : upd H' de (.dK (bW (cP VV) fun k => if k = a then h0 a - fl n else h0 k)) de = some (.dK (bW (cP VV) fun k => if k = a then h0 a - fl n else h0 k)) := aF
  generalize upd H' de (.dK (bW (cP VV) fun k => if k = a then h0 a - fl n else h0 k)) = H8 at S1' o1 e1
  refine ⟨_, rfl, _, rfl, t2, _, 2, .str b, rfl, rfl, SqT.of o1, aI (j := 2) rfl, de, _, rfl, .inl ⟨_, Sum.inr b, .inl e1, rfl, (fO nV mb' _).symm⟩, ?_⟩
  refine ⟨_, rfl, _, _, rfl, rfl, _, .inl ⟨_, Sum.inr b, e1, rfl, by rw [jI]; omega, rfl⟩, ?_⟩
  rw [pW mb']
  refine ⟨_, _, _, rfl, S1'.over nde, ?_⟩
  rw [aF, ← gs]
  rfl
 ·rintro σ H' ⟨v3, v4, v5, rfl, S', he'⟩
  have lf : ((gapsD fs ds lv).filter fun g => !decide (fl g.nm = 0)).length = us.length := by
   rw [← lus]
   unfold iX
   rw [List.length_map]
  rw [List.take_of_length_le (by omega)] at he'
  refine ⟨_, rfl, q' de H' S' nde ?_⟩
  rw [he', show mF ((gapsD fs ds lv).filter fun g => !decide (fl g.nm = 0)) fl = net (gapsD fs ds lv) fl from funext fun z => uO _ _ _]
open Mt53 Mt22 MtF Mt31 Mt61
def xW (C : Addr) : Sp := fun vs H Q _ => ∃ (x y u v : V) (p l la : Addr) (fs ds : List Dv) (zs : List Str) (L : Int) (ua : List V) (f : Fl), vs = [x, y, u, v] ∧ x = .ref p ∧ LandAt C H p fs ds ∧ y = .ref l ∧ H l = some (.lst (zs.map V.str)) ∧ 1 ≤ zs.length ∧ zs.Nodup ∧ (∀ z ∈ zs, z ∈ fs.map aL) ∧ u = .int L ∧ hgt L = true ∧ v = .ref la ∧ H la = some (.lst ua) ∧ IsL H (iX (gapsD fs ds L) f) ua ∧ Stream ("sea" :: fs.map aL) (gapsD fs ds L) zs f ∧ ∀ H', aK H H' → Q (.int (val (gapsD fs ds L) f)) H'
theorem aIW : ∀ vs H Q E, xW C vs H Q E → vs.length = 4 := fun vs H Q E ⟨x, y, u, v, p, l, la, fs, ds, zs, L, ua, f, e, _⟩ => by rw [e]; rfl
theorem xS {α : Type} (xs : List α) : (xs.map fun _ => false).any id = false := by
 rw [List.any_eq_false]
 intro b m
 obtain ⟨_, _, rfl⟩ := List.mem_map.mp m
 decide
theorem uG (T : Txt K mg C) : Fc P w K mg base 5 "paper_for" ["land", "fields", "height", "stream"] (xW C) := by
 have G_p_check_wish : Fc P w K mg base 3 "check_wish" ["land", "fields", "height"] (tM C) := mB T
 have G_p_gap_coins : Fc P w K mg base 4 "gap_coins" ["land", "height"] (aCJ C) := nM T
 have G_p_is_stream : Fc P w K mg base 3 "is_stream" ["thing", "most"] (aHH K) := uH T
 have G_p_gains_by : Fc P w K mg base 2 "gains_by" ["land", "stream"] (aEL C) := vW T
 have G_land_p_field_names : Mc P w K mg base 1 C "field_names" ["self"] (lL C fun fs _ => fs.map aL) := cR T
 refine T.d_p_paper_for.fc jJ aIW (fun f cdv A outer s H vs Q E hr h => ?_)
 obtain ⟨x, y, u, v, p, l, la, fs, ds, zs, lv, ua, fl, rfl, rfl, L, rfl, hl, l1, nd, sub, rfl, hL, rfl, hla, iua, st, q⟩ := h
 have big := bQ
 have hu := gZ hr
 have gf := (bG L).1
 have gd := (bG L).2
 have d2 := gd.l2
 have f2 := gf.l2
 have GG := kF gf gd lv
 have gl := iT fs ds lv
 have ns : Mt22.sea ∉ zs := fun m => by
  obtain ⟨d, md, e⟩ := List.mem_map.mp (sub _ m)
  obtain ⟨z, g, u, rfl, hz, _⟩ := bS (gf.all d md)
  exact oR hz e
 have nf : Mt22.sea ∉ fs.map aL := fun m => by
  obtain ⟨d, md, e⟩ := List.mem_map.mp m
  obtain ⟨z, g, u, rfl, hz, _⟩ := bS (gf.all d md)
  exact oR hz e
 have lz : zs.length ≤ fs.length := by
  have := kK nd sub
  rw [List.length_map] at this
  exact this
 refine ⟨_, (aG (@eQ _ _ _ _ (@bL _ _ _ _ _ _ _ _ _ _ G_p_check_wish (hr.mono (by decide)) (aA (pv 0) (aA (pv 1) (aA (pv 2) aD))) (by rfl) (by decide) (by rfl) (by rfl)) (by rfl)) (aG (@cW _ _ _ _ _ _ _ _ (@cK _ _ _ _ (@cG _ _ _ (@bL _ _ _ _ _ _ _ _ _ _ G_p_is_stream (hr.mono (by decide)) (aA (pv 3) (aA (@bL _ _ _ _ _ _ _ _ _ _ G_p_gap_coins (hr.mono (by decide)) (aA (pv 0) (aA (pv 2) aD)) (by rfl) (by decide) (by rfl) (by rfl)) aD)) (by rfl) (by decide) (by rfl) (by rfl)) (by intro _; rfl))) (aH (@aS _ _ _ _ eO)) bP) (aG (@aT _ _ (4) _ _ _ _ jJ.nd rfl (Or.inr rfl) (@bL _ _ _ _ _ _ _ _ _ _ G_p_gains_by (hr.mono (by decide)) (aA (pv 0) (aA (pv 3) aD)) (by rfl) (by decide) (by rfl) (by rfl)) (by rfl) (by trivial)) (aG (@jS _ (5) _ _ _ _ _ _ _ _ _ _ _ _ _ jJ.nd rfl ["name", "fields"] 1 [1] rfl (@bF _ _ _ _ (@jT _ _ _ _ _ _ _ _ _ _ _ T.cl_Land G_land_p_field_names (hr.mono (by decide)) (pv 0) (by rfl))) (fun R => @aO _ _ (0) _ (show List.Nodup (["name", "fields"] : List Str) by decide +kernel) rfl (Or.inl rfl) (by trivial)) (@aW _ _ (by decide)) (fun R => @eI _ _ _ (@bE _ _ _ _ _ _ _ _ (@iG _ (K) rfl) (pv 0) (pv 1) (by with_unfolding_all rfl))) (fun R => (pv 0)) (by exact Or.inl rfl) (by trivial) (by rfl) (by rfl) (by rfl) (by rfl) (by rfl) (by rfl) (by rfl) (by rfl) (by intro _; rfl)) (aG (@cW _ _ _ _ _ _ _ _ (@PW.pt _ _ _ (@fE _ _ _ _ _ _ _ (@cG _ _ _ (@aU _ _ _ _ _ _ _ _ _ (aBS rfl) rfl T.n_any xL (aA (@bV _ _ _ _ _ _ _ _ _ _ _ ["name", "gains"] 1 [4] rfl (@bF _ _ _ _ (pv 5)) (fun R => @aO _ _ (0) _ (show List.Nodup (["name", "gains"] : List Str) by decide +kernel) rfl (Or.inl rfl) (by trivial)) (@aW _ _ (by decide)) (fun R => cC) (fun R => (@dJ _ _ _ _ _ _ _ _ lZ (@dN _ _ _ _ _ _ hu (pv 1) (pv 0) (fun _ _ => rfl)) aE (@bI _ _ (by decide) (by decide)))) (by rfl) (by rfl) (by rfl) (by rfl) (by rfl) (by rfl) (by rfl) (by intro _; rfl)) aD) (by decide) (by decide) (by rfl) (by rfl)) (by intro _; rfl)) (@fD _ _ _ _ (@cG _ _ _ (@aU _ _ _ _ _ _ _ _ _ (aBS rfl) rfl T.n_any xL (aA (@bV _ _ _ _ _ _ _ _ _ _ _ ["name", "gains"] 1 [4] rfl (@bF _ _ _ _ (pv 1)) (fun R => @aO _ _ (0) _ (show List.Nodup (["name", "gains"] : List Str) by decide +kernel) rfl (Or.inl rfl) (by trivial)) (@aW _ _ (by decide)) (fun R => cC) (fun R => (@dJ _ _ _ _ _ _ _ _ pB (@dN _ _ _ _ _ _ hu (pv 1) (pv 0) (fun _ _ => rfl)) aE (@bI _ _ (by decide) (by decide)))) (by rfl) (by rfl) (by rfl) (by rfl) (by rfl) (by rfl) (by rfl) (by intro _; rfl)) aD) (by decide) (by decide) (by rfl) (by rfl)) (by intro _; rfl))))) (aH (@aS _ _ _ _ eO)) bP) (aH (@aS _ _ _ _ (@aU _ _ _ _ _ _ _ _ _ (vL rfl) rfl T.n_sum rP (aA (@bV _ _ _ _ _ _ _ _ _ _ _ ["name", "gains"] 1 [4] rfl (@bF _ _ _ _ (pv 1)) (fun R => @aO _ _ (0) _ (show List.Nodup (["name", "gains"] : List Str) by decide +kernel) rfl (Or.inl rfl) (by trivial)) (@aW _ _ (by decide)) (fun R => cC) (fun R => (@dN _ _ _ _ _ _ hu (pv 1) (pv 0) (fun _ _ => rfl))) (by rfl) (by rfl) (by rfl) (by rfl) (by rfl) (by rfl) (by rfl) (by intro _; rfl)) aD) (by decide) (by decide) (by rfl) (by rfl))))))))), ?_⟩
 refine ⟨_, rfl, _, rfl, _, rfl, _, _, _, rfl, p, l, fs, ds, zs, lv, rfl, L, rfl, hl, l1, nd, sub, rfl, hL, fun H1 S1 => ?_⟩
 refine ⟨_, rfl, _, rfl, _, rfl, _, _, rfl, p, fs, ds, lv, rfl, L.same S1, rfl, fun dm H2 S2 nm2 hm2 => ?_⟩
 have T2 := S1.trans S2
 refine ⟨_, _, rfl, la, dm, ua, "sea" :: fs.map aL, gapsD fs ds lv, fl, rfl, T2 _ _ hla, IsL.same T2 _ _ iua, by omega, GG, st.fits, rfl, hm2, fun o H3 S3 => ⟨_, rfl, bM ?_⟩⟩
 have nmH : H dm = none := S1.free nm2
 have T3 : aK H H3 := fun b u e => S3 _ _ (by rw [aQ (fun c => by rw [c, nmH] at e; cases e)]; exact T2 _ _ e)
 refine ⟨_, rfl, _, rfl, _, _, rfl, p, la, fs, ds, lv, ua, fl, rfl, L.same T3, rfl, T3 _ _ hla, IsL.same T3 _ _ iua, fun de H4 S4 nde hde => ?_⟩
 have T4 := T3.trans S4
 have L4 := L.same T4
 obtain ⟨dx, d1, d2', hx, _⟩ := L4.ex
 refine ⟨_, rfl, p, dx, _, rfl, hx, cI _ _ (by decide +kernel) (by decide +kernel), _, rfl, p, fs, ds, rfl, L4, fun ln H5 S5 fln hln => ?_⟩
 have T5 := T4.trans S5
 have hl5 := T5 _ _ hl
 have hde5 := S5 _ _ hde
 have lfn : (fs.map aL).length = fs.length := List.length_map _
 refine ⟨ln, rfl, ⟨_, SqL.of hln⟩, ?_⟩
 refine bD (F := K) (xs := (fs.map aL).map V.str) (by rw [List.length_map]; omega) (fun i ys H' => H5 = H' ∧ ys = (((fs.map aL).take i).filter fun z => !decide (z ∈ zs)).map V.str) ⟨rfl, rfl⟩ ?_ ?_ ?_
 ·rintro i ys H' hi ⟨rfl, rfl⟩
  refine ⟨SqL.of hln, ?_⟩
  have := List.length_filter_le (fun z => !decide (z ∈ zs)) ((fs.map aL).take i)
  rw [List.length_take] at this
  rw [List.length_map]
  omega
 ·rintro i xv ys H' K1 K2 hx' ⟨rfl, rfl⟩ k1 k2
  rw [List.getElem?_map] at hx'
  obtain ⟨z, ez, rfl⟩ := Option.map_eq_some_iff.mp hx'
  refine ⟨_, rfl, _, rfl, l, _, rfl, .inl (SqL.of hl5), rfl, dY zs, _, rfl, ?_⟩
  rw [if_pos rfl, gY]
  have et := jF (P := fun z => !decide (z ∈ zs)) ez
  cases hz : (!decide (z ∈ zs)) with
  | true =>
   rw [hz] at et
   refine dO ⟨_, rfl, k1 _ _ ⟨rfl, ?_⟩⟩
   rw [et, if_pos rfl, List.map_append]
   rfl
  | false =>
   rw [hz] at et
   refine bM (k2 _ ⟨rfl, ?_⟩)
   rw [et, if_neg (by decide), List.append_nil]
 rintro ys H' ⟨rfl, rfl⟩
 rw [List.length_map, List.take_of_length_le (Nat.le_refl _)]
 have hos : ∀ z ∈ (fs.map aL).filter (fun z => !decide (z ∈ zs)), z ∈ fs.map aL ∧ net (gapsD fs ds lv) fl z = 0 := fun z m => by
  rw [List.mem_filter] at m
  exact ⟨m.1, st.zero z (List.mem_cons_of_mem _ m.1) (fun e => nf (e ▸ m.1)) (by simpa using m.2)⟩
 have los := List.length_filter_le (fun z => !decide (z ∈ zs)) (fs.map aL)
 generalize (fs.map aL).filter (fun z => !decide (z ∈ zs)) = os at hos los
 intro lo hlo
 have S6 := aK.upd (o := .lst (os.map V.str)) hlo
 have r6 : upd H5 lo (.lst (os.map V.str)) lo = some (.lst (os.map V.str)) := aF
 generalize upd H5 lo (.lst (os.map V.str)) = H6 at S6 r6
 have hde6 := S6 _ _ hde5
 refine ⟨_, rfl, lo, rfl, ⟨_, SqL.of r6⟩, ?_⟩
 refine bD (F := K) (xs := os.map V.str) (by rw [List.length_map]; omega) (fun i ys H' => H6 = H' ∧ ys = ((os.take i).map fun _ => false).map V.bl) ⟨rfl, rfl⟩ ?_ ?_ ?_
 ·rintro i ys H' hi ⟨rfl, rfl⟩
  exact ⟨SqL.of r6, by rw [List.length_map, List.length_map, List.length_take]; omega⟩
 ·rintro i xv ys H' K1 K2 hx' ⟨rfl, rfl⟩ k1 k2
  rw [List.getElem?_map] at hx'
  obtain ⟨z, ez, rfl⟩ := Option.map_eq_some_iff.mp hx'
  obtain ⟨mz, hz⟩ := hos z (List.mem_of_getElem? ez)
  refine ⟨_, rfl, _, rfl, de, _, rfl, .inl ⟨_, Sum.inr z, .inl hde6, rfl, (fO GG.vnd (List.mem_cons_of_mem _ mz) _).symm⟩, rfl, ?_⟩
  refine k1 _ _ ⟨rfl, ?_⟩
  rw [hz, List.take_add_one, ez, List.map_append, List.map_append]
  rfl
 rintro ys H' ⟨rfl, rfl⟩
 rw [List.length_map, List.take_of_length_le (Nat.le_refl _)]
 intro l7 h7
 have S7 := aK.upd (o := .lst ((os.map fun _ => false).map V.bl)) h7
 have r7 : upd H6 l7 (.lst ((os.map fun _ => false).map V.bl)) l7 = some (.lst ((os.map fun _ => false).map V.bl)) := aF
 generalize upd H6 l7 (.lst ((os.map fun _ => false).map V.bl)) = H7 at S7 r7
 refine ⟨l7, _, rfl, SqL.of r7, _, rfl, ?_⟩
 rw [xS]
 refine bM ?_
 have T7 := T5.trans (S6.trans S7)
 have hl7 := T7 _ _ hl
 have hde7 := S7 _ _ hde6
 refine ⟨_, rfl, l, rfl, ⟨_, SqL.of hl7⟩, ?_⟩
 refine bD (F := K) (xs := zs.map V.str) (by rw [List.length_map]; omega) (fun i ys H' => H7 = H' ∧ ys = ((zs.take i).map fun _ => false).map V.bl) ⟨rfl, rfl⟩ ?_ ?_ ?_
 ·rintro i ys H' hi ⟨rfl, rfl⟩
  exact ⟨SqL.of hl7, by rw [List.length_map, List.length_map, List.length_take]; omega⟩
 ·rintro i xv ys H' K1 K2 hx' ⟨rfl, rfl⟩ k1 k2
  rw [List.getElem?_map] at hx'
  obtain ⟨z, ez, rfl⟩ := Option.map_eq_some_iff.mp hx'
  have mz := List.mem_of_getElem? ez
  refine ⟨_, rfl, _, rfl, de, _, rfl, .inl ⟨_, Sum.inr z, .inl hde7, rfl, (fO GG.vnd (List.mem_cons_of_mem _ (sub z mz)) _).symm⟩, _, _, rfl, rfl, ?_⟩
  refine k1 _ _ ⟨rfl, ?_⟩
  show _ ++ [V.bl (decide (net (gapsD fs ds lv) fl z < 0))] = _
  rw [decide_eq_false (show ¬ net (gapsD fs ds lv) fl z < 0 by have := st.gain z mz; omega), List.take_add_one, ez, List.map_append, List.map_append]
  rfl
 rintro ys H' ⟨rfl, rfl⟩
 rw [List.length_map, List.take_of_length_le (Nat.le_refl _)]
 intro l8 h8
 have S8 := aK.upd (o := .lst ((zs.map fun _ => false).map V.bl)) h8
 have r8 : upd H7 l8 (.lst ((zs.map fun _ => false).map V.bl)) l8 = some (.lst ((zs.map fun _ => false).map V.bl)) := aF
 generalize upd H7 l8 (.lst ((zs.map fun _ => false).map V.bl)) = H8 at S8 r8
 refine ⟨l8, _, rfl, SqL.of r8, _, rfl, ?_⟩
 rw [xS]
 refine bM ?_
 have hl8 := S8 _ _ hl7
 have hde8 := S8 _ _ hde7
 refine ⟨_, rfl, l, rfl, ⟨_, SqL.of hl8⟩, ?_⟩
 refine bD (F := K) (xs := zs.map V.str) (by rw [List.length_map]; omega) (fun i ys H' => H8 = H' ∧ ys = ((zs.take i).map (net (gapsD fs ds lv) fl)).map V.int) ⟨rfl, rfl⟩ ?_ ?_ ?_
 ·rintro i ys H' hi ⟨rfl, rfl⟩
  exact ⟨SqL.of hl8, by rw [List.length_map, List.length_map, List.length_take]; omega⟩
 ·rintro i xv ys H' K1 K2 hx' ⟨rfl, rfl⟩ k1 k2
  rw [List.getElem?_map] at hx'
  obtain ⟨z, ez, rfl⟩ := Option.map_eq_some_iff.mp hx'
  have mz := List.mem_of_getElem? ez
  refine ⟨_, rfl, _, rfl, de, _, rfl, .inl ⟨_, Sum.inr z, .inl hde8, rfl, (fO GG.vnd (List.mem_cons_of_mem _ (sub z mz)) _).symm⟩, ?_⟩
  refine k1 _ _ ⟨rfl, ?_⟩
  rw [List.take_add_one, ez, List.map_append, List.map_append]
  rfl
 rintro ys H' ⟨rfl, rfl⟩
 rw [List.length_map, List.take_of_length_le (Nat.le_refl _)]
 intro l9 h9
 have S9 := aK.upd (o := .lst ((zs.map (net (gapsD fs ds lv) fl)).map V.int)) h9
 refine ⟨l9, zs.map (net (gapsD fs ds lv) fl), rfl, SqL.of aF, ?_⟩
 rw [show (zs.map (net (gapsD fs ds lv) fl)).sum = val (gapsD fs ds lv) fl from zR GG st nd (fun z m => List.mem_cons_of_mem _ (sub z m)) ns]
 exact q _ (T7.trans (S8.trans S9))
open Mt53 Mt22 MtF Mt31 Mt61 Mt51
def tN : Sp := sp1 fun x H Q => ∃ i : Int, x = .int i ∧ Q (.bl true) H
theorem uK (T : Txt K mg C) : Fc P w K mg base 1 "_law_whole" ["_law_found"] tN := by
 refine T.d_l_whole.fc aCQ mI (fun f cdv A outer s H vs Q E hr h => ?_)
 obtain ⟨x, rfl, i, rfl, q⟩ := h
 refine ⟨_, (aH (@aS _ _ _ _ (@dA _ _ _ _ _ _ _ (@aU _ _ _ _ _ _ _ _ _ (@bY _ (K) rfl) rfl T.n_isinstance bJ (aA (pv 0) (aA (@kD _ _ _ _ T.n_int xK (by rfl) (by decide) (by decide)) aD)) (by decide) (by decide) (by rfl) (by rfl)) (@dS _ _ _ _ _ (@aIK _ _ _ _ (@aU _ _ _ _ _ _ _ _ _ (@bY _ (K) rfl) rfl T.n_isinstance bJ (aA (pv 0) (aA (@kD _ _ _ _ T.n_bool vN (by rfl) (by decide) (by decide)) aD)) (by decide) (by decide) (by rfl) (by rfl))))))), ?_⟩
 refine ⟨_, rfl, _, _, _, _, _, rfl, rfl, .int i, kY _ _, _, rfl, dO ?_⟩
 exact ⟨_, rfl, _, _, _, _, false, rfl, rfl, .int i, rfl, _, rfl, q⟩
theorem aLM {ds : List Dv} : deq (.lst ds) (.lst []) = decide (ds = []) := by
 cases ds with
 | nil => rfl
 | cons d r => rfl
theorem aBF (zs : List Str) : decide (zs.map Dv.str = []) = decide (zs = []) := by cases zs <;> rfl
def aHM (C : Addr) : Sp := sp3 fun x y u H Q => ∃ (p l : Addr) (fs ds : List Dv) (zs : List Str) (L : Int), x = .ref p ∧ LandAt C H p fs ds ∧ y = .ref l ∧ H l = some (.lst (zs.map V.str)) ∧ zs.length ≤ 1000 ∧ u = .int L ∧
 ∀ (cs : List Str) (H' : Hp), aK H H' → (∀ z, z ∈ cs ↔ Reach (Mt51.gapsD fs ds L) z) → Q (.bl (decide ((zs.filter fun z => decide (z ∈ cs)) = []))) H'
theorem aGD (T : Txt K mg C) : Fc P w K mg base 3 "_law_kept" ["_law_land_here", "_law_fields_here", "_law_height_here"] (aHM C) := by
 have G_l_come : Fc P w K mg base 1 "_law_come" ["_law_gaps_here"] (aHR K) := aGF T
 have G_l_gaps : Fc P w K mg base 2 "_law_gaps" ["_law_land_here", "_law_height_here"] (yA C) := wR T
 refine T.d_l_kept.fc wM rA (fun f cdv A outer s H vs Q E hr h => ?_)
 obtain ⟨x, y, u, rfl, p, l, fs, ds, zs, lv, rfl, L, rfl, hl, lz, rfl, q⟩ := h
 have big := bQ
 have gf := (bG L).1
 have gd := (bG L).2
 have d2 := gd.l2
 have f2 := gf.l2
 refine ⟨_, (aG (@aT _ _ (3) _ _ _ _ wM.nd rfl (Or.inr rfl) (@bL _ _ _ _ _ _ _ _ _ _ G_l_come (hr.mono (by decide)) (aA (@bL _ _ _ _ _ _ _ _ _ _ G_l_gaps (hr.mono (by decide)) (aA (pv 0) (aA (pv 2) aD)) (by rfl) (by decide) (by rfl) (by rfl)) aD) (by rfl) (by decide) (by rfl) (by rfl)) (by rfl) (by trivial)) (aH (@aS _ _ _ _ (@dJ _ _ _ _ _ _ _ _ (@yO _ hr.units) (@bV _ _ _ _ _ _ _ _ _ _ _ ["_law_name", "_law_come_here"] 1 [3] rfl (@bF _ _ _ _ (pv 1)) (fun R => @aO _ _ (0) _ (show List.Nodup (["_law_name", "_law_come_here"] : List Str) by decide +kernel) rfl (Or.inl rfl) (by trivial)) (@aW _ _ (by decide)) (fun R => @eI _ _ _ (@bE _ _ _ _ _ _ _ _ (@gD _ (K) rfl) (pv 0) (pv 1) (by with_unfolding_all rfl))) (fun R => (pv 0)) (by rfl) (by rfl) (by rfl) (by rfl) (by rfl) (by rfl) (by rfl) (by intro _; rfl)) (@dL _ _ _ _ aD) (@bI _ _ (by decide) (by decide)))))), ?_⟩
 refine ⟨_, rfl, _, rfl, _, _, rfl, p, fs, ds, lv, rfl, L, rfl, fun lg us H1 S1 flg hlg ius => ?_⟩
 have lG : (Mt51.gapsD fs ds lv).length ≤ 40 := by
  unfold Mt51.gapsD
  rw [List.length_map]
  exact Nat.le_trans (List.length_filter_le _ _) d2
 refine ⟨_, rfl, lg, us, Mt51.gapsD fs ds lv, "sea" :: fs.map aL, rfl, hlg, ius, lG, by rw [List.length_cons, List.length_map]; omega, List.mem_cons_self, fun g m => ?_, fun lc cs H2 S2 flc hlc lcs hcs => ?_⟩
 ·obtain ⟨d, md, _, _, _, rfl⟩ := aIT.mp m
  obtain ⟨n, a', b', c, r, sl, rfl, _, ha, hb, _⟩ := bA (gd.all d md)
  exact ⟨ha, hb⟩
 have T2 := S1.trans S2
 have hl2 := T2 _ _ hl
 refine ⟨_, rfl, l, rfl, ⟨_, SqL.of hl2⟩, ?_⟩
 refine bD (F := K) (xs := zs.map V.str) (by rw [List.length_map]; omega) (fun i ys H' => H2 = H' ∧ ys = ((zs.take i).filter fun z => decide (z ∈ cs)).map V.str ∧ ys.length ≤ i) ⟨rfl, rfl, Nat.le_refl _⟩ ?_ ?_ ?_
 ·rintro i ys H' hi' ⟨rfl, rfl, ll⟩
  exact ⟨SqL.of hl2, ll⟩
 ·rintro i xv ys H' K1 K2 hx ⟨rfl, rfl, ll⟩ k1 k2
  obtain ⟨z, ez⟩ : ∃ z, zs[i]? = some z := by
   have := (List.getElem?_eq_some_iff.mp hx).1
   rw [List.length_map] at this
   exact ⟨_, List.getElem?_eq_getElem this⟩
  rw [List.getElem?_map, ez] at hx
  cases hx
  refine ⟨_, rfl, _, rfl, lc, _, rfl, .inl (SqL.of hlc), rfl, dY cs, _, rfl, ?_⟩
  rw [if_neg Bool.false_ne_true, gY]
  refine gW (fun h1 => ?_) (fun h1 => ?_)
  ·refine ⟨_, rfl, k1 _ _ ⟨rfl, ?_, by rw [List.length_append]; show _ + 1 ≤ _; omega⟩⟩
   rw [List.take_add_one, ez, List.filter_append]
   show _ = (_ ++ [z].filter _).map V.str
   rw [List.filter_cons_of_pos (p := fun z => decide (z ∈ cs)) (a := z) h1, List.filter_nil, List.map_append]
   rfl
  ·refine k2 _ ⟨rfl, ?_, by omega⟩
   rw [List.take_add_one, ez, List.filter_append]
   show _ = (_ ++ [z].filter _).map V.str
   rw [List.filter_cons_of_neg (p := fun z => decide (z ∈ cs)) (a := z) h1, List.filter_nil, List.append_nil]
 rintro ys H' ⟨rfl, rfl, ll⟩
 rw [List.length_map, List.take_of_length_le (Nat.le_refl _)] at *
 intro p4 hp4
 have S4 := aK.upd (o := .lst ((zs.filter fun z => decide (z ∈ cs)).map V.str)) hp4
 refine ⟨aY rfl, fun pe hpe => ?_⟩
 have S5 := aK.upd (o := .lst []) hpe
 refine ⟨.lst ((zs.filter fun z => decide (z ∈ cs)).map Dv.str), .lst [], iE (S5 _ _ aF), ⟨pe, [], rfl, aF, rfl⟩, cJ _, rfl, ?_⟩
 rw [if_neg Bool.false_ne_true, aLM, aBF]
 exact q cs _ (T2.trans (S4.trans S5)) hcs
def xX (C : Addr) : Sp := sp2 fun x y H Q => ∃ (p l : Addr) (fs ds : List Dv) (us : List V) (rows : List (Str × Int)), x = .ref p ∧ LandAt C H p fs ds ∧ y = .ref l ∧ H l = some (.lst us) ∧ IsL H (rows.map rT) us ∧ (rows.map (·.1)).Sublist (ds.map aL) ∧ ∀ H', aK H H' → Q (.bl true) H'
theorem pG (T : Txt K mg C) : Fc P w K mg base 2 "_law_in_order" ["_law_land_here", "_law_steps"] (xX C) := by
 have G_l_whole : Fc P w K mg base 1 "_law_whole" ["_law_found"] tN := uK T
 have G_land_p_dyke_names : Mc P w K mg base 1 C "dyke_names" ["self"] (lL C fun _ ds => ds.map aL) := nP T
 refine T.d_l_in_order.fc kH gK (fun f cdv A outer s H vs Q E hr h => ?_)
 obtain ⟨x, y, rfl, p, l, fs, ds, us, rows, rfl, L, rfl, hl, ius, sb, q⟩ := h
 have big := bQ
 have gd := (bG L).2
 have d2 := gd.l2
 have lus := iH ius
 rw [List.length_map] at lus
 have lsb := sb.length_le
 rw [List.length_map, List.length_map] at lsb
 refine ⟨_, (aG (@cW _ _ _ _ _ _ _ _ (@cK _ _ _ _ (@cG _ _ _ (@aU _ _ _ _ _ _ _ _ _ (@bY _ (K) rfl) rfl T.n_isinstance bJ (aA (pv 1) (aA (@kD _ _ _ _ T.n_list dI (by rfl) (by decide) (by decide)) aD)) (by decide) (by decide) (by rfl) (by rfl)) (by intro _; rfl))) (aH (@aS _ _ _ _ lY)) bP) (aG (@eN _ _ _ _ _ _ _ _ PassesOwn.never rfl (@bF _ _ _ _ (pv 1)) (@aO _ _ (2) _ kH.nd rfl (Or.inl rfl) (by trivial)) (aH (@cW _ _ _ _ _ _ _ _ (@PW.pt _ _ _ (@fE _ _ _ _ _ _ _ (@cK _ _ _ _ (@cG _ _ _ (@aU _ _ _ _ _ _ _ _ _ (@bY _ (K) rfl) rfl T.n_isinstance bJ (aA (pv 2) (aA (@kD _ _ _ _ T.n_tuple oE (by rfl) (by decide) (by decide)) aD)) (by decide) (by decide) (by rfl) (by rfl)) (by intro _; rfl))) (@fE _ _ _ _ _ _ _ (@bE _ _ _ _ _ _ _ _ lZ (@aU _ _ _ _ _ _ _ _ _ (@bH _ (K) rfl) rfl T.n_len cA (aA (pv 2) aD) (by decide) (by decide) (by rfl) (by rfl)) aE (@bI _ _ (by decide) (by decide))) (@fD _ _ _ _ (@cK _ _ _ _ (@cG _ _ _ (@bL _ _ _ _ _ _ _ _ _ _ G_l_whole (hr.mono (by decide)) (aA (@aX _ _ _ _ _ _ _ (@aP _ (K) rfl) (pv 2) aE (fun _ _ => rfl)) aD) (by rfl) (by decide) (by rfl) (by rfl)) (by intro _; rfl))))))) (aH (@aS _ _ _ _ lY)) bP)) (by intro _; rfl)) (aG (@aT _ _ (3) _ _ _ _ kH.nd rfl (Or.inr rfl) (@bV _ _ _ _ _ _ _ _ _ _ _ ["_law_step"] 1 [] rfl (@bF _ _ _ _ (pv 1)) (fun R => @aO _ _ (0) _ (show List.Nodup (["_law_step"] : List Str) by decide +kernel) rfl (Or.inl rfl) (by trivial)) (@aW _ _ (by decide)) (fun R => cC) (fun R => (@aX _ _ _ _ _ _ _ (@aP _ (K) rfl) (pv 0) aE (fun _ _ => rfl))) (by rfl) (by rfl) (by rfl) (by rfl) (by rfl) (by rfl) (by rfl) (by intro _; rfl)) (by rfl) (by trivial)) (aH (@aS _ _ _ _ (@dJ _ _ _ _ _ _ _ _ (@yO _ hr.units) (pv 3) (@bV _ _ _ _ _ _ _ _ _ _ _ ["_law_name", "_law_told"] 1 [3] rfl (@bF _ _ _ _ (@jT _ _ _ _ _ _ _ _ _ _ _ T.cl_Land G_land_p_dyke_names (hr.mono (by decide)) (pv 0) (by rfl))) (fun R => @aO _ _ (0) _ (show List.Nodup (["_law_name", "_law_told"] : List Str) by decide +kernel) rfl (Or.inl rfl) (by trivial)) (@aW _ _ (by decide)) (fun R => @eI _ _ _ (@bE _ _ _ _ _ _ _ _ (@gD _ (K) rfl) (pv 0) (pv 1) (by with_unfolding_all rfl))) (fun R => (pv 0)) (by rfl) (by rfl) (by rfl) (by rfl) (by rfl) (by rfl) (by rfl) (by intro _; rfl)) (@bI _ _ (by decide) (by decide)))))))), ?_⟩
 obtain ⟨ty, hty, e1, e2, e3, e4, _⟩ := jY K (show Is H (.lst (rows.map rT)) (.ref l) from ⟨l, us, rfl, hl, ius⟩)
 refine ⟨_, rfl, _, _, _, ty, _, rfl, rfl, hty, e4, _, rfl, bM ?_⟩
 have row : ∀ {i : Nat} {xv : V}, us[i]? = some xv → ∃ nk t, rows[i]? = some nk ∧ xv = .ref t ∧ H t = some (.tup [.str nk.1, .int nk.2]) := fun {i xv} hx => by
  have hil : i < us.length := (List.getElem?_eq_some_iff.mp hx).1
  obtain ⟨nk, en⟩ : ∃ nk, rows[i]? = some nk := ⟨_, List.getElem?_eq_getElem (by omega)⟩
  obtain ⟨v, ev, iv⟩ := ius.get (show (rows.map rT)[i]? = some (rT nk) by rw [List.getElem?_map, en]; rfl)
  rw [hx] at ev
  cases ev
  obtain ⟨t, rfl, o⟩ := aCU iv
  exact ⟨nk, t, en, rfl, o⟩
 refine ⟨_, rfl, l, rfl, ⟨_, SqL.of hl⟩, eL (K := K) (a := l) (xs := us) (fun i σ H' => ∃ v2, σ = [some (.ref p), some (.ref l), v2, none] ∧ H = H') ⟨_, rfl, rfl⟩ ?_ ?_ ?_⟩
 ·rintro i σ H' hi ⟨v2, rfl, rfl⟩
  exact SqL.of hl
 ·rintro i xv σ H' hx ⟨v2, rfl, rfl⟩
  obtain ⟨nk, t, en, rfl, ot⟩ := row hx
  obtain ⟨ty2, hty2, x1, x2, x3, x4, x5⟩ := jY K (aHZ ot)
  refine ⟨_, rfl, _, _, _, ty2, _, rfl, rfl, hty2, x5, _, rfl, bM ?_⟩
  refine ⟨_, rfl, t, _, rfl, .inr (SqT.of ot), rfl, _, rfl, bM ?_⟩
  exact ⟨_, rfl, t, _, 1, .int nk.2, rfl, rfl, SqT.of ot, aI (j := 1) rfl, _, rfl, nk.2, rfl, _, rfl, bM ⟨_, rfl, rfl⟩⟩
 rintro σ H' ⟨v2, rfl, rfl⟩
 refine ⟨_, rfl, l, rfl, ⟨_, SqL.of hl⟩, ?_⟩
 refine bD (F := K) (xs := us) (by omega) (fun i ys H' => H = H' ∧ ys = ((rows.take i).map (·.1)).map V.str) ⟨rfl, rfl⟩ ?_ ?_ ?_
 ·rintro i ys H' hi ⟨rfl, rfl⟩
  refine ⟨SqL.of hl, ?_⟩
  rw [List.length_map, List.length_map, List.length_take]
  omega
 ·rintro i xv ys H' K1 K2 hx ⟨rfl, rfl⟩ k1 k2
  obtain ⟨nk, t, en, rfl, ot⟩ := row hx
  refine ⟨_, rfl, t, _, 0, .str nk.1, rfl, rfl, SqT.of ot, aI (j := 0) rfl, k1 _ _ ⟨rfl, ?_⟩⟩
  rw [List.take_add_one, en, List.map_append, List.map_append]
  rfl
 rintro ys H' ⟨rfl, rfl⟩
 rw [List.take_of_length_le (by omega)]
 have fsb := uZ sb gd.nd
 have lns : (rows.map (·.1)).length = rows.length := List.length_map _
 generalize rows.map (·.1) = ns at sb fsb lns
 intro ln hln
 have S2 := aK.upd (o := .lst (ns.map V.str)) hln
 have r2 : upd H ln (.lst (ns.map V.str)) ln = some (.lst (ns.map V.str)) := aF
 generalize upd H ln (.lst (ns.map V.str)) = H2 at S2 r2
 have L2' := L.same S2
 obtain ⟨dx, d1, d2', hx, _⟩ := L2'.ex
 refine ⟨_, rfl, _, rfl, p, dx, _, rfl, hx, cI _ _ (by decide +kernel) (by decide +kernel), _, rfl, p, fs, ds, rfl, L2', fun ld H3 S3 fld hld => ?_⟩
 have r3 := S3 _ _ r2
 have ldn : (ds.map aL).length = ds.length := List.length_map _
 refine ⟨ld, rfl, ⟨_, SqL.of hld⟩, ?_⟩
 refine bD (F := K) (xs := (ds.map aL).map V.str) (by rw [List.length_map]; omega) (fun i ys H' => H3 = H' ∧ ys = (((ds.map aL).take i).filter fun z => decide (z ∈ ns)).map V.str) ⟨rfl, rfl⟩ ?_ ?_ ?_
 ·rintro i ys H' hi ⟨rfl, rfl⟩
  refine ⟨SqL.of hld, ?_⟩
  have := List.length_filter_le (fun z => decide (z ∈ ns)) ((ds.map aL).take i)
  rw [List.length_take] at this
  rw [List.length_map]
  omega
 ·rintro i xv ys H' K1 K2 hx' ⟨rfl, rfl⟩ k1 k2
  rw [List.getElem?_map] at hx'
  obtain ⟨z, ez, rfl⟩ := Option.map_eq_some_iff.mp hx'
  refine ⟨_, rfl, _, rfl, ln, _, rfl, .inl (SqL.of r3), rfl, dY ns, _, rfl, ?_⟩
  rw [if_neg Bool.false_ne_true, gY]
  have et := jF (P := fun z => decide (z ∈ ns)) ez
  cases hz : decide (z ∈ ns) with
  | true =>
   rw [hz] at et
   refine dO ⟨_, rfl, k1 _ _ ⟨rfl, ?_⟩⟩
   rw [et, if_pos rfl, List.map_append]
   rfl
  | false =>
   rw [hz] at et
   refine bM (k2 _ ⟨rfl, ?_⟩)
   rw [et, if_neg (by decide), List.append_nil]
 rintro ys H4 ⟨rfl, rfl⟩
 rw [List.length_map, List.take_of_length_le (Nat.le_refl _), fsb]
 intro lc hlc
 have S4 := aK.upd (o := .lst (ns.map V.str)) hlc
 refine ⟨.lst (ns.map Dv.str), .lst (ns.map Dv.str), iE (S4 _ _ r3), iE aF, cJ _, cJ _, ?_⟩
 show Q (.bl (deq _ _)) _
 rw [jX 30 _ (cJ _)]
 exact q _ (S2.trans (S3.trans S4))
open Mt53 Mt22 MtF Mt31 Mt61 Mt51
theorem aDU {GP : List Gp} (nd : (GP.map (·.nm)).Nodup) {gp : Gp} (m : gp ∈ GP) : (GP.filter fun x => decide (x.nm = gp.nm)) = [gp] := by
 induction GP with
 | nil => cases m
 | cons x GP ih =>
  rw [List.map_cons, List.nodup_cons] at nd
  rcases List.mem_cons.mp m with rfl | m
  ·rw [List.filter_cons_of_pos (by simp), List.filter_eq_nil_iff.mpr fun y my => ?_]
   intro c
   exact nd.1 (of_decide_eq_true c ▸ List.mem_map.mpr ⟨y, my, rfl⟩)
  ·rw [List.filter_cons_of_neg, ih nd.2 m]
   intro c
   exact nd.1 (of_decide_eq_true c ▸ List.mem_map.mpr ⟨gp, m, rfl⟩)
theorem aHW {V0 : List Str} {z : Str} (n : z ∉ V0) : kA (bW (cP V0) fun _ => 0) (Sum.inr z) (.int 0) = bW (cP (V0 ++ [z])) fun _ => 0 := by
 unfold kA
 have ha : ¬ ((bW (cP V0) fun _ => 0).any fun kv => decide (kv.1 = (Sum.inr z : Key))) = true := by
  intro c
  obtain ⟨kv, mk, e⟩ := List.any_eq_true.mp c
  obtain ⟨g, mg, rfl⟩ := List.mem_map.mp mk
  obtain ⟨y, my, rfl⟩ := List.mem_map.mp mg
  have : (Sum.inr y : Key) = Sum.inr z := of_decide_eq_true e
  exact n (Sum.inr.inj this ▸ my)
 rw [if_neg ha]
 unfold bW cP
 rw [List.map_append, List.map_append]
 rfl
def tO (C : Addr) (K : PySem.W.Frag) : Sp := fun vs H Q _ => ∃ (x y u v : V) (p lg l la : Addr) (fs ds : List Dv) (zs : List Str) (L : Int) (gus ua : List V) (f : Fl), vs = [x, y, u, v] ∧ x = .ref p ∧ LandAt C H p fs ds ∧ y = .ref lg ∧ H lg = some (.lst gus) ∧ IsL H ((Mt51.gapsD fs ds L).map lB) gus ∧ u = .ref l ∧ H l = some (.lst (zs.map V.str)) ∧ zs.Nodup ∧ (∀ z ∈ zs, z ∈ fs.map aL) ∧ v = .ref la ∧ H la = some (.lst ua) ∧ IsL H (iX (gapsD fs ds L) f) ua ∧ Stream ("sea" :: fs.map aL) (gapsD fs ds L) zs f ∧ ∀ H', aK H H' → Q (.int (val (gapsD fs ds L) f)) H'
theorem aGH : ∀ vs H Q E, tO C K vs H Q E → vs.length = 4 := fun vs H Q E ⟨x, y, u, v, p, lg, l, la, fs, ds, zs, L, gus, ua, f, e, _⟩ => by rw [e]; rfl
theorem aGW (G : List Gap) (f : Fl) : iX G f = ((G.filter fun g => !decide (f g.nm = 0)).map fun g => (g.nm, f g.nm)).map rT := by
 unfold iX
 rw [List.map_map]
 rfl
theorem aDF (T : Txt K mg C) : Fc P w K mg base 3 "_law_paper" ["_law_land_here", "_law_gaps_here", "_law_wish_here", "_law_stream"] (tO C K) := by
 have G_l_in_order : Fc P w K mg base 2 "_law_in_order" ["_law_land_here", "_law_steps"] (xX C) := pG T
 have G_land_p_field_names : Mc P w K mg base 1 C "field_names" ["self"] (lL C fun fs _ => fs.map aL) := cR T
 refine T.d_l_paper.fc gC aGH (fun f cdv A outer s H vs Q E hr h => ?_)
 obtain ⟨x, y, u, v, p, lg, l, la, fs, ds, zs, lv, gus, ua, fl, rfl, rfl, L, rfl, hg, ig, rfl, hl, nd, sub, rfl, hla, iua, st, q⟩ := h
 have big := bQ
 have hu := gZ hr
 have gf := (bG L).1
 have gd := (bG L).2
 have d2 := gd.l2
 have f2 := gf.l2
 have GG := kF gf gd lv
 have gl := iT fs ds lv
 have gsm := wZ gf gd lv
 have nf : Mt22.sea ∉ fs.map aL := fun m => by
  obtain ⟨d, md, e⟩ := List.mem_map.mp m
  obtain ⟨z, g, u, rfl, hz, _⟩ := bS (gf.all d md)
  exact oR hz e
 have ns : Mt22.sea ∉ zs := fun m => nf (sub _ m)
 have lz : zs.length ≤ fs.length := by
  have := kK nd sub
  rw [List.length_map] at this
  exact this
 have lua := iH iua
 have lam : (iX (gapsD fs ds lv) fl).length ≤ 40 := by
  unfold iX
  rw [List.length_map]
  exact Nat.le_trans (List.length_filter_le _ _) (by omega)
 refine ⟨_, (aG (@cW _ _ _ _ _ _ _ _ (@cK _ _ _ _ (@cG _ _ _ (@bL _ _ _ _ _ _ _ _ _ _ G_l_in_order (hr.mono (by decide)) (aA (pv 0) (aA (pv 3) aD)) (by rfl) (by decide) (by rfl) (by rfl)) (by intro _; rfl))) (aH (@aS _ _ _ _ eO)) bP) (aG (@aT _ _ (4) _ _ _ _ gC.nd rfl (Or.inr rfl) (@aKQ _ _ _ _ _ (@aIH _ _ _ _ _ _ _ _ _ qT aE aKL) rfl rfl (by simp) (Nat.le_of_ble_eq_true rfl)) (by rfl) (by trivial)) (aG (@eN _ _ _ _ _ _ _ _ PassesOwn.never rfl (@bF _ _ _ _ (@jT _ _ _ _ _ _ _ _ _ _ _ T.cl_Land G_land_p_field_names (hr.mono (by decide)) (pv 0) (by rfl))) (@aO _ _ (5) _ gC.nd rfl (Or.inr rfl) (by trivial)) (aH (@tE _ _ _ _ _ _ _ _ _ hu (pv 4) (pv 5) aE rfl)) (by intro _; rfl)) (aG (@eN _ _ _ _ _ _ _ _ PassesOwn.never rfl (@bF _ _ _ _ (pv 3)) (@nG _ _ _ _ _ _ rfl (@bX _ _ _ _ _ (@aO _ _ (5) _ gC.nd rfl (Or.inr rfl) (by trivial)) (@bX _ _ _ _ _ (@aO _ _ (6) _ gC.nd rfl (Or.inl rfl) (by trivial)) kC (by rfl)) (by rfl)) (by rfl) (by rfl)) (aG (@jS _ (7) _ _ _ _ _ _ _ _ _ _ _ _ _ gC.nd rfl ["_law_gap", "_law_name"] 1 [5] rfl (@bF _ _ _ _ (pv 1)) (fun R => @aO _ _ (0) _ (show List.Nodup (["_law_gap", "_law_name"] : List Str) by decide +kernel) rfl (Or.inl rfl) (by trivial)) (@aW _ _ (by decide)) (fun R => @eI _ _ _ (@bE _ _ _ _ _ _ _ _ nK (@aX _ _ _ _ _ _ _ (@aP _ (K) rfl) (pv 0) aE (fun _ _ => rfl)) (pv 1) (@bI _ _ (by decide) (by decide)))) (fun R => (pv 0)) (by exact Or.inl rfl) (by trivial) (by rfl) (by rfl) (by rfl) (by rfl) (by rfl) (by rfl) (by rfl) (by rfl) (by intro _; rfl)) (aG (@cW _ _ _ _ _ _ _ _ (@PW.pt _ _ _ (@fE _ _ _ _ _ _ _ (@bE _ _ _ _ _ _ _ _ (@yO _ hr.units) (pv 7) (@dL _ _ _ _ aD) (@bI _ _ (by decide) (by decide))) (@fE _ _ _ _ _ _ _ (@bE _ _ _ _ _ _ _ _ nK (pv 6) aE (@bI _ _ (by decide) (by decide))) (@fD _ _ _ _ (@bE _ _ _ _ _ _ _ _ aIO (@aU _ _ _ _ _ _ _ _ _ aBT rfl T.n_abs xM (aA (pv 6) aD) (by decide) (by decide) (by rfl) (by rfl)) (@aX _ _ _ _ _ _ _ (@aP _ (K) rfl) (@aX _ _ _ _ _ _ _ (@cS _ (K) rfl) (pv 7) aE (fun _ _ => rfl)) aE (fun _ _ => rfl)) (@bI _ _ (by decide) (by decide))))))) (aH (@aS _ _ _ _ eO)) bP) (aG (@tE _ _ _ _ _ _ _ _ _ hu (pv 4) (@aX _ _ _ _ _ _ _ (@aP _ (K) rfl) (@aX _ _ _ _ _ _ _ (@cS _ (K) rfl) (pv 7) aE (fun _ _ => rfl)) aE (fun _ _ => rfl)) (@aJ _ _ _ _ _ _ _ _ dU (@dN _ _ _ _ _ _ hu (pv 4) (@aX _ _ _ _ _ _ _ (@aP _ (K) rfl) (@aX _ _ _ _ _ _ _ (@cS _ (K) rfl) (pv 7) aE (fun _ _ => rfl)) aE (fun _ _ => rfl)) (fun _ _ => rfl)) (pv 6)) rfl) (aH (@tE _ _ _ _ _ _ _ _ _ hu (pv 4) (@aX _ _ _ _ _ _ _ (@aP _ (K) rfl) (@aX _ _ _ _ _ _ _ (@cS _ (K) rfl) (pv 7) aE (fun _ _ => rfl)) aE (fun _ _ => rfl)) (@aJ _ _ _ _ _ _ _ _ dM (@dN _ _ _ _ _ _ hu (pv 4) (@aX _ _ _ _ _ _ _ (@aP _ (K) rfl) (@aX _ _ _ _ _ _ _ (@cS _ (K) rfl) (pv 7) aE (fun _ _ => rfl)) aE (fun _ _ => rfl)) (fun _ _ => rfl)) (pv 6)) rfl))))) (by intro _; rfl)) (aG (@eN _ _ _ _ _ _ _ _ PassesOwn.never rfl (@bF _ _ _ _ (@jT _ _ _ _ _ _ _ _ _ _ _ T.cl_Land G_land_p_field_names (hr.mono (by decide)) (pv 0) (by rfl))) (@aO _ _ (5) _ gC.nd rfl (Or.inr rfl) (by trivial)) (aH (@cW _ _ _ _ _ _ _ _ (@PW.pt _ _ _ (@fE _ _ _ _ _ _ _ (@bE _ _ _ _ _ _ _ _ pB (@dN _ _ _ _ _ _ hu (pv 4) (pv 5) (fun _ _ => rfl)) aE (@bI _ _ (by decide) (by decide))) (@fD _ _ _ _ (@PW.pt _ _ _ (@pN _ _ _ _ _ _ _ (@bE _ _ _ _ _ _ _ _ (@iG _ (K) rfl) (pv 5) (pv 2) (by with_unfolding_all rfl)) (@oT _ _ _ _ (@bE _ _ _ _ _ _ _ _ lZ (@dN _ _ _ _ _ _ hu (pv 4) (pv 5) (fun _ _ => rfl)) aE (@bI _ _ (by decide) (by decide))))))))) (aH (@aS _ _ _ _ eO)) bP)) (by intro _; rfl)) (aH (@aS _ _ _ _ (@aU _ _ _ _ _ _ _ _ _ (vL rfl) rfl T.n_sum rP (aA (@bV _ _ _ _ _ _ _ _ _ _ _ ["_law_name", "_law_gains"] 1 [4] rfl (@bF _ _ _ _ (pv 2)) (fun R => @aO _ _ (0) _ (show List.Nodup (["_law_name", "_law_gains"] : List Str) by decide +kernel) rfl (Or.inl rfl) (by trivial)) (@aW _ _ (by decide)) (fun R => cC) (fun R => (@dN _ _ _ _ _ _ hu (pv 1) (pv 0) (fun _ _ => rfl))) (by rfl) (by rfl) (by rfl) (by rfl) (by rfl) (by rfl) (by rfl) (by intro _; rfl)) aD) (by decide) (by decide) (by rfl) (by rfl))))))))), ?_⟩
 refine ⟨_, rfl, _, rfl, _, _, rfl, p, la, fs, ds, ua, ((gapsD fs ds lv).filter fun g => !decide (fl g.nm = 0)).map fun g => (g.nm, fl g.nm), rfl, L, rfl, hla, by rw [← aGW]; exact iua, ?_, fun H1 S1 => ⟨_, rfl, bM ?_⟩⟩
 ·rw [List.map_map]
  exact aBV.trans (aBI gd lv)
 intro de hde0
 refine ⟨aF, [(Sum.inr "sea", .int 0)], rfl, by decide, ?_⟩
 have S2 : aK H1 (upd (upd H1 de (.dK [])) de (.dK (nR [] [(Sum.inr "sea", V.int 0)]))) := (aK.upd hde0).over hde0
 have e2 : upd (upd H1 de (.dK [])) de (.dK (nR [] [(Sum.inr "sea", V.int 0)])) de = some (.dK (bW (cP ["sea"]) fun _ => 0)) := aF
 generalize upd (upd H1 de (.dK [])) de (.dK (nR [] [(Sum.inr "sea", V.int 0)])) = H2 at S2 e2
 have nde := S1.free hde0
 have T2 := S1.trans S2
 have L2' := L.same T2
 obtain ⟨dx, d1, d2', hx, _⟩ := L2'.ex
 refine ⟨_, rfl, p, dx, _, rfl, hx, cI _ _ (by decide +kernel) (by decide +kernel), _, rfl, p, fs, ds, rfl, L2', fun ln H3 S3 fln hln => ?_⟩
 have nld : ln ≠ de := fun c => by rw [c, e2] at fln; cases fln
 have lfn : (fs.map aL).length = fs.length := List.length_map _
 refine ⟨ln, rfl, ⟨_, SqL.of hln⟩, eL (K := K) (a := ln) (xs := (fs.map aL).map V.str) (fun i σ H' => ∃ v5, σ = [some (.ref p), some (.ref lg), some (.ref l), some (.ref la), some (.ref de), v5, none, none] ∧ aK H H' ∧ H' ln = some (.lst ((fs.map aL).map V.str)) ∧ H' de = some (.dK (bW (cP ("sea" :: (fs.map aL).take i)) fun _ => 0))) ⟨_, rfl, T2.trans S3, hln, S3 _ _ e2⟩ ?_ ?_ ?_⟩
 ·rintro i σ H' hi ⟨v5, rfl, S', hn', he'⟩
  exact SqL.of hn'
 ·rintro i xv σ H' hx' ⟨v5, rfl, S', hn', he'⟩
  rw [List.getElem?_map] at hx'
  obtain ⟨z, ez, rfl⟩ := Option.map_eq_some_iff.mp hx'
  have hil := (List.getElem?_eq_some_iff.mp ez).1
  have nz : z ∉ (("sea" : Str) :: (fs.map aL).take i) := fun m => by
   rcases List.mem_cons.mp m with h | h
   ·have mz := List.mem_of_getElem? ez
    rw [h] at mz
    exact nf mz
   ·have nn := gf.nd
    have e3 : (fs.map aL).take (i + 1) = (fs.map aL).take i ++ [z] := by rw [List.take_add_one, ez]; rfl
    have n3 := List.Nodup.sublist (List.take_sublist (i + 1) (fs.map aL)) nn
    rw [e3, List.nodup_append] at n3
    exact n3.2.2 z h z (List.mem_singleton.mpr rfl) rfl
  refine ⟨_, rfl, _, rfl, de, _, rfl, .inl ⟨_, Sum.inr z, he', rfl, by rw [jI, List.length_cons, List.length_take]; omega, rfl⟩, ?_⟩
  refine ⟨_, rfl, S'.over nde, by rw [aQ nld]; exact hn', ?_⟩
  rw [aF, aHW nz, List.take_add_one, ez]
  rfl
 rintro σ H4 ⟨v5, rfl, T4, hn4, he4⟩
 rw [List.length_map, List.take_of_length_le (Nat.le_refl _)] at he4
 have nV := GG.vnd
 have lV : (("sea" : Str) :: fs.map aL).length ≤ 13 := by rw [List.length_cons, List.length_map]; omega
 have eV : ∀ g ∈ gapsD fs ds lv, g.a ∈ (("sea" : Str) :: fs.map aL) ∧ g.b ∈ (("sea" : Str) :: fs.map aL) ∧ g.a ≠ g.b := GG.ends
 have mV : ∀ z ∈ fs.map aL, z ∈ (("sea" : Str) :: fs.map aL) := fun z m => List.mem_cons_of_mem _ m
 generalize hVV : (("sea" : Str) :: fs.map aL) = VV at he4 nV lV eV mV
 have lgu := iH ig
 have ndP : ((Mt51.gapsD fs ds lv).map (·.nm)).Nodup := by
  have := GG.nd
  rw [← gsm, List.map_map] at this
  exact this
 have lGP : (Mt51.gapsD fs ds lv).length ≤ 40 := by
  have := congrArg List.length gsm
  rw [List.length_map] at this
  omega
 rw [List.length_map] at lgu
 refine ⟨_, rfl, la, rfl, ⟨_, SqL.of (T4 _ _ hla)⟩, eL (K := K) (a := la) (xs := ua) (fun i σ H' => ∃ v5 v6 v7, σ = [some (.ref p), some (.ref lg), some (.ref l), some (.ref la), some (.ref de), v5, v6, v7] ∧ aK H H' ∧ H' de = some (.dK (bW (cP VV) (mF (((gapsD fs ds lv).filter fun g => !decide (fl g.nm = 0)).take i) fl)))) ⟨_, _, _, rfl, T4, he4⟩ ?_ ?_ ?_⟩
 ·rintro i σ H' hi ⟨v3, v4, v5, rfl, S', he'⟩
  exact SqL.of (S' _ _ hla)
 ·rintro i xv σ H' hx' ⟨v3, v4, v5, rfl, S', he'⟩
  obtain ⟨g, t, eg, mg', f0, rfl, ot⟩ := tJ (IsL.same S' _ _ iua) hx'
  obtain ⟨ma, mb, nab⟩ := eV g mg'
  have gs := xA eg fl nab
  have ft := st.fits g mg'
  obtain ⟨gp, mp, rfl⟩ : ∃ gp ∈ Mt51.gapsD fs ds lv, toG gp = g := by
   rw [← gsm] at mg'
   exact List.mem_map.mp mg'
  refine ⟨t, _, rfl, SqT.of ot, rfl, _, _, rfl, _, _, rfl, rfl, ?_⟩
  have hg' := S' _ _ hg
  have ig' := IsL.same S' _ _ ig
  refine ⟨_, rfl, lg, rfl, ⟨_, SqL.of hg'⟩, ?_⟩
  refine bD (F := K) (xs := gus) (by omega) (fun i ys H2 => H' = H2 ∧ IsL H' ((((Mt51.gapsD fs ds lv).take i).filter fun x => decide (x.nm = gp.nm)).map lB) ys) ⟨rfl, rfl⟩ ?_ ?_ ?_
  ·rintro i ys H2 hi ⟨rfl, iy⟩
   refine ⟨SqL.of hg', ?_⟩
   have l1 := iH iy
   have l2 := List.length_filter_le (fun x : Gp => decide (x.nm = gp.nm)) ((Mt51.gapsD fs ds lv).take i)
   rw [List.length_map] at l1
   rw [List.length_take] at l2
   omega
  ·rintro i xv ys H2 K1 K2 hx2 ⟨rfl, iy⟩ k1 k2
   have hil : i < gus.length := (List.getElem?_eq_some_iff.mp hx2).1
   obtain ⟨g2, eg2⟩ : ∃ g2, (Mt51.gapsD fs ds lv)[i]? = some g2 := ⟨_, List.getElem?_eq_getElem (by omega)⟩
   obtain ⟨v, ev, iv⟩ := ig'.get (show ((Mt51.gapsD fs ds lv).map lB)[i]? = some (lB g2) by rw [List.getElem?_map, eg2]; rfl)
   rw [hx2] at ev
   cases ev
   obtain ⟨t2, rfl, ot2⟩ := zF iv
   have et := jF (P := fun x : Gp => decide (x.nm = gp.nm)) eg2
   refine ⟨_, rfl, t2, _, 0, .str g2.nm, rfl, rfl, SqT.of ot2, aI (j := 0) rfl, _, rfl, rfl, _, rfl, ?_⟩
   show if decide (V.str g2.nm = V.str gp.nm) = true then _ else _
   by_cases hz : g2.nm = gp.nm
   ·rw [decide_eq_true (show V.str g2.nm = V.str gp.nm by rw [hz])]
    refine dO ⟨_, rfl, k1 _ _ ⟨rfl, ?_⟩⟩
    rw [et, if_pos (decide_eq_true hz), List.map_append]
    exact IsL.snoc iv iy
   ·rw [decide_eq_false (show ¬ V.str g2.nm = V.str gp.nm from fun c => hz (V.str.inj c))]
    refine bM (k2 _ ⟨rfl, ?_⟩)
    rw [et, if_neg (by simpa using hz), List.append_nil]
    exact iy
  rintro ys H2 ⟨rfl, iy⟩
  rw [← lgu, List.take_of_length_le (Nat.le_refl _), aDU ndP mp] at iy
  obtain ⟨v3', r3, rfl, iv3, er3⟩ := iy
  cases (show r3 = [] from er3)
  obtain ⟨t3, rfl, ot3⟩ := zF iv3
  intro l7 h7
  have S7 := aK.upd (o := .lst [.ref t3]) h7
  have r7 : upd H' l7 (.lst [.ref t3]) l7 = some (.lst [.ref t3]) := aF
  generalize upd H' l7 (.lst [.ref t3]) = H7 at S7 r7
  have he7 := S7 _ _ he'
  have o7 := S7 _ _ ot3
  refine ⟨_, rfl, aY rfl, fun pe hpe => ?_⟩
  have S8 := aK.upd (o := .lst []) hpe
  have i8 : Is (upd H7 pe (.lst [])) (.lst [lB gp]) (.ref l7) := ⟨l7, _, rfl, S8 _ _ r7, _, _, rfl, Is.same (S7.trans S8) _ _ iv3, rfl⟩
  have n8 : Is (upd H7 pe (.lst [])) (.lst []) (.ref pe) := ⟨pe, [], rfl, aF, rfl⟩
  have r8 := S8 _ _ r7
  have he8 := S8 _ _ he7
  have o8 := S8 _ _ o7
  generalize upd H7 pe (.lst []) = H8 at S8 i8 n8 r8 he8 o8
  refine ⟨_, _, i8, n8, rfl, rfl, _, rfl, bM ?_⟩
  have en : fl (toG gp).nm = fl gp.nm := rfl
  rw [en] at f0 ft
  refine ⟨_, rfl, rfl, _, rfl, ?_⟩
  show if decide (V.int (fl gp.nm) = V.int 0) = true then _ else _
  rw [jD, decide_eq_false f0]
  refine bM ?_
  refine ⟨_, rfl, _, rfl, _, rfl, l7, _, 0, .ref t3, rfl, rfl, SqL.of r8, aI (j := 0) rfl, t3, _, 3, .int gp.coins, rfl, rfl, SqT.of o8, aI (j := 3) rfl, _, _, rfl, rfl, _, rfl, ?_⟩
  have ab : ¬ gp.coins < (if fl gp.nm < 0 then -fl gp.nm else fl gp.nm) := by
   have f1 : -gp.coins ≤ fl gp.nm := ft.1
   have f2 : fl gp.nm ≤ gp.coins := ft.2
   split <;> omega
  show if decide (gp.coins < (if fl gp.nm < 0 then -fl gp.nm else fl gp.nm)) = true then _ else _
  rw [decide_eq_false ab]
  refine bM ?_
  have ma' : gp.one ∈ VV := ma
  have mb' : gp.other ∈ VV := mb
  have S8' := S'.trans (S7.trans S8)
  generalize hh : mF (((gapsD fs ds lv).filter fun g => !decide (fl g.nm = 0)).take i) fl = h0 at he8 gs
  refine ⟨_, rfl, _, rfl, l7, _, 0, .ref t3, rfl, rfl, SqL.of r8, aI (j := 0) rfl, t3, _, 1, .str gp.one, rfl, rfl, SqT.of o8, aI (j := 1) rfl, de, _, rfl, .inl ⟨_, Sum.inr gp.one, .inl he8, rfl, (fO nV ma' _).symm⟩, _, rfl, _, _, rfl, rfl, ?_⟩
  refine ⟨_, rfl, _, rfl, l7, _, 0, .ref t3, rfl, rfl, SqL.of r8, aI (j := 0) rfl, t3, _, 1, .str gp.one, rfl, rfl, SqT.of o8, aI (j := 1) rfl, de, upd H8 de (.dK (bW (cP VV) fun k => if k = gp.one then h0 gp.one - fl gp.nm else h0 k)), rfl, .inl ⟨_, Sum.inr gp.one, he8, rfl, by rw [jI]; omega, congrArg (fun x => upd H8 de (.dK x)) (pW ma' h0 (h0 gp.one - fl gp.nm)).symm⟩, ?_⟩
  have S9 := S8'.over (o := .dK (bW (cP VV) fun k => if k = gp.one then h0 gp.one - fl gp.nm else h0 k)) nde
  have o9 : upd H8 de (.dK (bW (cP VV) fun k => if k = gp.one then h0 gp.one - fl gp.nm else h0 k)) t3 = _ := (aQ (mC o8 he8 (by intro c; cases c))).trans o8
  have r9 : upd H8 de (.dK (bW (cP VV) fun k => if k = gp.one then h0 gp.one - fl gp.nm else h0 k)) l7 = _ := (aQ (mC r8 he8 (by intro c; cases c))).trans r8
  have e9 : upd H8 de (.dK (bW (cP VV) fun k => if k = gp.one then h0 gp.one - fl gp.nm else h0 k)) de = some (.dK (bW (cP VV) fun k => if k = gp.one then h0 gp.one - fl gp.nm else h0 k)) := aF
  generalize upd H8 de (.dK (bW (cP VV) fun k => if k = gp.one then h0 gp.one - fl gp.nm else h0 k)) = H9 at S9 o9 r9 e9
  generalize hh1 : (fun k => if k = gp.one then h0 gp.one - fl gp.nm else h0 k) = h1 at e9
  refine ⟨_, rfl, _, rfl, l7, _, 0, .ref t3, rfl, rfl, SqL.of r9, aI (j := 0) rfl, t3, _, 2, .str gp.other, rfl, rfl, SqT.of o9, aI (j := 2) rfl, de, _, rfl, .inl ⟨_, Sum.inr gp.other, .inl e9, rfl, (fO nV mb' _).symm⟩, _, rfl, _, _, rfl, rfl, ?_⟩
  refine ⟨_, rfl, _, rfl, l7, _, 0, .ref t3, rfl, rfl, SqL.of r9, aI (j := 0) rfl, t3, _, 2, .str gp.other, rfl, rfl, SqT.of o9, aI (j := 2) rfl, de, upd H9 de (.dK (bW (cP VV) fun k => if k = gp.other then h1 gp.other + fl gp.nm else h1 k)), rfl, .inl ⟨_, Sum.inr gp.other, e9, rfl, by rw [jI]; omega, congrArg (fun x => upd H9 de (.dK x)) (pW mb' h1 (h1 gp.other + fl gp.nm)).symm⟩, ?_⟩
  refine ⟨_, _, _, rfl, S9.over nde, ?_⟩
  rw [aF, ← gs, ← hh1]
  rfl
 rintro σ H5 ⟨v5, v6, v7, rfl, T5, he5⟩
 have lf : ((gapsD fs ds lv).filter fun g => !decide (fl g.nm = 0)).length = ua.length := by
  rw [← lua]
  unfold iX
  rw [List.length_map]
 rw [List.take_of_length_le (by omega), show mF ((gapsD fs ds lv).filter fun g => !decide (fl g.nm = 0)) fl = net (gapsD fs ds lv) fl from funext fun z => uO _ _ _] at he5
 have L5 := L.same T5
 obtain ⟨dx5, d15, d25, hx5, _⟩ := L5.ex
 refine ⟨_, rfl, p, dx5, _, rfl, hx5, cI _ _ (by decide +kernel) (by decide +kernel), _, rfl, p, fs, ds, rfl, L5, fun ln6 H6 S6 fln6 hln6 => ?_⟩
 have he6 := S6 _ _ he5
 have T6 := T5.trans S6
 have hl6 := T6 _ _ hl
 refine ⟨ln6, rfl, ⟨_, SqL.of hln6⟩, eL (K := K) (a := ln6) (xs := (fs.map aL).map V.str) (fun i σ H' => ∃ v5, σ = [some (.ref p), some (.ref lg), some (.ref l), some (.ref la), some (.ref de), v5, v6, v7] ∧ H6 = H') ⟨_, rfl, rfl⟩ ?_ ?_ ?_⟩
 ·rintro i σ H' hi ⟨v5, rfl, rfl⟩
  exact SqL.of hln6
 ·rintro i xv σ H' hx' ⟨v5, rfl, rfl⟩
  rw [List.getElem?_map] at hx'
  obtain ⟨z, ez, rfl⟩ := Option.map_eq_some_iff.mp hx'
  have mz := List.mem_of_getElem? ez
  have mzV := mV z mz
  have nz0 : z ∉ zs → net (gapsD fs ds lv) fl z = 0 := fun h => st.zero z (List.mem_cons_of_mem _ mz) (fun e => nf (e ▸ mz)) h
  have n0 : ¬ net (gapsD fs ds lv) fl z < 0 := by
   by_cases h : z ∈ zs
   ·have := st.gain z h
    omega
   ·rw [nz0 h]
    omega
  refine ⟨_, rfl, _, rfl, de, _, rfl, .inl ⟨_, Sum.inr z, .inl he6, rfl, (fO nV mzV _).symm⟩, _, _, rfl, rfl, _, rfl, ?_⟩
  show if decide (net (gapsD fs ds lv) fl z < 0) = true then _ else _
  rw [decide_eq_false n0]
  refine bM ⟨_, rfl, _, rfl, l, _, rfl, .inl (SqL.of hl6), rfl, dY zs, _, rfl, ?_⟩
  rw [if_pos rfl, gY]
  by_cases h : z ∈ zs
  ·rw [decide_eq_true h]
   exact bM ⟨_, rfl, rfl⟩
  ·rw [decide_eq_false h]
   refine dO ⟨_, rfl, _, rfl, de, _, rfl, .inl ⟨_, Sum.inr z, .inl he6, rfl, (fO nV mzV _).symm⟩, rfl, _, rfl, ?_⟩
   rw [nz0 h]
   exact ⟨_, rfl, rfl⟩
 rintro σ H' ⟨v5', rfl, rfl⟩
 refine ⟨_, rfl, l, rfl, ⟨_, SqL.of hl6⟩, ?_⟩
 refine bD (F := K) (xs := zs.map V.str) (by rw [List.length_map]; omega) (fun i ys H' => H6 = H' ∧ ys = ((zs.take i).map (net (gapsD fs ds lv) fl)).map V.int) ⟨rfl, rfl⟩ ?_ ?_ ?_
 ·rintro i ys H' hi ⟨rfl, rfl⟩
  exact ⟨SqL.of hl6, by rw [List.length_map, List.length_map, List.length_take]; omega⟩
 ·rintro i xv ys H' K1 K2 hx' ⟨rfl, rfl⟩ k1 k2
  rw [List.getElem?_map] at hx'
  obtain ⟨z, ez, rfl⟩ := Option.map_eq_some_iff.mp hx'
  have mz := List.mem_of_getElem? ez
  refine ⟨_, rfl, _, rfl, de, _, rfl, .inl ⟨_, Sum.inr z, .inl he6, rfl, (fO nV (mV z (sub z mz)) _).symm⟩, ?_⟩
  refine k1 _ _ ⟨rfl, ?_⟩
  rw [List.take_add_one, ez, List.map_append, List.map_append]
  rfl
 rintro ys H' ⟨rfl, rfl⟩
 rw [List.length_map, List.take_of_length_le (Nat.le_refl _)]
 intro l9 h9
 have S9 := aK.upd (o := .lst ((zs.map (net (gapsD fs ds lv) fl)).map V.int)) h9
 refine ⟨l9, zs.map (net (gapsD fs ds lv) fl), rfl, SqL.of aF, ?_⟩
 rw [show (zs.map (net (gapsD fs ds lv) fl)).sum = val (gapsD fs ds lv) fl from zR GG st nd (fun z m => List.mem_cons_of_mem _ (sub z m)) ns]
 exact q _ (T6.trans S9)
open Mt53 Mt22 MtF Mt31 Mt61 Mt51
def aHN (C : Addr) : Sp := sp3 fun x y u H Q => ∃ (p l : Addr) (fs ds : List Dv) (zs : List Str) (L : Int), x = .ref p ∧ LandAt C H p fs ds ∧ y = .ref l ∧ H l = some (.lst (zs.map V.str)) ∧ 1 ≤ zs.length ∧ zs.Nodup ∧ (∀ z ∈ zs, z ∈ fs.map aL) ∧ u = .int L ∧ hgt L = true ∧
 ∀ (t lk la : Addr) (uk ua : List V) (c : Int) (H' : Hp), aK H H' → H t = none → H lk = none → H la = none → lk ≠ la → H' t = some (.tup [.int c, .ref lk, .ref la]) → H' lk = some (.lst uk) → H' la = some (.lst ua) → uk.length ≤ 80 → aBY (gapsD fs ds L) zs c → Q (.ref t) H'
theorem aGE (T : Txt K mg C) : Fc P w K mg base 9 "_law_good" ["_law_land_here", "_law_wish_here", "_law_height_here"] (aHN C) := by
 have G_p_fewest : Fc P w K mg base 6 "fewest" ["land", "fields", "height"] (aAF C) := aAX T
 have G_p_paper_for : Fc P w K mg base 5 "paper_for" ["land", "fields", "height", "stream"] (xW C) := uG T
 have G_l_whole : Fc P w K mg base 1 "_law_whole" ["_law_found"] tN := uK T
 have G_l_in_order : Fc P w K mg base 2 "_law_in_order" ["_law_land_here", "_law_steps"] (xX C) := pG T
 have G_l_kept : Fc P w K mg base 3 "_law_kept" ["_law_land_here", "_law_fields_here", "_law_height_here"] (aHM C) := aGD T
 have G_l_gaps : Fc P w K mg base 2 "_law_gaps" ["_law_land_here", "_law_height_here"] (yA C) := wR T
 have G_l_paper : Fc P w K mg base 3 "_law_paper" ["_law_land_here", "_law_gaps_here", "_law_wish_here", "_law_stream"] (tO C K) := aDF T
 have G_land_p_dyke : Mc P w K mg base 1 C "dyke" ["self", "name"] (oO C) := fH T
 have G_land_p_raised : Mc P w K mg base 8 C "raised" ["self", "works"] (aAB C) := qW T
 refine T.d_l_good.fc dR rA (fun f cdv A outer s H vs Q E hr h => ?_)
 obtain ⟨x, y, u, rfl, p, l, fs, ds, zs, lv, rfl, L, rfl, hl, l1, nd, sub, rfl, hL, q⟩ := h
 have big := bQ
 have hu := gZ hr
 have gf := (bG L).1
 have gd := (bG L).2
 have d2 := gd.l2
 have f2 := gf.l2
 have GG := kF gf gd lv
 have gl := iT fs ds lv
 have lz : zs.length ≤ fs.length := by
  have := kK nd sub
  rw [List.length_map] at this
  exact this
 refine ⟨_, (aG (@aT _ _ (3) _ _ _ _ dR.nd rfl (Or.inl rfl) (@cT _ _ _ _ _ _ _ _ _ (@pJ _ (K) rfl) rfl T.n_list dI (aA (pv 1) aD) (by decide) (by decide) (by rfl) (by rfl)) (by rfl) (by trivial)) (aG (@aT _ _ (4) _ _ _ _ dR.nd rfl (Or.inl rfl) (@bL _ _ _ _ _ _ _ _ _ _ G_p_fewest (hr.mono (by decide)) (aA (pv 0) (aA (pv 3) (aA (pv 2) aD))) (by rfl) (by decide) (by rfl) (by rfl)) (by rfl) (by trivial)) (aG (@cW _ _ _ _ _ _ _ _ (@PW.pt _ _ _ (@fE _ _ _ _ _ _ _ (@cK _ _ _ _ (@cG _ _ _ (@aU _ _ _ _ _ _ _ _ _ (@bY _ (K) rfl) rfl T.n_isinstance bJ (aA (pv 4) (aA (@kD _ _ _ _ T.n_tuple oE (by rfl) (by decide) (by decide)) aD)) (by decide) (by decide) (by rfl) (by rfl)) (by intro _; rfl))) (@fE _ _ _ _ _ _ _ (@bE _ _ _ _ _ _ _ _ lZ (@aU _ _ _ _ _ _ _ _ _ (@bH _ (K) rfl) rfl T.n_len cA (aA (pv 4) aD) (by decide) (by decide) (by rfl) (by rfl)) aE (@bI _ _ (by decide) (by decide))) (@fD _ _ _ _ (@bE _ _ _ _ _ _ _ _ (@aDC _ hr.units) (pv 3) (pv 1) (@bI _ _ (by decide) (by decide))))))) (aH (@aS _ _ _ _ eO)) bP) (aG (@aMT _ _ _ _ _ _ (pv 4) (@nG _ _ _ _ _ _ rfl (@bX _ _ _ _ _ (@aO _ _ (5) _ dR.nd rfl (Or.inl rfl) (by trivial)) (@bX _ _ _ _ _ (@aO _ _ (6) _ dR.nd rfl (Or.inl rfl) (by trivial)) (@bX _ _ _ _ _ (@aO _ _ (7) _ dR.nd rfl (Or.inl rfl) (by trivial)) kC (by rfl)) (by rfl)) (by rfl)) (by rfl) (by rfl)) (by rfl) (by rfl) (by rfl)) (aG (@cW _ _ _ _ _ _ _ _ (@PW.pt _ _ _ (@fE _ _ _ _ _ _ _ (@cK _ _ _ _ (@cG _ _ _ (@bL _ _ _ _ _ _ _ _ _ _ G_l_whole (hr.mono (by decide)) (aA (pv 5) aD) (by rfl) (by decide) (by rfl) (by rfl)) (by intro _; rfl))) (@fD _ _ _ _ (@cK _ _ _ _ (@cG _ _ _ (@bL _ _ _ _ _ _ _ _ _ _ G_l_in_order (hr.mono (by decide)) (aA (pv 0) (aA (pv 6) aD)) (by rfl) (by decide) (by rfl) (by rfl)) (by intro _; rfl)))))) (aH (@aS _ _ _ _ eO)) bP) (aG (@aT _ _ (8) _ _ _ _ dR.nd rfl (Or.inl rfl) aE (by rfl) (by trivial)) (aG (@eN _ _ _ _ _ _ _ _ PassesOwn.never rfl (@bF _ _ _ _ (pv 6)) (@nG _ _ _ _ _ _ rfl (@bX _ _ _ _ _ (@aO _ _ (9) _ dR.nd rfl (Or.inl rfl) (by trivial)) (@bX _ _ _ _ _ (@aO _ _ (10) _ dR.nd rfl (Or.inl rfl) (by trivial)) kC (by rfl)) (by rfl)) (by rfl) (by rfl)) (aG (@aT _ _ (11) _ _ _ _ dR.nd rfl (Or.inl rfl) (@aCY _ _ _ _ _ _ _ _ _ _ _ _ _ _ T.cl_Land G_land_p_dyke (hr.mono (by decide)) (pv 0) (aA (pv 9) aD) (by rfl) (by rfl) (by rfl)) (by rfl) (by trivial)) (aG (@cW _ _ _ _ _ _ _ _ (@PW.pt _ _ _ (@fE _ _ _ _ _ _ _ (@bE _ _ _ _ _ _ _ _ lZ (pv 10) (pv 2) (@bI _ _ (by decide) (by decide))) (@fD _ _ _ _ (@bE _ _ _ _ _ _ _ _ aMD (@aX _ _ _ _ _ _ _ (@aP _ (K) rfl) (pv 11) aE (fun _ _ => rfl)) (pv 2) (@bI _ _ (by decide) (by decide)))))) (aH (@aS _ _ _ _ eO)) bP) (aH (@aT _ _ (8) _ _ _ _ dR.nd rfl (Or.inl rfl) (@aJ _ _ _ _ _ _ _ _ dM (pv 8) (@aJ _ _ _ _ _ _ _ _ lO (@aX _ _ _ _ _ _ _ (@aP _ (K) rfl) (pv 11) aE (fun _ _ => rfl)) (@aJ _ _ _ _ _ _ _ _ dU (pv 2) (@aX _ _ _ _ _ _ _ (@aP _ (K) rfl) (pv 11) aE (fun _ _ => rfl))))) (by rfl) (by trivial))))) (by intro _; rfl)) (aG (@cW _ _ _ _ _ _ _ _ (@PW.pt _ _ _ (@fE _ _ _ _ _ _ _ (@bE _ _ _ _ _ _ _ _ lZ (pv 8) (pv 5) (@bI _ _ (by decide) (by decide))) (@fD _ _ _ _ (@cK _ _ _ _ (@cG _ _ _ (@bL _ _ _ _ _ _ _ _ _ _ G_l_kept (hr.mono (by decide)) (aA (@aCY _ _ _ _ _ _ _ _ _ _ _ _ _ _ T.cl_Land G_land_p_raised (hr.mono (by decide)) (pv 0) (aA (pv 6) aD) (by rfl) (by rfl) (by rfl)) (aA (pv 1) (aA (pv 2) aD))) (by rfl) (by decide) (by rfl) (by rfl)) (by intro _; rfl)))))) (aH (@aS _ _ _ _ eO)) bP) (aG (@cW _ _ _ _ _ _ _ _ (@bE _ _ _ _ _ _ _ _ lZ (@bL _ _ _ _ _ _ _ _ _ _ G_l_paper (hr.mono (by decide)) (aA (pv 0) (aA (@bL _ _ _ _ _ _ _ _ _ _ G_l_gaps (hr.mono (by decide)) (aA (pv 0) (aA (pv 2) aD)) (by rfl) (by decide) (by rfl) (by rfl)) (aA (pv 1) (aA (pv 7) aD)))) (by rfl) (by decide) (by rfl) (by rfl)) (pv 5) (@bI _ _ (by decide) (by decide))) (aH (@aS _ _ _ _ eO)) bP) (aG (@cW _ _ _ _ _ _ _ _ (@PW.pt _ _ _ (@fE _ _ _ _ _ _ _ (@bE _ _ _ _ _ _ _ _ lZ (@bL _ _ _ _ _ _ _ _ _ _ G_p_paper_for (hr.mono (by decide)) (aA (pv 0) (aA (pv 3) (aA (pv 2) (aA (pv 7) aD)))) (by rfl) (by decide) (by rfl) (by rfl)) (pv 5) (@bI _ _ (by decide) (by decide))) (@fD _ _ _ _ (@bE _ _ _ _ _ _ _ _ (@aDC _ hr.units) (pv 3) (pv 1) (@bI _ _ (by decide) (by decide)))))) (aH (@aS _ _ _ _ eO)) bP) (aH (@aS _ _ _ _ (pv 4))))))))))))), ?_⟩
 refine ⟨_, rfl, l, _, rfl, .inl (SqL.of hl), fun lh hlh => ?_⟩
 have S1 := aK.upd (o := .lst (zs.map V.str)) hlh
 have r1 : upd H lh (.lst (zs.map V.str)) lh = some (.lst (zs.map V.str)) := aF
 generalize upd H lh (.lst (zs.map V.str)) = H1 at S1 r1
 refine ⟨_, rfl, _, rfl, _, rfl, _, _, _, rfl, p, lh, fs, ds, zs, lv, rfl, L.same S1, rfl, r1, l1, nd, sub, rfl, hL, fun t lk la uk ua fl R B H2 S2 nt nlk nla nkl ht hlk iuk hla iua st rd => ?_⟩
 have T2 := S1.trans S2
 have nt0 := S1.free nt
 have nlk0 := S1.free nlk
 have nla0 := S1.free nla
 have lst := aAR GG st rd
 have r2 := S2 _ _ r1
 have hl2 := T2 _ _ hl
 have L2' := L.same T2
 have gw := pK gd hL GG (R := R) (B := B) rd.bout
 have rl := wO (G := gapsD fs ds lv) (R := R) (B := B)
 have luk := iH iuk
 rw [List.length_map] at luk
 obtain ⟨ty, hty, e1, e2, e3, e4, e5⟩ := jY K (show Is H2 (.tup [.int (val (gapsD fs ds lv) fl), .lst ((cB (gapsD fs ds lv) R B).map (dQ lv)), .lst (iX (gapsD fs ds lv) fl)]) (.ref t) from ⟨t, _, rfl, ht, _, _, rfl, rfl, _, _, rfl, ⟨lk, uk, rfl, hlk, iuk⟩, _, _, rfl, ⟨la, ua, rfl, hla, iua⟩, rfl⟩)
 refine ⟨_, rfl, _, _, _, ty, _, rfl, rfl, hty, e5, _, rfl, bM ?_⟩
 refine ⟨_, rfl, t, _, rfl, .inr (SqT.of ht), rfl, _, rfl, bM ?_⟩
 refine ⟨_, rfl, _, rfl, .lst (zs.map Dv.str), .lst (zs.map Dv.str), iE r2, iE hl2, cJ _, cJ _, _, rfl, ?_⟩
 rw [jX 30 _ (cJ _)]
 refine bM ?_
 refine ⟨_, rfl, t, _, rfl, SqT.of ht, rfl, _, _, rfl, _, _, rfl, _, _, rfl, rfl, ?_⟩
 refine ⟨_, rfl, _, rfl, _, rfl, _, rfl, bM ?_⟩
 have rws : (cB (gapsD fs ds lv) R B).map (dQ lv) = ((cB (gapsD fs ds lv) R B).map fun s => (s.nm, lv)).map rT := by
  rw [List.map_map]
  rfl
 refine ⟨_, rfl, _, rfl, _, _, rfl, p, lk, fs, ds, uk, (cB (gapsD fs ds lv) R B).map fun s => (s.nm, lv), rfl, L2', rfl, hlk, by rw [← rws]; exact iuk, ?_, fun H3 S3 => ⟨_, rfl, bM ?_⟩⟩
 ·rw [List.map_map]
  exact (uA rd.bout _).trans (aBI gd lv)
 have T3 := T2.trans S3
 have L3 := L.same T3
 obtain ⟨dx, d1, d2', hx, _⟩ := L3.ex
 have hlk3 := S3 _ _ hlk
 have iuk3 := IsL.same S3 _ _ iuk
 refine ⟨_, rfl, lk, rfl, ⟨_, SqL.of hlk3⟩, eL (K := K) (a := lk) (xs := uk) (fun i σ H' => ∃ v9 v10 v11, σ = [some (.ref p), some (.ref l), some (.int lv), some (.ref lh), some (.ref t), some (.int (val (gapsD fs ds lv) fl)), some (.ref lk), some (.ref la), some (.int (sm ((cB (gapsD fs ds lv) R B).take i) fun s => mG (gapsD fs ds lv) s.nm)), v9, v10, v11] ∧ H3 = H') ⟨_, _, _, rfl, rfl⟩ ?_ ?_ ?_⟩
 ·rintro i σ H' hi ⟨v9, v10, v11, rfl, rfl⟩
  exact SqL.of hlk3
 ·rintro i xv σ H' hx' ⟨v9, v10, v11, rfl, rfl⟩
  have hil : i < uk.length := (List.getElem?_eq_some_iff.mp hx').1
  obtain ⟨s, es⟩ : ∃ s, (cB (gapsD fs ds lv) R B)[i]? = some s := ⟨_, List.getElem?_eq_getElem (by omega)⟩
  obtain ⟨v, ev, iv⟩ := iuk3.get (show ((cB (gapsD fs ds lv) R B).map (dQ lv))[i]? = some (rT (s.nm, lv)) by rw [List.getElem?_map, es]; rfl)
  rw [hx'] at ev
  cases ev
  obtain ⟨t2, rfl, ot2⟩ := aCU iv
  have ms := qS s (List.mem_of_getElem? es)
  obtain ⟨g, mg', en, _⟩ := mQ ms
  have cap := lF GG mg'
  obtain ⟨d, md, hg, rfl, ed⟩ := nX gd mg'
  have stp := aEP (F := fun s : Mt22.St => mG (gapsD fs ds lv) s.nm) es
  rw [en] at cap
  obtain ⟨n, a, b, c, r, sl, rfl, _, ha, hb, hab, hc, hr', _⟩ := bA (gd.all d md)
  have h2 := Bool.and_eq_true_iff.mp (show (decide (0 ≤ r) && decide (r ≤ 1000000)) = true from hr')
  have r0 := of_decide_eq_true h2.1
  have r1' := of_decide_eq_true h2.2
  have cl : c < lv := of_decide_eq_true (Bool.and_eq_true_iff.mp (show (decide (c < lv) && (lowS fs lv a && lowS fs lv b)) = true from hg)).1
  have esn : s.nm = n := en.symm
  refine ⟨t2, _, rfl, SqT.of ot2, rfl, _, _, rfl, _, _, rfl, rfl, ?_⟩
  refine ⟨_, rfl, p, dx, _, rfl, hx, cI _ _ (by decide +kernel) (by decide +kernel), _, rfl, _, _, rfl, p, fs, ds, .tup [.str n, .str a, .str b, .int c, .int r, sl], rfl, congrArg V.str esn, L3, md, fun v iv => ?_⟩
  obtain ⟨t3, sv, rfl, ot3, isv⟩ := gA iv
  refine ⟨_, rfl, _, rfl, rfl, _, rfl, ?_⟩
  show if (!decide (V.int lv = V.int lv)) = true then _ else _
  rw [decide_eq_true rfl]
  refine bM ⟨_, rfl, t3, _, 3, .int c, rfl, rfl, SqT.of ot3, aI (j := 3) rfl, _, rfl, _, _, rfl, rfl, _, rfl, ?_⟩
  show if decide (lv ≤ c) = true then _ else _
  rw [decide_eq_false (by omega)]
  refine bM ?_
  refine ⟨_, rfl, _, rfl, t3, _, 4, .int r, rfl, rfl, SqT.of ot3, aI (j := 4) rfl, _, rfl, _, rfl, t3, _, 3, .int c, rfl, rfl, SqT.of ot3, aI (j := 3) rfl, _, _, rfl, rfl, _, _, rfl, rfl, .inl ⟨by omega, by omega⟩, _, _, rfl, rfl, ?_⟩
  refine ⟨some (.str s.nm), some (.int lv), some (.ref t3), ?_, rfl⟩
  rw [stp]
  show _ = [_, _, _, _, _, _, _, _, some (V.int (_ + mG (gapsD fs ds lv) s.nm)), _, _, _]
  rw [cap]
  rfl
 rintro σ H' ⟨v9, v10, v11, rfl, rfl⟩
 rw [List.take_of_length_le (by omega), uB GG st rd]
 refine ⟨_, rfl, _, rfl, rfl, _, rfl, ?_⟩
 show if (!decide (V.int (val (gapsD fs ds lv) fl) = V.int (val (gapsD fs ds lv) fl))) = true then _ else _
 rw [decide_eq_true rfl]
 refine bM ?_
 have hl3 := T3 _ _ hl
 refine ⟨_, rfl, p, dx, _, rfl, hx, cI _ _ (by decide +kernel) (by decide +kernel), _, rfl, _, _, rfl, p, fs, ds, (cB (gapsD fs ds lv) R B).map (dQ lv), rfl, L3, ⟨lk, uk, rfl, hlk3, iuk3⟩, by rw [List.length_map]; omega, gw, fun p' H4 S4 np' L4 => ?_⟩
 have hl4 := S4 _ _ hl3
 have gd4 := rV gd gw
 refine ⟨_, rfl, _, rfl, _, _, _, rfl, p', l, fs, jA ds ((cB (gapsD fs ds lv) R B).map (dQ lv)), zs, lv, rfl, L4, rfl, hl4, by omega, rfl, fun cs H5 S5 hcs => ⟨_, rfl, ?_⟩⟩
 have fil : (zs.filter fun z => decide (z ∈ cs)) = [] := by
  rw [List.filter_eq_nil_iff]
  intro z mz c
  have rz := (hcs z).mp (of_decide_eq_true c)
  have := aCN gf gd4 (aCV gf gd hL st rd) rz
  have zB : inB B z = true := decide_eq_true (rd.win z mz)
  rw [zB] at this
  cases this
 rw [fil, decide_eq_true rfl]
 refine bM ?_
 have T5 := T3.trans (S4.trans S5)
 have U5 := S3.trans (S4.trans S5)
 refine ⟨_, rfl, _, rfl, _, rfl, _, _, rfl, p, fs, ds, lv, rfl, L.same T5, rfl, fun lg gus H6 S6 flg hlg igs => ?_⟩
 have T6 := T5.trans S6
 have U6 := U5.trans S6
 refine ⟨_, rfl, _, rfl, _, _, _, _, p, lg, l, la, fs, ds, zs, lv, gus, ua, fl, rfl, rfl, L.same T6, rfl, hlg, igs, rfl, T6 _ _ hl, nd, sub, rfl, U6 _ _ hla, IsL.same U6 _ _ iua, st, fun H7 S7 => ?_⟩
 refine ⟨_, rfl, rfl, _, rfl, ?_⟩
 show if (!decide (V.int (val (gapsD fs ds lv) fl) = V.int (val (gapsD fs ds lv) fl))) = true then _ else _
 rw [decide_eq_true rfl]
 refine bM ?_
 have T7 := T6.trans S7
 have U7 := U6.trans S7
 refine ⟨_, rfl, _, rfl, _, rfl, _, rfl, _, _, _, _, p, lh, la, fs, ds, zs, lv, ua, fl, rfl, rfl, L.same T7, rfl, U7 _ _ r2, l1, nd, sub, rfl, hL, rfl, U7 _ _ hla, IsL.same U7 _ _ iua, st, fun H8 S8 => ?_⟩
 refine ⟨_, rfl, rfl, _, rfl, ?_⟩
 show if (!decide (V.int (val (gapsD fs ds lv) fl) = V.int (val (gapsD fs ds lv) fl))) = true then _ else _
 rw [decide_eq_true rfl]
 refine bM ?_
 have T8 := T7.trans S8
 have U8 := U7.trans S8
 refine ⟨_, rfl, _, rfl, .lst (zs.map Dv.str), .lst (zs.map Dv.str), iE (U8 _ _ r2), iE (T8 _ _ hl), cJ _, cJ _, _, rfl, ?_⟩
 rw [jX 30 _ (cJ _)]
 refine bM ?_
 exact ⟨_, rfl, q t lk la uk ua _ H8 T8 nt0 nlk0 nla0 nkl (U8 _ _ ht) (U8 _ _ hlk) (U8 _ _ hla) (by omega) lst⟩
open Mt53 Mt22 MtF Mt31 Mt61 Mt51
theorem aMX {f : Addr} {fd : FuncData} (T : Txt K mg C) (F : Fun K "law" "law" oS f fd) : FnOk P w K mg base CX0 12 f fd ["_law_script"] (aEJ K) := by
 have G_l_land : Fc P w K mg base 8 "_law_land" ["_law_script", "_law_most", "_law_many"] (aEK C K) := aGC T
 have G_l_cell_at : Fc P w K mg base 1 "_law_cell_at" ["_law_script", "_law_k"] (aCK K) := qG T
 have G_l_digits : Fc P w K mg base 1 "_law_digits" ["_law_cell"] aAH := aAZ T
 have G_l_wish : Fc P w K mg base 2 "_law_wish" ["_law_land_here", "_law_number"] (aHG C K) := aGB T
 have G_l_level : Fc P w K mg base 1 "_law_level" ["_law_cell"] aEI := aDG T
 have G_l_good : Fc P w K mg base 9 "_law_good" ["_law_land_here", "_law_wish_here", "_law_height_here"] (aHN C) := aGE T
 have G_land_p_dykes : Mc P w K mg base 1 C "dykes" ["self"] (pM C fun _ ds => ds) := iW T
 refine F.ok gM mI (fun cdv A outer s H vs Q E hr h => ?_)
 obtain ⟨x, rfl, a, ns, rfl, hS, hl, q⟩ := h
 have big := bQ
 have hu := gZ hr
 have scr : Scr K H (.ref a) := ⟨a, ns, rfl, hS, hl⟩
 refine ⟨_, (aG (@aT _ _ (1) _ _ _ _ gM.nd rfl (Or.inl rfl) (@bL _ _ _ _ _ _ _ _ _ _ G_l_land (hr.mono (by decide)) (aA (pv 0) (aA aE (aA aE aD))) (by rfl) (by decide) (by rfl) (by rfl)) (by rfl) (by trivial)) (aG (@aT _ _ (2) _ _ _ _ gM.nd rfl (Or.inl rfl) (@jT _ _ _ _ _ _ _ _ _ _ _ T.cl_Land G_land_p_dykes (hr.mono (by decide)) (pv 1) (by rfl)) (by rfl) (by trivial)) (aG (@eN _ _ _ _ _ _ _ _ PassesOwn.never rfl (@bF _ _ _ _ (@aJ _ _ _ _ _ _ _ _ uF (@dL _ _ _ _ (aA (@bL _ _ _ _ _ _ _ _ _ _ G_l_cell_at (hr.mono (by decide)) (aA (pv 0) (aA aE aD)) (by rfl) (by decide) (by rfl) (by rfl)) aD)) (@uD _ _ _ _ _ _ _ _ _ _ (@aHU _ (K) rfl) (pv 0) (@tF _ _ _ aE) (@tF _ _ _ aE)))) (@aO _ _ (3) _ gM.nd rfl (Or.inl rfl) (by trivial)) (aG (@aT _ _ (4) _ _ _ _ gM.nd rfl (Or.inl rfl) (@bL _ _ _ _ _ _ _ _ _ _ G_l_digits (hr.mono (by decide)) (aA (pv 3) aD) (by rfl) (by decide) (by rfl) (by rfl)) (by rfl) (by trivial)) (aG (@aT _ _ (5) _ _ _ _ gM.nd rfl (Or.inl rfl) (@bL _ _ _ _ _ _ _ _ _ _ G_l_wish (hr.mono (by decide)) (aA (pv 1) (aA (pv 4) aD)) (by rfl) (by decide) (by rfl) (by rfl)) (by rfl) (by trivial)) (aG (@aT _ _ (6) _ _ _ _ gM.nd rfl (Or.inl rfl) (@bL _ _ _ _ _ _ _ _ _ _ G_l_level (hr.mono (by decide)) (aA (@aJ _ _ _ _ _ _ _ _ bK (pv 4) (@aJ _ _ _ _ _ _ _ _ dW aE aE)) aD) (by rfl) (by decide) (by rfl) (by rfl)) (by rfl) (by trivial)) (aG (@aT _ _ (7) _ _ _ _ gM.nd rfl (Or.inl rfl) (@bL _ _ _ _ _ _ _ _ _ _ G_l_good (hr.mono (by decide)) (aA (pv 1) (aA (pv 5) (aA (pv 6) aD))) (by rfl) (by decide) (by rfl) (by rfl)) (by rfl) (by trivial)) (aG (@cW _ _ _ _ _ _ _ _ (@bE _ _ _ _ _ _ _ _ aDD (pv 7) eO (@bI _ _ (by decide) (by decide))) (aH (@aS _ _ _ _ lY)) bP) (aG (@eQ _ _ _ _ (@lX _ _ _ _ _ _ _ _ _ _ _ _ PySem.F.plainAttrs_list PySem.F.slot_list_append PySem.F.type_list_append dX (@aX _ _ _ _ _ _ _ (@aP _ (K) rfl) (pv 7) aE (fun _ _ => rfl)) (aA eO aD) (by rfl) (by rfl) (by rfl) (by rfl) (by rfl)) (by rfl)) (aG (@eQ _ _ _ _ (@aDA _ _ _ _ _ _ _ _ _ PySem.F.plainAttrs_list PySem.F.slot_list_clear PySem.F.type_list_clear aIS (@aX _ _ _ _ _ _ _ (@aP _ (K) rfl) (pv 7) aE (fun _ _ => rfl)) (by rfl) (by rfl)) (by rfl)) (aG (@aT _ _ (8) _ _ _ _ gM.nd rfl (Or.inl rfl) (@bL _ _ _ _ _ _ _ _ _ _ G_l_good (hr.mono (by decide)) (aA (pv 1) (aA (pv 5) (aA (pv 6) aD))) (by rfl) (by decide) (by rfl) (by rfl)) (by rfl) (by trivial)) (aH (@cW _ _ _ _ _ _ _ _ (@PW.pt _ _ _ (@fE _ _ _ _ _ _ _ (@bE _ _ _ _ _ _ _ _ aDD (pv 8) eO (@bI _ _ (by decide) (by decide))) (@fE _ _ _ _ _ _ _ (@bE _ _ _ _ _ _ _ _ lZ (@aX _ _ _ _ _ _ _ (@aP _ (K) rfl) (pv 8) aE (fun _ _ => rfl)) (@aX _ _ _ _ _ _ _ (@aP _ (K) rfl) (pv 7) aE (fun _ _ => rfl)) (@bI _ _ (by decide) (by decide))) (@fD _ _ _ _ (@bE _ _ _ _ _ _ _ _ (@aDC _ hr.units) (@jT _ _ _ _ _ _ _ _ _ _ _ T.cl_Land G_land_p_dykes (hr.mono (by decide)) (pv 1) (by rfl)) (pv 2) (@bI _ _ (by decide) (by decide))))))) (aH (@aS _ _ _ _ lY)) bP)))))))))) (by intro _; rfl)) (aH (@aS _ _ _ _ lY))))), ?_⟩
 refine ⟨_, rfl, _, _, _, rfl, scr, rfl, rfl, fun p fs ds H2 S2 L2' => ?_⟩
 obtain ⟨dx, d1, d2', hx, _⟩ := L2'.ex
 refine ⟨_, rfl, p, dx, _, rfl, hx, cI _ _ (by decide +kernel) (by decide +kernel), _, rfl, p, fs, ds, rfl, L2', fun lb vb H3 S3' flb hlb hib => ?_⟩
 have S3 := S2.trans S3'
 have L3 := L2'.same S3'
 have gf := (bG L3).1
 have gd := (bG L3).2
 have f2 := gf.l2
 have sq3 := S3.seq hS
 have cutl : (mJ (ns.map V.int) (some 3) (some 12)).length ≤ 63 := by
  unfold mJ
  rw [List.length_take, List.length_drop, List.length_map]
  omega
 have cutm : ∀ x ∈ V.int (ns.getD (Int.toNat 2) 0) :: mJ (ns.map V.int) (some 3) (some 12), ∃ n : Int, x = .int n := fun x m => by
  rcases List.mem_cons.mp m with rfl | m
  ·exact ⟨_, rfl⟩
  ·unfold mJ at m
   obtain ⟨n, _, rfl⟩ := List.mem_map.mp (List.mem_of_mem_drop (List.mem_of_mem_take m))
   exact ⟨_, rfl⟩
 refine ⟨_, rfl, _, _, rfl, a, ns, 2, rfl, rfl, sq3, hl, by decide, aY rfl, fun q1 hq1 => ?_⟩
 have Z1 := aK.upd (o := .lst [.int (ns.getD (Int.toNat 2) 0)]) hq1
 refine ⟨_, rfl, _, rfl, _, rfl, a, _, rfl, Z1.seq sq3, fun q2 hq2 => ?_⟩
 have Z2 := aK.upd (o := .lst (mJ (ns.map V.int) (some 3) (some 12))) hq2
 refine ⟨q1, q2, _, _, rfl, rfl, Z2 _ _ aF, aF, (by simp only [List.length_singleton]; omega), fun q3 hq3 => ?_⟩
 have Z3 := aK.upd (o := .lst ([V.int (ns.getD (Int.toNat 2) 0)] ++ mJ (ns.map V.int) (some 3) (some 12))) hq3
 have hq10 : upd (upd (upd H3 q1 (.lst [.int (ns.getD (Int.toNat 2) 0)])) q2 (.lst (mJ (ns.map V.int) (some 3) (some 12)))) q3 (.lst ([V.int (ns.getD (Int.toNat 2) 0)] ++ mJ (ns.map V.int) (some 3) (some 12))) q3 = some (.lst (V.int (ns.getD (Int.toNat 2) 0) :: mJ (ns.map V.int) (some 3) (some 12))) := aF
 have Z := Z1.trans (Z2.trans Z3)
 generalize upd (upd (upd H3 q1 (.lst [.int (ns.getD (Int.toNat 2) 0)])) q2 (.lst (mJ (ns.map V.int) (some 3) (some 12)))) q3 (.lst ([V.int (ns.getD (Int.toNat 2) 0)] ++ mJ (ns.map V.int) (some 3) (some 12))) = H10 at hq10 Z
 clear Z1 Z2 Z3 hq1 hq2 hq3
 refine ⟨q3, rfl, ⟨_, SqL.of hq10⟩, eL (K := K) (a := q3) (xs := V.int (ns.getD (Int.toNat 2) 0) :: mJ (ns.map V.int) (some 3) (some 12)) (fun i σ H' => ∃ v3 v4 v5 v6 v7 v8, σ = [some (.ref a), some (.ref p), some (.ref lb), v3, v4, v5, v6, v7, v8] ∧ aK H10 H') ⟨_, _, _, _, _, _, rfl, aK.refl _⟩ (fun i σ H' _ ⟨_, _, _, _, _, _, _, e⟩ => SqL.of (e _ _ hq10)) ?_ ?_⟩
 ·rintro i yv σ H' hi ⟨v3, v4, v5, v6, v7, v8, rfl, S⟩
  obtain ⟨n, rfl⟩ := cutm yv (List.mem_of_getElem? hi)
  have U := Z.trans S
  have L4 := L3.same U
  refine ⟨_, rfl, _, rfl, n, rfl, fun num => ?_⟩
  refine ⟨_, rfl, _, rfl, _, _, rfl, p, fs, ds, num, rfl, L4, rfl, fun lw zs X1 A1 flw hw z1 z4 nd sub => ?_⟩
  refine ⟨_, rfl, _, _, rfl, rfl, ⟨by decide, by decide, by decide⟩, _, _, rfl, rfl, ⟨gU rfl, by decide +kernel⟩, _, rfl, _, rfl, fun lv hL => ?_⟩
  have L5 := L4.same A1
  refine ⟨_, rfl, _, rfl, _, rfl, _, _, _, rfl, p, lw, fs, ds, zs, lv, rfl, L5, rfl, hw, z1, nd, sub, rfl, hL, fun t lk la uk ua c X2 A2 nt nlk nla nka ht hk ha luk lst => ?_⟩
  refine ⟨_, rfl, rfl, _, rfl, ?_⟩
  rw [decide_eq_false (by intro e; cases e)]
  refine bM ?_
  refine ⟨_, rfl, t, _, 1, .ref lk, rfl, rfl, SqT.of ht, aI (j := 1) rfl, .inl ⟨rfl, _, SqL.of hk⟩, lk, uk, .non, rfl, rfl, hk, by omega, ?_⟩
  have A3 := A2.over (o := .lst (uk ++ [.non])) nlk
  have ht3 : upd X2 lk (.lst (uk ++ [.non])) t = _ := (aQ (mC ht hk (by intro c; cases c))).trans ht
  have ha3 : upd X2 lk (.lst (uk ++ [.non])) la = _ := (aQ (Ne.symm nka)).trans ha
  generalize upd X2 lk (.lst (uk ++ [.non])) = X3 at A3 ht3 ha3
  refine ⟨_, rfl, t, _, 2, .ref la, rfl, rfl, SqT.of ht3, aI (j := 2) rfl, .inl ⟨rfl, _, SqL.of ha3⟩, la, ua, rfl, rfl, ha3, ?_⟩
  have A4 := A3.over (o := .lst []) nla
  have ht4 : upd X3 la (.lst []) t = _ := (aQ (mC ht3 ha3 (by intro c; cases c))).trans ht3
  generalize upd X3 la (.lst []) = X4 at A4 ht4
  have L6 := L5.same A4
  refine ⟨_, rfl, _, rfl, _, rfl, _, _, _, rfl, p, lw, fs, ds, zs, lv, rfl, L6, rfl, A4 _ _ hw, z1, nd, sub, rfl, hL, fun t' lk' la' uk' ua' c' X5 A5 nt' nlk' nla' nka' ht' hk' ha' luk' lst' => ?_⟩
  have ec := lst'.uniq lst
  subst ec
  refine ⟨_, rfl, rfl, _, rfl, ?_⟩
  rw [decide_eq_false (by intro e; cases e)]
  refine bM ?_
  refine ⟨_, rfl, t', _, 0, .int c', rfl, rfl, SqT.of ht', aI (j := 0) rfl, _, rfl, t, _, 0, .int c', rfl, rfl, SqT.of (A5 _ _ ht4), aI (j := 0) rfl, rfl, _, rfl, ?_⟩
  show (if (!decide (V.int c' = V.int c')) = true then _ else _)
  rw [decide_eq_true rfl]
  refine bM ?_
  have L7 := L6.same A5
  obtain ⟨dx7, d17, d27, hx7, _⟩ := L7.ex
  refine ⟨_, rfl, p, dx7, _, rfl, hx7, cI _ _ (by decide +kernel) (by decide +kernel), _, rfl, p, fs, ds, rfl, L7, fun lb7 vb7 X6 A6 flb7 hlb7 hib7 => ?_⟩
  have W6 := U.trans (A1.trans (A4.trans (A5.trans A6)))
  have fds := aLJ L3
  refine ⟨_, rfl, .lst ds, .lst ds, ⟨lb7, vb7, rfl, hlb7, hib7⟩, ⟨lb, vb, rfl, W6 _ _ hlb, IsL.same W6 _ _ hib⟩, fds, fds, _, rfl, ?_⟩
  rw [jX 30 _ fds]
  exact bM ⟨_, _, _, _, _, _, rfl, S.trans (A1.trans (A4.trans (A5.trans A6)))⟩
 ·rintro σ H' ⟨v3, v4, v5, v6, v7, v8, rfl, S⟩
  exact q H'
theorem law_mk {fa : Addr} (hmg : mg "law" = some (.ref fa)) (T : Txt K mg C) :
  ∃ fd : FuncData, (∀ (s : Shared) (u : Value), BindsTo s fd ⟨[u], []⟩ [("_law_script", u)]) ∧ ∀ base : Heap, K.In base → base.Ns mainGlobals mg → FnOk P w K mg base CX0 12 fa fd ["_law_script"] (aEJ K) := by
 obtain ⟨f, fd, F, b, m⟩ := T.d_p_law.ex
 rw [hmg] at m
 cases m
 refine ⟨fd, fun s u => ?_, fun base _ _ => aMX T F⟩
 obtain ⟨oc, od, kV, doc, pm, an, cdv, ct, osl, rfl, lk, hcd⟩ := F.ex
 exact .of_eq rfl
end
theorem txt_mk {K : PySem.W.Frag} {h : Heap} {mg : Str → Option Value} (X : K.In h) (G : h.Ns mainGlobals mg)
    {C : Addr}
    {fm19 : Addr} {ocm19 kVm19 docm19 pmm19 cdm19 ctm19 : Value} {odm19 anm19 : Option Addr} {slm19 : Array (Option Value)}
    {fm20 : Addr} {ocm20 kVm20 docm20 pmm20 cdm20 ctm20 : Value} {odm20 anm20 : Option Addr} {slm20 : Array (Option Value)}
    {fm21 : Addr} {ocm21 kVm21 docm21 pmm21 cdm21 ctm21 : Value} {odm21 anm21 : Option Addr} {slm21 : Array (Option Value)}
    {fm22 : Addr} {ocm22 kVm22 docm22 pmm22 cdm22 ctm22 : Value} {odm22 anm22 : Option Addr} {slm22 : Array (Option Value)}
    {fm23 : Addr} {ocm23 kVm23 docm23 pmm23 cdm23 ctm23 : Value} {odm23 anm23 : Option Addr} {slm23 : Array (Option Value)}
    {fm24 : Addr} {ocm24 kVm24 docm24 pmm24 cdm24 ctm24 : Value} {odm24 anm24 : Option Addr} {slm24 : Array (Option Value)}
    {fm25 : Addr} {ocm25 kVm25 docm25 pmm25 cdm25 ctm25 : Value} {odm25 anm25 : Option Addr} {slm25 : Array (Option Value)}
    {fm26 : Addr} {ocm26 kVm26 docm26 pmm26 cdm26 ctm26 : Value} {odm26 anm26 : Option Addr} {slm26 : Array (Option Value)}
    {fm27 : Addr} {ocm27 kVm27 docm27 pmm27 cdm27 ctm27 : Value} {odm27 anm27 : Option Addr} {slm27 : Array (Option Value)}
    {fm28 : Addr} {ocm28 kVm28 docm28 pmm28 cdm28 ctm28 : Value} {odm28 anm28 : Option Addr} {slm28 : Array (Option Value)}
    {f0 : Addr} {oc0 kV0 doc0 pm0 cd0 ct0 : Value} {od0 an0 : Option Addr} {sl0 : Array (Option Value)}
    {f1 : Addr} {oc1 kV1 doc1 pm1 cd1 ct1 : Value} {od1 an1 : Option Addr} {sl1 : Array (Option Value)}
    {f2 : Addr} {oc2 kV2 doc2 pm2 cd2 ct2 : Value} {od2 an2 : Option Addr} {sl2 : Array (Option Value)}
    {f3 : Addr} {oc3 kV3 doc3 pm3 cd3 ct3 : Value} {od3 an3 : Option Addr} {sl3 : Array (Option Value)}
    {f4 : Addr} {oc4 kV4 doc4 pm4 cd4 ct4 : Value} {od4 an4 : Option Addr} {sl4 : Array (Option Value)}
    {f5 : Addr} {oc5 kV5 doc5 pm5 cd5 ct5 : Value} {od5 an5 : Option Addr} {sl5 : Array (Option Value)}
    {f6 : Addr} {oc6 kV6 doc6 pm6 cd6 ct6 : Value} {od6 an6 : Option Addr} {sl6 : Array (Option Value)}
    {f7 : Addr} {oc7 kV7 doc7 pm7 cd7 ct7 : Value} {od7 an7 : Option Addr} {sl7 : Array (Option Value)}
    {f8 : Addr} {oc8 kV8 doc8 pm8 cd8 ct8 : Value} {od8 an8 : Option Addr} {sl8 : Array (Option Value)}
    {f9 : Addr} {oc9 kV9 doc9 pm9 cd9 ct9 : Value} {od9 an9 : Option Addr} {sl9 : Array (Option Value)}
    {f10 : Addr} {oc10 kV10 doc10 pm10 cd10 ct10 : Value} {od10 an10 : Option Addr} {sl10 : Array (Option Value)}
    {f11 : Addr} {oc11 kV11 doc11 pm11 cd11 ct11 : Value} {od11 an11 : Option Addr} {sl11 : Array (Option Value)}
    {f12 : Addr} {oc12 kV12 doc12 pm12 cd12 ct12 : Value} {od12 an12 : Option Addr} {sl12 : Array (Option Value)}
    {f13 : Addr} {oc13 kV13 doc13 pm13 cd13 ct13 : Value} {od13 an13 : Option Addr} {sl13 : Array (Option Value)}
    {f14 : Addr} {oc14 kV14 doc14 pm14 cd14 ct14 : Value} {od14 an14 : Option Addr} {sl14 : Array (Option Value)}
    {f15 : Addr} {oc15 kV15 doc15 pm15 cd15 ct15 : Value} {od15 an15 : Option Addr} {sl15 : Array (Option Value)}
    {f16 : Addr} {oc16 kV16 doc16 pm16 cd16 ct16 : Value} {od16 an16 : Option Addr} {sl16 : Array (Option Value)}
    {f17 : Addr} {oc17 kV17 doc17 pm17 cd17 ct17 : Value} {od17 an17 : Option Addr} {sl17 : Array (Option Value)}
    {f18 : Addr} {oc18 kV18 doc18 pm18 cd18 ct18 : Value} {od18 an18 : Option Addr} {sl18 : Array (Option Value)}
    {f19 : Addr} {oc19 kV19 doc19 pm19 cd19 ct19 : Value} {od19 an19 : Option Addr} {sl19 : Array (Option Value)}
    {f20 : Addr} {oc20 kV20 doc20 pm20 cd20 ct20 : Value} {od20 an20 : Option Addr} {sl20 : Array (Option Value)}
    {f21 : Addr} {oc21 kV21 doc21 pm21 cd21 ct21 : Value} {od21 an21 : Option Addr} {sl21 : Array (Option Value)}
    {f22 : Addr} {oc22 kV22 doc22 pm22 cd22 ct22 : Value} {od22 an22 : Option Addr} {sl22 : Array (Option Value)}
    {f23 : Addr} {oc23 kV23 doc23 pm23 cd23 ct23 : Value} {od23 an23 : Option Addr} {sl23 : Array (Option Value)}
    {f24 : Addr} {oc24 kV24 doc24 pm24 cd24 ct24 : Value} {od24 an24 : Option Addr} {sl24 : Array (Option Value)}
    {f25 : Addr} {oc25 kV25 doc25 pm25 cd25 ct25 : Value} {od25 an25 : Option Addr} {sl25 : Array (Option Value)}
    {f26 : Addr} {oc26 kV26 doc26 pm26 cd26 ct26 : Value} {od26 an26 : Option Addr} {sl26 : Array (Option Value)}
    {f27 : Addr} {oc27 kV27 doc27 pm27 cd27 ct27 : Value} {od27 an27 : Option Addr} {sl27 : Array (Option Value)}
    {f28 : Addr} {oc28 kV28 doc28 pm28 cd28 ct28 : Value} {od28 an28 : Option Addr} {sl28 : Array (Option Value)}
    {f29 : Addr} {oc29 kV29 doc29 pm29 cd29 ct29 : Value} {od29 an29 : Option Addr} {sl29 : Array (Option Value)}
    {f30 : Addr} {oc30 kV30 doc30 pm30 cd30 ct30 : Value} {od30 an30 : Option Addr} {sl30 : Array (Option Value)}
    {f31 : Addr} {oc31 kV31 doc31 pm31 cd31 ct31 : Value} {od31 an31 : Option Addr} {sl31 : Array (Option Value)}
    {f32 : Addr} {oc32 kV32 doc32 pm32 cd32 ct32 : Value} {od32 an32 : Option Addr} {sl32 : Array (Option Value)}
    {f33 : Addr} {oc33 kV33 doc33 pm33 cd33 ct33 : Value} {od33 an33 : Option Addr} {sl33 : Array (Option Value)}
    {f34 : Addr} {oc34 kV34 doc34 pm34 cd34 ct34 : Value} {od34 an34 : Option Addr} {sl34 : Array (Option Value)}
    {f35 : Addr} {oc35 kV35 doc35 pm35 cd35 ct35 : Value} {od35 an35 : Option Addr} {sl35 : Array (Option Value)}
    {f36 : Addr} {oc36 kV36 doc36 pm36 cd36 ct36 : Value} {od36 an36 : Option Addr} {sl36 : Array (Option Value)}
    {f37 : Addr} {oc37 kV37 doc37 pm37 cd37 ct37 : Value} {od37 an37 : Option Addr} {sl37 : Array (Option Value)}
    {f38 : Addr} {oc38 kV38 doc38 pm38 cd38 ct38 : Value} {od38 an38 : Option Addr} {sl38 : Array (Option Value)}
    {f39 : Addr} {oc39 kV39 doc39 pm39 cd39 ct39 : Value} {od39 an39 : Option Addr} {sl39 : Array (Option Value)}
    {f40 : Addr} {oc40 kV40 doc40 pm40 cd40 ct40 : Value} {od40 an40 : Option Addr} {sl40 : Array (Option Value)}
    {f41 : Addr} {oc41 kV41 doc41 pm41 cd41 ct41 : Value} {od41 an41 : Option Addr} {sl41 : Array (Option Value)}
    {f42 : Addr} {oc42 kV42 doc42 pm42 cd42 ct42 : Value} {od42 an42 : Option Addr} {sl42 : Array (Option Value)}
    {f43 : Addr} {oc43 kV43 doc43 pm43 cd43 ct43 : Value} {od43 an43 : Option Addr} {sl43 : Array (Option Value)}
    {f44 : Addr} {oc44 kV44 doc44 pm44 cd44 ct44 : Value} {od44 an44 : Option Addr} {sl44 : Array (Option Value)}
    {f45 : Addr} {oc45 kV45 doc45 pm45 cd45 ct45 : Value} {od45 an45 : Option Addr} {sl45 : Array (Option Value)}
    {f46 : Addr} {oc46 kV46 doc46 pm46 cd46 ct46 : Value} {od46 an46 : Option Addr} {sl46 : Array (Option Value)}
    {f47 : Addr} {oc47 kV47 doc47 pm47 cd47 ct47 : Value} {od47 an47 : Option Addr} {sl47 : Array (Option Value)}
    {f48 : Addr} {oc48 kV48 doc48 pm48 cd48 ct48 : Value} {od48 an48 : Option Addr} {sl48 : Array (Option Value)}
    {f49 : Addr} {oc49 kV49 doc49 pm49 cd49 ct49 : Value} {od49 an49 : Option Addr} {sl49 : Array (Option Value)}
    {f50 : Addr} {oc50 kV50 doc50 pm50 cd50 ct50 : Value} {od50 an50 : Option Addr} {sl50 : Array (Option Value)}
    {f51 : Addr} {oc51 kV51 doc51 pm51 cd51 ct51 : Value} {od51 an51 : Option Addr} {sl51 : Array (Option Value)}
    {f52 : Addr} {oc52 kV52 doc52 pm52 cd52 ct52 : Value} {od52 an52 : Option Addr} {sl52 : Array (Option Value)}
    {f53 : Addr} {oc53 kV53 doc53 pm53 cd53 ct53 : Value} {od53 an53 : Option Addr} {sl53 : Array (Option Value)}
    {f54 : Addr} {oc54 kV54 doc54 pm54 cd54 ct54 : Value} {od54 an54 : Option Addr} {sl54 : Array (Option Value)}
    {f55 : Addr} {oc55 kV55 doc55 pm55 cd55 ct55 : Value} {od55 an55 : Option Addr} {sl55 : Array (Option Value)}
    {f56 : Addr} {oc56 kV56 doc56 pm56 cd56 ct56 : Value} {od56 an56 : Option Addr} {sl56 : Array (Option Value)}
    {u0 : Value}
    {u1 : Value}
    {u2 : Value}
    {u3 : Value}
    {u4 : Value}
    {u5 : Value}
    {u6 : Value}
    (aC : PySem.W.nsIn K mainGlobals "Land" = some (some (.ref C))) (pgC : PySem.W.plainGet K C Str.empty = true) (hdC : PySem.W.hasDictIn K C = true) (poC : PySem.W.plainOver K C = true) (saC : PySem.W.findIn K (.ref C) "__setattr__" = some (some (.builtin "object.__setattr__"))) (mkC : PySem.W.makesIn K C = true) (kpC : PySem.W.keepIn K (.ref C) = true)
    (n_field_rows : PySem.W.findIn K (.ref C) "field_rows" = some none)
    (n_dyke_rows : PySem.W.findIn K (.ref C) "dyke_rows" = some none)
    (iha : PySem.W.findIn K (.ref C) "__class__" = some (some (.builtin "object.__class__"))) (ihn : PySem.W.specialIn K (.builtin "object.__class__") "__get__" = some (some (.builtin "getset_descriptor.__get__"))) (iht : PySem.W.takesIn K (.builtin "object.__class__") = some true) (ihm : PySem.W.mroIn K C (.type "object") = some true)
    (ma19 : PySem.W.findIn K (.ref C) "__init__" = some (some (.ref fm19))) (mi19 : PySem.W.isFn K (.ref fm19) = true) (ml19 : K.lookup fm19 = some ⟨ocm19, odm19, .func (PySem.W.fnOf "__init__" "Land.__init__" (aN gS) (aM gS) (aB gS) .none kVm19 docm19 pmm19 anm19 cdm19 ctm19), slm19⟩) (mc19 : PySem.W.codeIn K cdm19 "Land.__init__" = true) (mk19 : PySem.W.keepIn K (.ref fm19) = true)
    (ma20 : PySem.W.findIn K (.ref C) "fields" = some (some (.ref fm20))) (mi20 : PySem.W.isFn K (.ref fm20) = true) (ml20 : K.lookup fm20 = some ⟨ocm20, odm20, .func (PySem.W.fnOf "fields" "Land.fields" (aN eG) (aM eG) (aB eG) .none kVm20 docm20 pmm20 anm20 cdm20 ctm20), slm20⟩) (mc20 : PySem.W.codeIn K cdm20 "Land.fields" = true) (mk20 : PySem.W.keepIn K (.ref fm20) = true)
    (ma21 : PySem.W.findIn K (.ref C) "dykes" = some (some (.ref fm21))) (mi21 : PySem.W.isFn K (.ref fm21) = true) (ml21 : K.lookup fm21 = some ⟨ocm21, odm21, .func (PySem.W.fnOf "dykes" "Land.dykes" (aN fC) (aM fC) (aB fC) .none kVm21 docm21 pmm21 anm21 cdm21 ctm21), slm21⟩) (mc21 : PySem.W.codeIn K cdm21 "Land.dykes" = true) (mk21 : PySem.W.keepIn K (.ref fm21) = true)
    (ma22 : PySem.W.findIn K (.ref C) "field_names" = some (some (.ref fm22))) (mi22 : PySem.W.isFn K (.ref fm22) = true) (ml22 : K.lookup fm22 = some ⟨ocm22, odm22, .func (PySem.W.fnOf "field_names" "Land.field_names" (aN cV) (aM cV) (aB cV) .none kVm22 docm22 pmm22 anm22 cdm22 ctm22), slm22⟩) (mc22 : PySem.W.codeIn K cdm22 "Land.field_names" = true) (mk22 : PySem.W.keepIn K (.ref fm22) = true)
    (ma23 : PySem.W.findIn K (.ref C) "dyke_names" = some (some (.ref fm23))) (mi23 : PySem.W.isFn K (.ref fm23) = true) (ml23 : K.lookup fm23 = some ⟨ocm23, odm23, .func (PySem.W.fnOf "dyke_names" "Land.dyke_names" (aN dD) (aM dD) (aB dD) .none kVm23 docm23 pmm23 anm23 cdm23 ctm23), slm23⟩) (mc23 : PySem.W.codeIn K cdm23 "Land.dyke_names" = true) (mk23 : PySem.W.keepIn K (.ref fm23) = true)
    (ma24 : PySem.W.findIn K (.ref C) "sluices" = some (some (.ref fm24))) (mi24 : PySem.W.isFn K (.ref fm24) = true) (ml24 : K.lookup fm24 = some ⟨ocm24, odm24, .func (PySem.W.fnOf "sluices" "Land.sluices" (aN fK) (aM fK) (aB fK) .none kVm24 docm24 pmm24 anm24 cdm24 ctm24), slm24⟩) (mc24 : PySem.W.codeIn K cdm24 "Land.sluices" = true) (mk24 : PySem.W.keepIn K (.ref fm24) = true)
    (ma25 : PySem.W.findIn K (.ref C) "ground" = some (some (.ref fm25))) (mi25 : PySem.W.isFn K (.ref fm25) = true) (ml25 : K.lookup fm25 = some ⟨ocm25, odm25, .func (PySem.W.fnOf "ground" "Land.ground" (aN eF) (aM eF) (aB eF) .none kVm25 docm25 pmm25 anm25 cdm25 ctm25), slm25⟩) (mc25 : PySem.W.codeIn K cdm25 "Land.ground" = true) (mk25 : PySem.W.keepIn K (.ref fm25) = true)
    (ma26 : PySem.W.findIn K (.ref C) "dues" = some (some (.ref fm26))) (mi26 : PySem.W.isFn K (.ref fm26) = true) (ml26 : K.lookup fm26 = some ⟨ocm26, odm26, .func (PySem.W.fnOf "dues" "Land.dues" (aN iF) (aM iF) (aB iF) .none kVm26 docm26 pmm26 anm26 cdm26 ctm26), slm26⟩) (mc26 : PySem.W.codeIn K cdm26 "Land.dues" = true) (mk26 : PySem.W.keepIn K (.ref fm26) = true)
    (ma27 : PySem.W.findIn K (.ref C) "dyke" = some (some (.ref fm27))) (mi27 : PySem.W.isFn K (.ref fm27) = true) (ml27 : K.lookup fm27 = some ⟨ocm27, odm27, .func (PySem.W.fnOf "dyke" "Land.dyke" (aN fZ) (aM fZ) (aB fZ) .none kVm27 docm27 pmm27 anm27 cdm27 ctm27), slm27⟩) (mc27 : PySem.W.codeIn K cdm27 "Land.dyke" = true) (mk27 : PySem.W.keepIn K (.ref fm27) = true)
    (ma28 : PySem.W.findIn K (.ref C) "raised" = some (some (.ref fm28))) (mi28 : PySem.W.isFn K (.ref fm28) = true) (ml28 : K.lookup fm28 = some ⟨ocm28, odm28, .func (PySem.W.fnOf "raised" "Land.raised" (aN eE) (aM eE) (aB eE) .none kVm28 docm28 pmm28 anm28 cdm28 ctm28), slm28⟩) (mc28 : PySem.W.codeIn K cdm28 "Land.raised" = true) (mk28 : PySem.W.keepIn K (.ref fm28) = true)
    (a0 : PySem.W.nsIn K mainGlobals "_wall" = some (some (.ref f0))) (l0 : K.lookup f0 = some ⟨oc0, od0, .func (PySem.W.fnOf "_wall" "_wall" (aN pX) (aM pX) (aB pX) .none kV0 doc0 pm0 an0 cd0 ct0), sl0⟩) (c0 : PySem.W.codeIn K cd0 "_wall" = true) (k0 : PySem.W.keepIn K (.ref f0) = true)
    (a1 : PySem.W.nsIn K mainGlobals "is_whole" = some (some (.ref f1))) (l1 : K.lookup f1 = some ⟨oc1, od1, .func (PySem.W.fnOf "is_whole" "is_whole" (aN gN) (aM gN) (aB gN) .none kV1 doc1 pm1 an1 cd1 ct1), sl1⟩) (c1 : PySem.W.codeIn K cd1 "is_whole" = true) (k1 : PySem.W.keepIn K (.ref f1) = true)
    (a2 : PySem.W.nsIn K mainGlobals "is_name" = some (some (.ref f2))) (l2 : K.lookup f2 = some ⟨oc2, od2, .func (PySem.W.fnOf "is_name" "is_name" (aN iP) (aM iP) (aB iP) .none kV2 doc2 pm2 an2 cd2 ct2), sl2⟩) (c2 : PySem.W.codeIn K cd2 "is_name" = true) (k2 : PySem.W.keepIn K (.ref f2) = true)
    (a3 : PySem.W.nsIn K mainGlobals "is_height" = some (some (.ref f3))) (l3 : K.lookup f3 = some ⟨oc3, od3, .func (PySem.W.fnOf "is_height" "is_height" (aN fT) (aM fT) (aB fT) .none kV3 doc3 pm3 an3 cd3 ct3), sl3⟩) (c3 : PySem.W.codeIn K cd3 "is_height" = true) (k3 : PySem.W.keepIn K (.ref f3) = true)
    (a4 : PySem.W.nsIn K mainGlobals "is_amount" = some (some (.ref f4))) (l4 : K.lookup f4 = some ⟨oc4, od4, .func (PySem.W.fnOf "is_amount" "is_amount" (aN fU) (aM fU) (aB fU) .none kV4 doc4 pm4 an4 cd4 ct4), sl4⟩) (c4 : PySem.W.codeIn K cd4 "is_amount" = true) (k4 : PySem.W.keepIn K (.ref f4) = true)
    (a5 : PySem.W.nsIn K mainGlobals "is_one_of" = some (some (.ref f5))) (l5 : K.lookup f5 = some ⟨oc5, od5, .func (PySem.W.fnOf "is_one_of" "is_one_of" (aN fS) (aM fS) (aB fS) .none kV5 doc5 pm5 an5 cd5 ct5), sl5⟩) (c5 : PySem.W.codeIn K cd5 "is_one_of" = true) (k5 : PySem.W.keepIn K (.ref f5) = true)
    (a6 : PySem.W.nsIn K mainGlobals "is_list_of" = some (some (.ref f6))) (l6 : K.lookup f6 = some ⟨oc6, od6, .func (PySem.W.fnOf "is_list_of" "is_list_of" (aN eZ) (aM eZ) (aB eZ) .none kV6 doc6 pm6 an6 cd6 ct6), sl6⟩) (c6 : PySem.W.codeIn K cd6 "is_list_of" = true) (k6 : PySem.W.keepIn K (.ref f6) = true)
    (a7 : PySem.W.nsIn K mainGlobals "is_tuple_of" = some (some (.ref f7))) (l7 : K.lookup f7 = some ⟨oc7, od7, .func (PySem.W.fnOf "is_tuple_of" "is_tuple_of" (aN eD) (aM eD) (aB eD) .none kV7 doc7 pm7 an7 cd7 ct7), sl7⟩) (c7 : PySem.W.codeIn K cd7 "is_tuple_of" = true) (k7 : PySem.W.keepIn K (.ref f7) = true)
    (a8 : PySem.W.nsIn K mainGlobals "none_twice" = some (some (.ref f8))) (l8 : K.lookup f8 = some ⟨oc8, od8, .func (PySem.W.fnOf "none_twice" "none_twice" (aN eY) (aM eY) (aB eY) .none kV8 doc8 pm8 an8 cd8 ct8), sl8⟩) (c8 : PySem.W.codeIn K cd8 "none_twice" = true) (k8 : PySem.W.keepIn K (.ref f8) = true)
    (a9 : PySem.W.nsIn K mainGlobals "is_field" = some (some (.ref f9))) (l9 : K.lookup f9 = some ⟨oc9, od9, .func (PySem.W.fnOf "is_field" "is_field" (aN gO) (aM gO) (aB gO) .none kV9 doc9 pm9 an9 cd9 ct9), sl9⟩) (c9 : PySem.W.codeIn K cd9 "is_field" = true) (k9 : PySem.W.keepIn K (.ref f9) = true)
    (a10 : PySem.W.nsIn K mainGlobals "are_fields" = some (some (.ref f10))) (l10 : K.lookup f10 = some ⟨oc10, od10, .func (PySem.W.fnOf "are_fields" "are_fields" (aN fB) (aM fB) (aB fB) .none kV10 doc10 pm10 an10 cd10 ct10), sl10⟩) (c10 : PySem.W.codeIn K cd10 "are_fields" = true) (k10 : PySem.W.keepIn K (.ref f10) = true)
    (a11 : PySem.W.nsIn K mainGlobals "are_sides" = some (some (.ref f11))) (l11 : K.lookup f11 = some ⟨oc11, od11, .func (PySem.W.fnOf "are_sides" "are_sides" (aN fX) (aM fX) (aB fX) .none kV11 doc11 pm11 an11 cd11 ct11), sl11⟩) (c11 : PySem.W.codeIn K cd11 "are_sides" = true) (k11 : PySem.W.keepIn K (.ref f11) = true)
    (a12 : PySem.W.nsIn K mainGlobals "is_sill" = some (some (.ref f12))) (l12 : K.lookup f12 = some ⟨oc12, od12, .func (PySem.W.fnOf "is_sill" "is_sill" (aN iO) (aM iO) (aB iO) .none kV12 doc12 pm12 an12 cd12 ct12), sl12⟩) (c12 : PySem.W.codeIn K cd12 "is_sill" = true) (k12 : PySem.W.keepIn K (.ref f12) = true)
    (a13 : PySem.W.nsIn K mainGlobals "is_dyke" = some (some (.ref f13))) (l13 : K.lookup f13 = some ⟨oc13, od13, .func (PySem.W.fnOf "is_dyke" "is_dyke" (aN iR) (aM iR) (aB iR) .none kV13 doc13 pm13 an13 cd13 ct13), sl13⟩) (c13 : PySem.W.codeIn K cd13 "is_dyke" = true) (k13 : PySem.W.keepIn K (.ref f13) = true)
    (a14 : PySem.W.nsIn K mainGlobals "are_dykes" = some (some (.ref f14))) (l14 : K.lookup f14 = some ⟨oc14, od14, .func (PySem.W.fnOf "are_dykes" "are_dykes" (aN fY) (aM fY) (aB fY) .none kV14 doc14 pm14 an14 cd14 ct14), sl14⟩) (c14 : PySem.W.codeIn K cd14 "are_dykes" = true) (k14 : PySem.W.keepIn K (.ref f14) = true)
    (a15 : PySem.W.nsIn K mainGlobals "is_work" = some (some (.ref f15))) (l15 : K.lookup f15 = some ⟨oc15, od15, .func (PySem.W.fnOf "is_work" "is_work" (aN iN) (aM iN) (aB iN) .none kV15 doc15 pm15 an15 cd15 ct15), sl15⟩) (c15 : PySem.W.codeIn K cd15 "is_work" = true) (k15 : PySem.W.keepIn K (.ref f15) = true)
    (a16 : PySem.W.nsIn K mainGlobals "are_works" = some (some (.ref f16))) (l16 : K.lookup f16 = some ⟨oc16, od16, .func (PySem.W.fnOf "are_works" "are_works" (aN fW) (aM fW) (aB fW) .none kV16 doc16 pm16 an16 cd16 ct16), sl16⟩) (c16 : PySem.W.codeIn K cd16 "are_works" = true) (k16 : PySem.W.keepIn K (.ref f16) = true)
    (a17 : PySem.W.nsIn K mainGlobals "are_some_fields" = some (some (.ref f17))) (l17 : K.lookup f17 = some ⟨oc17, od17, .func (PySem.W.fnOf "are_some_fields" "are_some_fields" (aN dC) (aM dC) (aB dC) .none kV17 doc17 pm17 an17 cd17 ct17), sl17⟩) (c17 : PySem.W.codeIn K cd17 "are_some_fields" = true) (k17 : PySem.W.keepIn K (.ref f17) = true)
    (a18 : PySem.W.nsIn K mainGlobals "with_crown" = some (some (.ref f18))) (l18 : K.lookup f18 = some ⟨oc18, od18, .func (PySem.W.fnOf "with_crown" "with_crown" (aN eW) (aM eW) (aB eW) .none kV18 doc18 pm18 an18 cd18 ct18), sl18⟩) (c18 : PySem.W.codeIn K cd18 "with_crown" = true) (k18 : PySem.W.keepIn K (.ref f18) = true)
    (a19 : PySem.W.nsIn K mainGlobals "spread" = some (some (.ref f19))) (l19 : K.lookup f19 = some ⟨oc19, od19, .func (PySem.W.fnOf "spread" "spread" (aN jK) (aM jK) (aB jK) .none kV19 doc19 pm19 an19 cd19 ct19), sl19⟩) (c19 : PySem.W.codeIn K cd19 "spread" = true) (k19 : PySem.W.keepIn K (.ref f19) = true)
    (a20 : PySem.W.nsIn K mainGlobals "path_to" = some (some (.ref f20))) (l20 : K.lookup f20 = some ⟨oc20, od20, .func (PySem.W.fnOf "path_to" "path_to" (aN iM) (aM iM) (aB iM) .none kV20 doc20 pm20 an20 cd20 ct20), sl20⟩) (c20 : PySem.W.codeIn K cd20 "path_to" = true) (k20 : PySem.W.keepIn K (.ref f20) = true)
    (a21 : PySem.W.nsIn K mainGlobals "check_wish" = some (some (.ref f21))) (l21 : K.lookup f21 = some ⟨oc21, od21, .func (PySem.W.fnOf "check_wish" "check_wish" (aN fA) (aM fA) (aB fA) .none kV21 doc21 pm21 an21 cd21 ct21), sl21⟩) (c21 : PySem.W.codeIn K cd21 "check_wish" = true) (k21 : PySem.W.keepIn K (.ref f21) = true)
    (a22 : PySem.W.nsIn K mainGlobals "coins_to" = some (some (.ref f22))) (l22 : K.lookup f22 = some ⟨oc22, od22, .func (PySem.W.fnOf "coins_to" "coins_to" (aN gQ) (aM gQ) (aB gQ) .none kV22 doc22 pm22 an22 cd22 ct22), sl22⟩) (c22 : PySem.W.codeIn K cd22 "coins_to" = true) (k22 : PySem.W.keepIn K (.ref f22) = true)
    (a23 : PySem.W.nsIn K mainGlobals "coins_of" = some (some (.ref f23))) (l23 : K.lookup f23 = some ⟨oc23, od23, .func (PySem.W.fnOf "coins_of" "coins_of" (aN gR) (aM gR) (aB gR) .none kV23 doc23 pm23 an23 cd23 ct23), sl23⟩) (c23 : PySem.W.codeIn K cd23 "coins_of" = true) (k23 : PySem.W.keepIn K (.ref f23) = true)
    (a24 : PySem.W.nsIn K mainGlobals "is_low" = some (some (.ref f24))) (l24 : K.lookup f24 = some ⟨oc24, od24, .func (PySem.W.fnOf "is_low" "is_low" (aN jL) (aM jL) (aB jL) .none kV24 doc24 pm24 an24 cd24 ct24), sl24⟩) (c24 : PySem.W.codeIn K cd24 "is_low" = true) (k24 : PySem.W.keepIn K (.ref f24) = true)
    (a25 : PySem.W.nsIn K mainGlobals "is_gap" = some (some (.ref f25))) (l25 : K.lookup f25 = some ⟨oc25, od25, .func (PySem.W.fnOf "is_gap" "is_gap" (aN jM) (aM jM) (aB jM) .none kV25 doc25 pm25 an25 cd25 ct25), sl25⟩) (c25 : PySem.W.codeIn K cd25 "is_gap" = true) (k25 : PySem.W.keepIn K (.ref f25) = true)
    (a26 : PySem.W.nsIn K mainGlobals "gap_coins" = some (some (.ref f26))) (l26 : K.lookup f26 = some ⟨oc26, od26, .func (PySem.W.fnOf "gap_coins" "gap_coins" (aN fV) (aM fV) (aB fV) .none kV26 doc26 pm26 an26 cd26 ct26), sl26⟩) (c26 : PySem.W.codeIn K cd26 "gap_coins" = true) (k26 : PySem.W.keepIn K (.ref f26) = true)
    (a27 : PySem.W.nsIn K mainGlobals "steps_over" = some (some (.ref f27))) (l27 : K.lookup f27 = some ⟨oc27, od27, .func (PySem.W.fnOf "steps_over" "steps_over" (aN eX) (aM eX) (aB eX) .none kV27 doc27 pm27 an27 cd27 ct27), sl27⟩) (c27 : PySem.W.codeIn K cd27 "steps_over" = true) (k27 : PySem.W.keepIn K (.ref f27) = true)
    (a28 : PySem.W.nsIn K mainGlobals "room" = some (some (.ref f28))) (l28 : K.lookup f28 = some ⟨oc28, od28, .func (PySem.W.fnOf "room" "room" (aN mW) (aM mW) (aB mW) .none kV28 doc28 pm28 an28 cd28 ct28), sl28⟩) (c28 : PySem.W.codeIn K cd28 "room" = true) (k28 : PySem.W.keepIn K (.ref f28) = true)
    (a29 : PySem.W.nsIn K mainGlobals "reached" = some (some (.ref f29))) (l29 : K.lookup f29 = some ⟨oc29, od29, .func (PySem.W.fnOf "reached" "reached" (aN iL) (aM iL) (aB iL) .none kV29 doc29 pm29 an29 cd29 ct29), sl29⟩) (c29 : PySem.W.codeIn K cd29 "reached" = true) (k29 : PySem.W.keepIn K (.ref f29) = true)
    (a30 : PySem.W.nsIn K mainGlobals "path_with_room" = some (some (.ref f30))) (l30 : K.lookup f30 = some ⟨oc30, od30, .func (PySem.W.fnOf "path_with_room" "path_with_room" (aN dG) (aM dG) (aB dG) .none kV30 doc30 pm30 an30 cd30 ct30), sl30⟩) (c30 : PySem.W.codeIn K cd30 "path_with_room" = true) (k30 : PySem.W.keepIn K (.ref f30) = true)
    (a31 : PySem.W.nsIn K mainGlobals "fullest_stream" = some (some (.ref f31))) (l31 : K.lookup f31 = some ⟨oc31, od31, .func (PySem.W.fnOf "fullest_stream" "fullest_stream" (aN dH) (aM dH) (aB dH) .none kV31 doc31 pm31 an31 cd31 ct31), sl31⟩) (c31 : PySem.W.codeIn K cd31 "fullest_stream" = true) (k31 : PySem.W.keepIn K (.ref f31) = true)
    (a32 : PySem.W.nsIn K mainGlobals "works_round" = some (some (.ref f32))) (l32 : K.lookup f32 = some ⟨oc32, od32, .func (PySem.W.fnOf "works_round" "works_round" (aN eC) (aM eC) (aB eC) .none kV32 doc32 pm32 an32 cd32 ct32), sl32⟩) (c32 : PySem.W.codeIn K cd32 "works_round" = true) (k32 : PySem.W.keepIn K (.ref f32) = true)
    (a33 : PySem.W.nsIn K mainGlobals "fewest" = some (some (.ref f33))) (l33 : K.lookup f33 = some ⟨oc33, od33, .func (PySem.W.fnOf "fewest" "fewest" (aN jN) (aM jN) (aB jN) .none kV33 doc33 pm33 an33 cd33 ct33), sl33⟩) (c33 : PySem.W.codeIn K cd33 "fewest" = true) (k33 : PySem.W.keepIn K (.ref f33) = true)
    (a34 : PySem.W.nsIn K mainGlobals "is_flow" = some (some (.ref f34))) (l34 : K.lookup f34 = some ⟨oc34, od34, .func (PySem.W.fnOf "is_flow" "is_flow" (aN iQ) (aM iQ) (aB iQ) .none kV34 doc34 pm34 an34 cd34 ct34), sl34⟩) (c34 : PySem.W.codeIn K cd34 "is_flow" = true) (k34 : PySem.W.keepIn K (.ref f34) = true)
    (a35 : PySem.W.nsIn K mainGlobals "is_stream" = some (some (.ref f35))) (l35 : K.lookup f35 = some ⟨oc35, od35, .func (PySem.W.fnOf "is_stream" "is_stream" (aN fR) (aM fR) (aB fR) .none kV35 doc35 pm35 an35 cd35 ct35), sl35⟩) (c35 : PySem.W.codeIn K cd35 "is_stream" = true) (k35 : PySem.W.keepIn K (.ref f35) = true)
    (a36 : PySem.W.nsIn K mainGlobals "gains_by" = some (some (.ref f36))) (l36 : K.lookup f36 = some ⟨oc36, od36, .func (PySem.W.fnOf "gains_by" "gains_by" (aN gP) (aM gP) (aB gP) .none kV36 doc36 pm36 an36 cd36 ct36), sl36⟩) (c36 : PySem.W.codeIn K cd36 "gains_by" = true) (k36 : PySem.W.keepIn K (.ref f36) = true)
    (a37 : PySem.W.nsIn K mainGlobals "paper_for" = some (some (.ref f37))) (l37 : K.lookup f37 = some ⟨oc37, od37, .func (PySem.W.fnOf "paper_for" "paper_for" (aN fQ) (aM fQ) (aB fQ) .none kV37 doc37 pm37 an37 cd37 ct37), sl37⟩) (c37 : PySem.W.codeIn K cd37 "paper_for" = true) (k37 : PySem.W.keepIn K (.ref f37) = true)
    (a38 : PySem.W.nsIn K mainGlobals "_law_cell_at" = some (some (.ref f38))) (l38 : K.lookup f38 = some ⟨oc38, od38, .func (PySem.W.fnOf "_law_cell_at" "_law_cell_at" (aN iS) (aM iS) (aB iS) .none kV38 doc38 pm38 an38 cd38 ct38), sl38⟩) (c38 : PySem.W.codeIn K cd38 "_law_cell_at" = true) (k38 : PySem.W.keepIn K (.ref f38) = true)
    (a39 : PySem.W.nsIn K mainGlobals "_law_whole" = some (some (.ref f39))) (l39 : K.lookup f39 = some ⟨oc39, od39, .func (PySem.W.fnOf "_law_whole" "_law_whole" (aN kO) (aM kO) (aB kO) .none kV39 doc39 pm39 an39 cd39 ct39), sl39⟩) (c39 : PySem.W.codeIn K cd39 "_law_whole" = true) (k39 : PySem.W.keepIn K (.ref f39) = true)
    (a40 : PySem.W.nsIn K mainGlobals "_law_names" = some (some (.ref f40))) (l40 : K.lookup f40 = some ⟨oc40, od40, .func (PySem.W.fnOf "_law_names" "_law_names" (aN kQ) (aM kQ) (aB kQ) .none kV40 doc40 pm40 an40 cd40 ct40), sl40⟩) (c40 : PySem.W.codeIn K cd40 "_law_names" = true) (k40 : PySem.W.keepIn K (.ref f40) = true)
    (a41 : PySem.W.nsIn K mainGlobals "_law_mixed" = some (some (.ref f41))) (l41 : K.lookup f41 = some ⟨oc41, od41, .func (PySem.W.fnOf "_law_mixed" "_law_mixed" (aN kR) (aM kR) (aB kR) .none kV41 doc41 pm41 an41 cd41 ct41), sl41⟩) (c41 : PySem.W.codeIn K cd41 "_law_mixed" = true) (k41 : PySem.W.keepIn K (.ref f41) = true)
    (a42 : PySem.W.nsIn K mainGlobals "_law_digits" = some (some (.ref f42))) (l42 : K.lookup f42 = some ⟨oc42, od42, .func (PySem.W.fnOf "_law_digits" "_law_digits" (aN jQ) (aM jQ) (aB jQ) .none kV42 doc42 pm42 an42 cd42 ct42), sl42⟩) (c42 : PySem.W.codeIn K cd42 "_law_digits" = true) (k42 : PySem.W.keepIn K (.ref f42) = true)
    (a43 : PySem.W.nsIn K mainGlobals "_law_height" = some (some (.ref f43))) (l43 : K.lookup f43 = some ⟨oc43, od43, .func (PySem.W.fnOf "_law_height" "_law_height" (aN jO) (aM jO) (aB jO) .none kV43 doc43 pm43 an43 cd43 ct43), sl43⟩) (c43 : PySem.W.codeIn K cd43 "_law_height" = true) (k43 : PySem.W.keepIn K (.ref f43) = true)
    (a44 : PySem.W.nsIn K mainGlobals "_law_amount" = some (some (.ref f44))) (l44 : K.lookup f44 = some ⟨oc44, od44, .func (PySem.W.fnOf "_law_amount" "_law_amount" (aN jR) (aM jR) (aB jR) .none kV44 doc44 pm44 an44 cd44 ct44), sl44⟩) (c44 : PySem.W.codeIn K cd44 "_law_amount" = true) (k44 : PySem.W.keepIn K (.ref f44) = true)
    (a45 : PySem.W.nsIn K mainGlobals "_law_fields" = some (some (.ref f45))) (l45 : K.lookup f45 = some ⟨oc45, od45, .func (PySem.W.fnOf "_law_fields" "_law_fields" (aN jP) (aM jP) (aB jP) .none kV45 doc45 pm45 an45 cd45 ct45), sl45⟩) (c45 : PySem.W.codeIn K cd45 "_law_fields" = true) (k45 : PySem.W.keepIn K (.ref f45) = true)
    (a46 : PySem.W.nsIn K mainGlobals "_law_dykes" = some (some (.ref f46))) (l46 : K.lookup f46 = some ⟨oc46, od46, .func (PySem.W.fnOf "_law_dykes" "_law_dykes" (aN kT) (aM kT) (aB kT) .none kV46 doc46 pm46 an46 cd46 ct46), sl46⟩) (c46 : PySem.W.codeIn K cd46 "_law_dykes" = true) (k46 : PySem.W.keepIn K (.ref f46) = true)
    (a47 : PySem.W.nsIn K mainGlobals "_law_wish" = some (some (.ref f47))) (l47 : K.lookup f47 = some ⟨oc47, od47, .func (PySem.W.fnOf "_law_wish" "_law_wish" (aN mX) (aM mX) (aB mX) .none kV47 doc47 pm47 an47 cd47 ct47), sl47⟩) (c47 : PySem.W.codeIn K cd47 "_law_wish" = true) (k47 : PySem.W.keepIn K (.ref f47) = true)
    (a48 : PySem.W.nsIn K mainGlobals "_law_level" = some (some (.ref f48))) (l48 : K.lookup f48 = some ⟨oc48, od48, .func (PySem.W.fnOf "_law_level" "_law_level" (aN kS) (aM kS) (aB kS) .none kV48 doc48 pm48 an48 cd48 ct48), sl48⟩) (c48 : PySem.W.codeIn K cd48 "_law_level" = true) (k48 : PySem.W.keepIn K (.ref f48) = true)
    (a49 : PySem.W.nsIn K mainGlobals "_law_land" = some (some (.ref f49))) (l49 : K.lookup f49 = some ⟨oc49, od49, .func (PySem.W.fnOf "_law_land" "_law_land" (aN mY) (aM mY) (aB mY) .none kV49 doc49 pm49 an49 cd49 ct49), sl49⟩) (c49 : PySem.W.codeIn K cd49 "_law_land" = true) (k49 : PySem.W.keepIn K (.ref f49) = true)
    (a50 : PySem.W.nsIn K mainGlobals "_law_gaps" = some (some (.ref f50))) (l50 : K.lookup f50 = some ⟨oc50, od50, .func (PySem.W.fnOf "_law_gaps" "_law_gaps" (aN nB) (aM nB) (aB nB) .none kV50 doc50 pm50 an50 cd50 ct50), sl50⟩) (c50 : PySem.W.codeIn K cd50 "_law_gaps" = true) (k50 : PySem.W.keepIn K (.ref f50) = true)
    (a51 : PySem.W.nsIn K mainGlobals "_law_come" = some (some (.ref f51))) (l51 : K.lookup f51 = some ⟨oc51, od51, .func (PySem.W.fnOf "_law_come" "_law_come" (aN nC) (aM nC) (aB nC) .none kV51 doc51 pm51 an51 cd51 ct51), sl51⟩) (c51 : PySem.W.codeIn K cd51 "_law_come" = true) (k51 : PySem.W.keepIn K (.ref f51) = true)
    (a52 : PySem.W.nsIn K mainGlobals "_law_kept" = some (some (.ref f52))) (l52 : K.lookup f52 = some ⟨oc52, od52, .func (PySem.W.fnOf "_law_kept" "_law_kept" (aN mZ) (aM mZ) (aB mZ) .none kV52 doc52 pm52 an52 cd52 ct52), sl52⟩) (c52 : PySem.W.codeIn K cd52 "_law_kept" = true) (k52 : PySem.W.keepIn K (.ref f52) = true)
    (a53 : PySem.W.nsIn K mainGlobals "_law_in_order" = some (some (.ref f53))) (l53 : K.lookup f53 = some ⟨oc53, od53, .func (PySem.W.fnOf "_law_in_order" "_law_in_order" (aN gT) (aM gT) (aB gT) .none kV53 doc53 pm53 an53 cd53 ct53), sl53⟩) (c53 : PySem.W.codeIn K cd53 "_law_in_order" = true) (k53 : PySem.W.keepIn K (.ref f53) = true)
    (a54 : PySem.W.nsIn K mainGlobals "_law_paper" = some (some (.ref f54))) (l54 : K.lookup f54 = some ⟨oc54, od54, .func (PySem.W.fnOf "_law_paper" "_law_paper" (aN kP) (aM kP) (aB kP) .none kV54 doc54 pm54 an54 cd54 ct54), sl54⟩) (c54 : PySem.W.codeIn K cd54 "_law_paper" = true) (k54 : PySem.W.keepIn K (.ref f54) = true)
    (a55 : PySem.W.nsIn K mainGlobals "_law_good" = some (some (.ref f55))) (l55 : K.lookup f55 = some ⟨oc55, od55, .func (PySem.W.fnOf "_law_good" "_law_good" (aN nA) (aM nA) (aB nA) .none kV55 doc55 pm55 an55 cd55 ct55), sl55⟩) (c55 : PySem.W.codeIn K cd55 "_law_good" = true) (k55 : PySem.W.keepIn K (.ref f55) = true)
    (a56 : PySem.W.nsIn K mainGlobals "law" = some (some (.ref f56))) (l56 : K.lookup f56 = some ⟨oc56, od56, .func (PySem.W.fnOf "law" "law" (aN oS) (aM oS) (aB oS) .none kV56 doc56 pm56 an56 cd56 ct56), sl56⟩) (c56 : PySem.W.codeIn K cd56 "law" = true) (k56 : PySem.W.keepIn K (.ref f56) = true)
    (g0 : PySem.W.nsIn K mainGlobals "SEA" = some (some u0)) (r0 : bN (.str "sea") u0)
    (g1 : PySem.W.nsIn K mainGlobals "LETTERS" = some (some u1)) (r1 : bN (.str "abcdefghijklmnopqrstuvwxyz") u1)
    (g2 : PySem.W.nsIn K mainGlobals "MOST_LETTERS" = some (some u2)) (r2 : bN (.int 8) u2)
    (g3 : PySem.W.nsIn K mainGlobals "MOST_HEIGHT" = some (some u3)) (r3 : bN (.int 1000000) u3)
    (g4 : PySem.W.nsIn K mainGlobals "MOST_AMOUNT" = some (some u4)) (r4 : bN (.int 1000000) u4)
    (g5 : PySem.W.nsIn K mainGlobals "MOST_FIELDS" = some (some u5)) (r5 : bN (.int 12) u5)
    (g6 : PySem.W.nsIn K mainGlobals "MOST_DYKES" = some (some u6)) (r6 : bN (.int 40) u6)
    (z0 : PySem.W.nsIn K mainGlobals "abs" = some none)
    (z1 : PySem.W.nsIn K mainGlobals "all" = some none)
    (z2 : PySem.W.nsIn K mainGlobals "any" = some none)
    (z3 : PySem.W.nsIn K mainGlobals "bool" = some none)
    (z4 : PySem.W.nsIn K mainGlobals "dict" = some none)
    (z5 : PySem.W.nsIn K mainGlobals "int" = some none)
    (z6 : PySem.W.nsIn K mainGlobals "isinstance" = some none)
    (z7 : PySem.W.nsIn K mainGlobals "len" = some none)
    (z8 : PySem.W.nsIn K mainGlobals "list" = some none)
    (z9 : PySem.W.nsIn K mainGlobals "max" = some none)
    (z10 : PySem.W.nsIn K mainGlobals "min" = some none)
    (z11 : PySem.W.nsIn K mainGlobals "range" = some none)
    (z12 : PySem.W.nsIn K mainGlobals "reversed" = some none)
    (z13 : PySem.W.nsIn K mainGlobals "set" = some none)
    (z14 : PySem.W.nsIn K mainGlobals "str" = some none)
    (z15 : PySem.W.nsIn K mainGlobals "sum" = some none)
    (z16 : PySem.W.nsIn K mainGlobals "tuple" = some none)   : Txt K mg C :=
  ⟨⟨pgC, hdC, poC, saC⟩,
   PySem.W.mg_of X G aC,
   n_field_rows,
   n_dyke_rows,
   ⟨iha, ihn, iht, ihm⟩,
   aLG ma19 mi19 ml19 mc19 mk19 mkC kpC (fun _ _ _ _ _ _ us hl => match us, hl with | [_, _, _], _ => rfl),
   jC ma20 mi20 ml20 mc20 mk20 (fun _ _ _ _ _ _ us hl => match us, hl with | [_], _ => rfl),
   jC ma21 mi21 ml21 mc21 mk21 (fun _ _ _ _ _ _ us hl => match us, hl with | [_], _ => rfl),
   jC ma22 mi22 ml22 mc22 mk22 (fun _ _ _ _ _ _ us hl => match us, hl with | [_], _ => rfl),
   jC ma23 mi23 ml23 mc23 mk23 (fun _ _ _ _ _ _ us hl => match us, hl with | [_], _ => rfl),
   jC ma24 mi24 ml24 mc24 mk24 (fun _ _ _ _ _ _ us hl => match us, hl with | [_], _ => rfl),
   jC ma25 mi25 ml25 mc25 mk25 (fun _ _ _ _ _ _ us hl => match us, hl with | [_, _], _ => rfl),
   jC ma26 mi26 ml26 mc26 mk26 (fun _ _ _ _ _ _ us hl => match us, hl with | [_, _], _ => rfl),
   jC ma27 mi27 ml27 mc27 mk27 (fun _ _ _ _ _ _ us hl => match us, hl with | [_, _], _ => rfl),
   jC ma28 mi28 ml28 mc28 mk28 (fun _ _ _ _ _ _ us hl => match us, hl with | [_, _], _ => rfl),
   bC X G a0 l0 c0 k0 (fun _ _ _ _ _ _ us hl => match us, hl with | [_], _ => rfl),
   bC X G a1 l1 c1 k1 (fun _ _ _ _ _ _ us hl => match us, hl with | [_], _ => rfl),
   bC X G a2 l2 c2 k2 (fun _ _ _ _ _ _ us hl => match us, hl with | [_], _ => rfl),
   bC X G a3 l3 c3 k3 (fun _ _ _ _ _ _ us hl => match us, hl with | [_], _ => rfl),
   bC X G a4 l4 c4 k4 (fun _ _ _ _ _ _ us hl => match us, hl with | [_], _ => rfl),
   bC X G a5 l5 c5 k5 (fun _ _ _ _ _ _ us hl => match us, hl with | [_, _], _ => rfl),
   bC X G a6 l6 c6 k6 (fun _ _ _ _ _ _ us hl => match us, hl with | [_, _], _ => rfl),
   bC X G a7 l7 c7 k7 (fun _ _ _ _ _ _ us hl => match us, hl with | [_, _], _ => rfl),
   bC X G a8 l8 c8 k8 (fun _ _ _ _ _ _ us hl => match us, hl with | [_], _ => rfl),
   bC X G a9 l9 c9 k9 (fun _ _ _ _ _ _ us hl => match us, hl with | [_], _ => rfl),
   bC X G a10 l10 c10 k10 (fun _ _ _ _ _ _ us hl => match us, hl with | [_], _ => rfl),
   bC X G a11 l11 c11 k11 (fun _ _ _ _ _ _ us hl => match us, hl with | [_, _, _], _ => rfl),
   bC X G a12 l12 c12 k12 (fun _ _ _ _ _ _ us hl => match us, hl with | [_, _], _ => rfl),
   bC X G a13 l13 c13 k13 (fun _ _ _ _ _ _ us hl => match us, hl with | [_, _], _ => rfl),
   bC X G a14 l14 c14 k14 (fun _ _ _ _ _ _ us hl => match us, hl with | [_, _], _ => rfl),
   bC X G a15 l15 c15 k15 (fun _ _ _ _ _ _ us hl => match us, hl with | [_, _], _ => rfl),
   bC X G a16 l16 c16 k16 (fun _ _ _ _ _ _ us hl => match us, hl with | [_, _], _ => rfl),
   bC X G a17 l17 c17 k17 (fun _ _ _ _ _ _ us hl => match us, hl with | [_, _], _ => rfl),
   bC X G a18 l18 c18 k18 (fun _ _ _ _ _ _ us hl => match us, hl with | [_, _], _ => rfl),
   bC X G a19 l19 c19 k19 (fun _ _ _ _ _ _ us hl => match us, hl with | [_, _], _ => rfl),
   bC X G a20 l20 c20 k20 (fun _ _ _ _ _ _ us hl => match us, hl with | [_, _], _ => rfl),
   bC X G a21 l21 c21 k21 (fun _ _ _ _ _ _ us hl => match us, hl with | [_, _, _], _ => rfl),
   bC X G a22 l22 c22 k22 (fun _ _ _ _ _ _ us hl => match us, hl with | [_, _], _ => rfl),
   bC X G a23 l23 c23 k23 (fun _ _ _ _ _ _ us hl => match us, hl with | [_, _], _ => rfl),
   bC X G a24 l24 c24 k24 (fun _ _ _ _ _ _ us hl => match us, hl with | [_, _, _], _ => rfl),
   bC X G a25 l25 c25 k25 (fun _ _ _ _ _ _ us hl => match us, hl with | [_, _, _], _ => rfl),
   bC X G a26 l26 c26 k26 (fun _ _ _ _ _ _ us hl => match us, hl with | [_, _], _ => rfl),
   bC X G a27 l27 c27 k27 (fun _ _ _ _ _ _ us hl => match us, hl with | [_, _], _ => rfl),
   bC X G a28 l28 c28 k28 (fun _ _ _ _ _ _ us hl => match us, hl with | [_, _, _], _ => rfl),
   bC X G a29 l29 c29 k29 (fun _ _ _ _ _ _ us hl => match us, hl with | [_, _, _], _ => rfl),
   bC X G a30 l30 c30 k30 (fun _ _ _ _ _ _ us hl => match us, hl with | [_, _, _, _], _ => rfl),
   bC X G a31 l31 c31 k31 (fun _ _ _ _ _ _ us hl => match us, hl with | [_, _, _], _ => rfl),
   bC X G a32 l32 c32 k32 (fun _ _ _ _ _ _ us hl => match us, hl with | [_, _, _, _], _ => rfl),
   bC X G a33 l33 c33 k33 (fun _ _ _ _ _ _ us hl => match us, hl with | [_, _, _], _ => rfl),
   bC X G a34 l34 c34 k34 (fun _ _ _ _ _ _ us hl => match us, hl with | [_, _], _ => rfl),
   bC X G a35 l35 c35 k35 (fun _ _ _ _ _ _ us hl => match us, hl with | [_, _], _ => rfl),
   bC X G a36 l36 c36 k36 (fun _ _ _ _ _ _ us hl => match us, hl with | [_, _], _ => rfl),
   bC X G a37 l37 c37 k37 (fun _ _ _ _ _ _ us hl => match us, hl with | [_, _, _, _], _ => rfl),
   bC X G a38 l38 c38 k38 (fun _ _ _ _ _ _ us hl => match us, hl with | [_, _], _ => rfl),
   bC X G a39 l39 c39 k39 (fun _ _ _ _ _ _ us hl => match us, hl with | [_], _ => rfl),
   bC X G a40 l40 c40 k40 (fun _ _ _ _ _ _ us hl => match us, hl with | [_, _], _ => rfl),
   bC X G a41 l41 c41 k41 (fun _ _ _ _ _ _ us hl => match us, hl with | [_, _], _ => rfl),
   bC X G a42 l42 c42 k42 (fun _ _ _ _ _ _ us hl => match us, hl with | [_], _ => rfl),
   bC X G a43 l43 c43 k43 (fun _ _ _ _ _ _ us hl => match us, hl with | [_], _ => rfl),
   bC X G a44 l44 c44 k44 (fun _ _ _ _ _ _ us hl => match us, hl with | [_], _ => rfl),
   bC X G a45 l45 c45 k45 (fun _ _ _ _ _ _ us hl => match us, hl with | [_, _], _ => rfl),
   bC X G a46 l46 c46 k46 (fun _ _ _ _ _ _ us hl => match us, hl with | [_, _, _], _ => rfl),
   bC X G a47 l47 c47 k47 (fun _ _ _ _ _ _ us hl => match us, hl with | [_, _], _ => rfl),
   bC X G a48 l48 c48 k48 (fun _ _ _ _ _ _ us hl => match us, hl with | [_], _ => rfl),
   bC X G a49 l49 c49 k49 (fun _ _ _ _ _ _ us hl => match us, hl with | [_, _, _], _ => rfl),
   bC X G a50 l50 c50 k50 (fun _ _ _ _ _ _ us hl => match us, hl with | [_, _], _ => rfl),
   bC X G a51 l51 c51 k51 (fun _ _ _ _ _ _ us hl => match us, hl with | [_], _ => rfl),
   bC X G a52 l52 c52 k52 (fun _ _ _ _ _ _ us hl => match us, hl with | [_, _, _], _ => rfl),
   bC X G a53 l53 c53 k53 (fun _ _ _ _ _ _ us hl => match us, hl with | [_, _], _ => rfl),
   bC X G a54 l54 c54 k54 (fun _ _ _ _ _ _ us hl => match us, hl with | [_, _, _, _], _ => rfl),
   bC X G a55 l55 c55 k55 (fun _ _ _ _ _ _ us hl => match us, hl with | [_, _, _], _ => rfl),
   bC X G a56 l56 c56 k56 (fun _ _ _ _ _ _ us hl => match us, hl with | [_], _ => rfl),
   lT X G g0 r0,
   lT X G g1 r1,
   lT X G g2 r2,
   lT X G g3 r3,
   lT X G g4 r4,
   lT X G g5 r5,
   lT X G g6 r6,
   PySem.W.mg_none_of X G z0,
   PySem.W.mg_none_of X G z1,
   PySem.W.mg_none_of X G z2,
   PySem.W.mg_none_of X G z3,
   PySem.W.mg_none_of X G z4,
   PySem.W.mg_none_of X G z5,
   PySem.W.mg_none_of X G z6,
   PySem.W.mg_none_of X G z7,
   PySem.W.mg_none_of X G z8,
   PySem.W.mg_none_of X G z9,
   PySem.W.mg_none_of X G z10,
   PySem.W.mg_none_of X G z11,
   PySem.W.mg_none_of X G z12,
   PySem.W.mg_none_of X G z13,
   PySem.W.mg_none_of X G z14,
   PySem.W.mg_none_of X G z15,
   PySem.W.mg_none_of X G z16⟩
end K54
namespace PySem.W.Fast
def tw776293498190690775 := 0
def tw6568845261958658670 := 0
def tw13635125015128154387 := 0
def tw534906088646248706 := 0
def tw6884660591378074697 := 0
def tw4080711357578733151 := 0
def tw13598384047787230570 := 0
def tw4000974555217014393 := 0
def tw3684911898246383719 := 0
def tw13272674876213047176 := 0
def tw10692715896027457749 := 0
def tw15832055717456839908 := 0
def tw6334737760318709451 := 0
def tw6934424352691366871 := 0
def tw13278942017537035574 := 0
def tw3199298652492594697 := 0
def tw10083535469309491270 := 0
def tw7841672974589907318 := 0
def tw2512752134850505706 := 0
def tw10364070731470551763 := 0
def tw795299578402688350 := 0
def tw5343556621204925994 := 0
def tw2701376377611461228 := 0
def tw9836909911616426383 := 0
def tw7249424464886585531 := 0
def tw15974137233910272973 := 0
def tw15466330185251234931 := 0
def tw10289983831013926566 := 0
def tw16557897085378074902 := 0
def tw14803035438028627231 := 0
def tw16497350806497052608 := 0
def tw2568943181047384842 := 0
def tw14544976412861478496 := 0
def tw1540511541861028367 := 0
def tw10532756173911131148 := 0
def tw11130039727199271309 := 0
def tw8385964337464452584 := 0
def tw6118919332260005130 := 0
def tw6087518891697474527 := 0
def tw9391489080352868827 := 0
def tw14755654774188496886 := 0
def tw913093424016801661 := 0
def tw2661974180931199219 := 0
def tw12834110385005178349 := 0
def tw8777393003468173023 := 0
def tw13423697462306302199 := 0
def tw15195747896235840171 := 0
def tw14429806586416392991 := 0
def tw5015993295440789256 := 0
def tw16953221788073501938 := 0
end PySem.W.Fast
open PySem PySem.W PyProof.Rows
set_option maxRecDepth 100000 in
set_option maxHeartbeats 0 in
theorem PySem.Challenge.cw_dykemoot_k54_whole_fewest_coins_holds : PySem.Challenge.rw_dykemoot_k54_whole_fewest_coins.Holds := by
 w_on; o_law; k_head; (case hw => w_witness2)
 k_fill
 refine L2.walk_law (l := PySem.Challenge.rw_dykemoot_k54_whole_fewest_coins) 12 ⟨rfl, by decide, by decide⟩ rfl rfl (fun w h Y => PySem.W.kIn_of Y) ?F
 case F =>
  intro w mg fa h KX G hmg
  refine' K54.law_mk hmg (K54.txt_mk KX G ?xaC ?xpgC ?xhdC ?xpoC ?xsaC ?xmkC ?xkpC ?xn_field_rows ?xn_dyke_rows ?xiha ?xihn ?xiht ?xihm ?xma19 ?xmi19 ?xml19 ?xmc19 ?xmk19 ?xma20 ?xmi20 ?xml20 ?xmc20 ?xmk20 ?xma21 ?xmi21 ?xml21 ?xmc21 ?xmk21 ?xma22 ?xmi22 ?xml22 ?xmc22 ?xmk22 ?xma23 ?xmi23 ?xml23 ?xmc23 ?xmk23 ?xma24 ?xmi24 ?xml24 ?xmc24 ?xmk24 ?xma25 ?xmi25 ?xml25 ?xmc25 ?xmk25 ?xma26 ?xmi26 ?xml26 ?xmc26 ?xmk26 ?xma27 ?xmi27 ?xml27 ?xmc27 ?xmk27 ?xma28 ?xmi28 ?xml28 ?xmc28 ?xmk28 ?xa0 ?xl0 ?xc0 ?xk0 ?xa1 ?xl1 ?xc1 ?xk1 ?xa2 ?xl2 ?xc2 ?xk2 ?xa3 ?xl3 ?xc3 ?xk3 ?xa4 ?xl4 ?xc4 ?xk4 ?xa5 ?xl5 ?xc5 ?xk5 ?xa6 ?xl6 ?xc6 ?xk6 ?xa7 ?xl7 ?xc7 ?xk7 ?xa8 ?xl8 ?xc8 ?xk8 ?xa9 ?xl9 ?xc9 ?xk9 ?xa10 ?xl10 ?xc10 ?xk10 ?xa11 ?xl11 ?xc11 ?xk11 ?xa12 ?xl12 ?xc12 ?xk12 ?xa13 ?xl13 ?xc13 ?xk13 ?xa14 ?xl14 ?xc14 ?xk14 ?xa15 ?xl15 ?xc15 ?xk15 ?xa16 ?xl16 ?xc16 ?xk16 ?xa17 ?xl17 ?xc17 ?xk17 ?xa18 ?xl18 ?xc18 ?xk18 ?xa19 ?xl19 ?xc19 ?xk19 ?xa20 ?xl20 ?xc20 ?xk20 ?xa21 ?xl21 ?xc21 ?xk21 ?xa22 ?xl22 ?xc22 ?xk22 ?xa23 ?xl23 ?xc23 ?xk23 ?xa24 ?xl24 ?xc24 ?xk24 ?xa25 ?xl25 ?xc25 ?xk25 ?xa26 ?xl26 ?xc26 ?xk26 ?xa27 ?xl27 ?xc27 ?xk27 ?xa28 ?xl28 ?xc28 ?xk28 ?xa29 ?xl29 ?xc29 ?xk29 ?xa30 ?xl30 ?xc30 ?xk30 ?xa31 ?xl31 ?xc31 ?xk31 ?xa32 ?xl32 ?xc32 ?xk32 ?xa33 ?xl33 ?xc33 ?xk33 ?xa34 ?xl34 ?xc34 ?xk34 ?xa35 ?xl35 ?xc35 ?xk35 ?xa36 ?xl36 ?xc36 ?xk36 ?xa37 ?xl37 ?xc37 ?xk37 ?xa38 ?xl38 ?xc38 ?xk38 ?xa39 ?xl39 ?xc39 ?xk39 ?xa40 ?xl40 ?xc40 ?xk40 ?xa41 ?xl41 ?xc41 ?xk41 ?xa42 ?xl42 ?xc42 ?xk42 ?xa43 ?xl43 ?xc43 ?xk43 ?xa44 ?xl44 ?xc44 ?xk44 ?xa45 ?xl45 ?xc45 ?xk45 ?xa46 ?xl46 ?xc46 ?xk46 ?xa47 ?xl47 ?xc47 ?xk47 ?xa48 ?xl48 ?xc48 ?xk48 ?xa49 ?xl49 ?xc49 ?xk49 ?xa50 ?xl50 ?xc50 ?xk50 ?xa51 ?xl51 ?xc51 ?xk51 ?xa52 ?xl52 ?xc52 ?xk52 ?xa53 ?xl53 ?xc53 ?xk53 ?xa54 ?xl54 ?xc54 ?xk54 ?xa55 ?xl55 ?xc55 ?xk55 ?xa56 ?xl56 ?xc56 ?xk56 ?xg0 ?xr0 ?xg1 ?xr1 ?xg2 ?xr2 ?xg3 ?xr3 ?xg4 ?xr4 ?xg5 ?xr5 ?xg6 ?xr6 ?xz0 ?xz1 ?xz2 ?xz3 ?xz4 ?xz5 ?xz6 ?xz7 ?xz8 ?xz9 ?xz10 ?xz11 ?xz12 ?xz13 ?xz14 ?xz15 ?xz16)
  (case xaC => k_is)
  (case xpgC => k_is)
  (case xhdC => k_is)
  (case xpoC => k_is)
  (case xsaC => k_is)
  (case xmkC => k_is)
  (case xkpC => k_is)
  (case xn_field_rows => k_is)
  (case xn_dyke_rows => k_is)
  (case xiha => k_is)
  (case xihn => k_is)
  (case xiht => k_is)
  (case xihm => k_is)
  (case xma19 => k_is)
  (case xmi19 => k_is)
  (case xml19 => k_is)
  (case xmc19 => k_is)
  (case xmk19 => k_is)
  (case xma20 => k_is)
  (case xmi20 => k_is)
  (case xml20 => k_is)
  (case xmc20 => k_is)
  (case xmk20 => k_is)
  (case xma21 => k_is)
  (case xmi21 => k_is)
  (case xml21 => k_is)
  (case xmc21 => k_is)
  (case xmk21 => k_is)
  (case xma22 => k_is)
  (case xmi22 => k_is)
  (case xml22 => k_is)
  (case xmc22 => k_is)
  (case xmk22 => k_is)
  (case xma23 => k_is)
  (case xmi23 => k_is)
  (case xml23 => k_is)
  (case xmc23 => k_is)
  (case xmk23 => k_is)
  (case xma24 => k_is)
  (case xmi24 => k_is)
  (case xml24 => k_is)
  (case xmc24 => k_is)
  (case xmk24 => k_is)
  (case xma25 => k_is)
  (case xmi25 => k_is)
  (case xml25 => k_is)
  (case xmc25 => k_is)
  (case xmk25 => k_is)
  (case xma26 => k_is)
  (case xmi26 => k_is)
  (case xml26 => k_is)
  (case xmc26 => k_is)
  (case xmk26 => k_is)
  (case xma27 => k_is)
  (case xmi27 => k_is)
  (case xml27 => k_is)
  (case xmc27 => k_is)
  (case xmk27 => k_is)
  (case xma28 => k_is)
  (case xmi28 => k_is)
  (case xml28 => k_is)
  (case xmc28 => k_is)
  (case xmk28 => k_is)
  (case xa0 => k_is)
  (case xl0 => k_is)
  (case xc0 => k_is)
  (case xk0 => k_is)
  (case xa1 => k_is)
  (case xl1 => k_is)
  (case xc1 => k_is)
  (case xk1 => k_is)
  (case xa2 => k_is)
  (case xl2 => k_is)
  (case xc2 => k_is)
  (case xk2 => k_is)
  (case xa3 => k_is)
  (case xl3 => k_is)
  (case xc3 => k_is)
  (case xk3 => k_is)
  (case xa4 => k_is)
  (case xl4 => k_is)
  (case xc4 => k_is)
  (case xk4 => k_is)
  (case xa5 => k_is)
  (case xl5 => k_is)
  (case xc5 => k_is)
  (case xk5 => k_is)
  (case xa6 => k_is)
  (case xl6 => k_is)
  (case xc6 => k_is)
  (case xk6 => k_is)
  (case xa7 => k_is)
  (case xl7 => k_is)
  (case xc7 => k_is)
  (case xk7 => k_is)
  (case xa8 => k_is)
  (case xl8 => k_is)
  (case xc8 => k_is)
  (case xk8 => k_is)
  (case xa9 => k_is)
  (case xl9 => k_is)
  (case xc9 => k_is)
  (case xk9 => k_is)
  (case xa10 => k_is)
  (case xl10 => k_is)
  (case xc10 => k_is)
  (case xk10 => k_is)
  (case xa11 => k_is)
  (case xl11 => k_is)
  (case xc11 => k_is)
  (case xk11 => k_is)
  (case xa12 => k_is)
  (case xl12 => k_is)
  (case xc12 => k_is)
  (case xk12 => k_is)
  (case xa13 => k_is)
  (case xl13 => k_is)
  (case xc13 => k_is)
  (case xk13 => k_is)
  (case xa14 => k_is)
  (case xl14 => k_is)
  (case xc14 => k_is)
  (case xk14 => k_is)
  (case xa15 => k_is)
  (case xl15 => k_is)
  (case xc15 => k_is)
  (case xk15 => k_is)
  (case xa16 => k_is)
  (case xl16 => k_is)
  (case xc16 => k_is)
  (case xk16 => k_is)
  (case xa17 => k_is)
  (case xl17 => k_is)
  (case xc17 => k_is)
  (case xk17 => k_is)
  (case xa18 => k_is)
  (case xl18 => k_is)
  (case xc18 => k_is)
  (case xk18 => k_is)
  (case xa19 => k_is)
  (case xl19 => k_is)
  (case xc19 => k_is)
  (case xk19 => k_is)
  (case xa20 => k_is)
  (case xl20 => k_is)
  (case xc20 => k_is)
  (case xk20 => k_is)
  (case xa21 => k_is)
  (case xl21 => k_is)
  (case xc21 => k_is)
  (case xk21 => k_is)
  (case xa22 => k_is)
  (case xl22 => k_is)
  (case xc22 => k_is)
  (case xk22 => k_is)
  (case xa23 => k_is)
  (case xl23 => k_is)
  (case xc23 => k_is)
  (case xk23 => k_is)
  (case xa24 => k_is)
  (case xl24 => k_is)
  (case xc24 => k_is)
  (case xk24 => k_is)
  (case xa25 => k_is)
  (case xl25 => k_is)
  (case xc25 => k_is)
  (case xk25 => k_is)
  (case xa26 => k_is)
  (case xl26 => k_is)
  (case xc26 => k_is)
  (case xk26 => k_is)
  (case xa27 => k_is)
  (case xl27 => k_is)
  (case xc27 => k_is)
  (case xk27 => k_is)
  (case xa28 => k_is)
  (case xl28 => k_is)
  (case xc28 => k_is)
  (case xk28 => k_is)
  (case xa29 => k_is)
  (case xl29 => k_is)
  (case xc29 => k_is)
  (case xk29 => k_is)
  (case xa30 => k_is)
  (case xl30 => k_is)
  (case xc30 => k_is)
  (case xk30 => k_is)
  (case xa31 => k_is)
  (case xl31 => k_is)
  (case xc31 => k_is)
  (case xk31 => k_is)
  (case xa32 => k_is)
  (case xl32 => k_is)
  (case xc32 => k_is)
  (case xk32 => k_is)
  (case xa33 => k_is)
  (case xl33 => k_is)
  (case xc33 => k_is)
  (case xk33 => k_is)
  (case xa34 => k_is)
  (case xl34 => k_is)
  (case xc34 => k_is)
  (case xk34 => k_is)
  (case xa35 => k_is)
  (case xl35 => k_is)
  (case xc35 => k_is)
  (case xk35 => k_is)
  (case xa36 => k_is)
  (case xl36 => k_is)
  (case xc36 => k_is)
  (case xk36 => k_is)
  (case xa37 => k_is)
  (case xl37 => k_is)
  (case xc37 => k_is)
  (case xk37 => k_is)
  (case xa38 => k_is)
  (case xl38 => k_is)
  (case xc38 => k_is)
  (case xk38 => k_is)
  (case xa39 => k_is)
  (case xl39 => k_is)
  (case xc39 => k_is)
  (case xk39 => k_is)
  (case xa40 => k_is)
  (case xl40 => k_is)
  (case xc40 => k_is)
  (case xk40 => k_is)
  (case xa41 => k_is)
  (case xl41 => k_is)
  (case xc41 => k_is)
  (case xk41 => k_is)
  (case xa42 => k_is)
  (case xl42 => k_is)
  (case xc42 => k_is)
  (case xk42 => k_is)
  (case xa43 => k_is)
  (case xl43 => k_is)
  (case xc43 => k_is)
  (case xk43 => k_is)
  (case xa44 => k_is)
  (case xl44 => k_is)
  (case xc44 => k_is)
  (case xk44 => k_is)
  (case xa45 => k_is)
  (case xl45 => k_is)
  (case xc45 => k_is)
  (case xk45 => k_is)
  (case xa46 => k_is)
  (case xl46 => k_is)
  (case xc46 => k_is)
  (case xk46 => k_is)
  (case xa47 => k_is)
  (case xl47 => k_is)
  (case xc47 => k_is)
  (case xk47 => k_is)
  (case xa48 => k_is)
  (case xl48 => k_is)
  (case xc48 => k_is)
  (case xk48 => k_is)
  (case xa49 => k_is)
  (case xl49 => k_is)
  (case xc49 => k_is)
  (case xk49 => k_is)
  (case xa50 => k_is)
  (case xl50 => k_is)
  (case xc50 => k_is)
  (case xk50 => k_is)
  (case xa51 => k_is)
  (case xl51 => k_is)
  (case xc51 => k_is)
  (case xk51 => k_is)
  (case xa52 => k_is)
  (case xl52 => k_is)
  (case xc52 => k_is)
  (case xk52 => k_is)
  (case xa53 => k_is)
  (case xl53 => k_is)
  (case xc53 => k_is)
  (case xk53 => k_is)
  (case xa54 => k_is)
  (case xl54 => k_is)
  (case xc54 => k_is)
  (case xk54 => k_is)
  (case xa55 => k_is)
  (case xl55 => k_is)
  (case xc55 => k_is)
  (case xk55 => k_is)
  (case xa56 => k_is)
  (case xl56 => k_is)
  (case xc56 => k_is)
  (case xk56 => k_is)
  (case xg0 => k_is)
  (case xr0 => exact ⟨_, rfl⟩)
  (case xg1 => k_is)
  (case xr1 => exact ⟨_, rfl⟩)
  (case xg2 => k_is)
  (case xr2 => exact ⟨_, rfl⟩)
  (case xg3 => k_is)
  (case xr3 => exact ⟨_, rfl⟩)
  (case xg4 => k_is)
  (case xr4 => exact ⟨_, rfl⟩)
  (case xg5 => k_is)
  (case xr5 => exact ⟨_, rfl⟩)
  (case xg6 => k_is)
  (case xr6 => exact ⟨_, rfl⟩)
  (case xz0 => k_is)
  (case xz1 => k_is)
  (case xz2 => k_is)
  (case xz3 => k_is)
  (case xz4 => k_is)
  (case xz5 => k_is)
  (case xz6 => k_is)
  (case xz7 => k_is)
  (case xz8 => k_is)
  (case xz9 => k_is)
  (case xz10 => k_is)
  (case xz11 => k_is)
  (case xz12 => k_is)
  (case xz13 => k_is)
  (case xz14 => k_is)
  (case xz15 => k_is)
  (case xz16 => k_is)
