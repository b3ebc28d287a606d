import PyProof.Rows.All
import Wide.All
import OpenK.AllK
import Wide.FinOn
import Lean
import PyProof.EqAt
import PyProof.EqKinds
import PyProof.TupleCall
import PyProof.StrBlockI
import PyProof.SliceList
import PyProof.StrLawsIn
import PyProof.StrLaws
import PySem.Challenge.RW_dykemoot_k03_no_land
set_option Elab.async false
set_option linter.all false
set_option maxRecDepth 100000
namespace L2
open PySem PySem.Spec PyProof.Rows

abbrev Key := Sum Int Str
def keyIs : Key → Value → Bool
  | .inl k, v => Value.isInt k v
  | .inr x, v => Value.isStrOf x v
def keyH (w : World) : Key → Int
  | .inl k => hashInt k
  | .inr x => hashStr w x
theorem keyIs_shape : ∀ {k : Key} {v : Value}, keyIs k v = true → (∃ i t, k = Sum.inl i ∧ v = Value.int i t) ∨ (∃ x t, k = Sum.inr x ∧ v = Value.str x t)
  | .inl i, v, h => by
    obtain ⟨t, e⟩ := Value.isInt_shape (k := i) (v := v) h
    exact .inl ⟨i, t, rfl, e⟩
  | .inr x, v, h => by
    obtain ⟨t, e⟩ := Value.isStrOf_shape (x := x) (v := v) h
    exact .inr ⟨x, t, rfl, e⟩
theorem keyIs_int (i : Int) (t : Tok) : keyIs (.inl i) (.int i t) = true := by simp [keyIs, Value.isInt]
theorem keyIs_str (x : Str) (t : Tok) : keyIs (.inr x) (.str x t) = true := by simp [keyIs, Value.isStrOf]
theorem key_ll (a b : Int) : decide ((Sum.inl a : Key) = Sum.inl b) = (a == b) := by
  by_cases e : a = b
  · subst e; simp
  · have h : ¬ (Sum.inl a : Key) = Sum.inl b := fun q => e (Sum.inl.inj q)
    rw [decide_eq_false h]
    exact (beq_eq_false_iff_ne.mpr e).symm
theorem key_rr (a b : Str) : decide ((Sum.inr a : Key) = Sum.inr b) = decide (a = b) := by
  by_cases e : a = b
  · subst e; simp
  · have h : ¬ (Sum.inr a : Key) = Sum.inr b := fun q => e (Sum.inr.inj q)
    rw [decide_eq_false h, decide_eq_false e]
theorem key_lr (a : Int) (b : Str) : decide ((Sum.inl a : Key) = Sum.inr b) = false := decide_eq_false (fun q => nomatch q)
theorem key_rl (a : Str) (b : Int) : decide ((Sum.inr a : Key) = Sum.inl b) = false := decide_eq_false (fun q => nomatch q)

def mixKind (prog : Program) (w : World) : PySem.KeyKind prog w Key where
  is := keyIs
  hash := keyH w
  inj := fun v a b ha hb => by
    rcases keyIs_shape ha with ⟨i, t, rfl, rfl⟩ | ⟨x, t, rfl, rfl⟩
    · rcases keyIs_shape hb with ⟨j, u, rfl, e⟩ | ⟨y, u, rfl, e⟩
      · injection e with e1 _; rw [e1]
      · exact nomatch e
    · rcases keyIs_shape hb with ⟨j, u, rfl, e⟩ | ⟨y, u, rfl, e⟩
      · exact nomatch e
      · injection e with e1 _; rw [e1]
  byValue := fun k v h => by
    rcases keyIs_shape h with ⟨i, t, rfl, rfl⟩ | ⟨x, t, rfl, rfl⟩ <;> rfl
  pyHash := fun hv h => by
    rcases keyIs_shape hv with ⟨i, t, rfl, rfl⟩ | ⟨x, t, rfl, rfl⟩
    · exact wpAny_pyHash_int h
    · exact wpAny_pyHash_str h
  eqBool := fun hu hv h => by
    rcases keyIs_shape hu with ⟨i, t, rfl, rfl⟩ | ⟨x, t, rfl, rfl⟩
    · rcases keyIs_shape hv with ⟨j, u, rfl, rfl⟩ | ⟨y, u, rfl, rfl⟩
      · rw [key_ll] at h; exact wpAny_eqBool_int h
      · rw [key_lr] at h; exact SeqAt.EqAt.int_str i t y u _ _ _ _ h
    · rcases keyIs_shape hv with ⟨j, u, rfl, rfl⟩ | ⟨y, u, rfl, rfl⟩
      · rw [key_rl] at h; exact SeqAt.EqAt.str_int x t j u _ _ _ _ h
      · rw [key_rr] at h; exact wpAny_eqBool_str h
  «strs» := fun k x t v h => by
    rcases keyIs_shape h with ⟨i, u, rfl, e⟩ | ⟨y, u, rfl, e⟩
    · exact nomatch e
    · injection e with e1 _
      subst e1
      cases v <;> rfl

theorem mixKind_int (prog : Program) (w : World) (i : Int) (t : Tok) : (mixKind prog w).is (.inl i) (.int i t) = true := keyIs_int i t
theorem mixKind_str (prog : Program) (w : World) (x : Str) (t : Tok) : (mixKind prog w).is (.inr x) (.str x t) = true := keyIs_str x t
end L2

namespace L2
open PySem PySem.Spec PyProof.Rows

inductive V where
  | non | bl (b : Bool) | int (i : Int) | str (x : Str) | byt (b : Array UInt8) | flt (b : UInt64) | ref (a : Addr) | ty (n : String)
  deriving DecidableEq

def RelV : V → Value → Prop
  | .non, u => u = Value.none
  | .bl b, u => u = Value.bool b
  | .int i, u => ∃ t, u = Value.int i t
  | .str x, u => ∃ t, u = Value.str x t
  | .byt b, u => ∃ t, u = Value.bytes b t
  | .flt b, u => ∃ t, u = Value.float b t
  | .ref a, u => u = Value.ref a
  | .ty n, u => u = Value.type n

abbrev Vals : List V → List Value → Prop := Paired RelV
theorem Vals.length {xs : List V} {us : List Value} (r : Vals xs us) : xs.length = us.length := Paired.length r
theorem Vals.get : ∀ {xs : List V} {us : List Value} {i : Nat} {x : V}, Vals xs us → xs[i]? = some x → ∃ u, us[i]? = some u ∧ RelV x u
  | _, _, _, _, .nil, e => by simp at e
  | _, _, 0, _, .cons r _, e => by simp at e; subst e; exact ⟨_, rfl, r⟩
  | _, _, i + 1, x, .cons _ t, e => by
    obtain ⟨u, h1, h2⟩ := Vals.get (i := i) (x := x) t (by simpa using e)
    exact ⟨u, by simpa using h1, h2⟩
theorem Vals.set {x : V} {u : Value} (r : RelV x u) : ∀ {xs : List V} {us : List Value} (i : Nat), Vals xs us → Vals (xs.set i x) (us.set i u)
  | _, _, _, .nil => .nil
  | _, _, 0, .cons _ t => .cons r t
  | _, _, i + 1, .cons q t => .cons q (Vals.set r i t)
theorem Vals.append : ∀ {xs ys : List V} {us ws : List Value}, Vals xs us → Vals ys ws → Vals (xs ++ ys) (us ++ ws)
  | _, _, _, _, .nil, s => s
  | _, _, _, _, .cons r t, s => .cons r (Vals.append t s)
theorem Vals.take : ∀ {xs : List V} {us : List Value} (n : Nat), Vals xs us → Vals (xs.take n) (us.take n)
  | _, _, 0, _ => .nil
  | _, _, _ + 1, .nil => .nil
  | _, _, n + 1, .cons r t => .cons r (Vals.take n t)
theorem Vals.drop : ∀ {xs : List V} {us : List Value} (n : Nat), Vals xs us → Vals (xs.drop n) (us.drop n)
  | _, _, 0, r => r
  | _, _, _ + 1, .nil => .nil
  | _, _, n + 1, .cons _ t => Vals.drop n t
def RelO : Option V → Option Value → Prop
  | some v, some u => RelV v u
  | none, none => True
  | _, _ => False
def KV {κ : Type} : List (κ × V) → List (κ × Value) → Prop := Paired fun (p : κ × V) (q : κ × Value) => p.1 = q.1 ∧ RelV p.2 q.2

def kV : Key → V
  | .inl i => .int i
  | .inr x => .str x

inductive HO where
  /-- a list -/
  | lst (xs : List V)
  /-- a tuple (never changes) -/
  | tup (xs : List V)
  /-- a dict whose keys are ints and texts; one whose keys are tuples of ints and texts (the empty one is both) -/
  | dK (kvs : List (Key × V)) | dT (kvs : List (List Key × V))
  /-- a set of ints: its members, its size -/
  | set (S : Int → Bool) (n : Nat)
  /-- an instance of the class at C, its dict at dx, its attributes -/
  | ins (C dx : Addr) (fs : List (Str × V))
  /-- the dict of the instance at x -/
  | own (x : Addr)
  /-- the dict of an exception -/
  | xd (fs : List (Str × V))
  /-- a bound method, f of x -/
  | met (f x : Addr)
  /-- a range object lo, lo + 1, .. below hi -/
  | rng (lo hi : Int)
  /-- a thing that is known to the object (the script; a dict while a loop walks it): read, never written while it is so -/
  | frz (o : Obj) (u : HO)
  /-- a code object's table -/
  | tbl (ps : Array Value)
  /-- any other thing, by what is true of its one object (a def of one's own: SetO a S n := HO.ext fun h => ..) -/
  | ext (φ : Heap → Prop)

abbrev Hp := Addr → Option HO
def upd (H : Hp) (a : Addr) (o : HO) : Hp := fun b => if b = a then some o else H b
theorem upd_same {H : Hp} {a : Addr} {o : HO} : upd H a o a = some o := by unfold upd; rw [if_pos rfl]
theorem upd_ne {H : Hp} {a b : Addr} {o : HO} (h : b ≠ a) : upd H a o b = H b := by unfold upd; rw [if_neg h]
theorem upd_upd {H : Hp} {a : Addr} {o u : HO} : upd (upd H a o) a u = upd H a u := by
  funext b; unfold upd; split <;> rfl
theorem ne_of {H : Hp} {a b : Addr} {o u : HO} (h : H a = some o) (h' : H b = some u) (d : o ≠ u) : a ≠ b := by
  intro e; subst e; rw [h] at h'; exact d (Option.some.inj h')
theorem ne_of_none {H : Hp} {a b : Addr} {o : HO} (h : H a = some o) (h' : H b = none) : a ≠ b := by
  intro e; subst e; rw [h] at h'; cases h'

def IsTupD (h : Heap) (a : Addr) (its : Array Value) : Prop := ∃ o, h.get? a = some o ∧ o.cls = .type "tuple" ∧ ∃ n, o.data = .seq its n ∧ o.dict = none
theorem IsTupD.tup {h : Heap} {a : Addr} {its : Array Value} (x : IsTupD h a its) : IsTup h a its := by
  obtain ⟨o, e, c, n, d, _⟩ := x
  exact ⟨o, e, c, n, d⟩
theorem IsTupD.new (h : Heap) (its : Array Value) : IsTupD (h.push { cls := .type "tuple", data := .seq its }) h.objs.size its := ⟨_, Heap.get?_push_size _ rfl, rfl, _, rfl, rfl⟩
section
variable (P : Program) (w : World)
def ObjOk (H : Hp) (h : Heap) (a : Addr) : HO → Prop
  | .lst xs => xs.length ≤ sizeLine ∧ ∃ (its : List Value) (n : Nat), Vals xs its ∧ h.get? a = some { cls := .type "list", data := .seq its.toArray n }
  | .tup xs => xs.length ≤ sizeLine ∧ ∃ its : List Value, Vals xs its ∧ IsTupD h a its.toArray
  | .dK kvs => kvs.length ≤ sizeLine ∧ (a == sysModules) = false ∧ ∃ vs, KV kvs vs ∧ h.DictOf (mixKind P w) a vs
  | .dT kvs => kvs.length ≤ sizeLine ∧ (a == sysModules) = false ∧ ∃ xs : List (List Key × Addr × Value),
      Paired (fun (p : List Key × V) (q : List Key × Addr × Value) => p.1 = q.1 ∧ H q.2.1 = some (.tup (p.1.map kV)) ∧ RelV p.2 q.2.2) kvs xs ∧
      ∃ o es ep, h.get? a = some o ∧ o.ExactDict ∧ o.data = .dict es ep ∧ es.toList = xs.map (entryOfKey (tupleKind (mixKind P w))) ∧ (xs.map (·.1)).Nodup
  | .set S n => h.SetOf (intKind P w) a S n
  | .ins C dx fs => H dx = some (.own a) ∧ fs.length ≤ 1000 ∧ dx ≠ a ∧ h.get? a = some (PySem.W.instObj C dx) ∧
      ∃ mA, h.Ns1 dx mA ∧ (∀ f, RelO (fs.lookup f) (mA f)) ∧ PySem.Within mA (fs.map (·.1))
  | .own _ => ∃ o, h.get? a = some o
  | .xd fs => ∃ mA, h.Ns1 a mA ∧ ∀ f, RelO (fs.lookup f) (mA f)
  | .rng lo hi => ∃ t u v, h.get? a = some { cls := .type "range", data := .fields #[.int lo t, .int hi u, .int 1 v] }
  | .frz o u => h.get? a = some o ∧ ObjOk H h a u
  | .tbl ps => h.get? a = some { cls := .none, data := .fields ps }
  | .met f x => h.get? a = some (PySem.W.methodObj (.ref f) (.ref x))
  | .ext φ => φ h ∧ (∃ o, h.get? a = some o) ∧ ∀ h1 h2 : Heap, φ h1 → (∀ o, h1.get? a = some o → h2.get? a = some o) → φ h2
def HOk (H : Hp) (h : Heap) : Prop := ∀ a o, H a = some o → ObjOk P w H h a o
end

section
variable {P : Program} {w : World} {H H' : Hp} {h h' : Heap} {a : Addr} {o : HO}
theorem ObjOk.lt (x : ObjOk P w H h a o) : a < h.objs.size := by
  cases o with
  | lst xs => obtain ⟨_, _, _, _, e⟩ := x; exact Heap.lt_size e
  | tup xs => obtain ⟨_, _, _, _, e, _⟩ := x; exact Heap.lt_size e
  | dK kvs => obtain ⟨_, _, _, _, o, _, _, e, _⟩ := x; exact Heap.lt_size e
  | dT kvs => obtain ⟨_, _, _, _, o, _, _, e, _⟩ := x; exact Heap.lt_size e
  | set S n => obtain ⟨o, _, _, _, e, _⟩ := x; exact Heap.lt_size e
  | ins C dx fs => obtain ⟨_, _, _, e, _⟩ := x; exact Heap.lt_size e
  | own y => obtain ⟨_, e⟩ := x; exact Heap.lt_size e
  | xd fs => obtain ⟨_, ⟨_, _, _, e, _⟩, _⟩ := x; exact Heap.lt_size e
  | rng lo hi => obtain ⟨_, _, _, e⟩ := x; exact Heap.lt_size e
  | frz ob u => obtain ⟨e, _⟩ := x; exact Heap.lt_size e
  | tbl ps => exact Heap.lt_size (show h.get? a = some _ from x)
  | met f y => exact Heap.lt_size (show h.get? a = some _ from x)
  | ext φ => obtain ⟨_, ⟨_, e⟩, _⟩ := x; exact Heap.lt_size e
theorem Paired.mapP {α β : Type} {F G : α → β → Prop} : ∀ {l₁ : List α} {l₂ : List β}, Paired F l₁ l₂ → (∀ a b, F a b → G a b) → Paired G l₁ l₂
  | _, _, .nil, _ => .nil
  | _, _, .cons r t, f => .cons (f _ _ r) (Paired.mapP t f)
theorem ObjOk.stay (x : ObjOk P w H h a o) (k : ∀ b u, (b = a ∨ H b = some (.own a)) → h.get? b = some u → h'.get? b = some u)
    (ho : ∀ b, H b = some (.own a) → H' b = some (.own a)) (ht : ∀ b xs, H b = some (.tup xs) → H' b = some (.tup xs)) : ObjOk P w H' h' a o := by
  induction o with
  | lst xs => obtain ⟨z, its, n, r, e⟩ := x; exact ⟨z, its, n, r, k _ _ (.inl rfl) e⟩
  | tup xs => obtain ⟨z, its, r, ob, e, c⟩ := x; exact ⟨z, its, r, ob, k _ _ (.inl rfl) e, c⟩
  | dK kvs => obtain ⟨z, y, vs, r, ob, es, ep, e, c⟩ := x; exact ⟨z, y, vs, r, ob, es, ep, k _ _ (.inl rfl) e, c⟩
  | dT kvs =>
    obtain ⟨z, y, xs, r, ob, es, ep, e, c⟩ := x
    exact ⟨z, y, xs, Paired.mapP r fun p q z => ⟨z.1, ht _ _ z.2.1, z.2.2⟩, ob, es, ep, k _ _ (.inl rfl) e, c⟩
  | set S n => obtain ⟨ob, es, ep, t, e, c⟩ := x; exact ⟨ob, es, ep, t, k _ _ (.inl rfl) e, c⟩
  | ins C dx fs =>
    obtain ⟨d, z, ne, e, mA, ⟨od, es, ep, e2, c⟩, r⟩ := x
    exact ⟨ho _ d, z, ne, k _ _ (.inl rfl) e, mA, ⟨od, es, ep, k _ _ (.inr d) e2, c⟩, r⟩
  | own y => obtain ⟨ob, e⟩ := x; exact ⟨ob, k _ _ (.inl rfl) e⟩
  | xd fs => obtain ⟨mA, ⟨od, es, ep, e, c⟩, r⟩ := x; exact ⟨mA, ⟨od, es, ep, k _ _ (.inl rfl) e, c⟩, r⟩
  | rng lo hi => obtain ⟨t, u, v, e⟩ := x; exact ⟨t, u, v, k _ _ (.inl rfl) e⟩
  | frz ob u ih => obtain ⟨e, q⟩ := x; exact ⟨k _ _ (.inl rfl) e, ih q⟩
  | tbl ps =>
    have e : h.get? a = some { cls := .none, data := .fields ps } := x
    show h'.get? a = some { cls := .none, data := .fields ps }
    exact k a _ (.inl rfl) e
  | met f y =>
    have e : h.get? a = some (PySem.W.methodObj (.ref f) (.ref y)) := x
    show h'.get? a = some (PySem.W.methodObj (.ref f) (.ref y))
    exact k a _ (.inl rfl) e
  | ext φ => obtain ⟨p, ⟨o, e⟩, st⟩ := x; exact ⟨st _ _ p fun o q => k _ _ (.inl rfl) q, ⟨o, k _ _ (.inl rfl) e⟩, st⟩
theorem HOk.lt (x : HOk P w H h) (e : H a = some o) : a < h.objs.size := (x a o e).lt
theorem HOk.fresh (x : HOk P w H h) (e : h.objs.size ≤ a) : H a = none := by
  cases q : H a with
  | none => rfl
  | some u => exact absurd (Nat.lt_of_lt_of_le (x.lt q) e) (Nat.lt_irrefl _)
theorem HOk.kept (x : HOk P w H h) (k : ∀ b u, h.get? b = some u → h'.get? b = some u) : HOk P w H h' := fun a o e =>
  (x a o e).stay (fun b u _ q => k b u q) (fun _ q => q) fun _ _ q => q
theorem HOk.laid (x : HOk P w H h) (k : ∀ b u, h.get? b = some u → h'.get? b = some u) (hp : h.objs.size ≤ a) (new : ObjOk P w (upd H a o) h' a o) : HOk P w (upd H a o) h' := fun b u e => by
  have hn := x.fresh hp
  by_cases hb : b = a
  · subst hb; rw [upd_same] at e; cases e; exact new
  · rw [upd_ne hb] at e
    exact (x b u e).stay (fun c v _ q => k c v q) (fun c q => by rw [upd_ne (ne_of_none q hn)]; exact q) fun c xs q => by rw [upd_ne (ne_of_none q hn)]; exact q
end

def Rd (H : Hp) (a : Addr) (u : HO) : Prop := H a = some u ∨ ∃ o, H a = some (.frz o u)
theorem Rd.ok {P : Program} {w : World} {H : Hp} {h : Heap} {a : Addr} {u : HO} (r : Rd H a u) (x : HOk P w H h) : ObjOk P w H h a u := by
  rcases r with r | ⟨o, r⟩
  · exact x a u r
  · obtain ⟨_, q⟩ := x a _ r
    exact q
def Mut : Option HO → Prop
  | some (.lst _) => True
  | some (.dK _) => True
  | some (.dT _) => True
  | some (.set _ _) => True
  | some (.ins _ _ _) => True
  | some (.ext _) => True
  | _ => False
section
variable {P : Program} {w : World} {H : Hp} {h h' : Heap} {x e : Addr} {o' : HO}
theorem HOk.write (ok : HOk P w H h) (mu : Mut (H x)) (he : e = x ∨ H e = some (.own x)) (k : ∀ b u, b ≠ e → h.get? b = some u → h'.get? b = some u) (heo : ∃ u, h'.get? e = some u)
    (new : ObjOk P w (upd H x o') h' x o') : HOk P w (upd H x o') h' := fun b u q => by
  have nown : ∀ c y, H c = some (.own y) → c ≠ x := fun c y r z => by subst z; rw [r] at mu; exact mu
  have ntup : ∀ c xs, H c = some (.tup xs) → c ≠ x := fun c xs r z => by subst z; rw [r] at mu; exact mu
  by_cases hb : b = x
  · subst hb; rw [upd_same] at q; cases q; exact new
  · rw [upd_ne hb] at q
    by_cases hbe : b = e
    · have q' : H b = some (.own x) := by
        rcases he with z | z
        · exact absurd (hbe.trans z) hb
        · rw [hbe]; exact z
      rw [q] at q'; cases q'
      obtain ⟨v, hv⟩ := heo
      exact ⟨v, by rw [hbe]; exact hv⟩
    · refine (ok b u q).stay (fun c v hc r => k c v ?_ r) (fun c r => by rw [upd_ne (nown c b r)]; exact r) fun c xs r => by rw [upd_ne (ntup c xs r)]; exact r
      rcases hc with rfl | hc
      · exact hbe
      · rintro rfl
        rcases he with z | z
        · exact nown c b hc z
        · rw [hc] at z; cases z; exact hb rfl
end

structure Un (fs ex : List Addr) (H H' : Hp) (h h' : Heap) : Prop where
  keep : ∀ b o, h.get? b = some o → H b = none → b ∉ fs → b ∉ ex → h'.get? b = some o
  slot : ∀ b o, h.get? b = some o → H b = none → b ∈ fs → b ∉ ex → ∃ sl, h'.get? b = some { o with slots := sl }
  free : ∀ b o, h.get? b = some o → H b = none → b ∉ ex → H' b = none
  there : ∀ b o, h.get? b = some o → b ∉ ex → ∃ o', h'.get? b = some o'
  tups : ∀ b xs, H b = some (.tup xs) → H' b = some (.tup xs)
  frzs : ∀ b o u, H b = some (.frz o u) → H' b = some (.frz o u)
  tbls : ∀ b ps, H b = some (.tbl ps) → ∃ more, H' b = some (.tbl (ps ++ more))
section
variable {fs fs' ex ex' : List Addr} {H H1 H2 : Hp} {h h1 h2 h' : Heap} {a x e : Addr} {o : HO}
theorem Un.any (u : Un fs ex H H1 h h1) {b : Addr} {ob : Obj} (q : h.get? b = some ob) (n : H b = none) (hx : b ∉ ex) : ∃ sl, h1.get? b = some { ob with slots := sl } := by
  by_cases hb : b ∈ fs
  · exact u.slot b ob q n hb hx
  · exact ⟨ob.slots, u.keep b ob q n hb hx⟩
theorem Un.kept (k : ∀ b u, h.get? b = some u → h'.get? b = some u) : Un fs ex H H h h' :=
  ⟨fun b ob q _ _ _ => k b ob q, fun b ob q _ _ _ => ⟨ob.slots, k b ob q⟩, fun _ _ _ n _ => n, fun b ob q _ => ⟨ob, k b ob q⟩, fun _ _ q => q, fun _ _ _ q => q, fun _ ps q => ⟨#[], by rw [q]; simp⟩⟩
theorem Un.refl : Un fs ex H H h h := Un.kept fun _ _ q => q
theorem Un.laid (k : ∀ b u, h.get? b = some u → h'.get? b = some u) (hp : h.objs.size ≤ a) (hn : H a = none) : Un fs ex H (upd H a o) h h' where
  keep := fun b u q _ _ _ => k b u q
  slot := fun b u q _ _ _ => ⟨u.slots, k b u q⟩
  free := fun b u q n _ => by rw [upd_ne (Nat.ne_of_lt (Nat.lt_of_lt_of_le (Heap.lt_size q) hp))]; exact n
  there := fun b u q _ => ⟨u, k b u q⟩
  tups := fun b xs q => by rw [upd_ne (ne_of_none q hn)]; exact q
  frzs := fun b u xs q => by rw [upd_ne (ne_of_none q hn)]; exact q
  tbls := fun b ps q => ⟨#[], by rw [upd_ne (ne_of_none q hn), q]; simp⟩
theorem Un.write (mu : Mut (H x)) (he : e = x ∨ H e = some (.own x)) (k : ∀ b u, b ≠ e → h.get? b = some u → h'.get? b = some u) (heo : ∃ u, h'.get? e = some u) : Un fs ex H (upd H x o) h h' := by
  have hx : ∀ b, H b = none → b ≠ x := fun b n z => by subst z; rw [n] at mu; exact mu
  have hb : ∀ b, H b = none → b ≠ e := fun b n z => by
    subst z
    rcases he with r | r
    · exact hx b n r
    · rw [n] at r; cases r
  have hm : ∀ b u, H b = some u → ¬ Mut (some u) → b ≠ x := fun b u q nm z => by subst z; rw [q] at mu; exact nm mu
  refine ⟨fun b u q n _ _ => k b u (hb b n) q, fun b u q n _ _ => ⟨u.slots, k b u (hb b n) q⟩, fun b u q n _ => by rw [upd_ne (hx b n)]; exact n, fun b u q _ => ?_,
    fun b xs q => by rw [upd_ne (hm b _ q fun z => z)]; exact q, fun b u xs q => by rw [upd_ne (hm b _ q fun z => z)]; exact q, fun b ps q => ⟨#[], by rw [upd_ne (hm b _ q fun z => z), q]; simp⟩⟩
  by_cases hbe : b = e
  · subst hbe; exact heo
  · exact ⟨u, k b u hbe q⟩
end

def trk (h : Heap) (H : Hp) : List Addr := (List.range h.objs.size).filter fun a => (H a).isSome
def hidT (h : Heap) (H : Hp) : Heap := PySem.W.hideAll h (trk h H)
theorem hidT_size (h : Heap) (H : Hp) : (hidT h H).objs.size = h.objs.size := PySem.W.hideAll_size _ _
theorem hidT_get {h : Heap} {H : Hp} {b : Addr} {o : Obj} (e : h.get? b = some o) (n : H b = none) : (hidT h H).get? b = some o :=
  PySem.W.hideAll_get _ e fun hm => by
    have q : (H b).isSome = true := (List.mem_filter.mp hm).2
    rw [n] at q; simp at q
theorem of_hidT {h : Heap} {H : Hp} {b : Addr} {o : Obj} (e : (hidT h H).get? b = some o) : h.get? b = some o ∧ H b = none := by
  have e' : h.get? b = some o := PySem.W.of_hideAll (trk h H) e
  refine ⟨e', ?_⟩
  cases q : H b with
  | none => rfl
  | some x =>
    have hm : b ∈ trk h H := List.mem_filter.mpr ⟨List.mem_range.mpr (Heap.lt_size e'), by simp [q]⟩
    have z : (hidT h H).get? b = none := PySem.W.hideAll_none (trk h H) hm
    rw [z] at e; cases e

def allNews (g h : Heap) (L : Addr) : List (Addr × Obj) := (List.range h.objs.size).filterMap fun a => if a = L ∨ (g.get? a).isSome = true then none else (h.get? a).map fun o => (a, o)
def rest (g h : Heap) (L d : Addr) : List (Addr × Obj) := (allNews g h L).filter fun p => decide (p.1 ≠ d)
end L2

namespace L2
open PySem PySem.Spec PyProof.Rows

structure Mod (K : PySem.W.Frag) (mg : Str → Option Value) (base : Heap) : Prop where
  kin : K.In base
  glob : base.Ns mainGlobals mg
  blt : ∃ mb, base.Ns builtinsNs mb ∧ ∀ x : Str, x ≠ "__name__" → mb x = bootBuiltins x
  nolimit : base.NoLimit

structure Cx where
  prog : Program
  w : World
  K : PySem.W.Frag
  mg : Str → Option Value
  base : Heap
  A : Around
  N : List Str
  s₀ : Shared
  H₀ : Hp
  env : Env
  outer : List Env
  stack : List Env
  ex : List Addr
  fn : Str → Bool
  calm : Bool
  pn : List (Addr × Obj)
  xe : Value → Shared → Prop
def frs (l : List Env) : List Addr := l.filterMap (·.frame)
abbrev Cx.fs (X : Cx) : List Addr := frs X.outer

def Vis (sc : Scope) (x : Str) : Prop := sc.names.lookup x = some .local ∨ sc.names.lookup x = some .cell ∨ sc.names.lookup x = some .free
def Loc (sc : Scope) (x : Str) : Prop := sc.names.lookup x = some .local ∨ sc.names.lookup x = some .cell
def Look (env : Env) (h : Heap) (m : Str → Option Value) (x : Str) (u : Value) : Prop :=
  (env.kindOf x = some .local ∧ m x = some u) ∨ ((env.kindOf x = some .cell ∨ env.kindOf x = some .free) ∧ ∃ c, env.cells.lookup x = some c ∧ h.IsCell c (some u))

structure Cx.Ok (X : Cx) : Prop where
  mod : Mod X.K X.mg X.base
  kind : X.env.scope.kind = .function
  glob : X.env.globals = mainGlobals
  blt : X.env.builtins = builtinsNs
  above : X.s₀.heap.objs.size ≤ X.env.locals
  inj : ∀ x y c, X.env.cells.lookup x = some c → X.env.cells.lookup y = some c → x = y
  has : ∀ x, (X.env.kindOf x = some .cell ∨ X.env.kindOf x = some .free) → ∃ c, X.env.cells.lookup x = some c
  cab : ∀ x c, X.fn x = true → X.env.cells.lookup x = some c → X.s₀.heap.objs.size ≤ c
  hd : X.calm = true → X.A.handled = none
  frames : X.A.frames = some X.stack
  stk : X.stack = X.outer ∨ (X.stack = X.env :: X.outer ∧ X.env.frame = some X.env.locals)
  exf : ∀ b ∈ X.ex, b ≠ X.env.locals ∧ ∀ x c, X.env.cells.lookup x = some c → c ≠ b
  bs : ∀ b o, X.base.get? b = some o → X.s₀.heap.get? b = some o ∧ X.H₀ b = none
  bsz : X.base.objs.size ≤ X.s₀.heap.objs.size
  noex : ∀ b o, X.base.get? b = some o → b ∉ X.ex
  exfs : ∀ b ∈ X.ex, b ∉ X.fs
  funs : X.s₀.heap.FunFrames X.base X.outer
  frf : ∀ b ∈ X.fs, X.H₀ b = none

structure Inv (X : Cx) (pins : List (Addr × Obj)) (σ : List (Option V)) (H : Hp) (s : Shared) : Prop where
  ok : X.Ok
  os : s.os = X.s₀.os
  bare : AllBare s.gens
  base : Un X.fs X.ex X.H₀ H X.s₀.heap s.heap
  loc : ∃ m, s.heap.Ns X.env.locals m ∧ ∀ (i : Nat) (x : Str) (v : V), X.N[i]? = some x → σ[i]? = some (some v) → Vis X.env.scope x → ∃ u, RelV v u ∧ Look X.env s.heap m x u
  cell : ∀ x c, X.env.cells.lookup x = some c → ∃ v, s.heap.IsCell c v
  free : H X.env.locals = none
  freeC : ∀ x c, X.env.cells.lookup x = some c → H c = none
  pin : ∀ p ∈ X.pn ++ pins, s.heap.get? p.1 = some p.2 ∧ H p.1 = none ∧ p.1 ≠ X.env.locals ∧ p.1 ∉ X.fs ∧ ∀ v, p.2.data ≠ .cell v
  hok : HOk X.prog X.w H s.heap
  len : σ.length = X.N.length

section
variable {X : Cx} {pins : List (Addr × Obj)} {σ : List (Option V)} {H H' : Hp} {s : Shared} {h' : Heap}

theorem Cx.Ok.nofr (ok : X.Ok) {b : Addr} {o : Obj} (e : X.base.get? b = some o) : b ∉ X.fs := fun hb => by
  have := (ok.funs.mem hb).1
  rw [e] at this; cases this
theorem Inv.bs (I : Inv X pins σ H s) : ∀ b o, X.base.get? b = some o → s.heap.get? b = some o ∧ H b = none := fun b o e =>
  ⟨I.base.keep b o (I.ok.bs b o e).1 (I.ok.bs b o e).2 (I.ok.nofr e) (I.ok.noex b o e), I.base.free b o (I.ok.bs b o e).1 (I.ok.bs b o e).2 (I.ok.noex b o e)⟩
theorem Inv.bk (I : Inv X pins σ H s) : ∀ b o, X.base.get? b = some o → s.heap.get? b = some o := fun b o e => (I.bs b o e).1
theorem Inv.mod (I : Inv X pins σ H s) : Mod X.K X.mg X.base := I.ok.mod
theorem Inv.kIn (I : Inv X pins σ H s) : X.K.In s.heap := I.ok.mod.kin.keeps I.bk
theorem Inv.fr (I : Inv X pins σ H s) : ∃ m, Fr X.base X.env.locals s.heap m :=
  let ⟨m, hn, _⟩ := I.loc
  ⟨m, hn, I.bk, Nat.le_trans I.ok.bsz I.ok.above⟩
theorem Inv.lt (I : Inv X pins σ H s) : X.env.locals < s.heap.objs.size := let ⟨_, hn, _⟩ := I.loc; hn.lt
theorem Inv.sz (I : Inv X pins σ H s) : X.s₀.heap.objs.size ≤ s.heap.objs.size := Nat.le_trans I.ok.above (Nat.le_of_lt I.lt)
theorem Inv.nofs (I : Inv X pins σ H s) {a : Addr} (h : s.heap.objs.size ≤ a) : a ∉ X.fs := fun hb => by
  obtain ⟨_, o, ho, _⟩ := I.ok.funs.mem hb
  exact absurd (Nat.lt_of_lt_of_le (Heap.lt_size ho) (Nat.le_trans I.sz h)) (Nat.lt_irrefl _)
theorem Inv.cne (I : Inv X pins σ H s) : ∀ x c, X.env.cells.lookup x = some c → c ≠ X.env.locals := fun x c e z => by
  obtain ⟨v, o, ho, hd⟩ := I.cell x c e
  obtain ⟨m, ⟨o', es, ep, ho', hd', _⟩, _⟩ := I.loc
  rw [z, ho'] at ho; cases ho; rw [hd'] at hd; cases hd
theorem Inv.funs (I : Inv X pins σ H s) : s.heap.FunFrames X.base X.outer := by
  have all : ∀ (l : List Env), (∀ b ∈ frs l, b ∈ X.fs) → X.s₀.heap.FunFrames X.base l → s.heap.FunFrames X.base l := by
    intro l
    induction l with
    | nil => intro _ _; trivial
    | cons env r ih =>
      intro hs hl
      obtain ⟨hk, ⟨L, o, hf, hn, ho, hd⟩, hr⟩ := hl
      have hL : L ∈ X.fs := hs L (by unfold frs; rw [List.filterMap_cons, hf]; exact List.mem_cons_self)
      obtain ⟨sl, e⟩ := I.base.slot L o ho (I.ok.frf L hL) hL fun z => I.ok.exfs L z hL
      exact ⟨hk, ⟨L, _, hf, hn, e, hd⟩, ih (fun b hb => hs b (by unfold frs; rw [List.filterMap_cons, hf]; exact List.mem_cons_of_mem _ hb)) hr⟩
  exact all X.outer (fun _ hb => hb) I.ok.funs

theorem Inv.stack (I : Inv X pins σ H s) : s.heap.FunFrames X.base X.stack := by
  rcases I.ok.stk with e | ⟨e, hf⟩
  · rw [e]; exact I.funs
  · rw [e]
    obtain ⟨m, hn, _⟩ := I.loc
    refine .cons (by rw [I.ok.kind]; decide) hf hn ?_ I.funs
    exact Heap.get?_none_of_le (Nat.le_trans I.ok.bsz I.ok.above)
theorem Inv.stkSub (I : Inv X pins σ H s) : ∀ b ∈ frs X.stack, b ∈ X.env.locals :: X.fs := fun b hb => by
  rcases I.ok.stk with e | ⟨e, hf⟩
  · rw [e] at hb; exact List.mem_cons_of_mem _ hb
  · rw [e] at hb
    unfold frs at hb
    rw [List.filterMap_cons, hf] at hb
    exact hb
theorem Inv.stkFree (I : Inv X pins σ H s) : ∀ b ∈ frs X.stack, H b = none := fun b hb => by
  rcases List.mem_cons.mp (I.stkSub b hb) with e | hb
  · rw [e]; exact I.free
  · obtain ⟨_, o, ho, _⟩ := I.ok.funs.mem hb
    exact I.base.free b o ho (I.ok.frf b hb) fun z => I.ok.exfs b z hb

theorem Inv.step {g' : Array GenState} {t' : Nat} {d' : Drawn} {ch : List Addr} (I : Inv X pins σ H s)
    (hch : ∀ b ∈ ch, (b ∈ X.ex ∨ X.s₀.heap.objs.size ≤ b) ∧ b ≠ X.env.locals ∧ (∀ x c, X.env.cells.lookup x = some c → c ≠ b) ∧ ∀ p ∈ X.pn ++ pins, p.1 ≠ b)
    (keep : ∀ b o, b ≠ X.env.locals → b ∉ X.fs → b ∉ ch → s.heap.get? b = some o → H b = none → h'.get? b = some o)
    (slot : ∀ b o, b ≠ X.env.locals → b ∈ X.fs → b ∉ ch → s.heap.get? b = some o → H b = none → ∃ sl, h'.get? b = some { o with slots := sl }) (free : ∀ b o, b ∉ ch → s.heap.get? b = some o → H b = none → H' b = none)
    (there : ∀ b o, b ∉ ch → s.heap.get? b = some o → ∃ o', h'.get? b = some o')
    (tups : ∀ b xs, H b = some (.tup xs) → H' b = some (.tup xs)) (frzs : ∀ b o u, H b = some (.frz o u) → H' b = some (.frz o u)) (tbls : ∀ b ps, H b = some (.tbl ps) → ∃ more, H' b = some (.tbl (ps ++ more)))
    (ns : ∀ m, s.heap.Ns X.env.locals m → h'.Ns X.env.locals m) (hok : HOk X.prog X.w H' h') (hg : AllBare g') :
    Inv X pins σ H' { s with heap := h', gens := g', drawn := d', toks := t' } := by
  have neL : ∀ b o, X.s₀.heap.get? b = some o → b ≠ X.env.locals := fun b o e => Nat.ne_of_lt (Nat.lt_of_lt_of_le (Heap.lt_size e) I.ok.above)
  have neC : ∀ b o, X.s₀.heap.get? b = some o → b ∉ X.ex → b ∉ ch := fun b o e hx hb => by
    rcases (hch b hb).1 with z | z
    · exact hx z
    · exact absurd (Nat.lt_of_lt_of_le (Heap.lt_size e) z) (Nat.lt_irrefl _)
  have cellK : ∀ x c, X.env.cells.lookup x = some c → ∀ v, s.heap.IsCell c v → h'.IsCell c v := fun x c e v ⟨o, ho, hd⟩ => by
    have nch : c ∉ ch := fun z => (hch c z).2.2.1 x c e rfl
    by_cases hc : c ∈ X.fs
    · obtain ⟨sl, q⟩ := slot c o (I.cne x c e) hc nch ho (I.freeC x c e)
      exact ⟨_, q, hd⟩
    · exact ⟨o, keep c o (I.cne x c e) hc nch ho (I.freeC x c e), hd⟩
  refine ⟨I.ok, I.os, hg, ⟨fun b o e n hb hx => ?_, fun b o e n hb hx => ?_, fun b o e n hx => ?_, fun b o e hx => ?_, fun b xs e => tups b xs (I.base.tups b xs e), fun b o xs e => frzs b o xs (I.base.frzs b o xs e), fun b ps e => ?_⟩, ?_, fun x c e => ?_, ?_, fun x c e => ?_, fun p hp => ?_, hok, I.len⟩
  · exact keep b o (neL b o e) hb (neC b o e hx) (I.base.keep b o e n hb hx) (I.base.free b o e n hx)
  · obtain ⟨sl, e1⟩ := I.base.slot b o e n hb hx
    obtain ⟨sl', e2⟩ := slot b _ (neL b o e) hb (neC b o e hx) e1 (I.base.free b o e n hx)
    exact ⟨sl', e2⟩
  · obtain ⟨o', e1⟩ := I.base.there b o e hx
    exact free b o' (neC b o e hx) e1 (I.base.free b o e n hx)
  · obtain ⟨o', e1⟩ := I.base.there b o e hx
    exact there b o' (neC b o e hx) e1
  · obtain ⟨m1, e1⟩ := I.base.tbls b ps e
    obtain ⟨m2, e2⟩ := tbls b _ e1
    exact ⟨m1 ++ m2, by rw [e2, Array.append_assoc]⟩
  · obtain ⟨m, hn, hl⟩ := I.loc
    refine ⟨m, ns m hn, fun i x v e1 e2 e3 => ?_⟩
    obtain ⟨u, r, l⟩ := hl i x v e1 e2 e3
    refine ⟨u, r, ?_⟩
    rcases l with l | ⟨k, c, e, z⟩
    · exact .inl l
    · exact .inr ⟨k, c, e, cellK x c e _ z⟩
  · obtain ⟨v, z⟩ := I.cell x c e
    exact ⟨v, cellK x c e v z⟩
  · obtain ⟨m, ⟨o, _, _, ho, _⟩, _⟩ := I.loc
    exact free _ o (fun z => (hch _ z).2.1 rfl) ho I.free
  · obtain ⟨v, o, ho, hd⟩ := I.cell x c e
    exact free c o (fun z => (hch c z).2.2.1 x c e rfl) ho (I.freeC x c e)
  · obtain ⟨e, n, ne, nf, d⟩ := I.pin p hp
    have nch : p.1 ∉ ch := fun z => (hch p.1 z).2.2.2 p hp rfl
    exact ⟨keep p.1 p.2 ne nf nch e n, free p.1 p.2 nch e n, ne, nf, d⟩
theorem Inv.un {t' : Nat} (I : Inv X pins σ H s) (u : Un X.fs [] H H' s.heap h') (hok : HOk X.prog X.w H' h') : Inv X pins σ H' { s with heap := h', toks := t' } := by
  obtain ⟨m, ⟨o, es, ep, ho, r⟩, _⟩ := id I.loc
  obtain ⟨sl, hL⟩ := u.any ho I.free (by simp)
  exact I.step (g' := s.gens) (d' := s.drawn) (ch := []) (fun _ z => nomatch z) (fun b o _ hb _ e n => u.keep b o e n hb (by simp)) (fun b o _ hb _ e n => u.slot b o e n hb (by simp)) (fun b o _ e n => u.free b o e n (by simp)) (fun b o _ e => u.there b o e (by simp)) u.tups u.frzs u.tbls (fun m' hm => by
    obtain ⟨o', es', ep', ho', r'⟩ := hm
    rw [ho] at ho'; cases ho'
    exact ⟨_, es', ep', hL, r'⟩) hok I.bare
theorem Inv.call {g' : Array GenState} {t' : Nat} {d' : Drawn} {ch : List Addr} (I : Inv X pins σ H s) (u : Un (frs X.stack) ch H H' s.heap h') (hok : HOk X.prog X.w H' h') (hg : AllBare g')
    (hch : ∀ b ∈ ch, (b ∈ X.ex ∨ X.s₀.heap.objs.size ≤ b) ∧ b ≠ X.env.locals ∧ (∀ x c, X.env.cells.lookup x = some c → c ≠ b) ∧ ∀ p ∈ X.pn ++ pins, p.1 ≠ b) :
    Inv X pins σ H' { s with heap := h', gens := g', drawn := d', toks := t' } := by
  obtain ⟨m, ⟨o, es, ep, ho, r⟩, _⟩ := id I.loc
  obtain ⟨sl, hL⟩ := u.any ho I.free fun z => (hch _ z).2.1 rfl
  exact I.step (ch := ch) hch (fun b o hL hb hc e n => u.keep b o e n (fun z => (List.mem_cons.mp (I.stkSub b z)).elim hL hb) hc) (fun b o _ _ hc e n => u.any e n hc) (fun b o hc e n => u.free b o e n hc) (fun b o hc e => u.there b o e hc) u.tups u.frzs u.tbls (fun m' hm => by
    obtain ⟨o', es', ep', ho', r'⟩ := hm
    rw [ho] at ho'; cases ho'
    exact ⟨_, es', ep', hL, r'⟩) hok hg
theorem Inv.turned {t' : Nat} {it : Addr} (I : Inv X pins σ H s) (k : ∀ b o, b ≠ it → s.heap.get? b = some o → h'.get? b = some o) (hn : H it = none) (hL : it ≠ X.env.locals)
    (h1 : it ∈ X.ex ∨ X.s₀.heap.objs.size ≤ it) (h2 : ∀ x c, X.env.cells.lookup x = some c → c ≠ it) (h3 : ∀ p ∈ X.pn ++ pins, p.1 ≠ it) : Inv X pins σ H { s with heap := h', toks := t' } := by
  have nit : ∀ b u, H b = some u → b ≠ it := fun b u e z => by rw [z, hn] at e; cases e
  refine I.step (g' := s.gens) (d' := s.drawn) (ch := [it]) (fun b hb => ?_) (fun b o _ _ hc e _ => k b o (fun z => hc (by simp [z])) e) (fun b o _ _ hc e _ => ⟨o.slots, k b o (fun z => hc (by simp [z])) e⟩) (fun _ _ _ _ n => n)
    (fun b o hc e => ⟨o, k b o (fun z => hc (by simp [z])) e⟩) (fun _ _ e => e) (fun _ _ _ e => e) (fun b ps e => ⟨#[], by rw [e]; simp⟩) (fun m hm => ?_) (fun b u e => ?_) I.bare
  · have e : b = it := by simpa using hb
    subst e
    exact ⟨h1, hL, h2, h3⟩
  · obtain ⟨o, es, ep, ho, r⟩ := hm
    exact ⟨o, es, ep, k _ o (Ne.symm hL) ho, r⟩
  · refine (I.hok b u e).stay (fun c v hc q => k c v ?_ q) (fun _ q => q) fun _ _ q => q
    rcases hc with z | z
    · rw [z]; exact nit b u e
    · exact nit c _ z
theorem Inv.tok (I : Inv X pins σ H s) (t : Nat) : Inv X pins σ H { s with toks := t } := I.un (h' := s.heap) (t' := t) Un.refl I.hok
theorem Inv.kept {t' : Nat} (I : Inv X pins σ H s) (k : ∀ b u, s.heap.get? b = some u → h'.get? b = some u) : Inv X pins σ H { s with heap := h', toks := t' } := I.un (Un.kept k) (I.hok.kept k)
theorem Inv.laid {a : Addr} {o : HO} {t' : Nat} (I : Inv X pins σ H s) (k : ∀ b u, s.heap.get? b = some u → h'.get? b = some u) (hp : s.heap.objs.size ≤ a) (new : ObjOk X.prog X.w (upd H a o) h' a o) :
    Inv X pins σ (upd H a o) { s with heap := h', toks := t' } := I.un (Un.laid k hp (I.hok.fresh hp)) (I.hok.laid k hp new)
theorem Inv.write {x e : Addr} {o : HO} {t' : Nat} (I : Inv X pins σ H s) (mu : Mut (H x)) (he : e = x ∨ H e = some (.own x)) (k : ∀ b u, b ≠ e → s.heap.get? b = some u → h'.get? b = some u) (heo : ∃ u, h'.get? e = some u)
    (new : ObjOk X.prog X.w (upd H x o) h' x o) : Inv X pins σ (upd H x o) { s with heap := h', toks := t' } := I.un (Un.write mu he k heo) (I.hok.write mu he k heo new)
theorem Inv.weak {σ' : List (Option V)} (I : Inv X pins σ H s) (hl : σ'.length = σ.length) (w : ∀ (i : Nat) v, σ'[i]? = some (some v) → σ[i]? = some (some v)) : Inv X pins σ' H s :=
  ⟨I.ok, I.os, I.bare, I.base, let ⟨m, hn, hl'⟩ := I.loc; ⟨m, hn, fun i x v e1 e2 e3 => hl' i x v e1 (w i v e2) e3⟩, I.cell, I.free, I.freeC, I.pin, I.hok, hl.trans I.len⟩
theorem Inv.pins_of {pins' : List (Addr × Obj)} (I : Inv X pins σ H s) (h : ∀ p ∈ pins', s.heap.get? p.1 = some p.2 ∧ H p.1 = none ∧ p.1 ≠ X.env.locals ∧ p.1 ∉ X.fs ∧ ∀ v, p.2.data ≠ .cell v) : Inv X pins' σ H s :=
  ⟨I.ok, I.os, I.bare, I.base, I.loc, I.cell, I.free, I.freeC, fun p hp => (List.mem_append.mp hp).elim (fun z => I.pin p (List.mem_append_left _ z)) (h p), I.hok, I.len⟩

theorem nodup_ix {N : List Str} (hN : N.Nodup) {i j : Nat} {x : Str} (a : N[i]? = some x) (b : N[j]? = some x) : i = j := by
  obtain ⟨h1, e1⟩ := List.getElem?_eq_some_iff.mp a
  obtain ⟨h2, e2⟩ := List.getElem?_eq_some_iff.mp b
  exact (List.getElem_inj hN).mp (e1.trans e2.symm)

theorem store_ok2 {M : Model} {A : Around} {E : Value → Shared → Prop} {i : Nat} {x : Str} {v : V} {u : Value} {Q : Unit → Shared → Prop} (I : Inv X pins σ H s) (hN : X.N.Nodup) (hi : X.N[i]? = some x) (hx : Loc X.env.scope x) (r : RelV v u)
    (h : ∀ s', Inv X pins (σ.set i (some v)) H s' → (∃ a, Heap.SameBut a s.heap s'.heap ∧ (a = X.env.locals ∨ X.env.cells.lookup x = some a)) → Q () s') (hf : X.fn x = true ∨ X.env.scope.names.lookup x = some .local := by first | exact .inl rfl | exact .inr rfl | assumption) : wpAny M A (storeName X.env x u) Q E s := by
  obtain ⟨m, hn, hl⟩ := id I.loc
  have hcls : (X.env.scope.kind == .class || (X.env.scope.kind == .module && X.env.locals != X.env.globals)) = false := by rw [I.ok.kind]; rfl
  have hiσ : i < σ.length := by rw [I.len]; exact (List.getElem?_eq_some_iff.mp hi).1
  have cne := I.cne
  have tracked : ∀ {a : Addr} {h' : Heap}, (∃ o, s.heap.get? a = some o ∧ H a = none) → Heap.SameBut a s.heap h' → HOk X.prog X.w H h' := fun {a h'} ha hs b ob e => by
    obtain ⟨_, _, hfree⟩ := ha
    refine (I.hok b ob e).stay (fun c w' hc q => (hs.2 c ?_).trans q) (fun _ q => q) fun _ _ q => q
    rintro rfl
    rcases hc with rfl | hc
    · rw [hfree] at e; cases e
    · rw [hfree] at hc; cases hc
  rcases hx with hk | hk
  · refine wpAny_storeName_local hk hn (fun h' hn' hs => ?_) hcls
    obtain ⟨oL, _, _, hoL, _⟩ := id hn
    refine h _ ⟨I.ok, I.os, I.bare, ⟨fun b o e n hb hx => ?_, fun b o e n hb hx => ?_, I.base.free, fun b o e hx => ?_, I.base.tups, I.base.frzs, I.base.tbls⟩, ⟨_, hn', fun j y v' e1 e2 e3 => ?_⟩, fun y c e => ?_, I.free, I.freeC, fun p hp => ?_, tracked ⟨oL, hoL, I.free⟩ hs, by simpa using I.len⟩ ⟨_, hs, .inl rfl⟩
    · exact (hs.2 b (Nat.ne_of_lt (Nat.lt_of_lt_of_le (Heap.lt_size e) I.ok.above))).trans (I.base.keep b o e n hb hx)
    · obtain ⟨sl, e1⟩ := I.base.slot b o e n hb hx
      exact ⟨sl, (hs.2 b (Nat.ne_of_lt (Nat.lt_of_lt_of_le (Heap.lt_size e) I.ok.above))).trans e1⟩
    · obtain ⟨o', e1⟩ := I.base.there b o e hx
      exact ⟨o', (hs.2 b (Nat.ne_of_lt (Nat.lt_of_lt_of_le (Heap.lt_size e) I.ok.above))).trans e1⟩
    · by_cases hj : j = i
      · subst hj
        rw [hi] at e1; cases e1
        rw [List.getElem?_set_self hiσ] at e2
        cases e2
        exact ⟨u, r, .inl ⟨hk, by simp⟩⟩
      · rw [List.getElem?_set_ne (Ne.symm hj)] at e2
        obtain ⟨u', r', q⟩ := hl j y v' e1 e2 e3
        refine ⟨u', r', ?_⟩
        rcases q with ⟨k, e⟩ | ⟨k, c, e, z⟩
        · refine .inl ⟨k, ?_⟩
          have : y ≠ x := fun e => hj (nodup_ix hN e1 (e ▸ hi))
          simp [this, e]
        · exact .inr ⟨k, c, e, z.sameBut hs (cne y c e)⟩
    · obtain ⟨w', z⟩ := I.cell y c e
      exact ⟨w', z.sameBut hs (cne y c e)⟩
    · obtain ⟨e, n, ne, nf, d⟩ := I.pin p hp
      exact ⟨(hs.2 p.1 ne).trans e, n, ne, nf, d⟩
  · have hfn : X.fn x = true := by
      rcases hf with z | z
      · exact z
      · rw [z] at hk; cases hk
    obtain ⟨c, hc⟩ := I.ok.has x (.inl hk)
    obtain ⟨w', z⟩ := I.cell x c hc
    refine wpAny_storeName_cell I.ok.kind hk hc z (fun h' hc' hs => ?_)
    obtain ⟨oc, hoc, hocd⟩ := id z
    refine h { s with heap := h' } ⟨I.ok, I.os, I.bare, ⟨fun b o e n hb hx => ?_, fun b o e n hb hx => ?_, I.base.free, fun b o e hx => ?_, I.base.tups, I.base.frzs, I.base.tbls⟩, ⟨m, hn.sameBut hs (Ne.symm (cne x c hc)), fun j y v' e1 e2 e3 => ?_⟩, fun y c' e => ?_, I.free, I.freeC, fun p hp => ?_, tracked ⟨oc, hoc, I.freeC x c hc⟩ hs, by simpa using I.len⟩ ⟨c, hs, .inr hc⟩
    · exact (hs.2 b (Nat.ne_of_lt (Nat.lt_of_lt_of_le (Heap.lt_size e) (I.ok.cab x c hfn hc)))).trans (I.base.keep b o e n hb hx)
    · obtain ⟨sl, e1⟩ := I.base.slot b o e n hb hx
      exact ⟨sl, (hs.2 b (Nat.ne_of_lt (Nat.lt_of_lt_of_le (Heap.lt_size e) (I.ok.cab x c hfn hc)))).trans e1⟩
    · obtain ⟨o', e1⟩ := I.base.there b o e hx
      exact ⟨o', (hs.2 b (Nat.ne_of_lt (Nat.lt_of_lt_of_le (Heap.lt_size e) (I.ok.cab x c hfn hc)))).trans e1⟩
    · by_cases hj : j = i
      · subst hj
        rw [hi] at e1; cases e1
        rw [List.getElem?_set_self hiσ] at e2
        cases e2
        exact ⟨u, r, .inr ⟨.inl hk, c, hc, hc'⟩⟩
      · rw [List.getElem?_set_ne (Ne.symm hj)] at e2
        obtain ⟨u', r', q⟩ := hl j y v' e1 e2 e3
        refine ⟨u', r', ?_⟩
        rcases q with q | ⟨k, c', e, z'⟩
        · exact .inl q
        · refine .inr ⟨k, c', e, z'.sameBut hs ?_⟩
          rintro rfl
          exact hj (nodup_ix hN e1 (I.ok.inj _ _ _ e hc ▸ hi))
    · by_cases hcc : c' = c
      · subst hcc; exact ⟨_, hc'⟩
      · obtain ⟨w2, z2⟩ := I.cell y c' e
        exact ⟨w2, z2.sameBut hs hcc⟩
    · obtain ⟨e, n, ne, nf, d⟩ := I.pin p hp
      refine ⟨(hs.2 p.1 ?_).trans e, n, ne, nf, d⟩
      intro q
      rw [q, hoc] at e
      have q' : oc = p.2 := Option.some.inj e
      exact d w' (by rw [← q']; exact hocd)
theorem store_ok {M : Model} {A : Around} {E : Value → Shared → Prop} {i : Nat} {x : Str} {v : V} {u : Value} {Q : Unit → Shared → Prop} (I : Inv X pins σ H s) (hN : X.N.Nodup) (hi : X.N[i]? = some x) (hx : Loc X.env.scope x) (r : RelV v u)
    (h : ∀ s', Inv X pins (σ.set i (some v)) H s' → Q () s') (hf : X.fn x = true ∨ X.env.scope.names.lookup x = some .local := by first | exact .inl rfl | exact .inr rfl | assumption) : wpAny M A (storeName X.env x u) Q E s :=
  store_ok2 I hN hi hx r (fun s' I' _ => h s' I') hf
theorem Inv.call' {s' : Shared} {ch : List Addr} (I : Inv X pins σ H s) (ho : s'.os = s.os) (u : Un (frs X.stack) ch H H' s.heap s'.heap) (hok : HOk X.prog X.w H' s'.heap) (hg : AllBare s'.gens)
    (hch : ∀ b ∈ ch, (b ∈ X.ex ∨ X.s₀.heap.objs.size ≤ b) ∧ b ≠ X.env.locals ∧ (∀ x c, X.env.cells.lookup x = some c → c ≠ b) ∧ ∀ p ∈ X.pn ++ pins, p.1 ≠ b) : Inv X pins σ H' s' := by
  obtain ⟨h', g', d', t', o'⟩ := s'
  have e : o' = s.os := ho
  subst e
  exact I.call (g' := g') (t' := t') (d' := d') u hok hg hch
end

abbrev XK := Value → Option Addr → Hp → Prop
abbrev St := List (Option V)
abbrev VK := V → Hp → Prop
abbrev TE := St → Hp → VK → Prop
abbrev TT := St → Hp → (Bool → Hp → Prop) → Prop
abbrev TA := St → Hp → (List V → Hp → Prop) → Prop
structure Ends where
  nx : St → Hp → Prop
  rt : VK
  bk : St → Hp → Prop := fun _ _ => False
  ct : St → Hp → Prop := fun _ _ => False
abbrev TS := Ends → St → Hp → Prop

def EP (X : Cx) (pins : List (Addr × Obj)) (σ : St) (Q : VK) (u : Value) (s' : Shared) : Prop := ∃ v H', Inv X pins σ H' s' ∧ RelV v u ∧ Q v H'
def TP (X : Cx) (pins : List (Addr × Obj)) (σ : St) (Q : Bool → Hp → Prop) (b : Bool) (s' : Shared) : Prop := ∃ H', Inv X pins σ H' s' ∧ Q b H'
def AP (X : Cx) (pins : List (Addr × Obj)) (σ : St) (Q : List V → Hp → Prop) (us : List Value) (s' : Shared) : Prop := ∃ vs H', Inv X pins σ H' s' ∧ Vals vs us ∧ Q vs H'
def SP (X : Cx) (pins : List (Addr × Obj)) (D : Ends) (f : Flow) (s' : Shared) : Prop :=
  match f with
  | .next => ∃ σ' H', Inv X pins σ' H' s' ∧ D.nx σ' H'
  | .brk => ∃ σ' H', Inv X pins σ' H' s' ∧ D.bk σ' H'
  | .cont => ∃ σ' H', Inv X pins σ' H' s' ∧ D.ct σ' H'
  | .ret u => ∃ v σ' H', Inv X pins σ' H' s' ∧ RelV v u ∧ D.rt v H'

def PE (X : Cx) (e : Expr) (t : TE) : Prop :=
  ∀ (pins : List (Addr × Obj)) (s : Shared) (σ : St) (H : Hp) (Q : VK), Inv X pins σ H s → t σ H Q → wpAny (model X.prog X.w) X.A (eval e X.env) (EP X pins σ Q) X.xe s
def PT (X : Cx) (e : Expr) (t : TT) : Prop :=
  ∀ (pins : List (Addr × Obj)) (s : Shared) (σ : St) (H : Hp) (Q : Bool → Hp → Prop), Inv X pins σ H s → t σ H Q → wpAny (model X.prog X.w) X.A (isTrue e X.env (eval e X.env)) (TP X pins σ Q) X.xe s
def PW (X : Cx) (e : Expr) (t : TT) : Prop :=
  ∀ (whole : Sem Value) (pins : List (Addr × Obj)) (s : Shared) (σ : St) (H : Hp) (Q : Bool → Hp → Prop), Inv X pins σ H s → t σ H Q → wpAny (model X.prog X.w) X.A (isTrue e X.env whole) (TP X pins σ Q) X.xe s
theorem PW.pt {X : Cx} {e : Expr} {t : TT} (h : PW X e t) : PT X e t := h _
def PA (X : Cx) (es : List Expr) (t : TA) : Prop :=
  ∀ (pos : Pos) (pins : List (Addr × Obj)) (s : Shared) (σ : St) (H : Hp) (Q : List V → Hp → Prop), Inv X pins σ H s → t σ H Q → wpAny (model X.prog X.w) X.A (spliced (backTo pos (starEach es X.env))) (AP X pins σ Q) X.xe s
def PS (X : Cx) (st : Stmt) (t : TS) : Prop :=
  ∀ (pins : List (Addr × Obj)) (s : Shared) (σ : St) (H : Hp) (D : Ends), Inv X pins σ H s → t D σ H → wpAny (model X.prog X.w) X.A (exec st X.env) (SP X pins D) X.xe s
def PSs (X : Cx) (st : List Stmt) (t : TS) : Prop :=
  ∀ (pins : List (Addr × Obj)) (s : Shared) (σ : St) (H : Hp) (D : Ends), Inv X pins σ H s → t D σ H → wpAny (model X.prog X.w) X.A (execs st X.env) (SP X pins D) X.xe s
theorem thn {α : Type} {t : Sem α} {Q Q' : α → Shared → Prop} {M : Model} {A : Around} {E : Value → Shared → Prop} {s : Shared} (h : wpAny M A t Q E s) (hQ : ∀ a s, Q a s → Q' a s) : wpAny M A t Q' E s := wpAny_mono h hQ fun _ _ x => x
end L2

namespace L2
open PySem PySem.Spec PyProof.Rows
section
variable {X : Cx}

def tVar (i : Nat) : TE := fun σ H Q => ∃ v, σ[i]? = some (some v) ∧ Q v H
def tC (v : V) : TE := fun _ H Q => Q v H
theorem pe_var {i : Nat} {x : Str} {pos : Pos} (hN : X.N[i]? = some x) (hv : Vis X.env.scope x) (hd : (x == ("__debug__" : Str)) = false := by decide) (hcd : (x == ("__classdict__" : Str)) = false := by decide) : PE X (.Name x pos) (tVar i) := by
  intro pins s σ H Q I h
  obtain ⟨v, e, h⟩ := h
  obtain ⟨m, hn, hl⟩ := I.loc
  obtain ⟨u, r, l⟩ := hl i x v hN e hv
  have fin : EP X pins σ Q u s := ⟨v, H, I, r, h⟩
  rcases l with ⟨hk, hm⟩ | ⟨hk, c, hc, hcell⟩
  · exact wpAny_Name (wpAny_loadName_local I.ok.kind hk hn hm fin) hd
  · rcases hk with hk | hk
    · exact wpAny_Name (wpAny_loadName_cell I.ok.kind hk hc hcell fin) hd
    · exact wpAny_Name (wpAny_loadName_free I.ok.kind hk hc hcell fin hcd) hd
theorem pe_int {i j pos} : PE X (.Constant (.int i) j pos) (tC (.int i)) := fun _ _ _ H _ I h => wpAny_Constant_int ⟨.int i, H, I.tok _, ⟨_, rfl⟩, h⟩
theorem pe_bl {b j pos} : PE X (.Constant (.bool b) j pos) (tC (.bl b)) := fun _ _ _ H _ I h => Constant_bool ⟨.bl b, H, I, rfl, h⟩
theorem pe_non {j pos} : PE X (.Constant .none j pos) (tC .non) := fun _ _ _ H _ I h => Constant_none ⟨.non, H, I, rfl, h⟩
theorem pe_str {x j pos} : PE X (.Constant (.str x) j pos) (tC (.str x)) := fun _ _ _ H _ I h => Calls.Constant_str ⟨.str x, H, I.tok _, ⟨_, rfl⟩, h⟩

def Gl (X : Cx) (x : Str) : Prop := X.env.kindOf x = some .globalImplicit
theorem ld_glob {E : Value → Shared → Prop} {pins : List (Addr × Obj)} {s : Shared} {σ : St} {H : Hp} {x : Str} {u : Value} {pos : Pos} {Q : Value → Shared → Prop} (I : Inv X pins σ H s) (hg : Gl X x) (hm : X.mg x = some u) (h : Q u s)
    (hd : (x == ("__debug__" : Str)) = false := by decide) : wpAny (model X.prog X.w) X.A (eval (.Name x pos) X.env) Q E s :=
  Calls.Name_function_global I.ok.kind hg (Calls.loadGlobal_global (by rw [I.ok.glob]; exact I.mod.glob.keeps I.bk) hm h) hd
theorem ld_blt {E : Value → Shared → Prop} {pins : List (Addr × Obj)} {s : Shared} {σ : St} {H : Hp} {x : Str} {u : Value} {pos : Pos} {Q : Value → Shared → Prop} (I : Inv X pins σ H s) (hg : Gl X x) (hm : X.mg x = none) (hv : bootBuiltins x = some u) (h : Q u s)
    (hn : x ≠ "__name__" := by decide) (hd : (x == ("__debug__" : Str)) = false := by decide) : wpAny (model X.prog X.w) X.A (eval (.Name x pos) X.env) Q E s := by
  obtain ⟨mb, h1, h2⟩ := I.mod.blt
  exact Calls.Name_function_global I.ok.kind hg (Calls.loadGlobal_builtin (by rw [I.ok.glob]; exact I.mod.glob.keeps I.bk) hm (by rw [I.ok.blt]; exact h1.keeps I.bk) ((h2 x hn).trans hv) h) hd
theorem pe_glob {x : Str} {v : V} {u : Value} {pos : Pos} (hg : Gl X x) (hm : X.mg x = some u) (r : RelV v u) (hd : (x == ("__debug__" : Str)) = false := by decide) : PE X (.Name x pos) (tC v) :=
  fun _ _ _ H _ I h => ld_glob I hg hm ⟨v, H, I, r, h⟩ hd
theorem pe_bltn {x : Str} {v : V} {u : Value} {pos : Pos} (hg : Gl X x) (hm : X.mg x = none) (hv : bootBuiltins x = some u) (r : RelV v u) (hn : x ≠ "__name__" := by decide) (hd : (x == ("__debug__" : Str)) = false := by decide) : PE X (.Name x pos) (tC v) :=
  fun _ _ _ H _ I h => ld_blt I hg hm hv ⟨v, H, I, r, h⟩ hn hd

def t2I (ta tb : TE) (k : Int → Int → Hp → Prop) : St → Hp → Prop := fun σ H => ta σ H fun x H1 => tb σ H1 fun y H2 => ∃ i j, x = .int i ∧ y = .int j ∧ k i j H2
variable {a b : Expr} {ta tb : TE} {pos : Pos}
def tCmp (p : Int → Int → Bool) (ta tb : TE) : TE := fun σ H Q => t2I ta tb (fun i j H2 => Q (.bl (p i j)) H2) σ H
def tB (t : TE) : TT := fun σ H Q => t σ H fun x H1 => ∃ c, x = .bl c ∧ Q c H1
theorem pt_val {e : Expr} {t : TE} (h : PE X e t) (he : ∀ whole, isTrue e X.env whole = (do let v ← whole; standAt e.pos; holding [v] (truthy v)) := by intro _; rfl) : PT X e (tB t) := by
  intro pins s σ H Q I hw
  refine isTrue_plain (thn (h pins s σ H _ I hw) fun v s1 ⟨x, H1, I1, r1, q1⟩ => ?_) (he _)
  obtain ⟨d, rfl, q⟩ := q1
  cases r1
  exact wpAny_truthy_bool ⟨H1, I1, q⟩

variable {tA tB' : TT} {rest : List Expr}
def tAnd (t u : TT) : TT := fun σ H Q => t σ H fun c H1 => if c = true then u σ H1 Q else Q false H1
def tOr (t u : TT) : TT := fun σ H Q => t σ H fun c H1 => if c = true then Q true H1 else u σ H1 Q
def tNot (t : TT) : TT := fun σ H Q => t σ H fun c H1 => Q (!c) H1
theorem pw_and1 (ha : PT X a tA) : PW X (.BoolOp .And [a] pos) tA := by
  intro wh pins s σ H Q I h
  refine isTrue_and (thn (ha pins s σ H Q I h) fun c s1 e => ?_)
  cases c with
  | true => exact isTrue_and_nil e
  | false => exact e
theorem pw_or1 (ha : PT X a tA) : PW X (.BoolOp .Or [a] pos) tA := by
  intro wh pins s σ H Q I h
  refine isTrue_or (thn (ha pins s σ H Q I h) fun c s1 e => ?_)
  cases c with
  | false => exact isTrue_or_nil e
  | true => exact e
theorem pw_and (ha : PT X a tA) (hb : PW X (.BoolOp .And (b :: rest) pos) tB') : PW X (.BoolOp .And (a :: b :: rest) pos) (tAnd tA tB') := by
  intro wh pins s σ H Q I h
  refine isTrue_and (thn (ha pins s σ H _ I h) fun c s1 ⟨H1, I1, q1⟩ => ?_)
  cases c with
  | true => exact hb wh pins s1 σ H1 Q I1 q1
  | false => exact ⟨H1, I1, q1⟩
theorem pw_or (ha : PT X a tA) (hb : PW X (.BoolOp .Or (b :: rest) pos) tB') : PW X (.BoolOp .Or (a :: b :: rest) pos) (tOr tA tB') := by
  intro wh pins s σ H Q I h
  refine isTrue_or (thn (ha pins s σ H _ I h) fun c s1 ⟨H1, I1, q1⟩ => ?_)
  cases c with
  | true => exact ⟨H1, I1, q1⟩
  | false => exact hb wh pins s1 σ H1 Q I1 q1
theorem pt_not (ha : PT X a tA) : PT X (.UnaryOp .Not a pos) (tNot tA) := by
  intro pins s σ H Q I h
  exact isTrue_not (ha pins s σ H (fun c H1 => Q (!c) H1) I h)
def tAndV (ta tb : TE) : TE := fun σ H Q => ta σ H fun x H1 => ∃ c, x = .bl c ∧ if c = true then tb σ H1 Q else Q (.bl false) H1
def tOrV (ta tb : TE) : TE := fun σ H Q => ta σ H fun x H1 => ∃ c, x = .bl c ∧ if c = true then Q (.bl true) H1 else tb σ H1 Q
def tNotV (ta : TE) : TE := fun σ H Q => ta σ H fun x H1 => ∃ c, x = .bl c ∧ Q (.bl (!c)) H1
theorem pe_one {op} {t : TE} (h : PE X a t) : PE X (.BoolOp op [a] pos) t := fun pins s σ H Q I hw => BoolOp_one (h pins s σ H Q I hw)
theorem pe_and (ha : PE X a ta) (hb : PE X (.BoolOp .And (b :: rest) pos) tb) : PE X (.BoolOp .And (a :: b :: rest) pos) (tAndV ta tb) := by
  intro pins s σ H Q I h
  refine BoolOp_and (thn (ha pins s σ H _ I h) fun v s1 ⟨x, H1, I1, r1, q1⟩ => ?_)
  obtain ⟨c, rfl, q1⟩ := q1
  cases r1
  refine wpAny_truthy_bool ?_
  cases c with
  | true => exact hb pins s1 σ H1 Q I1 q1
  | false => exact ⟨.bl false, H1, I1, rfl, q1⟩
theorem pe_or (ha : PE X a ta) (hb : PE X (.BoolOp .Or (b :: rest) pos) tb) : PE X (.BoolOp .Or (a :: b :: rest) pos) (tOrV ta tb) := by
  intro pins s σ H Q I h
  refine BoolOp_or (thn (ha pins s σ H _ I h) fun v s1 ⟨x, H1, I1, r1, q1⟩ => ?_)
  obtain ⟨c, rfl, q1⟩ := q1
  cases r1
  refine wpAny_truthy_bool ?_
  cases c with
  | false => exact hb pins s1 σ H1 Q I1 q1
  | true => exact ⟨.bl true, H1, I1, rfl, q1⟩
theorem pe_not (ha : PE X a ta) : PE X (.UnaryOp .Not a pos) (tNotV ta) := by
  intro pins s σ H Q I h
  refine UnaryOp_ (thn (ha pins s σ H _ I h) fun v s1 ⟨x, H1, I1, r1, q1⟩ => ?_)
  obtain ⟨c, rfl, q1⟩ := q1
  cases r1
  exact not_of (wpAny_truthy_bool ⟨.bl (!c), H1, I1, rfl, q1⟩)
end
end L2

namespace L2
open PySem PySem.Spec PyProof.Rows

def SqL (K : PySem.W.Frag) (H : Hp) (a : Addr) (xs : List V) : Prop :=
  Rd H a (.lst xs) ∨
    ∃ (o : Obj) (its : Array Value) (n : Nat), K.lookup a = some o ∧ o.cls = .type "list" ∧ o.dict = none ∧ o.data = .seq its n ∧ its.size ≤ sizeLine ∧ Vals xs its.toList
def SqT (K : PySem.W.Frag) (H : Hp) (a : Addr) (xs : List V) : Prop :=
  Rd H a (.tup xs) ∨
    ∃ (o : Obj) (its : Array Value) (n : Nat), K.lookup a = some o ∧ o.cls = .type "tuple" ∧ o.data = .seq its n ∧ its.size ≤ sizeLine ∧ Vals xs its.toList
def absV : Value → Option V
  | .none => some .non
  | .bool b => some (.bl b)
  | .int i _ => some (.int i)
  | .str x _ => some (.str x)
  | .bytes b _ => some (.byt b)
  | .float b _ => some (.flt b)
  | .ref a => some (.ref a)
  | .type n => some (.ty n)
  | _ => none
theorem RelV.abs {x : V} {u : Value} (r : RelV x u) : absV u = some x := by
  cases x with
  | non => cases r; rfl
  | bl _ => cases r; rfl
  | int _ => obtain ⟨t, rfl⟩ := r; rfl
  | str _ => obtain ⟨t, rfl⟩ := r; rfl
  | byt _ => obtain ⟨t, rfl⟩ := r; rfl
  | flt _ => obtain ⟨t, rfl⟩ := r; rfl
  | ref _ => cases r; rfl
  | ty _ => cases r; rfl
theorem RelV.inj {x y : V} {u : Value} (r : RelV x u) (q : RelV y u) : x = y := Option.some.inj (r.abs.symm.trans q.abs)
theorem Vals.inj : ∀ {xs ys : List V} {us : List Value}, Vals xs us → Vals ys us → xs = ys
  | _, _, _, .nil, .nil => rfl
  | _, _, _, .cons r t, .cons r' t' => by rw [r.inj r', Vals.inj t t']
section
variable {X : Cx} {pins : List (Addr × Obj)} {σ : St} {H : Hp} {s : Shared} {a : Addr} {xs ys : List V}
theorem SqL.of {K : PySem.W.Frag} (h : H a = some (.lst xs)) : SqL K H a xs := .inl (.inl h)
theorem SqT.of {K : PySem.W.Frag} (h : H a = some (.tup xs)) : SqT K H a xs := .inl (.inl h)
theorem Inv.list (I : Inv X pins σ H s) (h : SqL X.K H a xs) : ∃ its : List Value, Vals xs its ∧ PlainL s.heap a its.toArray ∧ xs.length ≤ sizeLine := by
  rcases h with h | ⟨o, its, n, hk, hc, hd, hs, hz, r⟩
  · obtain ⟨z, its, n, r, e⟩ := h.ok I.hok
    exact ⟨its, r, ⟨_, n, e, rfl, rfl, rfl⟩, z⟩
  · refine ⟨its.toList, r, ⟨o, n, I.kIn a o hk, hc, hd, by simpa using hs⟩, ?_⟩
    have e := r.length
    simp only [Array.length_toList] at e
    omega
theorem Inv.tuple (I : Inv X pins σ H s) (h : SqT X.K H a xs) : ∃ its : List Value, Vals xs its ∧ IsTup s.heap a its.toArray ∧ xs.length ≤ sizeLine := by
  rcases h with h | ⟨o, its, n, hk, hc, hs, hz, r⟩
  · obtain ⟨z, its, r, p⟩ := h.ok I.hok
    exact ⟨its, r, p.tup, z⟩
  · refine ⟨its.toList, r, ⟨o, I.kIn a o hk, hc, n, by simpa using hs⟩, ?_⟩
    have e := r.length
    simp only [Array.length_toList] at e
    omega
theorem Inv.list_inj (I : Inv X pins σ H s) (h : SqL X.K H a xs) (h' : SqL X.K H a ys) : xs = ys := by
  obtain ⟨its, r, ⟨o, n, e, _, _, d⟩, _⟩ := I.list h
  obtain ⟨its', r', ⟨o', n', e', _, _, d'⟩, _⟩ := I.list h'
  rw [e] at e'; cases e'
  rw [d] at d'
  injection d' with d1 _
  have : its = its' := by simpa using congrArg Array.toList d1
  subst this
  exact r.inj r'
end

abbrev Cx.wish (X : Cx) (E : Value → Shared → Prop) : Cx := { X with xe := E }
abbrev Cx.nox (X : Cx) : Cx := X.wish fun _ _ => False
theorem Cx.Ok.wish {X : Cx} (ok : X.Ok) (E : Value → Shared → Prop) : (X.wish E).Ok :=
  ⟨ok.mod, ok.kind, ok.glob, ok.blt, ok.above, ok.inj, ok.has, ok.cab, ok.hd, ok.frames, ok.stk, ok.exf, ok.bs, ok.bsz, ok.noex, ok.exfs, ok.funs, ok.frf⟩
theorem Cx.Ok.unwish {X : Cx} {E : Value → Shared → Prop} (ok : (X.wish E).Ok) : X.Ok :=
  ⟨ok.mod, ok.kind, ok.glob, ok.blt, ok.above, ok.inj, ok.has, ok.cab, ok.hd, ok.frames, ok.stk, ok.exf, ok.bs, ok.bsz, ok.noex, ok.exfs, ok.funs, ok.frf⟩
section
variable {X : Cx} {pins : List (Addr × Obj)} {σ : St} {H : Hp} {s : Shared} {E : Value → Shared → Prop}
theorem Inv.wish (I : Inv X pins σ H s) (E : Value → Shared → Prop) : Inv (X.wish E) pins σ H s := ⟨I.ok.wish E, I.os, I.bare, I.base, I.loc, I.cell, I.free, I.freeC, I.pin, I.hok, I.len⟩
theorem Inv.unwish (I : Inv (X.wish E) pins σ H s) : Inv X pins σ H s := ⟨I.ok.unwish, I.os, I.bare, I.base, I.loc, I.cell, I.free, I.freeC, I.pin, I.hok, I.len⟩
theorem SP.unwish {D : Ends} {f : Flow} {s' : Shared} (h : SP (X.wish E) pins D f s') : SP X pins D f s' := by
  cases f with
  | next => obtain ⟨σ', H', I, q⟩ := h; exact ⟨σ', H', I.unwish, q⟩
  | brk => obtain ⟨σ', H', I, q⟩ := h; exact ⟨σ', H', I.unwish, q⟩
  | cont => obtain ⟨σ', H', I, q⟩ := h; exact ⟨σ', H', I.unwish, q⟩
  | ret u => obtain ⟨v, σ', H', I, r, q⟩ := h; exact ⟨v, σ', H', I.unwish, r, q⟩
theorem PSs.nox {st : List Stmt} {t : TS} (h : PSs X.nox st t) : PSs X st t := fun pins s σ H D I hw =>
  wpAny_mono (h pins s σ H D (I.wish _) hw) (fun _ _ q => q.unwish) fun _ _ z => False.elim z
end

section
variable {X : Cx} {st : Stmt} {rest : List Stmt} {t u : TS} {e : Expr} {te : TE} {pos : Pos}
def tNext : TS := fun D σ H => D.nx σ H
def tSeq (t u : TS) : TS := fun D σ H => t { D with nx := u D } σ H
theorem pss_nil : PSs X [] tNext := fun _ _ σ H _ I h => wpAny_execs_nil ⟨σ, H, I, h⟩
theorem pss_cons (h1 : PS X st t) (h2 : PSs X rest u) : PSs X (st :: rest) (tSeq t u) := by
  intro pins s σ H D I h
  refine wpAny_execs_cons (thn (h1 pins s σ H { D with nx := u D } I h) fun f s1 q => ?_)
  cases f with
  | next =>
    obtain ⟨σ', H', I', q⟩ := q
    exact h2 pins s1 σ' H' D I' q
  | ret v => exact q
  | brk => exact q
  | cont => exact q
theorem pss_one (h1 : PS X st t) : PSs X [st] t := by
  intro pins s σ H D I h
  refine wpAny_execs_cons (thn (h1 pins s σ H D I h) fun f s1 q => ?_)
  cases f with
  | next => exact wpAny_execs_nil q
  | ret v => exact q
  | brk => exact q
  | cont => exact q
theorem Inv.quiet {pins : List (Addr × Obj)} {σ : St} {H : Hp} {s : Shared} (I : Inv X pins σ H s) : interactive X.env = false := by simp [interactive, I.ok.kind]
def tDrop (te : TE) : TS := fun D σ H => te σ H fun _ H1 => D.nx σ H1
theorem ps_expr (he : PE X e te) (hs : swapsWith e none pos.line X.env = pure false := by rfl) : PS X (.Expr e pos) (tDrop te) := by
  intro pins s σ H D I h
  exact wpAny_Expr_any (thn (he pins s σ H _ I h) fun v s1 ⟨x, H1, I1, r1, q1⟩ => ⟨σ, H1, I1, q1⟩) I.quiet hs
def tRet (te : TE) : TS := fun D σ H => te σ H D.rt
theorem ps_ret (he : PE X e te) : PS X (.Return (some e) pos) (tRet te) := by
  intro pins s σ H D I h
  exact wpAny_Return_some (thn (he pins s σ H _ I h) fun v s1 ⟨x, H1, I1, r1, q1⟩ => ⟨x, σ, H1, I1, r1, q1⟩)
def tIfS (c : TT) (t u : TS) : TS := fun D σ H => c σ H fun b H1 => if b = true then t D σ H1 else u D σ H1
theorem ps_if {c : Expr} {a b : List Stmt} {tc : TT} (hc : PT X c tc) (ha : PSs X a t) (hb : PSs X b u) : PS X (.If c a b pos) (tIfS tc t u) := by
  intro pins s σ H D I h
  refine wpAny_If (thn (hc pins s σ H _ I h) fun d s1 ⟨H1, I1, q1⟩ => ?_)
  cases d with
  | true => exact ha pins s1 σ H1 D I1 q1
  | false => exact hb pins s1 σ H1 D I1 q1
def tNever : TS := fun _ _ _ => False
theorem ps_never : PS X st tNever := fun _ _ _ _ _ _ h => h.elim
theorem pss_never {sts : List Stmt} : PSs X sts tNever := fun _ _ _ _ _ _ h => h.elim
end

abbrev TG := V → St → Hp → (St → Hp → Prop) → Prop
abbrev TGs := List V → St → Hp → (St → Hp → Prop) → Prop
def PG (X : Cx) (target : Expr) (t : TG) : Prop :=
  ∀ (pins : List (Addr × Obj)) (s : Shared) (σ : St) (H : Hp) (v : V) (u : Value) (Q : St → Hp → Prop), Inv X pins σ H s → RelV v u → t v σ H Q →
    wpAny (model X.prog X.w) X.A (assign target X.env u) (fun _ s' => ∃ σ' H', Inv X pins σ' H' s' ∧ Q σ' H') X.xe s
abbrev TSet := V → V → V → Hp → (Hp → Prop) → Prop
abbrev TIp := V → V → Hp → VK → Prop
section
variable {X : Cx} {pos : Pos}
def gName (i : Nat) : TG := fun v σ H Q => Q (σ.set i (some v)) H
theorem pg_name {i : Nat} {x : Str} (hN : X.N.Nodup) (hi : X.N[i]? = some x) (hx : Loc X.env.scope x) (hf : X.fn x = true ∨ X.env.scope.names.lookup x = some .local := by first | exact .inl rfl | exact .inr rfl | assumption) : PG X (.Name x pos) (gName i) := by
  intro pins s σ H v u Q I r h
  exact wpAny_assign_Name (store_ok I hN hi hx r (fun s' I' => ⟨_, H, I', h⟩) hf)
def tAsg (te : TE) (g : TG) : TS := fun D σ H => te σ H fun x H1 => g x σ H1 D.nx
theorem ps_set {i : Nat} {x : Str} {e : Expr} {te : TE} {pos' : Pos} (hN : X.N.Nodup) (hi : X.N[i]? = some x) (hx : Loc X.env.scope x) (he : PE X e te) (hs : swapsWith e (some (.Name x pos')) pos.line X.env = pure false := by rfl) (hf : X.fn x = true ∨ X.env.scope.names.lookup x = some .local := by first | exact .inl rfl | exact .inr rfl | assumption) :
    PS X (.Assign [.Name x pos'] e pos) (tAsg te (gName i)) := by
  intro pins s σ H D I h
  refine wpAny_Assign_Name (thn (he pins s σ H _ I h) fun v s1 ⟨y, H1, I1, r1, q1⟩ => ?_) hs
  exact store_ok I1 hN hi hx r1 (fun s2 I2 => ⟨_, H1, I2, q1⟩) hf
end

section
variable {X : Cx} {pos : Pos}
end

structure It where
  go : Nat → Hp → Prop
  yld : Nat → Hp → V → Hp → Prop
  stop : Nat → Hp → Prop
def FpOk (X : Cx) (pins : List (Addr × Obj)) (H : Hp) (b : Addr) : Prop :=
  H b = none ∧ b ≠ X.env.locals ∧ b ∉ X.fs ∧ (b ∈ X.ex ∨ X.s₀.heap.objs.size ≤ b) ∧ (∀ x c, X.env.cells.lookup x = some c → c ≠ b) ∧ ∀ p ∈ X.pn ++ pins, p.1 ≠ b
theorem Inv.fpOk {X : Cx} {pins : List (Addr × Obj)} {σ : St} {H H' : Hp} {s : Shared} {b : Addr} (I : Inv X pins σ H s) (hb : s.heap.objs.size ≤ b) (hn : H' b = none) : FpOk X pins H' b := by
  refine ⟨hn, Nat.ne_of_gt (Nat.lt_of_lt_of_le I.lt hb), I.nofs hb, .inr (Nat.le_trans I.sz hb), fun x c e z => ?_, fun p hp z => ?_⟩
  · obtain ⟨v, q⟩ := I.cell x c e
    exact absurd (Nat.lt_of_lt_of_le q.lt (by rw [z]; exact hb)) (Nat.lt_irrefl _)
  · exact absurd (Nat.lt_of_lt_of_le (Heap.lt_size (I.pin p hp).1) (by rw [z]; exact hb)) (Nat.lt_irrefl _)
structure Turn (P : Program) (w : World) (K : PySem.W.Frag) (tg : Expr) (J : It) (fp : List Addr) (it : Addr) (tn : Nat → Heap → Prop) : Prop where
  mem : it ∈ fp
  obj : ∀ i h, tn i h → ∀ b ∈ fp, ∃ o, h.get? b = some o ∧ ∀ v, o.data ≠ .cell v
  keep : ∀ i h h', tn i h → (∀ b ∈ fp, ∀ o, h.get? b = some o → h'.get? b = some o) → tn i h'
  item : ∀ (X : Cx), X.prog = P → X.w = w → X.K = K → X.calm = true → ∀ (i : Nat) (pins : List (Addr × Obj)) (s : Shared) (σ : St) (H : Hp) (E : Value → Shared → Prop), Inv X pins σ H s → (∀ b ∈ fp, FpOk X pins H b) → tn i s.heap → J.go i H →
    wpAny (model P w) X.A (pyNext (.ref it)) (fun r s1 => ∃ u, r = some u ∧
      wpAny (model P w) X.A (letOwnedTupleGo tg (.ref it) u) (fun _ s2 => ∃ x H', Inv X pins σ H' s2 ∧ RelV x u ∧ J.yld i H x H' ∧ tn (i + 1) s2.heap ∧ ∀ b ∈ fp, H' b = none) E s1) E s
  done : ∀ (X : Cx), X.prog = P → X.w = w → X.K = K → X.calm = true → ∀ (i : Nat) (pins : List (Addr × Obj)) (s : Shared) (σ : St) (H : Hp) (E : Value → Shared → Prop), Inv X pins σ H s → (∀ b ∈ fp, FpOk X pins H b) → tn i s.heap → J.stop i H →
    wpAny (model P w) X.A (pyNext (.ref it)) (fun r s1 => r = none ∧ Inv X pins σ H s1) E s
  self : ∀ (A : Around) (i : Nat) (s : Shared) (Q : Value → Shared → Prop) (E : Value → Shared → Prop), tn i s.heap → Q (.ref it) s → wpAny (model P w) A (pyIter (.ref it)) Q E s
abbrev TI := St → Hp → (It → Hp → Prop) → Prop
def PIE (X : Cx) (pins : List (Addr × Obj)) (σ : St) (tg : Expr) (R : It → Hp → Prop) (itv : Value) (s2 : Shared) : Prop :=
  ∃ (it : Addr) (fp : List Addr) (tn : Nat → Heap → Prop) (J : It) (H' : Hp), itv = .ref it ∧ Inv X pins σ H' s2 ∧ Turn X.prog X.w X.K tg J fp it tn ∧ tn 0 s2.heap ∧ (∀ b ∈ fp, FpOk X pins H' b) ∧ R J H'
def PI (X : Cx) (tg iter : Expr) (wi : TI) : Prop :=
  ∀ (pins : List (Addr × Obj)) (s : Shared) (σ : St) (H : Hp) (R : It → Hp → Prop), Inv X pins σ H s → wi σ H R →
    wpAny (model X.prog X.w) X.A (eval iter X.env) (fun v s1 => wpAny (model X.prog X.w) X.A (pyIter v) (PIE X pins σ tg R) X.xe s1) X.xe s

theorem go_of {M : Model} {A : Around} {E : Value → Shared → Prop} {s : Shared} {tg : Expr} {it : Addr} {u : Value} {o : Obj} {n : String} {vs : Array Value} {Q : Unit → Shared → Prop} (ho : s.heap.get? it = some o) (hc : o.cls = .type n) (hd : o.data = .fields vs)
    (hn : ["enumerate", "zip", "dict_itemiterator", "dict_reverseitemiterator", "odict_iterator", "itertools.zip_longest", "itertools.pairwise"].contains n = false) (hQ : Q () s) : wpAny M A (letOwnedTupleGo tg (.ref it) u) Q E s := by
  unfold letOwnedTupleGo
  cases tg <;> first
    | exact wpAny_pure hQ
    | (cases u <;> first
        | exact wpAny_pure hQ
        | (refine wpAny_bind (wpAny_load ho ?_)
           rw [hc, hd]
           show wpAny M A (if (["enumerate", "zip", "dict_itemiterator", "dict_reverseitemiterator", "odict_iterator", "itertools.zip_longest", "itertools.pairwise"].contains n && vs[0]? == some (rawInt _)) = true then _ else _) Q E s
           rw [if_neg (by intro h; rw [hn, Bool.false_and] at h; cases h)]
           exact wpAny_pure hQ))

def Itl (K : PySem.W.Frag) (a : Addr) : It :=
  ⟨fun i H => ∃ xs x, SqL K H a xs ∧ xs[i]? = some x, fun i H x H' => H' = H ∧ ∀ xs, SqL K H a xs → xs[i]? = some x, fun i H => ∃ xs, SqL K H a xs ∧ xs.length ≤ i⟩
def Itt (K : PySem.W.Frag) (a : Addr) : It :=
  ⟨fun i H => ∃ xs x, SqT K H a xs ∧ xs[i]? = some x, fun i H x H' => H' = H ∧ ∀ xs, SqT K H a xs → xs[i]? = some x, fun i H => ∃ xs, SqT K H a xs ∧ xs.length ≤ i⟩
def Itr (lo : Int) (n : Nat) : It := ⟨fun i _ => i < n, fun i H x H' => H' = H ∧ x = .int (lo + i), fun i _ => n ≤ i⟩
theorem turn_list {P : Program} {w : World} {K : PySem.W.Frag} {tg : Expr} (a it : Addr) : Turn P w K tg (Itl K a) [it] it (fun i h => h.IsListIter it a i) where
  mem := by simp
  obj := fun i h st b hb => by
    have e : b = it := by simpa using hb
    subst e
    obtain ⟨o, e, c, d⟩ := st
    exact ⟨o, e, fun v z => by rw [d] at z; cases z⟩
  keep := fun i h h' st k => st.at fun o e => k it (by simp) o e
  item := by
    intro X hP hw hK hc i pins s σ H E I hf st hg
    subst hP hw hK
    obtain ⟨xs, x, hq, hx⟩ := hg
    obtain ⟨its, rv, p, hz⟩ := I.list hq
    obtain ⟨u, hu, ru⟩ := rv.get hx
    obtain ⟨f0, f1, f2, f3, f4, f5⟩ := hf it (by simp)
    refine wpAny_pyNext_list_item st p.isList (x := u) (by simpa using hu) fun h' st' sb => ?_
    have I1 : Inv X pins σ H { s with heap := h' } := I.turned (t' := s.toks) (fun b o hb e => (sb.2 b hb).trans e) f0 f1 f3 f4 f5
    obtain ⟨o, e, c, d⟩ := id st'
    exact ⟨u, rfl, go_of (s := { s with heap := h' }) e c d (by decide) ⟨x, H, I1, ru, ⟨rfl, fun ys hy => by rw [I.list_inj hy hq]; exact hx⟩, st', fun b hb => (hf b hb).1⟩⟩
  done := by
    intro X hP hw hK hc i pins s σ H E I hf st hg
    subst hP hw hK
    obtain ⟨xs, hq, hx⟩ := hg
    obtain ⟨its, rv, p, hz⟩ := I.list hq
    obtain ⟨f0, f1, f2, f3, f4, f5⟩ := hf it (by simp)
    have hl := rv.length
    exact wpAny_pyNext_list_end (I.ok.hd hc) st p.isList (by simp; omega) fun h' eb => ⟨rfl, I.turned (t' := s.toks) (fun b o hb e => eb b o hb e) f0 f1 f3 f4 f5⟩
  self := fun _ _ _ _ _ st h => wpAny_pyIter_listiter st h
theorem turn_range {P : Program} {w : World} {K : PySem.W.Frag} {tg : Expr} (it : Addr) (lo : Int) (n : Nat) : Turn P w K tg (Itr lo n) [it] it (fun i h => IsRangeIter h it (lo + (i : Nat) * 1) ((n : Int) - (i : Nat)) 1) where
  mem := by simp
  obj := fun i h st b hb => by
    have e : b = it := by simpa using hb
    subst e
    exact ⟨_, st, fun v z => by
      have z' : Data.fields _ = Data.cell v := z
      cases z'⟩
  keep := fun i h h' st k => k it (by simp) _ st
  item := by
    intro X hP hw hK hc i pins s σ H E I hf st hg
    subst hP hw hK
    obtain ⟨f0, f1, f2, f3, f4, f5⟩ := hf it (by simp)
    have W := Walks.range (prog := X.prog) (w := X.w) (I.ok.hd hc) it lo 1 n
    refine W.item i s _ _ hg st fun v h' tk hv st' kk => ?_
    obtain ⟨t, rfl⟩ := hv
    have I1 : Inv X pins σ H { s with heap := h', toks := tk } := I.turned (fun b o hb e => kk b o (by simpa using hb) e) f0 f1 f3 f4 f5
    refine ⟨_, rfl, go_of (s := { s with heap := h', toks := tk }) (n := "range_iterator") st' rfl rfl (by decide) ⟨.int (lo + i), H, I1, ⟨t, ?_⟩, ⟨rfl, rfl⟩, st', fun b hb => (hf b hb).1⟩⟩
    rw [Int.mul_one]
  done := by
    intro X hP hw hK hc i pins s σ H E I hf st hg
    subst hP hw hK
    obtain ⟨f0, f1, f2, f3, f4, f5⟩ := hf it (by simp)
    exact wpAny_pyNext_range_end (I.ok.hd hc) st (by have : n ≤ i := hg; omega) fun h' eb => ⟨rfl, I.turned (t' := s.toks) (fun b o hb e => eb b o hb e) f0 f1 f3 f4 f5⟩
  self := fun _ _ _ _ _ st h => wpAny_pyIter_rangeiter st h
end L2

namespace L2
open PySem PySem.Spec PyProof.Rows
section
variable {X : Cx} {tg : Expr}
def iList (K : PySem.W.Frag) (tl : TE) : TI := fun σ H R => tl σ H fun x H1 => ∃ a, x = .ref a ∧ (∃ xs, SqL K H1 a xs) ∧ R (Itl K a) H1
theorem pi_list {l : Expr} {tl : TE} (hl : PE X l tl) : PI X tg l (iList X.K tl) := by
  intro pins s σ H R I h
  refine thn (hl pins s σ H _ I h) fun v s1 ⟨x, H1, I1, r1, q1⟩ => ?_
  obtain ⟨a, e, ⟨xs, hq⟩, q⟩ := q1
  subst e
  cases r1
  obtain ⟨its, rv, p, hz⟩ := I1.list hq
  refine wpAny_pyIter_list p.isList ?_
  refine ⟨s1.heap.objs.size, [s1.heap.objs.size], _, _, H1, rfl, I1.kept (t' := s1.toks) fun b o e => Heap.get?_push_of_some _ e, turn_list a _, ⟨_, Heap.get?_push_size _ rfl, rfl, rfl⟩, fun b hb => ?_, q⟩
  have e : b = s1.heap.objs.size := by simpa using hb
  subst e
  exact I1.fpOk (Nat.le_refl _) (I1.hok.fresh (Nat.le_refl _))
theorem range_it {pins : List (Addr × Obj)} {σ : St} {H : Hp} {s : Shared} {R : It → Hp → Prop} {E : Value → Shared → Prop} {lo hi : Int} {t u v : Tok} {tk : Nat} (I : Inv X pins σ H s) (h1 : -(2 ^ 62) ≤ lo) (h2 : lo < 2 ^ 62) (h3 : -(2 ^ 62) ≤ hi) (h4 : hi < 2 ^ 62)
    (q : R (Itr lo (hi - lo).toNat) H) : wpAny (model X.prog X.w) X.A (pyIter (.ref s.heap.objs.size)) (PIE X pins σ tg R) E { s with heap := s.heap.push { cls := .type "range", data := .fields #[.int lo t, .int hi u, .int 1 v] }, toks := tk } := by
  refine wpAny_pyIter_range (IsRange.new ..) (small_one h1 h2 h3 h4) ?_
  have I1 : Inv X pins σ H { s with heap := s.heap.push { cls := .type "range", data := .fields #[.int lo t, .int hi u, .int 1 v] }, toks := tk } := I.kept fun b o e => Heap.get?_push_of_some _ e
  refine ⟨(s.heap.push { cls := .type "range", data := .fields #[.int lo t, .int hi u, .int 1 v] }).objs.size, [(s.heap.push { cls := .type "range", data := .fields #[.int lo t, .int hi u, .int 1 v] }).objs.size], _, _, H, rfl,
    I1.kept (t' := tk) fun b o e => Heap.get?_push_of_some _ e, turn_range _ lo (hi - lo).toNat, ?_, fun b hb => ?_, q⟩
  · have e1 : lo + ((0 : Nat) : Int) * 1 = lo := by simp
    have e2 : (((hi - lo).toNat : Nat) : Int) - ((0 : Nat) : Int) = Builtin.Range.rangeSize lo hi 1 := by rw [rangeSize_one]; split <;> omega
    show IsRangeIter _ _ (lo + ((0 : Nat) : Int) * 1) ((((hi - lo).toNat : Nat) : Int) - ((0 : Nat) : Int)) 1
    rw [e1, e2]
    exact Heap.get?_push_size _ rfl
  · have e : b = (s.heap.push { cls := .type "range", data := .fields #[.int lo t, .int hi u, .int 1 v] }).objs.size := by simpa using hb
    subst e
    exact I1.fpOk (Nat.le_refl _) (I1.hok.fresh (Nat.le_refl _))
def iRng1 (ta : TA) : TI := fun σ H R => ta σ H fun vs H1 => ∃ j : Int, vs = [.int j] ∧ -(2 ^ 62) ≤ j ∧ j < 2 ^ 62 ∧ R (Itr 0 j.toNat) H1
theorem pi_range1 {a : Expr} {ta : TA} {p pos : Pos} (hg : Gl X "range") (hm : X.mg "range" = none) (ha : PA X [a] ta) (hs : starEach [a] X.env = [(false, eval a X.env)] := by rfl) : PI X tg (.Call (.Name "range" p) [a] [] pos) (iRng1 ta) := by
  intro pins s σ H R I h
  refine Call_ (ld_blt I hg hm boot_range (PyProof.Rows.callWith_type1 (thn (ha pos pins s σ H _ I h) fun us s1 ⟨vs, H1, I1, r1, q1⟩ => ?_) hs rfl))
  obtain ⟨j, e, q1, q2, q⟩ := q1
  subst e
  cases r1 with
  | cons r rr =>
    cases rr
    obtain ⟨t, rfl⟩ := r
    exact call_range_1 (range_it I1 (by omega) (by omega) q1 q2 (by simpa using q))
def tFor (wi : TI) (g : TG) (tb : TS) : TS := fun D σ H => wi σ H fun J H1 => ∃ W : Nat → Nat → St → Hp → Prop, (∃ m, W 0 m σ H1) ∧ ∀ i m σ H, W i m σ H →
  (J.stop i H ∧ D.nx σ H) ∨ (J.go i H ∧ ∃ N : St → Hp → Prop, (∀ σ' H', N σ' H' → ∃ m', m' < m ∧ W (i + 1) m' σ' H') ∧ ∀ x H', J.yld i H x H' → g x σ H' fun σ2 H2 => tb { D with nx := N, ct := N, bk := D.nx } σ2 H2)
def pinsAt (fp : List Addr) (h : Heap) : List (Addr × Obj) := fp.filterMap fun b => (h.get? b).map fun o => (b, o)
theorem mem_pinsAt {fp : List Addr} {h : Heap} {b : Addr} {o : Obj} (hb : b ∈ fp) (e : h.get? b = some o) : (b, o) ∈ pinsAt fp h := List.mem_filterMap.mpr ⟨b, hb, by rw [e]; rfl⟩
theorem of_pinsAt {fp : List Addr} {h : Heap} {p : Addr × Obj} (hp : p ∈ pinsAt fp h) : p.1 ∈ fp ∧ h.get? p.1 = some p.2 := by
  obtain ⟨b, hb, e⟩ := List.mem_filterMap.mp hp
  cases q : h.get? b with
  | none => rw [q] at e; cases e
  | some o =>
    rw [q] at e
    have e' : (b, o) = p := Option.some.inj e
    subst e'
    exact ⟨hb, q⟩
theorem Inv.pinned {pins : List (Addr × Obj)} {σ : St} {H : Hp} {s : Shared} {fp : List Addr} (I : Inv X pins σ H s) (hf : ∀ b ∈ fp, FpOk X pins H b) (ho : ∀ b ∈ fp, ∃ o, s.heap.get? b = some o ∧ ∀ v, o.data ≠ .cell v) : Inv X (pins ++ pinsAt fp s.heap) σ H s :=
  I.pins_of fun p hp => (List.mem_append.mp hp).elim (fun z => I.pin p (List.mem_append_right _ z)) fun z => by
    obtain ⟨hb, e⟩ := of_pinsAt z
    obtain ⟨f0, f1, f2, _⟩ := hf p.1 hb
    obtain ⟨o, e', d⟩ := ho p.1 hb
    rw [e] at e'; cases e'
    exact ⟨e, f0, f1, f2, d⟩
theorem Inv.unpinned {pins pl : List (Addr × Obj)} {σ : St} {H : Hp} {s : Shared} (I : Inv X (pins ++ pl) σ H s) : Inv X pins σ H s := I.pins_of fun p hp => I.pin p (List.mem_append_right _ (List.mem_append_left _ hp))
theorem ps_for {iter : Expr} {body : List Stmt} {wi : TI} {g : TG} {tb : TS} {pos : Pos} (hp : PassesOwn (model X.prog X.w) X.A X.env X.xe) (hc : X.calm = true) (hi : PI X tg iter wi) (hg : PG X tg g) (hb : PSs X body tb)
    (hs : ∀ x, foldedSetIterable iter X.env x = pure x := by intro _; rfl) : PS X (.For tg iter body [] pos) (tFor wi g tb) := by
  intro pins s σ H D I h
  refine wpAny_For (thn (hi pins s σ H _ I h) fun v s1 h1 => thn h1 fun itv s2 h2 => ?_) hs
  obtain ⟨it, fp, tn, J, H2, e, I2, T, st2, f2, W, ⟨m0, w0⟩, turn⟩ := h2
  subst e
  have stat : ∀ {H' : Hp}, (∀ b ∈ fp, H' b = none) → ∀ b ∈ fp, FpOk X pins H' b := fun hn b hb => ⟨hn b hb, (f2 b hb).2⟩
  refine codeAny_forLoop_any (fun n s' => ∃ i σ' H', Inv X pins σ' H' s' ∧ tn i s'.heap ∧ (∀ b ∈ fp, H' b = none) ∧ W i n σ' H') ?_ m0 ⟨0, σ, H2, I2, st2, fun b hb => (f2 b hb).1, w0⟩
  rintro n s3 ⟨i, σ3, H3, I3, st3, fr3, w3⟩
  rcases turn i n σ3 H3 w3 with ⟨stop, qn⟩ | ⟨go, N, hN, step⟩
  · refine wpAny_passesOwn hp (thn (T.done X rfl rfl rfl hc i pins s3 σ3 H3 X.xe I3 (stat fr3) st3 stop) fun r s4 ⟨hr, I4⟩ => ?_)
    subst hr
    exact wpAny_execs_nil ⟨σ3, H3, I4, qn⟩
  · refine wpAny_passesOwn hp (thn (T.item X rfl rfl rfl hc i pins s3 σ3 H3 X.xe I3 (stat fr3) st3 go) fun r s4 ⟨u, hr, h4⟩ => ?_)
    subst hr
    refine wpAny_passesOwn hp (thn h4 fun _ s5 ⟨x, H5, I5, r5, y5, st5, fr5⟩ => ?_)
    have I5' := I5.pinned (stat fr5) (T.obj _ _ st5)
    refine wpAny_passesOwn hp (thn (hg _ s5 σ3 H5 x u _ I5' r5 (step x H5 y5)) fun _ s6 ⟨σ6, H6, I6, q6⟩ => ?_)
    refine wpAny_passesOwn hp (thn (hb _ s6 σ6 H6 _ I6 q6) fun f s7 q7 => ?_)
    have again : ∀ {σ7 : St} {H7 : Hp}, Inv X (pins ++ pinsAt fp s5.heap) σ7 H7 s7 → N σ7 H7 → ∃ m, m < n ∧ ∃ i σ' H', Inv X pins σ' H' s7 ∧ tn i s7.heap ∧ (∀ b ∈ fp, H' b = none) ∧ W i m σ' H' := fun {σ7 H7} I7 n7 => by
      obtain ⟨m', hm, w7⟩ := hN σ7 H7 n7
      refine ⟨m', hm, i + 1, σ7, H7, I7.unpinned, T.keep _ _ _ st5 fun b hb o e => (I7.pin (b, o) (List.mem_append_right _ (List.mem_append_right _ (mem_pinsAt hb e)))).1, fun b hb => ?_, w7⟩
      obtain ⟨o, e, d⟩ := T.obj _ _ st5 b hb
      exact (I7.pin (b, o) (List.mem_append_right _ (List.mem_append_right _ (mem_pinsAt hb e)))).2.1
    cases f with
    | next => obtain ⟨σ7, H7, I7, n7⟩ := q7; exact again I7 n7
    | cont => obtain ⟨σ7, H7, I7, n7⟩ := q7; exact again I7 n7
    | brk => obtain ⟨σ7, H7, I7, q7⟩ := q7; exact ⟨σ7, H7, I7.unpinned, q7⟩
    | ret v => obtain ⟨x7, σ7, H7, I7, r7, q7⟩ := q7; exact ⟨x7, σ7, H7, I7.unpinned, r7, q7⟩
end

theorem for_list {K : PySem.W.Frag} {a : Addr} {xs : List V} {g : TG} {tb : TS} {D : Ends} {σ : St} {H : Hp} (Pv : Nat → St → Hp → Prop) (h0 : Pv 0 σ H) (hl : ∀ i σ H, i ≤ xs.length → Pv i σ H → SqL K H a xs)
    (hs : ∀ i x σ H, xs[i]? = some x → Pv i σ H → g x σ H fun σ2 H2 => tb { D with nx := Pv (i + 1), ct := Pv (i + 1), bk := D.nx } σ2 H2) (hd : ∀ σ H, Pv xs.length σ H → D.nx σ H) :
    ∃ W : Nat → Nat → St → Hp → Prop, (∃ m, W 0 m σ H) ∧ ∀ i m σ H, W i m σ H →
      ((Itl K a).stop i H ∧ D.nx σ H) ∨ ((Itl K a).go i H ∧ ∃ N : St → Hp → Prop, (∀ σ' H', N σ' H' → ∃ m', m' < m ∧ W (i + 1) m' σ' H') ∧ ∀ x H', (Itl K a).yld i H x H' → g x σ H' fun σ2 H2 => tb { D with nx := N, ct := N, bk := D.nx } σ2 H2) := by
  refine ⟨fun i m σ H => m = xs.length - i ∧ i ≤ xs.length ∧ Pv i σ H, ⟨xs.length, by simp, Nat.zero_le _, h0⟩, ?_⟩
  rintro i m σ H ⟨rfl, hi, p⟩
  have q := hl i σ H hi p
  by_cases hlt : i < xs.length
  · refine .inr ⟨⟨xs, xs[i], q, by simp [hlt]⟩, Pv (i + 1), fun σ' H' p' => ⟨xs.length - (i + 1), by omega, rfl, hlt, p'⟩, fun x H' y => ?_⟩
    obtain ⟨e, y⟩ := y
    subst e
    exact hs i x σ _ (y xs q) p
  · have e : i = xs.length := by omega
    subst e
    exact .inl ⟨⟨xs, q, Nat.le_refl _⟩, hd σ H p⟩
theorem for_range {lo : Int} {n : Nat} {g : TG} {tb : TS} {D : Ends} {σ : St} {H : Hp} (Pv : Nat → St → Hp → Prop) (h0 : Pv 0 σ H)
    (hs : ∀ i σ H, i < n → Pv i σ H → g (.int (lo + i)) σ H fun σ2 H2 => tb { D with nx := Pv (i + 1), ct := Pv (i + 1), bk := D.nx } σ2 H2) (hd : ∀ σ H, Pv n σ H → D.nx σ H) :
    ∃ W : Nat → Nat → St → Hp → Prop, (∃ m, W 0 m σ H) ∧ ∀ i m σ H, W i m σ H →
      ((Itr lo n).stop i H ∧ D.nx σ H) ∨ ((Itr lo n).go i H ∧ ∃ N : St → Hp → Prop, (∀ σ' H', N σ' H' → ∃ m', m' < m ∧ W (i + 1) m' σ' H') ∧ ∀ x H', (Itr lo n).yld i H x H' → g x σ H' fun σ2 H2 => tb { D with nx := N, ct := N, bk := D.nx } σ2 H2) := by
  refine ⟨fun i m σ H => m = n - i ∧ i ≤ n ∧ Pv i σ H, ⟨n, by simp, Nat.zero_le _, h0⟩, ?_⟩
  rintro i m σ H ⟨rfl, hi, p⟩
  by_cases hlt : i < n
  · refine .inr ⟨hlt, Pv (i + 1), fun σ' H' p' => ⟨n - (i + 1), by omega, rfl, hlt, p'⟩, fun x H' y => ?_⟩
    obtain ⟨e, y⟩ := y
    subst e y
    exact hs i σ _ hlt p
  · have e : i = n := by omega
    subst e
    exact .inl ⟨Nat.le_refl _, hd σ H p⟩
end L2

namespace L2
open PySem PySem.Spec PyProof.Rows

abbrev R2 := V → V → Hp → VK → Prop
def OpR (X : Cx) (f : Value → Value → Sem Value) (r : R2) : Prop :=
  ∀ (pins : List (Addr × Obj)) (s : Shared) (σ : St) (H : Hp) (x y : V) (v u : Value) (Q : VK), Inv X pins σ H s → RelV x v → RelV y u → r x y H Q →
    wpAny (model X.prog X.w) X.A (f v u) (EP X pins σ Q) X.xe s
def UnR (X : Cx) (f : Value → Sem Value) (r : V → Hp → VK → Prop) : Prop :=
  ∀ (pins : List (Addr × Obj)) (s : Shared) (σ : St) (H : Hp) (x : V) (v : Value) (Q : VK), Inv X pins σ H s → RelV x v → r x H Q →
    wpAny (model X.prog X.w) X.A (f v) (EP X pins σ Q) X.xe s
def CallR (X : Cx) (f : Value) (r : List V → Hp → VK → Prop) : Prop :=
  ∀ (pins : List (Addr × Obj)) (s : Shared) (σ : St) (H : Hp) (xs : List V) (us : List Value) (Q : VK), Inv X pins σ H s → Vals xs us → r xs H Q →
    wpAny (model X.prog X.w) X.A (call f us) (EP X pins σ Q) X.xe s
def tOp (r : R2) (ta tb : TE) : TE := fun σ H Q => ta σ H fun x H1 => tb σ H1 fun y H2 => r x y H2 Q
def tUn (r : V → Hp → VK → Prop) (ta : TE) : TE := fun σ H Q => ta σ H fun x H1 => r x H1 Q
def rI (C : Int → Int → Prop) (g : Int → Int → V) : R2 := fun x y H Q => ∃ i j, x = .int i ∧ y = .int j ∧ C i j ∧ Q (g i j) H
def rI0 (g : Int → Int → V) : R2 := fun x y H Q => ∃ i j, x = .int i ∧ y = .int j ∧ Q (g i j) H
def rU (g : Int → V) : V → Hp → VK → Prop := fun x H Q => ∃ i, x = .int i ∧ Q (g i) H

section
variable {X : Cx} {a b c : Expr} {ta tb tc : TE} {pos : Pos}

theorem binT (ha : PE X a ta) (hb : PE X b tb) {pins : List (Addr × Obj)} {s : Shared} {σ : St} {H : Hp} {R : V → V → Hp → Prop} (I : Inv X pins σ H s)
    (h : ta σ H fun x H1 => tb σ H1 fun y H2 => R x y H2) {Q : Value → Shared → Prop} {f : Value → Value → Sem Value}
    (hf : ∀ v u s2 x y H2, Inv X pins σ H2 s2 → RelV x v → RelV y u → R x y H2 → wpAny (model X.prog X.w) X.A (f v u) Q X.xe s2) :
    wpAny (model X.prog X.w) X.A (eval a X.env) (fun v s₁ => wpAny (model X.prog X.w) X.A (eval b X.env) (fun u s₂ => wpAny (model X.prog X.w) X.A (f v u) Q X.xe s₂) X.xe s₁) X.xe s := by
  refine thn (ha pins s σ H _ I h) fun v s1 ⟨x, H1, I1, r1, q1⟩ => ?_
  refine thn (hb pins s1 σ H1 _ I1 q1) fun u s2 ⟨y, H2, I2, r2, q2⟩ => ?_
  exact hf v u s2 x y H2 I2 r1 r2 q2

theorem pe_op {op : Operator} {r : R2} (ho : OpR X (binaryOp op) r) (ha : PE X a ta) (hb : PE X b tb) : PE X (.BinOp a op b pos) (tOp r ta tb) := by
  intro pins s σ H Q I h
  exact wpAny_BinOp (binT ha hb I h fun v u s2 x y H2 I2 rx ry q => ho pins s2 σ H2 x y v u Q I2 rx ry q)
theorem pe_un {op : UnaryOp} {r : V → Hp → VK → Prop} (ho : UnR X (unaryOp op) r) (ha : PE X a ta) : PE X (.UnaryOp op a pos) (tUn r ta) := by
  intro pins s σ H Q I h
  exact UnaryOp_ (thn (ha pins s σ H _ I h) fun v s1 ⟨x, H1, I1, r1, q1⟩ => ho pins s1 σ H1 x v Q I1 r1 q1)
theorem opI {f : Value → Value → Sem Value} {C : Int → Int → Prop} {g : Int → Int → Int}
    (rule : ∀ (i j : Int) (t u : Tok) (s : Shared) (Q : Value → Shared → Prop) (E : Value → Shared → Prop), C i j → Q (.int (g i j) s.toks) { s with toks := s.toks + 1 } → wpAny (model X.prog X.w) X.A (f (.int i t) (.int j u)) Q E s) :
    OpR X f (rI C fun i j => .int (g i j)) := by
  intro pins s σ H x y v u Q I rx ry h
  obtain ⟨i, j, rfl, rfl, hc, q⟩ := h
  obtain ⟨t, rfl⟩ := rx
  obtain ⟨t', rfl⟩ := ry
  exact rule i j t t' s _ _ hc ⟨.int (g i j), H, I.tok _, ⟨_, rfl⟩, q⟩
theorem opI0 {f : Value → Value → Sem Value} {g : Int → Int → Int}
    (rule : ∀ (i j : Int) (t u : Tok) (s : Shared) (Q : Value → Shared → Prop) (E : Value → Shared → Prop), Q (.int (g i j) s.toks) { s with toks := s.toks + 1 } → wpAny (model X.prog X.w) X.A (f (.int i t) (.int j u)) Q E s) :
    OpR X f (rI0 fun i j => .int (g i j)) := by
  intro pins s σ H x y v u Q I rx ry h
  obtain ⟨i, j, rfl, rfl, q⟩ := h
  obtain ⟨t, rfl⟩ := rx
  obtain ⟨t', rfl⟩ := ry
  exact rule i j t t' s _ _ ⟨.int (g i j), H, I.tok _, ⟨_, rfl⟩, q⟩
theorem opB0 {f : Value → Value → Sem Value} {g : Int → Int → Bool}
    (rule : ∀ (i j : Int) (t u : Tok) (s : Shared) (Q : Value → Shared → Prop) (E : Value → Shared → Prop), Q (.bool (g i j)) s → wpAny (model X.prog X.w) X.A (f (.int i t) (.int j u)) Q E s) :
    OpR X f (rI0 fun i j => .bl (g i j)) := by
  intro pins s σ H x y v u Q I rx ry h
  obtain ⟨i, j, rfl, rfl, q⟩ := h
  obtain ⟨t, rfl⟩ := rx
  obtain ⟨t', rfl⟩ := ry
  exact rule i j t t' s _ _ ⟨.bl (g i j), H, I, rfl, q⟩

def CPow (i j : Int) : Prop := 0 ≤ j ∧ j ≤ 1000000 ∧ i.natAbs < 2 ^ 64
def CMul (i j : Int) : Prop := (-(2 ^ 64) < i ∧ i < 2 ^ 64) ∨ (-(2 ^ 64) < j ∧ j < 2 ^ 64)
theorem CMul.ok {i j : Int} (h : CMul i j) : IntMulOk i j := by
  rcases h with ⟨h1, h2⟩ | ⟨h1, h2⟩
  · exact .of_left (intBits_le_64 h1 h2)
  · exact .of_right (intBits_le_64 h1 h2)
theorem op_add : OpR X (binaryOp .Add) (rI0 fun i j => .int (i + j)) := opI0 fun _ _ _ _ _ _ _ q => add_int q
theorem op_sub : OpR X (binaryOp .Sub) (rI0 fun i j => .int (i - j)) := opI0 fun _ _ _ _ _ _ _ q => sub_int q
theorem op_mul : OpR X (binaryOp .Mult) (rI CMul fun i j => .int (i * j)) := opI fun _ _ _ _ _ _ _ hc q => mul_int q hc.ok
theorem op_mod : OpR X (binaryOp .Mod) (rI (fun _ j => 0 < j) fun i j => .int (i % j)) := opI fun i j _ _ _ _ _ hc q => by
  have h1 : (0 : Int) < j := hc
  exact mod_int' (by omega) (by rw [Int.fmod_eq_emod_of_nonneg i (by omega)]; exact q)
theorem op_pow : OpR X (binaryOp .Pow) (rI CPow fun i j => .int (i ^ j.toNat)) := opI fun _ _ _ _ _ _ _ hc q => pow_int_small hc.1 hc.2.1 hc.2.2 q
theorem unI {f : Value → Sem Value} {g : Int → Int}
    (rule : ∀ (i : Int) (t : Tok) (s : Shared) (Q : Value → Shared → Prop) (E : Value → Shared → Prop), Q (.int (g i) s.toks) { s with toks := s.toks + 1 } → wpAny (model X.prog X.w) X.A (f (.int i t)) Q E s) :
    UnR X f (rU fun i => .int (g i)) := by
  intro pins s σ H x v Q I rx h
  obtain ⟨i, rfl, q⟩ := h
  obtain ⟨t, rfl⟩ := rx
  exact rule i t s _ _ ⟨.int (g i), H, I.tok _, ⟨_, rfl⟩, q⟩
theorem un_neg : UnR X (unaryOp .USub) (rU fun i => .int (-i)) := unI fun _ _ _ _ _ q => neg_int q
end

def scal : V → V → Bool
  | .non, .non => true | .non, .int _ => true | .int _, .non => true | .non, .bl _ => true | .bl _, .non => true | .non, .str _ => true | .str _, .non => true
  | .int _, .int _ => true | .bl _, .bl _ => true | .str _, .str _ => true | .byt _, .byt _ => true
  | .int _, .str _ => true | .str _, .int _ => true | .bl _, .str _ => true | .str _, .bl _ => true
  | _, _ => false
def rEq : R2 := fun x y H Q => scal x y = true ∧ Q (.bl (decide (x = y))) H
def rNe : R2 := fun x y H Q => scal x y = true ∧ Q (.bl (!decide (x = y))) H

theorem dec_int {i j : Int} : decide (V.int i = V.int j) = (i == j) := by
  rw [Bool.eq_iff_iff]
  simp
theorem dec_bl {i j : Bool} : decide (V.bl i = V.bl j) = (i == j) := by
  rw [Bool.eq_iff_iff]
  simp
theorem dec_str {i j : Str} : decide (V.str i = V.str j) = (i == j) := by
  rw [Bool.eq_iff_iff]
  simp
theorem dec_byt {i j : Array UInt8} : decide (V.byt i = V.byt j) = (i.toList == j.toList) := by
  rw [Bool.eq_iff_iff]
  cases i
  cases j
  simp

section
variable {X : Cx} {a b c : Expr} {ta tb tc : TE} {pos : Pos}
theorem fin_bl {pins : List (Addr × Obj)} {σ : St} {H : Hp} {s : Shared} {Q : VK} {k k' : Bool} (I : Inv X pins σ H s) (q : Q (.bl k) H) (e : k = k') : EP X pins σ Q (.bool k') s := by
  subst e
  exact ⟨.bl k, H, I, rfl, q⟩
theorem op_eq : OpR X (compareOp .Eq) rEq := by
  intro pins s σ H x y v u Q I rx ry h
  obtain ⟨hs, q⟩ := h
  cases x with
  | non =>
    cases rx
    cases y with
    | non => cases ry; exact PySem.EqNone.eq_none_none (fin_bl I q (by simp))
    | bl j => cases ry; exact PySem.EqNone.eq_none_bool (fin_bl I q (by simp))
    | int j => obtain ⟨t', rfl⟩ := ry; exact PySem.EqNone.eq_none_int (fin_bl I q (by simp))
    | str j => obtain ⟨t', rfl⟩ := ry; exact PySem.EqNone.eq_none_str (fin_bl I q (by simp))
    | _ => exact absurd (show false = true from hs) Bool.false_ne_true
  | bl i =>
    cases rx
    cases y with
    | non => cases ry; exact PySem.EqNone.eq_bool_none (fin_bl I q (by simp))
    | bl j => cases ry; exact eq_bool (fin_bl I q dec_bl)
    | str j => obtain ⟨t', rfl⟩ := ry; exact PySem.EqMixed.eq_bool_str (fin_bl I q (by simp))
    | _ => exact absurd (show false = true from hs) Bool.false_ne_true
  | int i =>
    obtain ⟨t, rfl⟩ := rx
    cases y with
    | non => cases ry; exact PySem.EqNone.eq_int_none (fin_bl I q (by simp))
    | int j => obtain ⟨t', rfl⟩ := ry; exact eq_int (fin_bl I q dec_int)
    | str j => obtain ⟨t', rfl⟩ := ry; exact PySem.EqMixed.eq_int_str (fin_bl I q (by simp))
    | _ => exact absurd (show false = true from hs) Bool.false_ne_true
  | str i =>
    obtain ⟨t, rfl⟩ := rx
    cases y with
    | non => cases ry; exact PySem.EqNone.eq_str_none (fin_bl I q (by simp))
    | bl j => cases ry; exact PySem.EqMixed.eq_str_bool (fin_bl I q (by simp))
    | int j => obtain ⟨t', rfl⟩ := ry; exact PySem.EqMixed.eq_str_int (fin_bl I q (by simp))
    | str j => obtain ⟨t', rfl⟩ := ry; exact eq_str (fin_bl I q dec_str)
    | _ => exact absurd (show false = true from hs) Bool.false_ne_true
  | byt i =>
    obtain ⟨t, rfl⟩ := rx
    cases y with
    | byt j => obtain ⟨t', rfl⟩ := ry; exact PySem.W.eq_bytes (fin_bl I q dec_byt)
    | _ => exact absurd (show false = true from hs) Bool.false_ne_true
  | _ => cases y <;> exact absurd (show false = true from hs) Bool.false_ne_true
theorem op_ne : OpR X (compareOp .NotEq) rNe := by
  intro pins s σ H x y v u Q I rx ry h
  obtain ⟨hs, q⟩ := h
  cases x with
  | non =>
    cases rx
    cases y with
    | non => cases ry; exact PySem.EqNone.ne_none_none (fin_bl I q (by simp))
    | bl j => cases ry; exact PySem.EqNone.ne_none_bool (fin_bl I q (by simp))
    | int j => obtain ⟨t', rfl⟩ := ry; exact PySem.EqNone.ne_none_int (fin_bl I q (by simp))
    | str j => obtain ⟨t', rfl⟩ := ry; exact PySem.EqNone.ne_none_str (fin_bl I q (by simp))
    | _ => exact absurd (show false = true from hs) Bool.false_ne_true
  | bl i =>
    cases rx
    cases y with
    | non => cases ry; exact PySem.EqNone.ne_bool_none (fin_bl I q (by simp))
    | bl j => cases ry; exact ne_bool (fin_bl I q (congrArg not dec_bl))
    | str j => obtain ⟨t', rfl⟩ := ry; exact PySem.EqMixed.ne_bool_str (fin_bl I q (by simp))
    | _ => exact absurd (show false = true from hs) Bool.false_ne_true
  | int i =>
    obtain ⟨t, rfl⟩ := rx
    cases y with
    | non => cases ry; exact PySem.EqNone.ne_int_none (fin_bl I q (by simp))
    | int j => obtain ⟨t', rfl⟩ := ry; exact ne_int (fin_bl I q (congrArg not dec_int))
    | str j => obtain ⟨t', rfl⟩ := ry; exact PySem.EqMixed.ne_int_str (fin_bl I q (by simp))
    | _ => exact absurd (show false = true from hs) Bool.false_ne_true
  | str i =>
    obtain ⟨t, rfl⟩ := rx
    cases y with
    | non => cases ry; exact PySem.EqNone.ne_str_none (fin_bl I q (by simp))
    | bl j => cases ry; exact PySem.EqMixed.ne_str_bool (fin_bl I q (by simp))
    | int j => obtain ⟨t', rfl⟩ := ry; exact PySem.EqMixed.ne_str_int (fin_bl I q (by simp))
    | str j => obtain ⟨t', rfl⟩ := ry; exact ne_str (fin_bl I q (congrArg not dec_str))
    | _ => exact absurd (show false = true from hs) Bool.false_ne_true
  | byt i =>
    obtain ⟨t, rfl⟩ := rx
    cases y with
    | byt j => obtain ⟨t', rfl⟩ := ry; exact PySem.W.ne_bytes (fin_bl I q (congrArg not dec_byt))
    | _ => exact absurd (show false = true from hs) Bool.false_ne_true
  | _ => cases y <;> exact absurd (show false = true from hs) Bool.false_ne_true

theorem op_lt : OpR X (compareOp .Lt) (rI0 fun i j => .bl (decide (i < j))) := opB0 fun _ _ _ _ _ _ _ q => lt_int q
theorem op_le : OpR X (compareOp .LtE) (rI0 fun i j => .bl (decide (i ≤ j))) := opB0 fun _ _ _ _ _ _ _ q => le_int q
theorem op_gt : OpR X (compareOp .Gt) (rI0 fun i j => .bl (decide (j < i))) := opB0 fun _ _ _ _ _ _ _ q => gt_int q
theorem op_in_str : OpR X (compareOp .In) (fun x y H Q => ∃ i j, x = .str i ∧ y = .str j ∧ Q (.bl (!(Builtin.Str.occurrences j i 0 j.length 1).isEmpty)) H) := by
  intro pins s σ H x y v u Q I rx ry h
  obtain ⟨i, j, rfl, rfl, q⟩ := h
  obtain ⟨t, rfl⟩ := rx
  obtain ⟨t', rfl⟩ := ry
  exact in_str (fin_bl I q rfl)

theorem op_isN : OpR X (compareOp .Is) (fun x y H Q => y = .non ∧ Q (.bl (decide (x = .non))) H) := by
  intro pins s σ H x y v u Q I rx ry h
  obtain ⟨rfl, q⟩ := h
  cases ry
  refine is_none_gen (fin_bl I q ?_)
  cases x <;> first
    | (cases rx; rfl)
    | (obtain ⟨t, rfl⟩ := rx; rfl)
theorem nomark (b : Expr) {op : CmpOp} (h : op ≠ .In := by decide) (h2 : op ≠ .NotIn := by decide) : behindInMarks op b = false := by
  have e1 : (op == CmpOp.In) = false := by cases op <;> first | rfl | exact absurd rfl h
  have e2 : (op == CmpOp.NotIn) = false := by cases op <;> first | rfl | exact absurd rfl h2
  cases b <;> simp [behindInMarks, e1, e2]
theorem pe_cmpR {op : CmpOp} {r : R2} (ho : OpR X (compareOp op) r) (ha : PE X a ta) (hb : PE X b tb) (hm : behindInMarks op b = false) : PE X (.Compare a [op] [b] pos) (tOp r ta tb) := by
  intro pins s σ H Q I h
  exact wpAny_Compare1 (binT ha hb I h fun v u s2 x y H2 I2 rx ry q => ho pins s2 σ H2 x y v u Q I2 rx ry q) hm
def tTest (t : TE) : TT := fun σ H Q => t σ H fun x H' => ∃ k, x = .bl k ∧ Q k H'
theorem pt_cmpR {op : CmpOp} {r : R2} (ho : OpR X (compareOp op) r) (ha : PE X a ta) (hb : PE X b tb) (hm : behindInMarks op b = false) : PT X (.Compare a [op] [b] pos) (tTest (tOp r ta tb)) := by
  intro pins s σ H Q I h
  refine wpAny_isTrue_Compare1 (thn (ha pins s σ H _ I h) fun v s1 ⟨x, H1, I1, r1, q1⟩ => thn (hb pins s1 σ H1 _ I1 q1) fun u s2 ⟨y, H2, I2, r2, q2⟩ =>
    thn (ho pins s2 σ H2 x y v u _ I2 r1 r2 q2) fun c s3 ⟨z, H3, I3, r3, k, e, q3⟩ => ?_) hm
  subst e
  cases r3
  exact wpAny_truthy_bool ⟨H3, I3, q3⟩
def tChain (r r' : R2) (ta tb tc : TE) : TE := fun σ H Q => ta σ H fun x H1 => tb σ H1 fun y H2 => r x y H2 fun z H3 => ∃ k, z = .bl k ∧
  (if k = true then tc σ H3 fun w' H4 => r' y w' H4 Q else Q (.bl false) H3)
theorem pe_chain {op op' : CmpOp} {r r' : R2} (ho : OpR X (compareOp op) r) (ho' : OpR X (compareOp op') r') (ha : PE X a ta) (hb : PE X b tb) (hc : PE X c tc)
    (hm : lastMarks [op, op'] [b, c] = false := by with_unfolding_all rfl) : PE X (.Compare a [op, op'] [b, c] pos) (tChain r r' ta tb tc) := by
  intro pins s σ H Q I h
  refine Compare_chain (thn (ha pins s σ H _ I h) fun v s1 ⟨x, H1, I1, r1, q1⟩ => chain_link (thn (hb pins s1 σ H1 _ I1 q1) fun u s2 ⟨y, H2, I2, r2, q2⟩ =>
    thn (ho pins s2 σ H2 x y v u _ I2 r1 r2 q2) fun d s3 ⟨z, H3, I3, r3, k, e, q3⟩ => ?_)) hm
  subst e
  cases r3
  refine wpAny_truthy_bool ?_
  cases k with
  | false => exact ite_ff ⟨.bl false, H3, I3, rfl, q3⟩
  | true => exact ite_tt (chain_last (thn (hc pins s3 σ H3 _ I3 q3) fun w' s4 ⟨z', H4, I4, r4, q4⟩ => ho' pins s4 σ H4 y z' u w' Q I4 r2 r4 q4))
theorem pt_chain {op op' : CmpOp} {r r' : R2} (ho : OpR X (compareOp op) r) (ho' : OpR X (compareOp op') r') (ha : PE X a ta) (hb : PE X b tb) (hc : PE X c tc)
    (hm : lastMarks [op, op'] [b, c] = false := by with_unfolding_all rfl) : PT X (.Compare a [op, op'] [b, c] pos) (tTest (tChain r r' ta tb tc)) := by
  intro pins s σ H Q I h
  refine isTrue_chain (thn (ha pins s σ H _ I h) fun v s1 ⟨x, H1, I1, r1, q1⟩ => test_link (thn (hb pins s1 σ H1 _ I1 q1) fun u s2 ⟨y, H2, I2, r2, q2⟩ =>
    thn (ho pins s2 σ H2 x y v u _ I2 r1 r2 q2) fun d s3 ⟨z, H3, I3, r3, k, e, q3⟩ => ?_)) hm
  subst e
  cases r3
  refine wpAny_truthy_bool ?_
  cases k with
  | false =>
    obtain ⟨k', e', q'⟩ := q3
    cases e'
    exact ite_ff ⟨H3, I3, q'⟩
  | true =>
    refine ite_tt (test_last (thn (hc pins s3 σ H3 _ I3 q3) fun w' s4 ⟨z', H4, I4, r4, q4⟩ => thn (ho' pins s4 σ H4 y z' u w' _ I4 r2 r4 q4) fun d' s5 ⟨z2, H5, I5, r5, k2, e2, q5⟩ => ?_))
    subst e2
    cases r5
    exact wpAny_truthy_bool ⟨H5, I5, q5⟩

theorem line63 : (sizeLine : Nat) < 2 ^ 63 := by rw [sizeLine_eq]; decide
theorem op_add_str : OpR X (binaryOp .Add) (fun x y H Q => ∃ i j, x = .str i ∧ y = .str j ∧ i.length + j.length ≤ sizeLine ∧ Q (.str (i ++ j)) H) := by
  intro pins s σ H x y v u Q I rx ry h
  obtain ⟨i, j, rfl, rfl, hz, q⟩ := h
  obtain ⟨t, rfl⟩ := rx
  obtain ⟨t', rfl⟩ := ry
  exact add_str (fun t' tk => ⟨.str (i ++ j), H, I.tok _, ⟨_, rfl⟩, q⟩) hz
theorem vals1 {x : V} {us : List Value} (r : Vals [x] us) : ∃ u, us = [u] ∧ RelV x u := by
  cases r with
  | cons r1 r2 => cases r2; exact ⟨_, rfl, r1⟩
theorem vals2 {x y : V} {us : List Value} (r : Vals [x, y] us) : ∃ u w', us = [u, w'] ∧ RelV x u ∧ RelV y w' := by
  cases r with
  | cons r1 r2 =>
    cases r2 with
    | cons r3 r4 => cases r4; exact ⟨_, _, rfl, r1, r3⟩
theorem call_max2 (hc : X.calm = true) : CallR X (.builtin "max") (fun xs H Q => ∃ i j, xs = [.int i, .int j] ∧ Q (.int (if j > i then j else i)) H) := by
  intro pins s σ H xs us Q I r h
  obtain ⟨i, j, rfl, q⟩ := h
  obtain ⟨u, w', rfl, ⟨t, rfl⟩, ⟨t', rfl⟩⟩ := vals2 r
  refine max_two_ints (I.ok.hd hc) fun h' tk k => ⟨_, H, I.kept k, ?_, q⟩
  by_cases hj : j > i
  · rw [if_pos hj, if_pos hj]; exact ⟨_, rfl⟩
  · rw [if_neg hj, if_neg hj]; exact ⟨_, rfl⟩
end
end L2

namespace L2
open PySem PySem.Spec PyProof.Rows

structure ObjM (h : Heap) (x dx C : Addr) (mA : Str → Option Value) : Prop where
  obj : h.get? x = some (PySem.W.instObj C dx)
  ns : h.Ns1 dx mA
  ne : dx ≠ x

theorem lookIn_ns {h : Heap} {dx : Addr} {mA : Str → Option Value} (n : h.Ns1 dx mA) : ∃ od, h.get? dx = some od ∧ ∀ name, PySem.W.lookIn name od = some (mA name) := by
  obtain ⟨o, es, ep, ho, hd, hk, _, hm⟩ := n
  refine ⟨o, ho, fun name => ?_⟩
  have e := hm name
  unfold nsFind findBy at e
  rw [← Array.find?_toList] at e
  unfold PySem.W.lookIn
  rw [hd]
  dsimp only
  split
  · rename_i y q
    rw [q] at e
    exact congrArg some e
  · rename_i q
    rw [q] at e
    have a : es.toList.any (·.refKey) = false := by
      rw [List.any_eq_false]
      intro y hy
      obtain ⟨z, t, hkey⟩ := hk y (Array.mem_toList_iff.mp hy)
      simp [DictEntry.refKey, hkey]
    have a' : ¬ es.toList.any (·.refKey) = true := by rw [a]; exact Bool.false_ne_true
    rw [if_neg a']
    exact congrArg some e

theorem ObjM.look {h : Heap} {x dx C : Addr} {mA : Str → Option Value} (I : ObjM h x dx C mA) : ∃ od, PySem.W.InstAt h x (PySem.W.instObj C dx) C (some od) ∧ ∀ name, PySem.W.lookIn name od = some (mA name) :=
  let ⟨od, ho, hl⟩ := lookIn_ns I.ns
  ⟨od, ⟨I.obj, rfl, rfl, ho⟩, hl⟩

section
variable {prog : Program} {w : World} {A : Around} {E : Value → Shared → Prop} {s : Shared} {K : PySem.W.Frag} {x dx C f : Addr} {mA : Str → Option Value} {name : Str} {v : Value}

theorem get_map {expr : Bool} {Q : Value → Shared → Prop} (X : K.In s.heap) (I : ObjM s.heap x dx C mA) (hg : PySem.W.plainGet K C name = true) (hh : PySem.W.hasDictIn K C = true)
    (ha : PySem.W.findIn K (.ref C) name = some none) (hv : mA name = some v) (hv' : PySem.W.handedIn v = true) (h : Q v { s with toks := s.toks + 1 }) :
    wpAny (model prog w) A (getAttr (.ref x) name expr) Q E s := by
  obtain ⟨od, J, hl⟩ := I.look
  exact PySem.W.get_value X J (PySem.W.plainGet_of hg).1 (PySem.W.findObj_own hh ha rfl (by rw [hl, hv])) hv' h

theorem get_meth {pl : Sem Bool} {Q : Value × List Value → Shared → Prop} (X : K.In s.heap) (I : ObjM s.heap x dx C mA) (hg : PySem.W.plainGet K C name = true)
    (hf : PySem.W.findIn K (.ref C) name = some (some (.ref f))) (ht : PySem.W.isFn K (.ref f) = true) (hv : mA name = none) (h : Q (.ref f, [.ref x]) s) :
    wpAny (model prog w) A (getMethod (.ref x) name pl) Q E s := by
  obtain ⟨od, J, hl⟩ := I.look
  exact PySem.W.method_fn X J (PySem.W.plainGet_of hg).1 (PySem.W.plainGet_of hg).2 hf (beq_iff_eq.mp ht) (by show (PySem.W.lookIn name od).map (·.isSome) = some false; rw [hl, hv]; rfl) h

theorem set_map {ns : List Str} {Q : Unit → Shared → Prop} (X : K.In s.heap) (I : ObjM s.heap x dx C mA)
    (hs : PySem.W.findIn K (.ref C) "__setattr__" = some (some (.builtin "object.__setattr__"))) (hp : PySem.W.plainOver K C = true) (ht : PySem.W.takerIn K C name = some none) (hh : PySem.W.hasDictIn K C = true)
    (hw : PySem.Within mA ns) (hsz : ns.length ≤ sizeLine)
    (h : ∀ h', ObjM h' x dx C (fun y => if y = name then some v else mA y) → Heap.SameBut dx s.heap h' → Q () { s with heap := h', toks := s.toks + 2 }) :
    wpAny (model prog w) A (setAttr (.ref x) name v) Q E s := by
  obtain ⟨od, J, hl⟩ := I.look
  refine PySem.W.set_plain X J hs (PySem.W.osa_open (s := { s with toks := s.toks + 1 }) (r := none) X J hp ht fun b => ?_)
  obtain ⟨cd, hc, hd'⟩ := PySem.W.any_some hh
  have hx : s.heap.get? x = some ⟨.ref C, some dx, .plain, #[]⟩ := I.obj
  refine wpAny_bind (wpAny_pure (wpAny_bind (wpAny_bind (wpAny_loadPart hx (wpAny_bind (PySem.W.Looks.here (s := { s with toks := s.toks + 1 }) (PySem.W.looks_clsIn X hc) ?_))))))
  rw [hd']
  refine wpAny_pure (a := some dx) (wpAny_bind (wpAny_pure (wpAny_bind ?_)))
  refine wpAny_nsSet1 (s := { s with toks := s.toks + 1 }) I.ns fun h' hn2 hs2 => ?_
  obtain ⟨oD, esD, epD, hoD, hdD, hcD⟩ := hn2.count (PySem.Within.cons name v hw)
  refine wpAny_bind (wpAny_lookBehind hoD (by rw [hdD]; exact pastItsLine_dict (Nat.le_trans hcD (by rw [List.length_cons]; omega))) ?_)
  exact wpAny_pure (h _ ⟨(hs2.2 _ (Ne.symm I.ne)).trans I.obj, hn2, I.ne⟩ hs2)

theorem make_map {R : Result → Shared → Prop} {vs : List Value} {kw : List (Str × Value)} (X : K.In s.heap) (hm : PySem.W.makesIn K C = true)
    (hi : PySem.W.findIn K (.ref C) "__init__" = some (some (.ref f))) (hf : PySem.W.typeIn K (.ref f) = some (.type "function"))
    (h : codeAny (model prog w) (A.under (.builtin "type.__call__" ⟨.ref C :: vs, kw⟩)) (.call (.ref f) ⟨.ref (s.heap.objs.size + 1) :: vs, kw⟩) (PySem.W.InitBack (s.heap.objs.size + 1) R)
      { s with heap := (s.heap.push PySem.W.emptyDict).push (PySem.W.instObj C s.heap.objs.size) }) :
    codeAny (model prog w) A (.call (.ref C) ⟨vs, kw⟩) R s := by
  obtain ⟨hh, g, d, t, os⟩ := s
  exact PySem.W.make_core (PySem.W.makes_of X hm) (PySem.W.looks_findIn X hi) (fun self => PySem.W.bind_fn X self hf) (.inl rfl) h
end

def putF (f : Str) (v : V) : List (Str × V) → List (Str × V)
  | [] => [(f, v)]
  | (g, x) :: r => if g = f then (g, v) :: r else (g, x) :: putF f v r
theorem lookup_putF (f g : Str) (v : V) : ∀ fs : List (Str × V), (putF f v fs).lookup g = if g = f then some v else fs.lookup g
  | [] => by
    show List.lookup g [(f, v)] = _
    by_cases h : g = f
    · have hb : (g == f) = true := beq_iff_eq.mpr h
      simp only [List.lookup, hb, if_pos h]
    · have hb : (g == f) = false := beq_eq_false_iff_ne.mpr h
      simp only [List.lookup, hb, if_neg h]
  | (k, x) :: r => by
    have ih := lookup_putF f g v r
    rw [show putF f v ((k, x) :: r) = (if k = f then (k, v) :: r else (k, x) :: putF f v r) from rfl]
    by_cases hk : k = f
    · rw [if_pos hk]
      by_cases h : g = k
      · have hb : (g == k) = true := beq_iff_eq.mpr h
        simp only [List.lookup, hb, if_pos (h.trans hk)]
      · have hb : (g == k) = false := beq_eq_false_iff_ne.mpr h
        simp only [List.lookup, hb, if_neg (fun e : g = f => h (e.trans hk.symm))]
    · rw [if_neg hk]
      by_cases h : g = k
      · have hb : (g == k) = true := beq_iff_eq.mpr h
        simp only [List.lookup, hb, if_neg (fun e : g = f => hk (h.symm.trans e))]
      · have hb : (g == k) = false := beq_eq_false_iff_ne.mpr h
        simp only [List.lookup, hb]
        exact ih
theorem keys_putF (f : Str) (v : V) : ∀ fs : List (Str × V), f ∈ (putF f v fs).map (·.1) ∧ ∀ g, g ∈ fs.map (·.1) → g ∈ (putF f v fs).map (·.1)
  | [] => ⟨by simp [putF], fun g h => by simp at h⟩
  | (k, x) :: r => by
    obtain ⟨i1, i2⟩ := keys_putF f v r
    rw [show putF f v ((k, x) :: r) = (if k = f then (k, v) :: r else (k, x) :: putF f v r) from rfl]
    by_cases hk : k = f
    · rw [if_pos hk]
      subst hk
      exact ⟨by simp, fun g h => by simpa using h⟩
    · rw [if_neg hk]
      refine ⟨?_, fun g h => ?_⟩
      · rw [List.map_cons]
        exact List.mem_cons_of_mem _ i1
      · rw [List.map_cons] at h ⊢
        rcases List.mem_cons.mp h with e | e
        · exact List.mem_cons.mpr (.inl e)
        · exact List.mem_cons_of_mem _ (i2 g e)
theorem length_putF (f : Str) (v : V) : ∀ fs : List (Str × V), (putF f v fs).length ≤ fs.length + 1
  | [] => by simp [putF]
  | (k, x) :: r => by
    have ih := length_putF f v r
    rw [show putF f v ((k, x) :: r) = (if k = f then (k, v) :: r else (k, x) :: putF f v r) from rfl]
    by_cases hk : k = f
    · rw [if_pos hk, List.length_cons, List.length_cons]; omega
    · rw [if_neg hk, List.length_cons, List.length_cons]; omega

theorem RelO.some_of {v : V} {o : Option Value} (r : RelO (some v) o) : ∃ u, o = some u ∧ RelV v u := by
  cases o with
  | none => exact (show False from r).elim
  | some u => exact ⟨u, rfl, r⟩
theorem RelO.none_of {o : Option Value} (r : RelO none o) : o = none := by
  cases o with
  | none => rfl
  | some u => exact (show False from r).elim
theorem handed_of {v : V} {u : Value} (r : RelV v u) : PySem.W.handedIn u = true := by
  cases v with
  | non => cases (show u = Value.none from r); rfl
  | bl b => cases (show u = Value.bool b from r); rfl
  | int i => obtain ⟨t, e⟩ := (show ∃ t, u = Value.int i t from r); cases e; rfl
  | str x => obtain ⟨t, e⟩ := (show ∃ t, u = Value.str x t from r); cases e; rfl
  | byt b => obtain ⟨t, e⟩ := (show ∃ t, u = Value.bytes b t from r); cases e; rfl
  | flt b => obtain ⟨t, e⟩ := (show ∃ t, u = Value.float b t from r); cases e; rfl
  | ref a => cases (show u = Value.ref a from r); rfl
  | ty n => cases (show u = Value.type n from r); rfl

section
variable {P : Program} {w : World} {H H' : Hp} {h h' : Heap} {a C dx : Addr} {fs fs' : List (Str × V)}
theorem ins_get (hok : HOk P w H h) (e : H a = some (.ins C dx fs)) : ∃ mA, ObjM h a dx C mA ∧ (∀ f, RelO (fs.lookup f) (mA f)) ∧ PySem.Within mA (fs.map (·.1)) ∧ fs.length ≤ 1000 ∧ H dx = some (.own a) := by
  obtain ⟨d, z, ne, ob, mA, n, r, q⟩ := (show ObjOk P w H h a (.ins C dx fs) from hok a _ e)
  exact ⟨mA, ⟨ob, n, ne⟩, r, q, z, d⟩
end

structure Cls (K : PySem.W.Frag) (C : Addr) : Prop where
  pg : PySem.W.plainGet K C Str.empty = true
  hd : PySem.W.hasDictIn K C = true
  po : PySem.W.plainOver K C = true
  sa : PySem.W.findIn K (.ref C) "__setattr__" = some (some (.builtin "object.__setattr__"))
theorem Cls.get {K : PySem.W.Frag} {C : Addr} (c : Cls K C) (f : Str) : PySem.W.plainGet K C f = true := c.pg
def NoAttr (K : PySem.W.Frag) (C : Addr) (f : Str) : Prop := PySem.W.findIn K (.ref C) f = some none
theorem NoAttr.taker {K : PySem.W.Frag} {C : Addr} {f : Str} (n : NoAttr K C f) : PySem.W.takerIn K C f = some none := by
  unfold PySem.W.takerIn
  rw [show PySem.W.findIn K (.ref C) f = some none from n]
  rfl
structure Con (K : PySem.W.Frag) (C : Addr) (f : Str) (v : V) (u : Value) : Prop where
  at_ : PySem.W.findIn K (.ref C) f = some (some u)
  rel : RelV v u
  get : PySem.W.specialIn K u "__get__" = some none
  cp : PySem.W.copiedNames.contains f = false
structure Meth (K : PySem.W.Frag) (C : Addr) (m : Str) (f : Addr) : Prop where
  at_ : PySem.W.findIn K (.ref C) m = some (some (.ref f))
  fn : PySem.W.isFn K (.ref f) = true
  kp : PySem.W.keepIn K (.ref f) = true

section
variable {X : Cx} {pins : List (Addr × Obj)} {σ : St} {H : Hp} {s : Shared} {a C dx : Addr} {fs : List (Str × V)} {f : Str} {v : V} {A : Around} {E : Value → Shared → Prop}

theorem getattr_ok {b : Bool} {Q : Value → Shared → Prop} (I : Inv X pins σ H s) (e : H a = some (.ins C dx fs)) (c : Cls X.K C) (n : NoAttr X.K C f) (l : fs.lookup f = some v)
    (h : ∀ u s', Inv X pins σ H s' → RelV v u → Q u s') : wpAny (model X.prog X.w) A (getAttr (.ref a) f b) Q E s := by
  obtain ⟨mA, O, r, _, _, _⟩ := ins_get I.hok e
  obtain ⟨u, hu, ru⟩ := RelO.some_of (v := v) (o := mA f) (by rw [← l]; exact r f)
  exact get_map I.kIn O (c.get f) c.hd n hu (handed_of ru) (h u _ (I.tok _) ru)

theorem getmeth_ok {m : Str} {g : Addr} {pl : Sem Bool} {Q : Value × List Value → Shared → Prop} (I : Inv X pins σ H s) (e : H a = some (.ins C dx fs)) (c : Cls X.K C) (k : Meth X.K C m g) (l : fs.lookup m = none)
    (h : Q (.ref g, [.ref a]) s) : wpAny (model X.prog X.w) A (getMethod (.ref a) m pl) Q E s := by
  obtain ⟨mA, O, r, _, _, _⟩ := ins_get I.hok e
  have hn : mA m = none := RelO.none_of (by rw [← l]; exact r m)
  exact get_meth I.kIn O (c.get m) k.at_ k.fn hn h

theorem setattr_ok {y : V} {u : Value} {Q : Unit → Shared → Prop} (I : Inv X pins σ H s) (e : H a = some (.ins C dx fs)) (c : Cls X.K C) (n : NoAttr X.K C f) (hl : fs.length < 1000) (ry : RelV y u)
    (h : ∀ s', Inv X pins σ (upd H a (.ins C dx (putF f y fs))) s' → Q () s') : wpAny (model X.prog X.w) A (setAttr (.ref a) f u) Q E s := by
  obtain ⟨mA, O, r, wi, _, ho⟩ := ins_get I.hok e
  have hz : (fs.map (·.1)).length ≤ sizeLine := by rw [List.length_map, sizeLine_eq]; omega
  refine set_map I.kIn O c.sa c.po n.taker c.hd wi hz fun h' O' sb => h _ ?_
  have hd : ∃ o, h'.get? dx = some o := let ⟨o, _, _, e', _⟩ := O'.ns; ⟨o, e'⟩
  refine I.write (x := a) (e := dx) (by rw [e]; exact True.intro) (.inr ho) (fun b q hb z => (sb.2 b hb).trans z) hd ?_
  refine ⟨by rw [upd_ne O.ne]; exact ho, ?_, O.ne, O'.obj, _, O'.ns, fun g => ?_, fun g hg => ?_⟩
  · have := length_putF f y fs; omega
  · show RelO ((putF f y fs).lookup g) (if g = f then some u else mA g)
    rw [lookup_putF]
    by_cases q : g = f
    · rw [if_pos q, if_pos q]; exact ry
    · rw [if_neg q, if_neg q]; exact r g
  · by_cases q : g = f
    · rw [q]; exact (keys_putF f y fs).1
    · refine (keys_putF f y fs).2 g (wi g fun z => hg ?_)
      show (if g = f then some u else mA g) = none
      rw [if_neg q]; exact z

theorem Inv.made (I : Inv X pins σ H s) : Inv X pins σ (upd (upd H s.heap.objs.size (.own (s.heap.objs.size + 1))) (s.heap.objs.size + 1) (.ins C s.heap.objs.size []))
    { s with heap := (s.heap.push PySem.W.emptyDict).push (PySem.W.instObj C s.heap.objs.size) } := by
  have e1 : (s.heap.push PySem.W.emptyDict).get? s.heap.objs.size = some PySem.W.emptyDict := Heap.get?_push_size s.heap rfl
  have e2 : ((s.heap.push PySem.W.emptyDict).push (PySem.W.instObj C s.heap.objs.size)).get? (s.heap.objs.size + 1) = some (PySem.W.instObj C s.heap.objs.size) := by
    have := Heap.get?_push_size (s.heap.push PySem.W.emptyDict) (o := PySem.W.instObj C s.heap.objs.size) rfl
    rwa [Heap.size_push] at this
  have e3 : (s.heap.push PySem.W.emptyDict).Ns s.heap.objs.size (fun _ => none) := ⟨PySem.W.emptyDict, #[], _, e1, rfl, (fun e he => absurd he (by simp)), fun _ => rfl⟩
  have I1 := I.laid (a := s.heap.objs.size) (o := .own (s.heap.objs.size + 1)) (h' := s.heap.push PySem.W.emptyDict) (t' := s.toks) (fun b u q => Heap.get?_push_of_some _ q) (Nat.le_refl _) ⟨_, e1⟩
  refine I1.laid (a := s.heap.objs.size + 1) (o := .ins C s.heap.objs.size []) (t' := s.toks) (fun b u q => Heap.get?_push_of_some _ q) (Nat.le_of_eq (Heap.size_push _ _)) ?_
  have ne : s.heap.objs.size ≠ s.heap.objs.size + 1 := Nat.ne_of_lt (Nat.lt_succ_self _)
  refine ⟨by rw [upd_ne ne, upd_same], Nat.zero_le _, ne, e2, fun _ => none, (Heap.Ns1.of_empty e3).at fun o q => Heap.get?_push_of_some _ q, fun _ => True.intro, fun y hy => absurd rfl hy⟩

theorem attr_of {prog : Program} {w : World} {env : Env} {e : Expr} {f : Str} {pos : Pos} {s : Shared} {Q : Value → Shared → Prop} (hb : attributeBase e f env (eval e env) = eval e env)
    (h : wpAny (model prog w) A (eval e env) (fun o s₁ => wpAny (model prog w) A (getAttr o f true) Q E s₁) E s) : wpAny (model prog w) A (eval (.Attribute e f pos) env) Q E s :=
  Attribute_any_ h (by rw [arm_eval_Attribute, hb])
end

def tFld (K : PySem.W.Frag) (ta : TE) (f : Str) : TE := fun σ H Q => ta σ H fun x H1 => ∃ a C dx fs v, x = .ref a ∧ H1 a = some (.ins C dx fs) ∧ Cls K C ∧ NoAttr K C f ∧ fs.lookup f = some v ∧ Q v H1
def sFld (K : PySem.W.Frag) (ta tv : TE) (f : Str) : TS := fun D σ H => tv σ H fun y H1 => ta σ H1 fun x H2 => ∃ a C dx fs, x = .ref a ∧ H2 a = some (.ins C dx fs) ∧ Cls K C ∧ NoAttr K C f ∧ fs.length < 1000 ∧
  D.nx σ (upd H2 a (.ins C dx (putF f y fs)))
section
variable {X : Cx} {o e value : Expr} {f : Str} {pos pos' tpos : Pos} {ta tv : TE}
theorem pe_fld (he : PE X e ta) (hb : attributeBase e f X.env (eval e X.env) = eval e X.env) : PE X (.Attribute e f pos) (tFld X.K ta f) := by
  intro pins s σ H Q I h
  refine attr_of hb (thn (he pins s σ H _ I h) fun u s1 ⟨x, H1, I1, rx, a, C, dx, fs, v, ex, ea, c, n, l, q⟩ => ?_)
  subst ex
  obtain rfl : u = Value.ref a := rx
  exact getattr_ok I1 ea c n l fun u' s2 I2 ru => ⟨v, H1, I2, ru, q⟩
theorem ps_fld (ha : PE X o ta) (hv : PE X value tv) (hs : swapsWith value (some (.Attribute o f pos')) pos.line X.env = pure false) : PS X (.Assign [.Attribute o f pos'] value pos) (sFld X.K ta tv f) := by
  intro pins s σ H D I h
  refine plainObj_wpAny_Assign_Attribute (thn (hv pins s σ H _ I h) fun u s1 ⟨y, H1, I1, ry, q⟩ => thn (ha pins s1 σ H1 _ I1 q) fun ov s2 ⟨x, H2, I2, rx, a, C, dx, fs, ex, ea, c, n, l, q2⟩ => ?_) hs
  subst ex
  obtain rfl : ov = Value.ref a := rx
  exact setattr_ok I2 ea c n l ry fun s3 I3 => ⟨σ, _, I3, q2⟩
end

section
variable {X : Cx} {pins : List (Addr × Obj)} {σ : St} {H : Hp} {s : Shared} {A : Around} {E : Value → Shared → Prop} {Q : Value → Shared → Prop} {c : Value} {b : Bool}
inductive TyOf (K : PySem.W.Frag) (H : Hp) : V → Value → Prop where
  | non : TyOf K H .non (.type "NoneType")
  | bl (x : Bool) : TyOf K H (.bl x) (.type "bool")
  | int (i : Int) : TyOf K H (.int i) (.type "int")
  | str (x : Str) : TyOf K H (.str x) (.type "str")
  | flt (x : UInt64) : TyOf K H (.flt x) (.type "float")
  | lst {a : Addr} {xs : List V} (e : H a = some (.lst xs)) : TyOf K H (.ref a) (.type "list")
  | frz {a : Addr} {o : Obj} {xs : List V} (e : H a = some (.frz o (.lst xs))) : TyOf K H (.ref a) (.type "list")
  | tup {a : Addr} {xs : List V} (e : H a = some (.tup xs)) : TyOf K H (.ref a) (.type "tuple")
  | dK {a : Addr} {kvs : List (Key × V)} (e : H a = some (.dK kvs)) : TyOf K H (.ref a) (.type "dict")
  | dT {a : Addr} {kvs : List (List Key × V)} (e : H a = some (.dT kvs)) : TyOf K H (.ref a) (.type "dict")
  | ins {a C dx : Addr} {fs : List (Str × V)} (e : H a = some (.ins C dx fs)) (cl : Cls K C) (ha : PySem.W.findIn K (.ref C) "__class__" = some (some (.builtin "object.__class__")))
      (hn : PySem.W.specialIn K (.builtin "object.__class__") "__get__" = some (some (.builtin "getset_descriptor.__get__"))) (htk : PySem.W.takesIn K (.builtin "object.__class__") = some true)
      (hm : PySem.W.mroIn K C (.type "object") = some true) : TyOf K H (.ref a) (.ref C)
theorem isinst_ok {x : V} {u t : Value} (I : Inv X pins σ H s) (rx : RelV x u) (ty : TyOf X.K H x t) (e : PySem.W.kitOne X.K t c = some b) (h : ∀ tk, Q (.bool b) { s with toks := tk }) :
    wpAny (model X.prog X.w) A (call (.builtin "isinstance") [u, c]) Q E s := by
  cases ty with
  | non => cases (show u = Value.none from rx); exact PySem.W.kia_one PySem.W.kitx_none I.kIn True.intro e (fun z => nomatch z) h
  | bl y => cases (show u = Value.bool y from rx); exact PySem.W.kia_one PySem.W.kitx_bool I.kIn True.intro e (fun z => nomatch z) h
  | int i => obtain ⟨t, q⟩ := (show ∃ t, u = Value.int i t from rx); cases q; exact PySem.W.kia_one PySem.W.kitx_int I.kIn True.intro e (fun z => nomatch z) h
  | str y => obtain ⟨t, q⟩ := (show ∃ t, u = Value.str y t from rx); cases q; exact PySem.W.kia_one PySem.W.kitx_str I.kIn True.intro e (fun z => nomatch z) h
  | flt y => obtain ⟨t, q⟩ := (show ∃ t, u = Value.float y t from rx); cases q; exact PySem.W.kia_one PySem.W.kitx_float I.kIn True.intro e (fun z => nomatch z) h
  | @lst a xs ea =>
    cases (show u = Value.ref a from rx)
    obtain ⟨_, _, n, _, h1⟩ := (show ObjOk X.prog X.w H s.heap a (.lst xs) from I.hok a _ ea)
    exact PySem.W.kia_one PySem.W.kitx_list I.kIn ⟨_, h1, rfl⟩ e (fun z => nomatch z) h
  | @frz a ob xs ea =>
    cases (show u = Value.ref a from rx)
    obtain ⟨_, _, _, n, _, h1⟩ := (show ObjOk X.prog X.w H s.heap a (.frz ob (.lst xs)) from I.hok a _ ea)
    exact PySem.W.kia_one PySem.W.kitx_list I.kIn ⟨_, h1, rfl⟩ e (fun z => nomatch z) h
  | @tup a xs ea =>
    cases (show u = Value.ref a from rx)
    obtain ⟨_, _, _, p⟩ := (show ObjOk X.prog X.w H s.heap a (.tup xs) from I.hok a _ ea)
    obtain ⟨o, h1, h2, _⟩ := p
    exact PySem.W.kia_one PySem.W.kitx_tuple I.kIn ⟨o, h1, h2⟩ e (fun z => nomatch z) h
  | @dK a kvs ea =>
    cases (show u = Value.ref a from rx)
    obtain ⟨_, _, vs, _, p⟩ := (show ObjOk X.prog X.w H s.heap a (.dK kvs) from I.hok a _ ea)
    obtain ⟨o, es, ep, h1, h2, _⟩ := p
    exact PySem.W.kia_one PySem.W.kitx_dict I.kIn ⟨o, h1, h2.1⟩ e (fun z => nomatch z) h
  | @dT a kvs ea =>
    cases (show u = Value.ref a from rx)
    obtain ⟨_, _, xs, _, o, es, ep, h1, h2, _⟩ := (show ObjOk X.prog X.w H s.heap a (.dT kvs) from I.hok a _ ea)
    exact PySem.W.kia_one PySem.W.kitx_dict I.kIn ⟨o, h1, h2.1⟩ e (fun z => nomatch z) h
  | @ins a C dx fs ea cl ha hn htk hm =>
    cases (show u = Value.ref a from rx)
    obtain ⟨mA, O, _⟩ := ins_get I.hok ea
    obtain ⟨od, J, _⟩ := O.look
    exact PySem.W.kia_one (PySem.W.kitx_own (cl.get _) cl.hd ha hn htk hm) I.kIn J e (fun z => nomatch z) h
end
end L2

namespace L2
open PySem PySem.Spec PyProof.Rows

structure Room (k : Nat) (A : Around) : Prop where
  hd : A.handled = none
  dp : A.depth + 3 * k + 5 < recursionLimit
  un : A.units + 16 * k + 200 < cLine
theorem Room.mono {j k : Nat} {A : Around} (r : Room k A) (h : j ≤ k) : Room j A := ⟨r.hd, by have := r.dp; omega, by have := r.un; omega⟩
theorem Room.deeper {k : Nat} {A : Around} (r : Room (k + 1) A) (env : Env) : Room k (A.deeper env) :=
  ⟨r.hd, by have := r.dp; show A.depth + 1 + 3 * k + 5 < _; omega, by have := r.un; show A.units + 3 + 16 * k + 200 < _; omega⟩
theorem make_depth {A : Around} {C : Addr} {us : List Value} {kw : List (Str × Value)} : (A.under (.builtin "type.__call__" ⟨.ref C :: us, kw⟩)).depth = A.depth + 1 := by
  first | rfl | simp [Around.under, Code.weight, Code.isCreation, Code.isGuard, Code.isCaller, Code.frames, Code.isFrame, guardIds]
theorem make_units {A : Around} {C : Addr} {us : List Value} {kw : List (Str × Value)} : (A.under (.builtin "type.__call__" ⟨.ref C :: us, kw⟩)).units = A.units + 1 := by
  first | rfl | simp [Around.under, Code.cUnits, Code.frames, Code.isFrame]
theorem Room.make {k : Nat} {A : Around} (r : Room (k + 1) A) (C : Addr) (us : List Value) (kw : List (Str × Value)) : Room k (A.under (.builtin "type.__call__" ⟨.ref C :: us, kw⟩)) :=
  ⟨r.hd, by have := r.dp; rw [make_depth]; omega, by have := r.un; rw [make_units]; omega⟩
theorem Room.depth {k : Nat} {A : Around} (r : Room k A) : A.depth < recursionLimit := by have := r.dp; omega
theorem Room.units {k : Nat} {A : Around} (r : Room k A) : A.units + 64 < cLine := by have := r.un; omega
def tNil : TA := fun _ H Q => Q [] H
def tCons (ta : TE) (tr : TA) : TA := fun σ H Q => ta σ H fun x H1 => tr σ H1 fun xs H2 => Q (x :: xs) H2
section
variable {X : Cx} {e : Expr} {es : List Expr} {te : TE} {t : TA} {pos : Pos}
theorem pa_nil : PA X [] tNil := fun _ _ _ _ H Q I h => Calls.spliced_nil ⟨[], H, I, .nil, h⟩
theorem pa_cons (ha : PE X e te) (hr : PA X es t) (hs : starEach (e :: es) X.env = (false, eval e X.env) :: starEach es X.env := by rfl) : PA X (e :: es) (tCons te t) := by
  intro pos pins s σ H Q I h
  rw [hs]
  show wpAny _ _ (spliced ((false, eval e X.env) :: backTo pos (starEach es X.env))) _ _ s
  refine Calls.spliced_cons (thn (ha pins s σ H _ I h) fun u s1 ⟨x, H1, I1, r1, q1⟩ => ?_)
  exact thn (hr pos pins s1 σ H1 _ I1 q1) fun us s2 ⟨xs, H2, I2, r2, q2⟩ => ⟨x :: xs, H2, I2, .cons r1 r2, q2⟩

def tTup (t : TA) : TE := fun σ H Q => t σ H fun xs H1 => xs.length ≤ sizeLine ∧ ∀ p, H1 p = none → Q (.ref p) (upd H1 p (.tup xs))
def tLst (t : TA) : TE := fun σ H Q => t σ H fun xs H1 => xs.length ≤ sizeLine ∧ ∀ p, H1 p = none → Q (.ref p) (upd H1 p (.lst xs))
theorem pe_tup {x1} (h : PA X es t) : PE X (.Tuple es x1 pos) (tTup t) := by
  intro pins s σ H Q I hq
  refine wpAny_Tuple_spliced (thn (h pos pins s σ H _ I hq) fun us s1 ⟨xs, H1, I1, r, z, q⟩ => ⟨by rw [← r.length]; exact z, ?_⟩)
  have hf : H1 s1.heap.objs.size = none := I1.hok.fresh (Nat.le_refl _)
  refine ⟨.ref s1.heap.objs.size, upd H1 s1.heap.objs.size (.tup xs), I1.laid (t' := s1.toks) (fun b u e => Heap.get?_push_of_some _ e) (Nat.le_refl _) ?_, rfl, q _ hf⟩
  exact ⟨z, us, r, ⟨_, Heap.get?_push_size _ rfl, rfl, _, rfl, rfl⟩⟩
theorem pe_lst (h : PA X es t) : PE X (.List es pos) (tLst t) := by
  intro pins s σ H Q I hq
  refine wpAny_List_spliced (thn (h pos pins s σ H _ I hq) fun us s1 ⟨xs, H1, I1, r, z, q⟩ => ⟨by rw [← r.length]; exact z, ?_⟩)
  have hf : H1 s1.heap.objs.size = none := I1.hok.fresh (Nat.le_refl _)
  refine ⟨.ref s1.heap.objs.size, upd H1 s1.heap.objs.size (.lst xs), I1.laid (t' := s1.toks) (fun b u e => Heap.get?_push_of_some _ e) (Nat.le_refl _) ?_, rfl, q _ hf⟩
  exact ⟨z, us, 0, r, Heap.get?_push_size _ rfl⟩
end

abbrev Sp := List V → Hp → VK → XK → Prop
abbrev CXT := List Env → Hp → Shared → XK → Value → Shared → Prop

structure Env0 (P : Program) (w : World) (K : PySem.W.Frag) (mg : Str → Option Value) (base : Heap) (A : Around) (outer : List Env) (s : Shared) (H : Hp) : Prop where
  frames : A.frames = some outer
  mod : Mod K mg base
  bs : ∀ b o, base.get? b = some o → s.heap.get? b = some o ∧ H b = none
  bsz : base.objs.size ≤ s.heap.objs.size
  funs : s.heap.FunFrames base outer
  frf : ∀ b ∈ frs outer, H b = none
  hok : HOk P w H s.heap
  bare : AllBare s.gens
def CE (outer : List Env) (P : Program) (w : World) (H : Hp) (s : Shared) (Q : VK) (u : Value) (s' : Shared) : Prop :=
  ∃ v H', s'.os = s.os ∧ AllBare s'.gens ∧ Un (frs outer) [] H H' s.heap s'.heap ∧ HOk P w H' s'.heap ∧ RelV v u ∧ Q v H'
def CR (CX : CXT) (outer : List Env) (P : Program) (w : World) (H : Hp) (s : Shared) (Q : VK) (E : XK) (r : Result) (s' : Shared) : Prop :=
  match r with
  | .ok (.ret u) => CE outer P w H s Q u s'
  | .ok _ => False
  | .error e => CX outer H s E e s'
structure FnOk (P : Program) (w : World) (K : PySem.W.Frag) (mg : Str → Option Value) (base : Heap) (CX : CXT) (k : Nat) (f : Addr) (fd : FuncData) (ps : List Str) (sp : Sp) : Prop where
  len : ∀ vs H Q E, sp vs H Q E → vs.length = ps.length
  run : ∀ (A : Around) (outer : List Env) (s : Shared) (H : Hp) (args : Args) (us : List Value) (vs : List V) (Q : VK) (E : XK), Room k A → Env0 P w K mg base A outer s H → BindsTo s fd args (ps.zip us) → Vals vs us → sp vs H Q E →
    codeAny (model P w) A (.call (.ref f) args) (CR CX outer P w H s Q E) s
theorem FnOk.imp {P : Program} {w : World} {K : PySem.W.Frag} {mg : Str → Option Value} {base : Heap} {CX : CXT} {k : Nat} {f : Addr} {fd : FuncData} {ps : List Str} {sp sp' : Sp} (F : FnOk P w K mg base CX k f fd ps sp)
    (h : ∀ vs H Q E, sp' vs H Q E → sp vs H Q E) : FnOk P w K mg base CX k f fd ps sp' :=
  ⟨fun vs H Q E q => F.len vs H Q E (h _ _ _ _ q), fun A outer s H args us vs Q E hr he hb hv hs => F.run A outer s H args us vs Q E hr he hb hv (h _ _ _ _ hs)⟩

theorem Env0.make {P : Program} {w : World} {K : PySem.W.Frag} {mg : Str → Option Value} {base : Heap} {A : Around} {outer : List Env} {s : Shared} {H : Hp} (e : Env0 P w K mg base A outer s H) (C : Addr) (us : List Value) (kw : List (Str × Value)) :
    Env0 P w K mg base (A.under (.builtin "type.__call__" ⟨.ref C :: us, kw⟩)) outer s H := ⟨by first | exact e.frames | (simpa [Around.under, Code.envs, Code.isFrame, pushEnvs] using e.frames), e.mod, e.bs, e.bsz, e.funs, e.frf, e.hok, e.bare⟩
section
variable {X : Cx} {pins : List (Addr × Obj)} {σ : St} {H : Hp} {s s' : Shared}
theorem Inv.env0 (I : Inv X pins σ H s) : Env0 X.prog X.w X.K X.mg X.base X.A X.stack s H :=
  ⟨I.ok.frames, I.ok.mod, I.bs, Nat.le_trans I.ok.bsz I.sz, I.stack, I.stkFree, I.hok, I.bare⟩
theorem Inv.after {Q : VK} {u : Value} (I : Inv X pins σ H s) (h : CE X.stack X.prog X.w H s Q u s') : EP X pins σ Q u s' := by
  obtain ⟨v, H', os, bare, un, hok, r, q⟩ := h
  obtain ⟨hh, g, d, t, os'⟩ := s'
  obtain rfl : os' = s.os := os
  exact ⟨v, H', I.call (h' := hh) (g' := g) (d' := d) (t' := t) (ch := []) un hok bare (fun b z => absurd z (by simp)), r, q⟩
end

def tCall (sp : Sp) (dvs : List V) (E : XK) (t : TA) : TE := fun σ H Q => t σ H fun vs H1 => sp (vs ++ dvs) H1 Q E
def tMeth (C : Addr) (m : Str) (sp : Sp) (dvs : List V) (E : XK) (ta : TE) (t : TA) : TE := fun σ H Q => ta σ H fun x H1 => ∃ a dx fs, x = .ref a ∧ H1 a = some (.ins C dx fs) ∧ fs.lookup m = none ∧
  t σ H1 fun vs H2 => sp (x :: (vs ++ dvs)) H2 Q E
def tMake (C : Addr) (sp : Sp) (dvs : List V) (E : XK) (t : TA) : TE := fun σ H Q => t σ H fun vs H1 => ∀ x dx, H1 x = none → H1 dx = none → dx ≠ x →
  sp (.ref x :: (vs ++ dvs)) (upd (upd H1 dx (.own x)) x (.ins C dx [])) (fun v H2 => v = .non ∧ Q (.ref x) H2) E

def Binds (K : PySem.W.Frag) (fd : FuncData) (ps : List Str) (ds : List Value) : Prop :=
  ∀ (s : Shared) (us : List Value), K.In s.heap → (us ++ ds).length = ps.length → BindsTo s fd ⟨us, []⟩ (ps.zip (us ++ ds))
theorem Binds.all {K : PySem.W.Frag} {fd : FuncData} {ps : List Str} (h : ∀ us : List Value, us.length = ps.length → bindArgs fd ⟨us, []⟩ = pure (ps.zip us)) : Binds K fd ps [] := fun s us _ hl => by
  rw [List.append_nil] at hl ⊢
  exact .of_eq (h us hl)

def Passes (CX : CXT) (X : Cx) (E : XK) : Prop := ∀ (pins : List (Addr × Obj)) (σ : St) (H : Hp) (s : Shared) (e : Value) (s' : Shared), Inv X pins σ H s → CX X.stack H s E e s' → X.xe e s'

section
variable {X : Cx} {CX : CXT} {k : Nat} {f C : Addr} {fd : FuncData} {ps : List Str} {sp : Sp} {dvs : List V} {ds : List Value} {E : XK} {x m : Str} {p pos apos : Pos} {e o : Expr} {es : List Expr} {ta : TE} {t : TA}

theorem run_fn {pins : List (Addr × Obj)} {σ : St} {H : Hp} {s : Shared} {Q : VK} {us : List Value} {vs : List V} (F : FnOk X.prog X.w X.K X.mg X.base CX k f fd ps sp) (hr : Room k X.A) (hb : Binds X.K fd ps ds) (hd : Vals dvs ds) (hx : Passes CX X E)
    (I : Inv X pins σ H s) (r : Vals vs us) (h : sp (vs ++ dvs) H Q E) : wpAny (model X.prog X.w) X.A (call (.ref f) us) (EP X pins σ Q) X.xe s := by
  have r2 : Vals (vs ++ dvs) (us ++ ds) := r.append hd
  have hl : (us ++ ds).length = ps.length := by rw [← r2.length]; exact F.len _ _ _ _ h
  refine wpAny_call (codeAny_mono (F.run X.A X.stack s H ⟨us, []⟩ (us ++ ds) (vs ++ dvs) Q E hr I.env0 (hb s us I.kIn hl) r2 h) fun r s' hq => ?_)
  cases r with
  | error e => exact hx pins σ H s e s' I hq
  | ok fl =>
    cases fl with
    | ret u => exact I.after hq
    | next => exact False.elim hq
    | brk => exact False.elim hq
    | cont => exact False.elim hq

theorem pe_call (F : FnOk X.prog X.w X.K X.mg X.base CX k f fd ps sp) (hr : Room k X.A) (hg : Gl X x) (hm : X.mg x = some (.ref f)) (hk : PySem.W.keepIn X.K (.ref f) = true) (hb : Binds X.K fd ps ds) (hd : Vals dvs ds) (hx : Passes CX X E)
    (ha : PA X (e :: es) t) (hdb : (x == ("__debug__" : Str)) = false := by decide) (he : starEach (e :: es) X.env = (false, eval e X.env) :: starEach es X.env := by rfl) (hpl : (backTo pos (starEach es X.env)).any (·.1) = false := by rfl) :
    PE X (.Call (.Name x p) (e :: es) [] pos) (tCall sp dvs E t) := by
  intro pins s σ H Q I h
  refine wpAny_Call_Name_kw (ld_glob I hg hm ?_ hdb)
  refine PySem.W.callWith_K (h₀ := X.base) I.ok.mod.kin hk (thn (ha pos pins s σ H _ I h) fun us s1 ⟨vs, H1, I1, r, q⟩ => ⟨I1.kIn, ?_⟩) he hpl
  exact run_fn F hr hb hd hx I1 r q
theorem pe_meth0 {pl : Sem Bool} (he : PE X o ta) (c : Cls X.K C) (hm : Meth X.K C m f) (F : FnOk X.prog X.w X.K X.mg X.base CX k f fd ps sp) (hr : Room k X.A) (hb : Binds X.K fd ps ds) (hd : Vals dvs ds) (hx : Passes CX X E)
    (ht : eval (.Call (.Attribute o m apos) [] [] pos) X.env = (do
      let ov ← eval o X.env
      standAt apos.atName
      let (f, first) ← holding [ov] (getMethod ov m pl)
      callWith pos f first (backTo pos (starEach [] X.env)) (backToKw pos (keywordEach [] X.env))) := by rfl) :
    PE X (.Call (.Attribute o m apos) [] [] pos) (tMeth C m sp dvs E ta tNil) := by
  intro pins s σ H Q I h
  refine PySem.W.methodCall_KW (pl := pl) (thn (he pins s σ H _ I h) fun u s1 ⟨x, H1, I1, rx, a, dx, fs, ex, ea, l, q⟩ => ?_) ht
  subst ex
  obtain rfl : u = Value.ref a := rx
  refine getmeth_ok I1 ea c hm l ?_
  exact PySem.W.callWith_K0 (first := [.ref a]) I1.kIn hm.kp (run_fn (us := [.ref a]) (vs := [.ref a]) F hr hb hd hx I1 (.cons rfl .nil) q)

structure Mk (K : PySem.W.Frag) (C f : Addr) : Prop where
  makes : PySem.W.makesIn K C = true
  init : PySem.W.findIn K (.ref C) "__init__" = some (some (.ref f))
  fn : PySem.W.isFn K (.ref f) = true
  kp : PySem.W.keepIn K (.ref C) = true

theorem run_make {pins : List (Addr × Obj)} {σ : St} {H : Hp} {s : Shared} {Q : VK} {us : List Value} {vs : List V} (M : Mk X.K C f) (F : FnOk X.prog X.w X.K X.mg X.base CX k f fd ps sp) (hr : Room (k + 1) X.A) (hb : Binds X.K fd ps ds) (hd : Vals dvs ds)
    (hx : Passes CX X E) (I : Inv X pins σ H s) (r : Vals vs us)
    (h : ∀ x dx, H x = none → H dx = none → dx ≠ x → sp (.ref x :: (vs ++ dvs)) (upd (upd H dx (.own x)) x (.ins C dx [])) (fun v H2 => v = .non ∧ Q (.ref x) H2) E) :
    wpAny (model X.prog X.w) X.A (call (.ref C) us) (EP X pins σ Q) X.xe s := by
  have hq := h (s.heap.objs.size + 1) s.heap.objs.size (I.hok.fresh (Nat.le_succ _)) (I.hok.fresh (Nat.le_refl _)) (Nat.ne_of_lt (Nat.lt_succ_self _))
  have I2 := Inv.made (C := C) I
  have r2 : Vals (V.ref (s.heap.objs.size + 1) :: (vs ++ dvs)) (Value.ref (s.heap.objs.size + 1) :: (us ++ ds)) := .cons rfl (r.append hd)
  have hl : (Value.ref (s.heap.objs.size + 1) :: us ++ ds).length = ps.length := by
    have e := r2.length
    rw [F.len _ _ _ _ hq] at e
    exact e.symm
  refine wpAny_call (make_map (f := f) I.kIn M.makes M.init (beq_iff_eq.mp M.fn) (codeAny_mono (F.run _ X.stack _ _ ⟨Value.ref (s.heap.objs.size + 1) :: us, []⟩ (Value.ref (s.heap.objs.size + 1) :: (us ++ ds)) _ _ E (hr.make C us [])
    (I2.env0.make C us []) (hb _ (Value.ref (s.heap.objs.size + 1) :: us) I2.kIn hl) r2 hq) fun r s' hq' => ?_))
  cases r with
  | error e => exact hx pins σ _ _ e s' I2 hq'
  | ok fl =>
    cases fl with
    | ret u =>
      obtain ⟨v, H', I3, rv, ev, q3⟩ := I2.after hq'
      subst ev
      exact ⟨rv, ⟨V.ref (s.heap.objs.size + 1), H', I3, rfl, q3⟩⟩
    | next => exact False.elim hq'
    | brk => exact False.elim hq'
    | cont => exact False.elim hq'
theorem pe_make (M : Mk X.K C f) (F : FnOk X.prog X.w X.K X.mg X.base CX k f fd ps sp) (hr : Room (k + 1) X.A) (hg : Gl X x) (hm : X.mg x = some (.ref C)) (hb : Binds X.K fd ps ds) (hd : Vals dvs ds) (hx : Passes CX X E)
    (ha : PA X (e :: es) t) (hdb : (x == ("__debug__" : Str)) = false := by decide) (he : starEach (e :: es) X.env = (false, eval e X.env) :: starEach es X.env := by rfl) (hpl : (backTo pos (starEach es X.env)).any (·.1) = false := by rfl) :
    PE X (.Call (.Name x p) (e :: es) [] pos) (tMake C sp dvs E t) := by
  intro pins s σ H Q I h
  refine wpAny_Call_Name_kw (ld_glob I hg hm ?_ hdb)
  refine PySem.W.callWith_K (h₀ := X.base) I.ok.mod.kin M.kp (thn (ha pos pins s σ H _ I h) fun us s1 ⟨vs, H1, I1, r, q⟩ => ⟨I1.kIn, ?_⟩) he hpl
  exact run_make M F hr hb hd hx I1 r q
end

section
variable {X : Cx} {CX : CXT} {k : Nat} {f C : Addr} {fd : FuncData} {ps ks : List Str} {sp : Sp} {E : XK} {x m : Str} {p pos apos kpos : Pos} {e o : Expr} {es : List Expr} {kws : List Keyword} {te ta : TE} {t tk : TA} {nm : Option Str}
structure KBinds (K : PySem.W.Frag) (fd : FuncData) (ps ks : List Str) (g : List Value → List Value → List Value) (gV : List V → List V → List V) : Prop where
  to : ∀ (s : Shared) (us ws : List Value), K.In s.heap → (g us ws).length = ps.length → BindsTo s fd ⟨us, ks.zip ws⟩ (ps.zip (g us ws))
  rel : ∀ {vs : List V} {us : List Value} {zs : List V} {ws : List Value}, Vals vs us → Vals zs ws → Vals (gV vs zs) (g us ws)
variable {g : List Value → List Value → List Value} {gV : List V → List V → List V}
end

structure FnScope (N P : List Str) (sc : Scope) : Prop where
  kind : sc.kind = .function
  co : sc.isCoroutine = false
  gen : sc.isGenerator = false
  nd : N.Nodup
  pre : N.take P.length = P
  par : ∀ x ∈ P, sc.names.lookup x = some .local ∨ sc.names.lookup x = some .cell
  nofree : ∀ y ∈ sc.names, y.2 ≠ .free

theorem bindL_out {kindOf : Str → Option NameKind} {x : Str} : ∀ {binds : List (Str × Value)} {m : Str → Option Value}, (∀ v, (x, v) ∉ binds) → bindL kindOf binds m x = m x
  | [], _, _ => rfl
  | (n, v) :: r, m, h => by
    unfold bindL
    rw [bindL_out fun w hw => h w (List.mem_cons_of_mem _ hw)]
    split
    · have : x ≠ n := by rintro rfl; exact h v List.mem_cons_self
      simp [this]
    · rfl
theorem bindC_out {kindOf : Str → Option NameKind} {x : Str} : ∀ {binds : List (Str × Value)} {m : Str → Option Value}, (∀ v, (x, v) ∉ binds) → bindC kindOf binds m x = m x
  | [], _, _ => rfl
  | (n, v) :: r, m, h => by
    unfold bindC
    rw [bindC_out fun w hw => h w (List.mem_cons_of_mem _ hw)]
    split
    · rfl
    · have : x ≠ n := by rintro rfl; exact h v List.mem_cons_self
      simp [this]
theorem bindL_get {kindOf : Str → Option NameKind} {x : Str} {v : Value} : ∀ {P : List Str} {vs : List Value} {i : Nat} {m : Str → Option Value}, P.Nodup → P[i]? = some x → vs[i]? = some v → kindOf x = some .local →
    bindL kindOf (P.zip vs) m x = some v
  | [], _, _, _, _, h, _, _ => by simp at h
  | _ :: _, [], _, _, _, _, h, _ => by simp at h
  | p :: P, w :: vs, 0, m, nd, h1, h2, hk => by
    simp at h1 h2; subst h1; subst h2
    show bindL kindOf ((p, w) :: P.zip vs) m p = _
    unfold bindL
    rw [bindL_out fun v hv => (List.nodup_cons.mp nd).1 (List.of_mem_zip hv).1, if_pos hk]
    simp
  | p :: P, w :: vs, i + 1, m, nd, h1, h2, hk => by
    show bindL kindOf ((p, w) :: P.zip vs) m x = _
    unfold bindL
    exact bindL_get (i := i) (List.nodup_cons.mp nd).2 (by simpa using h1) (by simpa using h2) hk
theorem bindC_get {kindOf : Str → Option NameKind} {x : Str} {v : Value} : ∀ {P : List Str} {vs : List Value} {i : Nat} {m : Str → Option Value}, P.Nodup → P[i]? = some x → vs[i]? = some v → kindOf x ≠ some .local →
    bindC kindOf (P.zip vs) m x = some v
  | [], _, _, _, _, h, _, _ => by simp at h
  | _ :: _, [], _, _, _, _, h, _ => by simp at h
  | p :: P, w :: vs, 0, m, nd, h1, h2, hk => by
    simp at h1 h2; subst h1; subst h2
    show bindC kindOf ((p, w) :: P.zip vs) m p = _
    unfold bindC
    rw [bindC_out fun v hv => (List.nodup_cons.mp nd).1 (List.of_mem_zip hv).1, if_neg hk]
    simp
  | p :: P, w :: vs, i + 1, m, nd, h1, h2, hk => by
    show bindC kindOf ((p, w) :: P.zip vs) m x = _
    unfold bindC
    exact bindC_get (i := i) (List.nodup_cons.mp nd).2 (by simpa using h1) (by simpa using h2) hk

def start (N : List Str) (vs : List V) : St := vs.map some ++ List.replicate (N.length - vs.length) none

def cxOf (CX : CXT) (P : Program) (w : World) (K : PySem.W.Frag) (mg : Str → Option Value) (base : Heap) (N : List Str) (qual : Str) (scope : Scope) (f : Addr) (cd : Value) (A : Around) (outer : List Env) (s : Shared) (H : Hp) (E : XK) : Cx where
  prog := P
  w := w
  K := K
  mg := mg
  base := base
  A := A.deeper (envOfC qual scope s.heap.objs.size f cd)
  N := N
  s₀ := s
  H₀ := H
  env := envOfC qual scope s.heap.objs.size f cd
  outer := outer
  stack := envOfC qual scope s.heap.objs.size f cd :: outer
  ex := []
  calm := true
  fn := fun _ => true
  pn := []
  xe := fun e s' => wpAny (model P w) (A.deeper (envOfC qual scope s.heap.objs.size f cd)) (leaving (envOfC qual scope s.heap.objs.size f cd) e) (fun _ s'' => CX outer H s E e s'') (fun e' s'' => CX outer H s E e' s'') s'

theorem cell_has {sc : Scope} {n : Nat} {x : Str} (h : sc.names.lookup x = some .cell) : ∃ c, (cellsFrom n sc.names []).lookup x = some c := by
  have q := PySem.W.cellsFrom_some sc.names n [] (.inl h)
  exact Option.isSome_iff_exists.mp q

theorem inv_start {CX : CXT} {P : Program} {w : World} {K : PySem.W.Frag} {mg : Str → Option Value} {base : Heap} {N ps : List Str} {qual : Str} {scope : Scope} {f : Addr} {cd : Value} {A : Around} {outer : List Env} {s s1 : Shared} {H : Hp} {E : XK} {us : List Value} {vs : List V}
    (S : FnScope N ps scope) (hd : A.handled = none) (e0 : Env0 P w K mg base A outer s H) (hl : vs.length = ps.length) (r : Vals vs us)
    (x : InCallC s s.heap.objs.size (bindL (envOfC qual scope s.heap.objs.size f cd).kindOf (ps.zip us) fun _ => none) (cellsFrom (s.heap.objs.size + 1) scope.names []) (bindC (envOfC qual scope s.heap.objs.size f cd).kindOf (ps.zip us) fun _ => none) s1) :
    Inv (cxOf CX P w K mg base N qual scope f cd A outer s H E) [] (start N vs) H s1 := by
  have hpl : ps.length ≤ N.length := by have := congrArg List.length S.pre; rw [List.length_take] at this; omega
  obtain ⟨h1, tk, rfl, hk⟩ := x.done
  have noA : ∀ b : Addr, b ∉ (cxOf CX P w K mg base N qual scope f cd A outer s H E).ex := fun b z => absurd (show b ∈ ([] : List Addr) from z) (by simp)
  refine ⟨⟨e0.mod, S.kind, rfl, rfl, Nat.le_refl _, fun y z c h1 h2 => ?_, fun y hy => ?_, fun y c _ h => ?_, fun _ => hd, Around.frames_deeper e0.frames, .inr ⟨rfl, rfl⟩, fun b z => absurd z (noA b), e0.bs, e0.bsz, fun b _ _ => noA b, fun b z => absurd z (noA b), e0.funs, e0.frf⟩,
    rfl, e0.bare, Un.kept hk, ⟨_, x.toInCall.ns, fun i y v h1 h2 h3 => ?_⟩, fun y c h => ⟨_, x.cell y c h⟩, e0.hok.fresh (Nat.le_refl _), fun y c h => ?_, fun p hp => absurd (show p ∈ ([] : List (Addr × Obj)) from hp) (by simp), e0.hok.kept hk, ?_⟩
  · exact name_of_addr x.apart (PySem.mem_of_lookup h1) (PySem.mem_of_lookup h2)
  · have hy : scope.names.lookup y = some .cell ∨ scope.names.lookup y = some .free := hy
    rcases hy with hy | hy
    · exact cell_has hy
    · exact absurd rfl (S.nofree _ (PySem.mem_of_lookup hy))
  · exact Nat.le_of_lt (x.above y c (PySem.mem_of_lookup h))
  · have hi : i < vs.length := by
      unfold start at h2
      by_cases hi : i < vs.length
      · exact hi
      · rw [List.getElem?_append_right (by simpa using hi)] at h2
        rw [List.getElem?_replicate] at h2
        split at h2 <;> cases h2
    have ha : vs[i]? = some v := by
      unfold start at h2
      rw [List.getElem?_append_left (by simpa using hi), List.getElem?_map] at h2
      cases e : vs[i]? with
      | none => rw [e] at h2; cases h2
      | some a => rw [e] at h2; cases h2; rfl
    obtain ⟨u, hu, rv⟩ := r.get ha
    have hp : ps[i]? = some y := by
      rw [← S.pre, List.getElem?_take_of_lt (by omega)]; exact h1
    have ndP : ps.Nodup := by rw [← S.pre]; exact S.nd.sublist (List.take_sublist _ _)
    refine ⟨u, rv, ?_⟩
    rcases S.par y (List.mem_of_getElem? hp) with k | k
    · exact .inl ⟨k, bindL_get ndP hp hu k⟩
    · obtain ⟨c, e⟩ := cell_has (n := s.heap.objs.size + 1) k
      refine .inr ⟨.inl k, c, e, ?_⟩
      have q := x.cell y c e
      rw [bindC_get ndP hp hu (by show scope.names.lookup y ≠ _; rw [k]; decide)] at q
      exact q
  · exact e0.hok.fresh (Nat.le_of_lt (x.above y c (PySem.mem_of_lookup h)))
  · unfold start
    show _ = N.length
    rw [List.length_append, List.length_map, List.length_replicate]
    omega

theorem fn_of {CX : CXT} {P : Program} {w : World} {K : PySem.W.Frag} {mg : Str → Option Value} {base : Heap} {k : Nat} {f : Addr} {name qual : Str} {params : Arguments} {body : List Stmt} {scope : Scope} {dV kV doc pm cdv ct oc : Value} {an od : Option Addr}
    {osl : Array (Option Value)} {N ps : List Str} {sp : Sp} (lk : K.lookup f = some ⟨oc, od, .func (PySem.W.fnOf name qual params body scope dV kV doc pm an cdv ct), osl⟩) (hcd : PySem.W.codeIn K cdv qual = true) (S : FnScope N ps scope)
    (len : ∀ vs H Q E, sp vs H Q E → vs.length = ps.length)
    (hbody : ∀ (A : Around) (outer : List Env) (s : Shared) (H : Hp) (vs : List V) (Q : VK) (E : XK), Room k (A.deeper (envOfC qual scope s.heap.objs.size f cdv)) → sp vs H Q E →
      ∃ t, PSs (cxOf CX P w K mg base N qual scope f cdv A outer s H E) body t ∧ t { nx := fun _ H' => Q .non H', rt := Q } (start N vs) H) :
    FnOk P w K mg base CX (k + 1) f (PySem.W.fnOf name qual params body scope dV kV doc pm an cdv ct) ps sp := by
  refine ⟨len, fun A outer s H args us vs Q E hr e0 hb r hsp => ?_⟩
  have hl := len _ _ _ _ hsp
  have KX : K.In s.heap := e0.mod.kin.keeps fun b o e => (e0.bs b o e).1
  have lim : s.heap.NoLimit := e0.mod.nolimit.keeps fun b o e => (e0.bs b o e).1
  have hkind : ∀ y ∈ ps.zip us, scope.names.lookup y.1 = some .local ∨ (scope.names.lookup y.1 = some .cell ∧ ((cellsFrom (s.heap.objs.size + 1) scope.names []).lookup y.1).isSome = true) := fun ⟨n, v⟩ hy => by
    rcases S.par n (List.of_mem_zip hy).1 with q | q
    · exact .inl q
    · exact .inr ⟨q, PySem.W.cellsFrom_some _ _ _ (.inl q)⟩
  refine codeAny_call_function hr.depth (KX _ _ lk) rfl S.co S.gen rfl (PySem.W.codeRec_of KX hcd) (hb _ _ _ _ ?_)
  refine wpAny_newFunctionEnv_cells S.kind hkind fun env he s1 x => ?_
  subst he
  refine ⟨lim.keeps x.toInCall.keep, codeAny_func ?_⟩
  obtain ⟨t, ht, hq⟩ := hbody A outer s H vs Q E (hr.deeper _) hsp
  have I : Inv (cxOf CX P w K mg base N qual scope f cdv A outer s H E) [] (start N vs) H s1 := inv_start S hr.hd e0 hl r x
  refine wpAny_mono (ht [] s1 (start N vs) H _ I hq) (fun fl s' hs => ?_) fun e s' hs => hs
  have fin : ∀ {σ' : St} {H' : Hp} {v : V} {u : Value}, Inv (cxOf CX P w K mg base N qual scope f cdv A outer s H E) [] σ' H' s' → RelV v u → Q v H' → CE outer P w H s Q u s' :=
    fun {σ' H' v u} J rv q => ⟨v, H', J.os, J.bare, J.base, J.hok, rv, q⟩
  cases fl with
  | ret u =>
    obtain ⟨v, σ', H', J, rv, q⟩ := hs
    exact fin J rv q
  | next =>
    obtain ⟨σ', H', J, q⟩ := hs
    exact fin (v := V.non) (u := Value.none) J rfl q
  | brk =>
    obtain ⟨_, _, _, q⟩ := hs
    exact False.elim q
  | cont =>
    obtain ⟨_, _, _, q⟩ := hs
    exact False.elim q
end L2

namespace L2
open PySem PySem.Spec PyProof.Rows
section
variable {X : Cx} {x : Str} {p pos : Pos} {e : Expr} {es : List Expr} {t : TA} {id T : String} {r : List V → Hp → VK → Prop}

def tCB (r : List V → Hp → VK → Prop) (t : TA) : TE := fun σ H Q => t σ H fun vs H1 => r vs H1 Q
theorem pe_callB (hc : CallR X (.builtin id) r) (hg : Gl X x) (hm : X.mg x = none) (hv : bootBuiltins x = some (.builtin id)) (ha : PA X (e :: es) t) (hn : x ≠ "__name__" := by decide) (hdb : (x == ("__debug__" : Str)) = false := by decide)
    (he : starEach (e :: es) X.env = (false, eval e X.env) :: starEach es X.env := by rfl) (hpl : (backTo pos (starEach es X.env)).any (·.1) = false := by rfl) : PE X (.Call (.Name x p) (e :: es) [] pos) (tCB r t) := by
  intro pins s σ H Q I h
  refine wpAny_Call_Name_kw (ld_blt I hg hm hv ?_ hn hdb)
  exact PyProof.Rows.callWith_builtin1 (thn (ha pos pins s σ H _ I h) fun us s1 ⟨vs, H1, I1, r1, q1⟩ => hc pins s1 σ H1 vs us Q I1 r1 q1) he hpl
theorem pe_callTy (hc : CallR X (.type T) r) (hg : Gl X x) (hm : X.mg x = none) (hv : bootBuiltins x = some (.type T)) (ha : PA X (e :: es) t) (hn : x ≠ "__name__" := by decide) (hdb : (x == ("__debug__" : Str)) = false := by decide)
    (he : starEach (e :: es) X.env = (false, eval e X.env) :: starEach es X.env := by rfl) (hpl : (backTo pos (starEach es X.env)).any (·.1) = false := by rfl) : PE X (.Call (.Name x p) (e :: es) [] pos) (tCB r t) := by
  intro pins s σ H Q I h
  refine wpAny_Call_Name_kw (ld_blt I hg hm hv ?_ hn hdb)
  exact PyProof.Rows.callWith_type1 (thn (ha pos pins s σ H _ I h) fun us s1 ⟨vs, H1, I1, r1, q1⟩ => hc pins s1 σ H1 vs us Q I1 r1 q1) he hpl
end
end L2

namespace L2
open PySem PySem.Spec PyProof.Rows

section
variable {κ : Type} [DecidableEq κ]
def valV (kvs : List (κ × V)) (k : κ) : Option V := (kvs.find? fun kv => decide (kv.1 = k)).map (·.2)
def putK (kvs : List (κ × V)) (k : κ) (v : V) : List (κ × V) :=
  if (kvs.any fun kv => decide (kv.1 = k)) = true then kvs.map (fun kv => if kv.1 = k then (kv.1, v) else kv) else kvs ++ [(k, v)]
def dropK (kvs : List (κ × V)) (k : κ) : List (κ × V) := kvs.filter fun kv => decide (kv.1 ≠ k)

theorem length_putK (kvs : List (κ × V)) (k : κ) (v : V) : (putK kvs k v).length ≤ kvs.length + 1 := by
  unfold putK
  split
  · rw [List.length_map]; omega
  · rw [List.length_append, List.length_cons, List.length_nil]; omega
theorem KV.any {kvs : List (κ × V)} {vs : List (κ × Value)} (r : KV kvs vs) (k : κ) : (kvs.any fun kv => decide (kv.1 = k)) = vs.any fun kv => decide (kv.1 = k) := by
  unfold KV at r
  induction r with
  | nil => rfl
  | cons h t ih => rw [List.any_cons, List.any_cons, ih, h.1]
theorem KV.repl {kvs : List (κ × V)} {vs : List (κ × Value)} (r : KV kvs vs) (k : κ) {y : V} {u : Value} (ry : RelV y u) :
    KV (kvs.map fun kv => if kv.1 = k then (kv.1, y) else kv) (vs.map fun kv => if kv.1 = k then (kv.1, u) else kv) := by
  unfold KV at r ⊢
  induction r with
  | nil => exact .nil
  | @cons p q ps qs h t ih =>
    rw [List.map_cons, List.map_cons]
    refine .cons ?_ ih
    obtain ⟨h1, h2⟩ := h
    by_cases e : p.1 = k
    · rw [if_pos e, if_pos (h1.symm.trans e)]; exact ⟨h1, ry⟩
    · rw [if_neg e, if_neg (fun z => e (h1.trans z))]; exact ⟨h1, h2⟩
theorem KV.put {kvs : List (κ × V)} {vs : List (κ × Value)} (r : KV kvs vs) (k : κ) {y : V} {u : Value} (ry : RelV y u) : KV (putK kvs k y) (stored vs k u) := by
  unfold putK stored
  rw [r.any k]
  by_cases e : (vs.any fun kv => decide (kv.1 = k)) = true
  · rw [if_pos e, if_pos e]; exact r.repl k ry
  · rw [if_neg e, if_neg e]; exact Paired.snoc r ⟨rfl, ry⟩
theorem KV.keys {kvs : List (κ × V)} {vs : List (κ × Value)} (r : KV kvs vs) : kvs.map (·.1) = vs.map (·.1) := by
  unfold KV at r
  induction r with
  | nil => rfl
  | cons h t ih => rw [List.map_cons, List.map_cons, ih, h.1]
theorem KV.length {kvs : List (κ × V)} {vs : List (κ × Value)} (r : KV kvs vs) : kvs.length = vs.length := Paired.length r
end


theorem kV_is {P : Program} {w : World} {k : Key} {u : Value} (r : RelV (kV k) u) : (mixKind P w).is k u = true := by
  cases k with
  | inl i => obtain ⟨t, e⟩ := (show ∃ t, u = Value.int i t from r); subst e; exact mixKind_int P w i t
  | inr x => obtain ⟨t, e⟩ := (show ∃ t, u = Value.str x t from r); subst e; exact mixKind_str P w x t
section
variable {P : Program} {w : World} {H : Hp} {h : Heap} {a : Addr}
theorem rd_of {u : HO} (ok : HOk P w H h) (e : Rd H a u) : ObjOk P w H h a u := e.ok ok
theorem dk_rd {kvs : List (Key × V)} (ok : HOk P w H h) (e : Rd H a (.dK kvs)) : kvs.length ≤ sizeLine ∧ (a == sysModules) = false ∧ ∃ vs, KV kvs vs ∧ h.DictOf (mixKind P w) a vs :=
  show ObjOk P w H h a (.dK kvs) from rd_of ok e
theorem dk_of {kvs : List (Key × V)} (ok : HOk P w H h) (e : H a = some (.dK kvs)) : kvs.length ≤ sizeLine ∧ (a == sysModules) = false ∧ ∃ vs, KV kvs vs ∧ h.DictOf (mixKind P w) a vs := dk_rd ok (.inl e)
end

def DGet (H : Hp) (a : Addr) (y : V) (r : Option V) : Prop :=
  (∃ kvs k, Rd H a (.dK kvs) ∧ y = kV k ∧ r = valV kvs k) ∨ ∃ kvs k b, Rd H a (.dT kvs) ∧ y = .ref b ∧ H b = some (.tup (k.map kV)) ∧ r = valV kvs k
def DPut (H : Hp) (a : Addr) (y v : V) (H' : Hp) : Prop :=
  (∃ kvs k, H a = some (.dK kvs) ∧ y = kV k ∧ kvs.length < sizeLine ∧ H' = upd H a (.dK (putK kvs k v))) ∨
  ∃ kvs k b, H a = some (.dT kvs) ∧ y = .ref b ∧ H b = some (.tup (k.map kV)) ∧ kvs.length < sizeLine ∧ H' = upd H a (.dT (putK kvs k v))
section
variable {X : Cx} {pins : List (Addr × Obj)} {σ : St} {H : Hp} {s : Shared} {a : Addr} {y v : V} {u r : Value} {o : Option V} {A : Around} {E : Value → Shared → Prop}

theorem Inv.big (I : Inv X pins σ H s) : sysModules < s.heap.objs.size := by
  have h : mainGlobals < s.heap.objs.size := (I.mod.glob.keeps I.bk).lt
  exact Nat.lt_trans (by decide) h

theorem d_write {h' : Heap} {t' : Nat} {ob : HO} (I : Inv X pins σ H s) (mu : Mut (H a)) (hs : Heap.SameBut a s.heap h') (he : ∃ q, h'.get? a = some q) (new : ObjOk X.prog X.w (upd H a ob) h' a ob) :
    Inv X pins σ (upd H a ob) { s with heap := h', toks := t' } :=
  I.write (x := a) (e := a) mu (.inl rfl) (fun b q hb z => (hs.2 b hb).trans z) he new
theorem dk_new {P : Program} {w : World} {H' : Hp} {h' : Heap} {kvs : List (Key × V)} {vs : List (Key × Value)} (z : kvs.length ≤ sizeLine) (hd : (a == sysModules) = false) (rel : KV kvs vs) (dd : h'.DictOf (mixKind P w) a vs) :
    ObjOk P w H' h' a (.dK kvs) := ⟨z, hd, vs, rel, dd⟩
end

section
variable {X : Cx} {pins : List (Addr × Obj)} {σ : St} {H : Hp} {s : Shared} {a : Addr} {kvs : List (Key × V)} {k : Key} {u : Value} {A : Around} {E : Value → Shared → Prop}
end


section
variable {X : Cx} {o i e value : Expr} {pos pos' tpos : Pos} {td ty tv : TE}
end


theorem dk_empty {P : Program} {w : World} {H : Hp} (h : Heap) (hb : sysModules < h.objs.size) : ObjOk P w H (h.push { cls := .type "dict", data := .dict #[] }) h.objs.size (.dK []) :=
  ⟨Nat.zero_le _, beq_eq_false_iff_ne.mpr (Ne.symm (Nat.ne_of_lt hb)), [], .nil, Heap.DictOf.new h⟩
section
variable {X : Cx} {pos : Pos}
end

def tPairs : List (TE × TE) → St → Hp → (List (V × V) → Hp → Prop) → Prop
  | [], _, H, Q => Q [] H
  | (tk, tv) :: r, σ, H, Q => tk σ H fun x H1 => tv σ H1 fun y H2 => tPairs r σ H2 fun ps H3 => Q ((x, y) :: ps) H3
abbrev VV : List (V × V) → List (Value × Value) → Prop := Paired fun p q => RelV p.1 q.1 ∧ RelV p.2 q.2
def PPs (X : Cx) (pos : Pos) (keys : List (Option Expr)) (values : List Expr) (trs : List (TE × TE)) : Prop :=
  ∀ (pins : List (Addr × Obj)) (s : Shared) (σ : St) (H : Hp) (Q : List (V × V) → Hp → Prop), Inv X pins σ H s → tPairs trs σ H Q →
    wpAny (model X.prog X.w) X.A (evalPairs (pairTrees keys values X.env pos)) (fun vs s' => ∃ ps H', Inv X pins σ H' s' ∧ VV ps vs ∧ Q ps H') X.xe s
theorem pps_nil {X : Cx} {pos : Pos} : PPs X pos [] [] [] := fun pins s σ H Q I h => pairTrees_nil_walk ⟨[], H, I, .nil, h⟩
theorem pps_cons {X : Cx} {pos : Pos} {k v : Expr} {ks : List (Option Expr)} {vs : List Expr} {tk tv : TE} {trs : List (TE × TE)} (hk : PE X k tk) (hv : PE X v tv) (hr : PPs X pos ks vs trs) :
    PPs X pos (some k :: ks) (v :: vs) ((tk, tv) :: trs) := fun pins s σ H Q I h =>
  pairTrees_cons_walk (thn (hk pins s σ H _ I h) fun u s1 ⟨x, H1, I1, rx, q1⟩ => thn (hv pins s1 σ H1 _ I1 q1) fun w2 s2 ⟨y, H2, I2, ry, q2⟩ =>
    thn (hr pins s2 σ H2 _ I2 q2) fun ws s3 ⟨ps, H3, I3, rel, q3⟩ => ⟨(x, y) :: ps, H3, I3, .cons ⟨rx, ry⟩ rel, q3⟩)

def mergeK (kvs more : List (Key × V)) : List (Key × V) := more.foldl (fun acc kv => putK acc kv.1 kv.2) kvs
theorem KV.merge : ∀ {more : List (Key × V)} {rs : List (Key × Value)} {kvs : List (Key × V)} {vs : List (Key × Value)}, KV more rs → KV kvs vs → KV (mergeK kvs more) (merged vs rs) := by
  intro more rs kvs vs r
  unfold KV at r
  induction r generalizing kvs vs with
  | nil => intro q; exact q
  | @cons p q ps qs h t ih =>
    intro r0
    have e : KV (putK kvs p.1 p.2) (stored vs q.1 q.2) := by
      have := r0.put p.1 h.2
      rw [← h.1]; exact this
    exact ih e
theorem length_mergeK : ∀ (more kvs : List (Key × V)), (mergeK kvs more).length ≤ kvs.length + more.length
  | [], kvs => by show kvs.length ≤ kvs.length + 0; omega
  | p :: r, kvs => by
    have h1 := length_mergeK r (putK kvs p.1 p.2)
    have h2 := length_putK kvs p.1 p.2
    show (mergeK (putK kvs p.1 p.2) r).length ≤ _
    rw [List.length_cons]; omega
theorem carries_of {P : Program} {w : World} : ∀ {kvs : List (Key × V)} {ws : List (Value × Value)}, VV (kvs.map fun kv => (kV kv.1, kv.2)) ws → ∃ rs, Carries (mixKind P w) ws rs ∧ KV kvs rs
  | [], _, r => by rw [List.map_nil] at r; cases r; exact ⟨[], True.intro, .nil⟩
  | p :: kvs, _, r => by
    rw [List.map_cons] at r
    cases r with
    | @cons a b as bs h t =>
      obtain ⟨rs, c, q⟩ := carries_of (P := P) (w := w) t
      obtain ⟨b1, b2⟩ := b
      exact ⟨(p.1, b2) :: rs, ⟨kV_is h.1, rfl, c⟩, .cons ⟨rfl, h.2⟩ q⟩
def tDisp (trs : List (TE × TE)) : TE := fun σ H Q => ∀ p, H p = none → tPairs trs σ (upd H p (.dK [])) fun ps H2 => H2 p = some (.dK []) ∧ ∃ kvs : List (Key × V), ps = kvs.map (fun kv => (kV kv.1, kv.2)) ∧ kvs.length ≤ 15 ∧ Q (.ref p) (upd H2 p (.dK (mergeK [] kvs)))
theorem pe_disp {X : Cx} {pos : Pos} {keys : List (Option Expr)} {values : List Expr} {trs : List (TE × TE)} (h : PPs X pos keys values trs) (hall : keys.all (·.isSome) = true) (hl : keys.length = values.length) (h0 : keys ≠ [])
    (h15 : keys.length ≤ 15) : PE X (.Dict keys values pos) (tDisp trs) := by
  intro pins s σ H Q I q
  have hn := I.hok.fresh (Nat.le_refl s.heap.objs.size)
  have I1 := I.laid (a := s.heap.objs.size) (o := .dK []) (h' := s.heap.push { cls := .type "dict", data := .dict #[] }) (t' := s.toks) (fun _ _ q => Heap.get?_push_of_some _ q) (Nat.le_refl _) (dk_empty s.heap I.big)
  refine wpAny_Dict_walk (knd := mixKind X.prog X.w) hall hl h0 h15 (thn (h pins _ σ _ _ I1 (q _ hn)) fun ws s2 ⟨ps, H2, I2, rel, e, kvs, ep, lk, q2⟩ => ?_)
  subst ep
  obtain ⟨rs, c, rk⟩ := carries_of (P := X.prog) (w := X.w) rel
  obtain ⟨z, hd, vs0, r0, dd⟩ := dk_of I2.hok e
  cases r0
  refine ⟨rs, c, dd, fun h' dd' hs => ⟨.ref s.heap.objs.size, _, ?_, rfl, q2⟩⟩
  have hz : (mergeK [] kvs).length ≤ sizeLine := by
    have h1 := length_mergeK kvs []
    rw [List.length_nil] at h1
    rw [sizeLine_eq]; omega
  have he : ∃ q, h'.get? s.heap.objs.size = some q := let ⟨q, _, _, hq, _⟩ := dd'; ⟨q, hq⟩
  exact d_write I2 (by rw [e]; exact True.intro) hs he (dk_new hz hd (rk.merge .nil) dd')


structure M1 (X : Cx) (o : Expr) (m : Str) (apos : Pos) (e : Expr) (cpos : Pos) : Prop where
  base : attributeBase o m X.env (eval o X.env) = eval o X.env
  few : ((backTo cpos (starEach [e] X.env)).all (fun x => !x.1) && (backToKw cpos (keywordEach [] X.env)).all (fun x => x.1.isSome)
    && decide (([e] : List Expr).length + ([] : List Keyword).length + (if ([] : List Keyword).isEmpty then 0 else 1) < 30)) = true
  line : (apos.endLine == cpos.line) = true
  trees : backTo cpos (starEach [e] X.env) = [(false, eval e X.env)]
structure M2 (X : Cx) (o : Expr) (m : Str) (apos : Pos) (e f : Expr) (cpos : Pos) : Prop where
  base : attributeBase o m X.env (eval o X.env) = eval o X.env
  few : ((backTo cpos (starEach [e, f] X.env)).all (fun x => !x.1) && (backToKw cpos (keywordEach [] X.env)).all (fun x => x.1.isSome)
    && decide (([e, f] : List Expr).length + ([] : List Keyword).length + (if ([] : List Keyword).isEmpty then 0 else 1) < 30)) = true
  line : (apos.endLine == cpos.line) = true
  trees : backTo cpos (starEach [e, f] X.env) = [(false, eval e X.env), (false, eval f X.env)]

def IsD (H : Hp) (a : Addr) : Prop := (∃ kvs, Rd H a (.dK kvs)) ∨ ∃ kvs, Rd H a (.dT kvs)
section
variable {X : Cx} {pins : List (Addr × Obj)} {σ : St} {H : Hp} {s : Shared} {a : Addr} {y d : V} {u r : Value} {o : Option V} {A : Around} {E : Value → Shared → Prop}
end

section
variable {X : Cx} {o e f : Expr} {apos cpos : Pos} {td ty tx : TE}
end

section
variable {X : Cx} {pins : List (Addr × Obj)} {σ : St} {H : Hp} {s : Shared} {a : Addr} {kvs : List (Key × V)} {A : Around} {E : Value → Shared → Prop}
end


section
variable {X : Cx} {pins : List (Addr × Obj)} {σ : St} {H : Hp} {s : Shared} {a : Addr} {y : V} {u : Value} {A : Around} {E : Value → Shared → Prop}
end
end L2

namespace HT
open PySem PyProof.Rows

def lexLt : List Int → List Int → Bool
  | [], [] => false
  | [], _ :: _ => true
  | _ :: _, [] => false
  | x :: xs, y :: ys => if x = y then lexLt xs ys else decide (x < y)
section
open PySem.SeqAt
open PySem.AutoSeq1 (wpAny_loadPart')
open PySem.MeetsSeq PySem.MeetsSeq2 PySem.MeetsSeq3

end

section
variable {prog : Program} {w : World} {A : Around} {E : Value → Shared → Prop} {s : Shared}

theorem cat_tup {t b : Addr} {vs ws : List Value} {Q : Value → Shared → Prop} (ht : IsTup s.heap t vs.toArray) (hb : IsTup s.heap b ws.toArray) (hv : vs ≠ [])
    (h1 : ws = [] → Q (.ref t) s) (h2 : ws ≠ [] → Q (.ref s.heap.objs.size) { s with heap := s.heap.push { cls := .type "tuple", data := .seq (vs ++ ws).toArray } })
    (hsz : vs.length + ws.length ≤ sizeLine) : wpAny (model prog w) A (binaryOp .Add (.ref t) (.ref b)) Q E s := by
  obtain ⟨⟨cls, dd, data, sl⟩, ho, hc, n, hd⟩ := id ht
  obtain ⟨⟨cls2, dd2, data2, sl2⟩, ho2, hc2, n2, hd2⟩ := id hb
  simp only at hc hd hc2 hd2
  subst hc hd hc2 hd2
  have e : vs.toArray ++ ws.toArray = (vs ++ ws).toArray := by simp
  by_cases hw : ws = []
  · exact concat_meets ⟨_, ho, rfl⟩ ⟨_, ho2, rfl⟩ noFill_tuple_add seq_tuple_add PySem.F.slot_tuple_add PySem.F.entry_tuple_add (PySem.F.args_tuple_add_2 _ _)
      (tuple_addW1 t b vs.toArray ws.toArray n n2 dd dd2 sl sl2 (by simpa using hv) (by simp [hw])) ⟨ho, ho2, h1 hw⟩
  · refine concat_meets ⟨_, ho, rfl⟩ ⟨_, ho2, rfl⟩ noFill_tuple_add seq_tuple_add PySem.F.slot_tuple_add PySem.F.entry_tuple_add (PySem.F.args_tuple_add_2 _ _)
      (tuple_addW2 t b vs.toArray ws.toArray n n2 dd dd2 sl sl2 (by simpa using hv) (by simpa using hw) (by rw [List.size_toArray, List.size_toArray]; exact hsz)) ⟨ho, ho2, ?_⟩
    rw [e]
    exact h2 hw

def sIx (n d : Nat) : Option Int → Nat
  | none => d
  | some v => if v < 0 then (v + (n : Int)).toNat else min v.toNat n
theorem sIx_none (n d : Nat) : sIx n d none = d := rfl
theorem sIx_nat (n d k : Nat) : sIx n d (some (k : Int)) = min k n := by
  show (if (k : Int) < 0 then ((k : Int) + (n : Int)).toNat else min (k : Int).toNat n) = min k n
  rw [if_neg (by omega), Int.toNat_natCast]
theorem sIx_le (n d : Nat) (hd : d ≤ n) (o : Option Int) : sIx n d o ≤ n := by
  cases o with
  | none => exact hd
  | some v =>
    show (if v < 0 then (v + (n : Int)).toNat else min v.toNat n) ≤ n
    by_cases hv : v < 0
    · rw [if_pos hv]; omega
    · rw [if_neg hv]; exact Nat.min_le_right _ _
theorem clip_eq (v : Int) (n d : Nat) : (if v < 0 then max (v + (n : Int)) 0 else min v (n : Int)) = ((sIx n d (some v) : Nat) : Int) := by
  show (if v < 0 then max (v + (n : Int)) 0 else min v (n : Int)) = (((if v < 0 then (v + (n : Int)).toNat else min v.toNat n) : Nat) : Int)
  by_cases hv : v < 0
  · simp only [if_pos hv]; omega
  · simp only [if_neg hv]; omega
theorem adjust_gen (lo hi : Option Int) (n : Nat) : Builtin.Slice.sliceAdjust lo hi 1 (n : Int) = (((sIx n 0 lo : Nat) : Int), ((sIx n n hi : Nat) : Int)) := by
  have h1 : ¬ ((1 : Int) < 0) := by omega
  unfold Builtin.Slice.sliceAdjust
  simp only [h1, if_false]
  refine Prod.ext ?_ ?_
  · cases lo with
    | none => rfl
    | some v => exact clip_eq v n 0
  · cases hi with
    | none => rfl
    | some v => exact clip_eq v n n
theorem places_gen (i j : Nat) : Builtin.Slice.slicePlaces (i : Int) (j : Int) 1 = j - i := by
  unfold Builtin.Slice.slicePlaces
  have h1 : (1 : Int) > 0 := by omega
  simp only [h1, if_true, Int.ediv_one]
  split <;> omega
theorem slicePart_ {v : Value} {o : Option Int} {Q : Option Int → Shared → Prop} (p : IsPart v o) (h : Q o s) : wpAny (model prog w) A (Builtin.Slice.slicePartIndex v) Q E s := by
  cases p with
  | none => exact slicePart_none h
  | int i t => exact slicePart_int h
theorem sliceApplied_gen {sl : Addr} {vl vu : Value} {lo hi : Option Int} {n : Nat} {Q : Int × Int × Nat → Shared → Prop} (hs : s.heap.IsSliceOf sl vl vu .none) (pl : IsPart vl lo) (pu : IsPart vu hi)
    (h : Q (((sIx n 0 lo : Nat) : Int), 1, sIx n n hi - sIx n 0 lo) s) : wpAny (model prog w) A (Builtin.Slice.sliceApplied (.ref sl) (pure (n : Int))) Q E s := by
  obtain ⟨os, hos, hcs, hds⟩ := id hs
  unfold Builtin.Slice.sliceApplied Builtin.Slice.sliceFields
  refine wpAny_bind (wpAny_bind (wpAny_field hos hds (x := vl) rfl (wpAny_bind (wpAny_field hos hds (x := vu) rfl (wpAny_bind (wpAny_field hos hds (x := .none) rfl (wpAny_pure ?_)))))))
  refine wpAny_bind (slicePart_none ?_)
  show wpAny _ _ (if ((1 : Int) == 0) = true then _ else _) _ _ s
  rw [if_neg (by decide)]
  refine wpAny_bind (slicePart_ pl (wpAny_bind (slicePart_ pu (wpAny_bind (wpAny_pure ?_)))))
  show wpAny _ _ (match Builtin.Slice.sliceAdjust lo hi 1 (n : Int) with | (lo, hi) => pure (lo, (1 : Int), Builtin.Slice.slicePlaces lo hi 1)) _ _ s
  rw [adjust_gen lo hi n]
  show wpAny _ _ (pure (((sIx n 0 lo : Nat) : Int), (1 : Int), Builtin.Slice.slicePlaces ((sIx n 0 lo : Nat) : Int) ((sIx n n hi : Nat) : Int) 1)) _ _ s
  rw [places_gen]
  exact wpAny_pure h
theorem pick_gen (xs : Array Value) (i k : Nat) : ((List.range k).filterMap fun (m : Nat) => xs[((i : Int) + (m : Int) * 1).toNat]?).toArray = ((xs.toList.drop i).take k).toArray := by
  have e : (fun (m : Nat) => xs[((i : Int) + (m : Int) * 1).toNat]?) = fun m => xs[i + m]? := by
    funext m
    have : ((i : Int) + (m : Int) * 1).toNat = i + m := by omega
    rw [this]
  rw [e]
  have := pick_run xs i k
  rw [List.filterMap_map] at this
  have e2 : ((fun x => xs[x]?) ∘ fun x => i + x) = fun m => xs[i + m]? := rfl
  rw [e2] at this
  rw [this]

theorem getItem_tuple_cut {t sl : Addr} {items : Array Value} {vl vu : Value} {lo hi : Option Int} {Q : Value → Shared → Prop} (ht : IsTup s.heap t items) (hs : s.heap.IsSliceOf sl vl vu .none) (pl : IsPart vl lo) (pu : IsPart vu hi)
    (hw : ¬ (sIx items.size 0 lo = 0 ∧ sIx items.size items.size hi = items.size))
    (h : Q (.ref s.heap.objs.size) { s with heap := s.heap.push { cls := .type "tuple", data := .seq ((items.toList.drop (sIx items.size 0 lo)).take (sIx items.size items.size hi - sIx items.size 0 lo)).toArray } })
    (hsz : items.size ≤ sizeLine) : wpAny (model prog w) A (getItem (.ref t) (.ref sl)) Q E s := by
  have htake : sizeOk (.seq ((items.toList.drop (sIx items.size 0 lo)).take (sIx items.size items.size hi - sIx items.size 0 lo)).toArray) := by
    show ((items.toList.drop (sIx items.size 0 lo)).take (sIx items.size items.size hi - sIx items.size 0 lo)).toArray.size ≤ sizeLine
    rw [List.size_toArray, List.length_take, List.length_drop, Array.length_toList]
    omega
  have hj : sIx items.size items.size hi ≤ items.size := sIx_le _ _ (Nat.le_refl _) hi
  obtain ⟨os, hos, hcs, hds⟩ := id hs
  have hTs : s.TypeIs (.ref sl) "slice" := ⟨os, hos, hcs⟩
  unfold getItem
  try with_reducible refine wpAny_holding ?_
  first | refine wpAny_bind (wpAny_pure ?_) | skip
  refine wpAny_bind (wpAny_sequenceKey ht.typeIs (by decide) ?_)
  refine wpAny_bind (wpAny_callSpecial?_slot (name := Str.ofString "__getitem__") ht.typeIs PyProof.Rows.slot_tuple_getitem
    (wpAny_call_entry PyProof.Rows.slot_tuple_getitem ht.typeIs entry_tuple_getitem ?_ (args_tuple_getitem _ _)))
  show wpAny _ _ (Builtin.Tuple.tupleItemsOf (.ref t) >>= _) _ _ s
  refine wpAny_bind (tupleItemsOf_ ht ?_)
  refine wpAny_bind (wpAny_typeOf hTs ?_)
  rw [if_pos (by decide)]
  refine wpAny_bind (sliceApplied_gen hs pl pu ?_)
  have hno : ¬ ((((sIx items.size 0 lo : Nat) : Int) == 0 && (1 : Int) == 1 && (sIx items.size items.size hi - sIx items.size 0 lo) == items.size) = true) := by
    intro q
    rw [Bool.and_eq_true, Bool.and_eq_true] at q
    have q1 : ((sIx items.size 0 lo : Nat) : Int) = 0 := eq_of_beq q.1.1
    have q2 : sIx items.size items.size hi - sIx items.size 0 lo = items.size := eq_of_beq q.2
    exact hw ⟨by omega, by omega⟩
  show wpAny _ _ (if (((sIx items.size 0 lo : Nat) : Int) == 0 && (1 : Int) == 1 && (sIx items.size items.size hi - sIx items.size 0 lo) == items.size) = true then _ else _) _ _ s
  rw [if_neg hno, pick_gen]
  first
    | exact wpAny_bind (m := Builtin.Tuple.tupleExact _) (wpAny_newObj_type (wpAny_pure ⟨_, rfl, wpAny_pure h⟩) htake)
    | exact wpAny_bind (m := Builtin.Tuple.tupleExact _) (wpAny_newObj_type (wpAny_bind (wpAny_pure (wpAny_pure ⟨_, rfl, wpAny_pure h⟩))) htake)
    | exact wpAny_bind (wpAny_bind (m := Builtin.Tuple.tupleExact _) (wpAny_newObj_type (wpAny_pure (wpAny_pure ⟨_, rfl, wpAny_pure h⟩)) htake))
    | exact wpAny_bind (wpAny_bind (m := Builtin.Tuple.tupleExact _) (wpAny_newObj_type (wpAny_pure ⟨_, rfl, wpAny_pure h⟩) htake))
end
end HT

namespace L2
open PySem PySem.Spec PyProof.Rows

abbrev TO := St → Hp → (Option Int → Hp → Prop) → Prop
def PO (X : Cx) (e : Option Expr) (t : TO) : Prop :=
  ∀ (pins : List (Addr × Obj)) (s : Shared) (σ : St) (H : Hp) (Q : Option Int → Hp → Prop), Inv X pins σ H s → t σ H Q →
    wpAny (model X.prog X.w) X.A (evalPart e X.env) (fun u s' => ∃ o H', Inv X pins σ H' s' ∧ IsPart u o ∧ Q o H') X.xe s
def tNoPart : TO := fun _ H Q => Q none H
def tPart (t : TE) : TO := fun σ H Q => t σ H fun x H1 => ∃ i, x = .int i ∧ Q (some i) H1

section
variable {X : Cx} {e : Expr} {te : TE} {lo hi : Option Expr} {tl th : TO} {pos p2 : Pos}

theorem po_none : PO X none tNoPart := by
  intro pins s σ H Q I h
  rw [evalPart_none]
  exact wpAny_pure ⟨none, H, I, .none, h⟩
theorem po_some (h : PE X e te) : PO X (some e) (tPart te) := by
  intro pins s σ H Q I hw
  rw [evalPart_some]
  refine thn (h pins s σ H _ I hw) fun u s1 ⟨x, H1, I1, r1, q1⟩ => ?_
  obtain ⟨i, rfl, q⟩ := q1
  obtain ⟨t, rfl⟩ := r1
  exact ⟨some i, H1, I1, .int i t, q⟩

def SlR (X : Cx) (r : V → Option Int → Option Int → Hp → VK → Prop) : Prop :=
  ∀ (pins : List (Addr × Obj)) (s : Shared) (σ : St) (H : Hp) (x : V) (v vl vu : Value) (lo hi : Option Int) (sl : Addr) (Q : VK), Inv X pins σ H s → RelV x v → s.heap.IsSliceOf sl vl vu .none → IsPart vl lo → IsPart vu hi → r x lo hi H Q →
    ∃ T id, typeLookup (.type T) "__getitem__" = pure (some (.builtin id)) ∧ s.TypeIs v T ∧ wpAny (model X.prog X.w) X.A (getItem v (.ref sl)) (EP X pins σ Q) X.xe s
def tSl (r : V → Option Int → Option Int → Hp → VK → Prop) (te : TE) (tl th : TO) : TE := fun σ H Q => te σ H fun x H1 => tl σ H1 fun l H2 => th σ H2 fun u H3 => r x l u H3 Q
theorem pe_slice {r : V → Option Int → Option Int → Hp → VK → Prop} (hr : SlR X r) (he : PE X e te) (hl : PO X lo tl) (hu : PO X hi th) : PE X (.Subscript e (.Slice lo hi none p2) pos) (tSl r te tl th) := by
  intro pins s σ H Q I h
  refine Subscript_ (thn (he pins s σ H _ I h) fun v s1 ⟨x, H1, I1, r1, q1⟩ => ?_)
  refine wpAny_Slice (thn (hl pins s1 σ H1 _ I1 q1) fun vl s2 ⟨l, H2, I2, pl, q2⟩ => thn (hu pins s2 σ H2 _ I2 q2) fun vu s3 ⟨u, H3, I3, pu, q3⟩ => ?_)
  rw [evalPart_none]
  refine wpAny_pure ?_
  have I4 : Inv X pins σ H3 { s3 with heap := s3.heap.push { cls := .type "slice", data := .fields #[vl, vu, .none] } } := I3.kept (t' := s3.toks) fun b ob q => Heap.get?_push_of_some _ q
  obtain ⟨T, id, hT, ht, hg⟩ := hr pins { s3 with heap := s3.heap.push { cls := .type "slice", data := .fields #[vl, vu, .none] } } σ H3 x v vl vu l u s3.heap.objs.size Q I4 r1 (Heap.IsSliceOf.new ..) pl pu q3
  show wpAny (model X.prog X.w) X.A (subscriptTail e (.Slice lo hi none p2) v (.ref s3.heap.objs.size)) (EP X pins σ Q) X.xe { s3 with heap := s3.heap.push { cls := .type "slice", data := .fields #[vl, vu, .none] } }
  exact tail_any (ops := [.ref s3.heap.objs.size, v]) ht hT hg (by with_unfolding_all rfl)

def cutV (xs : List V) (lo hi : Option Int) : List V := (xs.drop (HT.sIx xs.length 0 lo)).take (HT.sIx xs.length xs.length hi - HT.sIx xs.length 0 lo)
theorem cutV_length (xs : List V) (lo hi : Option Int) : (cutV xs lo hi).length ≤ xs.length := by
  unfold cutV
  rw [List.length_take, List.length_drop]
  omega
def rSlT (K : PySem.W.Frag) : V → Option Int → Option Int → Hp → VK → Prop := fun x lo hi H Q => ∃ a xs, x = .ref a ∧ SqT K H a xs ∧
  ¬ (HT.sIx xs.length 0 lo = 0 ∧ HT.sIx xs.length xs.length hi = xs.length) ∧ ∀ p, H p = none → Q (.ref p) (upd H p (.tup (cutV xs lo hi)))
theorem sl_tup : SlR X (rSlT X.K) := by
  intro pins s σ H x v vl vu lo hi sl Q I rx hs pl pu h
  obtain ⟨a, xs, rfl, hx, hw, q⟩ := h
  cases rx
  obtain ⟨its, r, ht, hz⟩ := I.tuple hx
  have hlen : its.toArray.size = xs.length := by rw [List.size_toArray]; exact r.length.symm
  refine ⟨"tuple", _, PyProof.Rows.slot_tuple_getitem.lookup, ht.typeIs, ?_⟩
  refine HT.getItem_tuple_cut ht hs pl pu (by rw [hlen]; exact hw) ?_ (by rw [hlen]; exact hz)
  rw [hlen]
  refine ⟨.ref s.heap.objs.size, _, I.laid (t' := s.toks) (o := .tup (cutV xs lo hi)) (fun b ob q => Heap.get?_push_of_some _ q) (Nat.le_refl _) ?_, rfl, q _ (I.hok.fresh (Nat.le_refl _))⟩
  exact ⟨Nat.le_trans (cutV_length xs lo hi) hz, _, (r.drop (HT.sIx xs.length 0 lo)).take (HT.sIx xs.length xs.length hi - HT.sIx xs.length 0 lo), IsTupD.new _ _⟩

def rCatT (K : PySem.W.Frag) : R2 := fun x y H Q => ∃ a b xs ys, x = .ref a ∧ y = .ref b ∧ SqT K H a xs ∧ SqT K H b ys ∧ xs ≠ [] ∧ xs.length + ys.length ≤ sizeLine ∧
  (ys = [] → Q (.ref a) H) ∧ (ys ≠ [] → ∀ p, H p = none → Q (.ref p) (upd H p (.tup (xs ++ ys))))
theorem Vals.nil_iff {xs : List V} {us : List Value} (r : Vals xs us) : us = [] ↔ xs = [] := by
  cases r with
  | nil => simp
  | cons _ _ => simp
theorem op_catT : OpR X (binaryOp .Add) (rCatT X.K) := by
  intro pins s σ H x y v u Q I rx ry h
  obtain ⟨a, b, xs, ys, rfl, rfl, ha, hb, hx, hz, q1, q2⟩ := h
  cases rx
  cases ry
  obtain ⟨its, r1, p1, _⟩ := I.tuple ha
  obtain ⟨its2, r2, p2, _⟩ := I.tuple hb
  refine HT.cat_tup p1 p2 (fun z => hx (r1.nil_iff.mp z)) (fun z => ⟨.ref a, H, I, rfl, q1 (r2.nil_iff.mp z)⟩) (fun z => ?_) (by rw [← r1.length, ← r2.length]; exact hz)
  refine ⟨.ref s.heap.objs.size, _, I.laid (t' := s.toks) (o := .tup (xs ++ ys)) (fun b ob q => Heap.get?_push_of_some _ q) (Nat.le_refl _) ?_, rfl, q2 (fun w => z (r2.nil_iff.mpr w)) _ (I.hok.fresh (Nat.le_refl _))⟩
  exact ⟨by rw [List.length_append]; exact hz, _, r1.append r2, IsTupD.new _ _⟩
end
end L2

namespace L2
open PySem PySem.Spec PyProof.Rows

def ixN (n : Nat) (i : Int) : Option Nat := if 0 ≤ i then (if i < n then some i.toNat else none) else if -(n : Int) ≤ i then some (i + n).toNat else none
def atI {α : Type} (xs : List α) (i : Int) : Option α := (ixN xs.length i).bind fun j => xs[j]?
theorem ixN_seq {n : Nat} {i : Int} {j : Nat} (h : ixN n i = some j) : seqIndex? i n = some j ∧ j < n ∧ -(n : Int) ≤ i ∧ i < n := by
  unfold ixN at h
  by_cases h0 : 0 ≤ i
  · rw [if_pos h0] at h
    by_cases h1 : i < n
    · rw [if_pos h1] at h
      have e : i.toNat = j := Option.some.inj h
      exact ⟨by rw [seqIndex_of h0 h1, e], by omega, by omega, h1⟩
    · rw [if_neg h1] at h; cases h
  · rw [if_neg h0] at h
    by_cases h1 : -(n : Int) ≤ i
    · rw [if_pos h1] at h
      have e : (i + n).toNat = j := Option.some.inj h
      exact ⟨by rw [seqIndex_neg (by omega) h1, e], by omega, h1, by omega⟩
    · rw [if_neg h1] at h; cases h
theorem atI_get {α : Type} {xs : List α} {i : Int} {v : α} (h : atI xs i = some v) : ∃ j, seqIndex? i xs.length = some j ∧ xs[j]? = some v ∧ j < xs.length ∧ -(xs.length : Int) ≤ i ∧ i < xs.length := by
  unfold atI at h
  cases e : ixN xs.length i with
  | none => rw [e] at h; cases h
  | some j =>
    rw [e] at h
    obtain ⟨h1, h2, h3, h4⟩ := ixN_seq e
    exact ⟨j, h1, h, h2, h3, h4⟩
theorem atI_nat {α : Type} {xs : List α} {j : Nat} {v : α} (h : xs[j]? = some v) : atI xs (j : Int) = some v := by
  have hj : j < xs.length := (List.getElem?_eq_some_iff.mp h).1
  have e : ixN xs.length (j : Int) = some j := by
    unfold ixN
    rw [if_pos (by omega), if_pos (by omega)]; simp
  unfold atI; rw [e]; exact h
def PlainIx (b : Expr) : Prop := ∀ o i, subscripted b false o i = operate [o, i] (getItem o i)
def IxR (X : Cx) (r : R2) : Prop :=
  ∀ (value slice : Expr) (pins : List (Addr × Obj)) (s : Shared) (σ : St) (H : Hp) (x y : V) (v u : Value) (Q : VK), Inv X pins σ H s → RelV x v → RelV y u → r x y H Q →
    subscripted slice false v u = operate [v, u] (getItem v u) → wpAny (model X.prog X.w) X.A (subscriptTail value slice v u) (EP X pins σ Q) X.xe s
def MtR (X : Cx) (id : String) (r : V → List V → Hp → VK → Prop) : Prop :=
  ∀ (pins : List (Addr × Obj)) (s : Shared) (σ : St) (H : Hp) (x : V) (xs : List V) (v : Value) (us : List Value) (Q : VK), Inv X pins σ H s → RelV x v → Vals xs us → r x xs H Q →
    wpAny (model X.prog X.w) X.A (call (.builtin id) (v :: us)) (EP X pins σ Q) X.xe s
section
variable {X : Cx} {a b : Expr} {ta tb : TE} {pos : Pos}
theorem pe_ix {r : R2} (hr : IxR X r) (ha : PE X a ta) (hb : PE X b tb) (hs : PlainIx b) : PE X (.Subscript a b pos) (tOp r ta tb) := by
  intro pins s σ H Q I h
  exact Subscript_ (binT ha hb I h fun v u s2 x y H2 I2 rx ry q => hr a b pins s2 σ H2 x y v u Q I2 rx ry q (hs _ _))

def rIxL (K : PySem.W.Frag) : R2 := fun x y H Q => ∃ p xs i v, x = .ref p ∧ y = .int i ∧ SqL K H p xs ∧ atI xs i = some v ∧ Q v H
def rIxT (K : PySem.W.Frag) : R2 := fun x y H Q => ∃ p xs i v, x = .ref p ∧ y = .int i ∧ SqT K H p xs ∧ atI xs i = some v ∧ Q v H
def rIxS : R2 := fun x y H Q => ∃ z i c, x = .str z ∧ y = .int i ∧ z.length ≤ sizeLine ∧ atI z.cps.toList i = some c ∧ Q (.str ⟨#[c]⟩) H
theorem ix_list : IxR X (rIxL X.K) := by
  intro value slice pins s σ H x y v u Q I rx ry h hs
  obtain ⟨p, xs, i, z, rfl, rfl, hq, he, q⟩ := h
  cases rx
  obtain ⟨t, rfl⟩ := ry
  obtain ⟨its, r, pl, hz⟩ := I.list hq
  obtain ⟨j, h1, h2, h3, h4, h5⟩ := atI_get he
  obtain ⟨w, ew, rw'⟩ := r.get h2
  have hl := r.length
  have hn := line63
  have fin : EP X pins σ Q w s := ⟨z, H, I, rw', q⟩
  by_cases h0 : 0 ≤ i
  · have hj : i.toNat = j := by
      rw [seqIndex_of h0 h5] at h1
      exact Option.some.inj h1
    exact item_listR pl.isList h0 (by omega) (by rw [hj]; simpa using ew) fin hs
  · have hj : (i + (its.toArray.size : Int)).toNat = j := by
      rw [seqIndex_neg (by omega) h4] at h1
      rw [List.size_toArray, ← hl]
      exact Option.some.inj h1
    exact subscriptTail_builtinR (x := w) pl.isList.typeIs slot_list_getitem.lookup
      (wpAny_getItem_list_neg (Q := fun r s' => r = w ∧ EP X pins σ Q r s') pl.isList (by omega) (by rw [List.size_toArray] <;> omega) (by omega) (by rw [hj]; simpa using ew) ⟨rfl, fin⟩) hs
theorem ix_tup : IxR X (rIxT X.K) := by
  intro value slice pins s σ H x y v u Q I rx ry h hs
  obtain ⟨p, xs, i, z, rfl, rfl, hq, he, q⟩ := h
  cases rx
  obtain ⟨t, rfl⟩ := ry
  obtain ⟨its, r, pl, hz⟩ := I.tuple hq
  obtain ⟨j, h1, h2, h3, h4, h5⟩ := atI_get he
  obtain ⟨w, ew, rw'⟩ := r.get h2
  have hl := r.length
  have hn := line63
  have fin : EP X pins σ Q w s := ⟨z, H, I, rw', q⟩
  exact subscriptTail_builtinR (x := w) pl.typeIs slot_tuple_getitem.lookup
    (getItem_tuple (j := j) (Q := fun r s' => r = w ∧ EP X pins σ Q r s') pl (by omega) (by omega) (by rw [List.size_toArray, ← hl]; exact h1) (by simpa using ew) ⟨rfl, fin⟩) hs
theorem ix_str : IxR X rIxS := by
  intro value slice pins s σ H x y v u Q I rx ry h hs
  obtain ⟨z, i, c, rfl, rfl, hz, he, q⟩ := h
  obtain ⟨t, rfl⟩ := rx
  obtain ⟨t', rfl⟩ := ry
  obtain ⟨j, h1, h2, h3, h4, h5⟩ := atI_get he
  have hl : z.cps.toList.length = z.length := by simp [Str.length]
  rw [hl] at h1 h4 h5
  have hn := line63
  exact tail_any (typeIs_str s z t) slot_str_getitem.lookup (getItem_str (c := c) (by
    have e1 : decide (i < -(2 ^ 63 : Int)) = false := decide_eq_false (by omega)
    have e2 : decide (i ≥ 2 ^ 63) = false := decide_eq_false (by omega)
    rw [e1, e2, Bool.or_false]) (by rw [h1]; simpa using h2) ⟨.str ⟨#[c]⟩, H, I.tok _, ⟨_, rfl⟩, q⟩) hs
theorem slice_bounds (lo hi : Option Int) (n : Nat) : (sliceBounds lo hi none n).1 = ((HT.sIx n 0 lo : Nat) : Int) ∧ (sliceBounds lo hi none n).2.1 = ((HT.sIx n n hi : Nat) : Int) ∧ (sliceBounds lo hi none n).2.2 = 1 := by
  refine ⟨?_, ?_, rfl⟩
  · cases lo with
    | none => simp [sliceBounds, HT.sIx]
    | some i =>
      simp only [sliceBounds, HT.sIx, Option.getD_none, show (1 : Int) > 0 by decide, if_true]
      by_cases h : i < 0
      · simp only [h, if_true] <;> omega
      · simp only [h, if_false] <;> omega
  · cases hi with
    | none => simp [sliceBounds, HT.sIx]
    | some i =>
      simp only [sliceBounds, HT.sIx, Option.getD_none, show (1 : Int) > 0 by decide, if_true]
      by_cases h : i < 0
      · simp only [h, if_true] <;> omega
      · simp only [h, if_false] <;> omega
theorem slicePick_cut (its : List Value) (lo hi : Option Int) : slicePick its.toArray lo hi none = ((its.drop (HT.sIx its.length 0 lo)).take (HT.sIx its.length its.length hi - HT.sIx its.length 0 lo)).toArray := by
  obtain ⟨h1, h2, h3⟩ := slice_bounds lo hi its.toArray.size
  unfold slicePick
  rw [h1, h2, h3]
  simp only [sliceRange_one, pick_run, List.size_toArray] <;> rfl
def rSlL (K : PySem.W.Frag) : V → Option Int → Option Int → Hp → VK → Prop := fun x lo hi H Q => ∃ a xs, x = .ref a ∧ SqL K H a xs ∧ ∀ p, H p = none → Q (.ref p) (upd H p (.lst (cutV xs lo hi)))
theorem sl_list : SlR X (rSlL X.K) := by
  intro pins s σ H x v vl vu lo hi sl Q I rx hs pl pu h
  obtain ⟨a, xs, rfl, hx, q⟩ := h
  cases rx
  obtain ⟨its, r, ht, hz⟩ := I.list hx
  have hlen := r.length
  refine ⟨"list", _, slot_list_getitem.lookup, ht.isList.typeIs, ?_⟩
  refine wpAny_getItem_list_slice ht.isList hs pl pu .none (by simp) ?_ (by rw [List.size_toArray] <;> omega)
  rw [slicePick_cut, ← hlen]
  refine ⟨.ref s.heap.objs.size, _, I.laid (t' := s.toks) (o := .lst (cutV xs lo hi)) (fun b ob q => Heap.get?_push_of_some _ q) (Nat.le_refl _) ?_, rfl, q _ (I.hok.fresh (Nat.le_refl _))⟩
  exact ⟨Nat.le_trans (cutV_length xs lo hi) hz, _, 0, (r.drop (HT.sIx xs.length 0 lo)).take (HT.sIx xs.length xs.length hi - HT.sIx xs.length 0 lo), Heap.get?_push_size _ rfl⟩

def flatV : V → Bool
  | .non => true
  | .bl _ => true
  | .int _ => true
  | .str _ => true
  | _ => false
def eqV : V → V → Bool
  | .non, .non => true
  | .bl a, .bl b => a == b
  | .bl a, .int b => (if a then 1 else 0) == b
  | .int a, .bl b => a == (if b then 1 else 0)
  | .int a, .int b => a == b
  | .str a, .str b => a == b
  | _, _ => false
theorem eqAt_V {A : Around} {s : Shared} {y x : V} {u v : Value} (ry : RelV y u) (rx : RelV x v) (fy : flatV y = true) (fx : flatV x = true) : SeqAt.EqAt A s u v (eqV y x) := by
  cases y with
  | non =>
    cases ry
    cases x with
    | non => cases rx; exact SeqAt.EqAt.same _
    | bl b => cases rx; exact SeqAt.EqAt.none_bool b
    | int b => obtain ⟨t, rfl⟩ := rx; exact SeqAt.EqAt.none_int b t
    | str b => obtain ⟨t, rfl⟩ := rx; exact SeqAt.EqAt.none_str b t
    | _ => exact absurd (show false = true from fx) Bool.false_ne_true
  | bl a =>
    cases ry
    cases x with
    | non => cases rx; exact SeqAt.EqAt.bool_none a
    | bl b => cases rx; exact SeqAt.EqAt.bool_bool a b
    | int b => obtain ⟨t, rfl⟩ := rx; exact SeqAt.EqAt.bool_int a b t
    | str b => obtain ⟨t, rfl⟩ := rx; exact SeqAt.EqAt.bool_str a b t
    | _ => exact absurd (show false = true from fx) Bool.false_ne_true
  | int a =>
    obtain ⟨t', rfl⟩ := ry
    cases x with
    | non => cases rx; exact SeqAt.EqAt.int_none a t'
    | bl b => cases rx; exact SeqAt.EqAt.int_bool a t' b
    | int b => obtain ⟨t, rfl⟩ := rx; exact SeqAt.EqAt.int_int a t' b t
    | str b => obtain ⟨t, rfl⟩ := rx; exact SeqAt.EqAt.int_str a t' b t
    | _ => exact absurd (show false = true from fx) Bool.false_ne_true
  | str a =>
    obtain ⟨t', rfl⟩ := ry
    cases x with
    | non => cases rx; exact SeqAt.EqAt.str_none a t'
    | bl b => cases rx; exact SeqAt.EqAt.str_bool a t' b
    | int b => obtain ⟨t, rfl⟩ := rx; exact SeqAt.EqAt.str_int a t' b t
    | str b => obtain ⟨t, rfl⟩ := rx; exact SeqAt.EqAt.str_str a t' b t
    | _ => exact absurd (show false = true from fx) Bool.false_ne_true
  | _ => exact absurd (show false = true from fy) Bool.false_ne_true
def eqU (x : V) (u : Value) : Bool := match u with
  | .none => eqV .non x
  | .bool b => eqV (.bl b) x
  | .int i _ => eqV (.int i) x
  | .str z _ => eqV (.str z) x
  | _ => false
theorem eqU_of {x y : V} {u : Value} (r : RelV y u) (f : flatV y = true) : eqU x u = eqV y x := by
  cases y with
  | non => cases r; rfl
  | bl b => cases r; rfl
  | int i => obtain ⟨t, rfl⟩ := r; rfl
  | str z => obtain ⟨t, rfl⟩ := r; rfl
  | _ => exact absurd (show false = true from f) Bool.false_ne_true
theorem any_eqU {x : V} : ∀ {xs : List V} {us : List Value}, Vals xs us → xs.all flatV = true → us.any (eqU x) = xs.any fun y => eqV y x
  | _, _, .nil, _ => rfl
  | y :: xs, u :: us, .cons r t, f => by
    rw [List.all_cons, Bool.and_eq_true] at f
    rw [List.any_cons, List.any_cons, eqU_of r f.1, any_eqU t f.2]
theorem mem_eqAt {A : Around} {s : Shared} {x : V} {v : Value} (rx : RelV x v) (fx : flatV x = true) : ∀ {xs : List V} {us : List Value}, Vals xs us → xs.all flatV = true → ∀ u ∈ us, SeqAt.EqAt A s u v (eqU x u)
  | _, _, .nil, _ => fun u hu => by cases hu
  | y :: xs, u :: us, .cons r t, f => fun u' hu => by
    rw [List.all_cons, Bool.and_eq_true] at f
    rcases List.mem_cons.mp hu with rfl | hu
    · rw [eqU_of r f.1]; exact eqAt_V r rx f.1 fx
    · exact mem_eqAt rx fx t f.2 u' hu
def inV (x : V) (xs : List V) : Bool := xs.any fun y => eqV y x
def rIn (K : PySem.W.Frag) (neg : Bool) : R2 := fun x y H Q => ∃ p xs, y = .ref p ∧ (SqL K H p xs ∨ SqT K H p xs) ∧ flatV x = true ∧ xs.all flatV = true ∧ Q (.bl (if neg then !inV x xs else inV x xs)) H
theorem op_in_seq : OpR X (compareOp .In) (rIn X.K false) := by
  intro pins s σ H x y v u Q I rx ry h
  obtain ⟨p, xs, rfl, hq, fx, fs, q⟩ := h
  cases ry
  rcases hq with hq | hq
  · obtain ⟨its, r, pl, hz⟩ := I.list hq
    refine SeqAt.in_listAt (eqU x) pl.isList (fun w hw => mem_eqAt rx fx r fs w (by simpa using hw)) ⟨.bl _, H, I, rfl, ?_⟩
    rw [show its.toArray.any (eqU x) = its.any (eqU x) by simp, any_eqU r fs]
    exact q
  · obtain ⟨its, r, pl, hz⟩ := I.tuple hq
    refine SeqAt.in_tupleAt (eqU x) pl (fun w hw => mem_eqAt rx fx r fs w (by simpa using hw)) ⟨.bl _, H, I, rfl, ?_⟩
    rw [show its.toArray.any (eqU x) = its.any (eqU x) by simp, any_eqU r fs]
    exact q
theorem call_len_seq : CallR X (.builtin "len") (fun xs H Q => ∃ p ys, xs = [.ref p] ∧ (SqL X.K H p ys ∨ SqT X.K H p ys) ∧ Q (.int ys.length) H) := by
  intro pins s σ H xs us Q I r h
  obtain ⟨p, ys, rfl, hq, q⟩ := h
  obtain ⟨u, rfl, rx⟩ := vals1 r
  cases rx
  have hn := line63
  rcases hq with hq | hq
  · obtain ⟨its, r', pl, hz⟩ := I.list hq
    have hlen := r'.length
    exact Calls.call_len_list pl.isList (by simp only [List.size_toArray] <;> omega) ⟨.int ys.length, H, I.tok _, ⟨s.toks + 1, by rw [List.size_toArray, hlen]⟩, q⟩
  · obtain ⟨its, r', pl, hz⟩ := I.tuple hq
    have hlen := r'.length
    exact len_tuple pl (by simp only [List.size_toArray] <;> omega) ⟨.int ys.length, H, I.tok _, ⟨s.toks + 1, by rw [List.size_toArray, hlen]⟩, q⟩
theorem call_len_str : CallR X (.builtin "len") (fun xs H Q => ∃ z, xs = [.str z] ∧ z.length ≤ sizeLine ∧ Q (.int z.length) H) := by
  intro pins s σ H xs us Q I r h
  obtain ⟨z, rfl, hz, q⟩ := h
  obtain ⟨u, rfl, t, rfl⟩ := vals1 r
  have hn := line63
  exact len_str (by omega) ⟨.int z.length, H, I.tok _, ⟨_, rfl⟩, q⟩
theorem call_list_of : CallR X (.type "list") (fun xs H Q => ∃ p ys, xs = [.ref p] ∧ (SqL X.K H p ys ∨ SqT X.K H p ys) ∧ ∀ l, H l = none → Q (.ref l) (upd H l (.lst ys))) := by
  intro pins s σ H xs us Q I r h
  obtain ⟨p, ys, rfl, hq, q⟩ := h
  obtain ⟨u, rfl, rx⟩ := vals1 r
  cases rx
  have fin : ∀ (its : List Value), Vals ys its → ys.length ≤ sizeLine → ∀ (h' : Heap) (c' : Nat), (∀ b o', s.heap.get? b = some o' → h'.get? b = some o') →
      h'.get? s.heap.objs.size = some { cls := .type "list", dict := none, data := .seq its.toArray c', slots := #[] } → EP X pins σ Q (.ref s.heap.objs.size) { s with heap := h' } := fun its r' hz h' c' kp e =>
    ⟨.ref s.heap.objs.size, _, I.laid (t' := s.toks) kp (Nat.le_refl _) (show ObjOk X.prog X.w _ h' _ (.lst ys) from ⟨hz, its, c', r', e⟩), rfl, q _ (I.hok.fresh (Nat.le_refl _))⟩
  rcases hq with hq | hq
  · obtain ⟨its, r', pl, hz⟩ := I.list hq
    have hlen := r'.length
    obtain ⟨o, ho, hc, n, hd⟩ := pl.isList
    exact call_list_seq p (.inl rfl) ho hc hd (fun h' c' kp e => fin its r' hz h' c' kp e) (by simp only [List.size_toArray] <;> omega)
  · obtain ⟨its, r', pl, hz⟩ := I.tuple hq
    have hlen := r'.length
    obtain ⟨o, ho, hc, n, hd⟩ := pl
    exact call_list_seq p (.inr rfl) ho hc hd (fun h' c' kp e => fin its r' hz h' c' kp e) (by simp only [List.size_toArray] <;> omega)
theorem call_tuple_of : CallR X (.type "tuple") (fun xs H Q => ∃ p ys, xs = [.ref p] ∧ ((SqL X.K H p ys ∧ ∀ l, H l = none → Q (.ref l) (upd H l (.tup ys))) ∨ (SqT X.K H p ys ∧ Q (.ref p) H))) := by
  intro pins s σ H xs us Q I r h
  obtain ⟨p, ys, rfl, h⟩ := h
  obtain ⟨u, rfl, rx⟩ := vals1 r
  cases rx
  rcases h with ⟨hq, q⟩ | ⟨hq, q⟩
  · obtain ⟨its, r', pl, hz⟩ := I.list hq
    have hlen := r'.length
    refine call_tuple_list pl.isList (fun h' kp => ?_) (by simp only [List.size_toArray] <;> omega)
    have I1 : Inv X pins σ H { s with heap := h' } := I.kept (t' := s.toks) kp
    have I2 : Inv X pins σ (upd H h'.objs.size (.tup ys)) { s with heap := h'.push { cls := .type "tuple", data := .seq its.toArray } } :=
      I1.laid (t' := s.toks) (fun b o e => Heap.get?_push_of_some _ e) (Nat.le_refl _) (show ObjOk X.prog X.w _ _ _ (.tup ys) from ⟨hz, its, r', IsTupD.new _ _⟩)
    exact ⟨.ref h'.objs.size, _, I2, rfl, q _ (I1.hok.fresh (Nat.le_refl _))⟩
  · obtain ⟨its, r', pl, hz⟩ := I.tuple hq
    exact call_tuple_same pl ⟨.ref p, H, I, rfl, q⟩

def tyV (K : PySem.W.Frag) (T : String) (x : V) (H : Hp) : Prop := match x with
  | .str _ => T = "str"
  | .int _ => T = "int"
  | .ref p => (T = "list" ∧ ∃ xs, SqL K H p xs) ∨ (T = "tuple" ∧ ∃ o, K.lookup p = some o ∧ o.cls = .type "tuple" ∧ o.dict = none) ∨
      (T = "dict" ∧ ((∃ kvs, H p = some (.dK kvs)) ∨ ∃ kvs, H p = some (.dT kvs))) ∨ (T = "set" ∧ ∃ S n, H p = some (.set S n)) ∨ (T = "tuple" ∧ ∃ xs, H p = some (.tup xs))
  | _ => False
theorem tyV_is {pins : List (Addr × Obj)} {σ : St} {H : Hp} {s : Shared} {T : String} {x : V} {v : Value} (I : Inv X pins σ H s) (r : RelV x v) (ty : tyV X.K T x H) :
    s.TypeIs v T ∧ ∀ a, v = .ref a → ∃ ob, s.heap.get? a = some ob ∧ ob.dict = none := by
  cases x with
  | str z =>
    obtain ⟨t, rfl⟩ := r
    cases (show T = "str" from ty)
    exact ⟨typeIs_str s z t, fun _ e => nomatch e⟩
  | int i =>
    obtain ⟨t, rfl⟩ := r
    cases (show T = "int" from ty)
    exact ⟨typeIs_int s i t, fun _ e => nomatch e⟩
  | ref p =>
    cases r
    rcases ty with ⟨rfl, xs, hq⟩ | ⟨rfl, o, hk, hc, hd⟩ | ⟨rfl, hk⟩ | ⟨rfl, S, n, hk⟩ | ⟨rfl, xs, hk⟩
    · obtain ⟨its, _, pl, _⟩ := I.list hq
      refine ⟨pl.isList.typeIs, fun a e => ?_⟩
      cases e
      obtain ⟨o, n, e, c, hd, _⟩ := pl
      exact ⟨o, e, hd⟩
    · refine ⟨⟨o, I.kIn p o hk, hc⟩, fun a e => ?_⟩
      cases e
      exact ⟨o, I.kIn _ o hk, hd⟩
    · have z : ∃ o, s.heap.get? p = some o ∧ o.ExactDict := by
        rcases hk with ⟨kvs, hk⟩ | ⟨kvs, hk⟩
        · obtain ⟨_, _, _, _, o, _, _, e, ex, _⟩ := I.hok p _ hk
          exact ⟨o, e, ex⟩
        · obtain ⟨_, _, _, _, o, _, _, e, ex, _⟩ := I.hok p _ hk
          exact ⟨o, e, ex⟩
      obtain ⟨o, e, ex⟩ := z
      refine ⟨⟨o, e, ex.1⟩, fun a e2 => ?_⟩
      cases e2
      exact ⟨o, e, ex.2.1⟩
    · obtain ⟨o, _, _, _, e, ex, _⟩ := I.hok p _ hk
      refine ⟨⟨o, e, ex.1⟩, fun a e2 => ?_⟩
      cases e2
      exact ⟨o, e, ex.2.1⟩
    · obtain ⟨_, _, _, o, e, hc, _, _, hd⟩ := (show ObjOk X.prog X.w H s.heap p (.tup xs) from I.hok p _ hk)
      refine ⟨⟨o, e, hc⟩, fun a e2 => ?_⟩
      cases e2
      exact ⟨o, e, hd⟩
  | _ => exact False.elim ty
def tBM0 (K : PySem.W.Frag) (T : String) (r : V → List V → Hp → VK → Prop) (to : TE) : TE := fun σ H Q => to σ H fun x H1 => tyV K T x H1 ∧ r x [] H1 Q
def tBM (K : PySem.W.Frag) (T : String) (r : V → List V → Hp → VK → Prop) (to : TE) (t : TA) : TE := fun σ H Q => to σ H fun x H1 => tyV K T x H1 ∧ t σ H1 fun xs H2 => r x xs H2 Q
variable {o e : Expr} {es : List Expr} {to : TE} {t : TA} {name : Str} {apos cpos : Pos} {T id : String} {r : V → List V → Hp → VK → Prop}
theorem pe_bm0 (pa : PlainAttrs T) (slot : Slot T name id) (hty : typeOf (.builtin id) = pure (.type "method_descriptor")) (hm : MtR X id r) (ho : PE X o to)
    (hbase : attributeBase o name X.env (eval o X.env) = eval o X.env := by rfl) (hline : (apos.endLine == cpos.line) = true := by rfl) : PE X (.Call (.Attribute o name apos) [] [] cpos) (tBM0 X.K T r to) := by
  intro pins s σ H Q I h
  refine wpAny_Call_method0_late hbase hline (thn (ho pins s σ H _ I h) fun v s1 ⟨x, H1, I1, r1, ty, q1⟩ => ?_)
  obtain ⟨h1, h2⟩ := tyV_is I1 r1 ty
  exact ⟨T, id, pa, slot, hty, h1, h2, Calls.callWith_builtin rfl (PySem.evalArgs_none (hm pins s1 σ H1 x [] v [] Q I1 r1 .nil q1))⟩
theorem pe_bm (pa : PlainAttrs T) (slot : Slot T name id) (hty : typeOf (.builtin id) = pure (.type "method_descriptor")) (hm : MtR X id r) (ho : PE X o to) (ha : PA X (e :: es) t)
    (hbase : attributeBase o name X.env (eval o X.env) = eval o X.env := by rfl)
    (hfew : ((backTo cpos (starEach (e :: es) X.env)).all (fun x => !x.1) && (backToKw cpos (keywordEach [] X.env)).all (fun x => x.1.isSome)
      && decide ((e :: es).length + ([] : List Keyword).length + (if ([] : List Keyword).isEmpty then 0 else 1) < 30)) = true := by rfl)
    (hline : (apos.endLine == cpos.line) = true := by rfl) (hs : starEach (e :: es) X.env = (false, eval e X.env) :: starEach es X.env := by rfl) (hplain : (backTo cpos (starEach es X.env)).any (·.1) = false := by rfl) :
    PE X (.Call (.Attribute o name apos) (e :: es) [] cpos) (tBM X.K T r to t) := by
  intro pins s σ H Q I h
  refine wpAny_Call_method_late hbase hfew hline rfl (thn (ho pins s σ H _ I h) fun v s1 ⟨x, H1, I1, r1, ty, q1⟩ => ?_)
  obtain ⟨h1, h2⟩ := tyV_is I1 r1 ty
  refine ⟨T, id, pa, slot, hty, h1, h2, ?_⟩
  have hA := ha cpos pins s1 σ H1 _ I1 q1
  rw [hs] at hA ⊢
  refine Calls.callWith_builtin (by show (false || (backTo cpos (starEach es X.env)).any (·.1)) = false; rw [hplain] <;> rfl) (Calls.evalArgs_plain ?_)
  exact thn hA fun us s2 ⟨vs, H2, I2, r2, q2⟩ => hm pins s2 σ H2 x vs v us Q I2 r1 r2 q2
end
end L2

namespace L2
open PySem PySem.Spec PyProof.Rows

def MtM (X : Cx) (id : String) (r : V → List V → Hp → VK → Prop) : Prop :=
  ∀ (pins : List (Addr × Obj)) (s : Shared) (σ : St) (H : Hp) (x : V) (xs : List V) (v : Value) (us : List Value) (Q : VK), Inv X pins σ H s → RelV x v → Vals xs us → r x xs H Q →
    wpAny (model X.prog X.w) X.A (call (.builtin id) (v :: us)) (EP X pins σ Q) X.xe s

theorem Vals.one : ∀ {x : V} {us : List Value}, Vals [x] us → ∃ u, us = [u] ∧ RelV x u
  | _, _, .cons r .nil => ⟨_, rfl, r⟩
theorem Vals.two : ∀ {x y : V} {us : List Value}, Vals [x, y] us → ∃ u v, us = [u, v] ∧ RelV x u ∧ RelV y v
  | _, _, _, .cons r (.cons q .nil) => ⟨_, _, rfl, r, q⟩
theorem Vals.zero : ∀ {us : List Value}, Vals [] us → us = []
  | _, .nil => rfl
theorem Vals.rep {xs : List V} {us : List Value} (h : Vals xs us) : ∀ k : Nat, Vals (List.replicate k xs).flatten (List.replicate k us).flatten
  | 0 => .nil
  | k + 1 => by
    rw [List.replicate_succ, List.replicate_succ, List.flatten_cons, List.flatten_cons]
    exact Vals.append h (Vals.rep h k)
theorem foldl_rep (its : List Value) : ∀ (k : Nat) (acc : List Value),
    List.foldl (fun x1 x2 => x1 ++ x2) acc.toArray (List.replicate k its.toArray) = (acc ++ (List.replicate k its).flatten).toArray
  | 0, acc => by simp
  | k + 1, acc => by
    have e : acc.toArray ++ its.toArray = (acc ++ its).toArray := by simp
    have e2 : (acc ++ its) ++ (List.replicate k its).flatten = acc ++ (List.replicate (k + 1) its).flatten := by
      rw [List.replicate_succ, List.flatten_cons, List.append_assoc]
    rw [← e2, ← foldl_rep its k (acc ++ its), ← e, List.replicate_succ, List.foldl_cons]

section
variable {X : Cx} {pins : List (Addr × Obj)} {σ : St} {H : Hp} {s : Shared} {l b : Addr} {xs ys zs : List V}

theorem Inv.lset {its its' : List Value} {n : Nat} {f : Array Value → Array Value} {t' : Nat} (I : Inv X pins σ H s) (hH : H l = some (.lst xs))
    (e : s.heap.get? l = some { cls := .type "list", data := .seq its.toArray n }) (hf : f its.toArray = its'.toArray) (hv : Vals ys its') (hz : ys.length ≤ sizeLine) :
    Inv X pins σ (upd H l (.lst ys)) { s with heap := s.heap.update l (Obj.mapSeq f), toks := t' } := by
  have q := PySem.IsL.update e f
  rw [hf] at q
  refine I.write (x := l) (e := l) (by rw [hH]; exact trivial) (.inl rfl) (fun b' u hb hu => (Heap.get?_update_other s.heap (Obj.mapSeq f) (Ne.symm hb)).trans hu) ⟨_, q⟩ ?_
  exact ⟨hz, its', _, hv, q⟩
theorem Inv.lnew {its : List Value} {t' : Nat} (I : Inv X pins σ H s) (hv : Vals ys its) (hz : ys.length ≤ sizeLine) :
    Inv X pins σ (upd H s.heap.objs.size (.lst ys)) { s with heap := s.heap.push { cls := .type "list", data := .seq its.toArray }, toks := t' } :=
  I.laid (fun _ _ q => Heap.get?_push_of_some _ q) (Nat.le_refl _) ⟨hz, its, 0, hv, Heap.get?_push_size _ rfl⟩
theorem Inv.fresh (I : Inv X pins σ H s) : H s.heap.objs.size = none := I.hok.fresh (Nat.le_refl _)
theorem Inv.lstM (I : Inv X pins σ H s) (hH : H l = some (.lst xs)) : xs.length ≤ sizeLine ∧ ∃ (its : List Value) (n : Nat), Vals xs its ∧ xs.length = its.length ∧ s.heap.get? l = some { cls := .type "list", data := .seq its.toArray n } := by
  obtain ⟨z, its, n, r, e⟩ := I.hok l _ hH
  exact ⟨z, its, n, r, r.length, e⟩

theorem notLongL {n : Nat} (h : n ≤ sizeLine) : Builtin.List.listTooLong n = false := by
  unfold Builtin.List.listTooLong
  exact decide_eq_false (by omega)
end

section
variable {X : Cx}

def rAppend : V → List V → Hp → VK → Prop := fun x vs H Q => ∃ l xs y, x = .ref l ∧ vs = [y] ∧ H l = some (.lst xs) ∧ xs.length < sizeLine ∧ Q .non (upd H l (.lst (xs ++ [y])))
theorem mt_append : MtM X "list.append" rAppend := by
  intro pins s σ H x vs v us Q I rx rv h
  obtain ⟨l, xs, y, rfl, rfl, hH, hz, q⟩ := h
  cases rx
  obtain ⟨u, rfl, ru⟩ := rv.one
  obtain ⟨z, its, n, r, hl, e⟩ := I.lstM hH
  refine call_meets F.slot_list_append ⟨_, e, rfl⟩ F.entry_list_append (F.args_list_append_2 _ _) (PySem.list_append l its.toArray n u (by rw [List.size_toArray]; omega)) ⟨e, ?_⟩
  refine ⟨.non, _, I.lset (its' := its ++ [u]) hH e (by simp) (r.append (.cons ru .nil)) ?_, rfl, q⟩
  rw [List.length_append, List.length_singleton]
  omega

def rCat : R2 := fun x y H Q => ∃ l b xs zs, x = .ref l ∧ y = .ref b ∧ H l = some (.lst xs) ∧ H b = some (.lst zs) ∧ xs.length + zs.length ≤ sizeLine ∧ ∀ p, H p = none → Q (.ref p) (upd H p (.lst (xs ++ zs)))
theorem op_cat : OpR X (binaryOp .Add) rCat := by
  intro pins s σ H x y v u Q I rx ry h
  obtain ⟨l, b, xs, zs, rfl, rfl, hH, hB, hz, q⟩ := h
  cases rx
  cases ry
  obtain ⟨z, its, n, r, hl, e⟩ := I.lstM hH
  obtain ⟨z2, its2, n2, r2, hl2, e2⟩ := I.lstM hB
  refine PySem.P.add_list e e2 ?_ (by rw [List.size_toArray, List.size_toArray]; omega)
  have ea : its.toArray ++ its2.toArray = (its ++ its2).toArray := by simp
  rw [ea]
  exact ⟨.ref _, _, I.lnew (t' := s.toks) (r.append r2) (by rw [List.length_append]; omega), rfl, q _ I.fresh⟩
def rRep : R2 := fun x y H Q => ∃ l k xs, x = .ref l ∧ y = .int k ∧ H l = some (.lst xs) ∧ -(2 ^ 63) ≤ k ∧ k < 2 ^ 63 ∧ xs.length * k.toNat ≤ sizeLine ∧
  ∀ p, H p = none → Q (.ref p) (upd H p (.lst (List.replicate k.toNat xs).flatten))
theorem len_rep {α : Type} (xs : List α) (k : Nat) : (List.replicate k xs).flatten.length = k * xs.length := by
  induction k with
  | zero => simp
  | succ k ih => rw [List.replicate_succ, List.flatten_cons, List.length_append, ih, Nat.succ_mul, Nat.add_comm]
theorem op_rep : OpR X (binaryOp .Mult) rRep := by
  intro pins s σ H x y v u Q I rx ry h
  obtain ⟨l, k, xs, rfl, rfl, hH, h1, h2, hz, q⟩ := h
  cases rx
  obtain ⟨t, rfl⟩ := ry
  obtain ⟨z, its, n, r, hl, e⟩ := I.lstM hH
  have hlen : its.toArray.size * k.toNat ≤ sizeLine := by rw [List.size_toArray, ← hl]; exact hz
  have hcap : ¬ its.toArray.size * k.toNat > (2 ^ 63 - 1) / 8 := by
    have : (sizeLine : Nat) ≤ (2 ^ 63 - 1) / 8 := by decide
    omega
  have hfit : ¬ (!Builtin.List.listFitsIndex k) = true := by
    rw [fitsIndex_both h1 h2]
    exact Bool.false_ne_true
  have hlong : ¬ Builtin.List.listTooLong (its.toArray.size * k.toNat) = true := by
    rw [notLongL hlen]
    exact Bool.false_ne_true
  have hnew : List.foldl (fun x1 x2 => x1 ++ x2) #[] (List.replicate (if its.toArray.isEmpty = true then 0 else k.toNat) its.toArray) = (List.replicate k.toNat its).flatten.toArray := by
    have f0 : ∀ m : Nat, List.foldl (fun x1 x2 => x1 ++ x2) #[] (List.replicate m its.toArray) = (List.replicate m its).flatten.toArray := fun m => by
      have := foldl_rep its m []
      rw [List.nil_append] at this
      exact this
    rw [f0]
    cases its with
    | nil => simp
    | cons a r' => rw [if_neg (by simp)]
  refine wpAny_binaryOp_repeat_ref (T := "list") (U := "int") (by decide) ⟨_, e, rfl⟩ (fun s' => typeIs_int s' k t) noFill_list_mul F.fills_int_mul F.slot_int_rmul repeat_list F.slot_int_index.lookup
    (call_meets F.slot_int_rmul (typeIs_int s k t) F.entry_int_rmul (F.args_int_rmul_2 _ _) (int___rmul___int_list k t l its.toArray n)
      ⟨e, rfl, ⟨_, e, rfl⟩, call_meets F.slot_list_mul ⟨_, e, rfl⟩ F.entry_list_mul (F.args_list_mul_2 _ _) (AutoListH.list___mul___list_int_3 l its.toArray n k t hfit hcap hlong) ⟨e, ?_⟩⟩)
  rw [hnew]
  exact ⟨.ref _, _, I.lnew (t' := s.toks) (r.rep k.toNat) (by rw [len_rep, Nat.mul_comm]; exact hz), rfl, q _ I.fresh⟩

end

section
variable {prog : Program} {w : World} {A : Around} {E : Value → Shared → Prop} {s : Shared}
end

section
variable {X : Cx}
end
end L2

namespace Att
open PySem PySem.W PySem.Calls PyProof.Rows

theorem ints_of_wellAll {P : Params} {h : Heap} : ∀ (ns : List Int) (vs : List Value), WellAll P h vs (ns.map WData.int) → IntsAre vs ns := by
  intro ns
  induction ns with
  | nil =>
    intro vs w
    rw [List.map_nil] at w
    cases w
    exact .nil
  | cons n ns ih =>
    intro vs w
    rw [List.map_cons] at w
    cases w with
    | cons a b =>
      cases a
      exact .cons _ _ (ih _ b)

theorem script_of {l : OpenLaw} {n : Nat} (hn : l.most = some n) {P : Params} {h : Heap} {args : List WData} {vals : List Value}
    (hpre : l.row.toRowW.claim.pre args = true) (hwl : WellAll P h vals args) :
    ∃ a vs ns, vals = [Value.ref a] ∧ args = [WData.list (ns.map WData.int)] ∧ h.get? a = some { cls := .type "list", data := .seq vs.toArray } ∧ IntsAre vs ns ∧ ns.length ≤ n := by
  have hsh : WShape.hasAll [] args [.list .int] = true := (pre_splitW hpre).1
  have hc : l.pre.holds [] { args := args } = true := (pre_splitW hpre).2
  obtain ⟨d, r, rfl, h1, h2⟩ := hasAllW_cons hsh
  obtain rfl := hasAllW_nil h2
  obtain ⟨xs, rfl, h3⟩ := hasW_list h1
  obtain ⟨ns, rfl⟩ := items_int h3
  have hlen : ns.length ≤ n := by
    unfold OpenLaw.pre at hc
    have h4 : (WTm.not (.lt (.lit (.int (n : Int))) (.len (.arg 0)))).holds [] { args := [.list (ns.map .int)] } = true := by
      have h4 := (holds_andW hc).1
      rw [hn] at h4
      exact h4
    have h5 := condW_of h4 (w_not (w_lt w_lit (w_len_list (w_arg rfl))))
    rw [List.length_map] at h5
    refine Nat.le_of_not_lt fun q => ?_
    have q' : (n : Int) < ((ns.length : Nat) : Int) := by omega
    first
      | (rw [decide_eq_true q'] at h5; exact absurd h5 (by decide))
      | (simp at h5; omega)
  cases hwl with
  | cons w1 w2 =>
    cases w2
    cases w1 with
    | list ho hall => exact ⟨_, _, ns, rfl, rfl, ho, ints_of_wellAll ns _ hall, hlen⟩

theorem post_true (l : OpenLaw) (args : List WData) : l.row.toRowW.claim.post args (.bool true) args = true :=
  postW_of (r := l.row.toRowW) (X := (true == true))
    (show WShape.has [] (.bool true) .bool = true by first | rfl | decide | simp [WShape.has, WShape.arms, WShape.armsAll])
    (show (WTm.eq .res (.lit (.bool true))).value [] { args := args, res := some (.bool true), after := args } = some (.bool (true == true)) from w_eq_bool (w_res rfl) w_lit) rfl

theorem attach_call {l : OpenLaw} {n : Nat} {q : Program} {loose : List Str} {XP : (Str → Option Value) → Heap → Prop} {YP : World → Heap → Prop} {d : DefRec}
    (hn : l.most = some n) (hdf : d.params.defaults = [])
    (call : ∀ (w : World) (s₀ s₁ : Shared) (mg mb : Str → Option Value) (fa : Addr) (o : Obj) (pm cd doc : Value) (a : Addr) (vs : List Value) (ns : List Int),
      Ground q loose [] XP w s₀ mg mb s₁.heap → YP w s₁.heap →
      s₁.heap.get? fa = some o → o.data = .func (docDef d.name d.params d.body d.scope pm cd doc) → s₁.heap.CodeRec cd d.name → mg d.name = some (.ref fa) →
      s₁.heap.get? a = some { cls := .type "list", data := .seq vs.toArray } → IntsAre vs ns → ns.length ≤ n → s₁.gens = #[] →
      codeAny (model l.prog w) callerA (.call (.ref fa) ⟨[.ref a], []⟩) (fun r s' => r = .ok (.ret (.bool true)) ∧ OldK s₁.heap s'.heap ∧ s'.os = s₁.os ∧ AllBare s'.gens) s₁) :
    WalkO q loose XP YP l.row.toRowW d [] (fun f vs => PySem.call f vs) := by
  intro w s₀ s₁ mg mb G Y fa o pm cd doc dV kV ho hd hcd hD hmg hg args vals as hpre hlay hrd hwl hlo
  obtain rfl : dV = .none := Dflts.none hD hdf
  obtain rfl : kV = .none := Dflts.noKw hD
  obtain ⟨a, vs, ns, rfl, rfl, hobj, hints, hlen⟩ := script_of hn hpre hwl
  refine enter_call (codeAny_mono (call w s₀ s₁ mg mb fa o pm cd doc a vs ns G Y ho (fd_plain hd) hcd hmg hobj hints hlen hg) fun r s' hq => ?_)
  obtain ⟨rfl, h2, h3, h4⟩ := hq
  exact ⟨.inl ⟨.bool true, .bool true, [], rfl, fun _ => rfl, .bool true, post_true l _, fun _ => ⟨List.Pairwise.nil, fun _ hm => (nomatch hm)⟩⟩, h2, h3, h4⟩

section
variable {prog : Program} {w : World} {A : Around} {E : Value → Shared → Prop} {s : Shared} {K : Frag}

def noObjs (h : Heap) : Heap := { h with objs := #[] }
def ledger (h : Heap) (L d : Addr) : List (Addr × Obj) := (List.range h.objs.size).filterMap fun a => if a = L ∨ a = d then none else (h.get? a).map fun o => (a, o)
end
end Att

namespace L2
open PySem PySem.Spec PyProof.Rows

theorem vals_ints : ∀ {vs : List Value} {ns : List Int}, IntsAre vs ns → Vals (ns.map V.int) vs
  | _, _, .nil => .nil
  | _, _, .cons n t h => .cons ⟨t, rfl⟩ (vals_ints h)

def Only (H : Hp) : Prop := ∀ b, H b = none ∨ ∃ o xs, H b = some (.frz o (.lst xs))

theorem law_call {P : Program} {w : World} {K : PySem.W.Frag} {mg mb : Str → Option Value} {CX : CXT} {k : Nat} {fa a : Addr} {fd : FuncData} {x : Str} {sp : Sp} {s₁ : Shared} {vs : List Value} {ns : List Int}
    (KX : K.In s₁.heap) (hns : s₁.heap.Ns mainGlobals mg) (hb : s₁.heap.Ns builtinsNs mb) (hbb : ∀ x : Str, x ≠ "__name__" → mb x = bootBuiltins x) (hlim : s₁.heap.NoLimit) (hg : s₁.gens = #[])
    (ha : s₁.heap.get? a = some { cls := .type "list", data := .seq vs.toArray }) (hi : IntsAre vs ns) (hl : ns.length ≤ sizeLine) (hr : Room k callerA)
    (F : ∀ base : Heap, K.In base → base.Ns mainGlobals mg → FnOk P w K mg base CX k fa fd [x] sp) (hbind : ∀ (s : Shared) (u : Value), BindsTo s fd ⟨[u], []⟩ [(x, u)])
    (hsp : ∀ H : Hp, Only H → SqL K H a (ns.map V.int) → sp [.ref a] H (fun v _ => v = .bl true) fun _ _ _ => False)
    (hCX : ∀ H e s', CX [] H s₁ (fun _ _ _ => False) e s' → False) :
    codeAny (model P w) callerA (.call (.ref fa) ⟨[.ref a], []⟩) (fun r s' => r = .ok (.ret (.bool true)) ∧ OldK s₁.heap s'.heap ∧ s'.os = s₁.os ∧ AllBare s'.gens) s₁ := by
  have rv := vals_ints hi
  have lenV := hi.length
  have core : ∀ H : Hp, Only H → SqL K H a (ns.map V.int) → HOk P w H s₁.heap → (∀ b, H b ≠ none → b = a) → (H a ≠ none → K.lookup a = none) →
      codeAny (model P w) callerA (.call (.ref fa) ⟨[.ref a], []⟩) (fun r s' => r = .ok (.ret (.bool true)) ∧ OldK s₁.heap s'.heap ∧ s'.os = s₁.os ∧ AllBare s'.gens) s₁ := by
    intro H hO hS hok hA hK
    have base_of : ∀ {b : Addr} {o : Obj}, s₁.heap.get? b = some o → H b = none → (hidT s₁.heap H).get? b = some o := fun e n => hidT_get e n
    have noA : ∀ {b : Addr} {o : Obj} {es : Array DictEntry} {ep : Nat}, s₁.heap.get? b = some o → o.data = .dict es ep → H b = none := fun {b o es ep} e d => by
      cases q : H b with
      | none => rfl
      | some u =>
        have e' : b = a := hA b (by rw [q]; simp)
        subst e'
        rw [ha] at e; cases e
        have d' : Data.seq vs.toArray _ = Data.dict es ep := d
        cases d'
    have nsK : ∀ {b : Addr} {m : Str → Option Value}, s₁.heap.Ns b m → (hidT s₁.heap H).Ns b m := fun {b m} ⟨o, es, ep, e, d, r⟩ => ⟨o, es, ep, base_of e (noA e d), d, r⟩
    have hKb : K.In (hidT s₁.heap H) := fun b o e => base_of (KX b o e) (by
      cases q : H b with
      | none => rfl
      | some u =>
        have e' : b = a := hA b (by rw [q]; simp)
        subst e'
        rw [hK (by rw [q]; simp)] at e; cases e)
    have hM : Mod K mg (hidT s₁.heap H) := ⟨hKb, nsK hns, ⟨mb, nsK hb, hbb⟩, let ⟨mc, h1, h2⟩ := hlim; ⟨mc, nsK h1, h2⟩⟩
    have e0 : Env0 P w K mg (hidT s₁.heap H) callerA [] s₁ H := ⟨rfl, hM, fun b o e => of_hidT e, Nat.le_of_eq (hidT_size _ _), trivial, fun b hb => absurd (show b ∈ ([] : List Addr) from hb) (by simp), hok, .of_eq hg⟩
    refine codeAny_mono ((F _ hKb (nsK hns)).run callerA [] s₁ H ⟨[.ref a], []⟩ [.ref a] [.ref a] _ _ hr e0 (hbind s₁ (.ref a)) (.cons rfl .nil) (hsp H hO hS)) fun r s' h => ?_
    cases r with
    | error e => exact (hCX H e s' h).elim
    | ok fl =>
      cases fl with
      | next => exact False.elim h
      | brk => exact False.elim h
      | cont => exact False.elim h
      | ret u =>
        obtain ⟨v, H', os, bare, un, hok', r', q⟩ := h
        have q' : v = .bl true := q
        subst q'
        obtain rfl : u = Value.bool true := r'
        refine ⟨rfl, OldK.of_keep fun b o e => ?_, os, bare⟩
        cases q : H b with
        | none => exact un.keep b o e q (by intro z; exact absurd (show b ∈ ([] : List Addr) from z) (by simp)) (by simp)
        | some u =>
          rcases hO b with z | ⟨ob, xs, z⟩
          · rw [q] at z; cases z
          · have z2 := un.frzs b ob _ z
            obtain ⟨e1, _⟩ := hok b _ z
            obtain ⟨e2, _⟩ := hok' b _ z2
            rw [e] at e1; cases e1
            exact e2
  cases hk : K.lookup a with
  | some o =>
    have e := KX a o hk
    rw [ha] at e
    cases e
    refine core (fun _ => none) (fun _ => .inl rfl) (.inr ⟨_, vs.toArray, _, hk, rfl, rfl, rfl, by rw [List.size_toArray, lenV]; exact hl, by simpa using rv⟩) (fun b u z => by have z' : (none : Option HO) = some u := z; cases z') (fun b z => absurd rfl z) fun z => absurd rfl z
  | none =>
    refine core (fun b => if b = a then some (.frz { cls := .type "list", data := .seq vs.toArray } (.lst (ns.map V.int))) else none) (fun b => ?_) (.inl (.inr ⟨{ cls := .type "list", data := .seq vs.toArray }, if_pos rfl⟩)) (fun b u z => ?_) (fun b z => ?_) fun _ => hk
    · by_cases hb : b = a
      · exact .inr ⟨_, _, if_pos hb⟩
      · exact .inl (if_neg hb)
    · by_cases hb : b = a
      · have z' := (if_pos hb).symm.trans z
        cases z'
        subst hb
        exact ⟨ha, by rw [List.length_map]; exact hl, vs, _, rv, ha⟩
      · have z' := (if_neg hb).symm.trans z
        cases z'
    · by_cases hb : b = a
      · exact hb
      · exact absurd (if_neg hb) z
end L2

namespace L2
open PySem PySem.Spec PyProof.Rows

theorem walk_of {l : PySem.W.OpenLaw} {n k : Nat} {q : Program} {loose : List Str} {XP : (Str → Option Value) → Heap → Prop} {YP : World → Heap → Prop} {d : DefRec} {K : Params → PySem.W.Frag} {CX : World → CXT} {sp : World → Sp} {x : Str}
    (hn : l.most = some n) (hn2 : n ≤ sizeLine) (hdf : d.params.defaults = []) (hr : Room k callerA)
    (hY : ∀ (w : World) (h : Heap), YP w h → (K w.params).In h)
    (F : ∀ (w : World) (mg : Str → Option Value) (fa : Addr) (h : Heap), (K w.params).In h → h.Ns mainGlobals mg → mg d.name = some (.ref fa) →
      ∃ fd : FuncData, (∀ (s : Shared) (u : Value), BindsTo s fd ⟨[u], []⟩ [(x, u)]) ∧
        ∀ base : Heap, (K w.params).In base → base.Ns mainGlobals mg → FnOk l.prog w (K w.params) mg base (CX w) k fa fd [x] (sp w))
    (hsp : ∀ (w : World) (H : Hp) (a : Addr) (ns : List Int), ns.length ≤ n → Only H → SqL (K w.params) H a (ns.map V.int) → sp w [.ref a] H (fun v _ => v = .bl true) fun _ _ _ => False)
    (hCX : ∀ (w : World) (H : Hp) (s : Shared) (e : Value) (s' : Shared), CX w [] H s (fun _ _ _ => False) e s' → False) :
    PySem.W.WalkO q loose XP YP l.row.toRowW d [] (fun f vs => PySem.call f vs) := by
  refine Att.attach_call hn hdf fun w s₀ s₁ mg mb fa o pm cd doc a vs ns G Y ho hd hcd hmg hobj hints hlen hg => ?_
  have KX := hY w _ Y
  obtain ⟨fd, hb, hF⟩ := F w mg fa _ KX G.T.g hmg
  exact law_call KX G.T.g G.T.b G.T.builtins G.T.nolimit hg hobj hints (Nat.le_trans hlen hn2) hr hF hb (fun H hO hS => hsp w H a ns hlen hO hS) fun H e s' => hCX w H s₁ e s'
end L2


namespace L2
open PySem PySem.Spec PyProof.Rows

def inClass (s : Stmt) (j : Nat) : Stmt := match s with
  | .ClassDef _ _ _ body _ _ _ _ _ _ _ => body.getD j (.Pass ⟨0, 0, 0, 0⟩)
  | _ => .Pass ⟨0, 0, 0, 0⟩
def defArgs (s : Stmt) : Arguments := match s with
  | .FunctionDef _ a _ _ _ _ _ _ _ _ => a
  | _ => { posonlyargs := [], args := [], vararg := none, kwonlyargs := [], kw_defaults := [], kwarg := none, defaults := [] }
def defBody (s : Stmt) : List Stmt := match s with
  | .FunctionDef _ _ b _ _ _ _ _ _ _ => b
  | _ => []
def defScope (s : Stmt) : Scope := match s with
  | .FunctionDef _ _ _ _ _ _ sc _ _ _ => sc
  | _ => { kind := .function, names := [], isGenerator := false, isCoroutine := false }

abbrev CX0 : CXT := fun _ _ _ _ _ _ => False
abbrev E0 : XK := fun _ _ _ => False
theorem pass0 {X : Cx} : Passes CX0 X E0 := fun _ _ _ _ _ _ _ h => h.elim

structure Fun (K : PySem.W.Frag) (x qual : Str) (st : Stmt) (f : Addr) (fd : FuncData) : Prop where
  ex : ∃ (oc : Value) (od : Option Addr) (kV doc pm : Value) (an : Option Addr) (cdv ct : Value) (osl : Array (Option Value)),
    fd = PySem.W.fnOf x qual (defArgs st) (defBody st) (defScope st) .none kV doc pm an cdv ct ∧ K.lookup f = some ⟨oc, od, .func fd, osl⟩ ∧ PySem.W.codeIn K cdv qual = true
  kp : PySem.W.keepIn K (.ref f) = true
section
variable {P : Program} {w : World} {K : PySem.W.Frag} {mg : Str → Option Value} {base : Heap}
theorem Fun.ok {x qual : Str} {st : Stmt} {f : Addr} {fd : FuncData} {N ps : List Str} {k : Nat} {sp : Sp} (F : Fun K x qual st f fd) (S : FnScope N ps (defScope st)) (len : ∀ vs H Q E, sp vs H Q E → vs.length = ps.length)
    (hbody : ∀ (cdv : Value) (A : Around) (outer : List Env) (s : Shared) (H : Hp) (vs : List V) (Q : VK) (E : XK), Room k (A.deeper (envOfC qual (defScope st) s.heap.objs.size f cdv)) → sp vs H Q E →
      ∃ t, PSs (cxOf CX0 P w K mg base N qual (defScope st) f cdv A outer s H E).nox (defBody st) t ∧ t { nx := fun _ H' => Q .non H', rt := Q } (start N vs) H) : FnOk P w K mg base CX0 (k + 1) f fd ps sp := by
  obtain ⟨oc, od, kV, doc, pm, an, cdv, ct, osl, rfl, lk, hcd⟩ := F.ex
  refine fn_of lk hcd S len fun A outer s H vs Q E hr hsp => ?_
  obtain ⟨t, h, q⟩ := hbody cdv A outer s H vs Q E hr hsp
  exact ⟨t, h.nox, q⟩
theorem Fun.binds {x qual : Str} {st : Stmt} {f : Addr} {fd : FuncData} {ps : List Str} (F : Fun K x qual st f fd)
    (h : ∀ (kV doc pm : Value) (an : Option Addr) (cdv ct : Value) (us : List Value), us.length = ps.length → bindArgs (PySem.W.fnOf x qual (defArgs st) (defBody st) (defScope st) .none kV doc pm an cdv ct) ⟨us, []⟩ = pure (ps.zip us)) : Binds K fd ps [] := by
  obtain ⟨oc, od, kV, doc, pm, an, cdv, ct, osl, rfl, lk, hcd⟩ := F.ex
  exact .all (h kV doc pm an cdv ct)
theorem fun_mk {x qual : Str} {st : Stmt} {f : Addr} {oc : Value} {od an : Option Addr} {osl : Array (Option Value)} {kV doc pm cdv ct : Value} (l : K.lookup f = some ⟨oc, od, .func (PySem.W.fnOf x qual (defArgs st) (defBody st) (defScope st) .none kV doc pm an cdv ct), osl⟩)
    (c : PySem.W.codeIn K cdv qual = true) (k : PySem.W.keepIn K (.ref f) = true) : Fun K x qual st f (PySem.W.fnOf x qual (defArgs st) (defBody st) (defScope st) .none kV doc pm an cdv ct) := ⟨⟨oc, od, kV, doc, pm, an, cdv, ct, osl, rfl, l, c⟩, k⟩
end
theorem hu_of {A : Around} {k : Nat} (hr : Room k A) : A.units + 1 < cLine := Nat.lt_of_le_of_lt (Nat.add_le_add_left (by decide : 1 ≤ 64) _) hr.units
section
variable {X : Cx}
theorem pv (i : Nat) {x : Str} {pos : Pos} (hN : X.N[i]? = some x := by rfl) (hv : Vis X.env.scope x := by first | exact Or.inl rfl | exact Or.inr (Or.inl rfl) | exact Or.inr (Or.inr rfl)) (hd : (x == ("__debug__" : Str)) = false := by decide)
    (hcd : (x == ("__classdict__" : Str)) = false := by decide) : PE X (.Name x pos) (tVar i) := pe_var hN hv hd hcd
end

theorem iteF {A B : Prop} (h : B) : if false = true then A else B := by
  rw [if_neg Bool.false_ne_true]
  exact h
theorem iteT {A B : Prop} (h : A) : if true = true then A else B := by
  rw [if_pos rfl]
  exact h
theorem ite2 {c A B : Prop} [Decidable c] (h1 : c → A) (h2 : ¬ c → B) : if c then A else B := by
  by_cases h : c
  · rw [if_pos h]
    exact h1 h
  · rw [if_neg h]
    exact h2 h
def Same (H H' : Hp) : Prop := ∀ b o, H b = some o → H' b = some o
theorem Same.refl (H : Hp) : Same H H := fun _ _ h => h
theorem Same.trans {H H1 H2 : Hp} (a : Same H H1) (b : Same H1 H2) : Same H H2 := fun c o h => b c o (a c o h)
theorem Same.free {H H' : Hp} (e : Same H H') {l : Addr} (h : H' l = Option.none) : H l = Option.none := by
  cases q : H l with
  | none => rfl
  | some o =>
    rw [e l o q] at h
    cases h
theorem Same.seq {K : PySem.W.Frag} {H H' : Hp} {a : Addr} {xs : List V} (e : Same H H') (h : SqL K H a xs) : SqL K H' a xs := by
  rcases h with (h | ⟨o, h⟩) | h
  · exact .inl (.inl (e _ _ h))
  · exact .inl (.inr ⟨o, e _ _ h⟩)
  · exact .inr h

end L2


namespace L2
open PySem PySem.Spec PyProof.Rows
section
variable {X : Cx}
end
section
variable {κ : Type} [DecidableEq κ]
end
end L2

namespace Tx
open PySem PySem.Builtin PySem.Builtin.Str
def cl (n d : Nat) : Option Int → Nat
  | none => d
  | some i => (max 0 (min (if i < 0 then i + n else i) n)).toNat
theorem app_codes (a b : Str) : (a ++ b).cps.toList = a.cps.toList ++ b.cps.toList := by
  simp [Str.cps_append]
end Tx

set_option maxHeartbeats 4000000

namespace L2
open PySem PySem.Spec PyProof.Rows

theorem forIn_cells {env : Env} {f : (Str × NameKind) → List (Str × Addr) → Sem (ForInStep (List (Str × Addr)))}
    (hf : ∀ n k cs, f (n, k) cs = if (k == NameKind.free) = true then (cellOf env n >>= fun c => pure (ForInStep.yield ((n, c) :: cs))) else pure (ForInStep.yield cs)) :
    ∀ (names : List (Str × NameKind)) (acc : List (Str × Addr)),
    (∀ y ∈ names, y.2 = .free → ∃ c, env.cells.lookup y.1 = some c) →
    (∀ x c, acc.lookup x = some c → env.cells.lookup x = some c) →
    ∃ cl, forIn names acc f = (pure cl : Sem _) ∧ (∀ x c, cl.lookup x = some c → env.cells.lookup x = some c) ∧ (∀ x c, acc.lookup x = some c → ∃ d, cl.lookup x = some d) ∧
      ∀ x, (x, NameKind.free) ∈ names → ∃ c, cl.lookup x = some c
  | [], acc, _, ha => ⟨acc, rfl, ha, fun x c e => ⟨c, e⟩, fun x m => absurd m (by simp)⟩
  | (n, k) :: r, acc, hn, ha => by
    have hr : ∀ y ∈ r, y.2 = .free → ∃ c, env.cells.lookup y.1 = some c := fun y hy => hn y (List.mem_cons_of_mem _ hy)
    by_cases hk : k = .free
    · subst hk
      obtain ⟨c, hc⟩ := hn (n, .free) List.mem_cons_self rfl
      have hcell : cellOf env n = pure c := by
        have hc' : env.cells.lookup n = some c := hc
        unfold cellOf
        rw [hc']
      have ha' : ∀ x d, List.lookup x ((n, c) :: acc) = some d → env.cells.lookup x = some d := fun x d e => by
        by_cases hx : (x == n) = true
        · rw [List.lookup_cons, hx] at e
          obtain rfl := beq_iff_eq.mp hx
          cases e
          exact hc
        · have hx' : (x == n) = false := by simpa using hx
          rw [List.lookup_cons, hx'] at e
          exact ha x d e
      obtain ⟨cl, e1, e2, e3, e4⟩ := forIn_cells hf r ((n, c) :: acc) hr ha'
      refine ⟨cl, ?_, e2, fun x d e => ?_, fun x m => ?_⟩
      · rw [List.forIn_cons, hf, if_pos (beq_self_eq_true _), hcell, pure_bind, pure_bind]
        exact e1
      · by_cases hx : (x == n) = true
        · exact e3 x c (by rw [List.lookup_cons, hx])
        · have hx' : (x == n) = false := by simpa using hx
          exact e3 x d (by rw [List.lookup_cons, hx']; exact e)
      · rcases List.mem_cons.mp m with q | q
        · have q' : x = n := congrArg Prod.fst q
          subst q'
          exact e3 x c (by rw [List.lookup_cons, beq_self_eq_true])
        · exact e4 x q
    · have hk' : (k == NameKind.free) = false := by simpa using hk
      obtain ⟨cl, e1, e2, e3, e4⟩ := forIn_cells hf r acc hr ha
      refine ⟨cl, ?_, e2, e3, fun x m => ?_⟩
      · rw [List.forIn_cons, hf, hk', if_neg Bool.false_ne_true, pure_bind]
        exact e1
      · rcases List.mem_cons.mp m with q | q
        · exact absurd (congrArg Prod.snd q).symm hk
        · exact e4 x q

theorem closure_ok {scope : Scope} {env : Env} (h : ∀ y ∈ scope.names, y.2 = .free → ∃ c, env.cells.lookup y.1 = some c) :
    ∃ cl, closureFor scope env = pure cl ∧ (∀ x c, cl.lookup x = some c → env.cells.lookup x = some c) ∧ ∀ x, (x, NameKind.free) ∈ scope.names → ∃ c, cl.lookup x = some c := by
  obtain ⟨cl, e1, e2, _, e4⟩ := forIn_cells (env := env) (f := fun (x : Str × NameKind) cs => match x with | (name, kind) => if (kind == NameKind.free) = true then (cellOf env name >>= fun c => pure (ForInStep.yield ((name, c) :: cs))) else pure (ForInStep.yield cs)) (fun n k cs => rfl) scope.names [] h (fun x c e => by cases e)
  refine ⟨cl, ?_, e2, e4⟩
  have : closureFor scope env = (forIn scope.names [] (fun (x : Str × NameKind) cs => match x with | (name, kind) => if (kind == NameKind.free) = true then (cellOf env name >>= fun c => pure (ForInStep.yield ((name, c) :: cs))) else pure (ForInStep.yield cs)) >>= fun cs => pure cs) := by
    first | rfl | (unfold closureFor; rfl) | (unfold closureFor; simp only [pure_bind, bind_pure])
  rw [this, e1, pure_bind]

theorem lookup_relabel_free {env : Env} : ∀ {names : List (Str × NameKind)} {x : Str}, names.lookup x = some .free →
    (names.map fun (n, k) => if (k == NameKind.free && env.scope.kind == .function && env.kindOf n == some .cell) then (n, NameKind.cell) else (n, k)).lookup x = some .cell ∨
    (names.map fun (n, k) => if (k == NameKind.free && env.scope.kind == .function && env.kindOf n == some .cell) then (n, NameKind.cell) else (n, k)).lookup x = some .free
  | [], _, h => by simp at h
  | (n, k) :: r, x, h => by
    have ih := @lookup_relabel_free env r x
    show List.lookup x ((if (k == NameKind.free && env.scope.kind == .function && env.kindOf n == some .cell) = true then (n, NameKind.cell) else (n, k)) :: _) = _ ∨ List.lookup x ((if (k == NameKind.free && env.scope.kind == .function && env.kindOf n == some .cell) = true then (n, NameKind.cell) else (n, k)) :: _) = _
    cases hx : x == n with
    | true =>
      simp only [List.lookup_cons, hx] at h
      cases h
      by_cases hc : (NameKind.free == NameKind.free && env.scope.kind == .function && env.kindOf n == some .cell) = true
      · rw [if_pos hc]; left; simp only [List.lookup_cons, hx]
      · rw [if_neg hc]; right; simp only [List.lookup_cons, hx]
    | false =>
      simp only [List.lookup_cons, hx] at h
      by_cases hc : (k == NameKind.free && env.scope.kind == .function && env.kindOf n == some .cell) = true
      · rw [if_pos hc]; simp only [List.lookup_cons, hx]; exact ih h
      · rw [if_neg hc]; simp only [List.lookup_cons, hx]; exact ih h
theorem relabel_was_free {env : Env} : ∀ {names : List (Str × NameKind)} {x : Str}, (∀ y ∈ names, y.2 ≠ .cell) →
    ((names.map fun (n, k) => if (k == NameKind.free && env.scope.kind == .function && env.kindOf n == some .cell) then (n, NameKind.cell) else (n, k)).lookup x = some .cell ∨
    (names.map fun (n, k) => if (k == NameKind.free && env.scope.kind == .function && env.kindOf n == some .cell) then (n, NameKind.cell) else (n, k)).lookup x = some .free) → (x, NameKind.free) ∈ names
  | [], _, _, h => by rcases h with h | h <;> simp at h
  | (n, k) :: r, x, hn, h => by
    have ih := @relabel_was_free env r x (fun y hy => hn y (List.mem_cons_of_mem _ hy))
    have h' : List.lookup x ((if (k == NameKind.free && env.scope.kind == .function && env.kindOf n == some .cell) = true then (n, NameKind.cell) else (n, k)) :: (r.map fun (n, k) => if (k == NameKind.free && env.scope.kind == .function && env.kindOf n == some .cell) then (n, NameKind.cell) else (n, k))) = some .cell ∨
      List.lookup x ((if (k == NameKind.free && env.scope.kind == .function && env.kindOf n == some .cell) = true then (n, NameKind.cell) else (n, k)) :: (r.map fun (n, k) => if (k == NameKind.free && env.scope.kind == .function && env.kindOf n == some .cell) then (n, NameKind.cell) else (n, k))) = some .free := h
    cases hx : x == n with
    | true =>
      obtain rfl := beq_iff_eq.mp hx
      have hk : k = .free := by
        by_cases hc : (k == NameKind.free && env.scope.kind == .function && env.kindOf x == some .cell) = true
        · have := (Bool.and_eq_true_iff.mp (Bool.and_eq_true_iff.mp hc).1).1
          exact beq_iff_eq.mp this
        · rw [if_neg hc] at h'
          simp only [List.lookup_cons, hx] at h'
          rcases h' with e | e
          · cases e; exact absurd rfl (hn (x, .cell) List.mem_cons_self)
          · cases e; rfl
      subst hk
      exact List.mem_cons_self
    | false =>
      refine List.mem_cons_of_mem _ (ih ?_)
      by_cases hc : (k == NameKind.free && env.scope.kind == .function && env.kindOf n == some .cell) = true
      · rw [if_pos hc] at h'; simp only [List.lookup_cons, hx] at h'; exact h'
      · rw [if_neg hc] at h'; simp only [List.lookup_cons, hx] at h'; exact h'

structure BlkR where
  cl : List (Str × Addr)
  C : Addr
  s₀ : Shared
  H₀ : Hp
  ex : List Addr
abbrev blk (X : Cx) (scope : Scope) (N' : List Str) (R : BlkR) : Cx :=
  { prog := X.prog, w := X.w, K := X.K, mg := X.mg, base := X.base, A := X.A, N := N', s₀ := R.s₀, H₀ := R.H₀, env := compEnvC scope R.cl R.C X.env, outer := X.stack, stack := X.stack, ex := R.ex, fn := fun _ => false, calm := X.calm, pn := [], xe := fun _ _ => False }

def PIfs (X : Cx) (ifs : List Expr) (t : TT) : Prop :=
  ∀ (pins : List (Addr × Obj)) (s : Shared) (σ : St) (H : Hp) (Q : Bool → Hp → Prop), Inv X pins σ H s → t σ H Q →
    wpAny (model X.prog X.w) X.A (forIn ifs true fun c r => if r = true then do let ok ← isTrue c X.env (eval c X.env); pure (ForInStep.yield ok) else pure (ForInStep.yield r)) (TP X pins σ Q) X.xe s
def tTrue : TT := fun _ H Q => Q true H
theorem pifs_nil {X : Cx} : PIfs X [] tTrue := fun pins s σ H Q I h => wpAny_tests_nil ⟨H, I, h⟩
theorem pifs_one {X : Cx} {c : Expr} {t : TT} (h : PT X c t) : PIfs X [c] t := fun pins s σ H Q I hw => wpAny_tests_one (h pins s σ H Q I hw)

def GKeep (nt : Nat) (g : TG) : Prop := ∀ x σ H Q, g x σ H Q → g x σ H fun σ2 H2 => Q σ2 H2 ∧ σ2.length = σ.length ∧ ∀ i, nt ≤ i → σ2[i]? = σ[i]?
theorem gkeep_name {nt i : Nat} (h : i < nt) : GKeep nt (gName i) := fun x σ H Q q =>
  ⟨q, by simp, fun j hj => List.getElem?_set_ne (by omega)⟩

def blkSt (nt : Nat) (cap : List Nat) (σ : St) : St := List.replicate nt none ++ cap.map fun j => (σ[j]?).join
theorem blkSt_len {nt : Nat} {cap : List Nat} {σ : St} : (blkSt nt cap σ).length = nt + cap.length := by simp [blkSt]
theorem blkSt_get {nt : Nat} {cap : List Nat} {σ : St} {i : Nat} {v : V} (h : (blkSt nt cap σ)[i]? = some (some v)) : ∃ j, nt ≤ i ∧ cap[i - nt]? = some j ∧ σ[j]? = some (some v) := by
  unfold blkSt at h
  by_cases hi : i < nt
  · rw [List.getElem?_append_left (by simpa using hi), List.getElem?_replicate] at h
    rw [if_pos hi] at h
    cases h
  · rw [List.getElem?_append_right (by simp; omega), List.length_replicate, List.getElem?_map] at h
    cases e : cap[i - nt]? with
    | none => rw [e] at h; cases h
    | some j =>
      rw [e] at h
      refine ⟨j, by omega, rfl, ?_⟩
      have h' : (σ[j]?).join = some v := by simpa using h
      cases q : σ[j]? with
      | none => rw [q] at h'; cases h'
      | some o => rw [q] at h'; cases o with
        | none => cases h'
        | some z => cases h'; rfl

theorem compLoop_turns {prog : Program} {w : World} {A : Around} {R : Result → Shared → Prop} {s : Shared} {elt target iter : Expr} {ifs : List Expr} {scope : Scope} {pos : Pos} {it acc : Value} {env : Env} (I : Nat → Shared → Prop)
    (turn : ∀ n s, I n s → wpAny (model prog w) A (pyNext it) (fun r s₁ => match r with
      | none => R (.ok .next) s₁
      | some v => wpAny (model prog w) A (letOwnedTupleGo target it v) (fun _ s₁ => wpAny (model prog w) A (assign target env v) (fun _ s₂ =>
          wpAny (model prog w) A (forIn ifs true fun c r => if r = true then do let ok ← isTrue c env (eval c env); pure (ForInStep.yield ok) else pure (ForInStep.yield r)) (fun ok s₃ =>
            if ok = true then wpAny (model prog w) A (eval elt env) (fun x s₄ =>
              wpAny (model prog w) A (call (.builtin "list.append") [acc, x]) (fun _ s₅ => ∃ m, m < n ∧ I m s₅) (notedBy (model prog w) A env fun e s' => R (.error e) s') s₄) (notedBy (model prog w) A env fun e s' => R (.error e) s') s₃
            else ∃ m, m < n ∧ I m s₃) (notedBy (model prog w) A env fun e s' => R (.error e) s') s₂) (notedBy (model prog w) A env fun e s' => R (.error e) s') s₁) (notedBy (model prog w) A env fun e s' => R (.error e) s') s₁) (notedBy (model prog w) A env fun e s' => R (.error e) s') s)
    (n : Nat) (h : I n s) :
    codeAny (model prog w) A (.compLoop (.ListComp elt [⟨target, iter, ifs, 0⟩] scope pos) 0 it acc env) R s := by
  refine codeAny_loop rfl I (fun n s hI => ?_) n h
  show wpAny _ A ((compTurn (.ListComp elt [⟨target, iter, ifs, 0⟩] scope pos) 0 it acc env).onRaise (fun x => do noteFrame x env; theTreesLotGoes x)) _ _ s
  refine wpAny_noted ?_
  rw [compTurn_list]
  refine wpAny_bind (wpAny_standAt (wpAny_bind (wpAny_mono (turn n s hI) (fun r s₁ h₁ => ?_) fun _ _ h' => h')))
  cases r with
  | none => exact wpAny_pure h₁
  | some v =>
    refine wpAny_bind (wpAny_mono h₁ (fun _ s₁' h₁' => ?_) fun _ _ h' => h')
    refine wpAny_bind (wpAny_mono h₁' (fun _ s₂ h₂ => wpAny_bind (wpAny_mono h₂ (fun ok s₃ h₃ => ?_) fun _ _ h' => h')) fun _ _ h' => h')
    cases ok with
    | false => exact wpAny_pure ⟨rfl, h₃⟩
    | true =>
      exact wpAny_bind (wpAny_bind (wpAny_mono h₃ (fun x s₄ h₄ => wpAny_bind (wpAny_mono h₄ (fun _ s₅ h₅ => wpAny_pure (wpAny_pure ⟨rfl, h₅⟩)) fun _ _ h' => h')) fun _ _ h' => h'))

abbrev CW := Nat → Nat → List V → Hp → Prop
def tTurn (σb : St) (J : It) (g : TG) (tt : TT) (te : TE) (W : CW) (fin : List V → Hp → Prop) (i m : Nat) (ys : List V) (H : Hp) : Prop :=
  (J.stop i H ∧ fin ys H) ∨
  (J.go i H ∧ ys.length < sizeLine ∧ ∀ x H', J.yld i H x H' → g x σb H' fun σ2 H2 => tt σ2 H2 fun b H3 =>
    if b = true then te σ2 H3 fun y H4 => ∃ m', m' < m ∧ W (i + 1) m' (ys ++ [y]) H4 else ∃ m', m' < m ∧ W (i + 1) m' ys H3)

structure BlkEnd (X : Cx) (pins : List (Addr × Obj)) (H : Hp) (C : Addr) (s : Shared) : Prop where
  ns : ∃ m, s.heap.Ns C m
  fr : H C = none
  ne : C ≠ X.env.locals
  ab : X.s₀.heap.objs.size ≤ C
  cl : ∀ x c, X.env.cells.lookup x = some c → c ≠ C
  pn : ∀ p ∈ X.pn ++ pins, p.1 ≠ C

theorem comp_block {X : Cx} {pins : List (Addr × Obj)} {σ : St} {s₂ : Shared} {H₂ : Hp} {elt iter tg : Expr} {ifs : List Expr} {scope : Scope} {pos : Pos} {N' : List Str} {nt : Nat} {cap : List Nat} {g : TG} {tt : TT} {te : TE} {cl : List (Str × Addr)}
    {it : Addr} {fp : List Addr} {tn : Nat → Heap → Prop} {J : It} {Q : List V → Hp → Prop} {E : Value → Shared → Prop}
    (hc : X.calm = true) (I₂ : Inv X pins σ H₂ s₂) (T : Turn X.prog X.w X.K tg J fp it tn) (st : tn 0 s₂.heap) (hf : ∀ b ∈ fp, FpOk X pins H₂ b)
    (hclk : ∀ x c, cl.lookup x = some c → X.env.cells.lookup x = some c) (hclh : ∀ x, (x, NameKind.free) ∈ scope.names → ∃ c, cl.lookup x = some c)
    (hcell : ∀ y ∈ scope.names, y.2 ≠ .cell) (hkind : scope.kind = .function)
    (hfr : ∀ y ∈ scope.names, y.2 = .free → (X.env.kindOf y.1 = some .cell ∨ X.env.kindOf y.1 = some .free))
    (hN : N'.length = nt + cap.length) (hcapN : ∀ (k j : Nat), cap[k]? = some j → N'[nt + k]? = X.N[j]?) (hcapF : ∀ x ∈ N'.drop nt, scope.names.lookup x = some .free)
    (hg : ∀ R, PG (blk X scope N' R) tg g) (hgk : GKeep nt g) (ht : ∀ R, PIfs (blk X scope N' R) ifs tt) (he : ∀ R, PE (blk X scope N' R) elt te)
    (h : ∃ W : CW, (∃ m, W 0 m [] H₂) ∧ ∀ i m ys H, W i m ys H → tTurn (blkSt nt cap σ) J g tt te W Q i m ys H)
    {RR : Value → Addr → Result → Shared → Prop}
    (hRR : ∀ D C s' H' ys, H' D = none → Q ys H' → Inv X pins σ (upd H' D (.lst ys)) s' → BlkEnd X pins (upd H' D (.lst ys)) C s' → RR (.ref D) C (.ok .next) s') :
    wpAny (model X.prog X.w) X.A (newList []) (fun acc s₃ => wpAny (model X.prog X.w) X.A (newFunctionEnv scope X.env.globals cl [] X.env.qual none .none (some X.env)) (fun cenv s₄ =>
      codeAny (model X.prog X.w) X.A (.compStart (.ListComp elt [⟨tg, iter, ifs, 0⟩] scope pos) 0 (.ref it) acc { cenv with scope := relabel scope X.env }) (RR acc cenv.locals) s₄) E s₃) E s₂ := by
  obtain ⟨W, ⟨m0, w0⟩, turn⟩ := h
  refine wpAny_newObj_type (wpAny_newFunctionEnv hcell (by intro y hy; simp at hy) (fun h₁ hns₁ hsb₁ => ?_) hkind)
  dsimp only at hns₁ hsb₁ ⊢
  generalize hH2 : s₂.heap.push { cls := .type "list", dict := none, data := .seq ([] : List Value).toArray } = Hx at hns₁ hsb₁ ⊢
  have hC : Hx.objs.size = s₂.heap.objs.size + 1 := by rw [← hH2, Heap.size_push]
  generalize hD : s₂.heap.objs.size = D at hC ⊢
  generalize hCC : Hx.objs.size = C at hns₁ hsb₁ hC ⊢
  have hDC : D ≠ C := by omega
  have below : ∀ b, b < s₂.heap.objs.size → b ≠ C ∧ b ≠ D := fun b hb => by omega
  have old : ∀ b o, s₂.heap.get? b = some o → h₁.get? b = some o := fun b o e => hsb₁.extBut b o (below b (Heap.lt_size e)).1 (Heap.get?_push_of_some _ (hH2 ▸ Heap.get?_push_of_some _ e))
  have hacc : h₁.get? D = some { cls := .type "list", data := .seq ([] : List Value).toArray } := hsb₁.extBut _ _ hDC (Heap.get?_push_of_some _ (by rw [← hH2, ← hD]; exact Heap.get?_push_size _ rfl))
  have freshD : H₂ D = none := I₂.hok.fresh (by omega)
  have freshC : H₂ C = none := I₂.hok.fresh (by omega)
  have fpo : ∀ b ∈ fp, ∃ o, s₂.heap.get? b = some o ∧ ∀ v, o.data ≠ .cell v := T.obj 0 _ st
  have fplt : ∀ b ∈ fp, b < s₂.heap.objs.size := fun b hb => let ⟨o, e, _⟩ := fpo b hb; Heap.lt_size e
  have celllt : ∀ x c, X.env.cells.lookup x = some c → c < s₂.heap.objs.size := fun x c e => let ⟨v, z⟩ := I₂.cell x c e; z.lt
  have pinlt : ∀ p ∈ X.pn ++ pins, p.1 < s₂.heap.objs.size := fun p hp => Heap.lt_size (I₂.pin p hp).1
  let R : BlkR := ⟨cl, C, s₂, H₂, fp⟩
  have okb : (blk X scope N' R).Ok := {
    mod := I₂.mod
    kind := hkind
    glob := I₂.ok.glob
    blt := I₂.ok.blt
    above := (by show s₂.heap.objs.size ≤ C; omega)
    inj := fun x y c e1 e2 => I₂.ok.inj x y c (hclk x c e1) (hclk y c e2)
    has := fun x hx => hclh x (relabel_was_free hcell hx)
    cab := fun x c hx _ => by cases hx
    hd := I₂.ok.hd
    frames := I₂.ok.frames
    stk := .inl rfl
    exf := fun b hb => ⟨(below b (fplt b hb)).1, fun x c e => (hf b hb).2.2.2.2.1 x c (hclk x c e)⟩
    bs := I₂.bs
    bsz := Nat.le_trans I₂.ok.bsz I₂.sz
    noex := fun b o e hb => by
      rcases (hf b hb).2.2.2.1 with z | z
      · exact I₂.ok.noex b o e z
      · exact absurd (Nat.lt_of_lt_of_le (Heap.lt_size e) (Nat.le_trans I₂.ok.bsz z)) (Nat.lt_irrefl _)
    exfs := fun b hb z => by
      rcases List.mem_cons.mp (I₂.stkSub b z) with q | q
      · exact (hf b hb).2.1 q
      · exact (hf b hb).2.2.1 q
    funs := I₂.stack
    frf := I₂.stkFree }
  have nofs : ∀ a, s₂.heap.objs.size ≤ a → a ∉ frs X.stack := fun a ha z => by
    rcases List.mem_cons.mp (I₂.stkSub a z) with q | q
    · exact absurd (Nat.lt_of_lt_of_le I₂.lt ha) (by rw [q]; exact Nat.lt_irrefl _)
    · exact I₂.nofs ha q
  have hDle : s₂.heap.objs.size ≤ D := by omega
  have hCle : s₂.heap.objs.size ≤ C := by omega
  have stat : ∀ {H' : Hp} {ob : Obj}, (∀ b ∈ fp, H' b = none) → ∀ b ∈ fp, FpOk (blk X scope N' R) [(D, ob)] H' b := fun {H' ob} hn b hb =>
    ⟨hn b hb, (below b (fplt b hb)).1, okb.exfs b hb, .inl hb, fun x c e => (hf b hb).2.2.2.2.1 x c (hclk x c e), fun p hp => by
      have e : p = (D, ob) := by simpa using hp
      rw [e]
      exact Ne.symm (below b (fplt b hb)).2⟩
  have entry : ∀ tk, Inv (blk X scope N' R) [(D, { cls := .type "list", data := .seq ([] : List Value).toArray })] (blkSt nt cap σ) H₂ { s₂ with heap := h₁, toks := tk } := fun tk => {
    ok := okb
    os := rfl
    bare := I₂.bare
    base := Un.kept old
    loc := by
      refine ⟨_, hns₁, fun i x v e1 e2 e3 => ?_⟩
      obtain ⟨j, hi, hj, hv⟩ := blkSt_get e2
      have hx : X.N[j]? = some x := by
        rw [← hcapN _ _ hj, show nt + (i - nt) = i by omega]
        exact e1
      have hxm : x ∈ N'.drop nt := by
        refine List.mem_of_getElem? (i := i - nt) ?_
        rw [List.getElem?_drop, show nt + (i - nt) = i by omega]
        exact e1
      have hfree := hcapF x hxm
      have hmem : (x, NameKind.free) ∈ scope.names := by
        have : ∀ (l : List (Str × NameKind)), l.lookup x = some .free → (x, NameKind.free) ∈ l := by
          intro l
          induction l with
          | nil => intro q; cases q
          | cons a r ih =>
            intro q
            obtain ⟨n, k⟩ := a
            cases hxn : x == n with
            | true =>
              rw [List.lookup_cons, hxn] at q
              obtain rfl := beq_iff_eq.mp hxn
              cases q
              exact List.mem_cons_self
            | false =>
              rw [List.lookup_cons, hxn] at q
              exact List.mem_cons_of_mem _ (ih q)
        exact this _ hfree
      have hk := hfr (x, .free) hmem rfl
      obtain ⟨m, hn, hl⟩ := I₂.loc
      have vis : Vis X.env.scope x := by
        rcases hk with k | k
        · exact .inr (.inl k)
        · exact .inr (.inr k)
      obtain ⟨u, ru, lk⟩ := hl j x v hx hv vis
      refine ⟨u, ru, ?_⟩
      rcases lk with ⟨k, _⟩ | ⟨k, c, hc1, hc2⟩
      · exfalso
        rcases hk with z | z
        · rw [z] at k; cases k
        · rw [z] at k; cases k
      · obtain ⟨d, hd⟩ := hclh x hmem
        have hd' := hclk x d hd
        rw [hc1] at hd'
        cases hd'
        refine .inr ⟨lookup_relabel_free hfree, c, hd, ?_⟩
        obtain ⟨o, ho, hdat⟩ := hc2
        exact ⟨o, old c o ho, hdat⟩
    cell := fun x c e => by
      obtain ⟨v, o, ho, hdat⟩ := I₂.cell x c (hclk x c e)
      exact ⟨v, o, old c o ho, hdat⟩
    free := freshC
    freeC := fun x c e => I₂.freeC x c (hclk x c e)
    pin := fun p hp => by
      have e : p = (D, { cls := .type "list", data := .seq ([] : List Value).toArray }) := by simpa using hp
      subst e
      exact ⟨hacc, freshD, hDC, nofs D hDle, fun v z => by cases z⟩
    hok := I₂.hok.kept old
    len := by rw [blkSt_len, hN] }
  have loop : ∀ tk, codeAny (model X.prog X.w) X.A (.compLoop (.ListComp elt [⟨tg, iter, ifs, 0⟩] scope pos) 0 (.ref it) (.ref D) (compEnvC scope cl C X.env)) (RR (.ref D) C) { s₂ with heap := h₁, toks := tk } := by
    intro tk
    refine compLoop_turns (fun n s' => ∃ i ys H' its k, Inv (blk X scope N' R) [(D, { cls := .type "list", data := .seq its.toArray k })] (blkSt nt cap σ) H' s' ∧ tn i s'.heap ∧ (∀ b ∈ fp, H' b = none) ∧ Vals ys its ∧ ys.length ≤ sizeLine ∧ W i n ys H') ?_ m0
      ⟨0, [], H₂, [], 0, entry tk, T.keep _ _ _ st fun b hb o e => old b o e, fun b hb => (hf b hb).1, .nil, Nat.zero_le _, w0⟩
    rintro n s3 ⟨i, ys, H3, its, k, I3, st3, fr3, rv, hz, w3⟩
    have pD := I3.pin (D, { cls := .type "list", data := .seq its.toArray k }) (by simp)
    rcases turn i n ys H3 w3 with ⟨stop, qn⟩ | ⟨go, hlt, step⟩
    · -- the end
      refine wpAny_mono (T.done (blk X scope N' R) rfl rfl rfl hc i _ s3 _ H3 (fun _ _ => False) I3 (stat fr3) st3 stop) (fun r s4 ⟨hr, I4⟩ => ?_) fun _ _ z => z.elim
      subst hr
      have pD4 := I4.pin (D, { cls := .type "list", data := .seq its.toArray k }) (by simp)
      have b4 : Un (frs X.stack) fp H₂ H3 s₂.heap s4.heap := I4.base
      have u4 : Un (frs X.stack) fp H₂ (upd H3 D (.lst ys)) s₂.heap s4.heap := {
        keep := b4.keep
        slot := b4.slot
        free := fun b o e n hx => by
          rw [upd_ne (below b (Heap.lt_size e)).2]
          exact b4.free b o e n hx
        there := b4.there
        tups := fun b xs e => by
          have z := b4.tups b xs e
          rw [upd_ne (ne_of_none z pD4.2.1)]
          exact z
        frzs := fun b o u e => by
          have z := b4.frzs b o u e
          rw [upd_ne (ne_of_none z pD4.2.1)]
          exact z
        tbls := fun b ps e => by
          obtain ⟨more, z⟩ := b4.tbls b ps e
          exact ⟨more, by rw [upd_ne (ne_of_none z pD4.2.1)]; exact z⟩ }
      have hok4 : HOk X.prog X.w (upd H3 D (.lst ys)) s4.heap := fun b u e => by
        by_cases hb : b = D
        · subst hb
          rw [upd_same] at e
          cases e
          exact ⟨hz, its, k, rv, pD4.1⟩
        · rw [upd_ne hb] at e
          exact (I4.hok b u e).stay (fun c v _ q => q) (fun c q => by rw [upd_ne (ne_of_none q pD4.2.1)]; exact q) fun c xs q => by rw [upd_ne (ne_of_none q pD4.2.1)]; exact q
      have I5 : Inv X pins σ (upd H3 D (.lst ys)) s4 := I₂.call' I4.os u4 hok4 I4.bare fun b hb => ⟨(hf b hb).2.2.2.1, (hf b hb).2.1, (hf b hb).2.2.2.2.1, (hf b hb).2.2.2.2.2⟩
      refine hRR D C s4 H3 ys pD4.2.1 qn I5 ?_
      obtain ⟨m, hn, _⟩ := I4.loc
      exact ⟨⟨m, hn⟩, by rw [upd_ne (Ne.symm hDC)]; exact I4.free, fun z => absurd I₂.lt (by rw [← z]; exact Nat.not_lt.mpr hCle), Nat.le_trans I₂.sz hCle, fun x c e => Nat.ne_of_lt (Nat.lt_of_lt_of_le (celllt x c e) hCle), fun p hp => Nat.ne_of_lt (Nat.lt_of_lt_of_le (pinlt p hp) hCle)⟩
    · -- a turn
      refine wpAny_mono (T.item (blk X scope N' R) rfl rfl rfl hc i _ s3 _ H3 (fun _ _ => False) I3 (stat fr3) st3 go) (fun r s4 ⟨u, hr, h4⟩ => ?_) fun _ _ z => z.elim
      subst hr
      refine wpAny_mono h4 (fun _ s5 ⟨x, H5, I5, r5, y5, st5, fr5⟩ => ?_) fun _ _ z => z.elim
      have I5' := I5.pinned (stat fr5) (T.obj _ _ st5)
      refine wpAny_mono (hg R _ s5 _ H5 x u _ I5' r5 (hgk _ _ _ _ (step x H5 y5))) (fun _ s6 ⟨σ6, H6, I6, q6, l6, k6⟩ => ?_) fun _ _ z => z.elim
      refine wpAny_mono (ht R _ s6 σ6 H6 _ I6 q6) (fun ok s7 ⟨H7, I7, q7⟩ => ?_) fun _ _ z => z.elim
      have weak : ∀ {H8 : Hp} {s8 : Shared} {ps : List (Addr × Obj)}, Inv (blk X scope N' R) ps σ6 H8 s8 → Inv (blk X scope N' R) ps (blkSt nt cap σ) H8 s8 := fun I8 => I8.weak (by rw [l6]) fun j v e => by
        obtain ⟨_, hj, _, _⟩ := blkSt_get e
        rw [k6 j hj]
        exact e
      have tnK : ∀ {H8 : Hp} {s8 : Shared} {σ8 : St}, Inv (blk X scope N' R) ([(D, { cls := .type "list", data := .seq its.toArray k })] ++ pinsAt fp s5.heap) σ8 H8 s8 → tn (i + 1) s8.heap ∧ ∀ b ∈ fp, H8 b = none := fun {H8 s8 σ8} I8 =>
        ⟨T.keep _ _ _ st5 fun b hb o e => (I8.pin (b, o) (List.mem_append_right _ (List.mem_append_right _ (mem_pinsAt hb e)))).1, fun b hb => by
          obtain ⟨o, e, _⟩ := T.obj _ _ st5 b hb
          exact (I8.pin (b, o) (List.mem_append_right _ (List.mem_append_right _ (mem_pinsAt hb e)))).2.1⟩
      cases ok with
      | false =>
        rw [if_neg Bool.false_ne_true] at q7 ⊢
        obtain ⟨m', hm, w7⟩ := q7
        exact ⟨m', hm, i + 1, ys, H7, its, k, weak I7.unpinned, (tnK I7).1, (tnK I7).2, rv, hz, w7⟩
      | true =>
        rw [if_pos rfl] at q7 ⊢
        refine wpAny_mono (he R _ s7 σ6 H7 _ I7 q7) (fun xv s8 ⟨y, H8, I8, ry, q8⟩ => ?_) fun _ _ z => z.elim
        obtain ⟨m', hm, w8⟩ := q8
        have pD8 := I8.pin (D, { cls := .type "list", data := .seq its.toArray k }) (by simp)
        have hsz : its.toArray.size ≤ sizeLine := by rw [List.size_toArray, ← rv.length]; omega
        refine wpAny_list_append_plain (hsz := hsz) ⟨k, pD8.1⟩ fun h9 hl9 hs9 => ?_
        obtain ⟨k9, hl9⟩ := hl9
        have tn8 := tnK I8
        have I8' : Inv (blk X scope N' R) (pinsAt fp s5.heap) (blkSt nt cap σ) H8 s8 := (weak I8).pins_of fun p hp => I8.pin p (List.mem_append_right _ (List.mem_append_right _ hp))
        have I9 : Inv (blk X scope N' R) (pinsAt fp s5.heap) (blkSt nt cap σ) H8 { s8 with heap := h9 } := I8'.turned (it := D) (t' := s8.toks) (fun b o hb e => hs9.extBut b o hb e) pD8.2.1 pD8.2.2.1 (.inr hDle)
          (fun x c e => Nat.ne_of_lt (Nat.lt_of_lt_of_le (celllt x c (hclk x c e)) hDle)) fun p hp => by
            have hp' : p ∈ pinsAt fp s5.heap := by simpa using hp
            exact Nat.ne_of_lt (Nat.lt_of_lt_of_le (fplt p.1 (of_pinsAt hp').1) hDle)
        have e9 : h9.get? D = some { cls := .type "list", data := .seq (its ++ [xv]).toArray k9 } := by
          rw [hl9]
          simp
        refine ⟨m', hm, i + 1, ys ++ [y], H8, its ++ [xv], k9, I9.pins_of fun p hp => ?_, T.keep _ _ _ tn8.1 fun b hb o e => hs9.extBut b o (Nat.ne_of_lt (Nat.lt_of_lt_of_le (fplt b hb) hDle)) e, tn8.2, rv.append (.cons ry .nil), by rw [List.length_append]; exact hlt, w8⟩
        have e : p = (D, { cls := .type "list", data := .seq (its ++ [xv]).toArray k9 }) := by simpa using hp
        subst e
        exact ⟨e9, pD8.2.1, pD8.2.2.1, pD8.2.2.2.1, fun v z => by cases z⟩
  exact codeAny_compStart_list (loop _) (T.self _ 0 _ _ _ (T.keep _ _ _ st fun b hb o e => old b o e) (loop _))

def tComp (nt : Nat) (cap : List Nat) (wi : TI) (g : TG) (tt : TT) (te : TE) : TE := fun σ H Q => wi σ H fun J H1 => ∃ W : CW, (∃ m, W 0 m [] H1) ∧ ∀ i m ys H, W i m ys H → tTurn (blkSt nt cap σ) J g tt te W (fun ys H' => ∀ p, H' p = none → Q (.ref p) (upd H' p (.lst ys))) i m ys H

theorem all_mem {α : Type} {l : List α} {p : α → Bool} (h : l.all p = true) : ∀ x ∈ l, p x = true := fun x hx => List.all_eq_true.mp h x hx

theorem pe_comp {X : Cx} {elt iter tg : Expr} {ifs : List Expr} {scope : Scope} {pos : Pos} {wi : TI} {g : TG} {tt : TT} {te : TE} (N' : List Str) (nt : Nat) (cap : List Nat)
    (hc : X.calm = true) (hi : PI X tg iter wi) (hg : ∀ R, PG (blk X scope N' R) tg g) (hgk : GKeep nt g) (ht : ∀ R, PIfs (blk X scope N' R) ifs tt) (he : ∀ R, PE (blk X scope N' R) elt te)
    (hcell : (scope.names.all fun y => !(y.2 == .cell)) = true := by rfl) (hkind : scope.kind = .function := by rfl)
    (hnames : (scope.names.all fun y => !(y.2 == .local) || (scope.names.lookup y.1 == some .local)) = true := by rfl)
    (hfr : (scope.names.all fun y => !(y.2 == .free) || (X.env.kindOf y.1 == some .cell || X.env.kindOf y.1 == some .free)) = true := by rfl)
    (hN : N'.length = nt + cap.length := by rfl) (hcapN : (cap.map fun j => X.N[j]?) = (N'.drop nt).map some := by rfl) (hcapF : ((N'.drop nt).all fun x => scope.names.lookup x == some .free) = true := by rfl)
    (hs : ∀ x, foldedSetIterable iter X.env x = pure x := by intro _; rfl) :
    PE X (.ListComp elt [⟨tg, iter, ifs, 0⟩] scope pos) (tComp nt cap wi g tt te) := by
  intro pins s σ H Q I h
  have hfr' : ∀ y ∈ scope.names, y.2 = .free → (X.env.kindOf y.1 = some .cell ∨ X.env.kindOf y.1 = some .free) := fun y hy e => by
    have z := all_mem hfr y hy
    rw [e] at z
    have z' : (X.env.kindOf y.1 == some .cell || X.env.kindOf y.1 == some .free) = true := z
    rcases Bool.or_eq_true_iff.mp z' with q | q
    · exact .inl (beq_iff_eq.mp q)
    · exact .inr (beq_iff_eq.mp q)
  have hcell' : ∀ y ∈ scope.names, y.2 ≠ .cell := fun y hy e => by
    have z := all_mem hcell y hy
    rw [e] at z
    cases z
  obtain ⟨cl, hcl, hclk, hclh⟩ := closure_ok (scope := scope) (env := X.env) fun y hy e => I.ok.has y.1 (hfr' y hy e)
  have hnames' : ∀ y ∈ scope.names, y.2 = .local → scope.names.lookup y.1 = some .local := fun y hy e => by
    have z := all_mem hnames y hy
    rw [e] at z
    exact beq_iff_eq.mp z
  have hcapN' : ∀ (k j : Nat), cap[k]? = some j → N'[nt + k]? = X.N[j]? := fun k j e => by
    have z := congrArg (fun l : List (Option Str) => l[k]?) hcapN
    simp only [List.getElem?_map, e, Option.map_some, List.getElem?_drop] at z
    cases q : N'[nt + k]? with
    | none => rw [q] at z; cases z
    | some x => rw [q] at z; exact (Option.some.inj z).symm
  rw [eval_ListComp]
  refine wpAny_comprehension_free (use := none) rfl hs hcl hkind hnames' (thn (hi pins s σ H _ I h) fun v s1 h1 => thn h1 fun itv s2 h2 => ?_)
  obtain ⟨it, fp, tn, J, H2, e, I2, T, st2, f2, hw⟩ := h2
  subst e
  refine comp_block (RR := fun acc C => compPost (model X.prog X.w) X.A X.xe none (EP X pins σ Q) acc C) hc I2 T st2 f2 hclk hclh hcell' hkind hfr' hN hcapN' (fun x hx => beq_iff_eq.mp (all_mem hcapF x hx)) hg hgk ht he hw ?_
  intro D C s' H' ys hD q I' B
  obtain ⟨m, hn⟩ := B.ns
  refine ⟨m, hn, fun h' hs' => ⟨.ref D, _, I'.turned (it := C) (t' := s'.toks) (fun b o hb e => hs'.extBut b o hb e) B.fr B.ne (.inr B.ab) B.cl B.pn, rfl, q D hD⟩⟩
end L2


namespace L2
open PySem PySem.Spec PyProof.Rows

section
variable {X : Cx}
def clsV : V → Option Value
  | .ty n => some (.type n)
  | .ref a => some (.ref a)
  | _ => none
theorem clsV_rel {y : V} {c u : Value} (h : clsV y = some c) (r : RelV y u) : u = c := by
  cases y with
  | ty n => cases h; exact r
  | ref a => cases h; exact r
  | non => cases h
  | bl b => cases h
  | int i => cases h
  | str x => cases h
  | byt b => cases h
  | flt b => cases h
theorem call_isinst : CallR X (.builtin "isinstance") (fun xs H Q => ∃ x y c t b, xs = [x, y] ∧ clsV y = some c ∧ TyOf X.K H x t ∧ PySem.W.kitOne X.K t c = some b ∧ Q (.bl b) H) := by
  intro pins s σ H xs us Q I r h
  obtain ⟨x, y, c, t, b, rfl, hc, ty, e, q⟩ := h
  obtain ⟨u, v, rfl, ru, rv⟩ := Vals.two r
  obtain rfl := clsV_rel hc rv
  exact isinst_ok I ru ty e fun tk => ⟨.bl b, H, I.tok tk, rfl, q⟩

theorem boolsAre_of : ∀ {bs : List Bool} {us : List Value}, Vals (bs.map V.bl) us → LSm.BoolsAre us bs
  | [], us, r => by
    rw [List.map_nil] at r
    cases r
    exact .nil
  | b :: bs, us, r => by
    rw [List.map_cons] at r
    cases r with
    | cons r1 r2 =>
      cases r1
      exact .cons b (boolsAre_of r2)
theorem call_all (hc : X.calm = true) : CallR X (.builtin "all") (fun xs H Q => ∃ (p : Addr) (bs : List Bool), xs = [.ref p] ∧ SqL X.K H p (bs.map V.bl) ∧ Q (.bl (bs.all id)) H) := by
  intro pins s σ H xs us Q I r h
  obtain ⟨p, bs, rfl, hq, q⟩ := h
  obtain ⟨u, rfl, ru⟩ := Vals.one r
  cases ru
  obtain ⟨its, rv, pl, hz⟩ := I.list hq
  obtain ⟨m, F⟩ := I.fr
  have hb := boolsAre_of rv
  have hl := pl.isList
  have hlt : p < s.heap.objs.size := by obtain ⟨_, e, _⟩ := hl; exact Heap.lt_size e
  refine call_all_walk (wpAny_pyIter_list hl ?_)
  refine ⟨s.heap.objs.size, [s.heap.objs.size, p], [s.heap.objs.size], its.toArray.size, _, _, fun i => (bs[i]?).getD true, rfl, Walks.list (A := X.A.in1) (I.ok.hd hc) _ p (Nat.ne_of_lt hlt) its.toArray,
    ⟨⟨_, Heap.get?_push_size _ rfl, rfl, rfl⟩, hl.push _⟩, fun i v s' Q' E' hP hQ => ?_, fun h' tk hk => ?_⟩
  · obtain ⟨b, e, rfl⟩ := hb.get i v (by simpa using hP)
    simp only [e, Option.getD_some] at hQ
    exact wpAny_truthy_bool hQ
  · have e : ((List.range its.toArray.size).all fun i => (bs[i]?).getD true) = bs.all id := by
      rw [List.size_toArray, hb.length]; exact LSm.range_all bs
    rw [e]
    exact ⟨.bl _, H, I.kept (LSm.kept_iter hk), rfl, q⟩

theorem op_mul_str : OpR X (binaryOp .Mult) (fun x y H Q => ∃ z n, x = .str z ∧ y = .int n ∧ z.length ≤ 16 ∧ n ≤ 1048576 ∧ -(2 ^ 63) ≤ n ∧ Q (.str (Txt.mul z n)) H) := by
  intro pins s σ H x y v u Q I rx ry h
  obtain ⟨z, n, rfl, rfl, h1, h2, h3, q⟩ := h
  obtain ⟨t, rfl⟩ := rx
  obtain ⟨t', rfl⟩ := ry
  exact SB.mul (mulOk_of 16 1048576 h1 h2 h3 (by decide) (by decide)) fun t'' k => ⟨.str _, H, I.tok k, ⟨t'', rfl⟩, q⟩

theorem op_fdivB : OpR X (binaryOp .FloorDiv) (rI (fun _ j => 0 < j ∧ j.natAbs.log2 < 9000) fun i j => .int (i / j)) := opI fun i j _ _ _ _ _ hc q => by
  have h1 : (0 : Int) < j := hc.1
  exact floordiv_int (by omega) (by rw [Int.fdiv_eq_ediv_of_nonneg i (by omega)]; exact q) (.inl (PyProof.noPylong_of_log2 hc.2))

def Its (x : Str) : It where
  go := fun i _ => i < x.cps.size
  yld := fun i H v H' => H' = H ∧ ∃ c, x.cps[i]? = some c ∧ v = .str ⟨#[c]⟩
  stop := fun i _ => i = x.cps.size
theorem turn_str {P : Program} {w : World} {K : PySem.W.Frag} {tg : Expr} (it : Addr) (x : Str) (t : Tok) (ty : String)
    (W : ∀ A : Around, A.handled = none → Walks P w A it [it] [it] x.cps.size (SignAt x) (fun i h => h.IsStrIter it ty x t i))
    (hn : ["enumerate", "zip", "dict_itemiterator", "dict_reverseitemiterator", "odict_iterator", "itertools.zip_longest", "itertools.pairwise"].contains ty = false)
    (self : ∀ (A : Around) (i : Nat) (s : Shared) (Q : Value → Shared → Prop) (E : Value → Shared → Prop), s.heap.IsStrIter it ty x t i → Q (.ref it) s → wpAny (model P w) A (pyIter (.ref it)) Q E s) :
    Turn P w K tg (Its x) [it] it (fun i h => h.IsStrIter it ty x t i) where
  mem := by simp
  obj := fun i h st b hb => by
    have e : b = it := by simpa using hb
    subst e
    obtain ⟨o, e, c, d⟩ := st
    exact ⟨o, e, fun v z => by rw [d] at z; cases z⟩
  keep := fun i h h' st k => let ⟨o, ho, r⟩ := st; ⟨o, k it (by simp) o ho, r⟩
  item := by
    intro X hP hw hK hc i pins s σ H E I hf st hg
    subst hP hw hK
    obtain ⟨f0, f1, f2, f3, f4, f5⟩ := hf it (by simp)
    refine (W X.A (I.ok.hd hc)).item i s _ _ hg st fun v h' tk hv st' kk => ?_
    obtain ⟨c, u, hx, rfl⟩ := hv
    have I1 : Inv X pins σ H { s with heap := h', toks := tk } := I.turned (fun b o hb e => kk b o (by simpa using hb) e) f0 f1 f3 f4 f5
    obtain ⟨o, e, cc, d⟩ := id st'
    exact ⟨_, rfl, go_of (s := { s with heap := h', toks := tk }) e cc d hn ⟨.str ⟨#[c]⟩, H, I1, ⟨u, rfl⟩, ⟨rfl, c, hx, rfl⟩, st', fun b hb => (hf b hb).1⟩⟩
  done := by
    intro X hP hw hK hc i pins s σ H E I hf st hg
    subst hP hw hK
    obtain ⟨f0, f1, f2, f3, f4, f5⟩ := hf it (by simp)
    have hg' : i = x.cps.size := hg
    subst hg'
    exact (W X.A (I.ok.hd hc)).done s _ _ st fun h' tk kk => ⟨rfl, I.turned (fun b o hb e => kk b o (by simpa using hb) e) f0 f1 f3 f4 f5⟩
  self := self
def iStr (tl : TE) : TI := fun σ H R => tl σ H fun x H1 => ∃ z, x = .str z ∧ R (Its z) H1
theorem pi_str {tg l : Expr} {tl : TE} (hl : PE X l tl) : PI X tg l (iStr tl) := by
  intro pins s σ H R I h
  refine thn (hl pins s σ H _ I h) fun v s1 ⟨x, H1, I1, r1, q1⟩ => ?_
  obtain ⟨z, e, q⟩ := q1
  subst e
  obtain ⟨t, rfl⟩ := r1
  have fp : ∀ b ∈ [s1.heap.objs.size], FpOk X pins H1 b := fun b hb => by
    have e : b = s1.heap.objs.size := by simpa using hb
    subst e
    exact I1.fpOk (Nat.le_refl _) (I1.hok.fresh (Nat.le_refl _))
  cases ha : z.cps.all (· < 128)
  · refine wpAny_pyIter_wide ha ?_
    exact ⟨s1.heap.objs.size, [s1.heap.objs.size], _, _, H1, rfl, I1.kept (t' := s1.toks) fun b o e => Heap.get?_push_of_some _ e, turn_str _ z t "str_iterator" (fun A hA => Walks.strWide hA _ z t) (by decide) (fun A i s Q E st h => wpAny_pyIter_striter_wide st h),
      ⟨_, Heap.get?_push_size _ rfl, rfl, rfl⟩, fp, q⟩
  · refine wpAny_pyIter_ascii ha ?_
    exact ⟨s1.heap.objs.size, [s1.heap.objs.size], _, _, H1, rfl, I1.kept (t' := s1.toks) fun b o e => Heap.get?_push_of_some _ e, turn_str _ z t "str_ascii_iterator" (fun A hA => Walks.strAscii hA _ z t) (by decide) (fun A i s Q E st h => wpAny_pyIter_striter_ascii st h),
      ⟨_, Heap.get?_push_size _ rfl, rfl, rfl⟩, fp, q⟩
end

theorem comp_str {σb : St} {x : Str} {g : TG} {tt : TT} {te : TE} {fin : List V → Hp → Prop} {H : Hp} (hz : x.cps.size ≤ sizeLine) (Pv : Nat → List V → Hp → Prop) (h0 : Pv 0 [] H) (hl : ∀ i ys H, Pv i ys H → ys.length ≤ i)
    (hs : ∀ i c ys H (K : VK) (K' : Hp → Prop), x.cps[i]? = some c → Pv i ys H → (∀ y H4, Pv (i + 1) (ys ++ [y]) H4 → K y H4) → (∀ H3, Pv (i + 1) ys H3 → K' H3) →
      g (.str ⟨#[c]⟩) σb H fun σ2 H2 => tt σ2 H2 fun b H3 => if b = true then te σ2 H3 K else K' H3)
    (hd : ∀ ys H, Pv x.cps.size ys H → fin ys H) : ∃ W : CW, (∃ m, W 0 m [] H) ∧ ∀ i m ys H, W i m ys H → tTurn σb (Its x) g tt te W fin i m ys H := by
  refine ⟨fun i m ys H => m = x.cps.size - i ∧ i ≤ x.cps.size ∧ Pv i ys H, ⟨x.cps.size, by simp, Nat.zero_le _, h0⟩, ?_⟩
  rintro i m ys H ⟨rfl, hi, p⟩
  by_cases hlt : i < x.cps.size
  · refine .inr ⟨hlt, ?_, fun v H' y => ?_⟩
    · have := hl i ys H p; omega
    · obtain ⟨e, c, hx, rfl⟩ := y
      subst e
      exact hs i c ys _ _ _ hx p (fun y H4 q => ⟨x.cps.size - (i + 1), by omega, rfl, hlt, q⟩) fun H3 q => ⟨x.cps.size - (i + 1), by omega, rfl, hlt, q⟩
  · have e : i = x.cps.size := by omega
    subst e
    exact .inl ⟨rfl, hd ys H p⟩
theorem comp_list {F : PySem.W.Frag} {a : Addr} {xs : List V} {σb : St} {g : TG} {tt : TT} {te : TE} {fin : List V → Hp → Prop} {H : Hp} (hz : xs.length ≤ sizeLine) (Pv : Nat → List V → Hp → Prop) (h0 : Pv 0 [] H)
    (hl : ∀ i ys H, i ≤ xs.length → Pv i ys H → SqL F H a xs ∧ ys.length ≤ i)
    (hs : ∀ i x ys H (K : VK) (K' : Hp → Prop), xs[i]? = some x → Pv i ys H → (∀ y H4, Pv (i + 1) (ys ++ [y]) H4 → K y H4) → (∀ H3, Pv (i + 1) ys H3 → K' H3) →
      g x σb H fun σ2 H2 => tt σ2 H2 fun b H3 => if b = true then te σ2 H3 K else K' H3)
    (hd : ∀ ys H, Pv xs.length ys H → fin ys H) : ∃ W : CW, (∃ m, W 0 m [] H) ∧ ∀ i m ys H, W i m ys H → tTurn σb (Itl F a) g tt te W fin i m ys H := by
  refine ⟨fun i m ys H => m = xs.length - i ∧ i ≤ xs.length ∧ Pv i ys H, ⟨xs.length, by simp, Nat.zero_le _, h0⟩, ?_⟩
  rintro i m ys H ⟨rfl, hi, p⟩
  obtain ⟨q, ql⟩ := hl i ys H hi p
  by_cases hlt : i < xs.length
  · refine .inr ⟨⟨xs, xs[i], q, by simp [hlt]⟩, by omega, fun x H' y => ?_⟩
    obtain ⟨e, y⟩ := y
    subst e
    exact hs i x ys _ _ _ (y xs q) p (fun y H4 q => ⟨xs.length - (i + 1), by omega, rfl, hlt, q⟩) fun H3 q => ⟨xs.length - (i + 1), by omega, rfl, hlt, q⟩
  · have e : i = xs.length := by omega
    subst e
    exact .inl ⟨⟨xs, q, Nat.le_refl _⟩, hd ys H p⟩
theorem comp_range {lo : Int} {n : Nat} {σb : St} {g : TG} {tt : TT} {te : TE} {fin : List V → Hp → Prop} {H : Hp} (hz : n ≤ sizeLine) (Pv : Nat → List V → Hp → Prop) (h0 : Pv 0 [] H) (hl : ∀ i ys H, Pv i ys H → ys.length ≤ i)
    (hs : ∀ i ys H (K : VK) (K' : Hp → Prop), i < n → Pv i ys H → (∀ y H4, Pv (i + 1) (ys ++ [y]) H4 → K y H4) → (∀ H3, Pv (i + 1) ys H3 → K' H3) →
      g (.int (lo + i)) σb H fun σ2 H2 => tt σ2 H2 fun b H3 => if b = true then te σ2 H3 K else K' H3)
    (hd : ∀ ys H, Pv n ys H → fin ys H) : ∃ W : CW, (∃ m, W 0 m [] H) ∧ ∀ i m ys H, W i m ys H → tTurn σb (Itr lo n) g tt te W fin i m ys H := by
  refine ⟨fun i m ys H => m = n - i ∧ i ≤ n ∧ Pv i ys H, ⟨n, by simp, Nat.zero_le _, h0⟩, ?_⟩
  rintro i m ys H ⟨rfl, hi, p⟩
  by_cases hlt : i < n
  · refine .inr ⟨hlt, ?_, fun v H' y => ?_⟩
    · have := hl i ys H p; omega
    · obtain ⟨e, y⟩ := y
      subst e y
      exact hs i ys _ _ _ hlt p (fun y H4 q => ⟨n - (i + 1), by omega, rfl, hlt, q⟩) fun H3 q => ⟨n - (i + 1), by omega, rfl, hlt, q⟩
  · have e : i = n := by omega
    subst e
    exact .inl ⟨Nat.le_refl _, hd ys H p⟩
end L2


namespace L2
open PySem PySem.Spec PyProof.Rows

structure DefAt (K : PySem.W.Frag) (mg : Str → Option Value) (x : Str) (st : Stmt) (ps : List Str) : Prop where
  ex : ∃ (f : Addr) (fd : FuncData), Fun K x x st f fd ∧ Binds K fd ps [] ∧ mg x = some (.ref f)
structure Fc (P : Program) (w : World) (K : PySem.W.Frag) (mg : Str → Option Value) (base : Heap) (k : Nat) (x : Str) (ps : List Str) (sp : Sp) : Prop where
  ex : ∃ (f : Addr) (fd : FuncData), FnOk P w K mg base CX0 k f fd ps sp ∧ Binds K fd ps [] ∧ mg x = some (.ref f) ∧ PySem.W.keepIn K (.ref f) = true
section
variable {P : Program} {w : World} {K : PySem.W.Frag} {mg : Str → Option Value} {base : Heap}
theorem DefAt.fc {x : Str} {st : Stmt} {N ps : List Str} {k : Nat} {sp : Sp} (D : DefAt K mg x st ps) (S : FnScope N ps (defScope st)) (len : ∀ vs H Q E, sp vs H Q E → vs.length = ps.length)
    (hbody : ∀ (f : Addr) (cdv : Value) (A : Around) (outer : List Env) (s : Shared) (H : Hp) (vs : List V) (Q : VK) (E : XK), Room k (A.deeper (envOfC x (defScope st) s.heap.objs.size f cdv)) → sp vs H Q E →
      ∃ t, PSs (cxOf CX0 P w K mg base N x (defScope st) f cdv A outer s H E).nox (defBody st) t ∧ t { nx := fun _ H' => Q .non H', rt := Q } (start N vs) H) : Fc P w K mg base (k + 1) x ps sp := by
  obtain ⟨f, fd, F, b, m⟩ := D.ex
  exact ⟨f, fd, F.ok S len fun cdv A outer s H vs Q E hr h => hbody f cdv A outer s H vs Q E hr h, b, m, F.kp⟩
theorem Fc.imp {x : Str} {ps : List Str} {k : Nat} {sp sp' : Sp} (F : Fc P w K mg base k x ps sp) (h : ∀ vs H Q E, sp' vs H Q E → sp vs H Q E) : Fc P w K mg base k x ps sp' := by
  obtain ⟨f, fd, G, b, m, kp⟩ := F.ex
  exact ⟨f, fd, G.imp h, b, m, kp⟩
theorem def_mk {h : Heap} {x : Str} {st : Stmt} {ps : List Str} {f : Addr} {oc : Value} {od an : Option Addr} {osl : Array (Option Value)} {kV doc pm cdv ct : Value} (X : K.In h) (G : h.Ns mainGlobals mg)
    (a : PySem.W.nsIn K mainGlobals x = some (some (.ref f))) (l : K.lookup f = some ⟨oc, od, .func (PySem.W.fnOf x x (defArgs st) (defBody st) (defScope st) .none kV doc pm an cdv ct), osl⟩)
    (c : PySem.W.codeIn K cdv x = true) (k : PySem.W.keepIn K (.ref f) = true)
    (hb : ∀ (kV doc pm : Value) (an : Option Addr) (cdv ct : Value) (us : List Value), us.length = ps.length → bindArgs (PySem.W.fnOf x x (defArgs st) (defBody st) (defScope st) .none kV doc pm an cdv ct) ⟨us, []⟩ = pure (ps.zip us)) : DefAt K mg x st ps :=
  ⟨f, _, fun_mk l c k, (fun_mk l c k).binds hb, PySem.W.mg_of X G a⟩
end
section
variable {X : Cx} {k : Nat} {ps : List Str} {sp : Sp} {x : Str} {p pos : Pos} {e : Expr} {es : List Expr} {t : TA}
theorem pe_c (F : Fc X.prog X.w X.K X.mg X.base k x ps sp) (hr : Room k X.A) (ha : PA X (e :: es) t) (hg : Gl X x := by rfl) (hdb : (x == ("__debug__" : Str)) = false := by decide)
    (he : starEach (e :: es) X.env = (false, eval e X.env) :: starEach es X.env := by rfl) (hpl : (backTo pos (starEach es X.env)).any (·.1) = false := by rfl) :
    PE X (.Call (.Name x p) (e :: es) [] pos) (tCall sp [] E0 t) := by
  obtain ⟨f, fd, G, b, m, kp⟩ := F.ex
  exact pe_call G hr hg m kp b .nil pass0 ha hdb he hpl
end
def sp1 (f : V → Hp → VK → Prop) : Sp := fun vs H Q _ => ∃ x, vs = [x] ∧ f x H Q
def sp2 (f : V → V → Hp → VK → Prop) : Sp := fun vs H Q _ => ∃ x y, vs = [x, y] ∧ f x y H Q
def sp3 (f : V → V → V → Hp → VK → Prop) : Sp := fun vs H Q _ => ∃ x y z, vs = [x, y, z] ∧ f x y z H Q
theorem len1 {f : V → Hp → VK → Prop} : ∀ vs H Q E, sp1 f vs H Q E → vs.length = 1 := fun vs H Q E ⟨x, e, _⟩ => by rw [e]; rfl
theorem len2 {f : V → V → Hp → VK → Prop} : ∀ vs H Q E, sp2 f vs H Q E → vs.length = 2 := fun vs H Q E ⟨x, y, e, _⟩ => by rw [e]; rfl
theorem len3 {f : V → V → V → Hp → VK → Prop} : ∀ vs H Q E, sp3 f vs H Q E → vs.length = 3 := fun vs H Q E ⟨x, y, z, e, _⟩ => by rw [e]; rfl

theorem boot_isinstance : bootBuiltins "isinstance" = some (.builtin "isinstance") := by decide +kernel
theorem boot_all' : bootBuiltins "all" = some (.builtin "all") := by decide +kernel
theorem boot_len' : bootBuiltins "len" = some (.builtin "len") := by decide +kernel
theorem boot_max' : bootBuiltins "max" = some (.builtin "max") := by decide +kernel
theorem boot_str' : bootBuiltins "str" = some (.type "str") := by decide +kernel
theorem boot_int' : bootBuiltins "int" = some (.type "int") := by decide +kernel
theorem boot_bool' : bootBuiltins "bool" = some (.type "bool") := by decide +kernel
theorem boot_list' : bootBuiltins "list" = some (.type "list") := by decide +kernel
theorem boot_tuple' : bootBuiltins "tuple" = some (.type "tuple") := by decide +kernel
theorem boot_dict' : bootBuiltins "dict" = some (.type "dict") := by decide +kernel
theorem boot_set' : bootBuiltins "set" = some (.type "set") := by decide +kernel

inductive Pl (K : PySem.W.Frag) (H : Hp) : V → Prop where
  | non : Pl K H .non
  | bl (b : Bool) : Pl K H (.bl b)
  | int (i : Int) : Pl K H (.int i)
  | str (x : Str) : Pl K H (.str x)
  | lst {a : Addr} {xs : List V} (e : H a = some (.lst xs)) : Pl K H (.ref a)
  | frz {a : Addr} {o : Obj} {xs : List V} (e : H a = some (.frz o (.lst xs))) : Pl K H (.ref a)
  | tup {a : Addr} {xs : List V} (e : H a = some (.tup xs)) : Pl K H (.ref a)
  | dK {a : Addr} {kvs : List (Key × V)} (e : H a = some (.dK kvs)) : Pl K H (.ref a)
theorem kit_self (K : PySem.W.Frag) (n : String) : PySem.W.kitOne K (.type n) (.type n) = some true := by
  unfold PySem.W.kitOne
  rw [if_pos (by simp)]
end L2
namespace L2
open PySem PySem.Spec PyProof.Rows
def GlobAt (mg : Str → Option Value) (x : Str) (v : V) : Prop := ∃ u, mg x = some u ∧ RelV v u
theorem pe_g {X : Cx} {x : Str} {v : V} {pos : Pos} (h : GlobAt X.mg x v) (hg : Gl X x := by rfl) (hd : (x == ("__debug__" : Str)) = false := by decide) : PE X (.Name x pos) (tC v) := by
  obtain ⟨u, hm, r⟩ := h
  exact pe_glob hg hm r hd
theorem glob_mk {K : PySem.W.Frag} {mg : Str → Option Value} {h : Heap} {x : Str} {v : V} {u : Value} (X : K.In h) (G : h.Ns mainGlobals mg) (a : PySem.W.nsIn K mainGlobals x = some (some u)) (r : RelV v u) : GlobAt mg x v := ⟨u, PySem.W.mg_of X G a, r⟩
end L2
namespace L2
open PySem PySem.Spec PyProof.Rows
def droppable : HO → Bool
  | .lst _ => true
  | .dK _ => true
  | .set _ _ => true
  | .ext _ => true
  | .rng _ _ => true
  | _ => false
def Drop (H' H'' : Hp) : Prop := ∀ b, H'' b = H' b ∨ (H'' b = none ∧ ∃ o, H' b = some o ∧ droppable o = true)
theorem Drop.refl (H : Hp) : Drop H H := fun _ => .inl rfl
theorem Drop.trans {H1 H2 H3 : Hp} (a : Drop H1 H2) (b : Drop H2 H3) : Drop H1 H3 := fun c => by
  rcases b c with e | ⟨e, o, q, d⟩
  · rcases a c with e' | ⟨e', o, q, d⟩
    · exact .inl (e.trans e')
    · exact .inr ⟨e.trans e', o, q, d⟩
  · rcases a c with e' | ⟨e', _⟩
    · exact .inr ⟨e, o, e' ▸ q, d⟩
    · rw [e'] at q; cases q
theorem Drop.new {H : Hp} {p : Addr} {o : HO} (h : H p = none) (d : droppable o = true) : Drop (upd H p o) H := fun b => by
  by_cases hb : b = p
  · subst hb
    exact .inr ⟨h, o, upd_same, d⟩
  · exact .inl (upd_ne hb).symm
theorem Drop.lst {H : Hp} {p : Addr} {xs : List V} (h : H p = none) : Drop (upd H p (.lst xs)) H := Drop.new h rfl
def dropQ (Q : VK) : VK := fun v H' => ∃ H'', Drop H' H'' ∧ Q v H''
theorem dropQ.of {Q : VK} {v : V} {H H' : Hp} (d : Drop H' H) (q : Q v H) : dropQ Q v H' := ⟨H, d, q⟩
theorem HOk.drop {P : Program} {w : World} {H' H'' : Hp} {h : Heap} (d : Drop H' H'') (ok : HOk P w H' h) : HOk P w H'' h := fun b o e => by
  have e' : H' b = some o := by
    rcases d b with z | ⟨z, _⟩
    · exact z.symm.trans e
    · rw [z] at e; cases e
  refine (ok b o e').stay (fun _ _ _ q => q) (fun c q => ?_) fun c xs q => ?_
  · rcases d c with z | ⟨_, o', z', dr⟩
    · exact z.trans q
    · rw [q] at z'; cases z'; cases dr
  · rcases d c with z | ⟨_, o', z', dr⟩
    · exact z.trans q
    · rw [q] at z'; cases z'; cases dr
theorem Un.drop {fs ex : List Addr} {H H' H'' : Hp} {h h' : Heap} (d : Drop H' H'') (u : Un fs ex H H' h h') : Un fs ex H H'' h h' where
  keep := u.keep
  slot := u.slot
  free := fun b o e n hx => by
    rcases d b with z | ⟨z, _⟩
    · exact z.trans (u.free b o e n hx)
    · exact z
  there := u.there
  tups := fun b xs e => by
    have q := u.tups b xs e
    rcases d b with z | ⟨_, o', z', dr⟩
    · exact z.trans q
    · rw [q] at z'; cases z'; cases dr
  frzs := fun b o v e => by
    have q := u.frzs b o v e
    rcases d b with z | ⟨_, o', z', dr⟩
    · exact z.trans q
    · rw [q] at z'; cases z'; cases dr
  tbls := fun b ps e => by
    obtain ⟨m, q⟩ := u.tbls b ps e
    rcases d b with z | ⟨_, o', z', dr⟩
    · exact ⟨m, z.trans q⟩
    · rw [q] at z'; cases z'; cases dr
theorem FnOk.drop {P : Program} {w : World} {K : PySem.W.Frag} {mg : Str → Option Value} {base : Heap} {k : Nat} {f : Addr} {fd : FuncData} {ps : List Str} {sp : Sp} (len : ∀ vs H Q E, sp vs H Q E → vs.length = ps.length)
    (F : FnOk P w K mg base CX0 k f fd ps (fun vs H Qd E => ∃ Q, sp vs H Q E ∧ Qd = dropQ Q)) : FnOk P w K mg base CX0 k f fd ps sp := by
  refine ⟨len, fun A outer s H args us vs Q E hr he hb hv hs => codeAny_mono (F.run A outer s H args us vs (dropQ Q) E hr he hb hv ⟨Q, hs, rfl⟩) fun r s' h => ?_⟩
  cases r with
  | error e => exact h
  | ok fl =>
    cases fl with
    | ret u =>
      obtain ⟨v, H', os, bare, un, hok, rv, H'', d, q⟩ := h
      exact ⟨v, H'', os, bare, un.drop d, hok.drop d, rv, q⟩
    | next => exact h
    | brk => exact h
    | cont => exact h
theorem DefAt.fcD {P : Program} {w : World} {K : PySem.W.Frag} {mg : Str → Option Value} {base : Heap} {x : Str} {st : Stmt} {N ps : List Str} {k : Nat} {sp : Sp} (D : DefAt K mg x st ps) (S : FnScope N ps (defScope st)) (len : ∀ vs H Q E, sp vs H Q E → vs.length = ps.length)
    (hbody : ∀ (f : Addr) (cdv : Value) (A : Around) (outer : List Env) (s : Shared) (H : Hp) (vs : List V) (Q : VK) (E : XK), Room k (A.deeper (envOfC x (defScope st) s.heap.objs.size f cdv)) → sp vs H Q E →
      ∃ t, PSs (cxOf CX0 P w K mg base N x (defScope st) f cdv A outer s H E).nox (defBody st) t ∧ t { nx := fun _ H' => dropQ Q .non H', rt := dropQ Q } (start N vs) H) : Fc P w K mg base (k + 1) x ps sp := by
  obtain ⟨f, fd, F, b, m⟩ := D.ex
  refine ⟨f, fd, FnOk.drop len (F.ok S (fun vs H Q E ⟨Q', h, _⟩ => len vs H Q' E h) fun cdv A outer s H vs Q E hr ⟨Q', h, e⟩ => ?_), b, m, F.kp⟩
  subst e
  exact hbody f cdv A outer s H vs Q' E hr h
end L2
namespace L2
open PySem PySem.Spec PyProof.Rows
theorem Same.upd {H : Hp} {p : Addr} {o : HO} (h : H p = none) : Same H (upd H p o) := fun b u e => by
  rw [upd_ne (ne_of_none e h)]
  exact e
def spLaw (K : PySem.W.Frag) : Sp := sp1 fun x H Q => ∃ (a : Addr) (ns : List Int), x = .ref a ∧ SqL K H a (ns.map V.int) ∧ ns.length ≤ 63 ∧ ∀ H', Q (.bl true) H'
theorem walk_law {l : PySem.W.OpenLaw} {q : Program} {loose : List Str} {XP : (Str → Option Value) → Heap → Prop} {YP : World → Heap → Prop} {d : DefRec} {K : Params → PySem.W.Frag} (k : Nat) (hr : Room k callerA) (hn : l.most = some 63) (hdf : d.params.defaults = [])
    (hY : ∀ (w : World) (h : Heap), YP w h → (K w.params).In h)
    (F : ∀ (w : World) (mg : Str → Option Value) (fa : Addr) (h : Heap), (K w.params).In h → h.Ns mainGlobals mg → mg d.name = some (.ref fa) →
      ∃ fd : FuncData, (∀ (s : Shared) (u : Value), BindsTo s fd ⟨[u], []⟩ [("_law_script", u)]) ∧ ∀ base : Heap, (K w.params).In base → base.Ns mainGlobals mg → FnOk l.prog w (K w.params) mg base CX0 k fa fd ["_law_script"] (spLaw (K w.params))) :
    PySem.W.WalkO q loose XP YP l.row.toRowW d [] (fun f vs => PySem.call f vs) :=
  L2.walk_of (n := 63) (k := k) (x := "_law_script") (CX := fun _ => CX0) (sp := fun w => spLaw (K w.params)) hn (by decide) hdf hr hY F (fun _ _ a ns hl _ hS => ⟨_, rfl, a, ns, rfl, hS, hl, fun _ => rfl⟩) fun _ _ _ _ _ z => z
end L2
namespace L2
open PySem PySem.Spec PyProof.Rows
theorem pe_ty {X : Cx} {x : Str} {n : String} {pos : Pos} (hm : X.mg x = none) (hv : bootBuiltins x = some (.type n)) (hg : Gl X x := by rfl) (hn : x ≠ "__name__" := by decide) (hd : (x == ("__debug__" : Str)) = false := by decide) : PE X (.Name x pos) (tC (.ty n)) :=
  pe_bltn hg hm hv rfl hn hd
end L2
namespace L2
theorem small_le {n : Nat} (h : Nat.ble n 1000 = true) : n ≤ PySem.sizeLine := Nat.le_trans (Nat.le_of_ble_eq_true h) (by decide)
end L2

namespace L2
open PySem PySem.Spec PyProof.Rows
def Ite (K : PySem.W.Frag) (a : Addr) : It where
  go := fun i H => ∃ xs x, SqL K H a xs ∧ xs[i]? = some x
  yld := fun i H v H' => ∃ p x, H p = none ∧ v = .ref p ∧ H' = upd H p (.tup [.int i, x]) ∧ ∀ ys, SqL K H a ys → ys[i]? = some x
  stop := fun i H => ∃ xs, SqL K H a xs ∧ xs.length ≤ i
end L2

namespace L2
open PySem PySem.Spec PyProof.Rows
inductive Dv where
  | non | bl (b : Bool) | int (i : Int) | str (x : Str) | lst (ds : List Dv) | tup (ds : List Dv) | dct (ks : List Key) (ds : List Dv)
mutual
def Is (H : Hp) : Dv → V → Prop
  | .non, v => v = .non
  | .bl b, v => v = .bl b
  | .int i, v => v = .int i
  | .str x, v => v = .str x
  | .lst ds, v => ∃ a vs, v = .ref a ∧ H a = some (.lst vs) ∧ IsL H ds vs
  | .tup ds, v => ∃ a vs, v = .ref a ∧ H a = some (.tup vs) ∧ IsL H ds vs
  | .dct ks ds, v => ∃ a vs, v = .ref a ∧ H a = some (.dK (ks.zip vs)) ∧ vs.length = ks.length ∧ IsL H ds vs
def IsL (H : Hp) : List Dv → List V → Prop
  | [], vs => vs = []
  | d :: ds, vs => ∃ v r, vs = v :: r ∧ Is H d v ∧ IsL H ds r
end
def isData : HO → Bool
  | .lst _ => true
  | .tup _ => true
  | .dK _ => true
  | _ => false
def SameD (H H' : Hp) : Prop := ∀ b o, H b = some o → isData o = true → H' b = some o
mutual
theorem Is.sameD {H H' : Hp} (S : SameD H H') : ∀ (d : Dv) (v : V), Is H d v → Is H' d v
  | .non, _, h => h
  | .bl _, _, h => h
  | .int _, _, h => h
  | .str _, _, h => h
  | .lst ds, _, ⟨a, vs, e, o, h⟩ => ⟨a, vs, e, S _ _ o rfl, IsL.sameD S ds vs h⟩
  | .tup ds, _, ⟨a, vs, e, o, h⟩ => ⟨a, vs, e, S _ _ o rfl, IsL.sameD S ds vs h⟩
  | .dct ks ds, _, ⟨a, vs, e, o, l, h⟩ => ⟨a, vs, e, S _ _ o rfl, l, IsL.sameD S ds vs h⟩
theorem IsL.sameD {H H' : Hp} (S : SameD H H') : ∀ (ds : List Dv) (vs : List V), IsL H ds vs → IsL H' ds vs
  | [], _, h => h
  | d :: ds, _, ⟨v, r, e, h, t⟩ => ⟨v, r, e, Is.sameD S d v h, IsL.sameD S ds r t⟩
end
theorem Is.same {H H' : Hp} (S : Same H H') (d : Dv) (v : V) (h : Is H d v) : Is H' d v := Is.sameD (fun b o e _ => S b o e) d v h
theorem IsL.same {H H' : Hp} (S : Same H H') (ds : List Dv) (vs : List V) (h : IsL H ds vs) : IsL H' ds vs := IsL.sameD (fun b o e _ => S b o e) ds vs h
mutual
def hard : Dv → Bool
  | .lst _ => false
  | .dct _ _ => false
  | .tup ds => hardL ds
  | _ => true
def hardL : List Dv → Bool
  | [] => true
  | d :: ds => hard d && hardL ds
end
def KeepT (H H' : Hp) : Prop := ∀ a xs, H a = some (.tup xs) → H' a = some (.tup xs)
mutual
theorem Is.keep {H H' : Hp} (S : KeepT H H') : ∀ (d : Dv) (v : V), hard d = true → Is H d v → Is H' d v
  | .non, _, _, h => h
  | .bl _, _, _, h => h
  | .int _, _, _, h => h
  | .str _, _, _, h => h
  | .lst ds, _, f, _ => by cases f
  | .tup ds, _, f, ⟨a, vs, e, o, h⟩ => ⟨a, vs, e, S _ _ o, IsL.keep S ds vs f h⟩
  | .dct ks ds, _, f, _ => by cases f
theorem IsL.keep {H H' : Hp} (S : KeepT H H') : ∀ (ds : List Dv) (vs : List V), hardL ds = true → IsL H ds vs → IsL H' ds vs
  | [], _, _, h => h
  | d :: ds, _, f, ⟨v, r, e, h, t⟩ => ⟨v, r, e, Is.keep S d v (Bool.and_eq_true_iff.mp f).1 h, IsL.keep S ds r (Bool.and_eq_true_iff.mp f).2 t⟩
end
mutual
def deq : Dv → Dv → Bool
  | .non, .non => true
  | .bl a, .bl b => a == b
  | .bl a, .int b => (if a then 1 else 0) == b
  | .int a, .bl b => a == (if b then 1 else 0)
  | .int a, .int b => a == b
  | .str a, .str b => a == b
  | .lst a, .lst b => deqL a b
  | .tup a, .tup b => deqL a b
  | _, _ => false
def deqL : List Dv → List Dv → Bool
  | [], [] => true
  | a :: r, b :: q => deq a b && deqL r q
  | _, _ => false
end
mutual
def flatTo : Nat → Dv → Bool
  | _, .dct _ _ => false
  | 0, .lst _ => false
  | 0, .tup _ => false
  | n + 1, .lst ds => flatToL n ds
  | n + 1, .tup ds => flatToL n ds
  | _, _ => true
def flatToL : Nat → List Dv → Bool
  | _, [] => true
  | n, d :: ds => flatTo n d && flatToL n ds
end
mutual
theorem deq_refl : ∀ (n : Nat) (d : Dv), flatTo n d = true → deq d d = true
  | _, .non, _ => rfl
  | _, .bl b, _ => beq_self_eq_true b
  | _, .int i, _ => beq_self_eq_true i
  | _, .str x, _ => beq_self_eq_true x
  | 0, .lst ds, f => by simp [flatTo] at f
  | 0, .tup ds, f => by simp [flatTo] at f
  | n + 1, .lst ds, f => deqL_refl n ds (by simpa [flatTo] using f)
  | n + 1, .tup ds, f => deqL_refl n ds (by simpa [flatTo] using f)
  | n, .dct ks ds, f => by simp [flatTo] at f
theorem deqL_refl : ∀ (n : Nat) (ds : List Dv), flatToL n ds = true → deqL ds ds = true
  | _, [], _ => rfl
  | n, d :: ds, f => by
    rw [flatToL, Bool.and_eq_true] at f
    show (deq d d && deqL ds ds) = true
    rw [deq_refl n d f.1, deqL_refl n ds f.2]; rfl
end
theorem IsL.length {H : Hp} : ∀ {ds : List Dv} {vs : List V}, IsL H ds vs → vs.length = ds.length
  | [], _, h => by rw [show _ = [] from h]; rfl
  | d :: ds, _, ⟨v, r, e, _, t⟩ => by rw [e, List.length_cons, List.length_cons, IsL.length t]
mutual
theorem Is.inj {H : Hp} : ∀ (d e : Dv) (v : V), Is H d v → Is H e v → (∃ n, flatTo n d = true) → (∃ n, flatTo n e = true) → d = e
  | .non, e, v, h, h', _, _ => by
    cases e <;> simp_all [Is]
  | .bl b, e, v, h, h', _, _ => by
    cases e <;> simp_all [Is]
  | .int b, e, v, h, h', _, _ => by
    cases e <;> simp_all [Is]
  | .str b, e, v, h, h', _, _ => by
    cases e <;> simp_all [Is]
  | .lst ds, e, v, ⟨a, vs, q, o, h⟩, h', ⟨n, f⟩, ⟨m, g⟩ => by
    subst q
    cases e with
    | lst es =>
      obtain ⟨a', vs', q', o', h'⟩ := h'
      cases q'
      rw [o] at o'
      cases o'
      cases n with
      | zero => simp [flatTo] at f
      | succ n =>
        cases m with
        | zero => simp [flatTo] at g
        | succ m => rw [IsL.inj ds es vs h h' ⟨n, by simpa [flatTo] using f⟩ ⟨m, by simpa [flatTo] using g⟩]
    | tup es =>
      obtain ⟨a', vs', q', o', h'⟩ := h'
      cases q'
      rw [o] at o'
      cases o'
    | dct ks es => simp [flatTo] at g
    | _ => simp_all [Is]
  | .tup ds, e, v, ⟨a, vs, q, o, h⟩, h', ⟨n, f⟩, ⟨m, g⟩ => by
    subst q
    cases e with
    | tup es =>
      obtain ⟨a', vs', q', o', h'⟩ := h'
      cases q'
      rw [o] at o'
      cases o'
      cases n with
      | zero => simp [flatTo] at f
      | succ n =>
        cases m with
        | zero => simp [flatTo] at g
        | succ m => rw [IsL.inj ds es vs h h' ⟨n, by simpa [flatTo] using f⟩ ⟨m, by simpa [flatTo] using g⟩]
    | lst es =>
      obtain ⟨a', vs', q', o', h'⟩ := h'
      cases q'
      rw [o] at o'
      cases o'
    | dct ks es => simp [flatTo] at g
    | _ => simp_all [Is]
  | .dct ks ds, e, v, _, h', ⟨n, f⟩, _ => by simp [flatTo] at f
theorem IsL.inj {H : Hp} : ∀ (ds es : List Dv) (vs : List V), IsL H ds vs → IsL H es vs → (∃ n, flatToL n ds = true) → (∃ n, flatToL n es = true) → ds = es
  | [], es, vs, h, h', _, _ => by
    rw [show vs = [] from h] at h'
    cases es with
    | nil => rfl
    | cons e es => obtain ⟨v, r, q, _⟩ := h'; cases q
  | d :: ds, es, vs, ⟨v, r, q, h, t⟩, h', ⟨n, f⟩, ⟨m, g⟩ => by
    subst q
    cases es with
    | nil => cases (show v :: r = [] from h')
    | cons e es =>
      obtain ⟨v', r', q', h', t'⟩ := h'
      cases q'
      rw [flatToL, Bool.and_eq_true] at f g
      rw [Is.inj d e v h h' ⟨n, f.1⟩ ⟨m, g.1⟩, IsL.inj ds es r t t' ⟨n, f.2⟩ ⟨m, g.2⟩]
end
theorem IsL.get {H : Hp} : ∀ {ds : List Dv} {vs : List V} {i : Nat} {d : Dv}, IsL H ds vs → ds[i]? = some d → ∃ v, vs[i]? = some v ∧ Is H d v
  | [], _, _, _, _, e => by simp at e
  | d :: ds, _, 0, d', ⟨v, r, e, h, t⟩, q => by
    simp at q
    subst q e
    exact ⟨v, rfl, h⟩
  | d :: ds, _, i + 1, d', ⟨v, r, e, h, t⟩, q => by
    subst e
    obtain ⟨u, h1, h2⟩ := IsL.get (i := i) t (by simpa using q)
    exact ⟨u, by simpa using h1, h2⟩
theorem deqL_range : ∀ (ds es : List Dv), ds.length = es.length → (List.range ds.length).all (fun j => deq (ds.getD j .non) (es.getD j .non)) = deqL ds es
  | [], [], _ => rfl
  | d :: ds, e :: es, h => by
    have ih := deqL_range ds es (by simpa using h)
    rw [List.length_cons, List.range_succ_eq_map, List.all_cons, List.all_map]
    show (deq d e && (List.range ds.length).all (fun j => deq (ds.getD j .non) (es.getD j .non))) = (deq d e && deqL ds es)
    rw [ih]
  | [], _ :: _, h => by simp at h
  | _ :: _, [], h => by simp at h
theorem deqL_len : ∀ (ds es : List Dv), ds.length ≠ es.length → deqL ds es = false
  | [], [], h => absurd rfl h
  | d :: ds, e :: es, h => by
    show (deq d e && deqL ds es) = false
    rw [deqL_len ds es (fun q => h (by simp [q]))]
    simp
  | [], _ :: _, _ => rfl
  | _ :: _, [], _ => rfl
theorem flatToL_get : ∀ {n : Nat} {ds : List Dv} {i : Nat} {d : Dv}, flatToL n ds = true → ds[i]? = some d → flatTo n d = true
  | n, [], _, _, _, e => by simp at e
  | n, d :: ds, 0, d', f, e => by
    simp at e
    subst e
    rw [flatToL, Bool.and_eq_true] at f
    exact f.1
  | n, d :: ds, i + 1, d', f, e => by
    rw [flatToL, Bool.and_eq_true] at f
    exact flatToL_get (i := i) f.2 (by simpa using e)
theorem IsL.snoc {H : Hp} {d : Dv} {v : V} (h : Is H d v) : ∀ {ds : List Dv} {vs : List V}, IsL H ds vs → IsL H (ds ++ [d]) (vs ++ [v])
  | [], _, e => by
    rw [show _ = [] from e]
    exact ⟨v, [], rfl, h, rfl⟩
  | d' :: ds, _, ⟨v', r, e, h', t⟩ => by
    subst e
    exact ⟨v', r ++ [v], rfl, h', IsL.snoc h t⟩
theorem IsL.take {H : Hp} : ∀ (n : Nat) {ds : List Dv} {vs : List V}, IsL H ds vs → IsL H (ds.take n) (vs.take n)
  | 0, _, _, _ => rfl
  | n + 1, [], _, e => by rw [show _ = [] from e]; exact rfl
  | n + 1, d :: ds, _, ⟨v, r, e, h, t⟩ => by
    subst e
    exact ⟨v, r.take n, rfl, h, IsL.take n t⟩
theorem IsL.drop {H : Hp} : ∀ (n : Nat) {ds : List Dv} {vs : List V}, IsL H ds vs → IsL H (ds.drop n) (vs.drop n)
  | 0, _, _, h => h
  | n + 1, [], _, e => by rw [show _ = [] from e]; exact rfl
  | n + 1, d :: ds, _, ⟨v, r, e, h, t⟩ => by
    subst e
    exact IsL.drop n t
theorem IsL.app {H : Hp} {es : List Dv} {us : List V} (h : IsL H es us) : ∀ {ds : List Dv} {vs : List V}, IsL H ds vs → IsL H (ds ++ es) (vs ++ us)
  | [], _, e => by rw [show _ = [] from e]; exact h
  | d :: ds, _, ⟨v, r, e, h', t⟩ => by
    subst e
    exact ⟨v, r ++ us, rfl, h', IsL.app h t⟩
theorem hardL_of : ∀ {ds : List Dv}, (∀ d ∈ ds, hard d = true) → hardL ds = true
  | [], _ => rfl
  | d :: ds, h => by
    rw [hardL, h d List.mem_cons_self, hardL_of fun e m => h e (List.mem_cons_of_mem _ m)]
    rfl
theorem KeepT.lst {H : Hp} {l : Addr} {xs : List V} {o : HO} (h : H l = some (.lst xs)) : KeepT H (upd H l o) := fun a ys e => by
  have : a ≠ l := ne_of e h (by intro z; cases z)
  rw [upd_ne this]
  exact e
theorem Same.over {H H' : Hp} {l : Addr} {o : HO} (S : Same H H') (hl : H l = none) : Same H (L2.upd H' l o) := fun b u e => by
  rw [upd_ne (ne_of_none e hl)]
  exact S b u e
theorem flatToL_of {n : Nat} : ∀ {ds : List Dv}, (∀ d ∈ ds, flatTo n d = true) → flatToL n ds = true
  | [], _ => by rw [flatToL]
  | d :: ds, h => by
    rw [flatToL, h d List.mem_cons_self, flatToL_of fun e m => h e (List.mem_cons_of_mem _ m)]
    rfl
inductive View (s : Shared) (H : Hp) : Dv → Value → Prop where
  | non : View s H .non .none
  | bl (b : Bool) : View s H (.bl b) (.bool b)
  | int (i : Int) (t : Tok) : View s H (.int i) (.int i t)
  | str (x : Str) (t : Tok) : View s H (.str x) (.str x t)
  | lst {ds : List Dv} {l : Addr} {its : List Value} {vs : List V} (hl : s.heap.IsList l its.toArray) (r : Vals vs its) (h : IsL H ds vs) : View s H (.lst ds) (.ref l)
  | tup {ds : List Dv} {l : Addr} {its : List Value} {vs : List V} (hl : s.heap.IsTuple l its.toArray) (r : Vals vs its) (h : IsL H ds vs) : View s H (.tup ds) (.ref l)
section
variable {X : Cx} {pins : List (Addr × Obj)} {σ : St} {H : Hp} {s : Shared}
theorem Is.view (I : Inv X pins σ H s) {n : Nat} {d : Dv} {v : V} {u : Value} (f : flatTo n d = true) (h : Is H d v) (r : RelV v u) : View s H d u := by
  cases d with
  | non => cases (show v = .non from h); cases r; exact .non
  | bl b => cases (show v = .bl b from h); cases r; exact .bl b
  | int b => cases (show v = .int b from h); obtain ⟨t, rfl⟩ := r; exact .int b t
  | str b => cases (show v = .str b from h); obtain ⟨t, rfl⟩ := r; exact .str b t
  | lst ds =>
    obtain ⟨a, vs, rfl, o, h⟩ := h
    cases r
    obtain ⟨its, rv, pl, hz⟩ := I.list (SqL.of o)
    exact .lst pl.isList rv h
  | tup ds =>
    obtain ⟨a, vs, rfl, o, h⟩ := h
    cases r
    obtain ⟨its, rv, pl, hz⟩ := I.tuple (SqT.of o)
    exact .tup pl rv h
  | dct ks ds => simp [flatTo] at f
open PySem.SeqAt in
theorem items_eqAt {n : Nat} {A : Around} (hu : A.units + n < cLine)
    (ih : ∀ (d e : Dv) (v v' : V) (u u' : Value) (A : Around), A.units + n < cLine → flatTo n d = true → flatTo n e = true → Is H d v → Is H e v' → RelV v u → RelV v' u' → EqAt A s u u' (deq d e))
    {ds es : List Dv} {vs vs' : List V} {its its' : List Value} (f : flatToL n ds = true) (g : flatToL n es = true) (h : IsL H ds vs) (h' : IsL H es vs') (r : Vals vs its) (r' : Vals vs' its')
    (j : Nat) (h1 : j < its.toArray.size) (h2 : j < its'.toArray.size) : EqAt A s its.toArray[j] its'.toArray[j] (deq (ds.getD j .non) (es.getD j .non)) := by
  have l1 := r.length
  have l2 := r'.length
  have l3 := h.length
  have l4 := h'.length
  rw [List.size_toArray] at h1 h2
  have e1 : ds[j]? = some (ds.getD j .non) := by
    rw [List.getD_eq_getElem?_getD, List.getElem?_eq_getElem (by omega)]; rfl
  have e2 : es[j]? = some (es.getD j .non) := by
    rw [List.getD_eq_getElem?_getD, List.getElem?_eq_getElem (by omega)]; rfl
  obtain ⟨v, q1, i1⟩ := h.get e1
  obtain ⟨v', q2, i2⟩ := h'.get e2
  obtain ⟨u, p1, k1⟩ := r.get q1
  obtain ⟨u', p2, k2⟩ := r'.get q2
  have z1 : its.toArray[j] = u := by
    have := List.getElem?_eq_some_iff.mp p1
    obtain ⟨_, e⟩ := this
    simpa using e
  have z2 : its'.toArray[j] = u' := by
    have := List.getElem?_eq_some_iff.mp p2
    obtain ⟨_, e⟩ := this
    simpa using e
  rw [z1, z2]
  exact ih _ _ v v' u u' A hu (flatToL_get f e1) (flatToL_get g e2) i1 i2 k1 k2
open PySem.SeqAt in
theorem rc_of (I : Inv X pins σ H s) {n : Nat}
    (ih : ∀ (d e : Dv) (v v' : V) (u u' : Value) (A : Around), A.units + n < cLine → flatTo n d = true → flatTo n e = true → Is H d v → Is H e v' → RelV v u → RelV v' u' → EqAt A s u u' (deq d e))
    (d e : Dv) (v v' : V) (u u' : Value) (A : Around) (hu : A.units + (n + 1) < cLine) (f : flatTo (n + 1) d = true) (g : flatTo (n + 1) e = true) (h : Is H d v) (h' : Is H e v') (r : RelV v u) (r' : RelV v' u') :
    RcAt A s u u' (deq d e) ∧ RcNeAt A s u u' (!deq d e) := by
  have hu0 : A.units < cLine := by omega
  have hu1 : A.in1.units + n < cLine := by show A.units + 1 + n < cLine; omega
  have w := Is.view I f h r
  have w' := Is.view I g h' r'
  cases w with
  | non =>
    cases w' with
    | non => exact ⟨RcAt.none_none, RcNeAt.none_none⟩
    | bl b => exact ⟨RcAt.none_bool _, RcNeAt.none_bool _⟩
    | int b t => exact ⟨RcAt.none_int _ _, RcNeAt.none_int _ _⟩
    | str b t => exact ⟨RcAt.none_str _ _, RcNeAt.none_str _ _⟩
    | lst hl _ _ => exact ⟨RcAt.none_list hl hu0, RcNeAt.none_list hl hu0⟩
    | tup hl _ _ => exact ⟨RcAt.none_tuple hl hu0, RcNeAt.none_tuple hl hu0⟩
  | bl a =>
    cases w' with
    | non => exact ⟨RcAt.bool_none _, RcNeAt.bool_none _⟩
    | bl b => exact ⟨RcAt.bool_bool _ _, RcNeAt.bool_bool _ _⟩
    | int b t => exact ⟨RcAt.bool_int _ _ _, RcNeAt.bool_int _ _ _⟩
    | str b t => exact ⟨RcAt.bool_str _ _ _, RcNeAt.bool_str _ _ _⟩
    | lst hl _ _ => exact ⟨RcAt.bool_list _ hl hu0, RcNeAt.bool_list _ hl hu0⟩
    | tup hl _ _ => exact ⟨RcAt.bool_tuple _ hl hu0, RcNeAt.bool_tuple _ hl hu0⟩
  | int a t =>
    cases w' with
    | non => exact ⟨RcAt.int_none _ _, RcNeAt.int_none _ _⟩
    | bl b => exact ⟨RcAt.int_bool _ _ _, RcNeAt.int_bool _ _ _⟩
    | int b t => exact ⟨RcAt.int_int _ _ _ _, RcNeAt.int_int _ _ _ _⟩
    | str b t => exact ⟨RcAt.int_str _ _ _ _, RcNeAt.int_str _ _ _ _⟩
    | lst hl _ _ => exact ⟨RcAt.int_list _ _ hl hu0, RcNeAt.int_list _ _ hl hu0⟩
    | tup hl _ _ => exact ⟨RcAt.int_tuple _ _ hl hu0, RcNeAt.int_tuple _ _ hl hu0⟩
  | str a t =>
    cases w' with
    | non => exact ⟨RcAt.str_none _ _, RcNeAt.str_none _ _⟩
    | bl b => exact ⟨RcAt.str_bool _ _ _, RcNeAt.str_bool _ _ _⟩
    | int b t => exact ⟨RcAt.str_int _ _ _ _, RcNeAt.str_int _ _ _ _⟩
    | str b t => exact ⟨RcAt.str_str _ _ _ _, RcNeAt.str_str _ _ _ _⟩
    | lst hl _ _ => exact ⟨RcAt.str_list _ _ hl hu0, RcNeAt.str_list _ _ hl hu0⟩
    | tup hl _ _ => exact ⟨RcAt.str_tuple _ _ hl hu0, RcNeAt.str_tuple _ _ hl hu0⟩
  | @lst ds l its vs hl rv hi =>
    cases w' with
    | non => exact ⟨RcAt.list_none hl hu0, RcNeAt.list_none hl hu0⟩
    | bl b => exact ⟨RcAt.list_bool _ hl hu0, RcNeAt.list_bool _ hl hu0⟩
    | int b t => exact ⟨RcAt.list_int _ _ hl hu0, RcNeAt.list_int _ _ hl hu0⟩
    | str b t => exact ⟨RcAt.list_str _ _ hl hu0, RcNeAt.list_str _ _ hl hu0⟩
    | @lst es l' its' vs' hl' rv' hi' =>
      have f' : flatToL n ds = true := by simpa [flatTo] using f
      have g' : flatToL n es = true := by simpa [flatTo] using g
      have l1 := rv.length
      have l2 := rv'.length
      have l3 := hi.length
      have l4 := hi'.length
      by_cases hq : ds.length = es.length
      · have hsz : its.toArray.size = its'.toArray.size := by rw [List.size_toArray, List.size_toArray]; omega
        have key : (List.range its.toArray.size).all (fun j => deq (ds.getD j .non) (es.getD j .non)) = deq (.lst ds) (.lst es) := by
          rw [List.size_toArray, show its.length = ds.length by omega]
          exact deqL_range ds es hq
        rw [← key]
        exact ⟨RcAt.lists hl hl' hsz hu0 (items_eqAt hu1 ih f' g' hi hi' rv rv'), RcNeAt.lists hl hl' hsz hu0 (items_eqAt hu1 ih f' g' hi hi' rv rv')⟩
      · have key : deq (.lst ds) (.lst es) = false := deqL_len ds es hq
        have hsz : (its.toArray.size != its'.toArray.size) = true := by
          rw [List.size_toArray, List.size_toArray, bne_iff_ne]; omega
        rw [key]
        exact ⟨RcAt.lists_lengths hl hl' hsz hu0, RcNeAt.lists_lengths hl hl' hsz hu0⟩
    | tup hl' _ _ => exact ⟨RcAt.list_tuple hl hl' hu0, RcNeAt.list_tuple hl hl' hu0⟩
  | @tup ds l its vs hl rv hi =>
    cases w' with
    | non => exact ⟨RcAt.tuple_none hl hu0, RcNeAt.tuple_none hl hu0⟩
    | bl b => exact ⟨RcAt.tuple_bool _ hl hu0, RcNeAt.tuple_bool _ hl hu0⟩
    | int b t => exact ⟨RcAt.tuple_int _ _ hl hu0, RcNeAt.tuple_int _ _ hl hu0⟩
    | str b t => exact ⟨RcAt.tuple_str _ _ hl hu0, RcNeAt.tuple_str _ _ hl hu0⟩
    | lst hl' _ _ => exact ⟨RcAt.tuple_list hl hl' hu0, RcNeAt.tuple_list hl hl' hu0⟩
    | @tup es l' its' vs' hl' rv' hi' =>
      have f' : flatToL n ds = true := by simpa [flatTo] using f
      have g' : flatToL n es = true := by simpa [flatTo] using g
      have l1 := rv.length
      have l2 := rv'.length
      have l3 := hi.length
      have l4 := hi'.length
      have key : ((List.range (min its.toArray.size its'.toArray.size)).all (fun j => deq (ds.getD j .non) (es.getD j .non)) && its.toArray.size == its'.toArray.size) = deq (.tup ds) (.tup es) := by
        rw [List.size_toArray, List.size_toArray, show its.length = ds.length by omega, show its'.length = es.length by omega]
        show _ = deqL ds es
        by_cases hq : ds.length = es.length
        · rw [← hq, Nat.min_self, deqL_range ds es hq]
          simp
        · rw [deqL_len ds es hq, beq_eq_false_iff_ne.mpr hq]
          simp
      rw [← key]
      exact ⟨RcAt.tuples hl hl' hu0 (items_eqAt hu1 ih f' g' hi hi' rv rv'), RcNeAt.tuples hl hl' hu0 (items_eqAt hu1 ih f' g' hi hi' rv rv')⟩
open PySem.SeqAt in
theorem Is.eqAt (I : Inv X pins σ H s) : ∀ (n : Nat) (d e : Dv) (v v' : V) (u u' : Value) (A : Around), A.units + n < cLine → flatTo n d = true → flatTo n e = true → Is H d v → Is H e v' → RelV v u → RelV v' u' → EqAt A s u u' (deq d e) := by
  intro n
  induction n with
  | zero =>
    intro d e v v' u u' A hu f g h h' r r'
    cases d with
    | lst _ => simp [flatTo] at f
    | tup _ => simp [flatTo] at f
    | dct _ _ => simp [flatTo] at f
    | non =>
      cases e with
      | lst _ => simp [flatTo] at g
      | tup _ => simp [flatTo] at g
      | dct _ _ => simp [flatTo] at g
      | _ => cases h; cases h'; exact eqAt_V r r' rfl rfl
    | bl b =>
      cases e with
      | lst _ => simp [flatTo] at g
      | tup _ => simp [flatTo] at g
      | dct _ _ => simp [flatTo] at g
      | _ => cases h; cases h'; exact eqAt_V r r' rfl rfl
    | int b =>
      cases e with
      | lst _ => simp [flatTo] at g
      | tup _ => simp [flatTo] at g
      | dct _ _ => simp [flatTo] at g
      | _ => cases h; cases h'; exact eqAt_V r r' rfl rfl
    | str b =>
      cases e with
      | lst _ => simp [flatTo] at g
      | tup _ => simp [flatTo] at g
      | dct _ _ => simp [flatTo] at g
      | _ => cases h; cases h'; exact eqAt_V r r' rfl rfl
  | succ n ih =>
    intro d e v v' u u' A hu f g h h' r r'
    have rc := (rc_of I ih d e v v' u u' A hu f g h h' r r').1
    have w := Is.view I f h r
    have w' := Is.view I g h' r'
    have fin : ∀ (l l' : Addr), u = .ref l → u' = .ref l' → EqAt A s u u' (deq d e) := by
      rintro l l' rfl rfl
      by_cases hq : l = l'
      · subst hq
        have e1 : v = .ref l := r.inj (show RelV (.ref l) (.ref l) from rfl)
        have e2 : v' = .ref l := r'.inj (show RelV (.ref l) (.ref l) from rfl)
        subst e1 e2
        have e3 := Is.inj d e _ h h' ⟨_, f⟩ ⟨_, g⟩
        subst e3
        rw [deq_refl _ d f]
        exact EqAt.same _
      · exact EqAt.of_refs hq rc
    cases w with
    | lst hl _ _ =>
      cases w' with
      | lst hl' _ _ => exact fin _ _ rfl rfl
      | tup hl' _ _ => exact fin _ _ rfl rfl
      | non => exact EqAt.list_none hl (by omega)
      | bl b => exact EqAt.list_bool _ hl (by omega)
      | int b t => exact EqAt.list_int _ _ hl (by omega)
      | str b t => exact EqAt.list_str _ _ hl (by omega)
    | tup hl _ _ =>
      cases w' with
      | lst hl' _ _ => exact fin _ _ rfl rfl
      | tup hl' _ _ => exact fin _ _ rfl rfl
      | non => exact EqAt.tuple_none hl (by omega)
      | bl b => exact EqAt.tuple_bool _ hl (by omega)
      | int b t => exact EqAt.tuple_int _ _ hl (by omega)
      | str b t => exact EqAt.tuple_str _ _ hl (by omega)
    | non =>
      cases w' with
      | lst hl' _ _ => exact EqAt.none_list hl' (by omega)
      | tup hl' _ _ => exact EqAt.none_tuple hl' (by omega)
      | _ => cases h; cases h'; exact eqAt_V r r' rfl rfl
    | bl b =>
      cases w' with
      | lst hl' _ _ => exact EqAt.bool_list _ hl' (by omega)
      | tup hl' _ _ => exact EqAt.bool_tuple _ hl' (by omega)
      | _ => cases h; cases h'; exact eqAt_V r r' rfl rfl
    | int b t =>
      cases w' with
      | lst hl' _ _ => exact EqAt.int_list _ _ hl' (by omega)
      | tup hl' _ _ => exact EqAt.int_tuple _ _ hl' (by omega)
      | _ => cases h; cases h'; exact eqAt_V r r' rfl rfl
    | str b t =>
      cases w' with
      | lst hl' _ _ => exact EqAt.str_list _ _ hl' (by omega)
      | tup hl' _ _ => exact EqAt.str_tuple _ _ hl' (by omega)
      | _ => cases h; cases h'; exact eqAt_V r r' rfl rfl
end
def rEqD (neg : Bool) : R2 := fun x y H Q => ∃ d e, Is H d x ∧ Is H e y ∧ flatTo 30 d = true ∧ flatTo 30 e = true ∧ Q (.bl (if neg then !deq d e else deq d e)) H
theorem op_eqD {X : Cx} (hu : X.A.units + 64 < cLine) : OpR X (compareOp .Eq) (rEqD false) := by
  intro pins s σ H x y v u Q I rx ry h
  obtain ⟨d, e, h, h', f, g, q⟩ := h
  exact (rc_of (n := 29) I (Is.eqAt I 29) d e x y v u X.A (by omega) f g h h' rx ry).1 _ _ _ _ ⟨.bl _, H, I, rfl, q⟩
theorem op_neD {X : Cx} (hu : X.A.units + 64 < cLine) : OpR X (compareOp .NotEq) (rEqD true) := by
  intro pins s σ H x y v u Q I rx ry h
  obtain ⟨d, e, h, h', f, g, q⟩ := h
  exact (rc_of (n := 29) I (Is.eqAt I 29) d e x y v u X.A (by omega) f g h h' rx ry).2 _ _ _ _ ⟨.bl _, H, I, rfl, q⟩
end L2

namespace L2
open PySem PySem.Spec PyProof.Rows
instance keyMem (k : Key) (l : List Key) : Decidable (k ∈ l) := decidable_of_iff (l.any (fun x => decide (x = k)) = true) (by simp)
def metK (key : Nat → Key) : Nat → List Key
  | 0 => []
  | i + 1 => if key i ∈ metK key i then metK key i else metK key i ++ [key i]
theorem metK_le (key : Nat → Key) : ∀ i, (metK key i).length ≤ i
  | 0 => Nat.le_refl _
  | i + 1 => by
    have ih := metK_le key i
    show (if key i ∈ metK key i then metK key i else metK key i ++ [key i]).length ≤ i + 1
    split
    · omega
    · rw [List.length_append, List.length_singleton]; omega
theorem metK_mem (key : Nat → Key) (k : Key) : ∀ i, k ∈ metK key i ↔ ∃ j, j < i ∧ key j = k
  | 0 => by
    constructor
    · intro h; cases h
    · rintro ⟨j, h, _⟩; omega
  | i + 1 => by
    have ih := metK_mem key k i
    show k ∈ (if key i ∈ metK key i then metK key i else metK key i ++ [key i]) ↔ _
    have step : (k ∈ metK key i ∨ k = key i) ↔ ∃ j, j < i + 1 ∧ key j = k := by
      rw [ih]
      constructor
      · rintro (⟨j, h, e⟩ | e)
        · exact ⟨j, by omega, e⟩
        · exact ⟨i, by omega, e.symm⟩
      · rintro ⟨j, h, e⟩
        by_cases hj : j = i
        · subst hj; exact .inr e.symm
        · exact .inl ⟨j, by omega, e⟩
    rw [← step]
    split
    · rename_i h
      constructor
      · exact .inl
      · rintro (h' | rfl)
        · exact h'
        · exact h
    · rw [List.mem_append, List.mem_singleton]
theorem metK_full (key : Nat → Key) : ∀ n, (metK key n).length = n ↔ ∀ i j, i < j → j < n → key i ≠ key j
  | 0 => ⟨fun _ i j _ h => absurd h (Nat.not_lt_zero _), fun _ => rfl⟩
  | n + 1 => by
    have ih := metK_full key n
    have le := metK_le key n
    have mm := metK_mem key (key n) n
    show (if key n ∈ metK key n then metK key n else metK key n ++ [key n]).length = n + 1 ↔ _
    split
    · rename_i h
      constructor
      · intro e; omega
      · intro e
        obtain ⟨j, hj, q⟩ := mm.mp h
        exact absurd q (e j n hj (Nat.lt_succ_self n))
    · rename_i h
      rw [List.length_append, List.length_singleton, Nat.add_right_cancel_iff, ih]
      constructor
      · intro e i j hi hj
        by_cases q : j = n
        · subst q
          exact fun z => h (mm.mpr ⟨i, hi, z⟩)
        · exact e i j hi (by omega)
      · intro e i j hi hj
        exact e i j hi (by omega)
def dedK (ks : List Key) : List Key := metK (fun i => ks.getD i (.inl 0)) ks.length
theorem dedK_full (ks : List Key) : (dedK ks).length = ks.length ↔ ks.Nodup := by
  unfold dedK
  rw [metK_full, List.nodup_iff_pairwise_ne, List.pairwise_iff_getElem]
  constructor
  · intro h i j hi hj hij
    have := h i j hij hj
    simpa [List.getD_eq_getElem?_getD, hi, hj] using this
  · intro h i j hij hj
    have hi : i < ks.length := by omega
    have := h i j hi hj hij
    simpa [List.getD_eq_getElem?_getD, hi, hj] using this
theorem dedK_le (ks : List Key) : (dedK ks).length ≤ ks.length := metK_le _ _
def SetO (P : Program) (w : World) (a : Addr) (S : Key → Bool) (n : Nat) : HO := .ext fun h => h.SetOf (mixKind P w) a S n
theorem SetO.ok {P : Program} {w : World} {H : Hp} {h : Heap} {a : Addr} {S : Key → Bool} {n : Nat} (x : h.SetOf (mixKind P w) a S n) : ObjOk P w H h a (SetO P w a S n) :=
  ⟨x, let ⟨o, _, _, _, ho, _⟩ := x; ⟨o, ho⟩, fun _ _ ⟨o, es, ep, t, ho, r⟩ k => ⟨o, es, ep, t, k o ho, r⟩⟩
theorem key_scan {P : Program} {w : World} {k : Key} {v : Value} (h : (mixKind P w).is k v = true) : v.scannable = true := by
  rcases keyIs_shape h with ⟨i, t, rfl, rfl⟩ | ⟨x, t, rfl, rfl⟩ <;> rfl
section
variable {P : Program} {w : World} {A : Around} {R : Result → Shared → Prop} {I : Addr} {fp wr : List Addr} {G : Array GenState → Array GenState → Prop} {n : Nat} {Pv : Nat → Value → Prop} {Stt : Nat → Shared → Prop}
theorem setO_congr {h : Heap} {a : Addr} {S S' : Key → Bool} {n n' : Nat} (x : h.SetOf (mixKind P w) a S n) (e : ∀ k, S k = S' k) (q : n = n') : h.SetOf (mixKind P w) a S' n' := by
  obtain rfl : S = S' := funext e
  subst q
  exact x
theorem set_loop (W : WalksS P w A.in1 I fp wr G n Pv Stt) (D : Addr) (hD : D ∉ fp) (key : Nat → Key) (hv : ∀ i v, Pv i v → (mixKind P w).is (key i) v = true) (hb : n + 1 < scanBound) (fin : ∀ s s', Moved (D :: wr) G s s' → s'.heap.SetOf (mixKind P w) D (fun k => decide (k ∈ metK key n)) (metK key n).length → True) :
    ∀ (m i : Nat) (s : Shared), n - i = m → i ≤ n → Stt i s → s.heap.SetOf (mixKind P w) D (fun k => decide (k ∈ metK key i)) (metK key i).length →
      (∀ s', Moved (D :: wr) G s s' → s'.heap.SetOf (mixKind P w) D (fun k => decide (k ∈ metK key n)) (metK key n).length → R (.ok (.ret .none)) s') →
      codeAny (model P w) A (.builtin "set.update.loop" ⟨[.ref D, .ref I], []⟩) R s := by
  have hDw : D ∉ wr := fun z => hD (W.sub _ z)
  have sub : ∀ b ∈ wr, b ∈ D :: wr := fun b z => List.mem_cons_of_mem _ z
  have moved : ∀ {s s' : Shared} {S : Key → Bool} {c : Nat}, Moved wr G s s' → s.heap.SetOf (mixKind P w) D S c → s'.heap.SetOf (mixKind P w) D S c := fun mv ⟨o, es, ep, t, ho, r⟩ => ⟨o, es, ep, t, mv.heap D _ hDw ho, r⟩
  intro m
  induction m with
  | zero =>
    intro i s e1 e2 st hS hR
    obtain rfl : i = n := by omega
    refine codeAny_builtin PyProof.Rows.F.entry_set_update_loop ?_
    rw [Around.under_plainId PyProof.Rows.F.plain_set_update_loop _]
    show wpAny _ A.in1 (pyNext (.ref I) >>= _) _ _ s
    refine wpAny_bind (W.done s _ _ st fun s' mv => ?_)
    exact wpAny_pure (hR s' (mv.mono sub) (moved mv hS))
  | succ m ih =>
    intro i s e1 e2 st hS hR
    have lt : i < n := by omega
    refine codeAny_builtin PyProof.Rows.F.entry_set_update_loop ?_
    rw [Around.under_plainId PyProof.Rows.F.plain_set_update_loop _]
    show wpAny _ A.in1 (pyNext (.ref I) >>= _) _ _ s
    refine wpAny_bind (W.item i s _ _ lt st fun v s' pv st' mv => ?_)
    have hk := hv i v pv
    have hS1 := moved mv hS
    show wpAny _ A.in1 (holding [v] (setAdd D v) >>= _) _ _ s'
    refine wpAny_bind (wpAny_holding ?_)
    unfold setAdd
    refine wpAny_holding (wpAny_bind ((mixKind P w).pyHash (k := key i) hk ?_))
    have room : (metK key i).length + 1 < scanBound := by have := metK_le key i; omega
    refine wpAny_setAddHashed_of (knd := mixKind P w) (s := { s' with toks := s'.toks + 1 }) hk (key_scan hk) hS1 room fun h' sb hS2 => ?_
    have hS3 : h'.SetOf (mixKind P w) D (fun k => decide (k ∈ metK key (i + 1))) (metK key (i + 1)).length := by
      refine setO_congr hS2 (fun k => ?_) ?_
      · show (decide (k ∈ metK key i) || decide (k = key i)) = decide (k ∈ if key i ∈ metK key i then metK key i else metK key i ++ [key i])
        by_cases z : key i ∈ metK key i
        · rw [if_pos z]
          by_cases y : k = key i
          · subst y; simp [z]
          · simp [y]
        · rw [if_neg z]
          simp
      · show (if decide (key i ∈ metK key i) = true then (metK key i).length else (metK key i).length + 1) = (if key i ∈ metK key i then metK key i else metK key i ++ [key i]).length
        by_cases z : key i ∈ metK key i
        · rw [if_pos z, if_pos (decide_eq_true z)]
        · rw [if_neg z, if_neg (by simpa using z)]
          simp
    refine wpAny_pure ⟨plainId_quiet PyProof.Rows.F.plain_set_update_loop _, ih (i + 1) _ (by omega) lt (W.frame _ s' _ _ st' (Nat.le_succ _) fun b hb o e => ?_) hS3 fun s2 mv2 hS4 => ?_⟩
    · rw [sb.2 b (fun z : b = D => hD (by rw [← z]; exact hb))]
      exact e
    · refine hR s2 (Moved.trans W.gtrans ((mv.mono sub).then_heap (Nat.le_succ _) fun b o hb e => ?_) mv2) hS4
      rw [sb.2 b (fun z : b = D => hb (by rw [z]; exact List.mem_cons_self))]
      exact e
end
section
variable {P : Program} {w : World} {A : Around} {E : Value → Shared → Prop} {s : Shared}
abbrev newS (led : Bool) : Obj := { cls := .type "set", dict := none, data := .set #[] 0 (.fresh 0 0 led) }
set_option maxHeartbeats 8000000 in
theorem set_of_keys {l : Addr} {its : List Value} {ks : List Key} {Q : Value → Shared → Prop} (hh : A.handled = none) (hl : s.heap.IsList l its.toArray) (hk : ∀ i v, its[i]? = some v → (mixKind P w).is (ks.getD i (.inl 0)) v = true) (hn : its.length = ks.length) (hb : its.length + 1 < scanBound)
    (h : ∀ (h' : Heap) (tk : Nat), h'.SetOf (mixKind P w) s.heap.objs.size (fun k => decide (k ∈ dedK ks)) (dedK ks).length → (∀ b o, s.heap.get? b = some o → h'.get? b = some o) → Q (.ref s.heap.objs.size) { s with heap := h', toks := tk }) :
    wpAny (model P w) A (call (.type "set") [.ref l]) Q E s := by
  obtain ⟨c, tl, hmro⟩ := PySem.F.called_set.mro
  have m1 := PySem.F.called_set.made
  have m2 := PySem.F.called_set.sub
  refine wpAny_call (codeAny_of_tree ?_)
  show wpAny _ _ (callAny (.type "set") _) _ _ _
  refine wpAny_pure ⟨Code.quiet_builtin _ (by decide +kernel), codeAny_builtin PySem.F.entry_type_call ?_⟩
  rw [Around.under_plain (weight_type_call_type "set" [.ref l] []) rfl]
  have m3 := PySem.F.called_set.notType
  have m4 := PySem.F.called_set.canCreate
  have m5 := PySem.F.typeCall_set_1 (.ref l)
  repeat (any_goals (first | assumption | wp_step))
  refine codeAny_mono (code_set_new_1 (.ref l) (E := E) (Q₁ := fun ob s1 => ∃ led : Bool, ob = .ref s.heap.objs.size ∧ s1 = { s with heap := s.heap.push (newS led) }) fun led => ⟨led, rfl, rfl⟩) fun r s1 hr => ?_
  cases r with
  | error e => exact hr
  | ok fl =>
    cases fl with
    | ret ob =>
      obtain ⟨led, rfl, rfl⟩ := hr
      have hS : (s.heap.push (newS led)).get? s.heap.objs.size = some (newS led) := Heap.get?_push_size _ rfl
      have hT : Shared.TypeIs { s with heap := s.heap.push (newS led) } (.ref s.heap.objs.size) "set" := ⟨_, hS, rfl⟩
      have m6 := PySem.F.called_set.init.lookup
      have m7 := PySem.F.called_set.init.bind (.ref s.heap.objs.size)
      repeat (any_goals (first | assumption | wp_step))
      refine codeAny_mono (codeAny_call_builtin (R := wants (fun r s2 => r = .none ∧ ∃ h' tk, s2 = { s with heap := h', toks := tk } ∧ h'.SetOf (mixKind P w) s.heap.objs.size (fun k => decide (k ∈ dedK ks)) (dedK ks).length ∧ (∀ b o, s.heap.get? b = some o → h'.get? b = some o)) E)
        PySem.F.called_set.init.plain PySem.F.entry_set_init (check_set_init_1 hT ?_)) fun r2 s2 hr2 => ?_
      · obtain ⟨⟨oc, od, oda, osl⟩, hol, hcl, nl, hdl⟩ := hl
        simp only at hcl hdl
        subst hcl hdl
        have hol1 : (s.heap.push (newS led)).get? l = some { cls := .type "list", dict := od, data := .seq its.toArray nl, slots := osl } := Heap.get?_push_of_some _ hol
        have m8 := PySem.F.sub_list_set
        have m9 := PySem.F.sub_list_frozenset
        have m10 : (Value.type "list" == Value.type "dict") = false := by decide
        have hl1 : (s.heap.push (newS led)).IsList l its.toArray := ⟨_, hol1, rfl, nl, rfl⟩
        have lS : l < s.heap.objs.size := Heap.lt_size hol
        unfold Builtin.«set.__init__» noKeywords Builtin.Frozenset.updateFrom
        generalize hPI : pyIter = PI
        wp_walk
        subst hPI
        refine wpAny_pyIter_list hl1 (wpAny_bind (wpAny_runValue ?_))
        have hh3 : A.in1.in1.in1.handled = none := by simp [hh]
        have nI : l ≠ (s.heap.push (newS led)).objs.size := by rw [Heap.size_push]; exact Nat.ne_of_lt (Nat.lt_succ_of_lt lS)
        have nS : s.heap.objs.size ∉ [(s.heap.push (newS led)).objs.size, l] := by
          rw [Heap.size_push]
          simp only [List.mem_cons, List.mem_singleton, List.not_mem_nil, or_false, not_or]
          exact ⟨Nat.ne_of_lt (Nat.lt_succ_self _), Nat.ne_of_gt lS⟩
        have sz : its.toArray.size = ks.length := by rw [List.size_toArray, hn]
        refine set_loop ((Walks.list hh3 _ l nI its.toArray).toS) s.heap.objs.size nS (fun i => ks.getD i (.inl 0)) (fun i v pv => hk i v (by simpa using pv)) (by rw [List.size_toArray]; exact hb) (fun _ _ _ _ => trivial) (its.toArray.size - 0) 0 _ (by omega) (Nat.zero_le _)
          ⟨⟨_, Heap.get?_push_size _ rfl, rfl, rfl⟩, (hl1.push _)⟩ ?_ ?_
        · have g : ((s.heap.push (newS led)).push { cls := .type "list_iterator", data := .fields #[.ref l, .int 0 0] }).get? s.heap.objs.size = some (newS led) := Heap.get?_push_of_some _ hS
          exact ⟨_, #[], 0, _, g, ⟨rfl, rfl, rfl⟩, rfl, fun e he => by simp at he, fun k => by simp [metK], by decide, by rfl, rfl⟩
        · intro s3 mv hS3
          obtain ⟨h3, g3, d3, t3, o3⟩ := s3
          have e1 : g3 = s.gens := mv.gens
          have e2 : d3 = s.drawn := mv.drawn
          have e3 : o3 = s.os := mv.os
          subst e1 e2 e3
          rw [sz] at hS3
          show wpAny _ _ _ _ _ _
          refine wpAny_pure ?_
          show wpAny _ _ (ret Value.none) _ _ _
          refine wpAny_pure ⟨rfl, h3, t3, rfl, hS3, fun b o e => ?_⟩
          have lb := Heap.lt_size e
          have b1 : b ≠ s.heap.objs.size := Nat.ne_of_lt lb
          have b2 : b ≠ (s.heap.push (newS led)).objs.size := by rw [Heap.size_push]; exact Nat.ne_of_lt (Nat.lt_succ_of_lt lb)
          exact mv.heap b o (by simp only [List.mem_cons, List.mem_singleton, List.not_mem_nil, or_false, not_or]; exact ⟨b1, b2⟩) (Heap.get?_push_of_some _ (Heap.get?_push_of_some _ e))
      · cases r2 with
        | error e => exact hr2
        | ok f2 =>
          cases f2 with
          | ret r =>
            obtain ⟨rfl, h', tk, rfl, hS2, hk2⟩ := hr2
            repeat (any_goals (first | assumption | wp_step))
            exact h _ _ hS2 hk2
          | _ => exact hr2.elim
    | _ => exact hr.elim
end
section
variable {X : Cx}
theorem keysRel {P : Program} {w : World} : ∀ {ks : List Key} {us : List Value}, Vals (ks.map kV) us → ∀ i v, us[i]? = some v → (mixKind P w).is (ks.getD i (.inl 0)) v = true
  | [], us, r, i, v, e => by
    rw [List.map_nil] at r
    cases r
    simp at e
  | k :: ks, us, r, i, v, e => by
    rw [List.map_cons] at r
    cases r with
    | cons r1 r2 =>
      cases i with
      | zero =>
        simp at e
        subst e
        cases k with
        | inl z => obtain ⟨t, rfl⟩ := r1; exact keyIs_int z t
        | inr z => obtain ⟨t, rfl⟩ := r1; exact keyIs_str z t
      | succ i =>
        have := keysRel (P := P) (w := w) r2 i v (by simpa using e)
        simpa using this
theorem call_set_list (hc : X.calm = true) : CallR X (.type "set") (fun xs H Q => ∃ (p : Addr) (ks : List Key), xs = [.ref p] ∧ SqL X.K H p (ks.map kV) ∧ ks.length ≤ 1000 ∧
    ∀ l, H l = none → Q (.ref l) (upd H l (SetO X.prog X.w l (fun k => decide (k ∈ dedK ks)) (dedK ks).length))) := by
  intro pins s σ H xs us Q I r h
  obtain ⟨p, ks, rfl, hq, hn, q⟩ := h
  obtain ⟨u, rfl, ru⟩ := Vals.one r
  cases ru
  obtain ⟨its, rv, pl, hz⟩ := I.list hq
  have hlen := rv.length
  rw [List.length_map] at hlen
  refine set_of_keys (ks := ks) (I.ok.hd hc) pl.isList (keysRel rv) hlen.symm (by unfold scanBound; omega) fun h' tk hS hk => ?_
  exact ⟨.ref s.heap.objs.size, _, I.laid (t' := tk) hk (Nat.le_refl _) (SetO.ok hS), rfl, q _ (I.hok.fresh (Nat.le_refl _))⟩
theorem call_len_set : CallR X (.builtin "len") (fun xs H Q => ∃ l S n, xs = [.ref l] ∧ H l = some (SetO X.prog X.w l S n) ∧ n ≤ 1000 ∧ Q (.int n) H) := by
  intro pins s σ H xs us Q I r h
  obtain ⟨l, S, n, rfl, e, hn, q⟩ := h
  obtain ⟨u, rfl, ru⟩ := Vals.one r
  cases ru
  obtain ⟨⟨o, es, ep, t, ho, hex, hd, hel, hmem, hb, hf, hes⟩, _⟩ := I.hok l _ e
  refine PySem.call_len_set ho hex hd hf (by rw [hes]; omega) ⟨.int n, H, I.tok _, ⟨s.toks + 1, by rw [hes]⟩, q⟩
end
end L2

namespace L2
open PySem PySem.Spec PyProof.Rows
section
variable {X : Cx}
theorem vals_of : ∀ {xs : List V} {us : List Value}, us.length = xs.length → (∀ (j : Nat) (u : Value) (x : V), us[j]? = some u → xs[j]? = some x → RelV x u) → Vals xs us
  | [], [], _, _ => .nil
  | x :: xs, u :: us, hl, h => .cons (h 0 u x rfl rfl) (vals_of (by simpa using hl) fun j v y e1 e2 => h (j + 1) v y (by simpa using e1) (by simpa using e2))
  | [], _ :: _, hl, _ => by simp at hl
  | _ :: _, [], hl, _ => by simp at hl
theorem KV.get : ∀ {kvs : List (Key × V)} {vs : List (Key × Value)} {i : Nat} {p : Key × Value}, KV kvs vs → vs[i]? = some p → ∃ q, kvs[i]? = some q ∧ q.1 = p.1 ∧ RelV q.2 p.2
  | _, _, _, _, .nil, e => by simp at e
  | _, _, 0, _, .cons r _, e => by simp at e; subst e; exact ⟨_, rfl, r.1, r.2⟩
  | _, _, i + 1, p, .cons _ t, e => by
    obtain ⟨q, h1, h2⟩ := KV.get (i := i) (p := p) t (by simpa using e)
    exact ⟨q, by simpa using h1, h2⟩
def ValsO (v d : Addr) : HO := .ext fun h => h.IsValuesView v d
theorem ValsO.ok {P : Program} {w : World} {H : Hp} {h : Heap} {v d : Addr} (x : h.IsValuesView v d) : ObjOk P w H h v (ValsO v d) :=
  ⟨x, let ⟨o, ho, _⟩ := x; ⟨o, ho⟩, fun _ _ ⟨o, ho, r⟩ k => ⟨o, k o ho, r⟩⟩
theorem mt_values : MtR X "dict.values" (fun x vs H Q => ∃ d kvs, x = .ref d ∧ vs = [] ∧ Rd H d (.dK kvs) ∧ ∀ v, H v = none → Q (.ref v) (upd H v (ValsO v d))) := by
  intro pins s σ H x vs v us Q I rx rv h
  obtain ⟨d, kvs, rfl, rfl, hq, q⟩ := h
  cases rx
  have hus := rv.zero
  subst hus
  obtain ⟨hz, lo, ws, kv, hD⟩ := hq.ok I.hok
  refine call_meetsIn PySem.F.slot_dict_values hD.typeIs PySem.F.entry_dict_values (PySem.F.args_dict_values_1 _) (meets_dict_values (mixKind X.prog X.w) d lo) ⟨⟨ws, hD⟩, ?_⟩
  exact ⟨.ref s.heap.objs.size, _, I.laid (t' := s.toks) (fun b ob e => Heap.get?_push_of_some _ e) (Nat.le_refl _) (ValsO.ok ⟨_, Heap.get?_push_size _ rfl, rfl, rfl⟩), rfl, q _ (I.hok.fresh (Nat.le_refl _))⟩
theorem call_list_values (hc : X.calm = true) : CallR X (.type "list") (fun xs H Q => ∃ v d kvs, xs = [.ref v] ∧ H v = some (ValsO v d) ∧ Rd H d (.dK kvs) ∧ ∀ l, H l = none → Q (.ref l) (upd H l (.lst (kvs.map (·.2))))) := by
  intro pins s σ H xs us Q I r h
  obtain ⟨v, d, kvs, rfl, ev, hq, q⟩ := h
  obtain ⟨u, rfl, ru⟩ := Vals.one r
  cases ru
  obtain ⟨hz, lo, vs, kv, hD⟩ := hq.ok I.hok
  obtain ⟨hv, _⟩ := I.hok v _ ev
  obtain ⟨ep, hat⟩ := hD.dictAt
  have hl := KV.length kv
  refine PySem.W.kdl_call (PySem.W.kdl_values (knd := mixKind X.prog X.w) (kvs := vs) (ep := ep)) (I.ok.hd hc) ⟨hv, hat⟩ (by omega) fun h' tk acc c hk hg hi => ?_
  refine ⟨.ref s.heap.objs.size, _, I.laid (t' := tk) hk (Nat.le_refl _) (show ObjOk X.prog X.w _ h' _ (.lst (kvs.map (·.2))) from ⟨by rw [List.length_map]; exact hz, acc.toList, c, ?_, by simpa using hg⟩), rfl, q _ (I.hok.fresh (Nat.le_refl _))⟩
  refine vals_of (by rw [List.length_map, Array.length_toList, hi.1, hl]) fun j u x e1 e2 => ?_
  obtain ⟨k, e3⟩ := hi.2 j u (by rw [← Array.getElem?_toList]; exact e1)
  obtain ⟨z, e5, _, e6⟩ := KV.get kv e3
  rw [List.getElem?_map, e5] at e2
  have e2' : z.2 = x := by simpa using e2
  subst e2'
  exact e6
end
section
variable {X : Cx} {e se : Expr} {te ts : TE} {p2 pos : Pos}
end
end L2

namespace L2
open PySem PySem.Spec PyProof.Rows
theorem list_keys_miss : typeLookup (.type "list") "keys" = pure none := by rw [typeLookup_type, builtinLookup_eq_fast]; kernel_rfl
section
variable {P : Program} {w : World} {A : Around} {E : Value → Shared → Prop} {s : Shared}
theorem list_no_keys {a : Addr} {xs : Array Value} {k : Nat} {sl : Array (Option Value)} {Q : Option Value → Shared → Prop} (hA : A.handled = none) (hx : s.heap.get? a = some { cls := .type "list", dict := none, data := .seq xs k, slots := sl })
    (h : ∀ h' tk, (∀ b o, s.heap.get? b = some o → h'.get? b = some o) → Q none { s with heap := h', toks := tk }) : wpAny (model P w) A (getAttr? (.ref a) "keys") Q E s := by
  obtain ⟨hp, g, d, tk, os⟩ := s
  have hT : ∀ tk', (⟨hp, g, d, tk', os⟩ : Shared).TypeIs (.ref a) "list" := fun _ => ⟨_, hx, rfl⟩
  have f1 := sub_AttributeError
  have f3 := F.slot_list_getattribute.lookup
  have f4 := F.slot_list_getattribute.bind (.ref a)
  have f5 := am_list_getattr_none
  unfold getAttr? getAttrBy? getAttrBy
  repeat (any_goals (first | assumption | exact hT _ | ((with_reducible show wpAny _ _ (call (Value.builtin "list.__getattribute__") _ _) _ _ _); refine call_meets F.slot_list_getattribute (hT _) am_entry_list_getattribute (F.args_list_getattribute_2 _ _) (meets_getattribute_miss_list a xs k sl "keys" _ list_keys_miss (by decide +kernel)) ⟨hx, hA, fun h' tk' e hx' => ?_⟩) | wp_step))
  obtain ⟨t', u', he⟩ := hx'.there
  show wpAny _ _ (getattributeRaised _ _ _ _ _ _ _) _ _ _
  unfold getattributeRaised
  repeat (any_goals (first | assumption | wp_step))
  exact h _ _ hx'.keeps
end
theorem upd_loop_entry : entryFor table "dict.update.loop" = some Builtin.«dict.update.loop» := entryFor_of_tree (by kernel_rfl)
theorem upd_loop_plain : plainId "dict.update.loop" = true := by decide +kernel
section
variable {P : Program} {w : World} {A : Around} {R : Result → Shared → Prop} {I : Addr} {fp wr : List Addr} {G : Array GenState → Array GenState → Prop} {n : Nat} {Pv : Nat → Value → Prop} {Stt : Nat → Shared → Prop}
theorem dict_loop (W : WalksS P w A.in1 I fp wr G n Pv Stt) (D : Addr) (hD : D ∉ fp) (res : Value) (kvs : List (Key × Value)) (hn : kvs.length = n) (hz : n ≤ sizeLine) (s₀ : Shared)
    (hv : ∀ (i : Nat) (v : Value), Pv i v → ∃ (a : Addr) (k : Key) (kv x : Value) (ob : Obj) (c : Nat), v = .ref a ∧ a ∉ D :: wr ∧ s₀.heap.get? a = some ob ∧ ob.cls = .type "tuple" ∧ ob.data = .seq #[kv, x] c ∧ kvs[i]? = some (k, x) ∧ (mixKind P w).is k kv = true) :
    ∀ (m i : Nat) (s : Shared), n - i = m → i ≤ n → Stt i s → (∀ b o, b ∉ D :: wr → s₀.heap.get? b = some o → s.heap.get? b = some o) → s.heap.DictOf (mixKind P w) D (merged [] (kvs.take i)) →
      (∀ s', Moved (D :: wr) G s s' → s'.heap.DictOf (mixKind P w) D (merged [] kvs) → R (.ok (.ret res)) s') →
      codeAny (model P w) A (.builtin "dict.update.loop" ⟨[.ref D, .ref I, rawInt i, res], []⟩) R s := by
  have hDw : D ∉ wr := fun z => hD (W.sub _ z)
  have sub : ∀ b ∈ wr, b ∈ D :: wr := fun b z => List.mem_cons_of_mem _ z
  have moved : ∀ {s s' : Shared} {l : List (Key × Value)}, Moved wr G s s' → s.heap.DictOf (mixKind P w) D l → s'.heap.DictOf (mixKind P w) D l := fun mv ⟨o, es, ep, ho, r⟩ => ⟨o, es, ep, mv.heap D _ hDw ho, r⟩
  intro m
  induction m with
  | zero =>
    intro i s e1 e2 st kp hS hR
    obtain rfl : i = n := by omega
    rw [List.take_of_length_le (by omega)] at hS
    refine codeAny_builtin upd_loop_entry ?_
    rw [Around.under_plainId upd_loop_plain _]
    show wpAny _ A.in1 (pyNext (.ref I) >>= _) _ _ s
    refine wpAny_bind (W.done s _ _ st fun s' mv => ?_)
    show wpAny _ A.in1 (Builtin.Dict.addKeywords D [] >>= _) _ _ s'
    refine wpAny_bind (wpAny_pure ?_)
    exact wpAny_pure (hR s' (mv.mono sub) (moved mv hS))
  | succ m ih =>
    intro i s e1 e2 st kp hS hR
    have lt : i < n := by omega
    refine codeAny_builtin upd_loop_entry ?_
    rw [Around.under_plainId upd_loop_plain _]
    show wpAny _ A.in1 (pyNext (.ref I) >>= _) _ _ s
    refine wpAny_bind (W.item i s _ _ lt st fun v s' pv st' mv => ?_)
    obtain ⟨a, k, kv, x, ob, c, rfl, ha, hg, hc, hd, hi, hk⟩ := hv i v pv
    have hS1 := moved mv hS
    have hg1 : s'.heap.get? a = some ob := mv.heap a ob (fun z => ha (sub a z)) (kp a ob ha hg)
    have hT : s'.TypeIs (.ref a) "tuple" := ⟨ob, hg1, hc⟩
    refine wpAny_bind (wpAny_holding (wpAny_bind (wpAny_tryCatch ?_)))
    unfold Builtin.Dict.pairItems
    refine wpAny_bind (wpAny_typeOf hT ?_)
    rw [if_pos (by decide)]
    refine wpAny_bind (wpAny_seqItems hg1 hd (wpAny_pure ?_))
    show wpAny _ _ (holding [kv, x] (dictSet D kv x)) _ _ s'
    refine wpAny_holding (wpAny_dictSet_pairs hk hS1 (fun h' hS2 sb => ?_) ?_)
    · have e : merged [] (kvs.take (i + 1)) = stored (merged [] (kvs.take i)) k x := merged_take_succ [] kvs i (k, x) hi
      rw [← e] at hS2
      refine wpAny_pure ⟨plainId_quiet upd_loop_plain _, ih (i + 1) _ (by omega) lt (W.frame _ s' _ _ st' (Nat.le_succ _) fun b hb o e => ?_) (fun b o hb e => ?_) hS2 fun s2 mv2 hS4 => ?_⟩
      · rw [sb.2 b (fun z : b = D => hD (by rw [← z]; exact hb))]
        exact e
      · rw [sb.2 b (fun z : b = D => hb (by rw [z]; exact List.mem_cons_self))]
        exact mv.heap b o (fun z => hb (sub b z)) (kp b o hb e)
      · refine hR s2 (Moved.trans W.gtrans ((mv.mono sub).then_heap (Nat.le_succ _) fun b o hb e => ?_) mv2) hS4
        rw [sb.2 b (fun z : b = D => hb (by rw [z]; exact List.mem_cons_self))]
        exact e
    · have := merged_length_le ([] : List (Key × Value)) (kvs.take i)
      rw [List.length_take] at this
      simp only [List.length_nil] at this
      omega
end
section
variable {P : Program} {w : World} {A : Around} {E : Value → Shared → Prop} {s : Shared}
theorem dict_of_pairs {l : Addr} {its : List Value} {kvs : List (Key × Value)} {Q : Value → Shared → Prop} (hh : A.handled = none) (hl : PlainL s.heap l its.toArray) (hn : its.length = kvs.length) (hz : its.length ≤ sizeLine)
    (hv : ∀ (i : Nat) (v : Value), its[i]? = some v → ∃ (a : Addr) (k : Key) (kv x : Value) (ob : Obj) (c : Nat), v = .ref a ∧ s.heap.get? a = some ob ∧ ob.cls = .type "tuple" ∧ ob.data = .seq #[kv, x] c ∧ kvs[i]? = some (k, x) ∧ (mixKind P w).is k kv = true)
    (h : ∀ (h' : Heap) (tk : Nat), h'.DictOf (mixKind P w) s.heap.objs.size (merged [] kvs) → (∀ b o, s.heap.get? b = some o → h'.get? b = some o) → Q (.ref s.heap.objs.size) { s with heap := h', toks := tk }) :
    wpAny (model P w) A (call (.type "dict") [.ref l]) Q E s := by
  refine callType_codes (Q₁ := fun (obj : Value) (s₁ : Shared) => obj = Value.ref s.heap.objs.size ∧ s₁ = { s with heap := s.heap.push { cls := .type "dict", data := .dict #[] } }) F.kt_called_dict (F.kt_typeCall_dict_1 _) F.entry_dict_init (kt_code_dict_new _ ⟨rfl, rfl⟩) ?_
  rintro obj s₁ ⟨rfl, rfl⟩
  have hnew : (s.heap.push { cls := .type "dict", data := .dict #[] }).DictOf (mixKind P w) s.heap.objs.size [] := Heap.DictOf.new s.heap
  obtain ⟨⟨oc, od, oda, osl⟩, nl, hol, hcl, hod, hdl⟩ := id hl
  simp only at hcl hod hdl
  subst hcl hod hdl
  have lS : l < s.heap.objs.size := Heap.lt_size hol
  have hol1 := Heap.get?_push_of_some (h := s.heap) { cls := .type "dict", data := .dict #[] } hol
  refine ⟨hnew.typeIs, F.args_dict_init_2 _ _, ?_⟩
  unfold Builtin.«dict.__init__»
  refine wpAny_bind ?_
  unfold Builtin.Dict.selfAndRest
  refine wpAny_bind (wpAny_notOrdered_dict hnew.typeIs ?_)
  show wpAny _ _ (pure (s.heap.objs.size, [Value.ref l])) _ _ _
  refine wpAny_pure ?_
  show wpAny _ _ (Builtin.Dict.updateFrom "dict.__init__" s.heap.objs.size (.ref l) [] .none) _ _ _
  unfold Builtin.Dict.updateFrom
  refine wpAny_bind (wpAny_typeOf (T := "list") ⟨_, hol1, rfl⟩ ?_)
  rw [if_pos (by decide)]
  refine wpAny_bind (list_no_keys (by simp [hh]) hol1 fun h1 t1 k1 => ?_)
  show wpAny _ _ (rule _ >>= _) _ _ _
  refine wpAny_bind (wpAny_rule ?_)
  have hol2 := k1 _ _ hol1
  have hl2 : h1.IsList l its.toArray := ⟨_, hol2, rfl, nl, rfl⟩
  refine wpAny_bind (wpAny_pyIter_list (s := { s with heap := h1, toks := t1 }) hl2 ?_)
  have sz1 : s.heap.objs.size < h1.objs.size := by
    obtain ⟨o, es, ep, ho, _⟩ := hnew
    exact Heap.lt_size (k1 _ _ ho)
  have nI : l ≠ h1.objs.size := Nat.ne_of_lt (Heap.lt_size hol2)
  have nD : s.heap.objs.size ∉ [h1.objs.size, l] := by
    simp only [List.mem_cons, List.mem_singleton, List.not_mem_nil, or_false, not_or]
    exact ⟨Nat.ne_of_lt sz1, Nat.ne_of_gt lS⟩
  refine wpAny_pure ⟨plainId_quiet upd_loop_plain _, ?_⟩
  have hh2 : A.in1.in1.handled = none := by simp [hh]
  refine dict_loop ((Walks.list hh2 _ l nI its.toArray).toS) s.heap.objs.size nD .none kvs (by rw [List.size_toArray, hn]) (by rw [List.size_toArray]; exact hz) { s with heap := h1.push { cls := .type "list_iterator", data := .fields #[.ref l, .int 0 0] }, toks := t1 } (fun i v pv => ?_) (its.toArray.size - 0) 0 _ (by omega) (Nat.zero_le _)
    ⟨⟨_, Heap.get?_push_size _ rfl, rfl, rfl⟩, (hl2.push _)⟩ (fun _ _ _ e => e) ?_ ?_
  · obtain ⟨a, k, kv, x, ob, c, rfl, hg, hc, hd, hi, hk⟩ := hv i v (by simpa using pv)
    have la := Heap.lt_size hg
    refine ⟨a, k, kv, x, ob, c, rfl, ?_, Heap.get?_push_of_some _ (k1 _ _ (Heap.get?_push_of_some _ hg)), hc, hd, hi, hk⟩
    simp only [List.mem_cons, List.mem_singleton, List.not_mem_nil, or_false, not_or]
    exact ⟨Nat.ne_of_lt la, Nat.ne_of_lt (Nat.lt_trans la sz1)⟩
  · obtain ⟨o, es, ep, ho, r⟩ := hnew
    exact ⟨o, es, ep, Heap.get?_push_of_some _ (k1 _ _ ho), r⟩
  · intro s3 mv hS3
    obtain ⟨h3, g3, d3, t3, o3⟩ := s3
    have e1 : g3 = s.gens := mv.gens
    have e2 : d3 = s.drawn := mv.drawn
    have e3 : o3 = s.os := mv.os
    subst e1 e2 e3
    refine ⟨rfl, h h3 t3 hS3 fun b o e => ?_⟩
    have lb := Heap.lt_size e
    refine mv.heap b o ?_ (Heap.get?_push_of_some _ (k1 _ _ (Heap.get?_push_of_some _ e)))
    simp only [List.mem_cons, List.mem_singleton, List.not_mem_nil, or_false, not_or]
    exact ⟨Nat.ne_of_lt lb, Nat.ne_of_lt (Nat.lt_trans lb sz1)⟩
end
def PairsAt (H : Hp) (ys : List V) (kvs : List (Key × V)) : Prop := Paired (fun (y : V) (kv : Key × V) => ∃ a, y = .ref a ∧ H a = some (.tup [kV kv.1, kv.2])) ys kvs
theorem PairsAt.nil (H : Hp) : PairsAt H [] [] := Paired.nil
theorem PairsAt.len {H : Hp} {ys : List V} {kvs : List (Key × V)} (h : PairsAt H ys kvs) : ys.length = kvs.length := Paired.length h
theorem PairsAt.same {H H' : Hp} (S : Same H H') : ∀ {ys : List V} {kvs : List (Key × V)}, PairsAt H ys kvs → PairsAt H' ys kvs
  | _, _, Paired.nil => Paired.nil
  | _, _, Paired.cons ⟨a, e, o⟩ t => Paired.cons ⟨a, e, S _ _ o⟩ (PairsAt.same S t)
theorem PairsAt.snoc {H : Hp} {ys : List V} {kvs : List (Key × V)} {p : Addr} {k : Key} {v : V} (h : PairsAt H ys kvs) (hp : H p = none) : PairsAt (upd H p (.tup [kV k, v])) (ys ++ [.ref p]) (kvs ++ [(k, v)]) :=
  Paired.snoc (h.same (Same.upd hp)) ⟨p, rfl, upd_same⟩
section
variable {X : Cx}
theorem rel_key {P : Program} {w : World} {k : Key} {u : Value} (r : RelV (kV k) u) : (mixKind P w).is k u = true := by
  cases k with
  | inl z => obtain ⟨t, rfl⟩ := r; exact keyIs_int z t
  | inr z => obtain ⟨t, rfl⟩ := r; exact keyIs_str z t
theorem pairs_values {pins : List (Addr × Obj)} {σ : St} {H : Hp} {s : Shared} (I : Inv X pins σ H s) : ∀ {ys : List V} {kvs : List (Key × V)} {its : List Value}, PairsAt H ys kvs → Vals ys its →
    ∃ vk : List (Key × Value), KV kvs vk ∧ its.length = vk.length ∧ ∀ (i : Nat) (v : Value), its[i]? = some v → ∃ (a : Addr) (k : Key) (kv x : Value) (ob : Obj) (c : Nat), v = .ref a ∧ s.heap.get? a = some ob ∧ ob.cls = .type "tuple" ∧ ob.data = .seq #[kv, x] c ∧ vk[i]? = some (k, x) ∧ (mixKind X.prog X.w).is k kv = true
  | _, _, _, Paired.nil, Paired.nil => ⟨[], Paired.nil, rfl, fun i v e => by simp at e⟩
  | _, (k, v0) :: kvs, u :: its, Paired.cons ⟨a, e, o⟩ t, Paired.cons r rs => by
    obtain ⟨vk, h1, h2, h3⟩ := pairs_values I t rs
    subst e
    cases r
    obtain ⟨tis, rt, ⟨ob, g, hc, c, hd⟩, _⟩ := I.tuple (SqT.of o)
    obtain ⟨ku, xu, rfl, rk, rx⟩ := Vals.two rt
    refine ⟨(k, xu) :: vk, Paired.cons ⟨rfl, rx⟩ h1, by simp [h2], fun i v e => ?_⟩
    cases i with
    | zero =>
      simp at e
      subst e
      exact ⟨a, k, ku, xu, ob, c, rfl, g, hc, hd, rfl, rel_key rk⟩
    | succ i =>
      obtain ⟨a', k', kv', x', ob', c', q⟩ := h3 i v (by simpa using e)
      exact ⟨a', k', kv', x', ob', c', by simpa using q⟩
theorem call_dict_pairs (hc : X.calm = true) : CallR X (.type "dict") (fun xs H Q => ∃ (p : Addr) (ys : List V) (kvs : List (Key × V)), xs = [.ref p] ∧ SqL X.K H p ys ∧ PairsAt H ys kvs ∧ kvs.length ≤ 1000 ∧ (kvs.map (·.1)).Nodup ∧ ∀ l, H l = none → Q (.ref l) (upd H l (.dK kvs))) := by
  intro pins s σ H xs us Q I r h
  obtain ⟨p, ys, kvs, rfl, hq, hp, hn, nd, q⟩ := h
  obtain ⟨u, rfl, ru⟩ := Vals.one r
  cases ru
  obtain ⟨its, rv, pl, hz⟩ := I.list hq
  obtain ⟨vk, kv, el, hv⟩ := pairs_values I hp rv
  have big : (1000 : Nat) ≤ sizeLine := by decide
  have l1 := KV.length kv
  have ek : vk.map (·.1) = kvs.map (·.1) := (KV.keys kv).symm
  refine dict_of_pairs (kvs := vk) (I.ok.hd hc) pl el (by omega) hv fun h' tk hD hk => ?_
  rw [merged_nil_of_nodup vk (by rw [ek]; exact nd)] at hD
  refine ⟨.ref s.heap.objs.size, _, I.laid (t' := tk) hk (Nat.le_refl _) (show ObjOk X.prog X.w _ h' _ (.dK kvs) from ⟨by omega, ?_, vk, kv, hD⟩), rfl, q _ (I.hok.fresh (Nat.le_refl _))⟩
  have b := I.big
  exact beq_eq_false_iff_ne.mpr (Nat.ne_of_gt b)
end
end L2

namespace L2
open PySem PySem.Spec PyProof.Rows
structure MethAt (K : PySem.W.Frag) (C : Addr) (m qual : Str) (st : Stmt) (ps : List Str) : Prop where
  ex : ∃ (f : Addr) (fd : FuncData), Fun K m qual st f fd ∧ Binds K fd ps [] ∧ Meth K C m f
structure InitAt (K : PySem.W.Frag) (C : Addr) (qual : Str) (st : Stmt) (ps : List Str) : Prop where
  ex : ∃ (f : Addr) (fd : FuncData), Fun K "__init__" qual st f fd ∧ Binds K fd ps [] ∧ Mk K C f
structure Mc (P : Program) (w : World) (K : PySem.W.Frag) (mg : Str → Option Value) (base : Heap) (k : Nat) (C : Addr) (m : Str) (ps : List Str) (sp : Sp) : Prop where
  ex : ∃ (f : Addr) (fd : FuncData), FnOk P w K mg base CX0 k f fd ps sp ∧ Binds K fd ps [] ∧ Meth K C m f
structure Ic (P : Program) (w : World) (K : PySem.W.Frag) (mg : Str → Option Value) (base : Heap) (k : Nat) (C : Addr) (ps : List Str) (sp : Sp) : Prop where
  ex : ∃ (f : Addr) (fd : FuncData), FnOk P w K mg base CX0 k f fd ps sp ∧ Binds K fd ps [] ∧ Mk K C f
section
variable {P : Program} {w : World} {K : PySem.W.Frag} {mg : Str → Option Value} {base : Heap} {C : Addr} {m qual : Str} {st : Stmt} {N ps : List Str} {k : Nat} {sp : Sp}
theorem InitAt.ic (D : InitAt K C qual st ps) (S : FnScope N ps (defScope st)) (len : ∀ vs H Q E, sp vs H Q E → vs.length = ps.length)
    (hbody : ∀ (f : Addr) (cdv : Value) (A : Around) (outer : List Env) (s : Shared) (H : Hp) (vs : List V) (Q : VK) (E : XK), Room k (A.deeper (envOfC qual (defScope st) s.heap.objs.size f cdv)) → sp vs H Q E →
      ∃ t, PSs (cxOf CX0 P w K mg base N qual (defScope st) f cdv A outer s H E).nox (defBody st) t ∧ t { nx := fun _ H' => Q .non H', rt := Q } (start N vs) H) : Ic P w K mg base (k + 1) C ps sp := by
  obtain ⟨f, fd, F, b, mm⟩ := D.ex
  exact ⟨f, fd, F.ok S len fun cdv A outer s H vs Q E hr h => hbody f cdv A outer s H vs Q E hr h, b, mm⟩
theorem Mc.imp {sp' : Sp} (F : Mc P w K mg base k C m ps sp) (h : ∀ vs H Q E, sp' vs H Q E → sp vs H Q E) : Mc P w K mg base k C m ps sp' := by
  obtain ⟨f, fd, G, b, mm⟩ := F.ex
  exact ⟨f, fd, G.imp h, b, mm⟩
theorem meth_mk {f : Addr} {oc : Value} {od an : Option Addr} {osl : Array (Option Value)} {kV doc pm cdv ct : Value} (a : PySem.W.findIn K (.ref C) m = some (some (.ref f))) (i : PySem.W.isFn K (.ref f) = true)
    (l : K.lookup f = some ⟨oc, od, .func (PySem.W.fnOf m qual (defArgs st) (defBody st) (defScope st) .none kV doc pm an cdv ct), osl⟩) (c : PySem.W.codeIn K cdv qual = true) (kp : PySem.W.keepIn K (.ref f) = true)
    (hb : ∀ (kV doc pm : Value) (an : Option Addr) (cdv ct : Value) (us : List Value), us.length = ps.length → bindArgs (PySem.W.fnOf m qual (defArgs st) (defBody st) (defScope st) .none kV doc pm an cdv ct) ⟨us, []⟩ = pure (ps.zip us)) : MethAt K C m qual st ps :=
  ⟨f, _, fun_mk l c kp, (fun_mk l c kp).binds hb, ⟨a, i, kp⟩⟩
theorem init_mk {f : Addr} {oc : Value} {od an : Option Addr} {osl : Array (Option Value)} {kV doc pm cdv ct : Value} (a : PySem.W.findIn K (.ref C) "__init__" = some (some (.ref f))) (i : PySem.W.isFn K (.ref f) = true)
    (l : K.lookup f = some ⟨oc, od, .func (PySem.W.fnOf "__init__" qual (defArgs st) (defBody st) (defScope st) .none kV doc pm an cdv ct), osl⟩) (c : PySem.W.codeIn K cdv qual = true) (kp : PySem.W.keepIn K (.ref f) = true)
    (mk : PySem.W.makesIn K C = true) (kc : PySem.W.keepIn K (.ref C) = true)
    (hb : ∀ (kV doc pm : Value) (an : Option Addr) (cdv ct : Value) (us : List Value), us.length = ps.length → bindArgs (PySem.W.fnOf "__init__" qual (defArgs st) (defBody st) (defScope st) .none kV doc pm an cdv ct) ⟨us, []⟩ = pure (ps.zip us)) : InitAt K C qual st ps :=
  ⟨f, _, fun_mk l c kp, (fun_mk l c kp).binds hb, ⟨mk, a, i, kc⟩⟩
end
section
variable {X : Cx} {k : Nat} {ps : List Str} {sp : Sp} {x m : Str} {p pos apos : Pos} {o e : Expr} {es : List Expr} {ta : TE} {t : TA} {C : Addr}
theorem pe_m0 {pl : Sem Bool} (c : Cls X.K C) (F : Mc X.prog X.w X.K X.mg X.base k C m ps sp) (hr : Room k X.A) (ho : PE X o ta)
    (ht : eval (.Call (.Attribute o m apos) [] [] pos) X.env = (do
      let ov ← eval o X.env
      standAt apos.atName
      let (f, first) ← holding [ov] (getMethod ov m pl)
      callWith pos f first (backTo pos (starEach [] X.env)) (backToKw pos (keywordEach [] X.env))) := by rfl) :
    PE X (.Call (.Attribute o m apos) [] [] pos) (tMeth C m sp [] E0 ta tNil) := by
  obtain ⟨f, fd, G, b, mm⟩ := F.ex
  exact pe_meth0 (pl := pl) ho c mm G hr b .nil pass0 ht
theorem pe_mk (hm : X.mg x = some (.ref C)) (F : Ic X.prog X.w X.K X.mg X.base k C ps sp) (hr : Room (k + 1) X.A) (ha : PA X (e :: es) t) (hg : Gl X x := by rfl) (hdb : (x == ("__debug__" : Str)) = false := by decide)
    (he : starEach (e :: es) X.env = (false, eval e X.env) :: starEach es X.env := by rfl) (hpl : (backTo pos (starEach es X.env)).any (·.1) = false := by rfl) :
    PE X (.Call (.Name x p) (e :: es) [] pos) (tMake C sp [] E0 t) := by
  obtain ⟨f, fd, G, b, mm⟩ := F.ex
  exact pe_make mm G hr hg hm b .nil pass0 ha hdb he hpl
end
section
variable {X : Cx} {K : PySem.W.Frag}
theorem ix_tupB (e : X.K = K) : IxR X (rIxT K) := by subst e; exact ix_tup
theorem ix_listB (e : X.K = K) : IxR X (rIxL K) := by subst e; exact ix_list
theorem sl_tupB (e : X.K = K) : SlR X (rSlT K) := by subst e; exact sl_tup
theorem sl_listB (e : X.K = K) : SlR X (rSlL K) := by subst e; exact sl_list
theorem op_catTB (e : X.K = K) : OpR X (binaryOp .Add) (rCatT K) := by subst e; exact op_catT
theorem op_in_seqB (e : X.K = K) : OpR X (compareOp .In) (rIn K false) := by subst e; exact op_in_seq
theorem call_len_seqB (e : X.K = K) : CallR X (.builtin "len") (fun xs H Q => ∃ p ys, xs = [.ref p] ∧ (SqL K H p ys ∨ SqT K H p ys) ∧ Q (.int ys.length) H) := by subst e; exact call_len_seq
theorem call_isinstB (e : X.K = K) : CallR X (.builtin "isinstance") (fun xs H Q => ∃ x y c t b, xs = [x, y] ∧ clsV y = some c ∧ TyOf K H x t ∧ PySem.W.kitOne K t c = some b ∧ Q (.bl b) H) := by subst e; exact call_isinst
theorem call_list_ofB (e : X.K = K) : CallR X (.type "list") (fun xs H Q => ∃ p ys, xs = [.ref p] ∧ (SqL K H p ys ∨ SqT K H p ys) ∧ ∀ l, H l = none → Q (.ref l) (upd H l (.lst ys))) := by subst e; exact call_list_of
end
theorem posI {j : Int} (h : decide (0 < j) = true) : 0 < j := of_decide_eq_true h
end L2

namespace L2
open PySem PySem.Spec PyProof.Rows
theorem ps_setComp {X : Cx} {i : Nat} {x : Str} {elt iter tg : Expr} {ifs : List Expr} {scope : Scope} {pos pos' cpos : Pos} {wi : TI} {g : TG} {tt : TT} {te : TE} (hXN : X.N.Nodup) (hix : X.N[i]? = some x) (N' : List Str) (nt : Nat) (cap : List Nat)
    (hc : X.calm = true) (hi : PI X tg iter wi) (hg : ∀ R, PG (blk X scope N' R) tg g) (hgk : GKeep nt g) (ht : ∀ R, PIfs (blk X scope N' R) ifs tt) (he : ∀ R, PE (blk X scope N' R) elt te)
    (hx : Loc X.env.scope x := by exact Or.inl rfl) (hfn : X.fn x = true ∨ X.env.scope.names.lookup x = some .local := by first | exact .inl rfl | exact .inr rfl | assumption)
    (hsw : swapsWith (.ListComp elt [⟨tg, iter, ifs, 0⟩] scope cpos) (some (.Name x pos')) pos.line X.env = pure true := by rfl)
    (hcell : (scope.names.all fun y => !(y.2 == .cell)) = true := by rfl) (hkind : scope.kind = .function := by rfl)
    (hnames : (scope.names.all fun y => !(y.2 == .local) || (scope.names.lookup y.1 == some .local)) = true := by rfl)
    (hfr : (scope.names.all fun y => !(y.2 == .free) || (X.env.kindOf y.1 == some .cell || X.env.kindOf y.1 == some .free)) = true := by rfl)
    (hN : N'.length = nt + cap.length := by rfl) (hcapN : (cap.map fun j => X.N[j]?) = (N'.drop nt).map some := by rfl) (hcapF : ((N'.drop nt).all fun x => scope.names.lookup x == some .free) = true := by rfl)
    (hs : ∀ x, foldedSetIterable iter X.env x = pure x := by intro _; rfl) :
    PS X (.Assign [.Name x pos'] (.ListComp elt [⟨tg, iter, ifs, 0⟩] scope cpos) pos) (tAsg (tComp nt cap wi g tt te) (gName i)) := by
  intro pins s σ H Ds I h
  have hfr' : ∀ y ∈ scope.names, y.2 = .free → (X.env.kindOf y.1 = some .cell ∨ X.env.kindOf y.1 = some .free) := fun y hy e => by
    have z := all_mem hfr y hy
    rw [e] at z
    have z' : (X.env.kindOf y.1 == some .cell || X.env.kindOf y.1 == some .free) = true := z
    rcases Bool.or_eq_true_iff.mp z' with q | q
    · exact .inl (beq_iff_eq.mp q)
    · exact .inr (beq_iff_eq.mp q)
  have hcell' : ∀ y ∈ scope.names, y.2 ≠ .cell := fun y hy e => by
    have z := all_mem hcell y hy
    rw [e] at z
    cases z
  obtain ⟨cl, hcl, hclk, hclh⟩ := closure_ok (scope := scope) (env := X.env) fun y hy e => I.ok.has y.1 (hfr' y hy e)
  have hnames' : ∀ y ∈ scope.names, y.2 = .local → scope.names.lookup y.1 = some .local := fun y hy e => by
    have z := all_mem hnames y hy
    rw [e] at z
    exact beq_iff_eq.mp z
  have hcapN' : ∀ (k j : Nat), cap[k]? = some j → N'[nt + k]? = X.N[j]? := fun k j e => by
    have z := congrArg (fun l : List (Option Str) => l[k]?) hcapN
    simp only [List.getElem?_map, e, Option.map_some, List.getElem?_drop] at z
    cases q : N'[nt + k]? with
    | none => rw [q] at z; cases z
    | some x => rw [q] at z; exact (Option.some.inj z).symm
  rw [exec_Assign_Name_used _ _ _ _ hsw]
  refine wpAny_bind (wpAny_standAt (wpAny_bind ?_))
  show wpAny _ X.A (do let _ ← comprehension (.ListComp elt [⟨tg, iter, ifs, 0⟩] scope cpos) scope X.env _ (newList []) false (eval iter X.env) (some (assign (.Name x pos') X.env))) _ _ s
  refine wpAny_bind (wpAny_mono (wpAny_comprehension_free (use := some (assign (.Name x pos') X.env)) (Q := fun _ s' => SP X pins Ds .next s') rfl hs hcl hkind hnames'
    (thn (hi pins s σ H _ I h) fun v s1 h1 => thn h1 fun itv s2 h2 => ?_)) (fun _ s' hq => wpAny_pure (wpAny_pure hq)) fun _ _ e => e)
  obtain ⟨it, fp, tn, J, H2, e, I2, T, st2, f2, hw⟩ := h2
  subst e
  refine comp_block (RR := fun acc C => compPost (model X.prog X.w) X.A X.xe (some (assign (.Name x pos') X.env)) (fun _ s' => SP X pins Ds .next s') acc C) hc I2 T st2 f2 hclk hclh hcell' hkind hfr' hN hcapN' (fun x hx => beq_iff_eq.mp (all_mem hcapF x hx)) hg hgk ht he hw ?_
  intro D C s' H' ys hD q I' B
  obtain ⟨m, hn⟩ := B.ns
  obtain ⟨oC, es, ep, hoC, hdC, hrest⟩ := id hn
  have nofs : C ∉ X.fs := fun hb => by
    obtain ⟨_, o, ho, _⟩ := I'.ok.funs.mem hb
    exact absurd (Nat.lt_of_lt_of_le (Heap.lt_size ho) B.ab) (Nat.lt_irrefl _)
  have IC : Inv X ((C, oC) :: pins) σ (upd H' D (.lst ys)) s' := I'.pins_of fun p hp => by
    rcases List.mem_cons.mp hp with rfl | hp
    · exact ⟨hoC, B.fr, B.ne, nofs, fun v z => by rw [hdC] at z; cases z⟩
    · exact I'.pin p (List.mem_append_right _ hp)
  show wpAny _ X.A (assign (.Name x pos') X.env (.ref D)) _ _ _
  refine thn (pg_name hXN hix hx hfn ((C, oC) :: pins) s' σ (upd H' D (.lst ys)) (.ref D) (.ref D) Ds.nx IC rfl (q D hD)) fun _ s'' h'' => ?_
  obtain ⟨σ2, H3, I3, q3⟩ := h''
  have pC := I3.pin (C, oC) (List.mem_append_right _ List.mem_cons_self)
  refine ⟨m, hn.at' (fun o e => ?_), fun h4 hs4 => ⟨σ2, H3, ?_, q3⟩⟩
  · rw [hoC] at e
    cases e
    exact pC.1
  · have I4 : Inv X pins σ2 H3 s'' := I3.pins_of fun p hp => I3.pin p (List.mem_append_right _ (List.mem_cons_of_mem _ hp))
    exact I4.turned (it := C) (t' := s''.toks) (fun b o hb e => hs4.extBut b o hb e) pC.2.1 B.ne (.inr B.ab) B.cl B.pn
end L2

namespace L2
open PySem PySem.Spec PyProof.Rows
section
variable {X : Cx}
end
structure InstC (K : PySem.W.Frag) (C : Addr) : Prop where
  ha : PySem.W.findIn K (.ref C) "__class__" = some (some (.builtin "object.__class__"))
  hn : PySem.W.specialIn K (.builtin "object.__class__") "__get__" = some (some (.builtin "getset_descriptor.__get__"))
  htk : PySem.W.takesIn K (.builtin "object.__class__") = some true
  hm : PySem.W.mroIn K C (.type "object") = some true
theorem MethAt.mcD {P : Program} {w : World} {K : PySem.W.Frag} {mg : Str → Option Value} {base : Heap} {C : Addr} {m qual : Str} {st : Stmt} {N ps : List Str} {k : Nat} {sp : Sp} (D : MethAt K C m qual st ps) (S : FnScope N ps (defScope st)) (len : ∀ vs H Q E, sp vs H Q E → vs.length = ps.length)
    (hbody : ∀ (f : Addr) (cdv : Value) (A : Around) (outer : List Env) (s : Shared) (H : Hp) (vs : List V) (Q : VK) (E : XK), Room k (A.deeper (envOfC qual (defScope st) s.heap.objs.size f cdv)) → sp vs H Q E →
      ∃ t, PSs (cxOf CX0 P w K mg base N qual (defScope st) f cdv A outer s H E).nox (defBody st) t ∧ t { nx := fun _ H' => dropQ Q .non H', rt := dropQ Q } (start N vs) H) : Mc P w K mg base (k + 1) C m ps sp := by
  obtain ⟨f, fd, F, b, mm⟩ := D.ex
  refine ⟨f, fd, FnOk.drop len (F.ok S (fun vs H Q E ⟨Q', h, _⟩ => len vs H Q' E h) fun cdv A outer s H vs Q E hr ⟨Q', h, e⟩ => ?_), b, mm⟩
  subst e
  exact hbody f cdv A outer s H vs Q' E hr h
theorem Drop.under {H : Hp} {p q : Addr} {o u : HO} (hp : H p = none) (d : droppable o = true) (hq : L2.upd H p o q = none) : Drop (L2.upd (L2.upd H p o) q u) (L2.upd H q u) := fun b => by
  by_cases hb : b = q
  · subst hb
    left
    rw [upd_same, upd_same]
  · rw [upd_ne hb, upd_ne hb]
    by_cases hc : b = p
    · subst hc
      right
      exact ⟨hp, o, upd_same, d⟩
    · left
      rw [upd_ne hc]
end L2

namespace Ld
open PySem L2
def letter (c : Nat) : Bool := decide (97 ≤ c) && decide (c ≤ 122)
def nameS (z : Str) : Bool := decide (1 ≤ z.length) && decide (z.length ≤ 8) && !decide (z = "sea") && z.cps.toList.all letter
def isInt : Dv → Bool
  | .int _ => true
  | _ => false
def isBl : Dv → Bool
  | .bl _ => true
  | _ => false
def isStr : Dv → Bool
  | .str _ => true
  | _ => false
def isLst : Dv → Bool
  | .lst _ => true
  | _ => false
def isTup : Dv → Bool
  | .tup _ => true
  | _ => false
def tupIs (n : Int) : Dv → Bool
  | .tup ds => decide ((ds.length : Int) = n)
  | _ => false
def lstIn (n : Int) : Dv → Bool
  | .lst ds => decide (1 ≤ ds.length) && decide ((ds.length : Int) ≤ n)
  | _ => false
def isName : Dv → Bool
  | .str z => nameS z
  | _ => false
def hgt (i : Int) : Bool := decide (-1000000 ≤ i) && decide (i ≤ 1000000)
def amt (i : Int) : Bool := decide (0 ≤ i) && decide (i ≤ 1000000)
def isHeight : Dv → Bool
  | .int i => hgt i
  | _ => false
def isAmount : Dv → Bool
  | .int i => amt i
  | _ => false
def oneOf (zs : List Str) : Dv → Bool
  | .str z => decide (z ∈ zs)
  | _ => false
def firstS : Dv → Option Str
  | .tup (.str z :: _) => some z
  | _ => none
def isField : Dv → Bool
  | .tup [a, b, c] => isName a && (isHeight b && isAmount c)
  | _ => false
def areFields : Dv → Bool
  | .lst ds => (decide (1 ≤ ds.length) && decide (ds.length ≤ 12)) && (ds.all isField && decide ((ds.map firstS).Nodup))
  | _ => false
def areSides (zs : List Str) (a b : Dv) : Bool := oneOf zs a && (oneOf zs b && !deq a b)
def isSill (c : Dv) : Dv → Bool
  | .non => true
  | .int i => hgt i && (match c with | .int j => decide (i < j) | _ => false)
  | _ => false
def isDyke (zs : List Str) : Dv → Bool
  | .tup [n, a, b, c, r, s] => isName n && areSides zs a b && (isHeight c && (isAmount r && isSill c s))
  | _ => false
def areDykes (zs : List Str) : Dv → Bool
  | .lst ds => (decide (1 ≤ ds.length) && decide (ds.length ≤ 40)) && (ds.all (isDyke zs) && decide ((ds.map firstS).Nodup))
  | _ => false
mutual
def small : Dv → Bool
  | .str z => decide (z.length ≤ 1000)
  | .lst ds => decide (ds.length ≤ 1000) && smallL ds
  | .tup ds => decide (ds.length ≤ 1000) && smallL ds
  | _ => true
def smallL : List Dv → Bool
  | [] => true
  | d :: ds => small d && smallL ds
end
theorem smallL_mem : ∀ {ds : List Dv} {d : Dv}, smallL ds = true → d ∈ ds → small d = true
  | [], _, _, m => by cases m
  | e :: ds, d, f, m => by
    rw [smallL, Bool.and_eq_true] at f
    rcases List.mem_cons.mp m with rfl | m
    · exact f.1
    · exact smallL_mem f.2 m
theorem small_tup {ds : List Dv} (h : small (.tup ds) = true) : smallL ds = true := (Bool.and_eq_true_iff.mp (show (decide (ds.length ≤ 1000) && smallL ds) = true from h)).2
theorem Is_kit (K : PySem.W.Frag) {H : Hp} {d : Dv} {x : V} (h : Is H d x) : ∃ t, TyOf K H x t ∧ PySem.W.kitOne K t (.type "int") = some (isInt d || isBl d) ∧ PySem.W.kitOne K t (.type "bool") = some (isBl d) ∧
    PySem.W.kitOne K t (.type "str") = some (isStr d) ∧ PySem.W.kitOne K t (.type "list") = some (isLst d) ∧ PySem.W.kitOne K t (.type "tuple") = some (isTup d) := by
  cases d with
  | non => cases (show x = .non from h); exact ⟨_, .non, rfl, rfl, rfl, rfl, rfl⟩
  | bl b => cases (show x = .bl b from h); exact ⟨_, .bl b, rfl, kit_self _ _, rfl, rfl, rfl⟩
  | int i => cases (show x = .int i from h); exact ⟨_, .int i, kit_self _ _, rfl, rfl, rfl, rfl⟩
  | str z => cases (show x = .str z from h); exact ⟨_, .str z, rfl, rfl, kit_self _ _, rfl, rfl⟩
  | lst ds => obtain ⟨a, vs, rfl, e, _⟩ := h; exact ⟨_, .lst e, rfl, rfl, rfl, kit_self _ _, rfl⟩
  | tup ds => obtain ⟨a, vs, rfl, e, _⟩ := h; exact ⟨_, .tup e, rfl, rfl, rfl, rfl, kit_self _ _⟩
  | dct ks ds => obtain ⟨a, vs, rfl, e, _⟩ := h; exact ⟨_, .dK e, rfl, rfl, rfl, rfl, rfl⟩
theorem letters_list : ("abcdefghijklmnopqrstuvwxyz" : Str).cps.toList = [97, 98, 99, 100, 101, 102, 103, 104, 105, 106, 107, 108, 109, 110, 111, 112, 113, 114, 115, 116, 117, 118, 119, 120, 121, 122] := by decide +kernel
theorem in_letters (c : Nat) : (!(Builtin.Str.occurrences ("abcdefghijklmnopqrstuvwxyz" : Str) ⟨#[c]⟩ 0 ("abcdefghijklmnopqrstuvwxyz" : Str).length 1).isEmpty) = letter c := by
  rw [PySem.StrLaws.found_one, letters_list]
  have h1 : ∀ d, d ∈ ([97, 98, 99, 100, 101, 102, 103, 104, 105, 106, 107, 108, 109, 110, 111, 112, 113, 114, 115, 116, 117, 118, 119, 120, 121, 122] : List Nat) → 97 ≤ d ∧ d ≤ 122 := by decide
  have h2 : ∀ k, k < 26 → (97 + k) ∈ ([97, 98, 99, 100, 101, 102, 103, 104, 105, 106, 107, 108, 109, 110, 111, 112, 113, 114, 115, 116, 117, 118, 119, 120, 121, 122] : List Nat) := by decide
  unfold letter
  by_cases h : 97 ≤ c ∧ c ≤ 122
  · have e := h2 (c - 97) (by omega)
    rw [show 97 + (c - 97) = c by omega] at e
    rw [decide_eq_true e, decide_eq_true h.1, decide_eq_true h.2]
    rfl
  · have e : ¬ c ∈ ([97, 98, 99, 100, 101, 102, 103, 104, 105, 106, 107, 108, 109, 110, 111, 112, 113, 114, 115, 116, 117, 118, 119, 120, 121, 122] : List Nat) := fun m => h (h1 c m)
    rw [decide_eq_false e]
    by_cases h' : 97 ≤ c
    · rw [decide_eq_true h', decide_eq_false (fun z => h ⟨h', z⟩)]
      rfl
    · rw [decide_eq_false h']
      rfl
def nmOf (d : Dv) : Str := (firstS d).getD ""
def keyOf (d : Dv) : Key := .inr (nmOf d)
theorem first_nm {d : Dv} {z : Str} (h : firstS d = some z) : nmOf d = z := by unfold nmOf; rw [h]; rfl
def landF (d1 d2 : Addr) : List (Str × V) := putF "dyke_rows" (.ref d2) (putF "field_rows" (.ref d1) [])
theorem fd_ne : ¬ (("field_rows" : Str) = "dyke_rows") := by decide +kernel
theorem landF_f (d1 d2 : Addr) : (landF d1 d2).lookup ("field_rows" : Str) = some (.ref d1) := by
  unfold landF
  rw [lookup_putF, if_neg fd_ne, lookup_putF, if_pos rfl]
theorem landF_d (d1 d2 : Addr) : (landF d1 d2).lookup ("dyke_rows" : Str) = some (.ref d2) := by
  unfold landF
  rw [lookup_putF, if_pos rfl]
theorem landF_no (d1 d2 : Addr) {m : Str} (h1 : ¬ m = "dyke_rows") (h2 : ¬ m = "field_rows") : (landF d1 d2).lookup m = none := by
  unfold landF
  rw [lookup_putF, if_neg h1, lookup_putF, if_neg h2]
  all_goals rfl
def Table (H : Hp) (a : Addr) (ds : List Dv) : Prop := ∃ kvs, H a = some (.dK kvs) ∧ kvs.map (·.1) = ds.map keyOf ∧ IsL H ds (kvs.map (·.2))
structure LandAt (C : Addr) (H : Hp) (x : Addr) (fs ds : List Dv) : Prop where
  ex : ∃ dx d1 d2, H x = some (.ins C dx (landF d1 d2)) ∧ Table H d1 fs ∧ Table H d2 ds
  okf : areFields (.lst fs) = true
  okd : areDykes ("sea" :: fs.map nmOf) (.lst ds) = true
theorem firsts_nm : ∀ {ds : List Dv} {p : Dv → Bool}, (∀ d, p d = true → ∃ z, firstS d = some z) → ds.all p = true → ds.map firstS = (ds.map nmOf).map some
  | [], _, _, _ => rfl
  | d :: ds, p, hp, h => by
    rw [List.all_cons, Bool.and_eq_true] at h
    obtain ⟨z, e⟩ := hp d h.1
    rw [List.map_cons, List.map_cons, List.map_cons, firsts_nm hp h.2, first_nm e, e]
theorem nodup_some (zs : List Str) : (zs.map some).Nodup ↔ zs.Nodup := by
  induction zs with
  | nil => simp
  | cons z zs ih =>
    rw [List.map_cons, List.nodup_cons, List.nodup_cons, ih]
    simp
theorem field_shape {d : Dv} (h : isField d = true) : ∃ z g e, d = .tup [.str z, .int g, .int e] ∧ nameS z = true ∧ hgt g = true ∧ amt e = true := by
  unfold isField at h
  split at h
  · rename_i a b c
    rw [Bool.and_eq_true, Bool.and_eq_true] at h
    obtain ⟨h1, h2, h3⟩ := h
    cases a with
    | str z =>
      cases b with
      | int g =>
        cases c with
        | int e => exact ⟨z, g, e, rfl, h1, h2, h3⟩
        | _ => cases h3
      | _ => cases h2
    | _ => cases h1
  · cases h
theorem field_first (d : Dv) (h : isField d = true) : ∃ z, firstS d = some z := by
  obtain ⟨z, _, _, rfl, _⟩ := field_shape h
  exact ⟨z, rfl⟩
theorem dyke_shape {zs : List Str} {d : Dv} (h : isDyke zs d = true) : ∃ n a b c r s, d = .tup [.str n, .str a, .str b, .int c, .int r, s] ∧ nameS n = true ∧ a ∈ zs ∧ b ∈ zs ∧ a ≠ b ∧ hgt c = true ∧ amt r = true ∧ isSill (.int c) s = true := by
  unfold isDyke at h
  split at h
  · rename_i n a b c r s
    rw [Bool.and_eq_true, Bool.and_eq_true, Bool.and_eq_true, Bool.and_eq_true] at h
    obtain ⟨⟨h1, h2⟩, h3, h4, h5⟩ := h
    unfold areSides at h2
    rw [Bool.and_eq_true, Bool.and_eq_true] at h2
    obtain ⟨h6, h7, h8⟩ := h2
    cases n with
    | str n =>
      cases a with
      | str a =>
        cases b with
        | str b =>
          cases c with
          | int c =>
            cases r with
            | int r =>
              refine ⟨n, a, b, c, r, s, rfl, h1, of_decide_eq_true h6, of_decide_eq_true h7, ?_, h3, h4, h5⟩
              intro z
              subst z
              have : (!(a == a)) = true := h8
              rw [beq_self_eq_true] at this
              cases this
            | _ => cases h4
          | _ => cases h3
        | _ => cases h7
      | _ => cases h6
    | _ => cases h1
  · cases h
theorem dyke_first {zs : List Str} (d : Dv) (h : isDyke zs d = true) : ∃ z, firstS d = some z := by
  obtain ⟨z, _, _, _, _, _, rfl, _⟩ := dyke_shape h
  exact ⟨z, rfl⟩
structure GoodF (fs : List Dv) : Prop where
  l1 : 1 ≤ fs.length
  l2 : fs.length ≤ 12
  all : ∀ d ∈ fs, isField d = true
  nd : (fs.map nmOf).Nodup
structure GoodD (zs : List Str) (ds : List Dv) : Prop where
  l1 : 1 ≤ ds.length
  l2 : ds.length ≤ 40
  all : ∀ d ∈ ds, isDyke zs d = true
  nd : (ds.map nmOf).Nodup
theorem goodF_iff (fs : List Dv) : areFields (.lst fs) = true ↔ GoodF fs := by
  show ((decide (1 ≤ fs.length) && decide (fs.length ≤ 12)) && (fs.all isField && decide ((fs.map firstS).Nodup))) = true ↔ _
  rw [Bool.and_eq_true, Bool.and_eq_true, Bool.and_eq_true, decide_eq_true_iff, decide_eq_true_iff, decide_eq_true_iff]
  constructor
  · rintro ⟨⟨a, b⟩, c, d⟩
    rw [firsts_nm field_first c, nodup_some] at d
    exact ⟨a, b, List.all_eq_true.mp c, d⟩
  · rintro ⟨a, b, c, d⟩
    have c' := List.all_eq_true.mpr c
    refine ⟨⟨a, b⟩, c', ?_⟩
    rw [firsts_nm field_first c', nodup_some]
    exact d
theorem goodD_iff (zs : List Str) (ds : List Dv) : areDykes zs (.lst ds) = true ↔ GoodD zs ds := by
  show ((decide (1 ≤ ds.length) && decide (ds.length ≤ 40)) && (ds.all (isDyke zs) && decide ((ds.map firstS).Nodup))) = true ↔ _
  rw [Bool.and_eq_true, Bool.and_eq_true, Bool.and_eq_true, decide_eq_true_iff, decide_eq_true_iff, decide_eq_true_iff]
  constructor
  · rintro ⟨⟨a, b⟩, c, d⟩
    rw [firsts_nm dyke_first c, nodup_some] at d
    exact ⟨a, b, List.all_eq_true.mp c, d⟩
  · rintro ⟨a, b, c, d⟩
    have c' := List.all_eq_true.mpr c
    refine ⟨⟨a, b⟩, c', ?_⟩
    rw [firsts_nm dyke_first c', nodup_some]
    exact d
def isNon : Dv → Bool
  | .non => true
  | _ => false
def hasSill : Dv → Bool
  | .tup [_, _, _, _, _, s] => !isNon s
  | _ => false
theorem smallL_of : ∀ {ds : List Dv}, (∀ d ∈ ds, small d = true) → smallL ds = true
  | [], _ => rfl
  | d :: ds, h => by
    rw [smallL, h d List.mem_cons_self, smallL_of fun e m => h e (List.mem_cons_of_mem _ m)]
    rfl
end Ld

namespace Mt02
open PySem L2 Ld
def alph (i : Nat) : Nat := if i < 18 then 97 + i else 98 + i
theorem alph_inj {i j : Nat} (hi : i < 25) (hj : j < 25) (h : alph i = alph j) : i = j := by
  unfold alph at h
  split at h <;> split at h <;> omega
theorem alph_letter {i : Nat} (hi : i < 25) : letter (alph i) = true ∧ alph i ≠ 115 := by
  unfold alph letter
  split
  · exact ⟨by rw [decide_eq_true (by omega), decide_eq_true (by omega)]; rfl, by omega⟩
  · exact ⟨by rw [decide_eq_true (by omega), decide_eq_true (by omega)]; rfl, by omega⟩
theorem alph_list : ("abcdefghijklmnopqrtuvwxyz" : Str).cps.toList = (List.range 25).map alph := by decide +kernel
theorem alph_at {i : Int} (h0 : 0 ≤ i) (h1 : i < 25) : atI ("abcdefghijklmnopqrtuvwxyz" : Str).cps.toList i = some (alph i.toNat) := by
  obtain ⟨k, rfl⟩ := Int.eq_ofNat_of_zero_le h0
  rw [alph_list]
  refine atI_nat ?_
  rw [List.getElem?_map, List.getElem?_range (by omega)]
  simp
def rst (c : Int) : Nat → Int
  | 0 => c / 3
  | j + 1 => rst c j / 25
def num (o : Nat → Int) (c p b : Int) (k j : Nat) : Int := if (j : Int) = b then c / 17 + ((k : Int) / 25) else if (j : Int) = p then c / 11 + (k : Int) else o j
def code (o : Nat → Int) (c p b : Int) (k j : Nat) : Nat := alph (num o c p b k j % 25).toNat
def nm (o : Nat → Int) (c p b : Int) (n k : Nat) : Str := ⟨((List.range n).map (code o c p b k)).toArray⟩
theorem nm_len (o : Nat → Int) (c p b : Int) (n k : Nat) : (nm o c p b n k).length = n := by simp [nm, Str.length]
theorem nm_codes (o : Nat → Int) (c p b : Int) (n k : Nat) : (nm o c p b n k).cps.toList = (List.range n).map (code o c p b k) := by simp [nm]
theorem nm_zero (o : Nat → Int) (c p b : Int) (k : Nat) : nm o c p b 0 k = "" := by
  show (⟨#[]⟩ : Str) = ""
  decide +kernel
theorem str_ext {x y : Str} (h : x.cps.toList = y.cps.toList) : x = y := by
  cases x; cases y
  simp only [Str.mk.injEq]
  exact Array.toList_inj.mp h
theorem nm_succ (o : Nat → Int) (c p b : Int) (n k : Nat) : nm o c p b n k ++ (⟨#[code o c p b k n]⟩ : Str) = nm o c p b (n + 1) k := by
  apply str_ext
  rw [Tx.app_codes, nm_codes, nm_codes, List.range_succ, List.map_append]
  rfl
theorem code_ok (o : Nat → Int) (c p b : Int) (k j : Nat) : letter (code o c p b k j) = true ∧ code o c p b k j ≠ 115 := by
  have h0 := Int.emod_nonneg (num o c p b k j) (show (25 : Int) ≠ 0 by decide)
  have h1 := Int.emod_lt_of_pos (num o c p b k j) (show (0 : Int) < 25 by decide)
  exact alph_letter (by omega)
theorem sea_codes : ("sea" : Str).cps.toList = [115, 101, 97] := by decide +kernel
theorem nm_good (o : Nat → Int) (c p b : Int) (n k : Nat) (h0 : 1 ≤ n) (h1 : n ≤ 8) : nameS (nm o c p b n k) = true := by
  have e1 : (nm o c p b n k).cps.toList.all letter = true := by
    rw [nm_codes, List.all_eq_true]
    intro y hy
    obtain ⟨j, _, rfl⟩ := List.mem_map.mp hy
    exact (code_ok o c p b k j).1
  have e2 : ¬ nm o c p b n k = "sea" := by
    intro h
    have := congrArg (fun z => z.cps.toList) h
    simp only [nm_codes, sea_codes] at this
    have h2 : (115 : Nat) ∈ (List.range n).map (code o c p b k) := by rw [this]; exact List.mem_cons_self
    obtain ⟨j, _, e⟩ := List.mem_map.mp h2
    exact (code_ok o c p b k j).2 e
  unfold nameS
  rw [nm_len, e1, decide_eq_true h0, decide_eq_true h1, decide_eq_false e2]
  rfl
theorem nm_inj {o : Nat → Int} {c p b : Int} {n m k l : Nat} (hp0 : 0 ≤ p) (hpn : p < n) (hb0 : 0 ≤ b) (hbn : b < n) (hpb : p ≠ b) (hk : k < 625) (hl : l < 625) (h : nm o c p b n k = nm o c p b m l) : k = l := by
  have hlen : n = m := by
    have := congrArg Str.length h
    rwa [nm_len, nm_len] at this
  subst hlen
  have hc : (List.range n).map (code o c p b k) = (List.range n).map (code o c p b l) := by
    have := congrArg (fun z => z.cps.toList) h
    simpa only [nm_codes] using this
  have at_ : ∀ j, j < n → code o c p b k j = code o c p b l j := fun j hj => by
    have := congrArg (fun z => z[j]?) hc
    simpa [List.getElem?_map, List.getElem?_range hj] using this
  have num_ : ∀ j, j < n → num o c p b k j % 25 = num o c p b l j % 25 := fun j hj => by
    have h1 := Int.emod_nonneg (num o c p b k j) (show (25 : Int) ≠ 0 by decide)
    have h2 := Int.emod_lt_of_pos (num o c p b k j) (show (0 : Int) < 25 by decide)
    have h3 := Int.emod_nonneg (num o c p b l j) (show (25 : Int) ≠ 0 by decide)
    have h4 := Int.emod_lt_of_pos (num o c p b l j) (show (0 : Int) < 25 by decide)
    have := alph_inj (by omega) (by omega) (at_ j hj)
    omega
  have n1 := num_ p.toNat (by omega)
  have n2 := num_ b.toNat (by omega)
  unfold num at n1 n2
  rw [if_neg (by omega), if_pos (by omega), if_neg (by omega), if_pos (by omega)] at n1
  rw [if_pos (by omega), if_pos (by omega)] at n2
  omega
structure Names (zs : List Str) (n : Nat) : Prop where
  len : zs.length = n
  nd : zs.Nodup
  good : ∀ z ∈ zs, nameS z = true
theorem names_of {o : Nat → Int} {c p b : Int} {sh n : Nat} {len : Nat → Nat} (hp0 : 0 ≤ p) (hps : p < sh) (hb0 : 0 ≤ b) (hbs : b < sh) (hpb : p ≠ b) (hsh : 1 ≤ sh) (hl : ∀ k, sh ≤ len k ∧ len k ≤ 8) (hn : n ≤ 625) :
    Names ((List.range n).map fun k => nm o c p b (len k) k) n where
  len := by simp
  nd := by
    rw [List.nodup_iff_pairwise_ne, List.pairwise_map]
    refine List.Pairwise.imp_of_mem ?_ (List.pairwise_lt_range (n := n))
    intro k l hk hl' hkl he
    have := List.mem_range.mp hk
    have := List.mem_range.mp hl'
    have h1 := hl k
    have e := nm_inj (n := len k) (m := len l) hp0 (by omega) hb0 (by omega) hpb (by omega) (by omega) he
    omega
  good := by
    intro z hz
    obtain ⟨k, _, rfl⟩ := List.mem_map.mp hz
    have h1 := hl k
    exact nm_good _ _ _ _ _ _ (by omega) (by omega)
end Mt02

namespace Mt04
open PySem L2 Ld
def crownD : Dv → Int
  | .tup [_, _, _, .int c, _, _] => c
  | _ => 0
def hOf : Dv → Int
  | .tup [_, .int h] => h
  | _ => 0
def crownOf (ds : List Dv) (z : Str) : Int := (ds.find? fun d => decide (nmOf d = z)).elim 0 crownD
def isWork (ds : List Dv) : Dv → Bool
  | .tup [.str z, .int h] => decide (z ∈ ds.map nmOf) && (hgt h && decide (crownOf ds z ≤ h))
  | _ => false
def areWorks (ds : List Dv) : Dv → Bool
  | .lst ws => ws.all (isWork ds) && decide ((ws.map firstS).Nodup)
  | _ => false
structure GoodW (ds ws : List Dv) : Prop where
  all : ∀ d ∈ ws, isWork ds d = true
  nd : (ws.map nmOf).Nodup
def wAt (ws : List Dv) (z : Str) : Option Int := (ws.find? fun d => decide (nmOf d = z)).map hOf
def newD (ws : List Dv) : Dv → Dv
  | .tup [.str n, a, b, .int c, r, s] => .tup [.str n, a, b, .int ((wAt ws n).getD c), r, s]
  | d => d
def raisedD (ds ws : List Dv) : List Dv := ds.map (newD ws)
def kvOf (d : Dv) : Key × V := (keyOf d, .int (hOf d))
end Mt04

namespace Mt05
open PySem L2 Ld Mt02
def noS (z : Str) : Prop := ¬ (115 : Nat) ∈ z.cps.toList
structure NamesS (zs : List Str) (n : Nat) : Prop where
  nm : Names zs n
  nos : ∀ z ∈ zs, noS z
theorem namesS_of {o : Nat → Int} {c p b : Int} {n : Nat} {len : Nat → Nat} (h : Names ((List.range n).map fun k => Mt02.nm o c p b (len k) k) n) : NamesS ((List.range n).map fun k => Mt02.nm o c p b (len k) k) n := by
  refine ⟨h, fun z m => ?_⟩
  obtain ⟨k, _, rfl⟩ := List.mem_map.mp m
  unfold noS
  rw [nm_codes]
  intro hm
  obtain ⟨j, _, e⟩ := List.mem_map.mp hm
  exact (code_ok o c p b k j).2 e
end Mt05

namespace L2
open PySem PySem.Spec PyProof.Rows
def CX2 (P : Program) (w : World) : CXT := fun outer H s E e s' => ∃ (ea : Addr) (cls a0 : Value) (B : Heap) (H' : Hp), e = .ref ea ∧ s'.os = s.os ∧ AllBare s'.gens ∧ Un (frs outer) [] H H' s.heap s'.heap ∧ HOk P w H' s'.heap ∧
  Heap.FlyingW B outer ea cls a0 s'.heap ∧ (∀ b o o', s.heap.get? b = some o → s'.heap.get? b = some o' → b ∉ frs outer → B.get? b = some o') ∧ (∀ b o', H' b ≠ none → s'.heap.get? b = some o' → B.get? b = some o') ∧ E cls none H'

section
variable {X : Cx} {pins : List (Addr × Obj)} {σ : St} {H H' : Hp} {s s' : Shared} {B h2 : Heap} {ea : Addr} {cls a0 : Value}
theorem fly_un (I : Inv X pins σ H s) (u : Un (frs X.stack) [] H H' s.heap s'.heap) (hB : ∀ b o o', s.heap.get? b = some o → s'.heap.get? b = some o' → b ∉ frs X.stack → B.get? b = some o')
    (k : B.StaysIn h2) (us : s'.heap.UpToSlots h2) : Un (frs X.stack) [] H H' s.heap h2 where
  keep := fun b o e n hb hx => k b o (hB b o o e (u.keep b o e n hb hx) hb)
  slot := fun b o e n hb hx => by
    obtain ⟨sl, e1⟩ := u.slot b o e n hb hx
    obtain ⟨_, o1, e2, hd⟩ := I.stack.mem hb
    rw [e] at e2
    cases e2
    obtain ⟨sl', e3⟩ := us b _ e1 hd
    exact ⟨sl', e3⟩
  free := u.free
  there := fun b o e hx => by
    obtain ⟨o', e1⟩ := u.there b o e hx
    by_cases hb : b ∈ frs X.stack
    · obtain ⟨_, o1, e2, hd⟩ := I.stack.mem hb
      rw [e] at e2
      cases e2
      obtain ⟨sl, e3⟩ := u.slot b o e (I.stkFree b hb) hb hx
      obtain ⟨sl', e4⟩ := us b _ e3 hd
      exact ⟨_, e4⟩
    · exact ⟨o', k b o' (hB b o o' e e1 hb)⟩
  tups := u.tups
  frzs := u.frzs
  tbls := u.tbls
theorem fly_hok {P : Program} {w : World} (ok : HOk P w H' s'.heap) (hT : ∀ b o', H' b ≠ none → s'.heap.get? b = some o' → B.get? b = some o') (k : B.StaysIn h2) : HOk P w H' h2 := fun a o e =>
  (ok a o e).stay (fun b v hb q => k b v (hT b v (by
    rcases hb with rfl | hb
    · rw [e]; simp
    · rw [hb]; simp) q)) (fun _ q => q) fun _ _ q => q
theorem fly_inv (I : Inv X pins σ H s) (os : s'.os = s.os) (bare : AllBare s'.gens) (u : Un (frs X.stack) [] H H' s.heap s'.heap) (ok : HOk X.prog X.w H' s'.heap) (hB : ∀ b o o', s.heap.get? b = some o → s'.heap.get? b = some o' → b ∉ frs X.stack → B.get? b = some o')
    (hT : ∀ b o', H' b ≠ none → s'.heap.get? b = some o' → B.get? b = some o') (k : B.StaysIn h2) (us : s'.heap.UpToSlots h2) : Inv X pins σ H' { s' with heap := h2 } :=
  I.call' (s' := { s' with heap := h2 }) (ch := []) os (fly_un I u hB k us) (fly_hok ok hT k) bare fun b z => absurd z (by simp)
end
theorem ObjOk.has {P : Program} {w : World} {H : Hp} {h : Heap} {a : Addr} {o : HO} (x : ObjOk P w H h a o) : ∃ u, h.get? a = some u := by
  cases o with
  | lst xs => obtain ⟨_, _, _, _, e⟩ := x; exact ⟨_, e⟩
  | tup xs => obtain ⟨_, _, _, ob, e, _⟩ := x; exact ⟨_, e⟩
  | dK kvs => obtain ⟨_, _, _, _, o, _, _, e, _⟩ := x; exact ⟨_, e⟩
  | dT kvs => obtain ⟨_, _, _, _, o, _, _, e, _⟩ := x; exact ⟨_, e⟩
  | set S n => obtain ⟨o, _, _, _, e, _⟩ := x; exact ⟨_, e⟩
  | ins C dx fs => obtain ⟨_, _, _, e, _⟩ := x; exact ⟨_, e⟩
  | own y => obtain ⟨_, e⟩ := x; exact ⟨_, e⟩
  | xd fs => obtain ⟨_, ⟨_, _, _, e, _⟩, _⟩ := x; exact ⟨_, e⟩
  | rng lo hi => obtain ⟨_, _, _, e⟩ := x; exact ⟨_, e⟩
  | frz ob u => obtain ⟨e, _⟩ := x; exact ⟨_, e⟩
  | tbl ps => exact ⟨_, show h.get? a = some _ from x⟩
  | met f y => exact ⟨_, show h.get? a = some _ from x⟩
  | ext φ => obtain ⟨_, ⟨_, e⟩, _⟩ := x; exact ⟨_, e⟩
theorem HOk.has {P : Program} {w : World} {H : Hp} {h : Heap} {a : Addr} (x : HOk P w H h) (e : H a ≠ none) : ∃ u, h.get? a = some u := by
  cases q : H a with
  | none => exact absurd q e
  | some o => exact (x a o q).has

section
variable {P : Program} {w : World} {K : PySem.W.Frag} {mg : Str → Option Value} {base : Heap} {N : List Str} {qual : Str} {scope : Scope} {f : Addr} {cd : Value} {A : Around} {outer : List Env} {s : Shared} {H : Hp} {E : XK}
theorem fly_out {pins : List (Addr × Obj)} {σ : St} {H1 H' : Hp} {s1 s' : Shared} {B h2 : Heap} {ea : Addr} {cls a0 : Value} (I : Inv (cxOf (CX2 P w) P w K mg base N qual scope f cd A outer s H E) pins σ H1 s1) (os : s'.os = s1.os) (bare : AllBare s'.gens)
    (u : Un (frs (envOfC qual scope s.heap.objs.size f cd :: outer)) [] H1 H' s1.heap s'.heap) (ok : HOk P w H' s'.heap) (hB : ∀ b o o', s1.heap.get? b = some o → s'.heap.get? b = some o' → b ∉ frs (envOfC qual scope s.heap.objs.size f cd :: outer) → B.get? b = some o')
    (hT : ∀ b o', H' b ≠ none → s'.heap.get? b = some o' → B.get? b = some o') (fl : Heap.FlyingW B outer ea cls a0 h2) (us : s'.heap.UpToSlots h2) (q : E cls none H') : CX2 P w outer H s E (.ref ea) { s' with heap := h2 } := by
  have J := fly_inv (h2 := h2) I os bare u ok hB hT fl.1 us
  refine ⟨ea, cls, a0, B, H', rfl, J.os, J.bare, J.base, J.hok, fl, fun b o o' e e' nb => ?_, fun b o' n e' => ?_, q⟩
  · obtain ⟨o1, e1⟩ := I.base.there b o e (fun z => absurd z (by simp [cxOf]))
    obtain ⟨o2, e2⟩ := u.there b o1 e1 (by simp)
    have hb : b ∉ frs (envOfC qual scope s.heap.objs.size f cd :: outer) := fun z => by
      have lt : b < s.heap.objs.size := Heap.lt_size e
      have z' : b ∈ s.heap.objs.size :: frs outer := z
      rcases List.mem_cons.mp z' with r | r
      · exact absurd lt (by rw [r]; exact Nat.lt_irrefl _)
      · exact nb r
    have e3 := hB b o1 o2 e1 e2 hb
    have e4 := fl.1 b o2 e3
    rw [show h2.get? b = some o' from e'] at e4
    cases e4
    exact e3
  · obtain ⟨o2, e2⟩ := ok.has n
    have e3 := hT b o2 n e2
    have e4 := fl.1 b o2 e3
    rw [show h2.get? b = some o' from e'] at e4
    cases e4
    exact e3
theorem raises2 {pins : List (Addr × Obj)} {σ : St} {H1 : Hp} {s1 : Shared} {h1 : Heap} {e : Addr} {cls : Value} {args : List Value} (I : Inv (cxOf (CX2 P w) P w K mg base N qual scope f cd A outer s H E) pins σ H1 s1) (hx : Heap.MadeExcOf s1.heap h1 e cls args) (q : E cls none H1) :
    (cxOf (CX2 P w) P w K mg base N qual scope f cd A outer s H E).xe (.ref e) { s1 with heap := h1 } := by
  have S : s1.heap.FunFrames base (envOfC qual scope s.heap.objs.size f cd :: outer) := I.stack
  have hin : ∀ v ∈ envOfC qual scope s.heap.objs.size f cd :: outer, ∀ b, v.frame = some b → b ∈ frs (envOfC qual scope s.heap.objs.size f cd :: outer) := fun v hv b hb => List.mem_filterMap.mpr ⟨v, hv, hb⟩
  refine wpAny_leaves_madeW (base := PySem.W.hideAll s1.heap (frs (envOfC qual scope s.heap.objs.size f cd :: outer))) (h := s1.heap) (env := envOfC qual scope s.heap.objs.size f cd) (outer := outer) I.ok.frames rfl (fun b o z => PySem.W.of_hideAll _ z) (PySem.W.funFrames_hide S hin) hx fun h2 t fl _ _ us => ?_
  refine fly_out (s1 := s1) (s' := { s1 with heap := h1 }) I rfl I.bare (Un.kept hx.keeps) (I.hok.kept hx.keeps) (fun b o o' e1 e2 nb => ?_) (fun b o' n e2 => ?_) fl us q
  · have e3 := hx.keeps b o e1
    rw [show h1.get? b = some o' from e2] at e3
    cases e3
    exact PySem.W.hideAll_get _ e1 nb
  · obtain ⟨o, e1⟩ := I.hok.has n
    have e3 := hx.keeps b o e1
    rw [show h1.get? b = some o' from e2] at e3
    cases e3
    exact PySem.W.hideAll_get _ e1 fun z => n (I.stkFree b z)
end
end L2

namespace L2
open PySem PySem.Spec PyProof.Rows
abbrev veMro : List Value := [.type "ValueError", .type "Exception", .type "BaseException", .type "object"]
structure ExcC (K : PySem.W.Frag) (C : Addr) : Prop where
  q : PySem.W.excIn K C veMro "ValueError.__new__" = true
theorem ExcC.own {K : PySem.W.Frag} {C : Addr} {h : Heap} {x : Str} {mg : Str → Option Value} (E : ExcC K C) (X : K.In h) (hm : mg x = some (.ref C)) : OwnCls x C veMro "ValueError.__new__" mg h := by
  refine ⟨hm, ?_⟩
  have q := E.q
  unfold PySem.W.excIn at q
  split at q
  · rename_i d2 c2 l2 look
    split at q
    · rename_i C2 tl a0 a1 a2 a3 id2 a5 em es
      have q1 := Bool.and_eq_true_iff.mp q
      have q2 := Bool.and_eq_true_iff.mp q1.1
      have q3 := Bool.and_eq_true_iff.mp q2.1
      have q4 := Bool.and_eq_true_iff.mp q3.1
      have q5 := Bool.and_eq_true_iff.mp q4.1
      obtain rfl : C2 = C := beq_iff_eq.mp q5.1
      obtain rfl : id2 = "ValueError.__new__" := beq_iff_eq.mp q5.2
      obtain ⟨c_1, c_2, c_3, c_4, c_5, c_6, c_7, c_8, c_9, c_10, c_11⟩ := c2
      obtain rfl : c_3 = .ref C2 :: tl := em
      obtain rfl : c_11 = false := by simpa using q4.2
      obtain ⟨ll⟩ := l2
      obtain rfl : ll = [a0, a1, a2, a3, some (.builtin "ValueError.__new__"), a5] := es
      exact ⟨tl, c_4, c_1, c_5, c_2, c_6, c_7, c_8, c_9, c_10, d2, a0, a1, a2, a3, a5, _, X _ _ look, .of_isNs (PySem.W.isNs_of_in X q2.2), PySem.W.nsMap_none_of_in X q2.2 (beq_iff_eq.mp q1.2), PySem.W.tail_of_in X q3.2⟩
    · cases q
  · cases q
def Raises (X : Cx) (E : XK) : Prop := ∀ (pins : List (Addr × Obj)) (σ : St) (H : Hp) (s : Shared) (h1 : Heap) (e : Addr) (cls : Value) (args : List Value), Inv X pins σ H s → Heap.MadeExcOf s.heap h1 e cls args → E cls none H → X.xe (.ref e) { s with heap := h1 }
theorem raises_cx {P : Program} {w : World} {K : PySem.W.Frag} {mg : Str → Option Value} {base : Heap} {N : List Str} {qual : Str} {scope : Scope} {f : Addr} {cd : Value} {A : Around} {outer : List Env} {s : Shared} {H : Hp} {E : XK} :
    Raises (cxOf (CX2 P w) P w K mg base N qual scope f cd A outer s H E) E := fun _ _ _ _ _ _ _ _ I hx q => raises2 I hx q
section
variable {X : Cx} {C : Addr} {x : Str} {E : XK} {np cpos pos : Pos} {e : Expr} {es : List Expr} {t : TA}
def tRaise (C : Addr) (E : XK) (t : TA) : TS := fun _ σ H => t σ H fun vs H1 => vs.length ≤ sizeLine ∧ E (.ref C) none H1
theorem ps_raise (hm : X.mg x = some (.ref C)) (EC : ExcC X.K C) (hc : X.calm = true) (R : Raises X E) (ha : PA X (e :: es) t) (hg : Gl X x := by rfl) (hdb : (x == ("__debug__" : Str)) = false := by decide)
    (he : starEach (e :: es) X.env = (false, eval e X.env) :: starEach es X.env := by rfl) (hpl : (backTo cpos (starEach es X.env)).any (·.1) = false := by rfl) :
    PS X (.Raise (some (.Call (.Name x np) (e :: es) [] cpos)) none pos) (tRaise C E t) := by
  intro pins s σ H D I h
  obtain ⟨tl, N, nm, qn, bs, hdct, sn, sub, ab, col, dd, k0, k1, k2, k3, k5, mN, hC, hN, hni, T⟩ := (EC.own I.ok.mod.kin hm).obj
  refine wpAny_Raise_call_subT (C := C) (N := N) (nm := nm) (q := qn) (bs := bs) (bm := tl) (hdct := hdct) (sn := sn) (sub := sub) (ab := ab) (col := col) (dd := dd) (k0 := k0) (k1 := k1) (k2 := k2) (k3 := k3) (k5 := k5)
    PySem.F.excBase_ValueError (mN := mN) (T.hasType PySem.F.excBase_ValueError.hasBase) (I.ok.hd hc) ?_ hni (ld_glob I hg hm ⟨rfl, ?_⟩ hdb)
  · rw [he]
    show (false || (backTo cpos (starEach es X.env)).any (·.1)) = false
    rw [hpl]
    rfl
  · have g := ha cpos pins s σ H _ I h
    rw [he] at g ⊢
    refine Calls.evalArgs_plain (thn g fun us s2 ⟨vs, H2, I2, rv, hz, q⟩ => ?_)
    exact ⟨rfl, by rw [← rv.length]; exact hz, I2.bk _ _ hC, hN.keeps I2.bk, T.keeps I2.bk, fun h1 ea hx => R pins σ H2 s2 h1 ea _ _ I2 hx q⟩
end

def CAt (X : Cx) (pins : List (Addr × Obj)) (σ : St) (E : XK) (e : Value) (s' : Shared) : Prop := ∃ s1 H1, Inv X pins σ H1 s1 ∧ CX2 X.prog X.w X.stack H1 s1 E e s'
abbrev TX := XK → TE
def PX (X : Cx) (e : Expr) (t : TX) : Prop :=
  ∀ (pins : List (Addr × Obj)) (s : Shared) (σ : St) (H : Hp) (Q : VK) (E : XK), Inv X pins σ H s → t E σ H Q → wpAny (model X.prog X.w) X.A (eval e X.env) (EP X pins σ Q) (CAt X pins σ E) s
section
variable {X : Cx} {k : Nat} {f C : Addr} {fd : FuncData} {ps : List Str} {sp : Sp} {E : XK} {x m : Str} {p pos apos : Pos} {e o : Expr} {es : List Expr} {ta : TE} {t : TA}
theorem run_makeE {pins : List (Addr × Obj)} {σ : St} {H : Hp} {s : Shared} {Q : VK} {us : List Value} {vs : List V} (M : Mk X.K C f) (F : FnOk X.prog X.w X.K X.mg X.base (CX2 X.prog X.w) k f fd ps sp) (hr : Room (k + 1) X.A) (hb : Binds X.K fd ps [])
    (I : Inv X pins σ H s) (r : Vals vs us) (h : ∀ x dx, H x = none → H dx = none → dx ≠ x → sp (.ref x :: vs) (upd (upd H dx (.own x)) x (.ins C dx [])) (fun v H2 => v = .non ∧ Q (.ref x) H2) E) :
    wpAny (model X.prog X.w) X.A (call (.ref C) us) (EP X pins σ Q) (CAt X pins σ E) s := by
  have hq := h (s.heap.objs.size + 1) s.heap.objs.size (I.hok.fresh (Nat.le_succ _)) (I.hok.fresh (Nat.le_refl _)) (Nat.ne_of_lt (Nat.lt_succ_self _))
  have I2 := Inv.made (C := C) I
  have r2 : Vals (V.ref (s.heap.objs.size + 1) :: vs) (Value.ref (s.heap.objs.size + 1) :: us) := .cons rfl r
  have hl : (Value.ref (s.heap.objs.size + 1) :: us ++ []).length = ps.length := by
    rw [List.append_nil, ← r2.length]
    exact F.len _ _ _ _ hq
  have hb' := hb _ (Value.ref (s.heap.objs.size + 1) :: us) I2.kIn hl
  rw [List.append_nil] at hb'
  refine wpAny_call (make_map (f := f) I.kIn M.makes M.init (beq_iff_eq.mp M.fn) (codeAny_mono (F.run _ X.stack _ _ ⟨Value.ref (s.heap.objs.size + 1) :: us, []⟩ (Value.ref (s.heap.objs.size + 1) :: us) _ _ E (hr.make C us [])
    (I2.env0.make C us []) hb' r2 hq) fun z s' hq' => ?_))
  cases z with
  | error e => exact ⟨_, _, I2, hq'⟩
  | ok fl =>
    cases fl with
    | ret u =>
      obtain ⟨v, H', I3, rv, ev, q3⟩ := I2.after hq'
      subst ev
      exact ⟨rv, ⟨V.ref (s.heap.objs.size + 1), H', I3, rfl, q3⟩⟩
    | next => exact False.elim hq'
    | brk => exact False.elim hq'
    | cont => exact False.elim hq'
end
end L2

namespace L2
open PySem PySem.Spec PyProof.Rows
structure FcX (P : Program) (w : World) (K : PySem.W.Frag) (mg : Str → Option Value) (base : Heap) (k : Nat) (x : Str) (ps : List Str) (sp : Sp) : Prop where
  ex : ∃ (f : Addr) (fd : FuncData), FnOk P w K mg base (CX2 P w) k f fd ps sp ∧ Binds K fd ps [] ∧ mg x = some (.ref f) ∧ PySem.W.keepIn K (.ref f) = true
structure McX (P : Program) (w : World) (K : PySem.W.Frag) (mg : Str → Option Value) (base : Heap) (k : Nat) (C : Addr) (m : Str) (ps : List Str) (sp : Sp) : Prop where
  ex : ∃ (f : Addr) (fd : FuncData), FnOk P w K mg base (CX2 P w) k f fd ps sp ∧ Binds K fd ps [] ∧ Meth K C m f
structure IcX (P : Program) (w : World) (K : PySem.W.Frag) (mg : Str → Option Value) (base : Heap) (k : Nat) (C : Addr) (ps : List Str) (sp : Sp) : Prop where
  ex : ∃ (f : Addr) (fd : FuncData), FnOk P w K mg base (CX2 P w) k f fd ps sp ∧ Binds K fd ps [] ∧ Mk K C f
section
variable {P : Program} {w : World} {K : PySem.W.Frag} {mg : Str → Option Value} {base : Heap} {C : Addr} {x m qual : Str} {st : Stmt} {N ps : List Str} {k : Nat} {sp sp' : Sp}
theorem Fun.okX {f : Addr} {fd : FuncData} (F : Fun K x qual st f fd) (S : FnScope N ps (defScope st)) (len : ∀ vs H Q E, sp vs H Q E → vs.length = ps.length)
    (hbody : ∀ (cdv : Value) (A : Around) (outer : List Env) (s : Shared) (H : Hp) (vs : List V) (Q : VK) (E : XK), Room k (A.deeper (envOfC qual (defScope st) s.heap.objs.size f cdv)) → sp vs H Q E →
      ∃ t, PSs (cxOf (CX2 P w) P w K mg base N qual (defScope st) f cdv A outer s H E) (defBody st) t ∧ t { nx := fun _ H' => Q .non H', rt := Q } (start N vs) H) : FnOk P w K mg base (CX2 P w) (k + 1) f fd ps sp := by
  obtain ⟨oc, od, kV, doc, pm, an, cdv, ct, osl, rfl, lk, hcd⟩ := F.ex
  exact fn_of lk hcd S len fun A outer s H vs Q E hr hsp => hbody cdv A outer s H vs Q E hr hsp
theorem InitAt.icX (D : InitAt K C qual st ps) (S : FnScope N ps (defScope st)) (len : ∀ vs H Q E, sp vs H Q E → vs.length = ps.length)
    (hbody : ∀ (f : Addr) (cdv : Value) (A : Around) (outer : List Env) (s : Shared) (H : Hp) (vs : List V) (Q : VK) (E : XK), Room k (A.deeper (envOfC qual (defScope st) s.heap.objs.size f cdv)) → sp vs H Q E →
      ∃ t, PSs (cxOf (CX2 P w) P w K mg base N qual (defScope st) f cdv A outer s H E) (defBody st) t ∧ t { nx := fun _ H' => Q .non H', rt := Q } (start N vs) H) : IcX P w K mg base (k + 1) C ps sp := by
  obtain ⟨f, fd, F, b, mm⟩ := D.ex
  exact ⟨f, fd, F.okX S len fun cdv A outer s H vs Q E hr h => hbody f cdv A outer s H vs Q E hr h, b, mm⟩
end
section
variable {X : Cx} {k : Nat} {C : Addr} {ps : List Str} {sp : Sp} {E : XK} {x m : Str} {p pos apos : Pos} {e o : Expr} {es : List Expr} {ta : TE} {t : TA}
theorem PA.cat {pins : List (Addr × Obj)} {σ : St} {H : Hp} {s : Shared} {Q : List V → Hp → Prop} {F : Value → Shared → Prop} (ha : PA X.nox es t) (I : Inv X pins σ H s) (h : t σ H Q) : wpAny (model X.prog X.w) X.A (spliced (backTo pos (starEach es X.env))) (AP X pins σ Q) F s :=
  wpAny_mono (ha pos pins s σ H Q (I.wish _) h) (fun _ _ ⟨vs, H', I', r, q⟩ => ⟨vs, H', I'.unwish, r, q⟩) fun _ _ z => False.elim z
theorem px_mk (hm : X.mg x = some (.ref C)) (F : IcX X.prog X.w X.K X.mg X.base k C ps sp) (hr : Room (k + 1) X.A) (ha : PA X.nox (e :: es) t) (hg : Gl X x := by rfl) (hdb : (x == ("__debug__" : Str)) = false := by decide)
    (he : starEach (e :: es) X.env = (false, eval e X.env) :: starEach es X.env := by rfl) (hpl : (backTo pos (starEach es X.env)).any (·.1) = false := by rfl) :
    PX X (.Call (.Name x p) (e :: es) [] pos) (fun E => tMake C sp [] E t) := by
  intro pins s σ H Q E I h
  obtain ⟨f, fd, G, b, mm⟩ := F.ex
  refine wpAny_Call_Name_kw (ld_glob I hg hm ?_ hdb)
  refine PySem.W.callWith_K (h₀ := X.base) I.ok.mod.kin mm.kp (thn (ha.cat I h) fun us s1 ⟨vs, H1, I1, r, q⟩ => ⟨I1.kIn, ?_⟩) he hpl
  simp only [List.append_nil] at q
  exact run_makeE mm G hr b I1 r q
abbrev TB := XK → TS
def PB (X : Cx) (body : List Stmt) (t : TB) : Prop :=
  ∀ (pins : List (Addr × Obj)) (s : Shared) (σ : St) (H : Hp) (D : Ends) (E : XK), Inv X pins σ H s → t E D σ H → wpAny (model X.prog X.w) X.A (execs body X.env) (SP X pins D) (CAt X pins σ E) s
theorem pb_expr {t : TX} (he : PX X e t) (hs : swapsWith e none pos.line X.env = pure false := by rfl) : PB X [.Expr e pos] (fun E => tDrop (t E)) := by
  intro pins s σ H D E I h
  refine wpAny_execs_cons (wpAny_Expr_any (thn (he pins s σ H _ E I h) fun v s1 ⟨y, H1, I1, r1, q1⟩ => ?_) I.quiet hs)
  exact wpAny_execs_nil ⟨σ, H1, I1, q1⟩
end
end L2

namespace L2
open PySem PySem.Spec PyProof.Rows
abbrev Cx.held (X : Cx) (ea : Addr) : Cx := { X with A := X.A.mark (some (.ref ea)), calm := false, xe := fun _ _ => False }
section
variable {X : Cx} {pins : List (Addr × Obj)} {σ : St} {H H' : Hp} {s s' : Shared} {ea : Addr}
theorem Cx.Ok.held (ok : X.Ok) (ea : Addr) : (X.held ea).Ok :=
  ⟨ok.mod, ok.kind, ok.glob, ok.blt, ok.above, ok.inj, ok.has, ok.cab, fun z => absurd z (by simp), ok.frames, ok.stk, ok.exf, ok.bs, ok.bsz, ok.noex, ok.exfs, ok.funs, ok.frf⟩
theorem Inv.held (I : Inv X pins σ H s) (ea : Addr) : Inv (X.held ea) pins σ H s := ⟨I.ok.held ea, I.os, I.bare, I.base, I.loc, I.cell, I.free, I.freeC, I.pin, I.hok, I.len⟩
theorem Inv.unheld (ok : X.Ok) (I : Inv (X.held ea) pins σ H s) : Inv X pins σ H s := ⟨ok, I.os, I.bare, I.base, I.loc, I.cell, I.free, I.freeC, I.pin, I.hok, I.len⟩
theorem SP.unheld (ok : X.Ok) {D : Ends} {f : Flow} (h : SP (X.held ea) pins D f s') : SP X pins D f s' := by
  cases f with
  | next => obtain ⟨σ', H', I, q⟩ := h; exact ⟨σ', H', I.unheld ok, q⟩
  | brk => obtain ⟨σ', H', I, q⟩ := h; exact ⟨σ', H', I.unheld ok, q⟩
  | cont => obtain ⟨σ', H', I, q⟩ := h; exact ⟨σ', H', I.unheld ok, q⟩
  | ret u => obtain ⟨v, σ', H', I, r, q⟩ := h; exact ⟨v, σ', H', I.unheld ok, r, q⟩
end
theorem looks_cls {M : Model} {B h : Heap} {l : List Env} {ea : Addr} {cls a0 : Value} (fl : Heap.FlyingW B l ea cls a0 h) : PySem.W.Looks M h (typeOf (.ref ea)) cls := by
  obtain ⟨ob, hob, hc⟩ := fl.there
  subst hc
  exact (PySem.W.Looks.ld hob).andThen .now
section
variable {X : Cx} {C : Addr} {x : Str} {np hpos pos : Pos} {body suite : List Stmt} {b₀ : Stmt} {tb : TB} {ts : TS}
end
end L2

namespace L2
open PySem PySem.Spec PyProof.Rows
def excH (a : Addr) (cls : Value) (h : Heap) : Prop := ∃ o vs, h.get? a = some o ∧ o.cls = cls ∧ o.data = .fields vs
def excO (a : Addr) (cls : Value) : HO := .ext (excH a cls)
theorem Un.new {fs ex : List Addr} {H H' : Hp} {h h' : Heap} {a : Addr} {o : HO} (u : Un fs ex H H' h h') (n : H' a = none) (nn : h.get? a = none) : Un fs ex H (upd H' a o) h h' where
  keep := u.keep
  slot := u.slot
  free := fun b ob e nb hx => by
    rw [upd_ne (fun z => by rw [z, nn] at e; cases e)]
    exact u.free b ob e nb hx
  there := u.there
  tups := fun b xs e => by rw [upd_ne (ne_of_none (u.tups b xs e) n)]; exact u.tups b xs e
  frzs := fun b ob v e => by rw [upd_ne (ne_of_none (u.frzs b ob v e) n)]; exact u.frzs b ob v e
  tbls := fun b ps e => by
    obtain ⟨m, q⟩ := u.tbls b ps e
    exact ⟨m, by rw [upd_ne (ne_of_none q n)]; exact q⟩
theorem HOk.new {P : Program} {w : World} {H : Hp} {h : Heap} {a : Addr} {o : HO} (ok : HOk P w H h) (n : H a = none) (new : ObjOk P w (upd H a o) h a o) : HOk P w (upd H a o) h := fun b u e => by
  by_cases hb : b = a
  · subst hb
    rw [upd_same] at e
    cases e
    exact new
  · rw [upd_ne hb] at e
    exact (ok b u e).stay (fun _ _ _ q => q) (fun c q => by rw [upd_ne (ne_of_none q n)]; exact q) fun c xs q => by rw [upd_ne (ne_of_none q n)]; exact q
section
variable {X : Cx} {pins : List (Addr × Obj)} {σ : St} {H H' : Hp} {s s' : Shared} {B h2 : Heap} {ea : Addr} {cls a0 : Value}
theorem fly_inv1 (I : Inv X pins σ H s) (os : s'.os = s.os) (bare : AllBare s'.gens) (u : Un (frs X.stack) [] H H' s.heap s'.heap) (ok : HOk X.prog X.w H' s'.heap) (hB : ∀ b o o', s.heap.get? b = some o → s'.heap.get? b = some o' → b ∉ frs X.stack → B.get? b = some o')
    (hT : ∀ b o', H' b ≠ none → s'.heap.get? b = some o' → B.get? b = some o') (fl : Heap.FlyingW B X.stack ea cls a0 h2) (us : s'.heap.UpToSlots h2) : H' ea = none ∧ Inv X pins σ (upd H' ea (excO ea cls)) { s' with heap := h2 } := by
  obtain ⟨oe, ws, he, hc, hd, _⟩ := fl.first
  have u2 := fly_un I u hB fl.1 us
  have k2 := fly_hok (h2 := h2) ok hT fl.1
  have n : H' ea = none := by
    cases q : H' ea with
    | none => rfl
    | some o =>
      have q' : H' ea ≠ none := by rw [q]; simp
      obtain ⟨o2, e2⟩ := ok.has q'
      have := hT ea o2 q' e2
      rw [fl.2.1] at this
      cases this
  have nn : s.heap.get? ea = none := by
    cases q : s.heap.get? ea with
    | none => rfl
    | some o =>
      obtain ⟨o2, e2⟩ := u.there ea o q (by simp)
      by_cases hb : ea ∈ frs X.stack
      · obtain ⟨_, o1, e1, nd⟩ := fl.2.2.1.mem hb
        rw [he] at e1
        cases e1
        exact absurd hd (nd ws)
      · have := hB ea o o2 q e2 hb
        rw [fl.2.1] at this
        cases this
  refine ⟨n, I.call' (s' := { s' with heap := h2 }) (ch := []) os (u2.new n nn) (k2.new n ?_) bare fun b z => absurd z (by simp)⟩
  exact ⟨⟨oe, ws, he, hc, hd⟩, ⟨oe, he⟩, fun h1 h3 ⟨o, vs, e1, e2, e3⟩ k => ⟨o, vs, k o e1, e2, e3⟩⟩
theorem name_goes {M : Model} {A : Around} {E : Value → Shared → Prop} {i : Nat} {n : Str} {pos : Pos} {Q : Unit → Shared → Prop} (I : Inv X pins σ H s) (hN : X.N.Nodup) (hi : X.N[i]? = some n) (hk : X.env.scope.names.lookup n = some .local)
    (h : ∀ s', Inv X pins (σ.set i none) H s' → Q () s') : wpAny M A (do bindName X.env n .none; unbindBehindTheSuite X.env n pos) Q E s := by
  obtain ⟨m, hn, hl⟩ := id I.loc
  have hcls : (X.env.scope.kind == .class || (X.env.scope.kind == .module && X.env.locals != X.env.globals)) = false := by rw [I.ok.kind]; rfl
  have hiσ : i < σ.length := by rw [I.len]; exact (List.getElem?_eq_some_iff.mp hi).1
  obtain ⟨oL, _, _, hoL, _⟩ := id hn
  have neL : ∀ b o, X.s₀.heap.get? b = some o → b ≠ X.env.locals := fun b o e => Nat.ne_of_lt (Nat.lt_of_lt_of_le (Heap.lt_size e) I.ok.above)
  refine PySem.wpAny_nameGoes_keeps hk hn hcls fun h' v hn' hs => h _ ?_
  refine ⟨I.ok, I.os, I.bare, ⟨fun b o e nb hb hx => ?_, fun b o e nb hb hx => ?_, I.base.free, fun b o e hx => ?_, I.base.tups, I.base.frzs, I.base.tbls⟩, ⟨_, hn', fun j y v' e1 e2 e3 => ?_⟩, fun y c e => ?_, I.free, I.freeC, fun p hp => ?_, fun b ob e => ?_, by simpa using I.len⟩
  · exact (hs.2 b (neL b o e)).trans (I.base.keep b o e nb hb hx)
  · obtain ⟨sl, e1⟩ := I.base.slot b o e nb hb hx
    exact ⟨sl, (hs.2 b (neL b o e)).trans e1⟩
  · obtain ⟨o', e1⟩ := I.base.there b o e hx
    exact ⟨o', (hs.2 b (neL b o e)).trans e1⟩
  · have hj : j ≠ i := fun z => by
      subst z
      rw [List.getElem?_set_self hiσ] at e2
      cases e2
    rw [List.getElem?_set_ne (Ne.symm hj)] at e2
    obtain ⟨u', r', q⟩ := hl j y v' e1 e2 e3
    refine ⟨u', r', ?_⟩
    rcases q with ⟨k, e⟩ | ⟨k, c, e, z⟩
    · refine .inl ⟨k, ?_⟩
      have ny : y ≠ n := fun z => hj (nodup_ix hN e1 (z ▸ hi))
      show (if y = n then v else m y) = some u'
      rw [if_neg ny]
      exact e
    · exact .inr ⟨k, c, e, z.sameBut hs (I.cne y c e)⟩
  · obtain ⟨w', z⟩ := I.cell y c e
    exact ⟨w', z.sameBut hs (I.cne y c e)⟩
  · obtain ⟨e, nb, ne, nf, d⟩ := I.pin p hp
    exact ⟨(hs.2 p.1 ne).trans e, nb, ne, nf, d⟩
  · refine (I.hok b ob e).stay (fun c w' hc q => (hs.2 c ?_).trans q) (fun _ q => q) fun _ _ q => q
    rintro rfl
    rcases hc with rfl | hc
    · rw [I.free] at e; cases e
    · rw [I.free] at hc; cases hc
end
section
variable {X : Cx} {C : Addr} {x n : Str} {np hpos pos : Pos} {body suite : List Stmt} {b₀ : Stmt} {tb : TB} {ts : TS} {i : Nat}
def Ends.gone (D : Ends) (i : Nat) : Ends := { nx := fun σ H => D.nx (σ.set i none) H, rt := D.rt, bk := fun σ H => D.bk (σ.set i none) H, ct := fun σ H => D.ct (σ.set i none) H }
def tTry1 (K : PySem.W.Frag) (C : Addr) (i : Nat) (tb : TB) (ts : TS) : TS := fun D σ H => tb (fun cls _ H1 => PySem.W.exmOne K cls (.ref C) = some true ∧ ∀ ea, H1 ea = none → ts (D.gone i) (σ.set i (some (.ref ea))) (upd H1 ea (excO ea cls))) D σ H
theorem ps_try1 (hN : X.N.Nodup) (hi : X.N[i]? = some n) (hk : X.env.scope.names.lookup n = some .local) (hm : X.mg x = some (.ref C)) (hb : PB X body tb) (hs : ∀ ea, PSs (X.held ea) (b₀ :: suite) ts) (hg : Gl X x := by rfl) (hdb : (x == ("__debug__" : Str)) = false := by decide)
    (hst : X.stack = X.env :: X.outer := by rfl) (hf : X.env.frame = some X.env.locals := by rfl) :
    PS X (.Try body [.ExceptHandler (some (.Name x np)) (some n) (b₀ :: suite) hpos] [] [] pos) (tTry1 X.K C i tb ts) := by
  intro pins s σ H D I h
  refine wpAny_Try_except (wpAny_mono (hb pins s σ H D _ I h) (fun f s1 q => ?_) fun e s1 q => ?_)
  · cases f with
    | next => exact wpAny_execs_nil q
    | ret v => exact q
    | brk => exact q
    | cont => exact q
  · obtain ⟨s0, H0, I0, ea, cls, a0, B, H', rfl, os, bare, u, ok, fl, hB, hT, em, q⟩ := q
    have hfr : X.A.frames = some (X.env :: X.outer) := hst ▸ I.ok.frames
    have fl' : Heap.FlyingW B (X.env :: X.outer) ea cls a0 s1.heap := hst ▸ fl
    refine wpAny_looks_onW hfr hf fl' fun h4 held us4 => ?_
    refine wpAny_landsW held fun h5 fl5 us5 => ?_
    have J5 := fly_inv I0 os bare u ok hB hT fl5.1 (us4.trans us5)
    refine wpAny_handleBy_cons (codeAny_handlers_test (ld_glob (X := X.held ea) (J5.held ea) hg hm ?_ hdb)) (by intro z; cases z)
    refine (PySem.W.exm_one J5.kIn (looks_cls fl5) em).here ?_
    refine codeAny_handlers_suite_as ?_
    refine lands_againW fl5 fun h6 fl6 us6 => ?_
    obtain ⟨n6, J6⟩ := fly_inv1 I0 os bare u ok hB hT (hst.symm ▸ fl6) ((us4.trans us5).trans us6)
    refine store_ok (X := X.held ea) (i := i) (v := .ref ea) (J6.held ea) hN hi (.inl hk) rfl (fun s7 I7 => ?_) (.inr hk)
    refine wpAny_mono (hs ea pins s7 _ _ (D.gone i) I7 (q ea n6)) (fun f s8 z => ?_) fun _ _ z => False.elim z
    have z' := z.unheld (X := X) I.ok
    cases f with
    | next =>
      obtain ⟨σ', H2, I2, q2⟩ := z'
      exact name_goes I2 hN hi hk fun s9 I9 => ⟨_, H2, I9, q2⟩
    | brk =>
      obtain ⟨σ', H2, I2, q2⟩ := z'
      exact name_goes I2 hN hi hk fun s9 I9 => ⟨_, H2, I9, q2⟩
    | cont =>
      obtain ⟨σ', H2, I2, q2⟩ := z'
      exact name_goes I2 hN hi hk fun s9 I9 => ⟨_, H2, I9, q2⟩
    | ret v =>
      obtain ⟨y, σ', H2, I2, r2, q2⟩ := z'
      exact name_goes I2 hN hi hk fun s9 I9 => ⟨y, _, H2, I9, r2, q2⟩
end
end L2

namespace L2
open PySem PySem.Spec PyProof.Rows
section
open PySem.W PySem.Calls PySem.Builtin PySem.Builtin.ObjectAttr PySem.Builtin.Getset_descriptor
variable {prog : Program} {w : World} {A : Around} {E : Value → Shared → Prop} {s : Shared} {K : PySem.W.Frag} {x C : Addr}
theorem looks_data {M : Model} {h : Heap} {a g : Value} {name : Str} (X : K.In h) (ha : findIn K (.ref C) name = some (some a)) (hg : specialIn K a "__get__" = some (some g)) (ht : takesIn K a = some true) :
    Looks M h (find (.ref x) (.ref C) name) (.bind g a) :=
  (looks_findIn (M := M) X ha).andThen ((show Looks M h (getOf (some a)) (some g) from looks_specialIn X hg).andThen
    ((show Looks M h (dataDescriptor? (some a) (some g)) (some (g, a)) from (looks_takesIn (M := M) X ht).andThen .now).andThen (Looks.tag .now)))
theorem class_at {R : Result → Shared → Prop} {tp : Value} (X : K.In s.heap) (L0 : Looks (model prog w) s.heap (typeOf (.ref x)) (.ref C)) (hm : mroIn K C (.type "object") = some true) (h : R (.ok (.ret (.ref C))) s) :
    codeAny (model prog w) A (.call (.builtin "getset_descriptor.__get__") ⟨[.builtin "object.__class__", .ref x, tp], []⟩) R s := by
  have L1 := looks_mroIn (M := model prog w) X hm
  obtain ⟨h2, g2, d2, t2, o2⟩ := s
  refine codeAny_call_builtin KF.slot_gs.plain KF.entry_gs (KF.slot_gs.check _ _ _ _ _ _ _ _ KF.type_class (KF.args_gs _ _ _) (?_))
  unfold Builtin.«getset_descriptor.__get__»
  unfold descrGet; rw [dga_obj]; refine wpAny_bind (wpAny_pure ?_)
  unfold descrGetter descrCheckInstance; unfold descrNameAndClass isInstance
  simp only [KF.owner_class]
  repeat lk
  refine ⟨Code.quiet_builtin _ (by decide +kernel), (codeAny_builtin KF.entry_class ?_)⟩
  unfold Builtin.«object.__class__»; unfold shownTypeOf
  repeat lk
  exact h
end
structure ExA (K : PySem.W.Frag) (C : Addr) : Prop where
  ex : ExcC K C
  em : PySem.W.exmOne K (.ref C) (.ref C) = some true
structure ExI (K : PySem.W.Frag) (C : Addr) : Prop extends ExA K C where
  pg : PySem.W.plainGet K C "__class__" = true
  ic : InstC K C
end L2

namespace L2
open PySem PySem.Spec PyProof.Rows
section
variable {X : Cx}
end
end L2

namespace L2
open PySem PySem.Spec PyProof.Rows
section
open PySem.W PySem.Calls PySem.Builtin PySem.Builtin.ObjectAttr PySem.Builtin.Getset_descriptor
variable {prog : Program} {w : World} {A : Around} {E : Value → Shared → Prop} {s : Shared} {K : PySem.W.Frag} {x C : Addr}
theorem class_by_exc {Q : Option Value → Shared → Prop} (X : K.In s.heap) (L0 : Looks (model prog w) s.heap (typeOf (.ref x)) (.ref C)) (hga : findIn K (.ref C) "__getattribute__" = some (some (.builtin "BaseException.__getattribute__"))) (hgt : findIn K (.ref C) "__getattr__" = some none)
    (hB : mroIn K C (.type "BaseException") = some true) (I : InstC K C) (h : Q (some (.ref C)) { s with toks := s.toks + 1 }) : wpAny (model prog w) A (getAttr? (.ref x) "__class__") Q E s := by
  have LG := looks_findIn (M := model prog w) X hga
  have LF := looks_data (M := model prog w) (x := x) X I.ha I.hn I.htk
  have LH := looks_findIn (M := model prog w) X hgt
  have LB := looks_mroIn (M := model prog w) X hB
  have X' := X
  obtain ⟨h2, g2, d2, t2, o2⟩ := s
  unfold getAttr?; unfold getAttrBy?; unfold getAttrBy
  refine wpAny_bind (wpAny_mkText (wpAny_bind (wpAny_attempt (wpAny_holding (wpAny_bind (L0.at (wpAny_bind (LG.at (?_)))))))))
  have hx2 : (Value.builtin "BaseException.__getattribute__" == Value.builtin "object.__getattribute__") = false := by decide +kernel
  dsimp only
  rw [hx2, Bool.and_false, if_neg Bool.false_ne_true]
  unfold getAttrByItsOwn hookBefore
  refine wpAny_bind (show wpAny _ _ (typeLookup (.ref C) "__getattr__") _ _ _ from LH.at ?_)
  refine wpAny_bind (wpAny_attempt (wpAny_holding ?_))
  show wpAny _ _ (boundAndCalled _ _ _) _ _ _
  unfold boundAndCalled
  refine wpAny_bind (wpAny_of_eq (PySem.F.attr_ValueError.ga.bind (.ref x)) ?_)
  show wpAny _ _ (call (.builtin "BaseException.__getattribute__") [.ref x, .str "__class__" t2]) _ _ _
  refine wpAny_call (codeAny_call_builtin PySem.F.attr_ValueError.ga.plain F.entry_bexc_ga ?_)
  have hk : builtinKind "BaseException.__getattribute__" = some .slot := by decide +kernel
  have hsp : splitId "BaseException.__getattribute__" = some ("BaseException", "__getattribute__") := by decide +kernel
  have hargs := F.args_bexc_ga (.ref x) (.str "__class__" t2)
  simp only [checkBuiltinCall, hk, hsp]
  refine wpAny_bind ?_
  unfold isInstance
  refine wpAny_bind (L0.at (LB.at ?_))
  rw [if_neg (by decide)]
  refine wpAny_of_eq hargs ?_
  unfold Builtin.«object.__getattribute__»
  refine wpAny_bind (wpAny_pure ?_)
  refine wpAny_bind (wpAny_pure ?_)
  refine wpAny_bind (L0.at ?_)
  refine wpAny_bind (LF.at ?_)
  dsimp only
  show wpAny _ _ (holding [.builtin "object.__class__"] (call (.builtin "getset_descriptor.__get__") [.builtin "object.__class__", .ref x, .ref C]) >>= ret) _ _ _
  refine wpAny_bind (wpAny_holding (wpAny_call (class_at (s := ⟨h2, g2, d2, t2 + 1, o2⟩) X' L0 I.hm (?_))))
  refine wpAny_pure ?_
  dsimp only
  exact handed_on rfl (wpAny_pure h)
end
structure ExJ (K : PySem.W.Frag) (C : Addr) : Prop extends ExA K C where
  ga : PySem.W.findIn K (.ref C) "__getattribute__" = some (some (.builtin "BaseException.__getattribute__"))
  gt : PySem.W.findIn K (.ref C) "__getattr__" = some none
  mb : PySem.W.mroIn K C (.type "BaseException") = some true
  ic : InstC K C
theorem kit_excJ {K : PySem.W.Frag} {a C : Addr} (e : ExJ K C) : PySem.W.KitX K (.ref a) (.ref C) (excH a (.ref C)) where
  ty := fun M h X ⟨o, vs, q, c, d⟩ => c ▸ (PySem.W.Looks.ld q).andThen .now
  it := fun M h X _ => by
    have q := e.em
    unfold PySem.W.exmOne at q
    split at q
    · exact (PySem.W.kit_cls (M := M) X q).2.1
    · cases q
  ne := fun h tp dd its n sl X htp => by
    obtain ⟨tl, N, nm, qn, bs, hdct, sn, sub, ab, col, d2, k0, k1, k2, k3, k5, mN, hC, _⟩ := (e.ex.own (x := "") (mg := fun _ => some (.ref C)) X rfl).obj
    refine Bool.eq_false_iff.mpr fun q => ?_
    have z : C = tp := Value.ref.inj (beq_iff_eq.mp q)
    rw [z, htp] at hC
    have w := congrArg Obj.data (Option.some.inj hC)
    exact absurd w (by intro w; cases w)
  ca := fun X ⟨o, vs, q, c, d⟩ k => class_by_exc X (c ▸ (PySem.W.Looks.ld q).andThen .now) e.ga e.gt e.mb e.ic k
theorem call_isinstJ {X : Cx} {K : PySem.W.Frag} (eK : X.K = K) : CallR X (.builtin "isinstance") (fun xs H Q => ∃ a y c C b, xs = [.ref a, y] ∧ clsV y = some c ∧ H a = some (excO a (.ref C)) ∧ ExJ K C ∧ PySem.W.kitOne K (.ref C) c = some b ∧ Q (.bl b) H) := by
  subst eK
  intro pins s σ H xs us Q I r h
  obtain ⟨a, y, c, C, b, rfl, hc, ha, e, k, q⟩ := h
  obtain ⟨u, v, rfl, ru, rv⟩ := Vals.two r
  obtain rfl := clsV_rel hc rv
  cases ru
  obtain ⟨p, _, _⟩ := (show ObjOk X.prog X.w H s.heap a (excO a (.ref C)) from I.hok a _ ha)
  exact PySem.W.kia_one (kit_excJ e) I.kIn p k (fun z => nomatch z) fun tk => ⟨.bl b, H, I.tok tk, rfl, q⟩
end L2

namespace L2
open PySem PySem.Spec PyProof.Rows
structure RoomH (k : Nat) (A : Around) : Prop where
  dp : A.depth + 3 * k + 5 < recursionLimit
  un : A.units + 16 * k + 200 < cLine
theorem RoomH.depth {k : Nat} {A : Around} (r : RoomH k A) : A.depth < recursionLimit := by have := r.dp; omega
theorem RoomH.deeper {k : Nat} {A : Around} (r : RoomH (k + 1) A) (env : Env) : RoomH k (A.deeper env) :=
  ⟨by have := r.dp; show A.depth + 1 + 3 * k + 5 < _; omega, by have := r.un; show A.units + 3 + 16 * k + 200 < _; omega⟩
theorem Room.held {k : Nat} {A : Around} (r : Room k A) (e : Option Value) : RoomH k (A.mark e) := ⟨r.dp, r.un⟩
structure FnOkH (P : Program) (w : World) (K : PySem.W.Frag) (mg : Str → Option Value) (base : Heap) (CX : CXT) (k : Nat) (f : Addr) (fd : FuncData) (ps : List Str) (sp : Sp) : Prop where
  len : ∀ vs H Q E, sp vs H Q E → vs.length = ps.length
  run : ∀ (A : Around) (outer : List Env) (s : Shared) (H : Hp) (args : Args) (us : List Value) (vs : List V) (Q : VK) (E : XK), RoomH k A → Env0 P w K mg base A outer s H → BindsTo s fd args (ps.zip us) → Vals vs us → sp vs H Q E →
    codeAny (model P w) A (.call (.ref f) args) (CR CX outer P w H s Q E) s
def cxOfH (CX : CXT) (P : Program) (w : World) (K : PySem.W.Frag) (mg : Str → Option Value) (base : Heap) (N : List Str) (qual : Str) (scope : Scope) (f : Addr) (cd : Value) (A : Around) (outer : List Env) (s : Shared) (H : Hp) (E : XK) : Cx where
  prog := P
  w := w
  K := K
  mg := mg
  base := base
  A := A.deeper (envOfC qual scope s.heap.objs.size f cd)
  N := N
  s₀ := s
  H₀ := H
  env := envOfC qual scope s.heap.objs.size f cd
  outer := outer
  stack := envOfC qual scope s.heap.objs.size f cd :: outer
  ex := []
  calm := false
  fn := fun _ => true
  pn := []
  xe := fun e s' => wpAny (model P w) (A.deeper (envOfC qual scope s.heap.objs.size f cd)) (leaving (envOfC qual scope s.heap.objs.size f cd) e) (fun _ s'' => CX outer H s E e s'') (fun e' s'' => CX outer H s E e' s'') s'

theorem inv_startH {CX : CXT} {P : Program} {w : World} {K : PySem.W.Frag} {mg : Str → Option Value} {base : Heap} {N ps : List Str} {qual : Str} {scope : Scope} {f : Addr} {cd : Value} {A : Around} {outer : List Env} {s s1 : Shared} {H : Hp} {E : XK} {us : List Value} {vs : List V}
    (S : FnScope N ps scope) (e0 : Env0 P w K mg base A outer s H) (hl : vs.length = ps.length) (r : Vals vs us)
    (x : InCallC s s.heap.objs.size (bindL (envOfC qual scope s.heap.objs.size f cd).kindOf (ps.zip us) fun _ => none) (cellsFrom (s.heap.objs.size + 1) scope.names []) (bindC (envOfC qual scope s.heap.objs.size f cd).kindOf (ps.zip us) fun _ => none) s1) :
    Inv (cxOfH CX P w K mg base N qual scope f cd A outer s H E) [] (start N vs) H s1 := by
  have hpl : ps.length ≤ N.length := by have := congrArg List.length S.pre; rw [List.length_take] at this; omega
  obtain ⟨h1, tk, rfl, hk⟩ := x.done
  have noA : ∀ b : Addr, b ∉ (cxOfH CX P w K mg base N qual scope f cd A outer s H E).ex := fun b z => absurd (show b ∈ ([] : List Addr) from z) (by simp)
  refine ⟨⟨e0.mod, S.kind, rfl, rfl, Nat.le_refl _, fun y z c h1 h2 => ?_, fun y hy => ?_, fun y c _ h => ?_, fun z => absurd z (by simp [cxOfH]), Around.frames_deeper e0.frames, .inr ⟨rfl, rfl⟩, fun b z => absurd z (noA b), e0.bs, e0.bsz, fun b _ _ => noA b, fun b z => absurd z (noA b), e0.funs, e0.frf⟩,
    rfl, e0.bare, Un.kept hk, ⟨_, x.toInCall.ns, fun i y v h1 h2 h3 => ?_⟩, fun y c h => ⟨_, x.cell y c h⟩, e0.hok.fresh (Nat.le_refl _), fun y c h => ?_, fun p hp => absurd (show p ∈ ([] : List (Addr × Obj)) from hp) (by simp), e0.hok.kept hk, ?_⟩
  · exact name_of_addr x.apart (PySem.mem_of_lookup h1) (PySem.mem_of_lookup h2)
  · have hy : scope.names.lookup y = some .cell ∨ scope.names.lookup y = some .free := hy
    rcases hy with hy | hy
    · exact cell_has hy
    · exact absurd rfl (S.nofree _ (PySem.mem_of_lookup hy))
  · exact Nat.le_of_lt (x.above y c (PySem.mem_of_lookup h))
  · have hi : i < vs.length := by
      unfold start at h2
      by_cases hi : i < vs.length
      · exact hi
      · rw [List.getElem?_append_right (by simpa using hi)] at h2
        rw [List.getElem?_replicate] at h2
        split at h2 <;> cases h2
    have ha : vs[i]? = some v := by
      unfold start at h2
      rw [List.getElem?_append_left (by simpa using hi), List.getElem?_map] at h2
      cases e : vs[i]? with
      | none => rw [e] at h2; cases h2
      | some a => rw [e] at h2; cases h2; rfl
    obtain ⟨u, hu, rv⟩ := r.get ha
    have hp : ps[i]? = some y := by
      rw [← S.pre, List.getElem?_take_of_lt (by omega)]; exact h1
    have ndP : ps.Nodup := by rw [← S.pre]; exact S.nd.sublist (List.take_sublist _ _)
    refine ⟨u, rv, ?_⟩
    rcases S.par y (List.mem_of_getElem? hp) with k | k
    · exact .inl ⟨k, bindL_get ndP hp hu k⟩
    · obtain ⟨c, e⟩ := cell_has (n := s.heap.objs.size + 1) k
      refine .inr ⟨.inl k, c, e, ?_⟩
      have q := x.cell y c e
      rw [bindC_get ndP hp hu (by show scope.names.lookup y ≠ _; rw [k]; decide)] at q
      exact q
  · exact e0.hok.fresh (Nat.le_of_lt (x.above y c (PySem.mem_of_lookup h)))
  · unfold start
    show _ = N.length
    rw [List.length_append, List.length_map, List.length_replicate]
    omega

theorem fn_ofH {CX : CXT} {P : Program} {w : World} {K : PySem.W.Frag} {mg : Str → Option Value} {base : Heap} {k : Nat} {f : Addr} {name qual : Str} {params : Arguments} {body : List Stmt} {scope : Scope} {dV kV doc pm cdv ct oc : Value} {an od : Option Addr}
    {osl : Array (Option Value)} {N ps : List Str} {sp : Sp} (lk : K.lookup f = some ⟨oc, od, .func (PySem.W.fnOf name qual params body scope dV kV doc pm an cdv ct), osl⟩) (hcd : PySem.W.codeIn K cdv qual = true) (S : FnScope N ps scope)
    (len : ∀ vs H Q E, sp vs H Q E → vs.length = ps.length)
    (hbody : ∀ (A : Around) (outer : List Env) (s : Shared) (H : Hp) (vs : List V) (Q : VK) (E : XK), RoomH k (A.deeper (envOfC qual scope s.heap.objs.size f cdv)) → sp vs H Q E →
      ∃ t, PSs (cxOfH CX P w K mg base N qual scope f cdv A outer s H E) body t ∧ t { nx := fun _ H' => Q .non H', rt := Q } (start N vs) H) :
    FnOkH P w K mg base CX (k + 1) f (PySem.W.fnOf name qual params body scope dV kV doc pm an cdv ct) ps sp := by
  refine ⟨len, fun A outer s H args us vs Q E hr e0 hb r hsp => ?_⟩
  have hl := len _ _ _ _ hsp
  have KX : K.In s.heap := e0.mod.kin.keeps fun b o e => (e0.bs b o e).1
  have lim : s.heap.NoLimit := e0.mod.nolimit.keeps fun b o e => (e0.bs b o e).1
  have hkind : ∀ y ∈ ps.zip us, scope.names.lookup y.1 = some .local ∨ (scope.names.lookup y.1 = some .cell ∧ ((cellsFrom (s.heap.objs.size + 1) scope.names []).lookup y.1).isSome = true) := fun ⟨n, v⟩ hy => by
    rcases S.par n (List.of_mem_zip hy).1 with q | q
    · exact .inl q
    · exact .inr ⟨q, PySem.W.cellsFrom_some _ _ _ (.inl q)⟩
  refine codeAny_call_function hr.depth (KX _ _ lk) rfl S.co S.gen rfl (PySem.W.codeRec_of KX hcd) (hb _ _ _ _ ?_)
  refine wpAny_newFunctionEnv_cells S.kind hkind fun env he s1 x => ?_
  subst he
  refine ⟨lim.keeps x.toInCall.keep, codeAny_func ?_⟩
  obtain ⟨t, ht, hq⟩ := hbody A outer s H vs Q E (hr.deeper _) hsp
  have I : Inv (cxOfH CX P w K mg base N qual scope f cdv A outer s H E) [] (start N vs) H s1 := inv_startH S e0 hl r x
  refine wpAny_mono (ht [] s1 (start N vs) H _ I hq) (fun fl s' hs => ?_) fun e s' hs => hs
  have fin : ∀ {σ' : St} {H' : Hp} {v : V} {u : Value}, Inv (cxOfH CX P w K mg base N qual scope f cdv A outer s H E) [] σ' H' s' → RelV v u → Q v H' → CE outer P w H s Q u s' :=
    fun {σ' H' v u} J rv q => ⟨v, H', J.os, J.bare, J.base, J.hok, rv, q⟩
  cases fl with
  | ret u =>
    obtain ⟨v, σ', H', J, rv, q⟩ := hs
    exact fin J rv q
  | next =>
    obtain ⟨σ', H', J, q⟩ := hs
    exact fin (v := V.non) (u := Value.none) J rfl q
  | brk =>
    obtain ⟨_, _, _, q⟩ := hs
    exact False.elim q
  | cont =>
    obtain ⟨_, _, _, q⟩ := hs
    exact False.elim q
section
variable {X : Cx} {CX : CXT} {k : Nat} {f C : Addr} {fd : FuncData} {ps : List Str} {sp : Sp} {dvs : List V} {ds : List Value} {E : XK} {x m : Str} {p pos apos : Pos} {e o : Expr} {es : List Expr} {ta : TE} {t : TA}
theorem run_fnH {pins : List (Addr × Obj)} {σ : St} {H : Hp} {s : Shared} {Q : VK} {us : List Value} {vs : List V} (F : FnOkH X.prog X.w X.K X.mg X.base CX k f fd ps sp) (hr : RoomH k X.A) (hb : Binds X.K fd ps ds) (hd : Vals dvs ds) (hx : Passes CX X E)
    (I : Inv X pins σ H s) (r : Vals vs us) (h : sp (vs ++ dvs) H Q E) : wpAny (model X.prog X.w) X.A (call (.ref f) us) (EP X pins σ Q) X.xe s := by
  have r2 : Vals (vs ++ dvs) (us ++ ds) := r.append hd
  have hl : (us ++ ds).length = ps.length := by rw [← r2.length]; exact F.len _ _ _ _ h
  refine wpAny_call (codeAny_mono (F.run X.A X.stack s H ⟨us, []⟩ (us ++ ds) (vs ++ dvs) Q E hr I.env0 (hb s us I.kIn hl) r2 h) fun r s' hq => ?_)
  cases r with
  | error e => exact hx pins σ H s e s' I hq
  | ok fl =>
    cases fl with
    | ret u => exact I.after hq
    | next => exact False.elim hq
    | brk => exact False.elim hq
    | cont => exact False.elim hq

theorem pe_callH (F : FnOkH X.prog X.w X.K X.mg X.base CX k f fd ps sp) (hr : RoomH k X.A) (hg : Gl X x) (hm : X.mg x = some (.ref f)) (hk : PySem.W.keepIn X.K (.ref f) = true) (hb : Binds X.K fd ps ds) (hd : Vals dvs ds) (hx : Passes CX X E)
    (ha : PA X (e :: es) t) (hdb : (x == ("__debug__" : Str)) = false := by decide) (he : starEach (e :: es) X.env = (false, eval e X.env) :: starEach es X.env := by rfl) (hpl : (backTo pos (starEach es X.env)).any (·.1) = false := by rfl) :
    PE X (.Call (.Name x p) (e :: es) [] pos) (tCall sp dvs E t) := by
  intro pins s σ H Q I h
  refine wpAny_Call_Name_kw (ld_glob I hg hm ?_ hdb)
  refine PySem.W.callWith_K (h₀ := X.base) I.ok.mod.kin hk (thn (ha pos pins s σ H _ I h) fun us s1 ⟨vs, H1, I1, r, q⟩ => ⟨I1.kIn, ?_⟩) he hpl
  exact run_fnH F hr hb hd hx I1 r q
end
structure FcH (P : Program) (w : World) (K : PySem.W.Frag) (mg : Str → Option Value) (base : Heap) (k : Nat) (x : Str) (ps : List Str) (sp : Sp) : Prop where
  ex : ∃ (f : Addr) (fd : FuncData), FnOkH P w K mg base CX0 k f fd ps sp ∧ Binds K fd ps [] ∧ mg x = some (.ref f) ∧ PySem.W.keepIn K (.ref f) = true
theorem DefAt.fcH {P : Program} {w : World} {K : PySem.W.Frag} {mg : Str → Option Value} {base : Heap} {x : Str} {st : Stmt} {N ps : List Str} {k : Nat} {sp : Sp} (D : DefAt K mg x st ps) (S : FnScope N ps (defScope st)) (len : ∀ vs H Q E, sp vs H Q E → vs.length = ps.length)
    (hbody : ∀ (f : Addr) (cdv : Value) (A : Around) (outer : List Env) (s : Shared) (H : Hp) (vs : List V) (Q : VK) (E : XK), RoomH k (A.deeper (envOfC x (defScope st) s.heap.objs.size f cdv)) → sp vs H Q E →
      ∃ t, PSs (cxOfH CX0 P w K mg base N x (defScope st) f cdv A outer s H E).nox (defBody st) t ∧ t { nx := fun _ H' => Q .non H', rt := Q } (start N vs) H) : FcH P w K mg base (k + 1) x ps sp := by
  obtain ⟨f, fd, F, b, mm⟩ := D.ex
  have kp := F.kp
  obtain ⟨oc, od, kV, doc, pm, an, cdv, ct, osl, rfl, lk, hcd⟩ := F.ex
  refine ⟨f, _, fn_ofH lk hcd S len fun A outer s H vs Q E hr hsp => ?_, b, mm, kp⟩
  obtain ⟨t, h, q⟩ := hbody f cdv A outer s H vs Q E hr hsp
  exact ⟨t, h.nox, q⟩
theorem pe_cH {X : Cx} {k : Nat} {ps : List Str} {sp : Sp} {x : Str} {p pos : Pos} {e : Expr} {es : List Expr} {t : TA} (F : FcH X.prog X.w X.K X.mg X.base k x ps sp) (hr : RoomH k X.A) (ha : PA X (e :: es) t) (hg : Gl X x := by rfl) (hdb : (x == ("__debug__" : Str)) = false := by decide)
    (he : starEach (e :: es) X.env = (false, eval e X.env) :: starEach es X.env := by rfl) (hpl : (backTo pos (starEach es X.env)).any (·.1) = false := by rfl) :
    PE X (.Call (.Name x p) (e :: es) [] pos) (tCall sp [] E0 t) := by
  obtain ⟨f, fd, G, b, m, kp⟩ := F.ex
  exact pe_callH G hr hg m kp b .nil pass0 ha hdb he hpl
end L2

namespace L2
open PySem PySem.Spec PyProof.Rows
def okV : V → Bool
  | .non => true
  | .bl _ => true
  | .int _ => true
  | .str _ => true
  | .ref _ => true
  | _ => false
def EqV1 (H : Hp) (x y : V) : Prop := (x = y ∧ okV x = true) ∨ ∃ p q vs, x = .ref p ∧ y = .ref q ∧ H p = some (.lst vs) ∧ H q = some (.lst vs) ∧ vs.all okV = true
def rEqS : R2 := fun x y H Q => ∃ p q vs vs', x = .ref p ∧ y = .ref q ∧ H p = some (.lst vs) ∧ H q = some (.lst vs') ∧ Paired (EqV1 H) vs vs' ∧ Q (.bl true) H
section
variable {X : Cx} {pins : List (Addr × Obj)} {σ : St} {H : Hp} {s : Shared}
open PySem.SeqAt
theorem same_eqAt (I : Inv X pins σ H s) {x : V} {u u' : Value} {A : Around} (hu : A.units + 1 < cLine) (ok : okV x = true) (r : RelV x u) (r' : RelV x u') : EqAt A s u u' true := by
  have fin : ∀ d : Dv, flatTo 0 d = true → Is H d x → EqAt A s u u' true := fun d f h => by
    have := Is.eqAt I 0 d d x x u u' A (by omega) f f h h r r'
    rw [deq_refl 0 d f] at this
    exact this
  cases x with
  | non => exact fin .non rfl rfl
  | bl b => exact fin (.bl b) rfl rfl
  | int i => exact fin (.int i) rfl rfl
  | str z => exact fin (.str z) rfl rfl
  | ref a =>
    cases r
    cases r'
    exact EqAt.same _
  | _ => cases ok
theorem all_true {n : Nat} : (List.range n).all (fun _ => true) = true := by simp
theorem vals_at {vs : List V} {its : List Value} (r : Vals vs its) {j : Nat} (h : j < its.toArray.size) : ∃ v, vs[j]? = some v ∧ RelV v its.toArray[j] := by
  have l := r.length
  rw [List.size_toArray] at h
  obtain ⟨v, e⟩ : ∃ v, vs[j]? = some v := ⟨_, List.getElem?_eq_getElem (by omega)⟩
  obtain ⟨u, p1, k1⟩ := r.get e
  refine ⟨v, e, ?_⟩
  have z1 : its.toArray[j] = u := by
    obtain ⟨_, e⟩ := List.getElem?_eq_some_iff.mp p1
    simpa using e
  rw [z1]
  exact k1
theorem lists_same (I : Inv X pins σ H s) {p q : Addr} {vs : List V} {A : Around} (hu : A.units + 2 < cLine) (hp : H p = some (.lst vs)) (hq : H q = some (.lst vs)) (ok : vs.all okV = true) : RcAt A s (.ref p) (.ref q) true := by
  obtain ⟨its, r, pl, _⟩ := I.list (SqL.of (K := X.K) hp)
  obtain ⟨its', r', pl', _⟩ := I.list (SqL.of (K := X.K) hq)
  have l1 := r.length
  have l2 := r'.length
  have hsz : its.toArray.size = its'.toArray.size := by rw [List.size_toArray, List.size_toArray]; omega
  rw [← all_true (n := its.toArray.size)]
  refine RcAt.lists pl.isList pl'.isList hsz (by omega) fun j h1 h2 => ?_
  obtain ⟨v, e, k⟩ := vals_at r h1
  obtain ⟨v', e', k'⟩ := vals_at r' h2
  rw [e] at e'
  cases e'
  exact same_eqAt I (by show A.units + 1 + 1 < cLine; omega) (List.all_eq_true.mp ok v (List.mem_of_getElem? e)) k k'
theorem paired_at {α β : Type} {F : α → β → Prop} : ∀ {l : List α} {m : List β} {j : Nat} {a : α} {b : β}, Paired F l m → l[j]? = some a → m[j]? = some b → F a b
  | _, _, 0, a, b, .cons r _, e, e' => by cases e; cases e'; exact r
  | _, _, j + 1, a, b, .cons _ t, e, e' => paired_at (j := j) t (by simpa using e) (by simpa using e')
  | _, _, j, _, _, .nil, e, _ => by simp at e
theorem op_eqS (hu : X.A.units + 64 < cLine) : OpR X (compareOp .Eq) rEqS := by
  intro pins s σ H x y v u Q I rx ry h
  obtain ⟨p, q, vs, vs', rfl, rfl, hp, hq, pr, k⟩ := h
  cases rx
  cases ry
  obtain ⟨its, r, pl, _⟩ := I.list (SqL.of (K := X.K) hp)
  obtain ⟨its', r', pl', _⟩ := I.list (SqL.of (K := X.K) hq)
  have l1 := r.length
  have l2 := r'.length
  have l3 := Paired.length pr
  have hsz : its.toArray.size = its'.toArray.size := by rw [List.size_toArray, List.size_toArray]; omega
  have go : RcAt X.A s (.ref p) (.ref q) true := by
    rw [← all_true (n := its.toArray.size)]
    refine RcAt.lists pl.isList pl'.isList hsz (by omega) fun j h1 h2 => ?_
    obtain ⟨v, e, k⟩ := vals_at r h1
    obtain ⟨v', e', k'⟩ := vals_at r' h2
    have hu1 : X.A.in1.units + 3 < cLine := by show X.A.units + 1 + 3 < cLine; omega
    rcases paired_at pr e e' with ⟨rfl, ok⟩ | ⟨a, b, ws, rfl, rfl, ha, hb, ok⟩
    · exact same_eqAt I (by omega) ok k k'
    · have k1 : its.toArray[j] = .ref a := k
      have k2 : its'.toArray[j] = .ref b := k'
      rw [k1, k2]
      by_cases hq : a = b
      · subst hq
        exact EqAt.same _
      · exact EqAt.of_refs hq (lists_same I (by omega) ha hb ok)
  exact go _ _ _ _ ⟨.bl _, H, I, rfl, k⟩
end
end L2

namespace L2
open PySem PySem.Spec PyProof.Rows
section
variable {X : Cx} {o i value : Expr} {pos pos' : Pos} {td ty tv : TE}
def sLPut (td ty tv : TE) : TS := fun D σ H => tv σ H fun v H1 => td σ H1 fun x H2 => ty σ H2 fun y H3 => ∃ (l : Addr) (xs : List V) (j : Nat), x = .ref l ∧ y = .int j ∧ H3 l = some (.lst xs) ∧ j < xs.length ∧ D.nx σ (upd H3 l (.lst (xs.set j v)))
theorem ps_lput (ho : PE X o td) (hi : PE X i ty) (hv : PE X value tv) (hs : swapsWith value (some (.Subscript o i pos')) pos.line X.env = pure false) :
    PS X (.Assign [.Subscript o i pos'] value pos) (sLPut td ty tv) := by
  intro pins s σ H D I h
  refine wpAny_Assign_Subscript (thn (hv pins s σ H _ I h) fun r s1 ⟨v, H1, I1, rv, q1⟩ => thn (ho pins s1 σ H1 _ I1 q1) fun u s2 ⟨x, H2, I2, rx, q2⟩ => thn (hi pins s2 σ H2 _ I2 q2) fun iv s3 ⟨y, H3, I3, ry, l, xs, j, ex, ey, hl, hj, q3⟩ => ?_) hs
  subst ex ey
  cases rx
  obtain ⟨t, rfl⟩ := ry
  obtain ⟨z, its, n, rr, hlen, e⟩ := I3.lstM hl
  have line : sizeLine < 4611686018427387904 := by decide
  refine PySem.W.ki_setAt e (Int.natCast_nonneg j) (by omega) (by rw [List.size_toArray]; omega) ?_
  refine ⟨σ, _, I3.lset (t' := s3.toks) (its' := its.set j r) (ys := xs.set j v) hl e ?_ (Vals.set rv j rr) (by rw [List.length_set]; exact z), q3⟩
  rw [Int.toNat_natCast]
  apply Array.toList_inj.mp
  simp
end
end L2

namespace K03
open PySem L2
def top (i : Nat) : Stmt := PySem.Challenge.pw_dykemoot_k03_no_land.main.body.getD i (.Pass ⟨0, 0, 0, 0⟩)
abbrev s_p_wall : Stmt := top 0
abbrev s_p_is_whole : Stmt := top 27
theorem sc_p_is_whole : FnScope ["thing"] ["thing"] (defScope s_p_is_whole) := ⟨rfl, rfl, rfl, by decide +kernel, rfl, by decide +kernel, by decide +kernel⟩
abbrev s_p_is_name : Stmt := top 28
theorem sc_p_is_name : FnScope ["thing"] ["thing"] (defScope s_p_is_name) := ⟨rfl, rfl, rfl, by decide +kernel, rfl, by decide +kernel, by decide +kernel⟩
abbrev s_p_is_height : Stmt := top 29
theorem sc_p_is_height : FnScope ["thing"] ["thing"] (defScope s_p_is_height) := ⟨rfl, rfl, rfl, by decide +kernel, rfl, by decide +kernel, by decide +kernel⟩
abbrev s_p_is_amount : Stmt := top 30
theorem sc_p_is_amount : FnScope ["thing"] ["thing"] (defScope s_p_is_amount) := ⟨rfl, rfl, rfl, by decide +kernel, rfl, by decide +kernel, by decide +kernel⟩
abbrev s_p_is_one_of : Stmt := top 31
theorem sc_p_is_one_of : FnScope ["thing", "names"] ["thing", "names"] (defScope s_p_is_one_of) := ⟨rfl, rfl, rfl, by decide +kernel, rfl, by decide +kernel, by decide +kernel⟩
abbrev s_p_is_list_of : Stmt := top 32
theorem sc_p_is_list_of : FnScope ["thing", "most"] ["thing", "most"] (defScope s_p_is_list_of) := ⟨rfl, rfl, rfl, by decide +kernel, rfl, by decide +kernel, by decide +kernel⟩
abbrev s_p_is_tuple_of : Stmt := top 33
theorem sc_p_is_tuple_of : FnScope ["thing", "length"] ["thing", "length"] (defScope s_p_is_tuple_of) := ⟨rfl, rfl, rfl, by decide +kernel, rfl, by decide +kernel, by decide +kernel⟩
abbrev s_p_none_twice : Stmt := top 34
theorem sc_p_none_twice : FnScope ["rows"] ["rows"] (defScope s_p_none_twice) := ⟨rfl, rfl, rfl, by decide +kernel, rfl, by decide +kernel, by decide +kernel⟩
abbrev s_p_is_field : Stmt := top 35
theorem sc_p_is_field : FnScope ["thing"] ["thing"] (defScope s_p_is_field) := ⟨rfl, rfl, rfl, by decide +kernel, rfl, by decide +kernel, by decide +kernel⟩
abbrev s_p_are_fields : Stmt := top 36
theorem sc_p_are_fields : FnScope ["thing"] ["thing"] (defScope s_p_are_fields) := ⟨rfl, rfl, rfl, by decide +kernel, rfl, by decide +kernel, by decide +kernel⟩
abbrev s_p_are_sides : Stmt := top 37
theorem sc_p_are_sides : FnScope ["one", "other", "sides"] ["one", "other", "sides"] (defScope s_p_are_sides) := ⟨rfl, rfl, rfl, by decide +kernel, rfl, by decide +kernel, by decide +kernel⟩
abbrev s_p_is_sill : Stmt := top 38
theorem sc_p_is_sill : FnScope ["thing", "crown"] ["thing", "crown"] (defScope s_p_is_sill) := ⟨rfl, rfl, rfl, by decide +kernel, rfl, by decide +kernel, by decide +kernel⟩
abbrev s_p_is_dyke : Stmt := top 39
theorem sc_p_is_dyke : FnScope ["thing", "sides"] ["thing", "sides"] (defScope s_p_is_dyke) := ⟨rfl, rfl, rfl, by decide +kernel, rfl, by decide +kernel, by decide +kernel⟩
abbrev s_p_are_dykes : Stmt := top 40
theorem sc_p_are_dykes : FnScope ["thing", "sides"] ["thing", "sides"] (defScope s_p_are_dykes) := ⟨rfl, rfl, rfl, by decide +kernel, rfl, by decide +kernel, by decide +kernel⟩
abbrev s_land_pinit : Stmt := inClass (top 41) 0
theorem sc_land_pinit : FnScope ["self", "fields", "dykes"] ["self", "fields", "dykes"] (defScope s_land_pinit) := ⟨rfl, rfl, rfl, by decide +kernel, rfl, by decide +kernel, by decide +kernel⟩
abbrev s_land_p_fields : Stmt := inClass (top 41) 1
theorem sc_land_p_fields : FnScope ["self"] ["self"] (defScope s_land_p_fields) := ⟨rfl, rfl, rfl, by decide +kernel, rfl, by decide +kernel, by decide +kernel⟩
abbrev s_land_p_dykes : Stmt := inClass (top 41) 2
theorem sc_land_p_dykes : FnScope ["self"] ["self"] (defScope s_land_p_dykes) := ⟨rfl, rfl, rfl, by decide +kernel, rfl, by decide +kernel, by decide +kernel⟩
abbrev s_land_p_field_names : Stmt := inClass (top 41) 3
abbrev s_land_p_dyke_names : Stmt := inClass (top 41) 4
abbrev s_land_p_sluices : Stmt := inClass (top 41) 5
abbrev s_land_p_ground : Stmt := inClass (top 41) 6
abbrev s_land_p_dues : Stmt := inClass (top 41) 7
abbrev s_land_p_dyke : Stmt := inClass (top 41) 8
abbrev s_l_cell_at : Stmt := top 43
theorem sc_l_cell_at : FnScope ["_law_script", "_law_k"] ["_law_script", "_law_k"] (defScope s_l_cell_at) := ⟨rfl, rfl, rfl, by decide +kernel, rfl, by decide +kernel, by decide +kernel⟩
abbrev s_l_names : Stmt := top 44
theorem sc_l_names : FnScope ["_law_cell", "_law_many", "_law_size", "_law_at", "_law_beside", "_law_short", "_law_names_here", "_law_k", "_law_name", "_law_j", "_law_number"] ["_law_cell", "_law_many"] (defScope s_l_names) := ⟨rfl, rfl, rfl, by decide +kernel, rfl, by decide +kernel, by decide +kernel⟩
abbrev s_l_mixed : Stmt := top 45
theorem sc_l_mixed : FnScope ["_law_script", "_law_k"] ["_law_script", "_law_k"] (defScope s_l_mixed) := ⟨rfl, rfl, rfl, by decide +kernel, rfl, by decide +kernel, by decide +kernel⟩
abbrev s_l_height : Stmt := top 46
theorem sc_l_height : FnScope ["_law_cell", "_law_near"] ["_law_cell"] (defScope s_l_height) := ⟨rfl, rfl, rfl, by decide +kernel, rfl, by decide +kernel, by decide +kernel⟩
abbrev s_l_amount : Stmt := top 47
theorem sc_l_amount : FnScope ["_law_cell"] ["_law_cell"] (defScope s_l_amount) := ⟨rfl, rfl, rfl, by decide +kernel, rfl, by decide +kernel, by decide +kernel⟩
abbrev s_l_fields : Stmt := top 48
theorem sc_l_fields : FnScope ["_law_script", "_law_most", "_law_cell", "_law_names_here", "_law_fields_here", "_law_k"] ["_law_script", "_law_most"] (defScope s_l_fields) := ⟨rfl, rfl, rfl, by decide +kernel, rfl, by decide +kernel, by decide +kernel⟩
abbrev s_l_dykes : Stmt := top 49
theorem sc_l_dykes : FnScope ["_law_script", "_law_fields_here", "_law_most", "_law_cell", "_law_names_here", "_law_sides", "_law_dykes_here", "_law_k", "_law_first", "_law_second", "_law_crown", "_law_sill"] ["_law_script", "_law_fields_here", "_law_most"] (defScope s_l_dykes) := ⟨rfl, rfl, rfl, by decide +kernel, rfl, by decide +kernel, by decide +kernel⟩
abbrev s_l_bad_name : Stmt := top 50
theorem sc_l_bad_name : FnScope ["_law_cell", "_law_names_here", "_law_some"] ["_law_cell", "_law_names_here"] (defScope s_l_bad_name) := ⟨rfl, rfl, rfl, by decide +kernel, rfl, by decide +kernel, by decide +kernel⟩
abbrev s_l_bad_number : Stmt := top 51
theorem sc_l_bad_number : FnScope ["_law_cell", "_law_least", "_law_far"] ["_law_cell", "_law_least"] (defScope s_l_bad_number) := ⟨rfl, rfl, rfl, by decide +kernel, rfl, by decide +kernel, by decide +kernel⟩
abbrev s_l_bad_field : Stmt := top 52
theorem sc_l_bad_field : FnScope ["_law_fields_here", "_law_cell", "_law_at", "_law_field", "_law_others_here", "_law_wrong", "_law_way"] ["_law_fields_here", "_law_cell"] (defScope s_l_bad_field) := ⟨rfl, rfl, rfl, by decide +kernel, rfl, by decide +kernel, by decide +kernel⟩
abbrev s_l_bad_side : Stmt := top 53
theorem sc_l_bad_side : FnScope ["_law_bank", "_law_way", "_law_cell", "_law_other"] ["_law_bank", "_law_way", "_law_cell"] (defScope s_l_bad_side) := ⟨rfl, rfl, rfl, by decide +kernel, rfl, by decide +kernel, by decide +kernel⟩
abbrev s_l_bad_sill : Stmt := top 54
theorem sc_l_bad_sill : FnScope ["_law_bank", "_law_cell"] ["_law_bank", "_law_cell"] (defScope s_l_bad_sill) := ⟨rfl, rfl, rfl, by decide +kernel, rfl, by decide +kernel, by decide +kernel⟩
abbrev s_l_bad_dyke : Stmt := top 55
theorem sc_l_bad_dyke : FnScope ["_law_dykes_here", "_law_cell", "_law_at", "_law_bank", "_law_others_here", "_law_wrong", "_law_way"] ["_law_dykes_here", "_law_cell"] (defScope s_l_bad_dyke) := ⟨rfl, rfl, rfl, by decide +kernel, rfl, by decide +kernel, by decide +kernel⟩
abbrev s_l_bad_list : Stmt := top 56
theorem sc_l_bad_list : FnScope ["_law_things", "_law_most", "_law_cell", "_law_first"] ["_law_things", "_law_most", "_law_cell"] (defScope s_l_bad_list) := ⟨rfl, rfl, rfl, by decide +kernel, rfl, by decide +kernel, by decide +kernel⟩
abbrev s_l_others : Stmt := top 57
theorem sc_l_others : FnScope ["_law_e", "_law_some"] ["_law_e"] (defScope s_l_others) := ⟨rfl, rfl, rfl, by decide +kernel, rfl, by decide +kernel, by decide +kernel⟩
abbrev s_l_refused : Stmt := top 58
theorem sc_l_refused : FnScope ["_law_fields_here", "_law_dykes_here", "_law_kinds", "_law_handed", "_law_e"] ["_law_fields_here", "_law_dykes_here"] (defScope s_l_refused) := ⟨rfl, rfl, rfl, by decide +kernel, rfl, by decide +kernel, by decide +kernel⟩
abbrev s_p_law : Stmt := top 59
theorem sc_p_law : FnScope ["_law_script", "_law_fields_here", "_law_dykes_here", "_law_cell", "_law_number", "_law_wrong", "_law_way"] ["_law_script"] (defScope s_p_law) := ⟨rfl, rfl, rfl, by decide +kernel, rfl, by decide +kernel, by decide +kernel⟩
structure Txt (K : PySem.W.Frag) (mg : Str → Option Value) (C : Addr) : Prop where
  cl_Land : Cls K C
  mg_Land : mg "Land" = some (.ref C)
  a_field_rows : NoAttr K C "field_rows"
  a_dyke_rows : NoAttr K C "dyke_rows"
  i_Land : InitAt K C "Land.__init__" s_land_pinit ["self", "fields", "dykes"]
  m_land_p_fields : MethAt K C "fields" "Land.fields" s_land_p_fields ["self"]
  m_land_p_dykes : MethAt K C "dykes" "Land.dykes" s_land_p_dykes ["self"]
  m_land_p_field_names : MethAt K C "field_names" "Land.field_names" s_land_p_field_names ["self"]
  m_land_p_dyke_names : MethAt K C "dyke_names" "Land.dyke_names" s_land_p_dyke_names ["self"]
  m_land_p_sluices : MethAt K C "sluices" "Land.sluices" s_land_p_sluices ["self"]
  m_land_p_ground : MethAt K C "ground" "Land.ground" s_land_p_ground ["self", "field"]
  m_land_p_dues : MethAt K C "dues" "Land.dues" s_land_p_dues ["self", "field"]
  m_land_p_dyke : MethAt K C "dyke" "Land.dyke" s_land_p_dyke ["self", "name"]
  xs : ∃ c_NoLand c_DykeError c_NoDecree c_NoLevel c_NoName c_NoPurse c_NoRing c_NoRow c_NoSluice c_NoText c_NoVoice c_NoWay c_NoWish c_NoWork c_Outvoted c_Short c_TooMany : Addr, (ExJ K c_NoLand) ∧ mg "NoLand" = some (.ref c_NoLand) ∧ mg "DykeError" = some (.ref c_DykeError) ∧ mg "NoDecree" = some (.ref c_NoDecree) ∧ mg "NoLevel" = some (.ref c_NoLevel) ∧ mg "NoName" = some (.ref c_NoName) ∧ mg "NoPurse" = some (.ref c_NoPurse) ∧ mg "NoRing" = some (.ref c_NoRing) ∧ mg "NoRow" = some (.ref c_NoRow) ∧ mg "NoSluice" = some (.ref c_NoSluice) ∧ mg "NoText" = some (.ref c_NoText) ∧ mg "NoVoice" = some (.ref c_NoVoice) ∧ mg "NoWay" = some (.ref c_NoWay) ∧ mg "NoWish" = some (.ref c_NoWish) ∧ mg "NoWork" = some (.ref c_NoWork) ∧ mg "Outvoted" = some (.ref c_Outvoted) ∧ mg "Short" = some (.ref c_Short) ∧ mg "TooMany" = some (.ref c_TooMany) ∧ PySem.W.kitOne K (.ref c_NoLand) (.ref c_DykeError) = some true ∧ PySem.W.kitOne K (.ref c_NoLand) (.type "ValueError") = some true ∧ PySem.W.kitOne K (.ref c_NoLand) (.ref c_NoDecree) = some false ∧ PySem.W.kitOne K (.ref c_NoLand) (.ref c_NoLevel) = some false ∧ PySem.W.kitOne K (.ref c_NoLand) (.ref c_NoName) = some false ∧ PySem.W.kitOne K (.ref c_NoLand) (.ref c_NoPurse) = some false ∧ PySem.W.kitOne K (.ref c_NoLand) (.ref c_NoRing) = some false ∧ PySem.W.kitOne K (.ref c_NoLand) (.ref c_NoRow) = some false ∧ PySem.W.kitOne K (.ref c_NoLand) (.ref c_NoSluice) = some false ∧ PySem.W.kitOne K (.ref c_NoLand) (.ref c_NoText) = some false ∧ PySem.W.kitOne K (.ref c_NoLand) (.ref c_NoVoice) = some false ∧ PySem.W.kitOne K (.ref c_NoLand) (.ref c_NoWay) = some false ∧ PySem.W.kitOne K (.ref c_NoLand) (.ref c_NoWish) = some false ∧ PySem.W.kitOne K (.ref c_NoLand) (.ref c_NoWork) = some false ∧ PySem.W.kitOne K (.ref c_NoLand) (.ref c_Outvoted) = some false ∧ PySem.W.kitOne K (.ref c_NoLand) (.ref c_Short) = some false ∧ PySem.W.kitOne K (.ref c_NoLand) (.ref c_TooMany) = some false
  d_p_wall : DefAt K mg "_wall" s_p_wall ["k"]
  d_p_is_whole : DefAt K mg "is_whole" s_p_is_whole ["thing"]
  d_p_is_name : DefAt K mg "is_name" s_p_is_name ["thing"]
  d_p_is_height : DefAt K mg "is_height" s_p_is_height ["thing"]
  d_p_is_amount : DefAt K mg "is_amount" s_p_is_amount ["thing"]
  d_p_is_one_of : DefAt K mg "is_one_of" s_p_is_one_of ["thing", "names"]
  d_p_is_list_of : DefAt K mg "is_list_of" s_p_is_list_of ["thing", "most"]
  d_p_is_tuple_of : DefAt K mg "is_tuple_of" s_p_is_tuple_of ["thing", "length"]
  d_p_none_twice : DefAt K mg "none_twice" s_p_none_twice ["rows"]
  d_p_is_field : DefAt K mg "is_field" s_p_is_field ["thing"]
  d_p_are_fields : DefAt K mg "are_fields" s_p_are_fields ["thing"]
  d_p_are_sides : DefAt K mg "are_sides" s_p_are_sides ["one", "other", "sides"]
  d_p_is_sill : DefAt K mg "is_sill" s_p_is_sill ["thing", "crown"]
  d_p_is_dyke : DefAt K mg "is_dyke" s_p_is_dyke ["thing", "sides"]
  d_p_are_dykes : DefAt K mg "are_dykes" s_p_are_dykes ["thing", "sides"]
  d_l_cell_at : DefAt K mg "_law_cell_at" s_l_cell_at ["_law_script", "_law_k"]
  d_l_names : DefAt K mg "_law_names" s_l_names ["_law_cell", "_law_many"]
  d_l_mixed : DefAt K mg "_law_mixed" s_l_mixed ["_law_script", "_law_k"]
  d_l_height : DefAt K mg "_law_height" s_l_height ["_law_cell"]
  d_l_amount : DefAt K mg "_law_amount" s_l_amount ["_law_cell"]
  d_l_fields : DefAt K mg "_law_fields" s_l_fields ["_law_script", "_law_most"]
  d_l_dykes : DefAt K mg "_law_dykes" s_l_dykes ["_law_script", "_law_fields_here", "_law_most"]
  d_l_bad_name : DefAt K mg "_law_bad_name" s_l_bad_name ["_law_cell", "_law_names_here"]
  d_l_bad_number : DefAt K mg "_law_bad_number" s_l_bad_number ["_law_cell", "_law_least"]
  d_l_bad_field : DefAt K mg "_law_bad_field" s_l_bad_field ["_law_fields_here", "_law_cell"]
  d_l_bad_side : DefAt K mg "_law_bad_side" s_l_bad_side ["_law_bank", "_law_way", "_law_cell"]
  d_l_bad_sill : DefAt K mg "_law_bad_sill" s_l_bad_sill ["_law_bank", "_law_cell"]
  d_l_bad_dyke : DefAt K mg "_law_bad_dyke" s_l_bad_dyke ["_law_dykes_here", "_law_cell"]
  d_l_bad_list : DefAt K mg "_law_bad_list" s_l_bad_list ["_law_things", "_law_most", "_law_cell"]
  d_l_others : DefAt K mg "_law_others" s_l_others ["_law_e"]
  d_l_refused : DefAt K mg "_law_refused" s_l_refused ["_law_fields_here", "_law_dykes_here"]
  d_p_law : DefAt K mg "law" s_p_law ["_law_script"]
  g_SEA : GlobAt mg "SEA" (.str "sea")
  g_LETTERS : GlobAt mg "LETTERS" (.str "abcdefghijklmnopqrstuvwxyz")
  g_MOST_LETTERS : GlobAt mg "MOST_LETTERS" (.int 8)
  g_MOST_HEIGHT : GlobAt mg "MOST_HEIGHT" (.int 1000000)
  g_MOST_AMOUNT : GlobAt mg "MOST_AMOUNT" (.int 1000000)
  g_MOST_FIELDS : GlobAt mg "MOST_FIELDS" (.int 12)
  g_MOST_DYKES : GlobAt mg "MOST_DYKES" (.int 40)
  n_ValueError : mg "ValueError" = none
  n_all : mg "all" = none
  n_bool : mg "bool" = none
  n_dict : mg "dict" = none
  n_int : mg "int" = none
  n_isinstance : mg "isinstance" = none
  n_len : mg "len" = none
  n_list : mg "list" = none
  n_max : mg "max" = none
  n_range : mg "range" = none
  n_set : mg "set" = none
  n_str : mg "str" = none
  n_tuple : mg "tuple" = none

section
variable {P : Program} {w : World} {K : PySem.W.Frag} {mg : Str → Option Value} {base : Heap} {C : Addr}
open Ld
theorem big1000 : (1000 : Nat) ≤ sizeLine := by decide
def spWhole : Sp := sp1 fun x H Q => ∃ d, Is H d x ∧ Q (.bl (isInt d)) H
theorem ok_p_is_whole (T : Txt K mg C) : Fc P w K mg base 1 "is_whole" ["thing"] spWhole := by
  refine T.d_p_is_whole.fc sc_p_is_whole len1 (fun f cdv A outer s H vs Q E hr h => ?_)
  obtain ⟨x, rfl, d, hd, q⟩ := h
  obtain ⟨t, ty, e1, e2, _⟩ := Is_kit K hd
  refine ⟨_, (@pss_one _ _ _ (@ps_ret _ _ _ _ (@pe_and _ _ _ _ _ _ _ (@pe_callB _ _ _ _ _ _ _ _ _ (@call_isinstB _ (K) rfl) rfl T.n_isinstance boot_isinstance (@pa_cons _ _ _ _ _ (pv 0) (@pa_cons _ _ _ _ _ (@pe_ty _ _ _ _ T.n_int boot_int' (by rfl) (by decide) (by decide)) pa_nil (by rfl)) (by rfl)) (by decide) (by decide) (by rfl) (by rfl)) (@pe_one _ _ _ _ _ (@pe_not _ _ _ _ (@pe_callB _ _ _ _ _ _ _ _ _ (@call_isinstB _ (K) rfl) rfl T.n_isinstance boot_isinstance (@pa_cons _ _ _ _ _ (pv 0) (@pa_cons _ _ _ _ _ (@pe_ty _ _ _ _ T.n_bool boot_bool' (by rfl) (by decide) (by decide)) pa_nil (by rfl)) (by rfl)) (by decide) (by decide) (by rfl) (by rfl))))))), ?_⟩
  refine ⟨_, rfl, _, _, _, t, _, rfl, rfl, ty, e1, _, rfl, ?_⟩
  refine ite2 (fun h => ?_) (fun h => ?_)
  · refine ⟨_, rfl, _, _, _, t, _, rfl, rfl, ty, e2, _, rfl, ?_⟩
    have e : (!isBl d) = isInt d := by cases d <;> simp_all [isInt, isBl]
    rw [e]
    exact q
  · have e : isInt d = false := by cases d <;> simp_all [isInt, isBl]
    rw [e] at q
    exact q

def spName : Sp := sp1 fun x H Q => ∃ d, Is H d x ∧ small d = true ∧ Q (.bl (isName d)) H
theorem ok_p_is_name (T : Txt K mg C) : Fc P w K mg base 1 "is_name" ["thing"] spName := by
  refine T.d_p_is_name.fcD sc_p_is_name len1 (fun f cdv A outer s H vs Q E hr h => ?_)
  obtain ⟨x, rfl, d, hd, hz, q⟩ := h
  obtain ⟨t, ty, e1, e2, e3, _⟩ := Is_kit K hd
  have big := big1000
  refine ⟨_, (@pss_cons _ _ _ _ _ (@ps_if _ _ _ _ _ _ _ _ (@PW.pt _ _ _ (@pw_or _ _ _ _ _ _ _ (@pt_not _ _ _ _ (@pt_val _ _ _ (@pe_callB _ _ _ _ _ _ _ _ _ (@call_isinstB _ (K) rfl) rfl T.n_isinstance boot_isinstance (@pa_cons _ _ _ _ _ (pv 0) (@pa_cons _ _ _ _ _ (@pe_ty _ _ _ _ T.n_str boot_str' (by rfl) (by decide) (by decide)) pa_nil (by rfl)) (by rfl)) (by decide) (by decide) (by rfl) (by rfl)) (by intro _; rfl))) (@pw_or1 _ _ _ _ (@pt_not _ _ _ _ (@pt_chain _ _ _ _ _ _ _ _ _ _ _ _ op_le op_le pe_int (@pe_callB _ _ _ _ _ _ _ _ _ call_len_str rfl T.n_len boot_len' (@pa_cons _ _ _ _ _ (pv 0) pa_nil (by rfl)) (by decide) (by decide) (by rfl) (by rfl)) (@pe_g _ _ _ _ T.g_MOST_LETTERS (by rfl) (by decide)) (by with_unfolding_all rfl)))))) (@pss_one _ _ _ (@ps_ret _ _ _ _ pe_bl)) pss_nil) (@pss_one _ _ _ (@ps_ret _ _ _ _ (@pe_and _ _ _ _ _ _ _ (@pe_cmpR _ _ _ _ _ _ _ _ op_ne (pv 0) (@pe_g _ _ _ _ T.g_SEA (by rfl) (by decide)) (@nomark _ _ (by decide) (by decide))) (@pe_one _ _ _ _ _ (@pe_callB _ _ _ _ _ _ _ _ _ (@call_all _ rfl) rfl T.n_all boot_all' (@pa_cons _ _ _ _ _ (@pe_comp _ _ _ _ _ _ _ _ _ _ _ ["sign"] 1 [] rfl (@pi_str _ _ _ _ (pv 0)) (fun R => @pg_name _ _ (0) _ (show List.Nodup (["sign"] : List Str) by decide +kernel) rfl (Or.inl rfl) (by first | exact .inl rfl | exact .inr rfl | assumption)) (@gkeep_name _ _ (by decide)) (fun R => pifs_nil) (fun R => (@pe_cmpR _ _ _ _ _ _ _ _ op_in_str (pv 0) (@pe_g _ _ _ _ T.g_LETTERS (by rfl) (by decide)) (by with_unfolding_all rfl))) (by rfl) (by rfl) (by rfl) (by rfl) (by rfl) (by rfl) (by rfl) (by intro _; rfl)) pa_nil (by rfl)) (by decide) (by decide) (by rfl) (by rfl))))))), ?_⟩
  refine ⟨_, rfl, _, _, _, t, _, rfl, rfl, ty, e3, _, rfl, ?_⟩
  cases d with
  | str z =>
    cases (show x = .str z from hd)
    have hz : z.length ≤ 1000 := of_decide_eq_true hz
    have q : Q (.bl (nameS z)) H := q
    have hzs : z.length ≤ sizeLine := by omega
    refine iteF ?_
    refine ⟨_, rfl, z, rfl, hzs, _, _, rfl, rfl, _, rfl, ?_⟩
    refine ite2 (fun h1 => ?_) (fun h1 => ?_)
    · refine ⟨_, _, rfl, rfl, _, rfl, ?_⟩
      have h1' : 1 ≤ z.length := by
        have := of_decide_eq_true h1
        omega
      refine ite2 (fun h2 => ?_) (fun h2 => ?_)
      · have e : nameS z = false := by
          have h2' : ¬ z.length ≤ 8 := by
            intro h3
            have : ((z.length : Nat) : Int) ≤ 8 := by omega
            simp [this] at h2
          simp [nameS, h2']
        rw [e] at q
        exact dropQ.of (.refl _) q
      · have h2' : z.length ≤ 8 := by
          have h3 : decide (((z.length : Nat) : Int) ≤ 8) = true := by
            cases h4 : decide (((z.length : Nat) : Int) ≤ 8) with
            | true => rfl
            | false => exact absurd (by rw [h4]; rfl) h2
          have := of_decide_eq_true h3
          omega
        refine ⟨_, rfl, rfl, _, rfl, ?_⟩
        refine ite2 (fun h3 => ?_) (fun h3 => ?_)
        · have h3' : ¬ z = "sea" := by
            intro h4
            subst h4
            simp at h3
          refine ⟨_, rfl, z, rfl, ?_⟩
          refine comp_str (Nat.le_trans hz (by decide)) (fun i ys H' => H' = H ∧ ys = (z.cps.toList.take i).map fun c => V.bl (letter c)) ⟨rfl, rfl⟩ ?_ ?_ ?_
          · rintro i ys H' ⟨_, rfl⟩
            rw [List.length_map, List.length_take]
            omega
          · rintro i c ys H' K1 K2 hc ⟨rfl, rfl⟩ k1 k2
            refine ⟨_, rfl, _, _, rfl, rfl, k1 _ _ ⟨rfl, ?_⟩⟩
            have hc' : z.cps.toList[i]? = some c := by simpa using hc
            rw [List.take_add_one, hc', in_letters]
            simp
          · rintro ys H' ⟨rfl, rfl⟩
            intro p hp'
            refine ⟨p, z.cps.toList.map letter, rfl, SqL.of ?_, ?_⟩
            · rw [upd_same, List.take_of_length_le (by simp), List.map_map]
              rfl
            · refine ⟨H', Drop.lst hp', ?_⟩
              have e : nameS z = (z.cps.toList.map letter).all id := by
                rw [List.all_map]
                simp [nameS, h1', h2', h3']
              rw [← e]
              exact q
        · have e : nameS z = false := by
            have h4 : z = "sea" := by
              apply Classical.byContradiction
              intro h5
              exact h3 (by simp [h5])
            subst h4
            simp [nameS]
          rw [e] at q
          exact dropQ.of (.refl _) q
    · have e : nameS z = false := by
        have h1' : ¬ 1 ≤ z.length := by
          intro h3
          exact h1 (decide_eq_true (by omega))
        simp [nameS, h1']
      rw [e] at q
      exact ⟨_, rfl, dropQ.of (.refl _) q⟩
  | non => exact dropQ.of (.refl _) q
  | bl b => exact dropQ.of (.refl _) q
  | int i => exact dropQ.of (.refl _) q
  | lst a => exact dropQ.of (.refl _) q
  | tup a => exact dropQ.of (.refl _) q
  | dct a b => exact dropQ.of (.refl _) q

def spHeight : Sp := sp1 fun x H Q => ∃ d, Is H d x ∧ Q (.bl (isHeight d)) H
theorem ok_p_is_height (T : Txt K mg C) : Fc P w K mg base 2 "is_height" ["thing"] spHeight := by
  have G_p_is_whole : Fc P w K mg base 1 "is_whole" ["thing"] spWhole := ok_p_is_whole T
  refine T.d_p_is_height.fc sc_p_is_height len1 (fun f cdv A outer s H vs Q E hr h => ?_)
  obtain ⟨x, rfl, d, hd, q⟩ := h
  refine ⟨_, (@pss_one _ _ _ (@ps_ret _ _ _ _ (@pe_and _ _ _ _ _ _ _ (@pe_c _ _ _ _ _ _ _ _ _ _ G_p_is_whole (hr.mono (by decide)) (@pa_cons _ _ _ _ _ (pv 0) pa_nil (by rfl)) (by rfl) (by decide) (by rfl) (by rfl)) (@pe_one _ _ _ _ _ (@pe_chain _ _ _ _ _ _ _ _ _ _ _ _ op_le op_le (@pe_un _ _ _ _ _ _ un_neg (@pe_g _ _ _ _ T.g_MOST_HEIGHT (by rfl) (by decide))) (pv 0) (@pe_g _ _ _ _ T.g_MOST_HEIGHT (by rfl) (by decide)) (by with_unfolding_all rfl)))))), ?_⟩
  refine ⟨_, rfl, _, rfl, d, hd, _, rfl, ?_⟩
  cases d with
  | int i =>
    cases (show x = .int i from hd)
    refine iteT ?_
    have q : Q (.bl (decide (-1000000 ≤ i) && decide (i ≤ 1000000))) H := q
    refine ⟨_, rfl, _, rfl, _, _, rfl, rfl, _, rfl, ?_⟩
    refine ite2 (fun h1 => ?_) (fun h1 => ?_)
    · refine ⟨_, _, rfl, rfl, ?_⟩
      rw [decide_eq_true (show -1000000 ≤ i from of_decide_eq_true h1), Bool.true_and] at q
      exact q
    · rw [show decide (-1000000 ≤ i) = false from by simpa using h1, Bool.false_and] at q
      exact q
  | _ => exact iteF q
def spAmount : Sp := sp1 fun x H Q => ∃ d, Is H d x ∧ Q (.bl (isAmount d)) H
theorem ok_p_is_amount (T : Txt K mg C) : Fc P w K mg base 2 "is_amount" ["thing"] spAmount := by
  have G_p_is_whole : Fc P w K mg base 1 "is_whole" ["thing"] spWhole := ok_p_is_whole T
  refine T.d_p_is_amount.fc sc_p_is_amount len1 (fun f cdv A outer s H vs Q E hr h => ?_)
  obtain ⟨x, rfl, d, hd, q⟩ := h
  refine ⟨_, (@pss_one _ _ _ (@ps_ret _ _ _ _ (@pe_and _ _ _ _ _ _ _ (@pe_c _ _ _ _ _ _ _ _ _ _ G_p_is_whole (hr.mono (by decide)) (@pa_cons _ _ _ _ _ (pv 0) pa_nil (by rfl)) (by rfl) (by decide) (by rfl) (by rfl)) (@pe_one _ _ _ _ _ (@pe_chain _ _ _ _ _ _ _ _ _ _ _ _ op_le op_le pe_int (pv 0) (@pe_g _ _ _ _ T.g_MOST_AMOUNT (by rfl) (by decide)) (by with_unfolding_all rfl)))))), ?_⟩
  refine ⟨_, rfl, _, rfl, d, hd, _, rfl, ?_⟩
  cases d with
  | int i =>
    cases (show x = .int i from hd)
    refine iteT ?_
    have q : Q (.bl (decide (0 ≤ i) && decide (i ≤ 1000000))) H := q
    refine ⟨_, rfl, _, _, rfl, rfl, _, rfl, ?_⟩
    refine ite2 (fun h1 => ?_) (fun h1 => ?_)
    · refine ⟨_, _, rfl, rfl, ?_⟩
      rw [decide_eq_true (show 0 ≤ i from of_decide_eq_true h1), Bool.true_and] at q
      exact q
    · rw [show decide (0 ≤ i) = false from by simpa using h1, Bool.false_and] at q
      exact q
  | _ => exact iteF q

def spOneOf (K : PySem.W.Frag) : Sp := sp2 fun x y H Q => ∃ (d : Dv) (p : Addr) (zs : List Str), Is H d x ∧ y = .ref p ∧ SqL K H p (zs.map V.str) ∧ Q (.bl (oneOf zs d)) H
theorem inV_str (z : Str) (zs : List Str) : inV (.str z) (zs.map V.str) = decide (z ∈ zs) := by
  unfold inV
  rw [Bool.eq_iff_iff, List.any_eq_true, decide_eq_true_iff]
  constructor
  · rintro ⟨y, hy, e⟩
    obtain ⟨u, hu, rfl⟩ := List.mem_map.mp hy
    have e' : (u == z) = true := e
    rw [← beq_iff_eq.mp e']
    exact hu
  · intro h
    exact ⟨_, List.mem_map.mpr ⟨z, h, rfl⟩, beq_self_eq_true z⟩
theorem flat_strs (zs : List Str) : (zs.map V.str).all flatV = true := by
  rw [List.all_eq_true]
  intro y hy
  obtain ⟨u, _, rfl⟩ := List.mem_map.mp hy
  rfl
theorem ok_p_is_one_of (T : Txt K mg C) : Fc P w K mg base 1 "is_one_of" ["thing", "names"] (spOneOf K) := by
  refine T.d_p_is_one_of.fc sc_p_is_one_of len2 (fun f cdv A outer s H vs Q E hr h => ?_)
  obtain ⟨x, y, rfl, d, p, zs, hd, rfl, hp, q⟩ := h
  obtain ⟨t, ty, e1, e2, e3, _⟩ := Is_kit K hd
  refine ⟨_, (@pss_one _ _ _ (@ps_ret _ _ _ _ (@pe_and _ _ _ _ _ _ _ (@pe_callB _ _ _ _ _ _ _ _ _ (@call_isinstB _ (K) rfl) rfl T.n_isinstance boot_isinstance (@pa_cons _ _ _ _ _ (pv 0) (@pa_cons _ _ _ _ _ (@pe_ty _ _ _ _ T.n_str boot_str' (by rfl) (by decide) (by decide)) pa_nil (by rfl)) (by rfl)) (by decide) (by decide) (by rfl) (by rfl)) (@pe_one _ _ _ _ _ (@pe_cmpR _ _ _ _ _ _ _ _ (@op_in_seqB _ (K) rfl) (pv 0) (pv 1) (by with_unfolding_all rfl)))))), ?_⟩
  refine ⟨_, rfl, _, _, _, t, _, rfl, rfl, ty, e3, _, rfl, ?_⟩
  cases d with
  | str z =>
    cases (show x = .str z from hd)
    refine iteT ⟨_, rfl, _, rfl, p, _, rfl, .inl hp, rfl, flat_strs zs, ?_⟩
    show Q (.bl (inV (.str z) (zs.map V.str))) H
    rw [inV_str]
    exact q
  | _ => exact iteF q

def spListOf : Sp := sp2 fun x y H Q => ∃ (d : Dv) (n : Int), Is H d x ∧ y = .int n ∧ Q (.bl (lstIn n d)) H
theorem ok_p_is_list_of (T : Txt K mg C) : Fc P w K mg base 1 "is_list_of" ["thing", "most"] spListOf := by
  refine T.d_p_is_list_of.fc sc_p_is_list_of len2 (fun f cdv A outer s H vs Q E hr h => ?_)
  obtain ⟨x, y, rfl, d, n, hd, rfl, q⟩ := h
  obtain ⟨t, ty, e1, e2, e3, e4, _⟩ := Is_kit K hd
  refine ⟨_, (@pss_one _ _ _ (@ps_ret _ _ _ _ (@pe_and _ _ _ _ _ _ _ (@pe_callB _ _ _ _ _ _ _ _ _ (@call_isinstB _ (K) rfl) rfl T.n_isinstance boot_isinstance (@pa_cons _ _ _ _ _ (pv 0) (@pa_cons _ _ _ _ _ (@pe_ty _ _ _ _ T.n_list boot_list' (by rfl) (by decide) (by decide)) pa_nil (by rfl)) (by rfl)) (by decide) (by decide) (by rfl) (by rfl)) (@pe_one _ _ _ _ _ (@pe_chain _ _ _ _ _ _ _ _ _ _ _ _ op_le op_le pe_int (@pe_callB _ _ _ _ _ _ _ _ _ (@call_len_seqB _ (K) rfl) rfl T.n_len boot_len' (@pa_cons _ _ _ _ _ (pv 0) pa_nil (by rfl)) (by decide) (by decide) (by rfl) (by rfl)) (pv 1) (by with_unfolding_all rfl)))))), ?_⟩
  refine ⟨_, rfl, _, _, _, t, _, rfl, rfl, ty, e4, _, rfl, ?_⟩
  cases d with
  | lst ds =>
    obtain ⟨a, vs, rfl, o, hl⟩ := hd
    have hlen := hl.length
    have q : Q (.bl (decide (1 ≤ ds.length) && decide ((ds.length : Int) ≤ n))) H := q
    refine iteT ⟨_, rfl, a, vs, rfl, .inl (SqL.of o), _, _, rfl, rfl, _, rfl, ?_⟩
    rw [hlen]
    refine ite2 (fun h1 => ?_) (fun h1 => ?_)
    · refine ⟨_, rfl, _, _, rfl, rfl, ?_⟩
      have h1' : 1 ≤ ds.length := by have := of_decide_eq_true h1; omega
      rw [decide_eq_true h1', Bool.true_and] at q
      exact q
    · have h1' : ¬ 1 ≤ ds.length := fun c => h1 (decide_eq_true (by omega))
      rw [decide_eq_false h1', Bool.false_and] at q
      exact q
  | _ => exact iteF q
def spTupOf : Sp := sp2 fun x y H Q => ∃ (d : Dv) (n : Int), Is H d x ∧ y = .int n ∧ Q (.bl (tupIs n d)) H
theorem ok_p_is_tuple_of (T : Txt K mg C) : Fc P w K mg base 1 "is_tuple_of" ["thing", "length"] spTupOf := by
  refine T.d_p_is_tuple_of.fc sc_p_is_tuple_of len2 (fun f cdv A outer s H vs Q E hr h => ?_)
  obtain ⟨x, y, rfl, d, n, hd, rfl, q⟩ := h
  obtain ⟨t, ty, e1, e2, e3, e4, e5⟩ := Is_kit K hd
  refine ⟨_, (@pss_one _ _ _ (@ps_ret _ _ _ _ (@pe_and _ _ _ _ _ _ _ (@pe_callB _ _ _ _ _ _ _ _ _ (@call_isinstB _ (K) rfl) rfl T.n_isinstance boot_isinstance (@pa_cons _ _ _ _ _ (pv 0) (@pa_cons _ _ _ _ _ (@pe_ty _ _ _ _ T.n_tuple boot_tuple' (by rfl) (by decide) (by decide)) pa_nil (by rfl)) (by rfl)) (by decide) (by decide) (by rfl) (by rfl)) (@pe_one _ _ _ _ _ (@pe_cmpR _ _ _ _ _ _ _ _ op_eq (@pe_callB _ _ _ _ _ _ _ _ _ (@call_len_seqB _ (K) rfl) rfl T.n_len boot_len' (@pa_cons _ _ _ _ _ (pv 0) pa_nil (by rfl)) (by decide) (by decide) (by rfl) (by rfl)) (pv 1) (@nomark _ _ (by decide) (by decide))))))), ?_⟩
  refine ⟨_, rfl, _, _, _, t, _, rfl, rfl, ty, e5, _, rfl, ?_⟩
  cases d with
  | tup ds =>
    obtain ⟨a, vs, rfl, o, hl⟩ := hd
    have hlen := hl.length
    have q : Q (.bl (decide ((ds.length : Int) = n))) H := q
    refine iteT ⟨_, rfl, a, vs, rfl, .inr (SqT.of o), _, rfl, rfl, ?_⟩
    rw [hlen]
    have e : decide (V.int (ds.length : Int) = V.int n) = decide ((ds.length : Int) = n) := by rw [dec_int, Bool.eq_iff_iff]; simp
    rw [e]
    exact q
  | _ => exact iteF q

def spTwice : Sp := sp1 fun x H Q => ∃ (p : Addr) (vs : List V) (ds : List Dv) (zs : List Str), x = .ref p ∧ H p = some (.lst vs) ∧ IsL H ds vs ∧ ds.map firstS = zs.map some ∧ zs.length ≤ 1000 ∧ Q (.bl (decide zs.Nodup)) H
theorem first_row {H : Hp} {d : Dv} {v : V} {z : Str} (h : Is H d v) (e : firstS d = some z) : ∃ a r, v = .ref a ∧ H a = some (.tup (.str z :: r)) := by
  cases d with
  | tup ds =>
    cases ds with
    | nil => cases e
    | cons d0 ds =>
      cases d0 with
      | str y =>
        cases e
        obtain ⟨a, vs, rfl, o, v0, r, rfl, h0, _⟩ := h
        cases (show v0 = .str z from h0)
        exact ⟨a, r, rfl, o⟩
      | _ => cases e
  | _ => cases e
theorem nodup_inr (zs : List Str) : (zs.map (Sum.inr : Str → Key)).Nodup ↔ zs.Nodup := by
  induction zs with
  | nil => simp
  | cons z zs ih =>
    rw [List.map_cons, List.nodup_cons, List.nodup_cons, ih]
    simp
theorem map_key (zs : List Str) : (zs.map (Sum.inr : Str → Key)).map kV = zs.map V.str := by
  rw [List.map_map]; rfl
theorem ok_p_none_twice (T : Txt K mg C) : Fc P w K mg base 1 "none_twice" ["rows"] spTwice := by
  refine T.d_p_none_twice.fcD sc_p_none_twice len1 (fun f cdv A outer s H vs Q E hr h => ?_)
  obtain ⟨x, rfl, p, us, ds, zs, rfl, hp, hi, hz, hn, q⟩ := h
  have big := big1000
  have l1 := hi.length
  have l2 : ds.length = zs.length := by have := congrArg List.length hz; simpa using this
  refine ⟨_, (@pss_one _ _ _ (@ps_ret _ _ _ _ (@pe_cmpR _ _ _ _ _ _ _ _ op_eq (@pe_callB _ _ _ _ _ _ _ _ _ call_len_set rfl T.n_len boot_len' (@pa_cons _ _ _ _ _ (@pe_callTy _ _ _ _ _ _ _ _ _ (@call_set_list _ rfl) rfl T.n_set boot_set' (@pa_cons _ _ _ _ _ (@pe_comp _ _ _ _ _ _ _ _ _ _ _ ["row"] 1 [] rfl (@pi_list _ _ _ _ (pv 0)) (fun R => @pg_name _ _ (0) _ (show List.Nodup (["row"] : List Str) by decide +kernel) rfl (Or.inl rfl) (by first | exact .inl rfl | exact .inr rfl | assumption)) (@gkeep_name _ _ (by decide)) (fun R => pifs_nil) (fun R => (@pe_ix _ _ _ _ _ _ _ (@ix_tupB _ (K) rfl) (pv 0) pe_int (fun _ _ => rfl))) (by rfl) (by rfl) (by rfl) (by rfl) (by rfl) (by rfl) (by rfl) (by intro _; rfl)) pa_nil (by rfl)) (by decide) (by decide) (by rfl) (by rfl)) pa_nil (by rfl)) (by decide) (by decide) (by rfl) (by rfl)) (@pe_callB _ _ _ _ _ _ _ _ _ (@call_len_seqB _ (K) rfl) rfl T.n_len boot_len' (@pa_cons _ _ _ _ _ (pv 0) pa_nil (by rfl)) (by decide) (by decide) (by rfl) (by rfl)) (@nomark _ _ (by decide) (by decide))))), ?_⟩
  refine ⟨_, rfl, p, rfl, ⟨_, SqL.of hp⟩, ?_⟩
  refine comp_list (F := K) (xs := us) (by omega) (fun i ys H' => H' = H ∧ ys = (zs.take i).map V.str) ⟨rfl, rfl⟩ ?_ ?_ ?_
  · rintro i ys H' hi' ⟨rfl, rfl⟩
    exact ⟨SqL.of hp, by rw [List.length_map, List.length_take]; omega⟩
  · rintro i x ys H' K1 K2 hx ⟨rfl, rfl⟩ k1 k2
    have hil : i < us.length := (List.getElem?_eq_some_iff.mp hx).1
    obtain ⟨d, ed⟩ : ∃ d, ds[i]? = some d := ⟨_, List.getElem?_eq_getElem (by omega)⟩
    obtain ⟨z, ez⟩ : ∃ z, zs[i]? = some z := ⟨_, List.getElem?_eq_getElem (by omega)⟩
    obtain ⟨v, ev, iv⟩ := hi.get ed
    rw [hx] at ev
    cases ev
    have ef : firstS d = some z := by
      have := congrArg (fun l => l[i]?) hz
      simpa [ed, ez] using this
    obtain ⟨a, r, rfl, o⟩ := first_row iv ef
    refine ⟨_, rfl, a, _, 0, .str z, rfl, rfl, SqT.of o, atI_nat (j := 0) rfl, k1 _ _ ⟨rfl, ?_⟩⟩
    rw [List.take_add_one, ez]
    simp
  · rintro ys H' ⟨rfl, rfl⟩
    intro p1 hp1
    have hys : (zs.take us.length).map V.str = (zs.map (Sum.inr : Str → Key)).map kV := by
      rw [List.take_of_length_le (by omega), map_key]
    refine ⟨p1, zs.map Sum.inr, rfl, SqL.of (by rw [upd_same, hys]), by rw [List.length_map]; exact hn, fun p2 hp2 => ?_⟩
    have hle := dedK_le (zs.map (Sum.inr : Str → Key))
    rw [List.length_map] at hle
    have np : p ≠ p1 := ne_of_none hp hp1
    have np2 : p ≠ p2 := ne_of_none (show upd H' p1 _ p = _ from (upd_ne np).trans hp) hp2
    refine ⟨p2, _, _, rfl, upd_same, by omega, _, rfl, p, us, rfl, .inl (SqL.of (by rw [upd_ne np2, upd_ne np]; exact hp)), rfl, ?_⟩
    have e : decide (V.int ((dedK (zs.map (Sum.inr : Str → Key))).length : Int) = V.int (us.length : Int)) = decide zs.Nodup := by
      rw [dec_int, Bool.eq_iff_iff, decide_eq_true_iff, ← nodup_inr, ← dedK_full, List.length_map, beq_iff_eq]
      omega
    rw [e]
    exact dropQ.of ((Drop.new hp2 rfl).trans (Drop.lst hp1)) q

def spField : Sp := sp1 fun x H Q => ∃ d, Is H d x ∧ small d = true ∧ Q (.bl (isField d)) H
theorem ok_p_is_field (T : Txt K mg C) : Fc P w K mg base 3 "is_field" ["thing"] spField := by
  have G_p_is_tuple_of : Fc P w K mg base 1 "is_tuple_of" ["thing", "length"] spTupOf := ok_p_is_tuple_of T
  have G_p_is_name : Fc P w K mg base 1 "is_name" ["thing"] spName := ok_p_is_name T
  have G_p_is_height : Fc P w K mg base 2 "is_height" ["thing"] spHeight := ok_p_is_height T
  have G_p_is_amount : Fc P w K mg base 2 "is_amount" ["thing"] spAmount := ok_p_is_amount T
  refine T.d_p_is_field.fc sc_p_is_field len1 (fun f cdv A outer s H vs Q E hr h => ?_)
  obtain ⟨x, rfl, d, hd, hs, q⟩ := h
  refine ⟨_, (@pss_cons _ _ _ _ _ (@ps_if _ _ _ _ _ _ _ _ (@pt_not _ _ _ _ (@pt_val _ _ _ (@pe_c _ _ _ _ _ _ _ _ _ _ G_p_is_tuple_of (hr.mono (by decide)) (@pa_cons _ _ _ _ _ (pv 0) (@pa_cons _ _ _ _ _ pe_int pa_nil (by rfl)) (by rfl)) (by rfl) (by decide) (by rfl) (by rfl)) (by intro _; rfl))) (@pss_one _ _ _ (@ps_ret _ _ _ _ pe_bl)) pss_nil) (@pss_one _ _ _ (@ps_ret _ _ _ _ (@pe_and _ _ _ _ _ _ _ (@pe_c _ _ _ _ _ _ _ _ _ _ G_p_is_name (hr.mono (by decide)) (@pa_cons _ _ _ _ _ (@pe_ix _ _ _ _ _ _ _ (@ix_tupB _ (K) rfl) (pv 0) pe_int (fun _ _ => rfl)) pa_nil (by rfl)) (by rfl) (by decide) (by rfl) (by rfl)) (@pe_and _ _ _ _ _ _ _ (@pe_c _ _ _ _ _ _ _ _ _ _ G_p_is_height (hr.mono (by decide)) (@pa_cons _ _ _ _ _ (@pe_ix _ _ _ _ _ _ _ (@ix_tupB _ (K) rfl) (pv 0) pe_int (fun _ _ => rfl)) pa_nil (by rfl)) (by rfl) (by decide) (by rfl) (by rfl)) (@pe_one _ _ _ _ _ (@pe_c _ _ _ _ _ _ _ _ _ _ G_p_is_amount (hr.mono (by decide)) (@pa_cons _ _ _ _ _ (@pe_ix _ _ _ _ _ _ _ (@ix_tupB _ (K) rfl) (pv 0) pe_int (fun _ _ => rfl)) pa_nil (by rfl)) (by rfl) (by decide) (by rfl) (by rfl)))))))), ?_⟩
  refine ⟨_, rfl, _, _, rfl, d, 3, hd, rfl, _, rfl, ?_⟩
  by_cases h3 : ∃ a b c, d = .tup [a, b, c]
  · obtain ⟨a, b, c, rfl⟩ := h3
    obtain ⟨t, us, rfl, o, va, r1, rfl, ha, vb, r2, rfl, hb, vc, r3, rfl, hc, h0⟩ := hd
    cases (show r3 = [] from h0)
    have sa : small a = true := by
      exact smallL_mem (small_tup hs) List.mem_cons_self
    have q : Q (.bl (isName a && (isHeight b && isAmount c))) H := q
    refine iteF ⟨_, rfl, t, _, 0, va, rfl, rfl, SqT.of o, atI_nat (j := 0) rfl, _, rfl, a, ha, sa, _, rfl, ?_⟩
    cases ea : isName a with
    | false => rw [ea] at q; exact iteF q
    | true =>
      rw [ea, Bool.true_and] at q
      refine iteT ⟨_, rfl, t, _, 1, vb, rfl, rfl, SqT.of o, atI_nat (j := 1) rfl, _, rfl, b, hb, _, rfl, ?_⟩
      cases eb : isHeight b with
      | false => rw [eb] at q; exact iteF q
      | true =>
        rw [eb, Bool.true_and] at q
        exact iteT ⟨_, rfl, t, _, 2, vc, rfl, rfl, SqT.of o, atI_nat (j := 2) rfl, _, rfl, c, hc, q⟩
  · have e1 : isField d = false := by
      unfold isField
      split
      · rename_i a b c
        exact absurd ⟨a, b, c, rfl⟩ h3
      · rfl
    have e2 : tupIs 3 d = false := by
      cases d with
      | tup ds =>
        refine decide_eq_false (fun e => ?_)
        have e' : ds.length = 3 := by omega
        match ds, e', h3 with
        | [a, b, c], _, h3 => exact h3 ⟨a, b, c, rfl⟩
      | _ => rfl
    dsimp only
    rw [e2]
    rw [e1] at q
    exact iteT q

theorem firsts_of {p : Dv → Bool} (hp : ∀ d, p d = true → ∃ z, firstS d = some z) : ∀ {ds : List Dv}, ds.all p = true → ∃ zs : List Str, ds.map firstS = zs.map some
  | [], _ => ⟨[], rfl⟩
  | d :: ds, h => by
    rw [List.all_cons, Bool.and_eq_true] at h
    obtain ⟨z, e⟩ := hp d h.1
    obtain ⟨zs, e2⟩ := firsts_of hp h.2
    exact ⟨z :: zs, by rw [List.map_cons, List.map_cons, e, e2]⟩
theorem isField_first (d : Dv) (h : isField d = true) : ∃ z, firstS d = some z := by
  unfold isField at h
  split at h
  · rename_i a b c
    rw [Bool.and_eq_true] at h
    cases a with
    | str z => exact ⟨z, rfl⟩
    | _ => cases h.1
  · cases h
def spFields : Sp := sp1 fun x H Q => ∃ d, Is H d x ∧ small d = true ∧ Q (.bl (areFields d)) H
theorem ok_p_are_fields (T : Txt K mg C) : Fc P w K mg base 4 "are_fields" ["thing"] spFields := by
  have G_p_is_list_of : Fc P w K mg base 1 "is_list_of" ["thing", "most"] spListOf := ok_p_is_list_of T
  have G_p_is_field : Fc P w K mg base 3 "is_field" ["thing"] spField := ok_p_is_field T
  have G_p_none_twice : Fc P w K mg base 1 "none_twice" ["rows"] spTwice := ok_p_none_twice T
  refine T.d_p_are_fields.fcD sc_p_are_fields len1 (fun f cdv A outer s H vs Q E hr h => ?_)
  obtain ⟨x, rfl, d, hd, hs, q⟩ := h
  have big := big1000
  refine ⟨_, (@pss_one _ _ _ (@ps_ret _ _ _ _ (@pe_and _ _ _ _ _ _ _ (@pe_c _ _ _ _ _ _ _ _ _ _ G_p_is_list_of (hr.mono (by decide)) (@pa_cons _ _ _ _ _ (pv 0) (@pa_cons _ _ _ _ _ (@pe_g _ _ _ _ T.g_MOST_FIELDS (by rfl) (by decide)) pa_nil (by rfl)) (by rfl)) (by rfl) (by decide) (by rfl) (by rfl)) (@pe_and _ _ _ _ _ _ _ (@pe_callB _ _ _ _ _ _ _ _ _ (@call_all _ rfl) rfl T.n_all boot_all' (@pa_cons _ _ _ _ _ (@pe_comp _ _ _ _ _ _ _ _ _ _ _ ["row"] 1 [] rfl (@pi_list _ _ _ _ (pv 0)) (fun R => @pg_name _ _ (0) _ (show List.Nodup (["row"] : List Str) by decide +kernel) rfl (Or.inl rfl) (by first | exact .inl rfl | exact .inr rfl | assumption)) (@gkeep_name _ _ (by decide)) (fun R => pifs_nil) (fun R => (@pe_c _ _ _ _ _ _ _ _ _ _ G_p_is_field (hr.mono (by decide)) (@pa_cons _ _ _ _ _ (pv 0) pa_nil (by rfl)) (by rfl) (by decide) (by rfl) (by rfl))) (by rfl) (by rfl) (by rfl) (by rfl) (by rfl) (by rfl) (by rfl) (by intro _; rfl)) pa_nil (by rfl)) (by decide) (by decide) (by rfl) (by rfl)) (@pe_one _ _ _ _ _ (@pe_c _ _ _ _ _ _ _ _ _ _ G_p_none_twice (hr.mono (by decide)) (@pa_cons _ _ _ _ _ (pv 0) pa_nil (by rfl)) (by rfl) (by decide) (by rfl) (by rfl))))))), ?_⟩
  refine ⟨_, rfl, _, _, rfl, d, 12, hd, rfl, _, rfl, ?_⟩
  cases d with
  | lst ds =>
    obtain ⟨p, us, rfl, o, hi⟩ := hd
    have l1 := hi.length
    have hs' := Bool.and_eq_true_iff.mp (show (decide (ds.length ≤ 1000) && smallL ds) = true from hs)
    have l2 : ds.length ≤ 1000 := of_decide_eq_true hs'.1
    have q : Q (.bl ((decide (1 ≤ ds.length) && decide (ds.length ≤ 12)) && (ds.all isField && decide ((ds.map firstS).Nodup)))) H := q
    have e0 : (decide (1 ≤ ds.length) && decide ((ds.length : Int) ≤ 12)) = (decide (1 ≤ ds.length) && decide (ds.length ≤ 12)) := by
      congr 1
      rw [Bool.eq_iff_iff, decide_eq_true_iff, decide_eq_true_iff]
      omega
    show if (decide (1 ≤ ds.length) && decide ((ds.length : Int) ≤ 12)) = true then _ else _
    rw [e0]
    refine ite2 (fun h1 => ?_) (fun h1 => ?_)
    · rw [h1, Bool.true_and] at q
      refine ⟨_, rfl, p, rfl, ⟨_, SqL.of o⟩, ?_⟩
      refine comp_list (F := K) (xs := us) (by omega) (fun i ys H' => H' = H ∧ ys = (ds.take i).map fun d => V.bl (isField d)) ⟨rfl, rfl⟩ ?_ ?_ ?_
      · rintro i ys H' hi' ⟨rfl, rfl⟩
        exact ⟨SqL.of o, by rw [List.length_map, List.length_take]; omega⟩
      · rintro i x ys H' K1 K2 hx ⟨rfl, rfl⟩ k1 k2
        have hil : i < us.length := (List.getElem?_eq_some_iff.mp hx).1
        obtain ⟨d, ed⟩ : ∃ d, ds[i]? = some d := ⟨_, List.getElem?_eq_getElem (by omega)⟩
        obtain ⟨v, ev, iv⟩ := hi.get ed
        rw [hx] at ev
        cases ev
        refine ⟨_, rfl, _, rfl, d, iv, smallL_mem hs'.2 (List.mem_of_getElem? ed), k1 _ _ ⟨rfl, ?_⟩⟩
        rw [List.take_add_one, ed]
        simp
      · rintro ys H' ⟨rfl, rfl⟩
        intro p1 hp1
        have np : p ≠ p1 := ne_of_none o hp1
        refine ⟨p1, ds.map isField, rfl, SqL.of ?_, _, rfl, ?_⟩
        · rw [upd_same, List.take_of_length_le (by omega), List.map_map]
          rfl
        have e1 : (ds.map isField).all id = ds.all isField := by rw [List.all_map]; rfl
        rw [e1]
        refine ite2 (fun h2 => ?_) (fun h2 => ?_)
        · rw [h2, Bool.true_and] at q
          obtain ⟨zs, ez⟩ := firsts_of isField_first h2
          have l3 : zs.length = ds.length := by have := congrArg List.length ez; simpa using this.symm
          refine ⟨_, rfl, _, rfl, p, us, ds, zs, rfl, by rw [upd_ne np]; exact o, IsL.same (Same.upd hp1) _ _ hi, ez, by omega, ?_⟩
          have e2 : decide zs.Nodup = decide (ds.map firstS).Nodup := by rw [ez, Bool.eq_iff_iff, decide_eq_true_iff, decide_eq_true_iff, nodup_some]
          rw [e2]
          exact dropQ.of (Drop.lst hp1) q
        · have h2' : ds.all isField = false := by simpa using h2
          rw [h2'] at q
          exact dropQ.of (Drop.lst hp1) q
    · have h1' : (decide (1 ≤ ds.length) && decide (ds.length ≤ 12)) = false := by simpa using h1
      rw [h1'] at q
      exact dropQ.of (.refl _) q
  | _ => exact iteF (dropQ.of (.refl _) q)

def spSides (K : PySem.W.Frag) : Sp := sp3 fun x y u H Q => ∃ (a b : Dv) (p : Addr) (zs : List Str), Is H a x ∧ Is H b y ∧ u = .ref p ∧ SqL K H p (zs.map V.str) ∧ Q (.bl (areSides zs a b)) H
theorem ok_p_are_sides (T : Txt K mg C) : Fc P w K mg base 2 "are_sides" ["one", "other", "sides"] (spSides K) := by
  have G_p_is_one_of : Fc P w K mg base 1 "is_one_of" ["thing", "names"] (spOneOf K) := ok_p_is_one_of T
  refine T.d_p_are_sides.fc sc_p_are_sides len3 (fun f cdv A outer s H vs Q E hr h => ?_)
  obtain ⟨x, y, u, rfl, a, b, p, zs, ha, hb, rfl, hp, q⟩ := h
  refine ⟨_, (@pss_one _ _ _ (@ps_ret _ _ _ _ (@pe_and _ _ _ _ _ _ _ (@pe_c _ _ _ _ _ _ _ _ _ _ G_p_is_one_of (hr.mono (by decide)) (@pa_cons _ _ _ _ _ (pv 0) (@pa_cons _ _ _ _ _ (pv 2) pa_nil (by rfl)) (by rfl)) (by rfl) (by decide) (by rfl) (by rfl)) (@pe_and _ _ _ _ _ _ _ (@pe_c _ _ _ _ _ _ _ _ _ _ G_p_is_one_of (hr.mono (by decide)) (@pa_cons _ _ _ _ _ (pv 1) (@pa_cons _ _ _ _ _ (pv 2) pa_nil (by rfl)) (by rfl)) (by rfl) (by decide) (by rfl) (by rfl)) (@pe_one _ _ _ _ _ (@pe_cmpR _ _ _ _ _ _ _ _ op_ne (pv 0) (pv 1) (@nomark _ _ (by decide) (by decide)))))))), ?_⟩
  have q : Q (.bl (oneOf zs a && (oneOf zs b && !deq a b))) H := q
  refine ⟨_, rfl, _, rfl, _, _, rfl, a, p, zs, ha, rfl, hp, _, rfl, ?_⟩
  cases ea : oneOf zs a with
  | false => rw [ea] at q; exact iteF q
  | true =>
    rw [ea, Bool.true_and] at q
    refine iteT ⟨_, rfl, _, rfl, _, _, rfl, b, p, zs, hb, rfl, hp, _, rfl, ?_⟩
    cases eb : oneOf zs b with
    | false => rw [eb] at q; exact iteF q
    | true =>
      rw [eb, Bool.true_and] at q
      cases a with
      | str z =>
        cases b with
        | str z' =>
          cases (show x = .str z from ha)
          cases (show y = .str z' from hb)
          refine iteT ⟨_, rfl, _, rfl, rfl, ?_⟩
          have e : (!decide (V.str z = V.str z')) = !deq (.str z) (.str z') := by rw [dec_str]; rfl
          rw [e]
          exact q
        | _ => cases eb
      | _ => cases ea

def spSill : Sp := sp2 fun x y H Q => ∃ (d : Dv) (j : Int), Is H d x ∧ y = .int j ∧ Q (.bl (isSill (.int j) d)) H
theorem ok_p_is_sill (T : Txt K mg C) : Fc P w K mg base 3 "is_sill" ["thing", "crown"] spSill := by
  have G_p_is_height : Fc P w K mg base 2 "is_height" ["thing"] spHeight := ok_p_is_height T
  refine T.d_p_is_sill.fc sc_p_is_sill len2 (fun f cdv A outer s H vs Q E hr h => ?_)
  obtain ⟨x, y, rfl, d, j, hd, rfl, q⟩ := h
  refine ⟨_, (@pss_one _ _ _ (@ps_ret _ _ _ _ (@pe_or _ _ _ _ _ _ _ (@pe_cmpR _ _ _ _ _ _ _ _ op_isN (pv 0) pe_non (@nomark _ _ (by decide) (by decide))) (@pe_one _ _ _ _ _ (@pe_and _ _ _ _ _ _ _ (@pe_c _ _ _ _ _ _ _ _ _ _ G_p_is_height (hr.mono (by decide)) (@pa_cons _ _ _ _ _ (pv 0) pa_nil (by rfl)) (by rfl) (by decide) (by rfl) (by rfl)) (@pe_one _ _ _ _ _ (@pe_cmpR _ _ _ _ _ _ _ _ op_lt (pv 0) (pv 1) (@nomark _ _ (by decide) (by decide))))))))), ?_⟩
  refine ⟨_, rfl, rfl, _, rfl, ?_⟩
  cases d with
  | non =>
    cases (show x = .non from hd)
    rw [decide_eq_true rfl]
    exact iteT q
  | int i =>
    cases (show x = .int i from hd)
    rw [decide_eq_false (show ¬ V.int i = V.non by intro z; cases z)]
    refine iteF ⟨_, rfl, _, rfl, .int i, rfl, _, rfl, ?_⟩
    have q : Q (.bl (hgt i && decide (i < j))) H := q
    show if hgt i = true then _ else _
    cases e : hgt i with
    | false => rw [e] at q; exact iteF q
    | true => rw [e, Bool.true_and] at q; exact iteT ⟨_, rfl, _, rfl, _, _, rfl, rfl, q⟩
  | bl b =>
    cases (show x = .bl b from hd)
    rw [decide_eq_false (show ¬ V.bl b = V.non by intro z; cases z)]
    exact iteF ⟨_, rfl, _, rfl, .bl b, rfl, _, rfl, iteF q⟩
  | str b =>
    cases (show x = .str b from hd)
    rw [decide_eq_false (show ¬ V.str b = V.non by intro z; cases z)]
    exact iteF ⟨_, rfl, _, rfl, .str b, rfl, _, rfl, iteF q⟩
  | lst b =>
    obtain ⟨a, us, rfl, o⟩ := id hd
    rw [decide_eq_false (show ¬ V.ref a = V.non by intro z; cases z)]
    exact iteF ⟨_, rfl, _, rfl, .lst b, hd, _, rfl, iteF q⟩
  | tup b =>
    obtain ⟨a, us, rfl, o⟩ := id hd
    rw [decide_eq_false (show ¬ V.ref a = V.non by intro z; cases z)]
    exact iteF ⟨_, rfl, _, rfl, .tup b, hd, _, rfl, iteF q⟩
  | dct b c =>
    obtain ⟨a, us, rfl, o⟩ := id hd
    rw [decide_eq_false (show ¬ V.ref a = V.non by intro z; cases z)]
    exact iteF ⟨_, rfl, _, rfl, .dct b c, hd, _, rfl, iteF q⟩

def spDyke (K : PySem.W.Frag) : Sp := sp2 fun x y H Q => ∃ (d : Dv) (p : Addr) (zs : List Str), Is H d x ∧ small d = true ∧ y = .ref p ∧ SqL K H p (zs.map V.str) ∧ Q (.bl (isDyke zs d)) H
theorem ok_p_is_dyke (T : Txt K mg C) : Fc P w K mg base 4 "is_dyke" ["thing", "sides"] (spDyke K) := by
  have G_p_is_tuple_of : Fc P w K mg base 1 "is_tuple_of" ["thing", "length"] spTupOf := ok_p_is_tuple_of T
  have G_p_is_name : Fc P w K mg base 1 "is_name" ["thing"] spName := ok_p_is_name T
  have G_p_are_sides : Fc P w K mg base 2 "are_sides" ["one", "other", "sides"] (spSides K) := ok_p_are_sides T
  have G_p_is_height : Fc P w K mg base 2 "is_height" ["thing"] spHeight := ok_p_is_height T
  have G_p_is_amount : Fc P w K mg base 2 "is_amount" ["thing"] spAmount := ok_p_is_amount T
  have G_p_is_sill : Fc P w K mg base 3 "is_sill" ["thing", "crown"] spSill := ok_p_is_sill T
  refine T.d_p_is_dyke.fc sc_p_is_dyke len2 (fun f cdv A outer s H vs Q E hr h => ?_)
  obtain ⟨x, y, rfl, d, p, zs, hd, hs, rfl, hp, q⟩ := h
  refine ⟨_, (@pss_cons _ _ _ _ _ (@ps_if _ _ _ _ _ _ _ _ (@PW.pt _ _ _ (@pw_or _ _ _ _ _ _ _ (@pt_not _ _ _ _ (@pt_val _ _ _ (@pe_c _ _ _ _ _ _ _ _ _ _ G_p_is_tuple_of (hr.mono (by decide)) (@pa_cons _ _ _ _ _ (pv 0) (@pa_cons _ _ _ _ _ pe_int pa_nil (by rfl)) (by rfl)) (by rfl) (by decide) (by rfl) (by rfl)) (by intro _; rfl))) (@pw_or _ _ _ _ _ _ _ (@pt_not _ _ _ _ (@pt_val _ _ _ (@pe_c _ _ _ _ _ _ _ _ _ _ G_p_is_name (hr.mono (by decide)) (@pa_cons _ _ _ _ _ (@pe_ix _ _ _ _ _ _ _ (@ix_tupB _ (K) rfl) (pv 0) pe_int (fun _ _ => rfl)) pa_nil (by rfl)) (by rfl) (by decide) (by rfl) (by rfl)) (by intro _; rfl))) (@pw_or1 _ _ _ _ (@pt_not _ _ _ _ (@pt_val _ _ _ (@pe_c _ _ _ _ _ _ _ _ _ _ G_p_are_sides (hr.mono (by decide)) (@pa_cons _ _ _ _ _ (@pe_ix _ _ _ _ _ _ _ (@ix_tupB _ (K) rfl) (pv 0) pe_int (fun _ _ => rfl)) (@pa_cons _ _ _ _ _ (@pe_ix _ _ _ _ _ _ _ (@ix_tupB _ (K) rfl) (pv 0) pe_int (fun _ _ => rfl)) (@pa_cons _ _ _ _ _ (pv 1) pa_nil (by rfl)) (by rfl)) (by rfl)) (by rfl) (by decide) (by rfl) (by rfl)) (by intro _; rfl))))))) (@pss_one _ _ _ (@ps_ret _ _ _ _ pe_bl)) pss_nil) (@pss_one _ _ _ (@ps_ret _ _ _ _ (@pe_and _ _ _ _ _ _ _ (@pe_c _ _ _ _ _ _ _ _ _ _ G_p_is_height (hr.mono (by decide)) (@pa_cons _ _ _ _ _ (@pe_ix _ _ _ _ _ _ _ (@ix_tupB _ (K) rfl) (pv 0) pe_int (fun _ _ => rfl)) pa_nil (by rfl)) (by rfl) (by decide) (by rfl) (by rfl)) (@pe_and _ _ _ _ _ _ _ (@pe_c _ _ _ _ _ _ _ _ _ _ G_p_is_amount (hr.mono (by decide)) (@pa_cons _ _ _ _ _ (@pe_ix _ _ _ _ _ _ _ (@ix_tupB _ (K) rfl) (pv 0) pe_int (fun _ _ => rfl)) pa_nil (by rfl)) (by rfl) (by decide) (by rfl) (by rfl)) (@pe_one _ _ _ _ _ (@pe_c _ _ _ _ _ _ _ _ _ _ G_p_is_sill (hr.mono (by decide)) (@pa_cons _ _ _ _ _ (@pe_ix _ _ _ _ _ _ _ (@ix_tupB _ (K) rfl) (pv 0) pe_int (fun _ _ => rfl)) (@pa_cons _ _ _ _ _ (@pe_ix _ _ _ _ _ _ _ (@ix_tupB _ (K) rfl) (pv 0) pe_int (fun _ _ => rfl)) pa_nil (by rfl)) (by rfl)) (by rfl) (by decide) (by rfl) (by rfl)))))))), ?_⟩
  refine ⟨_, rfl, _, _, rfl, d, 6, hd, rfl, _, rfl, ?_⟩
  by_cases h6 : ∃ n a b c r l, d = .tup [n, a, b, c, r, l]
  · obtain ⟨n, a, b, c, r, l, rfl⟩ := h6
    obtain ⟨t, us, rfl, o, v0, r0, rfl, i0, v1, r1, rfl, i1, v2, r2, rfl, i2, v3, r3, rfl, i3, v4, r4, rfl, i4, v5, r5, rfl, i5, h0⟩ := hd
    cases (show r5 = [] from h0)
    have sn : small n = true := by
      exact smallL_mem (small_tup hs) List.mem_cons_self
    have q : Q (.bl (isName n && areSides zs a b && (isHeight c && (isAmount r && isSill c l)))) H := q
    have at_ : ∀ (j : Nat) (v : V), ([v0, v1, v2, v3, v4, v5] : List V)[j]? = some v → atI [v0, v1, v2, v3, v4, v5] (j : Int) = some v := fun j v e => atI_nat e
    refine iteF ⟨_, rfl, t, _, 0, v0, rfl, rfl, SqT.of o, at_ 0 _ rfl, _, rfl, n, i0, sn, _, rfl, ?_⟩
    cases en : isName n with
    | false => rw [en] at q; exact iteT q
    | true =>
      rw [en, Bool.true_and] at q
      refine iteF ⟨_, rfl, t, _, 1, v1, rfl, rfl, SqT.of o, at_ 1 _ rfl, _, rfl, t, _, 2, v2, rfl, rfl, SqT.of o, at_ 2 _ rfl, _, rfl, _, _, _, rfl, a, b, p, zs, i1, i2, rfl, hp, _, rfl, ?_⟩
      cases es : areSides zs a b with
      | false => rw [es] at q; exact iteT q
      | true =>
        rw [es, Bool.true_and] at q
        refine iteF ⟨_, rfl, t, _, 3, v3, rfl, rfl, SqT.of o, at_ 3 _ rfl, _, rfl, c, i3, _, rfl, ?_⟩
        cases ec : isHeight c with
        | false => rw [ec] at q; exact iteF q
        | true =>
          rw [ec, Bool.true_and] at q
          refine iteT ⟨_, rfl, t, _, 4, v4, rfl, rfl, SqT.of o, at_ 4 _ rfl, _, rfl, r, i4, _, rfl, ?_⟩
          cases er : isAmount r with
          | false => rw [er] at q; exact iteF q
          | true =>
            rw [er, Bool.true_and] at q
            cases c with
            | int j =>
              cases (show v3 = .int j from i3)
              exact iteT ⟨_, rfl, t, _, 5, v5, rfl, rfl, SqT.of o, at_ 5 _ rfl, _, rfl, t, _, 3, _, rfl, rfl, SqT.of o, at_ 3 _ rfl, _, _, rfl, l, j, i5, rfl, q⟩
            | _ => cases ec
  · have e1 : isDyke zs d = false := by
      unfold isDyke
      split
      · rename_i n a b c r l
        exact absurd ⟨n, a, b, c, r, l, rfl⟩ h6
      · rfl
    have e2 : tupIs 6 d = false := by
      cases d with
      | tup ds =>
        refine decide_eq_false (fun e => ?_)
        have e' : ds.length = 6 := by omega
        match ds, e', h6 with
        | [n, a, b, c, r, l], _, h6 => exact h6 ⟨n, a, b, c, r, l, rfl⟩
      | _ => rfl
    dsimp only
    rw [e2]
    rw [e1] at q
    exact iteT q
theorem isDyke_first {zs : List Str} (d : Dv) (h : isDyke zs d = true) : ∃ z, firstS d = some z := by
  unfold isDyke at h
  split at h
  · rename_i n a b c r l
    rw [Bool.and_eq_true, Bool.and_eq_true] at h
    cases n with
    | str z => exact ⟨z, rfl⟩
    | _ => cases h.1.1
  · cases h
def spDykes (K : PySem.W.Frag) : Sp := sp2 fun x y H Q => ∃ (d : Dv) (p : Addr) (zs : List Str), Is H d x ∧ small d = true ∧ y = .ref p ∧ H p = some (.lst (zs.map V.str)) ∧ Q (.bl (areDykes zs d)) H
theorem ok_p_are_dykes (T : Txt K mg C) : Fc P w K mg base 5 "are_dykes" ["thing", "sides"] (spDykes K) := by
  have G_p_is_list_of : Fc P w K mg base 1 "is_list_of" ["thing", "most"] spListOf := ok_p_is_list_of T
  have G_p_is_dyke : Fc P w K mg base 4 "is_dyke" ["thing", "sides"] (spDyke K) := ok_p_is_dyke T
  have G_p_none_twice : Fc P w K mg base 1 "none_twice" ["rows"] spTwice := ok_p_none_twice T
  refine T.d_p_are_dykes.fcD sc_p_are_dykes len2 (fun f cdv A outer s H vs Q E hr h => ?_)
  obtain ⟨x, y, rfl, d, p0, zs0, hd, hs, rfl, hp0, q⟩ := h
  have big := big1000
  refine ⟨_, (@pss_one _ _ _ (@ps_ret _ _ _ _ (@pe_and _ _ _ _ _ _ _ (@pe_c _ _ _ _ _ _ _ _ _ _ G_p_is_list_of (hr.mono (by decide)) (@pa_cons _ _ _ _ _ (pv 0) (@pa_cons _ _ _ _ _ (@pe_g _ _ _ _ T.g_MOST_DYKES (by rfl) (by decide)) pa_nil (by rfl)) (by rfl)) (by rfl) (by decide) (by rfl) (by rfl)) (@pe_and _ _ _ _ _ _ _ (@pe_callB _ _ _ _ _ _ _ _ _ (@call_all _ rfl) rfl T.n_all boot_all' (@pa_cons _ _ _ _ _ (@pe_comp _ _ _ _ _ _ _ _ _ _ _ ["row", "sides"] 1 [1] rfl (@pi_list _ _ _ _ (pv 0)) (fun R => @pg_name _ _ (0) _ (show List.Nodup (["row", "sides"] : List Str) by decide +kernel) rfl (Or.inl rfl) (by first | exact .inl rfl | exact .inr rfl | assumption)) (@gkeep_name _ _ (by decide)) (fun R => pifs_nil) (fun R => (@pe_c _ _ _ _ _ _ _ _ _ _ G_p_is_dyke (hr.mono (by decide)) (@pa_cons _ _ _ _ _ (pv 0) (@pa_cons _ _ _ _ _ (pv 1) pa_nil (by rfl)) (by rfl)) (by rfl) (by decide) (by rfl) (by rfl))) (by rfl) (by rfl) (by rfl) (by rfl) (by rfl) (by rfl) (by rfl) (by intro _; rfl)) pa_nil (by rfl)) (by decide) (by decide) (by rfl) (by rfl)) (@pe_one _ _ _ _ _ (@pe_c _ _ _ _ _ _ _ _ _ _ G_p_none_twice (hr.mono (by decide)) (@pa_cons _ _ _ _ _ (pv 0) pa_nil (by rfl)) (by rfl) (by decide) (by rfl) (by rfl))))))), ?_⟩
  refine ⟨_, rfl, _, _, rfl, d, 40, hd, rfl, _, rfl, ?_⟩
  cases d with
  | lst ds =>
    obtain ⟨p, us, rfl, o, hi⟩ := hd
    have l1 := hi.length
    have hs' := Bool.and_eq_true_iff.mp (show (decide (ds.length ≤ 1000) && smallL ds) = true from hs)
    have l2 : ds.length ≤ 1000 := of_decide_eq_true hs'.1
    have q : Q (.bl ((decide (1 ≤ ds.length) && decide (ds.length ≤ 40)) && (ds.all (isDyke zs0) && decide ((ds.map firstS).Nodup)))) H := q
    have e0 : (decide (1 ≤ ds.length) && decide ((ds.length : Int) ≤ 40)) = (decide (1 ≤ ds.length) && decide (ds.length ≤ 40)) := by
      congr 1
      rw [Bool.eq_iff_iff, decide_eq_true_iff, decide_eq_true_iff]
      omega
    show if (decide (1 ≤ ds.length) && decide ((ds.length : Int) ≤ 40)) = true then _ else _
    rw [e0]
    refine ite2 (fun h1 => ?_) (fun h1 => ?_)
    · rw [h1, Bool.true_and] at q
      refine ⟨_, rfl, p, rfl, ⟨_, SqL.of o⟩, ?_⟩
      refine comp_list (F := K) (xs := us) (by omega) (fun i ys H' => H' = H ∧ ys = (ds.take i).map fun d => V.bl (isDyke zs0 d)) ⟨rfl, rfl⟩ ?_ ?_ ?_
      · rintro i ys H' hi' ⟨rfl, rfl⟩
        exact ⟨SqL.of o, by rw [List.length_map, List.length_take]; omega⟩
      · rintro i x ys H' K1 K2 hx ⟨rfl, rfl⟩ k1 k2
        have hil : i < us.length := (List.getElem?_eq_some_iff.mp hx).1
        obtain ⟨d, ed⟩ : ∃ d, ds[i]? = some d := ⟨_, List.getElem?_eq_getElem (by omega)⟩
        obtain ⟨v, ev, iv⟩ := hi.get ed
        rw [hx] at ev
        cases ev
        refine ⟨_, rfl, _, rfl, _, _, rfl, d, p0, zs0, iv, smallL_mem hs'.2 (List.mem_of_getElem? ed), rfl, SqL.of hp0, k1 _ _ ⟨rfl, ?_⟩⟩
        rw [List.take_add_one, ed]
        simp
      · rintro ys H' ⟨rfl, rfl⟩
        intro p1 hp1
        have np : p ≠ p1 := ne_of_none o hp1
        refine ⟨p1, ds.map (isDyke zs0), rfl, SqL.of ?_, _, rfl, ?_⟩
        · rw [upd_same, List.take_of_length_le (by omega), List.map_map]
          rfl
        have e1 : (ds.map (isDyke zs0)).all id = ds.all (isDyke zs0) := by rw [List.all_map]; rfl
        rw [e1]
        refine ite2 (fun h2 => ?_) (fun h2 => ?_)
        · rw [h2, Bool.true_and] at q
          obtain ⟨zs, ez⟩ := firsts_of isDyke_first h2
          have l3 : zs.length = ds.length := by have := congrArg List.length ez; simpa using this.symm
          refine ⟨_, rfl, _, rfl, p, us, ds, zs, rfl, by rw [upd_ne np]; exact o, IsL.same (Same.upd hp1) _ _ hi, ez, by omega, ?_⟩
          have e2 : decide zs.Nodup = decide (ds.map firstS).Nodup := by rw [ez, Bool.eq_iff_iff, decide_eq_true_iff, decide_eq_true_iff, nodup_some]
          rw [e2]
          exact dropQ.of (Drop.lst hp1) q
        · have h2' : ds.all (isDyke zs0) = false := by simpa using h2
          rw [h2'] at q
          exact dropQ.of (Drop.lst hp1) q
    · have h1' : (decide (1 ≤ ds.length) && decide (ds.length ≤ 40)) = false := by simpa using h1
      rw [h1'] at q
      exact dropQ.of (.refl _) q
  | _ => exact iteF (dropQ.of (.refl _) q)


def spInit (C : Addr) : Sp := sp3 fun x v1 v2 H Q => ∃ (p dx : Addr) (fs ds : List Dv), x = .ref p ∧ H p = some (.ins C dx []) ∧ Is H (.lst fs) v1 ∧ Is H (.lst ds) v2 ∧ small (.lst fs) = true ∧ small (.lst ds) = true ∧
  areFields (.lst fs) = true ∧ areDykes ("sea" :: fs.map nmOf) (.lst ds) = true ∧ ∀ H', LandAt C H' p fs ds → (∀ b o, H b = some o → b ≠ p → H' b = some o) → Q .non H'
def spRows (C : Addr) (sel : List Dv → List Dv → List Dv) : Sp := sp1 fun x H Q => ∃ (p : Addr) (fs ds : List Dv), x = .ref p ∧ LandAt C H p fs ds ∧ ∀ (l : Addr) (vs : List V) (H' : Hp), Same H H' → H l = none → H' l = some (.lst vs) → IsL H' (sel fs ds) vs → Q (.ref l) H'
def spRowsX (C : Addr) (sel : List Dv → List Dv → List Dv) : Sp := sp1 fun x H Q => ∃ (p : Addr) (fs ds : List Dv), x = .ref p ∧ LandAt C H p fs ds ∧ ∀ (l : Addr) (vs : List V), H l = none → IsL H (sel fs ds) vs → Q (.ref l) (upd H l (.lst vs))
theorem rows_imp {C : Addr} {sel : List Dv → List Dv → List Dv} : ∀ vs H Q E, spRows C sel vs H Q E → spRowsX C sel vs H Q E := by
  rintro vs H Q E ⟨x, rfl, p, fs, ds, rfl, L, q⟩
  exact ⟨_, rfl, p, fs, ds, rfl, L, fun l us hl hi => q l us _ (Same.upd hl) hl upd_same (IsL.same (Same.upd hl) _ _ hi)⟩
theorem ok_land_p_fieldsX (T : Txt K mg C) : Mc P w K mg base 1 C "fields" ["self"] (spRowsX C fun fs _ => fs) := by
  refine T.m_land_p_fields.mcD sc_land_p_fields len1 (fun f cdv A outer s H vs Q E hr h => ?_)
  obtain ⟨x, rfl, p, fs, ds, rfl, L, q⟩ := h
  obtain ⟨dx, d1, d2, hx, ⟨k1, h1, e1, i1⟩, t2⟩ := L.ex
  refine ⟨_, (@pss_one _ _ _ (@ps_ret _ _ _ _ (@pe_callTy _ _ _ _ _ _ _ _ _ (@call_list_values _ rfl) rfl T.n_list boot_list' (@pa_cons _ _ _ _ _ (@pe_bm0 _ _ _ _ _ _ _ _ _ PySem.F.plainAttrs_dict PySem.F.slot_dict_values PySem.F.type_dict_values mt_values (@pe_fld _ _ _ _ _ (pv 0) rfl) (by rfl) (by rfl)) pa_nil (by rfl)) (by decide) (by decide) (by rfl) (by rfl)))), ?_⟩
  refine ⟨_, rfl, p, C, dx, _, _, rfl, hx, T.cl_Land, T.a_field_rows, landF_f _ _, .inr (.inr (.inl ⟨rfl, .inl ⟨_, h1⟩⟩)), d1, k1, rfl, rfl, .inl h1, fun v hv => ?_⟩
  have nv : d1 ≠ v := ne_of_none h1 hv
  refine ⟨v, d1, k1, rfl, upd_same, .inl (by rw [upd_ne nv]; exact h1), fun l hl => ?_⟩
  exact dropQ.of (Drop.under hv rfl hl) (q l _ ((Same.upd hv).free hl) i1)
theorem ok_land_p_dykesX (T : Txt K mg C) : Mc P w K mg base 1 C "dykes" ["self"] (spRowsX C fun _ ds => ds) := by
  refine T.m_land_p_dykes.mcD sc_land_p_dykes len1 (fun f cdv A outer s H vs Q E hr h => ?_)
  obtain ⟨x, rfl, p, fs, ds, rfl, L, q⟩ := h
  obtain ⟨dx, d1, d2, hx, t1, ⟨k1, h1, e1, i1⟩⟩ := L.ex
  refine ⟨_, (@pss_one _ _ _ (@ps_ret _ _ _ _ (@pe_callTy _ _ _ _ _ _ _ _ _ (@call_list_values _ rfl) rfl T.n_list boot_list' (@pa_cons _ _ _ _ _ (@pe_bm0 _ _ _ _ _ _ _ _ _ PySem.F.plainAttrs_dict PySem.F.slot_dict_values PySem.F.type_dict_values mt_values (@pe_fld _ _ _ _ _ (pv 0) rfl) (by rfl) (by rfl)) pa_nil (by rfl)) (by decide) (by decide) (by rfl) (by rfl)))), ?_⟩
  refine ⟨_, rfl, p, C, dx, _, _, rfl, hx, T.cl_Land, T.a_dyke_rows, landF_d _ _, .inr (.inr (.inl ⟨rfl, .inl ⟨_, h1⟩⟩)), d2, k1, rfl, rfl, .inl h1, fun v hv => ?_⟩
  have nv : d2 ≠ v := ne_of_none h1 hv
  refine ⟨v, d2, k1, rfl, upd_same, .inl (by rw [upd_ne nv]; exact h1), fun l hl => ?_⟩
  exact dropQ.of (Drop.under hv rfl hl) (q l _ ((Same.upd hv).free hl) i1)
theorem ok_land_p_fields (T : Txt K mg C) : Mc P w K mg base 1 C "fields" ["self"] (spRows C fun fs _ => fs) := (ok_land_p_fieldsX T).imp rows_imp
theorem ok_land_p_dykes (T : Txt K mg C) : Mc P w K mg base 1 C "dykes" ["self"] (spRows C fun _ ds => ds) := (ok_land_p_dykesX T).imp rows_imp
theorem dyke_row {H : Hp} {n a b : Str} {c r : Int} {s : Dv} {v : V} (h : Is H (.tup [.str n, .str a, .str b, .int c, .int r, s]) v) : ∃ t vs, v = .ref t ∧ H t = some (.tup [.str n, .str a, .str b, .int c, .int r, vs]) ∧ Is H s vs := by
  obtain ⟨t, us, rfl, o, v0, r0, rfl, i0, v1, r1, rfl, i1, v2, r2, rfl, i2, v3, r3, rfl, i3, v4, r4, rfl, i4, v5, r5, rfl, i5, h0⟩ := h
  cases (show r5 = [] from h0)
  cases (show v0 = _ from i0)
  cases (show v1 = _ from i1)
  cases (show v2 = _ from i2)
  cases (show v3 = _ from i3)
  cases (show v4 = _ from i4)
  exact ⟨t, v5, rfl, o, i5⟩
theorem field_row {H : Hp} {n : Str} {g e : Int} {v : V} (h : Is H (.tup [.str n, .int g, .int e]) v) : ∃ t, v = .ref t ∧ H t = some (.tup [.str n, .int g, .int e]) := by
  obtain ⟨t, us, rfl, o, v0, r0, rfl, i0, v1, r1, rfl, i1, v2, r2, rfl, i2, h0⟩ := h
  cases (show r2 = [] from h0)
  cases (show v0 = _ from i0)
  cases (show v1 = _ from i1)
  cases (show v2 = _ from i2)
  exact ⟨t, rfl, o⟩
theorem zip_fst {α β : Type} : ∀ {xs : List α} {ys : List β}, xs.length = ys.length → (xs.zip ys).map (·.1) = xs
  | [], [], _ => rfl
  | x :: xs, y :: ys, h => by rw [List.zip_cons_cons, List.map_cons, zip_fst (by simpa using h)]
  | [], _ :: _, h => by simp at h
  | _ :: _, [], h => by simp at h
theorem zip_snd {α β : Type} : ∀ {xs : List α} {ys : List β}, xs.length = ys.length → (xs.zip ys).map (·.2) = ys
  | [], [], _ => rfl
  | x :: xs, y :: ys, h => by rw [List.zip_cons_cons, List.map_cons, zip_snd (by simpa using h)]
  | [], _ :: _, h => by simp at h
  | _ :: _, [], h => by simp at h
def pairsOf (ds : List Dv) (us : List V) : List (Key × V) := (ds.map keyOf).zip us
theorem pairs_keys {ds : List Dv} {us : List V} (h : us.length = ds.length) : (pairsOf ds us).map (·.1) = ds.map keyOf := zip_fst (by rw [List.length_map]; exact h.symm)
theorem pairs_vals {ds : List Dv} {us : List V} (h : us.length = ds.length) : (pairsOf ds us).map (·.2) = us := zip_snd (by rw [List.length_map]; exact h.symm)
theorem pairs_len {ds : List Dv} {us : List V} (h : us.length = ds.length) : (pairsOf ds us).length = us.length := by
  unfold pairsOf
  rw [List.length_zip, List.length_map]
  omega
theorem pairs_at {ds : List Dv} {us : List V} {i : Nat} {d : Dv} {v : V} (e1 : ds[i]? = some d) (e2 : us[i]? = some v) : (pairsOf ds us)[i]? = some (keyOf d, v) := by
  unfold pairsOf
  rw [List.getElem?_zip_eq_some]
  exact ⟨by rw [List.getElem?_map, e1]; rfl, e2⟩
theorem key_nodup {ds : List Dv} (h : (ds.map nmOf).Nodup) : (ds.map keyOf).Nodup := by
  have e : ds.map keyOf = (ds.map nmOf).map Sum.inr := by rw [List.map_map]; rfl
  rw [e, nodup_inr]
  exact h
theorem ok_land_pinit (T : Txt K mg C) : Ic P w K mg base 6 C ["self", "fields", "dykes"] (spInit C) := by
  have G_p_are_fields : Fc P w K mg base 4 "are_fields" ["thing"] spFields := ok_p_are_fields T
  have G_p_are_dykes : Fc P w K mg base 5 "are_dykes" ["thing", "sides"] (spDykes K) := ok_p_are_dykes T
  refine T.i_Land.ic sc_land_pinit len3 (fun f cdv A outer s H vs Q E hr h => ?_)
  obtain ⟨x, v1, v2, rfl, p, dx, fs, ds, rfl, hx, hf, hd, sf, sd, okf, okd, q⟩ := h
  have big := big1000
  have gf := (goodF_iff _).mp okf
  have gd := (goodD_iff _ _).mp okd
  have lf := gf.l2
  have ld := gd.l2
  obtain ⟨a1, us, rfl, o1, i1⟩ := id hf
  obtain ⟨a2, ws, rfl, o2, i2⟩ := id hd
  have l1 := i1.length
  have l2 := i2.length
  refine ⟨_, (@pss_cons _ _ _ _ _ (@ps_if _ _ _ _ _ _ _ _ (@pt_not _ _ _ _ (@pt_val _ _ _ (@pe_c _ _ _ _ _ _ _ _ _ _ G_p_are_fields (hr.mono (by decide)) (@pa_cons _ _ _ _ _ (pv 1) pa_nil (by rfl)) (by rfl) (by decide) (by rfl) (by rfl)) (by intro _; rfl))) (@pss_one _ _ _ ps_never) pss_nil) (@pss_cons _ _ _ _ _ (@ps_if _ _ _ _ _ _ _ _ (@pt_not _ _ _ _ (@pt_val _ _ _ (@pe_c _ _ _ _ _ _ _ _ _ _ G_p_are_dykes (hr.mono (by decide)) (@pa_cons _ _ _ _ _ (pv 2) (@pa_cons _ _ _ _ _ (@pe_op _ _ _ _ _ _ _ _ op_cat (@pe_lst _ _ _ _ (@pa_cons _ _ _ _ _ (@pe_g _ _ _ _ T.g_SEA (by rfl) (by decide)) pa_nil (by rfl))) (@pe_comp _ _ _ _ _ _ _ _ _ _ _ ["field"] 1 [] rfl (@pi_list _ _ _ _ (pv 1)) (fun R => @pg_name _ _ (0) _ (show List.Nodup (["field"] : List Str) by decide +kernel) rfl (Or.inl rfl) (by first | exact .inl rfl | exact .inr rfl | assumption)) (@gkeep_name _ _ (by decide)) (fun R => pifs_nil) (fun R => (@pe_ix _ _ _ _ _ _ _ (@ix_tupB _ (K) rfl) (pv 0) pe_int (fun _ _ => rfl))) (by rfl) (by rfl) (by rfl) (by rfl) (by rfl) (by rfl) (by rfl) (by intro _; rfl))) pa_nil (by rfl)) (by rfl)) (by rfl) (by decide) (by rfl) (by rfl)) (by intro _; rfl))) (@pss_one _ _ _ ps_never) pss_nil) (@pss_cons _ _ _ _ _ (@ps_fld _ _ _ _ _ _ _ _ (pv 0) (@pe_callTy _ _ _ _ _ _ _ _ _ (@call_dict_pairs _ rfl) rfl T.n_dict boot_dict' (@pa_cons _ _ _ _ _ (@pe_comp _ _ _ _ _ _ _ _ _ _ _ ["field"] 1 [] rfl (@pi_list _ _ _ _ (pv 1)) (fun R => @pg_name _ _ (0) _ (show List.Nodup (["field"] : List Str) by decide +kernel) rfl (Or.inl rfl) (by first | exact .inl rfl | exact .inr rfl | assumption)) (@gkeep_name _ _ (by decide)) (fun R => pifs_nil) (fun R => (@pe_tup _ _ _ _ _ (@pa_cons _ _ _ _ _ (@pe_ix _ _ _ _ _ _ _ (@ix_tupB _ (K) rfl) (pv 0) pe_int (fun _ _ => rfl)) (@pa_cons _ _ _ _ _ (pv 0) pa_nil (by rfl)) (by rfl)))) (by rfl) (by rfl) (by rfl) (by rfl) (by rfl) (by rfl) (by rfl) (by intro _; rfl)) pa_nil (by rfl)) (by decide) (by decide) (by rfl) (by rfl)) rfl) (@pss_one _ _ _ (@ps_fld _ _ _ _ _ _ _ _ (pv 0) (@pe_callTy _ _ _ _ _ _ _ _ _ (@call_dict_pairs _ rfl) rfl T.n_dict boot_dict' (@pa_cons _ _ _ _ _ (@pe_comp _ _ _ _ _ _ _ _ _ _ _ ["dyke"] 1 [] rfl (@pi_list _ _ _ _ (pv 2)) (fun R => @pg_name _ _ (0) _ (show List.Nodup (["dyke"] : List Str) by decide +kernel) rfl (Or.inl rfl) (by first | exact .inl rfl | exact .inr rfl | assumption)) (@gkeep_name _ _ (by decide)) (fun R => pifs_nil) (fun R => (@pe_tup _ _ _ _ _ (@pa_cons _ _ _ _ _ (@pe_ix _ _ _ _ _ _ _ (@ix_tupB _ (K) rfl) (pv 0) pe_int (fun _ _ => rfl)) (@pa_cons _ _ _ _ _ (pv 0) pa_nil (by rfl)) (by rfl)))) (by rfl) (by rfl) (by rfl) (by rfl) (by rfl) (by rfl) (by rfl) (by intro _; rfl)) pa_nil (by rfl)) (by decide) (by decide) (by rfl) (by rfl)) rfl))))), ?_⟩
  refine ⟨_, rfl, _, rfl, .lst fs, hf, sf, _, rfl, ?_⟩
  rw [okf]
  refine iteF ?_
  refine ⟨_, rfl, small_le rfl, fun p1 hp1 => ?_⟩
  have S1 := Same.upd (o := .lst [.str "sea"]) hp1
  refine ⟨_, rfl, a1, rfl, ⟨_, SqL.of (S1 _ _ o1)⟩, ?_⟩
  refine comp_list (F := K) (xs := us) (by omega) (fun i ys H' => H' = upd H p1 (.lst [.str "sea"]) ∧ ys = ((fs.take i).map nmOf).map V.str) ⟨rfl, rfl⟩ ?_ ?_ ?_
  · rintro i ys H' hi' ⟨rfl, rfl⟩
    exact ⟨SqL.of (S1 _ _ o1), by rw [List.length_map, List.length_map, List.length_take]; omega⟩
  · rintro i x ys H' K1 K2 hx' ⟨rfl, rfl⟩ k1 k2
    have hil : i < us.length := (List.getElem?_eq_some_iff.mp hx').1
    obtain ⟨d, ed⟩ : ∃ d, fs[i]? = some d := ⟨_, List.getElem?_eq_getElem (by omega)⟩
    obtain ⟨v, ev, iv⟩ := i1.get ed
    rw [hx'] at ev
    cases ev
    obtain ⟨z, g, e, rfl, _⟩ := field_shape (gf.all d (List.mem_of_getElem? ed))
    obtain ⟨t, rfl, o⟩ := field_row iv
    refine ⟨_, rfl, t, _, 0, .str z, rfl, rfl, SqT.of (S1 _ _ o), atI_nat (j := 0) rfl, k1 _ _ ⟨rfl, ?_⟩⟩
    rw [List.take_add_one, ed]
    simp [nmOf, firstS]
  · rintro ys H' ⟨rfl, rfl⟩
    intro p2 hp2
    rw [List.take_of_length_le (by omega)]
    have S2 := Same.upd (o := .lst ((fs.map nmOf).map V.str)) hp2
    refine ⟨p1, p2, _, _, rfl, rfl, S2 _ _ upd_same, upd_same, by simp only [List.length_map, List.length_cons, List.length_nil]; omega, fun p3 hp3 => ?_⟩
    have S3 := Same.upd (o := .lst ([.str "sea"] ++ (fs.map nmOf).map V.str)) hp3
    have S := S1.trans (S2.trans S3)
    generalize hH3 : upd (upd (upd H p1 (.lst [.str "sea"])) p2 (.lst ((fs.map nmOf).map V.str))) p3 (.lst ([.str "sea"] ++ (fs.map nmOf).map V.str)) = H3 at S
    have hp3' : H3 p3 = some (.lst ((("sea" : Str) :: fs.map nmOf).map V.str)) := by rw [← hH3, upd_same]; rfl
    refine ⟨_, _, rfl, .lst ds, p3, _, Is.same S _ _ hd, sd, rfl, hp3', _, rfl, ?_⟩
    rw [okd]
    refine iteF ?_
    refine ⟨_, rfl, a1, rfl, ⟨_, SqL.of (S _ _ o1)⟩, ?_⟩
    refine comp_list (F := K) (xs := us) (by omega) (fun i ys H' => Same H3 H' ∧ PairsAt H' ys ((pairsOf fs us).take i)) ⟨Same.refl _, PairsAt.nil _⟩ ?_ ?_ ?_
    · rintro i ys H' hi' ⟨S4, pr⟩
      exact ⟨SqL.of (S4 _ _ (S _ _ o1)), by have := pr.len; rw [List.length_take] at this; omega⟩
    · rintro i x ys H' K1 K2 hx' ⟨S4, pr⟩ k1 k2
      have hil : i < us.length := (List.getElem?_eq_some_iff.mp hx').1
      obtain ⟨d, ed⟩ : ∃ d, fs[i]? = some d := ⟨_, List.getElem?_eq_getElem (by omega)⟩
      obtain ⟨v, ev, iv⟩ := i1.get ed
      rw [hx'] at ev
      cases ev
      obtain ⟨z, g, e, rfl, _⟩ := field_shape (gf.all d (List.mem_of_getElem? ed))
      obtain ⟨t, rfl, o⟩ := field_row iv
      have ot := S4 _ _ (S _ _ o)
      refine ⟨_, rfl, t, _, 0, .str z, rfl, rfl, SqT.of ot, atI_nat (j := 0) rfl, _, rfl, small_le rfl, fun pt hpt => k1 _ _ ⟨S4.trans (Same.upd hpt), ?_⟩⟩
      rw [List.take_add_one, pairs_at ed hx']
      exact pr.snoc (k := Sum.inr z) hpt
    · rintro ys H4 ⟨S4, pr⟩
      rw [List.take_of_length_le (by rw [pairs_len l1]; omega)] at pr
      intro p4 hp4
      have S5 := Same.upd (o := .lst ys) hp4
      refine ⟨p4, ys, pairsOf fs us, rfl, SqL.of upd_same, pr.same S5, by rw [pairs_len l1]; omega, by rw [pairs_keys l1]; exact key_nodup gf.nd, fun d1 hd1 => ?_⟩
      have S6 := Same.upd (o := .dK (pairsOf fs us)) hd1
      have SA := S.trans (S4.trans (S5.trans S6))
      have hd1' : upd (upd H4 p4 (.lst ys)) d1 (.dK (pairsOf fs us)) d1 = some (.dK (pairsOf fs us)) := upd_same
      generalize upd (upd H4 p4 (.lst ys)) d1 (.dK (pairsOf fs us)) = H6 at SA hd1'
      refine ⟨_, rfl, p, C, dx, [], rfl, SA _ _ hx, T.cl_Land, T.a_field_rows, (by show 0 < 1000; decide), ?_⟩
      have SB : ∀ b o, H b = some o → b ≠ p → upd H6 p (.ins C dx (putF "field_rows" (.ref d1) [])) b = some o := fun b o e hb => by rw [upd_ne hb]; exact SA _ _ e
      have nd1 : d1 ≠ p := ne_of hd1' (SA _ _ hx) (by intro z; cases z)
      have SD : SameD H (upd H6 p (.ins C dx (putF "field_rows" (.ref d1) []))) := fun b o e dt => SB b o e (fun z => by subst z; rw [hx] at e; cases e; cases dt)
      have hp7 : upd H6 p (.ins C dx (putF "field_rows" (.ref d1) [])) p = some (.ins C dx (putF "field_rows" (.ref d1) [])) := upd_same
      have hd7 : upd H6 p (.ins C dx (putF "field_rows" (.ref d1) [])) d1 = some (.dK (pairsOf fs us)) := by rw [upd_ne nd1]; exact hd1'
      generalize upd H6 p (.ins C dx (putF "field_rows" (.ref d1) [])) = H7 at SB SD hp7 hd7
      refine ⟨_, rfl, a2, rfl, ⟨_, SqL.of (SD _ _ o2 rfl)⟩, ?_⟩
      refine comp_list (F := K) (xs := ws) (by omega) (fun i ys H' => Same H7 H' ∧ PairsAt H' ys ((pairsOf ds ws).take i)) ⟨Same.refl _, PairsAt.nil _⟩ ?_ ?_ ?_
      · rintro i ys H' hi' ⟨S8, pr⟩
        exact ⟨SqL.of (S8 _ _ (SD _ _ o2 rfl)), by have := pr.len; rw [List.length_take] at this; omega⟩
      · rintro i x ys H' K1 K2 hx' ⟨S8, pr⟩ k1 k2
        have hil : i < ws.length := (List.getElem?_eq_some_iff.mp hx').1
        obtain ⟨d, ed⟩ : ∃ d, ds[i]? = some d := ⟨_, List.getElem?_eq_getElem (by omega)⟩
        obtain ⟨v, ev, iv⟩ := i2.get ed
        rw [hx'] at ev
        cases ev
        obtain ⟨n, a, b, c, r, sl, rfl, _⟩ := dyke_shape (gd.all d (List.mem_of_getElem? ed))
        obtain ⟨t, vs, rfl, o, _⟩ := dyke_row iv
        have ot := S8 _ _ (SD _ _ o rfl)
        refine ⟨_, rfl, t, _, 0, .str n, rfl, rfl, SqT.of ot, atI_nat (j := 0) rfl, _, rfl, small_le rfl, fun pt hpt => k1 _ _ ⟨S8.trans (Same.upd hpt), ?_⟩⟩
        rw [List.take_add_one, pairs_at ed hx']
        exact pr.snoc (k := Sum.inr n) hpt
      · rintro ys H8 ⟨S8, pr⟩
        rw [List.take_of_length_le (by rw [pairs_len l2]; omega)] at pr
        intro p9 hp9
        have S9 := Same.upd (o := .lst ys) hp9
        refine ⟨p9, ys, pairsOf ds ws, rfl, SqL.of upd_same, pr.same S9, by rw [pairs_len l2]; omega, by rw [pairs_keys l2]; exact key_nodup gd.nd, fun d2 hd2 => ?_⟩
        have S10 := Same.upd (o := .dK (pairsOf ds ws)) hd2
        have SC := S8.trans (S9.trans S10)
        have hd2' : upd (upd H8 p9 (.lst ys)) d2 (.dK (pairsOf ds ws)) d2 = some (.dK (pairsOf ds ws)) := upd_same
        generalize upd (upd H8 p9 (.lst ys)) d2 (.dK (pairsOf ds ws)) = H10 at SC hd2'
        refine ⟨_, rfl, p, C, dx, _, rfl, SC _ _ hp7, T.cl_Land, T.a_dyke_rows, (by show 1 < 1000; decide), ?_⟩
        have nd2 : d2 ≠ p := ne_of hd2' (SC _ _ hp7) (by intro z; cases z)
        have SE : SameD H (upd H10 p (.ins C dx (landF d1 d2))) := fun b o e dt => by
          have hb : b ≠ p := fun z => by subst z; rw [hx] at e; cases e; cases dt
          rw [upd_ne hb]
          exact SC _ _ (SB _ _ e hb)
        refine q _ ⟨⟨dx, d1, d2, upd_same, ⟨_, (upd_ne nd1).trans (SC _ _ hd7), pairs_keys l1, ?_⟩, ⟨_, (upd_ne nd2).trans hd2', pairs_keys l2, ?_⟩⟩, okf, okd⟩ fun b o e hb => ?_
        · rw [pairs_vals l1]
          exact IsL.sameD SE _ _ i1
        · rw [pairs_vals l2]
          exact IsL.sameD SE _ _ i2
        · show upd H10 p (.ins C dx (landF d1 d2)) b = some o
          rw [upd_ne hb]
          exact SC _ _ (SB _ _ e hb)


open Mt02
def spCell (K : PySem.W.Frag) : Sp := sp2 fun x y H Q => ∃ (a : Addr) (ns : List Int) (k : Int), x = .ref a ∧ y = .int k ∧ SqL K H a (ns.map V.int) ∧ ns.length ≤ 63 ∧ 0 ≤ k ∧ Q (.int (ns.getD k.toNat 0)) H
theorem ok_l_cell_at (T : Txt K mg C) : Fc P w K mg base 1 "_law_cell_at" ["_law_script", "_law_k"] (spCell K) := by
  refine T.d_l_cell_at.fc sc_l_cell_at len2 (fun f cdv A outer s H vs Q E hr h => ?_)
  obtain ⟨x, y, rfl, a, ns, k, rfl, rfl, hS, hl, hk, q⟩ := h
  refine ⟨_, (@pss_cons _ _ _ _ _ (@ps_if _ _ _ _ _ _ _ _ (@pt_cmpR _ _ _ _ _ _ _ _ op_lt (pv 1) (@pe_callB _ _ _ _ _ _ _ _ _ (@call_len_seqB _ (K) rfl) rfl T.n_len boot_len' (@pa_cons _ _ _ _ _ (pv 0) pa_nil (by rfl)) (by decide) (by decide) (by rfl) (by rfl)) (@nomark _ _ (by decide) (by decide))) (@pss_one _ _ _ (@ps_ret _ _ _ _ (@pe_ix _ _ _ _ _ _ _ (@ix_listB _ (K) rfl) (pv 0) (pv 1) (fun _ _ => rfl)))) pss_nil) (@pss_one _ _ _ (@ps_ret _ _ _ _ pe_int))), ?_⟩
  refine ⟨_, rfl, _, rfl, a, _, rfl, .inl hS, _, _, rfl, rfl, _, rfl, ?_⟩
  obtain ⟨j, rfl⟩ := Int.eq_ofNat_of_zero_le hk
  rw [List.length_map]
  refine ite2 (fun h1 => ?_) (fun h1 => ?_)
  · have h1' : j < ns.length := by
      have := of_decide_eq_true h1
      omega
    refine ⟨_, rfl, _, rfl, a, _, _, .int (ns.getD j 0), rfl, rfl, hS, atI_nat ?_, ?_⟩
    · rw [List.getElem?_map, List.getElem?_eq_getElem h1', List.getD_eq_getElem?_getD, List.getElem?_eq_getElem h1']
      rfl
    · simpa using q
  · have h1' : ¬ j < ns.length := by
      intro h2
      exact h1 (decide_eq_true (by omega))
    have e : ns.getD j 0 = 0 := by
      rw [List.getD_eq_getElem?_getD, List.getElem?_eq_none (by omega)]
      rfl
    have q' : Q (.int (ns.getD j 0)) H := by simpa using q
    rw [e] at q'
    exact q'
def Scr (K : PySem.W.Frag) (H : Hp) (x : V) : Prop := ∃ (a : Addr) (ns : List Int), x = .ref a ∧ SqL K H a (ns.map V.int) ∧ ns.length ≤ 63
theorem Scr.same {K : PySem.W.Frag} {H H' : Hp} {x : V} (S : Same H H') (h : Scr K H x) : Scr K H' x := by
  obtain ⟨a, ns, e, q, l⟩ := h
  exact ⟨a, ns, e, S.seq q, l⟩
def spMixed (K : PySem.W.Frag) : Sp := sp2 fun x y H Q => ∃ k : Int, Scr K H x ∧ y = .int k ∧ 0 ≤ k ∧ ∀ m : Int, 0 ≤ m → Q (.int m) H
theorem ok_l_mixed (T : Txt K mg C) : Fc P w K mg base 2 "_law_mixed" ["_law_script", "_law_k"] (spMixed K) := by
  have G_l_cell_at : Fc P w K mg base 1 "_law_cell_at" ["_law_script", "_law_k"] (spCell K) := ok_l_cell_at T
  refine T.d_l_mixed.fc sc_l_mixed len2 (fun f cdv A outer s H vs Q E hr h => ?_)
  obtain ⟨x, y, rfl, k, ⟨a, ns, rfl, hS, hl⟩, rfl, hk, q⟩ := h
  refine ⟨_, (@pss_one _ _ _ (@ps_ret _ _ _ _ (@pe_op _ _ _ _ _ _ _ _ op_mod (@pe_op _ _ _ _ _ _ _ _ op_mul (@pe_c _ _ _ _ _ _ _ _ _ _ G_l_cell_at (hr.mono (by decide)) (@pa_cons _ _ _ _ _ (pv 0) (@pa_cons _ _ _ _ _ (pv 1) pa_nil (by rfl)) (by rfl)) (by rfl) (by decide) (by rfl) (by rfl)) pe_int) (@pe_op _ _ _ _ _ _ _ _ op_add (@pe_op _ _ _ _ _ _ _ _ op_pow pe_int pe_int) pe_int)))), ?_⟩
  refine ⟨_, rfl, _, rfl, _, _, rfl, a, ns, k, rfl, rfl, hS, hl, hk, _, _, rfl, rfl, .inr ⟨by decide, by decide⟩, _, _, rfl, rfl, ⟨by decide, by decide, by decide⟩, _, _, rfl, rfl, _, _, rfl, rfl, (posI rfl), ?_⟩
  exact q _ (Int.emod_nonneg _ (by decide))
def spBound (lo hi : Int) : Sp := sp1 fun x H Q => ∃ c : Int, x = .int c ∧ ∀ m : Int, lo ≤ m → m ≤ hi → Q (.int m) H
theorem at4 {a b c d i : Int} (h0 : 0 ≤ i) (h1 : i < 4) : ∃ m : Int, atI ([.int a, .int b, .int c, .int d] : List V) i = some (.int m) ∧ (m = a ∨ m = b ∨ m = c ∨ m = d) := by
  obtain ⟨k, rfl⟩ := Int.eq_ofNat_of_zero_le h0
  have hk : k < 4 := by omega
  match k, hk with
  | 0, _ => exact ⟨a, atI_nat rfl, .inl rfl⟩
  | 1, _ => exact ⟨b, atI_nat rfl, .inr (.inl rfl)⟩
  | 2, _ => exact ⟨c, atI_nat rfl, .inr (.inr (.inl rfl))⟩
  | 3, _ => exact ⟨d, atI_nat rfl, .inr (.inr (.inr rfl))⟩
theorem p6 : (10 : Int) ^ (6 : Int).toNat = 1000000 := by decide
theorem ok_l_height (T : Txt K mg C) : Fc P w K mg base 1 "_law_height" ["_law_cell"] (spBound (-1000000) 1000000) := by
  refine T.d_l_height.fcD sc_l_height len1 (fun f cdv A outer s H vs Q E hr h => ?_)
  obtain ⟨x, rfl, c, rfl, q⟩ := h
  refine ⟨_, (@pss_cons _ _ _ _ _ (@ps_set _ _ (1) _ _ _ _ sc_l_height.nd rfl (Or.inl rfl) (@pe_op _ _ _ _ _ _ _ _ op_sub (@pe_op _ _ _ _ _ _ _ _ op_mod (@pe_op _ _ _ _ _ _ _ _ op_fdivB (pv 0) pe_int) pe_int) pe_int) (by rfl) (by first | exact .inl rfl | exact .inr rfl | assumption)) (@pss_one _ _ _ (@ps_ret _ _ _ _ (@pe_ix _ _ _ _ _ _ _ (@ix_listB _ (K) rfl) (@pe_lst _ _ _ _ (@pa_cons _ _ _ _ _ (pv 1) (@pa_cons _ _ _ _ _ (pv 1) (@pa_cons _ _ _ _ _ (@pe_op _ _ _ _ _ _ _ _ op_sub (@pe_op _ _ _ _ _ _ _ _ op_mod (@pe_op _ _ _ _ _ _ _ _ op_fdivB (pv 0) pe_int) pe_int) (@pe_op _ _ _ _ _ _ _ _ op_pow pe_int pe_int)) (@pa_cons _ _ _ _ _ (@pe_op _ _ _ _ _ _ _ _ op_sub (@pe_op _ _ _ _ _ _ _ _ op_pow pe_int pe_int) (@pe_op _ _ _ _ _ _ _ _ op_mul (@pe_op _ _ _ _ _ _ _ _ op_mod (@pe_op _ _ _ _ _ _ _ _ op_fdivB (pv 0) pe_int) pe_int) pe_int)) pa_nil (by rfl)) (by rfl)) (by rfl)) (by rfl))) (@pe_op _ _ _ _ _ _ _ _ op_mod (pv 0) pe_int) (fun _ _ => rfl))))), ?_⟩
  refine ⟨_, rfl, _, _, rfl, rfl, ⟨by decide, by decide⟩, _, _, rfl, rfl, (posI rfl), _, _, rfl, rfl, ?_⟩
  refine ⟨_, rfl, _, rfl, _, rfl, _, _, rfl, rfl, ⟨by decide, by decide⟩, _, _, rfl, rfl, (posI rfl), _, _, rfl, rfl, ⟨by decide, by decide, by decide⟩, _, _, rfl, rfl, _, _, rfl, rfl, ⟨by decide, by decide, by decide⟩, _, rfl, _, _, rfl, rfl, ⟨by decide, by decide⟩, _, _, rfl, rfl, (posI rfl), _, _, rfl, rfl, .inr ⟨by decide, by decide⟩, _, _, rfl, rfl, small_le rfl, fun p hp => ?_⟩
  obtain ⟨m, em, hm⟩ := at4 (a := c / 4 % 9 - 3) (b := c / 4 % 9 - 3) (c := c / 4 % 2000001 - 10 ^ (6 : Int).toNat) (d := 10 ^ (6 : Int).toNat - c / 4 % 2 * 2000000) (i := c % 4) (Int.emod_nonneg _ (by decide)) (Int.emod_lt_of_pos _ (posI rfl))
  refine ⟨_, rfl, _, _, rfl, rfl, (posI rfl), p, _, _, .int m, rfl, rfl, SqL.of upd_same, em, dropQ.of (Drop.lst hp) (q m ?_ ?_)⟩
  · rw [p6] at hm; omega
  · rw [p6] at hm; omega
theorem ok_l_amount (T : Txt K mg C) : Fc P w K mg base 1 "_law_amount" ["_law_cell"] (spBound 0 1000000) := by
  refine T.d_l_amount.fcD sc_l_amount len1 (fun f cdv A outer s H vs Q E hr h => ?_)
  obtain ⟨x, rfl, c, rfl, q⟩ := h
  refine ⟨_, (@pss_one _ _ _ (@ps_ret _ _ _ _ (@pe_ix _ _ _ _ _ _ _ (@ix_listB _ (K) rfl) (@pe_lst _ _ _ _ (@pa_cons _ _ _ _ _ (@pe_op _ _ _ _ _ _ _ _ op_mod (@pe_op _ _ _ _ _ _ _ _ op_fdivB (pv 0) pe_int) pe_int) (@pa_cons _ _ _ _ _ (@pe_op _ _ _ _ _ _ _ _ op_mod (@pe_op _ _ _ _ _ _ _ _ op_fdivB (pv 0) pe_int) pe_int) (@pa_cons _ _ _ _ _ (@pe_op _ _ _ _ _ _ _ _ op_sub (@pe_op _ _ _ _ _ _ _ _ op_pow pe_int pe_int) (@pe_op _ _ _ _ _ _ _ _ op_mod (@pe_op _ _ _ _ _ _ _ _ op_fdivB (pv 0) pe_int) pe_int)) (@pa_cons _ _ _ _ _ (@pe_op _ _ _ _ _ _ _ _ op_mod (@pe_op _ _ _ _ _ _ _ _ op_fdivB (pv 0) pe_int) pe_int) pa_nil (by rfl)) (by rfl)) (by rfl)) (by rfl))) (@pe_op _ _ _ _ _ _ _ _ op_mod (pv 0) pe_int) (fun _ _ => rfl)))), ?_⟩
  refine ⟨_, rfl, _, _, rfl, rfl, ⟨by decide, by decide⟩, _, _, rfl, rfl, (posI rfl), _, rfl, _, _, rfl, rfl, ⟨by decide, by decide⟩, _, _, rfl, rfl, (posI rfl), _, _, rfl, rfl, ⟨by decide, by decide, by decide⟩, _, rfl, _, _, rfl, rfl, ⟨by decide, by decide⟩, _, _, rfl, rfl, (posI rfl), _, _, rfl, rfl, _, rfl, _, _, rfl, rfl, ⟨by decide, by decide⟩, _, _, rfl, rfl, (posI rfl), small_le rfl, fun p hp => ?_⟩
  obtain ⟨m, em, hm⟩ := at4 (a := c / 4 % 5) (b := c / 4 % 100) (c := 10 ^ (6 : Int).toNat - c / 4 % 3) (d := c / 4 % 1000001) (i := c % 4) (Int.emod_nonneg _ (by decide)) (Int.emod_lt_of_pos _ (posI rfl))
  refine ⟨_, rfl, _, _, rfl, rfl, (posI rfl), p, _, _, .int m, rfl, rfl, SqL.of upd_same, em, dropQ.of (Drop.lst hp) (q m ?_ ?_)⟩
  · rw [p6] at hm; omega
  · rw [p6] at hm; omega

def spNames : Sp := sp2 fun x y H Q => ∃ (c : Int) (n : Nat), x = .int c ∧ y = .int n ∧ n ≤ 100 ∧ ∀ (zs : List Str) (l : Addr), Names zs n → H l = none → Q (.ref l) (upd H l (.lst (zs.map V.str)))
theorem names_lo {c S p b : Int} (hS : S = 2 + c % 7) (hp : p = c / 7 % S) (hb : b = (p + 1 + c / 61 % (S - 1)) % S) : 2 ≤ S ∧ S ≤ 8 ∧ 0 ≤ p ∧ p < S ∧ 0 ≤ b ∧ b < S ∧ p ≠ b := by
  have h1 : 2 ≤ S ∧ S ≤ 8 := by omega
  have hp0 : 0 ≤ p := by rw [hp]; exact Int.emod_nonneg _ (by omega)
  have hp1 : p < S := by rw [hp]; exact Int.emod_lt_of_pos _ (by omega)
  have hb0 : 0 ≤ b := by rw [hb]; exact Int.emod_nonneg _ (by omega)
  have hb1 : b < S := by rw [hb]; exact Int.emod_lt_of_pos _ (by omega)
  have r0 : 0 ≤ c / 61 % (S - 1) := Int.emod_nonneg _ (by omega)
  have r1 : c / 61 % (S - 1) < S - 1 := Int.emod_lt_of_pos _ (by omega)
  refine ⟨h1.1, h1.2, hp0, hp1, hb0, hb1, ?_⟩
  intro e
  generalize c / 61 % (S - 1) = r at *
  by_cases hlt : p + 1 + r < S
  · rw [Int.emod_eq_of_lt (by omega) hlt] at hb
    omega
  · have e2 : (p + 1 + r) % S = p + 1 + r - S := by
      rw [← Int.sub_emod_right, Int.emod_eq_of_lt (by omega) (by omega)]
    omega

open Mt05
def spNamesS : Sp := sp2 fun x y H Q => ∃ (c : Int) (n : Nat), x = .int c ∧ y = .int n ∧ n ≤ 100 ∧ ∀ (zs : List Str) (l : Addr), NamesS zs n → H l = none → Q (.ref l) (upd H l (.lst (zs.map V.str)))
theorem ok_l_namesS (T : Txt K mg C) : Fc P w K mg base 1 "_law_names" ["_law_cell", "_law_many"] spNamesS := by
  refine T.d_l_names.fc sc_l_names len2 (fun f cdv A outer s H vs Q E hr h => ?_)
  obtain ⟨x, y, rfl, c, n, rfl, rfl, hn, q⟩ := h
  have big := big1000
  generalize hS : 2 + c % 7 = S
  generalize hp : c / 7 % S = p
  generalize hb : (p + 1 + c / 61 % (S - 1)) % S = b
  obtain ⟨s0, s1, p0, p1, b0, b1, hpb⟩ := names_lo hS.symm hp.symm hb.symm
  generalize hM : (if b > p then b else p) = M
  have m0 : p ≤ M ∧ b ≤ M ∧ M < S := by
    rw [← hM]
    split <;> omega
  have len : ∀ k : Nat, 0 ≤ (k : Int) % (S - (1 + M) + 1) ∧ (k : Int) % (S - (1 + M) + 1) < S - (1 + M) + 1 := fun k => ⟨Int.emod_nonneg _ (by omega), Int.emod_lt_of_pos _ (by omega)⟩
  let oth : Nat → Int := fun j => c / 3 + (j : Int) * (j : Int) * 5
  refine ⟨_, (@pss_cons _ _ _ _ _ (@ps_set _ _ (2) _ _ _ _ sc_l_names.nd rfl (Or.inl rfl) (@pe_op _ _ _ _ _ _ _ _ op_add pe_int (@pe_op _ _ _ _ _ _ _ _ op_mod (pv 0) pe_int)) (by rfl) (by first | exact .inl rfl | exact .inr rfl | assumption)) (@pss_cons _ _ _ _ _ (@ps_set _ _ (3) _ _ _ _ sc_l_names.nd rfl (Or.inl rfl) (@pe_op _ _ _ _ _ _ _ _ op_mod (@pe_op _ _ _ _ _ _ _ _ op_fdivB (pv 0) pe_int) (pv 2)) (by rfl) (by first | exact .inl rfl | exact .inr rfl | assumption)) (@pss_cons _ _ _ _ _ (@ps_set _ _ (4) _ _ _ _ sc_l_names.nd rfl (Or.inl rfl) (@pe_op _ _ _ _ _ _ _ _ op_mod (@pe_op _ _ _ _ _ _ _ _ op_add (@pe_op _ _ _ _ _ _ _ _ op_add (pv 3) pe_int) (@pe_op _ _ _ _ _ _ _ _ op_mod (@pe_op _ _ _ _ _ _ _ _ op_fdivB (pv 0) pe_int) (@pe_op _ _ _ _ _ _ _ _ op_sub (pv 2) pe_int))) (pv 2)) (by rfl) (by first | exact .inl rfl | exact .inr rfl | assumption)) (@pss_cons _ _ _ _ _ (@ps_set _ _ (5) _ _ _ _ sc_l_names.nd rfl (Or.inl rfl) (@pe_op _ _ _ _ _ _ _ _ op_add pe_int (@pe_callB _ _ _ _ _ _ _ _ _ (@call_max2 _ rfl) rfl T.n_max boot_max' (@pa_cons _ _ _ _ _ (pv 3) (@pa_cons _ _ _ _ _ (pv 4) pa_nil (by rfl)) (by rfl)) (by decide) (by decide) (by rfl) (by rfl))) (by rfl) (by first | exact .inl rfl | exact .inr rfl | assumption)) (@pss_cons _ _ _ _ _ (@ps_set _ _ (6) _ _ _ _ sc_l_names.nd rfl (Or.inl rfl) (@pe_lst _ _ _ _ pa_nil) (by rfl) (by first | exact .inl rfl | exact .inr rfl | assumption)) (@pss_cons _ _ _ _ _ (@ps_for _ _ _ _ _ _ _ _ PassesOwn.never rfl (@pi_range1 _ _ _ _ _ _ rfl T.n_range (@pa_cons _ _ _ _ _ (pv 1) pa_nil (by rfl)) (by rfl)) (@pg_name _ _ (7) _ sc_l_names.nd rfl (Or.inl rfl) (by first | exact .inl rfl | exact .inr rfl | assumption)) (@pss_cons _ _ _ _ _ (@ps_set _ _ (8) _ _ _ _ sc_l_names.nd rfl (Or.inl rfl) pe_str (by rfl) (by first | exact .inl rfl | exact .inr rfl | assumption)) (@pss_cons _ _ _ _ _ (@ps_for _ _ _ _ _ _ _ _ PassesOwn.never rfl (@pi_range1 _ _ _ _ _ _ rfl T.n_range (@pa_cons _ _ _ _ _ (@pe_op _ _ _ _ _ _ _ _ op_add (pv 5) (@pe_op _ _ _ _ _ _ _ _ op_mod (pv 7) (@pe_op _ _ _ _ _ _ _ _ op_add (@pe_op _ _ _ _ _ _ _ _ op_sub (pv 2) (pv 5)) pe_int))) pa_nil (by rfl)) (by rfl)) (@pg_name _ _ (9) _ sc_l_names.nd rfl (Or.inl rfl) (by first | exact .inl rfl | exact .inr rfl | assumption)) (@pss_cons _ _ _ _ _ (@ps_set _ _ (10) _ _ _ _ sc_l_names.nd rfl (Or.inl rfl) (@pe_op _ _ _ _ _ _ _ _ op_add (@pe_op _ _ _ _ _ _ _ _ op_fdivB (pv 0) pe_int) (@pe_op _ _ _ _ _ _ _ _ op_mul (@pe_op _ _ _ _ _ _ _ _ op_mul (pv 9) (pv 9)) pe_int)) (by rfl) (by first | exact .inl rfl | exact .inr rfl | assumption)) (@pss_cons _ _ _ _ _ (@ps_if _ _ _ _ _ _ _ _ (@pt_cmpR _ _ _ _ _ _ _ _ op_eq (pv 9) (pv 3) (@nomark _ _ (by decide) (by decide))) (@pss_one _ _ _ (@ps_set _ _ (10) _ _ _ _ sc_l_names.nd rfl (Or.inl rfl) (@pe_op _ _ _ _ _ _ _ _ op_add (@pe_op _ _ _ _ _ _ _ _ op_fdivB (pv 0) pe_int) (pv 7)) (by rfl) (by first | exact .inl rfl | exact .inr rfl | assumption))) pss_nil) (@pss_cons _ _ _ _ _ (@ps_if _ _ _ _ _ _ _ _ (@pt_cmpR _ _ _ _ _ _ _ _ op_eq (pv 9) (pv 4) (@nomark _ _ (by decide) (by decide))) (@pss_one _ _ _ (@ps_set _ _ (10) _ _ _ _ sc_l_names.nd rfl (Or.inl rfl) (@pe_op _ _ _ _ _ _ _ _ op_add (@pe_op _ _ _ _ _ _ _ _ op_fdivB (pv 0) pe_int) (@pe_op _ _ _ _ _ _ _ _ op_fdivB (pv 7) pe_int)) (by rfl) (by first | exact .inl rfl | exact .inr rfl | assumption))) pss_nil) (@pss_one _ _ _ (@ps_set _ _ (8) _ _ _ _ sc_l_names.nd rfl (Or.inl rfl) (@pe_op _ _ _ _ _ _ _ _ op_add_str (pv 8) (@pe_ix _ _ _ _ _ _ _ ix_str pe_str (@pe_op _ _ _ _ _ _ _ _ op_mod (pv 10) pe_int) (fun _ _ => rfl))) (by rfl) (by first | exact .inl rfl | exact .inr rfl | assumption)))))) (by intro _; rfl)) (@pss_one _ _ _ (@ps_expr _ _ _ _ (@pe_bm _ _ _ _ _ _ _ _ _ _ _ _ PySem.F.plainAttrs_list PySem.F.slot_list_append PySem.F.type_list_append mt_append (pv 6) (@pa_cons _ _ _ _ _ (pv 8) pa_nil (by rfl)) (by rfl) (by rfl) (by rfl) (by rfl) (by rfl)) (by rfl))))) (by intro _; rfl)) (@pss_one _ _ _ (@ps_ret _ _ _ _ (pv 6))))))))), ?_⟩
  refine ⟨_, rfl, _, _, rfl, rfl, (posI rfl), _, _, rfl, rfl, ?_⟩
  dsimp only
  rw [hS]
  refine ⟨_, rfl, _, _, rfl, rfl, ⟨by decide, by decide⟩, _, rfl, _, _, rfl, rfl, (by show 0 < S; omega), ?_⟩
  dsimp only
  rw [hp]
  refine ⟨_, rfl, _, _, rfl, rfl, _, rfl, _, _, rfl, rfl, ⟨by decide, by decide⟩, _, rfl, _, _, rfl, rfl, _, _, rfl, rfl, (by show 0 < S - 1; omega), _, _, rfl, rfl, _, rfl, _, _, rfl, rfl, (by show 0 < S; omega), ?_⟩
  dsimp only
  rw [hb]
  refine ⟨_, rfl, _, rfl, _, _, rfl, _, _, rfl, rfl, ?_⟩
  dsimp only
  rw [hM]
  refine ⟨small_le rfl, fun l hl => ?_⟩
  refine ⟨_, rfl, _, rfl, by omega, by omega, ?_⟩
  rw [Int.toNat_natCast]
  refine for_range (lo := 0) (n := n) (fun i σ H' => ∃ v7 v8 v9 v10, σ = [some (.int c), some (.int n), some (.int S), some (.int p), some (.int b), some (.int (1 + M)), some (.ref l), v7, v8, v9, v10] ∧
    H' = upd H l (.lst (((List.range i).map fun (k : Nat) => nm oth c p b (1 + M + (k : Int) % (S - (1 + M) + 1)).toNat k).map V.str))) ⟨_, _, _, _, rfl, rfl⟩ ?_ ?_
  · rintro k σ H' hk ⟨v7, v8, v9, v10, rfl, rfl⟩
    have lk := len k
    refine ⟨_, rfl, _, rfl, _, rfl, _, rfl, _, _, rfl, rfl, _, _, rfl, rfl, _, _, rfl, rfl, (by show 0 < S - (1 + M) + 1; omega), _, _, rfl, rfl, _, rfl, ?_, ?_, ?_⟩
    · rw [Int.zero_add]; omega
    · rw [Int.zero_add]; omega
    rw [Int.zero_add]
    refine for_range (lo := 0) (n := (1 + M + (k : Int) % (S - (1 + M) + 1)).toNat) (fun j σ H' => ∃ v9 v10, σ = [some (.int c), some (.int n), some (.int S), some (.int p), some (.int b), some (.int (1 + M)), some (.ref l), some (.int k), some (.str (nm oth c p b j k)), v9, v10] ∧
      H' = upd H l (.lst (((List.range k).map fun (k : Nat) => nm oth c p b (1 + M + (k : Int) % (S - (1 + M) + 1)).toNat k).map V.str))) ⟨v9, v10, by rw [nm_zero]; rfl, rfl⟩ ?_ ?_
    · rintro j σ H' hj ⟨v9, v10, rfl, rfl⟩
      have hj8 : j < 8 := by omega
      have key : ∀ m : Int, m = num oth c p b k j → atI ("abcdefghijklmnopqrtuvwxyz" : Str).cps.toList (m % 25) = some (code oth c p b k j) := fun m e => by
        subst e
        exact alph_at (Int.emod_nonneg _ (by decide)) (Int.emod_lt_of_pos _ (posI rfl))
      have fits : (nm oth c p b j k).length + (⟨#[code oth c p b k j]⟩ : Str).length ≤ sizeLine := by
        rw [nm_len]
        show j + 1 ≤ _
        omega
      rw [Int.zero_add]
      refine ⟨_, rfl, _, _, rfl, rfl, ⟨by decide, by decide⟩, _, rfl, _, rfl, _, _, rfl, rfl, .inl ⟨by omega, by omega⟩, _, _, rfl, rfl, .inr ⟨by decide, by decide⟩, _, _, rfl, rfl, ?_⟩
      refine ⟨_, rfl, _, rfl, rfl, _, rfl, ?_⟩
      have ej : ∀ z : Int, decide (V.int (j : Int) = V.int z) = decide ((j : Int) = z) := fun z => by rw [dec_int, Bool.eq_iff_iff]; simp
      rw [ej]
      refine ite2 (fun h1 => ?_) (fun h1 => ?_)
      · have h1' := of_decide_eq_true h1
        refine ⟨_, rfl, _, _, rfl, rfl, ⟨by decide, by decide⟩, _, rfl, _, _, rfl, rfl, ?_⟩
        refine ⟨_, rfl, _, rfl, rfl, _, rfl, ?_⟩
        rw [ej]
        refine ite2 (fun h2 => ?_) (fun h2 => ?_)
        · have h2' := of_decide_eq_true h2
          omega
        · refine ⟨_, rfl, _, rfl, _, _, rfl, rfl, (posI rfl), _, _, _, rfl, rfl, by decide, key _ ?_, _, _, rfl, rfl, fits, ?_⟩
          · unfold num
            rw [if_neg (fun z => h2 (decide_eq_true z)), if_pos h1']
          · exact ⟨_, _, by rw [← nm_succ]; rfl, rfl⟩
      · refine ⟨_, rfl, _, rfl, rfl, _, rfl, ?_⟩
        rw [ej]
        refine ite2 (fun h2 => ?_) (fun h2 => ?_)
        · have h2' := of_decide_eq_true h2
          refine ⟨_, rfl, _, _, rfl, rfl, ⟨by decide, by decide⟩, _, rfl, _, _, rfl, rfl, ⟨by decide, by decide⟩, _, _, rfl, rfl, ?_⟩
          refine ⟨_, rfl, _, rfl, _, _, rfl, rfl, (posI rfl), _, _, _, rfl, rfl, by decide, key _ ?_, _, _, rfl, rfl, fits, ?_⟩
          · unfold num
            rw [if_pos h2']
          · exact ⟨_, _, by rw [← nm_succ]; rfl, rfl⟩
        · refine ⟨_, rfl, _, rfl, _, _, rfl, rfl, (posI rfl), _, _, _, rfl, rfl, by decide, key _ ?_, _, _, rfl, rfl, fits, ?_⟩
          · unfold num
            rw [if_neg (fun z => h2 (decide_eq_true z)), if_neg (fun z => h1 (decide_eq_true z))]
          · exact ⟨_, _, by rw [← nm_succ]; rfl, rfl⟩
    · rintro σ H' ⟨v9, v10, rfl, rfl⟩
      refine ⟨_, rfl, .inl ⟨rfl, _, SqL.of upd_same⟩, _, rfl, l, _, _, rfl, rfl, upd_same, by simp only [List.length_map, List.length_range]; omega, ?_⟩
      refine ⟨_, _, _, _, rfl, ?_⟩
      rw [upd_upd, List.range_succ, List.map_append, List.map_append]
      rfl
  · rintro σ H' ⟨v7, v8, v9, v10, rfl, rfl⟩
    refine ⟨_, rfl, ?_⟩
    refine q _ l (namesS_of (names_of (sh := (1 + M).toNat) (len := fun (k : Nat) => (1 + M + (k : Int) % (S - (1 + M) + 1)).toNat) p0 (by omega) b0 (by omega) hpb (by omega) (fun k => ?_) (by omega))) hl
    have lk := len k
    omega

theorem ok_l_names (T : Txt K mg C) : Fc P w K mg base 1 "_law_names" ["_law_cell", "_law_many"] spNames := (ok_l_namesS T).imp (by
  rintro vs H Q E ⟨x, y, rfl, c, n, hx, hy, hn, q⟩
  exact ⟨x, y, rfl, c, n, hx, hy, hn, fun zs l h hl => q zs l h.nm hl⟩)


structure Fds (fs : List Dv) (n : Nat) : Prop where
  l1 : 1 ≤ fs.length
  l2 : fs.length ≤ n
  all : ∀ d ∈ fs, isField d = true
  nd : (fs.map nmOf).Nodup
theorem field_hard {d : Dv} (h : isField d = true) : hard d = true := by
  obtain ⟨z, g, e, rfl, _⟩ := field_shape h
  rfl
theorem field_mk {z : Str} {g e : Int} (hz : nameS z = true) (g0 : -1000000 ≤ g) (g1 : g ≤ 1000000) (e0 : 0 ≤ e) (e1 : e ≤ 1000000) : isField (.tup [.str z, .int g, .int e]) = true := by
  show (nameS z && (hgt g && amt e)) = true
  unfold hgt amt
  rw [hz, decide_eq_true g0, decide_eq_true g1, decide_eq_true e0, decide_eq_true e1]
  rfl
def spFieldsL (K : PySem.W.Frag) : Sp := sp2 fun x y H Q => ∃ n : Nat, Scr K H x ∧ y = .int n ∧ 1 ≤ n ∧ n ≤ 40 ∧ ∀ (l : Addr) (vs : List V) (fs : List Dv) (H' : Hp), Same H H' → H l = none → H' l = some (.lst vs) → IsL H' fs vs → Fds fs n → (∀ z ∈ fs.map nmOf, noS z) → Q (.ref l) H'
theorem ok_l_fields (T : Txt K mg C) : Fc P w K mg base 3 "_law_fields" ["_law_script", "_law_most"] (spFieldsL K) := by
  have G_l_mixed : Fc P w K mg base 2 "_law_mixed" ["_law_script", "_law_k"] (spMixed K) := ok_l_mixed T
  have G_l_names : Fc P w K mg base 1 "_law_names" ["_law_cell", "_law_many"] spNamesS := ok_l_namesS T
  have G_l_height : Fc P w K mg base 1 "_law_height" ["_law_cell"] (spBound (-1000000) 1000000) := ok_l_height T
  have G_l_amount : Fc P w K mg base 1 "_law_amount" ["_law_cell"] (spBound 0 1000000) := ok_l_amount T
  refine T.d_l_fields.fc sc_l_fields len2 (fun f cdv A outer s H vs Q E hr h => ?_)
  obtain ⟨x, y, rfl, n, hS, rfl, n0, n1, q⟩ := h
  have big := big1000
  refine ⟨_, (@pss_cons _ _ _ _ _ (@ps_set _ _ (2) _ _ _ _ sc_l_fields.nd rfl (Or.inl rfl) (@pe_c _ _ _ _ _ _ _ _ _ _ G_l_mixed (hr.mono (by decide)) (@pa_cons _ _ _ _ _ (pv 0) (@pa_cons _ _ _ _ _ pe_int pa_nil (by rfl)) (by rfl)) (by rfl) (by decide) (by rfl) (by rfl)) (by rfl) (by first | exact .inl rfl | exact .inr rfl | assumption)) (@pss_cons _ _ _ _ _ (@ps_set _ _ (3) _ _ _ _ sc_l_fields.nd rfl (Or.inl rfl) (@pe_c _ _ _ _ _ _ _ _ _ _ G_l_names (hr.mono (by decide)) (@pa_cons _ _ _ _ _ (@pe_op _ _ _ _ _ _ _ _ op_fdivB (pv 2) pe_int) (@pa_cons _ _ _ _ _ (@pe_op _ _ _ _ _ _ _ _ op_add pe_int (@pe_op _ _ _ _ _ _ _ _ op_mod (pv 2) (pv 1))) pa_nil (by rfl)) (by rfl)) (by rfl) (by decide) (by rfl) (by rfl)) (by rfl) (by first | exact .inl rfl | exact .inr rfl | assumption)) (@pss_cons _ _ _ _ _ (@ps_set _ _ (4) _ _ _ _ sc_l_fields.nd rfl (Or.inl rfl) (@pe_lst _ _ _ _ pa_nil) (by rfl) (by first | exact .inl rfl | exact .inr rfl | assumption)) (@pss_cons _ _ _ _ _ (@ps_for _ _ _ _ _ _ _ _ PassesOwn.never rfl (@pi_range1 _ _ _ _ _ _ rfl T.n_range (@pa_cons _ _ _ _ _ (@pe_callB _ _ _ _ _ _ _ _ _ (@call_len_seqB _ (K) rfl) rfl T.n_len boot_len' (@pa_cons _ _ _ _ _ (pv 3) pa_nil (by rfl)) (by decide) (by decide) (by rfl) (by rfl)) pa_nil (by rfl)) (by rfl)) (@pg_name _ _ (5) _ sc_l_fields.nd rfl (Or.inl rfl) (by first | exact .inl rfl | exact .inr rfl | assumption)) (@pss_cons _ _ _ _ _ (@ps_set _ _ (2) _ _ _ _ sc_l_fields.nd rfl (Or.inl rfl) (@pe_c _ _ _ _ _ _ _ _ _ _ G_l_mixed (hr.mono (by decide)) (@pa_cons _ _ _ _ _ (pv 0) (@pa_cons _ _ _ _ _ (@pe_op _ _ _ _ _ _ _ _ op_add pe_int (pv 5)) pa_nil (by rfl)) (by rfl)) (by rfl) (by decide) (by rfl) (by rfl)) (by rfl) (by first | exact .inl rfl | exact .inr rfl | assumption)) (@pss_one _ _ _ (@ps_expr _ _ _ _ (@pe_bm _ _ _ _ _ _ _ _ _ _ _ _ PySem.F.plainAttrs_list PySem.F.slot_list_append PySem.F.type_list_append mt_append (pv 4) (@pa_cons _ _ _ _ _ (@pe_tup _ _ _ _ _ (@pa_cons _ _ _ _ _ (@pe_ix _ _ _ _ _ _ _ (@ix_listB _ (K) rfl) (pv 3) (pv 5) (fun _ _ => rfl)) (@pa_cons _ _ _ _ _ (@pe_c _ _ _ _ _ _ _ _ _ _ G_l_height (hr.mono (by decide)) (@pa_cons _ _ _ _ _ (pv 2) pa_nil (by rfl)) (by rfl) (by decide) (by rfl) (by rfl)) (@pa_cons _ _ _ _ _ (@pe_c _ _ _ _ _ _ _ _ _ _ G_l_amount (hr.mono (by decide)) (@pa_cons _ _ _ _ _ (@pe_op _ _ _ _ _ _ _ _ op_fdivB (pv 2) (@pe_op _ _ _ _ _ _ _ _ op_pow pe_int pe_int)) pa_nil (by rfl)) (by rfl) (by decide) (by rfl) (by rfl)) pa_nil (by rfl)) (by rfl)) (by rfl))) pa_nil (by rfl)) (by rfl) (by rfl) (by rfl) (by rfl) (by rfl)) (by rfl)))) (by intro _; rfl)) (@pss_one _ _ _ (@ps_ret _ _ _ _ (pv 4))))))), ?_⟩
  refine ⟨_, rfl, _, _, rfl, 0, hS, rfl, by decide, fun c c0 => ?_⟩
  have r0 : 0 ≤ c % (n : Int) := Int.emod_nonneg _ (by omega)
  have r1 : c % (n : Int) < n := Int.emod_lt_of_pos _ (by omega)
  refine ⟨_, rfl, _, _, rfl, rfl, ⟨by decide, by decide⟩, _, rfl, _, rfl, _, _, rfl, rfl, (by show 0 < (n : Int); omega), _, _, rfl, rfl, ?_⟩
  obtain ⟨m, hm⟩ := Int.eq_ofNat_of_zero_le (show 0 ≤ 1 + c % (n : Int) by omega)
  refine ⟨_, _, rfl, _, m, rfl, by show V.int (1 + c % (n : Int)) = _; rw [hm], by omega, fun zs pz hz hpz => ?_⟩
  have lz := hz.nm.len
  have S1 := Same.upd (o := .lst (zs.map V.str)) hpz
  refine ⟨small_le rfl, fun l hl => ?_⟩
  have S2 := Same.upd (o := .lst []) hl
  have npz : pz ≠ l := ne_of_none upd_same hl
  refine ⟨_, rfl, pz, _, rfl, .inl (SqL.of (S2 _ _ upd_same)), _, rfl, by rw [List.length_map]; omega, by rw [List.length_map]; omega, ?_⟩
  rw [List.length_map, Int.toNat_natCast]
  have fl : H l = none := S1.free hl
  refine for_range (lo := 0) (n := zs.length) (fun i σ H' => ∃ (v2 v5 : Option V) (us : List V) (fs : List Dv), σ = [some x, some (.int n), v2, some (.ref pz), some (.ref l), v5] ∧ Same H H' ∧ H' pz = some (.lst (zs.map V.str)) ∧ H' l = some (.lst us) ∧ IsL H' fs us ∧ fs.map nmOf = zs.take i ∧ (∀ d ∈ fs, isField d = true))
    ⟨_, _, [], [], rfl, S1.trans S2, S2 _ _ upd_same, upd_same, rfl, rfl, fun d m => by cases m⟩ ?_ ?_
  · rintro i σ H' hi ⟨v2, v5, us, fs, rfl, S, hz', hl', hi', en, af⟩
    have lf : fs.length = i := by
      have := congrArg List.length en
      rw [List.length_map, List.length_take] at this
      omega
    have lu := hi'.length
    obtain ⟨z, ez⟩ : ∃ z, zs[i]? = some z := ⟨_, List.getElem?_eq_getElem hi⟩
    have gz := hz.nm.good z (List.mem_of_getElem? ez)
    refine ⟨_, rfl, _, rfl, _, _, rfl, rfl, _, _, rfl, 3 + (0 + (i : Int)), hS.same S, rfl, by omega, fun c2 c20 => ?_⟩
    refine ⟨_, rfl, .inl ⟨rfl, _, SqL.of hl'⟩, _, rfl, _, rfl, pz, _, 0 + (i : Int), .str z, rfl, rfl, SqL.of hz', ?_, ?_⟩
    · rw [Int.zero_add]
      exact atI_nat (by rw [List.getElem?_map, ez]; rfl)
    refine ⟨_, rfl, _, rfl, c2, rfl, fun g g0 g1 => ?_⟩
    refine ⟨_, rfl, _, _, rfl, rfl, ⟨by decide, by decide, by decide⟩, _, _, rfl, rfl, ⟨by decide, by decide⟩, _, rfl, _, rfl, fun e e0 e1 => ?_⟩
    refine ⟨small_le rfl, fun t ht => ?_⟩
    have S3 := Same.upd (o := .tup [.str z, .int g, .int e]) ht
    have hl3 : upd H' t (.tup [.str z, .int g, .int e]) l = some (.lst us) := S3 _ _ hl'
    have ok : isField (.tup [.str z, .int g, .int e]) = true := field_mk gz g0 g1 e0 e1
    refine ⟨l, us, .ref t, rfl, rfl, hl3, by omega, ?_⟩
    refine ⟨_, _, us ++ [.ref t], fs ++ [.tup [.str z, .int g, .int e]], rfl, (S.trans S3).over fl, ?_, upd_same, ?_, ?_, ?_⟩
    · rw [upd_ne npz]
      exact S3 _ _ hz'
    · refine IsL.keep (KeepT.lst hl3) _ _ (hardL_of fun d m => field_hard ?_) (IsL.snoc ?_ (IsL.same S3 _ _ hi'))
      · rcases List.mem_append.mp m with m | m
        · exact af d m
        · rw [List.mem_singleton.mp m]
          exact ok
      · exact ⟨t, _, rfl, upd_same, .str z, _, rfl, rfl, .int g, _, rfl, rfl, .int e, _, rfl, rfl, rfl⟩
    · rw [List.map_append, en, List.take_add_one, ez]
      rfl
    · intro d m
      rcases List.mem_append.mp m with m | m
      · exact af d m
      · rw [List.mem_singleton.mp m]
        exact ok
  · rintro σ H' ⟨v2, v5, us, fs, rfl, S, hz', hl', hi', en, af⟩
    rw [List.take_of_length_le (Nat.le_refl _)] at en
    have lf : fs.length = zs.length := by
      have := congrArg List.length en
      rwa [List.length_map] at this
    refine ⟨_, rfl, q l us fs H' S fl hl' hi' ⟨by omega, by omega, af, by rw [en]; exact hz.nm.nd⟩ (by rw [en]; exact hz.nos)⟩


structure Dks (zs : List Str) (ds : List Dv) (n : Nat) : Prop where
  l1 : 1 ≤ ds.length
  l2 : ds.length ≤ n
  all : ∀ d ∈ ds, isDyke zs d = true
  nd : (ds.map nmOf).Nodup
theorem sill_hard {c s : Dv} (h : isSill c s = true) : hard s = true := by
  cases s with
  | non => rfl
  | int i => rfl
  | _ => cases h
theorem dyke_hard {zs : List Str} {d : Dv} (h : isDyke zs d = true) : hard d = true := by
  obtain ⟨n, a, b, c, r, s, rfl, _, _, _, _, _, _, hs⟩ := dyke_shape h
  have := sill_hard hs
  show (true && (true && (true && (true && (true && (hard s && true)))))) = true
  rw [this]
  rfl
theorem dyke_mk {zs : List Str} {n a b : Str} {c r : Int} {s : Dv} (hn : nameS n = true) (ha : a ∈ zs) (hb : b ∈ zs) (hab : a ≠ b) (hc : hgt c = true) (hr : amt r = true) (hs : isSill (.int c) s = true) : isDyke zs (.tup [.str n, .str a, .str b, .int c, .int r, s]) = true := by
  show (nameS n && (decide (a ∈ zs) && (decide (b ∈ zs) && !(a == b))) && (hgt c && (amt r && isSill (.int c) s))) = true
  rw [hn, decide_eq_true ha, decide_eq_true hb, hc, hr, hs, beq_eq_false_iff_ne.mpr hab]
  rfl
theorem hgt_of {i : Int} (h0 : -1000000 ≤ i) (h1 : i ≤ 1000000) : hgt i = true := by
  unfold hgt
  rw [decide_eq_true h0, decide_eq_true h1]
  rfl
theorem amt_of {i : Int} (h0 : 0 ≤ i) (h1 : i ≤ 1000000) : amt i = true := by
  unfold amt
  rw [decide_eq_true h0, decide_eq_true h1]
  rfl
theorem sea_not {z : Str} (h : nameS z = true) : z ≠ "sea" := by
  intro e
  subst e
  simp [nameS] at h
theorem sides_nd {fs : List Dv} {n : Nat} (h : Fds fs n) : ("sea" :: fs.map nmOf : List Str).Nodup := by
  rw [List.nodup_cons]
  refine ⟨fun m => ?_, h.nd⟩
  obtain ⟨d, md, e⟩ := List.mem_map.mp m
  obtain ⟨z, g, e', rfl, hz, _⟩ := field_shape (h.all d md)
  exact sea_not hz e
theorem nd_at {zs : List Str} (h : zs.Nodup) {i j : Nat} {a b : Str} (ha : zs[i]? = some a) (hb : zs[j]? = some b) (hij : i ≠ j) : a ≠ b := by
  intro e
  subst e
  obtain ⟨h1, e1⟩ := List.getElem?_eq_some_iff.mp ha
  obtain ⟨h2, e2⟩ := List.getElem?_eq_some_iff.mp hb
  exact hij ((List.getElem_inj h).mp (e1.trans e2.symm))
theorem second_ne {c f L s r : Int} (hL : 2 ≤ L) (hf0 : 0 ≤ f) (hf1 : f < L) (hr : r = c % (L - 1)) (hs : s = (f + 1 + r) % L) : 0 ≤ s ∧ s < L ∧ f ≠ s := by
  have r0 : 0 ≤ r := by rw [hr]; exact Int.emod_nonneg _ (by omega)
  have r1 : r < L - 1 := by rw [hr]; exact Int.emod_lt_of_pos _ (by omega)
  have s0 : 0 ≤ s := by rw [hs]; exact Int.emod_nonneg _ (by omega)
  have s1 : s < L := by rw [hs]; exact Int.emod_lt_of_pos _ (by omega)
  refine ⟨s0, s1, ?_⟩
  intro e
  by_cases hlt : f + 1 + r < L
  · rw [Int.emod_eq_of_lt (by omega) hlt] at hs
    omega
  · have e2 : (f + 1 + r) % L = f + 1 + r - L := by
      rw [← Int.sub_emod_right, Int.emod_eq_of_lt (by omega) (by omega)]
    omega
theorem at2 {a b i : Int} (h0 : 0 ≤ i) (h1 : i < 2) : ∃ m : Int, atI ([.int a, .int b] : List V) i = some (.int m) ∧ (m = a ∨ m = b) := by
  obtain ⟨k, rfl⟩ := Int.eq_ofNat_of_zero_le h0
  have hk : k < 2 := by omega
  match k, hk with
  | 0, _ => exact ⟨a, atI_nat rfl, .inl rfl⟩
  | 1, _ => exact ⟨b, atI_nat rfl, .inr rfl⟩
def spDykesL (K : PySem.W.Frag) : Sp := sp3 fun x y u H Q => ∃ (n : Nat) (a : Addr) (vs : List V) (fs : List Dv) (k : Nat), Scr K H x ∧ y = .ref a ∧ H a = some (.lst vs) ∧ IsL H fs vs ∧ Fds fs k ∧ k ≤ 100 ∧ u = .int n ∧ 1 ≤ n ∧ n ≤ 40 ∧
  ∀ (l : Addr) (us : List V) (ds : List Dv) (H' : Hp), Same H H' → H l = none → H' l = some (.lst us) → IsL H' ds us → Dks ("sea" :: fs.map nmOf) ds n → Q (.ref l) H'
theorem ok_l_dykes (T : Txt K mg C) : Fc P w K mg base 3 "_law_dykes" ["_law_script", "_law_fields_here", "_law_most"] (spDykesL K) := by
  have G_l_mixed : Fc P w K mg base 2 "_law_mixed" ["_law_script", "_law_k"] (spMixed K) := ok_l_mixed T
  have G_l_names : Fc P w K mg base 1 "_law_names" ["_law_cell", "_law_many"] spNames := ok_l_names T
  have G_l_height : Fc P w K mg base 1 "_law_height" ["_law_cell"] (spBound (-1000000) 1000000) := ok_l_height T
  have G_l_amount : Fc P w K mg base 1 "_law_amount" ["_law_cell"] (spBound 0 1000000) := ok_l_amount T
  refine T.d_l_dykes.fc sc_l_dykes len3 (fun f cdv A outer s H vs Q E hr h => ?_)
  obtain ⟨x, y, u, rfl, n, a, ws, fs, kf, hS, rfl, ha, hi, gf, hkf, rfl, n0, n1, q⟩ := h
  have big := big1000
  have lw := hi.length
  have f1 := gf.l1
  have f2 := gf.l2
  refine ⟨_, (@pss_cons _ _ _ _ _ (@ps_set _ _ (3) _ _ _ _ sc_l_dykes.nd rfl (Or.inl rfl) (@pe_c _ _ _ _ _ _ _ _ _ _ G_l_mixed (hr.mono (by decide)) (@pa_cons _ _ _ _ _ (pv 0) (@pa_cons _ _ _ _ _ pe_int pa_nil (by rfl)) (by rfl)) (by rfl) (by decide) (by rfl) (by rfl)) (by rfl) (by first | exact .inl rfl | exact .inr rfl | assumption)) (@pss_cons _ _ _ _ _ (@ps_set _ _ (4) _ _ _ _ sc_l_dykes.nd rfl (Or.inl rfl) (@pe_c _ _ _ _ _ _ _ _ _ _ G_l_names (hr.mono (by decide)) (@pa_cons _ _ _ _ _ (@pe_op _ _ _ _ _ _ _ _ op_fdivB (pv 3) pe_int) (@pa_cons _ _ _ _ _ (@pe_op _ _ _ _ _ _ _ _ op_add pe_int (@pe_op _ _ _ _ _ _ _ _ op_mod (pv 3) (pv 2))) pa_nil (by rfl)) (by rfl)) (by rfl) (by decide) (by rfl) (by rfl)) (by rfl) (by first | exact .inl rfl | exact .inr rfl | assumption)) (@pss_cons _ _ _ _ _ (@ps_set _ _ (5) _ _ _ _ sc_l_dykes.nd rfl (Or.inl rfl) (@pe_op _ _ _ _ _ _ _ _ op_cat (@pe_lst _ _ _ _ (@pa_cons _ _ _ _ _ pe_str pa_nil (by rfl))) (@pe_comp _ _ _ _ _ _ _ _ _ _ _ ["_law_field"] 1 [] rfl (@pi_list _ _ _ _ (pv 1)) (fun R => @pg_name _ _ (0) _ (show List.Nodup (["_law_field"] : List Str) by decide +kernel) rfl (Or.inl rfl) (by first | exact .inl rfl | exact .inr rfl | assumption)) (@gkeep_name _ _ (by decide)) (fun R => pifs_nil) (fun R => (@pe_ix _ _ _ _ _ _ _ (@ix_tupB _ (K) rfl) (pv 0) pe_int (fun _ _ => rfl))) (by rfl) (by rfl) (by rfl) (by rfl) (by rfl) (by rfl) (by rfl) (by intro _; rfl))) (by rfl) (by first | exact .inl rfl | exact .inr rfl | assumption)) (@pss_cons _ _ _ _ _ (@ps_set _ _ (6) _ _ _ _ sc_l_dykes.nd rfl (Or.inl rfl) (@pe_lst _ _ _ _ pa_nil) (by rfl) (by first | exact .inl rfl | exact .inr rfl | assumption)) (@pss_cons _ _ _ _ _ (@ps_for _ _ _ _ _ _ _ _ PassesOwn.never rfl (@pi_range1 _ _ _ _ _ _ rfl T.n_range (@pa_cons _ _ _ _ _ (@pe_callB _ _ _ _ _ _ _ _ _ (@call_len_seqB _ (K) rfl) rfl T.n_len boot_len' (@pa_cons _ _ _ _ _ (pv 4) pa_nil (by rfl)) (by decide) (by decide) (by rfl) (by rfl)) pa_nil (by rfl)) (by rfl)) (@pg_name _ _ (7) _ sc_l_dykes.nd rfl (Or.inl rfl) (by first | exact .inl rfl | exact .inr rfl | assumption)) (@pss_cons _ _ _ _ _ (@ps_set _ _ (3) _ _ _ _ sc_l_dykes.nd rfl (Or.inl rfl) (@pe_c _ _ _ _ _ _ _ _ _ _ G_l_mixed (hr.mono (by decide)) (@pa_cons _ _ _ _ _ (pv 0) (@pa_cons _ _ _ _ _ (@pe_op _ _ _ _ _ _ _ _ op_add pe_int (pv 7)) pa_nil (by rfl)) (by rfl)) (by rfl) (by decide) (by rfl) (by rfl)) (by rfl) (by first | exact .inl rfl | exact .inr rfl | assumption)) (@pss_cons _ _ _ _ _ (@ps_set _ _ (8) _ _ _ _ sc_l_dykes.nd rfl (Or.inl rfl) (@pe_op _ _ _ _ _ _ _ _ op_mod (pv 3) (@pe_callB _ _ _ _ _ _ _ _ _ (@call_len_seqB _ (K) rfl) rfl T.n_len boot_len' (@pa_cons _ _ _ _ _ (pv 5) pa_nil (by rfl)) (by decide) (by decide) (by rfl) (by rfl))) (by rfl) (by first | exact .inl rfl | exact .inr rfl | assumption)) (@pss_cons _ _ _ _ _ (@ps_set _ _ (9) _ _ _ _ sc_l_dykes.nd rfl (Or.inl rfl) (@pe_op _ _ _ _ _ _ _ _ op_mod (@pe_op _ _ _ _ _ _ _ _ op_add (@pe_op _ _ _ _ _ _ _ _ op_add (pv 8) pe_int) (@pe_op _ _ _ _ _ _ _ _ op_mod (@pe_op _ _ _ _ _ _ _ _ op_fdivB (pv 3) pe_int) (@pe_op _ _ _ _ _ _ _ _ op_sub (@pe_callB _ _ _ _ _ _ _ _ _ (@call_len_seqB _ (K) rfl) rfl T.n_len boot_len' (@pa_cons _ _ _ _ _ (pv 5) pa_nil (by rfl)) (by decide) (by decide) (by rfl) (by rfl)) pe_int))) (@pe_callB _ _ _ _ _ _ _ _ _ (@call_len_seqB _ (K) rfl) rfl T.n_len boot_len' (@pa_cons _ _ _ _ _ (pv 5) pa_nil (by rfl)) (by decide) (by decide) (by rfl) (by rfl))) (by rfl) (by first | exact .inl rfl | exact .inr rfl | assumption)) (@pss_cons _ _ _ _ _ (@ps_set _ _ (10) _ _ _ _ sc_l_dykes.nd rfl (Or.inl rfl) (@pe_c _ _ _ _ _ _ _ _ _ _ G_l_height (hr.mono (by decide)) (@pa_cons _ _ _ _ _ (@pe_op _ _ _ _ _ _ _ _ op_fdivB (pv 3) pe_int) pa_nil (by rfl)) (by rfl) (by decide) (by rfl) (by rfl)) (by rfl) (by first | exact .inl rfl | exact .inr rfl | assumption)) (@pss_cons _ _ _ _ _ (@ps_set _ _ (11) _ _ _ _ sc_l_dykes.nd rfl (Or.inl rfl) pe_non (by rfl) (by first | exact .inl rfl | exact .inr rfl | assumption)) (@pss_cons _ _ _ _ _ (@ps_if _ _ _ _ _ _ _ _ (@PW.pt _ _ _ (@pw_and _ _ _ _ _ _ _ (@pt_cmpR _ _ _ _ _ _ _ _ op_eq (@pe_op _ _ _ _ _ _ _ _ op_mod (@pe_op _ _ _ _ _ _ _ _ op_fdivB (pv 3) (@pe_op _ _ _ _ _ _ _ _ op_pow pe_int pe_int)) pe_int) pe_int (@nomark _ _ (by decide) (by decide))) (@pw_and1 _ _ _ _ (@pt_cmpR _ _ _ _ _ _ _ _ op_gt (pv 10) (@pe_op _ _ _ _ _ _ _ _ op_sub pe_int (@pe_op _ _ _ _ _ _ _ _ op_pow pe_int pe_int)) (@nomark _ _ (by decide) (by decide)))))) (@pss_one _ _ _ (@ps_set _ _ (11) _ _ _ _ sc_l_dykes.nd rfl (Or.inl rfl) (@pe_callB _ _ _ _ _ _ _ _ _ (@call_max2 _ rfl) rfl T.n_max boot_max' (@pa_cons _ _ _ _ _ (@pe_op _ _ _ _ _ _ _ _ op_sub pe_int (@pe_op _ _ _ _ _ _ _ _ op_pow pe_int pe_int)) (@pa_cons _ _ _ _ _ (@pe_op _ _ _ _ _ _ _ _ op_sub (@pe_op _ _ _ _ _ _ _ _ op_sub (pv 10) pe_int) (@pe_op _ _ _ _ _ _ _ _ op_mod (@pe_op _ _ _ _ _ _ _ _ op_fdivB (pv 3) (@pe_op _ _ _ _ _ _ _ _ op_pow pe_int pe_int)) (@pe_ix _ _ _ _ _ _ _ (@ix_listB _ (K) rfl) (@pe_lst _ _ _ _ (@pa_cons _ _ _ _ _ pe_int (@pa_cons _ _ _ _ _ (@pe_op _ _ _ _ _ _ _ _ op_pow pe_int pe_int) pa_nil (by rfl)) (by rfl))) (@pe_op _ _ _ _ _ _ _ _ op_mod (@pe_op _ _ _ _ _ _ _ _ op_fdivB (pv 3) (@pe_op _ _ _ _ _ _ _ _ op_pow pe_int pe_int)) pe_int) (fun _ _ => rfl)))) pa_nil (by rfl)) (by rfl)) (by decide) (by decide) (by rfl) (by rfl)) (by rfl) (by first | exact .inl rfl | exact .inr rfl | assumption))) pss_nil) (@pss_one _ _ _ (@ps_expr _ _ _ _ (@pe_bm _ _ _ _ _ _ _ _ _ _ _ _ PySem.F.plainAttrs_list PySem.F.slot_list_append PySem.F.type_list_append mt_append (pv 6) (@pa_cons _ _ _ _ _ (@pe_tup _ _ _ _ _ (@pa_cons _ _ _ _ _ (@pe_ix _ _ _ _ _ _ _ (@ix_listB _ (K) rfl) (pv 4) (pv 7) (fun _ _ => rfl)) (@pa_cons _ _ _ _ _ (@pe_ix _ _ _ _ _ _ _ (@ix_listB _ (K) rfl) (pv 5) (pv 8) (fun _ _ => rfl)) (@pa_cons _ _ _ _ _ (@pe_ix _ _ _ _ _ _ _ (@ix_listB _ (K) rfl) (pv 5) (pv 9) (fun _ _ => rfl)) (@pa_cons _ _ _ _ _ (pv 10) (@pa_cons _ _ _ _ _ (@pe_c _ _ _ _ _ _ _ _ _ _ G_l_amount (hr.mono (by decide)) (@pa_cons _ _ _ _ _ (@pe_op _ _ _ _ _ _ _ _ op_fdivB (pv 3) (@pe_op _ _ _ _ _ _ _ _ op_pow pe_int pe_int)) pa_nil (by rfl)) (by rfl) (by decide) (by rfl) (by rfl)) (@pa_cons _ _ _ _ _ (pv 11) pa_nil (by rfl)) (by rfl)) (by rfl)) (by rfl)) (by rfl)) (by rfl))) pa_nil (by rfl)) (by rfl) (by rfl) (by rfl) (by rfl) (by rfl)) (by rfl))))))))) (by intro _; rfl)) (@pss_one _ _ _ (@ps_ret _ _ _ _ (pv 6)))))))), ?_⟩
  refine ⟨_, rfl, _, _, rfl, 1, hS, rfl, by decide, fun c c0 => ?_⟩
  have r0 : 0 ≤ c % (n : Int) := Int.emod_nonneg _ (by omega)
  have r1 : c % (n : Int) < n := Int.emod_lt_of_pos _ (by omega)
  refine ⟨_, rfl, _, _, rfl, rfl, ⟨by decide, by decide⟩, _, rfl, _, rfl, _, _, rfl, rfl, (by show 0 < (n : Int); omega), _, _, rfl, rfl, ?_⟩
  obtain ⟨m, hm⟩ := Int.eq_ofNat_of_zero_le (show 0 ≤ 1 + c % (n : Int) by omega)
  refine ⟨_, _, rfl, _, m, rfl, by show V.int (1 + c % (n : Int)) = _; rw [hm], by omega, fun zs pz hz hpz => ?_⟩
  have lz := hz.len
  have S1 := Same.upd (o := .lst (zs.map V.str)) hpz
  refine ⟨small_le rfl, fun p1 hp1 => ?_⟩
  have S2 := Same.upd (o := .lst [.str "sea"]) hp1
  have S12 := S1.trans S2
  refine ⟨_, rfl, a, rfl, ⟨_, SqL.of (S12 _ _ ha)⟩, ?_⟩
  refine comp_list (F := K) (xs := ws) (by omega) (fun i ys H' => H' = upd (upd H pz (.lst (zs.map V.str))) p1 (.lst [.str "sea"]) ∧ ys = ((fs.take i).map nmOf).map V.str) ⟨rfl, rfl⟩ ?_ ?_ ?_
  · rintro i ys H' hi' ⟨rfl, rfl⟩
    exact ⟨SqL.of (S12 _ _ ha), by rw [List.length_map, List.length_map, List.length_take]; omega⟩
  · rintro i x ys H' K1 K2 hx' ⟨rfl, rfl⟩ k1 k2
    have hil : i < ws.length := (List.getElem?_eq_some_iff.mp hx').1
    obtain ⟨d, ed⟩ : ∃ d, fs[i]? = some d := ⟨_, List.getElem?_eq_getElem (by omega)⟩
    obtain ⟨v, ev, iv⟩ := hi.get ed
    rw [hx'] at ev
    cases ev
    obtain ⟨z, g, e, rfl, _⟩ := field_shape (gf.all d (List.mem_of_getElem? ed))
    obtain ⟨t, rfl, o⟩ := field_row iv
    refine ⟨_, rfl, t, _, 0, .str z, rfl, rfl, SqT.of (S12 _ _ o), atI_nat (j := 0) rfl, k1 _ _ ⟨rfl, ?_⟩⟩
    rw [List.take_add_one, ed]
    simp [nmOf, firstS]
  · rintro ys H' ⟨rfl, rfl⟩
    intro p2 hp2
    rw [List.take_of_length_le (by omega)]
    have S3 := Same.upd (o := .lst ((fs.map nmOf).map V.str)) hp2
    refine ⟨p1, p2, _, _, rfl, rfl, S3 _ _ upd_same, upd_same, by simp only [List.length_map, List.length_cons, List.length_nil]; omega, fun p3 hp3 => ?_⟩
    have S4 := Same.upd (o := .lst ([.str "sea"] ++ (fs.map nmOf).map V.str)) hp3
    have S14 := S12.trans (S3.trans S4)
    have hpz4 := (S2.trans (S3.trans S4)) pz _ upd_same
    have hp34 : upd (upd (upd (upd H pz (.lst (zs.map V.str))) p1 (.lst [.str "sea"])) p2 (.lst ((fs.map nmOf).map V.str))) p3 (.lst ([.str "sea"] ++ (fs.map nmOf).map V.str)) p3 = some (.lst ((("sea" : Str) :: fs.map nmOf).map V.str)) := upd_same
    generalize upd (upd (upd (upd H pz (.lst (zs.map V.str))) p1 (.lst [.str "sea"])) p2 (.lst ((fs.map nmOf).map V.str))) p3 (.lst ([.str "sea"] ++ (fs.map nmOf).map V.str)) = H4 at S14 hpz4 hp34
    refine ⟨small_le rfl, fun l hl => ?_⟩
    have S5 := Same.upd (o := .lst []) hl
    have fl : H l = none := S14.free hl
    have npz : pz ≠ l := ne_of_none hpz4 hl
    have np3 : p3 ≠ l := ne_of_none hp34 hl
    have sl : ((("sea" : Str) :: fs.map nmOf).length) = fs.length + 1 := by simp
    have snd := sides_nd gf
    generalize hsd : ("sea" :: fs.map nmOf : List Str) = sd at *
    have sl2 : (sd.map V.str).length = fs.length + 1 := by rw [List.length_map, sl]
    refine ⟨_, rfl, pz, _, rfl, .inl (SqL.of (S5 _ _ hpz4)), _, rfl, by rw [List.length_map]; omega, by rw [List.length_map]; omega, ?_⟩
    rw [List.length_map, Int.toNat_natCast]
    refine for_range (lo := 0) (n := zs.length) (fun i σ H' => ∃ (v3 v7 v8 v9 v10 v11 : Option V) (us : List V) (ds : List Dv), σ = [some x, some (.ref a), some (.int n), v3, some (.ref pz), some (.ref p3), some (.ref l), v7, v8, v9, v10, v11] ∧ Same H H' ∧ H' pz = some (.lst (zs.map V.str)) ∧ H' p3 = some (.lst (sd.map V.str)) ∧ H' l = some (.lst us) ∧ IsL H' ds us ∧ ds.map nmOf = zs.take i ∧ (∀ d ∈ ds, isDyke sd d = true))
      ⟨_, _, _, _, _, _, [], [], rfl, S14.trans S5, S5 _ _ hpz4, S5 _ _ hp34, upd_same, rfl, rfl, fun d m => by cases m⟩ ?_ ?_
    · rintro i σ H' hi2 ⟨v3, v7, v8, v9, v10, v11, us, ds, rfl, S, hz', hsd', hl', hi', en, af⟩
      have lf : ds.length = i := by
        have := congrArg List.length en
        rw [List.length_map, List.length_take] at this
        omega
      have lu := hi'.length
      obtain ⟨z, ez⟩ : ∃ z, zs[i]? = some z := ⟨_, List.getElem?_eq_getElem hi2⟩
      have gz := hz.good z (List.mem_of_getElem? ez)
      refine ⟨_, rfl, _, rfl, _, _, rfl, rfl, _, _, rfl, 15 + (0 + (i : Int)), hS.same S, rfl, by omega, fun c2 c20 => ?_⟩
      have L0 : (0 : Int) < ((sd.map V.str).length : Int) := by omega
      refine ⟨_, rfl, _, rfl, p3, _, rfl, .inl (SqL.of hsd'), _, _, rfl, rfl, L0, ?_⟩
      have f0 : 0 ≤ c2 % ((sd.map V.str).length : Int) := Int.emod_nonneg _ (by omega)
      have f1' : c2 % ((sd.map V.str).length : Int) < ((sd.map V.str).length : Int) := Int.emod_lt_of_pos _ L0
      refine ⟨_, rfl, _, _, rfl, rfl, _, rfl, _, _, rfl, rfl, ⟨by decide, by decide⟩, _, rfl, p3, _, rfl, .inl (SqL.of hsd'), _, _, rfl, rfl, _, _, rfl, rfl, (by show 0 < ((sd.map V.str).length : Int) - 1; omega), _, _, rfl, rfl, _, rfl, p3, _, rfl, .inl (SqL.of hsd'), _, _, rfl, rfl, L0, ?_⟩
      obtain ⟨se0, se1, fne⟩ := second_ne (c := c2 / 13) (f := c2 % ((sd.map V.str).length : Int)) (L := ((sd.map V.str).length : Int)) (by omega) f0 f1' rfl rfl
      obtain ⟨fj, hfj⟩ := Int.eq_ofNat_of_zero_le f0
      obtain ⟨sj, hsj⟩ := Int.eq_ofNat_of_zero_le se0
      rw [hfj] at f1'
      rw [hsj] at se1
      rw [hfj, ← hfj, hsj] at fne
      obtain ⟨za, eza⟩ : ∃ z, sd[fj]? = some z := ⟨_, List.getElem?_eq_getElem (by omega)⟩
      obtain ⟨zb, ezb⟩ : ∃ z, sd[sj]? = some z := ⟨_, List.getElem?_eq_getElem (by omega)⟩
      have atA : (sd.map V.str)[fj]? = some (V.str za) := by rw [List.getElem?_map, eza]; rfl
      have atB : (sd.map V.str)[sj]? = some (V.str zb) := by rw [List.getElem?_map, ezb]; rfl
      have iA : atI (sd.map V.str) (c2 % ((sd.map V.str).length : Int)) = some (V.str za) := by rw [hfj]; exact atI_nat atA
      have iB : atI (sd.map V.str) ((c2 % ((sd.map V.str).length : Int) + 1 + c2 / 13 % (((sd.map V.str).length : Int) - 1)) % ((sd.map V.str).length : Int)) = some (V.str zb) := by rw [hsj]; exact atI_nat atB
      have zab : za ≠ zb := nd_at snd eza ezb (by omega)
      refine ⟨_, rfl, _, _, rfl, rfl, ⟨by decide, by decide⟩, _, rfl, _, rfl, fun cr cr0 cr1 => ?_⟩
      have fin : ∀ (sv : V) (sdv : Dv) (H2 : Hp), Same H H2 → H2 pz = some (.lst (zs.map V.str)) → H2 p3 = some (.lst (sd.map V.str)) → H2 l = some (.lst us) → IsL H2 ds us → (∀ H3, Is H3 sdv sv) → isSill (.int cr) sdv = true →
          ∀ (rt : Int), 0 ≤ rt → rt ≤ 1000000 → ∀ t, H2 t = none → ∃ us' ds', Same H (upd (upd H2 t (.tup [.str z, .str za, .str zb, .int cr, .int rt, sv])) l (.lst us')) ∧ us' = us ++ [.ref t] ∧ upd (upd H2 t (.tup [.str z, .str za, .str zb, .int cr, .int rt, sv])) l (.lst us') pz = some (.lst (zs.map V.str)) ∧
            upd (upd H2 t (.tup [.str z, .str za, .str zb, .int cr, .int rt, sv])) l (.lst us') p3 = some (.lst (sd.map V.str)) ∧ IsL (upd (upd H2 t (.tup [.str z, .str za, .str zb, .int cr, .int rt, sv])) l (.lst us')) ds' us' ∧ ds'.map nmOf = zs.take (i + 1) ∧ (∀ d ∈ ds', isDyke sd d = true) := by
        intro sv sdv H2 S' hz2 hs2 hl2 hi2' his hsl rt rt0 rt1 t ht
        have S3' := Same.upd (o := .tup [.str z, .str za, .str zb, .int cr, .int rt, sv]) ht
        have hl3 := S3' _ _ hl2
        have ok : isDyke sd (.tup [.str z, .str za, .str zb, .int cr, .int rt, sdv]) = true := dyke_mk gz (List.mem_of_getElem? eza) (List.mem_of_getElem? ezb) zab (hgt_of cr0 cr1) (amt_of rt0 rt1) hsl
        refine ⟨us ++ [.ref t], ds ++ [.tup [.str z, .str za, .str zb, .int cr, .int rt, sdv]], (S'.trans S3').over fl, rfl, ?_, ?_, ?_, ?_, ?_⟩
        · rw [upd_ne npz]
          exact S3' _ _ hz2
        · rw [upd_ne np3]
          exact S3' _ _ hs2
        · refine IsL.keep (KeepT.lst hl3) _ _ (hardL_of fun d m => dyke_hard (zs := sd) ?_) (IsL.snoc ?_ (IsL.same S3' _ _ hi2'))
          · rcases List.mem_append.mp m with m | m
            · exact af d m
            · rw [List.mem_singleton.mp m]
              exact ok
          · exact ⟨t, _, rfl, upd_same, .str z, _, rfl, rfl, .str za, _, rfl, rfl, .str zb, _, rfl, rfl, .int cr, _, rfl, rfl, .int rt, _, rfl, rfl, sv, _, rfl, his _, rfl⟩
        · rw [List.map_append, en, List.take_add_one, ez]
          rfl
        · intro d m
          rcases List.mem_append.mp m with m | m
          · exact af d m
          · rw [List.mem_singleton.mp m]
            exact ok
      refine ⟨_, rfl, _, _, rfl, rfl, ⟨by decide, by decide, by decide⟩, _, _, rfl, rfl, ⟨by decide, by decide⟩, _, _, rfl, rfl, (posI rfl), rfl, _, rfl, ?_⟩
      refine ite2 (fun t1 => ?_) (fun t1 => ?_)
      · refine ⟨_, rfl, _, _, rfl, rfl, ⟨by decide, by decide, by decide⟩, _, _, rfl, rfl, _, _, rfl, rfl, _, rfl, ?_⟩
        refine ite2 (fun t2 => ?_) (fun t2 => ?_)
        · have t2' : 0 - (10 : Int) ^ (6 : Int).toNat < cr := of_decide_eq_true t2
          rw [p6] at t2'
          refine ⟨_, _, rfl, rfl, ⟨by decide, by decide, by decide⟩, _, _, rfl, rfl, ?_⟩
          refine ⟨_, rfl, _, _, rfl, rfl, _, rfl, _, _, rfl, rfl, ⟨by decide, by decide, by decide⟩, _, _, rfl, rfl, ⟨by decide, by decide⟩, _, _, rfl, rfl, ⟨by decide, by decide, by decide⟩, small_le rfl, fun pl hpl => ?_⟩
          obtain ⟨md, emd, hmd⟩ := at2 (a := 3) (b := 10 ^ (6 : Int).toNat) (i := c2 / 10 ^ (10 : Int).toNat % 2) (Int.emod_nonneg _ (by decide)) (Int.emod_lt_of_pos _ (posI rfl))
          rw [p6] at hmd
          refine ⟨_, rfl, _, _, rfl, rfl, ⟨by decide, by decide, by decide⟩, _, _, rfl, rfl, ⟨by decide, by decide⟩, _, _, rfl, rfl, (posI rfl), pl, _, _, .int md, rfl, rfl, SqL.of upd_same, emd, _, _, rfl, rfl, (by show 0 < md; omega), _, _, rfl, rfl, _, _, rfl, ?_⟩
          have q0 : 0 ≤ c2 / 10 ^ (17 : Int).toNat % md := Int.emod_nonneg _ (by omega)
          generalize c2 / 10 ^ (17 : Int).toNat % md = qq at *
          generalize hsi : (if cr - 1 - qq > 0 - (10 : Int) ^ (6 : Int).toNat then cr - 1 - qq else 0 - (10 : Int) ^ (6 : Int).toNat) = si
          rw [p6] at hsi
          have s2 : -1000000 ≤ si ∧ si < cr := by
            rw [← hsi]
            split <;> omega
          have hss : isSill (.int cr) (.int si) = true := by
            show (hgt si && decide (si < cr)) = true
            rw [hgt_of s2.1 (by omega), decide_eq_true s2.2]
            rfl
          refine ⟨_, rfl, .inl ⟨rfl, _, SqL.of ((Same.upd hpl) _ _ hl')⟩, _, rfl, _, rfl, pz, _, 0 + (i : Int), .str z, rfl, rfl, SqL.of ((Same.upd hpl) _ _ hz'), (by rw [Int.zero_add]; exact atI_nat (by rw [List.getElem?_map, ez]; rfl)), ?_⟩
          refine ⟨_, rfl, _, rfl, p3, _, _, .str za, rfl, rfl, SqL.of ((Same.upd hpl) _ _ hsd'), iA, _, rfl, _, rfl, p3, _, _, .str zb, rfl, rfl, SqL.of ((Same.upd hpl) _ _ hsd'), iB, _, rfl, ?_⟩
          refine ⟨_, rfl, _, _, rfl, rfl, ⟨by decide, by decide, by decide⟩, _, _, rfl, rfl, ⟨by decide, by decide⟩, _, rfl, _, rfl, fun rt rt0 rt1 => ?_⟩
          refine ⟨_, rfl, small_le rfl, fun t ht => ?_⟩
          obtain ⟨us', ds', g1, rfl, g2, g3, g4, g5, g6⟩ := fin (.int si) (.int si) _ (S.trans (Same.upd hpl)) ((Same.upd hpl) _ _ hz') ((Same.upd hpl) _ _ hsd') ((Same.upd hpl) _ _ hl') (IsL.same (Same.upd hpl) _ _ hi') (fun _ => rfl) hss rt rt0 rt1 t ht
          exact ⟨l, us, .ref t, rfl, rfl, (Same.upd ht) _ _ ((Same.upd hpl) _ _ hl'), by omega, _, _, _, _, _, _, _, ds', rfl, g1, g2, g3, upd_same, g4, g5, g6⟩
        · refine ⟨_, rfl, .inl ⟨rfl, _, SqL.of (hl')⟩, _, rfl, _, rfl, pz, _, 0 + (i : Int), .str z, rfl, rfl, SqL.of (hz'), (by rw [Int.zero_add]; exact atI_nat (by rw [List.getElem?_map, ez]; rfl)), ?_⟩
          refine ⟨_, rfl, _, rfl, p3, _, _, .str za, rfl, rfl, SqL.of (hsd'), iA, _, rfl, _, rfl, p3, _, _, .str zb, rfl, rfl, SqL.of (hsd'), iB, _, rfl, ?_⟩
          refine ⟨_, rfl, _, _, rfl, rfl, ⟨by decide, by decide, by decide⟩, _, _, rfl, rfl, ⟨by decide, by decide⟩, _, rfl, _, rfl, fun rt rt0 rt1 => ?_⟩
          refine ⟨_, rfl, small_le rfl, fun t ht => ?_⟩
          obtain ⟨us', ds', g1, rfl, g2, g3, g4, g5, g6⟩ := fin .non .non _ S (hz') (hsd') (hl') hi' (fun _ => rfl) rfl rt rt0 rt1 t ht
          exact ⟨l, us, .ref t, rfl, rfl, (Same.upd ht) _ _ (hl'), by omega, _, _, _, _, _, _, _, ds', rfl, g1, g2, g3, upd_same, g4, g5, g6⟩
      · refine ⟨_, rfl, .inl ⟨rfl, _, SqL.of (hl')⟩, _, rfl, _, rfl, pz, _, 0 + (i : Int), .str z, rfl, rfl, SqL.of (hz'), (by rw [Int.zero_add]; exact atI_nat (by rw [List.getElem?_map, ez]; rfl)), ?_⟩
        refine ⟨_, rfl, _, rfl, p3, _, _, .str za, rfl, rfl, SqL.of (hsd'), iA, _, rfl, _, rfl, p3, _, _, .str zb, rfl, rfl, SqL.of (hsd'), iB, _, rfl, ?_⟩
        refine ⟨_, rfl, _, _, rfl, rfl, ⟨by decide, by decide, by decide⟩, _, _, rfl, rfl, ⟨by decide, by decide⟩, _, rfl, _, rfl, fun rt rt0 rt1 => ?_⟩
        refine ⟨_, rfl, small_le rfl, fun t ht => ?_⟩
        obtain ⟨us', ds', g1, rfl, g2, g3, g4, g5, g6⟩ := fin .non .non _ S (hz') (hsd') (hl') hi' (fun _ => rfl) rfl rt rt0 rt1 t ht
        exact ⟨l, us, .ref t, rfl, rfl, (Same.upd ht) _ _ (hl'), by omega, _, _, _, _, _, _, _, ds', rfl, g1, g2, g3, upd_same, g4, g5, g6⟩
    · rintro σ H' ⟨v3, v7, v8, v9, v10, v11, us, ds, rfl, S, hz', hsd', hl', hi', en, af⟩
      rw [List.take_of_length_le (Nat.le_refl _)] at en
      have lf : ds.length = zs.length := by
        have := congrArg List.length en
        rwa [List.length_map] at this
      refine ⟨_, rfl, q l us ds H' S fl hl' hi' ⟨by omega, by omega, af, by rw [en]; exact hz.nd⟩⟩

theorem fields_ok {fs : List Dv} {n : Nat} (h : Fds fs n) (hn : n ≤ 12) : areFields (.lst fs) = true := (goodF_iff fs).mpr ⟨h.l1, Nat.le_trans h.l2 hn, h.all, h.nd⟩
theorem dykes_ok {zs : List Str} {ds : List Dv} {n : Nat} (h : Dks zs ds n) (hn : n ≤ 40) : areDykes zs (.lst ds) = true := (goodD_iff zs ds).mpr ⟨h.l1, Nat.le_trans h.l2 hn, h.all, h.nd⟩
theorem name_small {z : Str} (h : nameS z = true) : z.length ≤ 1000 := by
  unfold nameS at h
  rw [Bool.and_eq_true, Bool.and_eq_true, Bool.and_eq_true] at h
  have := of_decide_eq_true h.1.1.2
  omega
theorem field_small {d : Dv} (h : isField d = true) : small d = true := by
  obtain ⟨z, g, e, rfl, hz, _⟩ := field_shape h
  show (decide (3 ≤ 1000) && (decide (z.length ≤ 1000) && (true && (true && true)))) = true
  rw [decide_eq_true (name_small hz)]
  rfl
theorem side_small {fs : List Dv} (hf : ∀ d ∈ fs, isField d = true) {a : Str} (h : a ∈ ("sea" :: fs.map nmOf : List Str)) : a.length ≤ 1000 := by
  rcases List.mem_cons.mp h with rfl | h
  · decide +kernel
  · obtain ⟨d, m, rfl⟩ := List.mem_map.mp h
    obtain ⟨z, g, e, rfl, hz, _⟩ := field_shape (hf d m)
    exact name_small hz
theorem dyke_small {fs : List Dv} (hf : ∀ d ∈ fs, isField d = true) {d : Dv} (h : isDyke ("sea" :: fs.map nmOf) d = true) : small d = true := by
  obtain ⟨n, a, b, c, r, s, rfl, hn, ha, hb, _, _, _, hs⟩ := dyke_shape h
  have e : small s = true := by
    cases s with
    | non => rfl
    | int i => rfl
    | _ => cases hs
  show (decide (6 ≤ 1000) && (decide (n.length ≤ 1000) && (decide (a.length ≤ 1000) && (decide (b.length ≤ 1000) && (true && (true && (small s && true))))))) = true
  rw [decide_eq_true (name_small hn), decide_eq_true (side_small hf ha), decide_eq_true (side_small hf hb), e]
  rfl
theorem lst_small {ds : List Dv} (h : ∀ d ∈ ds, small d = true) (hl : ds.length ≤ 1000) : small (.lst ds) = true := by
  show (decide (ds.length ≤ 1000) && smallL ds) = true
  rw [decide_eq_true hl, smallL_of h]
  rfl


theorem field_flat {d : Dv} (h : isField d = true) : flatTo 29 d = true := by
  obtain ⟨z, g, e, rfl, _⟩ := field_shape h
  rfl
theorem dyke_flat {zs : List Str} {d : Dv} (h : isDyke zs d = true) : flatTo 29 d = true := by
  obtain ⟨n, a, b, c, r, s, rfl, _, _, _, _, _, _, hs⟩ := dyke_shape h
  cases s with
  | non => rfl
  | int i => rfl
  | _ => cases hs
theorem flat_lst {ds : List Dv} (h : ∀ d ∈ ds, flatTo 29 d = true) : flatTo 30 (.lst ds) = true := by
  have := flatToL_of h
  simpa [flatTo] using this
theorem neD_self {d : Dv} {x y : V} {H : Hp} {Q : VK} (hx : Is H d x) (hy : Is H d y) (f : flatTo 30 d = true) (q : Q (.bl false) H) : rEqD true x y H Q := ⟨d, d, hx, hy, f, f, by rw [deq_refl 30 d f]; exact q⟩
def spNoLand (mg : Str → Option Value) (C : Addr) : Sp := fun vs H Q E => ∃ (x v1 v2 : V) (p dx : Addr) (d1 d2 : Dv) (c : Addr), vs = [x, v1, v2] ∧ x = .ref p ∧ H p = some (.ins C dx []) ∧ Is H d1 v1 ∧ Is H d2 v2 ∧ small d1 = true ∧ small d2 = true ∧ mg "NoLand" = some (.ref c) ∧
  (areFields d1 = false ∨ ∃ fs, d1 = .lst fs ∧ areFields d1 = true ∧ areDykes ("sea" :: fs.map nmOf) d2 = false) ∧ ∀ H', Same H H' → E (.ref c) none H'
theorem ok_land_pinitX (T : Txt K mg C) : IcX P w K mg base 6 C ["self", "fields", "dykes"] (spNoLand mg C) := by
  obtain ⟨c_NoLand, c_DykeError, c_NoDecree, c_NoLevel, c_NoName, c_NoPurse, c_NoRing, c_NoRow, c_NoSluice, c_NoText, c_NoVoice, c_NoWay, c_NoWish, c_NoWork, c_Outvoted, c_Short, c_TooMany, ex_NoLand, hm_NoLand, hm_DykeError, hm_NoDecree, hm_NoLevel, hm_NoName, hm_NoPurse, hm_NoRing, hm_NoRow, hm_NoSluice, hm_NoText, hm_NoVoice, hm_NoWay, hm_NoWish, hm_NoWork, hm_Outvoted, hm_Short, hm_TooMany, kx_NoLand_DykeError, kx_NoLand_ValueError, kx_NoLand_NoDecree, kx_NoLand_NoLevel, kx_NoLand_NoName, kx_NoLand_NoPurse, kx_NoLand_NoRing, kx_NoLand_NoRow, kx_NoLand_NoSluice, kx_NoLand_NoText, kx_NoLand_NoVoice, kx_NoLand_NoWay, kx_NoLand_NoWish, kx_NoLand_NoWork, kx_NoLand_Outvoted, kx_NoLand_Short, kx_NoLand_TooMany⟩ := T.xs
  have G_p_are_fields := ok_p_are_fields (P := P) (w := w) (base := base) T
  have G_p_are_dykes := ok_p_are_dykes (P := P) (w := w) (base := base) T
  refine T.i_Land.icX sc_land_pinit (fun vs H Q E h => ?_) (fun f cdv A outer s H vs Q E hr h => ?_)
  · obtain ⟨x, v1, v2, p, dx, d1, d2, c, rfl, _⟩ := h
    rfl
  obtain ⟨x, v1, v2, p, dx, d1, d2, c, rfl, rfl, hp, h1, h2, s1, s2, hc, bad, q⟩ := h
  rw [hm_NoLand] at hc
  cases hc
  have big := big1000
  refine ⟨_, (@pss_cons _ _ _ _ _ (@ps_if _ _ _ _ _ _ _ _ (@pt_not _ _ _ _ (@pt_val _ _ _ (@pe_c _ _ _ _ _ _ _ _ _ _ G_p_are_fields (hr.mono (by decide)) (@pa_cons _ _ _ _ _ (pv 1) pa_nil (by rfl)) (by rfl) (by decide) (by rfl) (by rfl)) (by intro _; rfl))) (@pss_one _ _ _ (@ps_raise _ _ _ _ _ _ _ _ _ _ hm_NoLand ex_NoLand.ex rfl raises_cx (@pa_cons _ _ _ _ _ pe_str pa_nil (by rfl)) (by rfl) (by decide) (by rfl) (by rfl))) pss_nil) (@pss_cons _ _ _ _ _ (@ps_if _ _ _ _ _ _ _ _ (@pt_not _ _ _ _ (@pt_val _ _ _ (@pe_c _ _ _ _ _ _ _ _ _ _ G_p_are_dykes (hr.mono (by decide)) (@pa_cons _ _ _ _ _ (pv 2) (@pa_cons _ _ _ _ _ (@pe_op _ _ _ _ _ _ _ _ op_cat (@pe_lst _ _ _ _ (@pa_cons _ _ _ _ _ (@pe_g _ _ _ _ T.g_SEA (by rfl) (by decide)) pa_nil (by rfl))) (@pe_comp _ _ _ _ _ _ _ _ _ _ _ ["field"] 1 [] rfl (@pi_list _ _ _ _ (pv 1)) (fun R => @pg_name _ _ (0) _ (show List.Nodup (["field"] : List Str) by decide +kernel) rfl (Or.inl rfl) (by first | exact .inl rfl | exact .inr rfl | assumption)) (@gkeep_name _ _ (by decide)) (fun R => pifs_nil) (fun R => (@pe_ix _ _ _ _ _ _ _ (@ix_tupB _ (K) rfl) (pv 0) pe_int (fun _ _ => rfl))) (by rfl) (by rfl) (by rfl) (by rfl) (by rfl) (by rfl) (by rfl) (by intro _; rfl))) pa_nil (by rfl)) (by rfl)) (by rfl) (by decide) (by rfl) (by rfl)) (by intro _; rfl))) (@pss_one _ _ _ (@ps_raise _ _ _ _ _ _ _ _ _ _ hm_NoLand ex_NoLand.ex rfl raises_cx (@pa_cons _ _ _ _ _ pe_str pa_nil (by rfl)) (by rfl) (by decide) (by rfl) (by rfl))) pss_nil) pss_never)), ?_⟩
  refine ⟨_, rfl, _, rfl, d1, h1, s1, _, rfl, ?_⟩
  rcases bad with bad | ⟨fs, rfl, okf, bad⟩
  · rw [bad]
    exact iteT ⟨small_le rfl, q _ (Same.refl _)⟩
  rw [okf]
  refine iteF ?_
  have gf := (goodF_iff _).mp okf
  have lf := gf.l2
  obtain ⟨a1, us, rfl, o1, i1⟩ := h1
  have l1 := i1.length
  refine ⟨_, rfl, small_le rfl, fun p1 hp1 => ?_⟩
  have S1 := Same.upd (o := .lst [.str "sea"]) hp1
  refine ⟨_, rfl, a1, rfl, ⟨_, SqL.of (S1 _ _ o1)⟩, ?_⟩
  refine comp_list (F := K) (xs := us) (by omega) (fun i ys H' => H' = upd H p1 (.lst [.str "sea"]) ∧ ys = ((fs.take i).map nmOf).map V.str) ⟨rfl, rfl⟩ ?_ ?_ ?_
  · rintro i ys H' hi' ⟨rfl, rfl⟩
    exact ⟨SqL.of (S1 _ _ o1), by rw [List.length_map, List.length_map, List.length_take]; omega⟩
  · rintro i x ys H' K1 K2 hx' ⟨rfl, rfl⟩ k1 k2
    have hil : i < us.length := (List.getElem?_eq_some_iff.mp hx').1
    obtain ⟨d, ed⟩ : ∃ d, fs[i]? = some d := ⟨_, List.getElem?_eq_getElem (by omega)⟩
    obtain ⟨v, ev, iv⟩ := i1.get ed
    rw [hx'] at ev
    cases ev
    obtain ⟨z, g, e, rfl, _⟩ := field_shape (gf.all d (List.mem_of_getElem? ed))
    obtain ⟨t, rfl, o⟩ := field_row iv
    refine ⟨_, rfl, t, _, 0, .str z, rfl, rfl, SqT.of (S1 _ _ o), atI_nat (j := 0) rfl, k1 _ _ ⟨rfl, ?_⟩⟩
    rw [List.take_add_one, ed]
    simp [nmOf, firstS]
  · rintro ys H' ⟨rfl, rfl⟩
    intro p2 hp2
    rw [List.take_of_length_le (by omega)]
    have S2 := Same.upd (o := .lst ((fs.map nmOf).map V.str)) hp2
    refine ⟨p1, p2, _, _, rfl, rfl, S2 _ _ upd_same, upd_same, by simp only [List.length_map, List.length_cons, List.length_nil]; omega, fun p3 hp3 => ?_⟩
    have S3 := Same.upd (o := .lst ([.str "sea"] ++ (fs.map nmOf).map V.str)) hp3
    have S := S1.trans (S2.trans S3)
    generalize hH3 : upd (upd (upd H p1 (.lst [.str "sea"])) p2 (.lst ((fs.map nmOf).map V.str))) p3 (.lst ([.str "sea"] ++ (fs.map nmOf).map V.str)) = H3 at S
    have hp3' : H3 p3 = some (.lst ((("sea" : Str) :: fs.map nmOf).map V.str)) := by rw [← hH3, upd_same]; rfl
    refine ⟨_, _, rfl, d2, p3, _, Is.same S _ _ h2, s2, rfl, hp3', _, rfl, ?_⟩
    rw [bad]
    exact iteT ⟨small_le rfl, q _ S⟩
def spOthers (mg : Str → Option Value) : Sp := sp1 fun x H Q => ∃ (a c : Addr), x = .ref a ∧ mg "NoLand" = some (.ref c) ∧ H a = some (excO a (.ref c)) ∧ ∀ (l : Addr) (H' : Hp), Same H H' → H l = none → H' l = some (.lst (List.replicate 15 (V.bl false))) → Q (.ref l) H'
theorem ok_l_others (T : Txt K mg C) : FcH P w K mg base 1 "_law_others" ["_law_e"] (spOthers mg) := by
  obtain ⟨c_NoLand, c_DykeError, c_NoDecree, c_NoLevel, c_NoName, c_NoPurse, c_NoRing, c_NoRow, c_NoSluice, c_NoText, c_NoVoice, c_NoWay, c_NoWish, c_NoWork, c_Outvoted, c_Short, c_TooMany, ex_NoLand, hm_NoLand, hm_DykeError, hm_NoDecree, hm_NoLevel, hm_NoName, hm_NoPurse, hm_NoRing, hm_NoRow, hm_NoSluice, hm_NoText, hm_NoVoice, hm_NoWay, hm_NoWish, hm_NoWork, hm_Outvoted, hm_Short, hm_TooMany, kx_NoLand_DykeError, kx_NoLand_ValueError, kx_NoLand_NoDecree, kx_NoLand_NoLevel, kx_NoLand_NoName, kx_NoLand_NoPurse, kx_NoLand_NoRing, kx_NoLand_NoRow, kx_NoLand_NoSluice, kx_NoLand_NoText, kx_NoLand_NoVoice, kx_NoLand_NoWay, kx_NoLand_NoWish, kx_NoLand_NoWork, kx_NoLand_Outvoted, kx_NoLand_Short, kx_NoLand_TooMany⟩ := T.xs
  refine T.d_l_others.fcH sc_l_others len1 (fun f cdv A outer s H vs Q E hr h => ?_)
  obtain ⟨x, rfl, a, c, rfl, hc, ha, q⟩ := h
  rw [hm_NoLand] at hc
  cases hc
  refine ⟨_, (@pss_cons _ _ _ _ _ (@ps_set _ _ (1) _ _ _ _ sc_l_others.nd rfl (Or.inl rfl) (@pe_lst _ _ _ _ (@pa_cons _ _ _ _ _ (@pe_callB _ _ _ _ _ _ _ _ _ (@call_isinstJ _ (K) rfl) rfl T.n_isinstance boot_isinstance (@pa_cons _ _ _ _ _ (pv 0) (@pa_cons _ _ _ _ _ (@pe_glob _ _ (.ref c_NoDecree) _ _ rfl hm_NoDecree rfl (by decide)) pa_nil (by rfl)) (by rfl)) (by decide) (by decide) (by rfl) (by rfl)) (@pa_cons _ _ _ _ _ (@pe_callB _ _ _ _ _ _ _ _ _ (@call_isinstJ _ (K) rfl) rfl T.n_isinstance boot_isinstance (@pa_cons _ _ _ _ _ (pv 0) (@pa_cons _ _ _ _ _ (@pe_glob _ _ (.ref c_NoLevel) _ _ rfl hm_NoLevel rfl (by decide)) pa_nil (by rfl)) (by rfl)) (by decide) (by decide) (by rfl) (by rfl)) (@pa_cons _ _ _ _ _ (@pe_callB _ _ _ _ _ _ _ _ _ (@call_isinstJ _ (K) rfl) rfl T.n_isinstance boot_isinstance (@pa_cons _ _ _ _ _ (pv 0) (@pa_cons _ _ _ _ _ (@pe_glob _ _ (.ref c_NoName) _ _ rfl hm_NoName rfl (by decide)) pa_nil (by rfl)) (by rfl)) (by decide) (by decide) (by rfl) (by rfl)) (@pa_cons _ _ _ _ _ (@pe_callB _ _ _ _ _ _ _ _ _ (@call_isinstJ _ (K) rfl) rfl T.n_isinstance boot_isinstance (@pa_cons _ _ _ _ _ (pv 0) (@pa_cons _ _ _ _ _ (@pe_glob _ _ (.ref c_NoPurse) _ _ rfl hm_NoPurse rfl (by decide)) pa_nil (by rfl)) (by rfl)) (by decide) (by decide) (by rfl) (by rfl)) pa_nil (by rfl)) (by rfl)) (by rfl)) (by rfl))) (by rfl) (by first | exact .inl rfl | exact .inr rfl | assumption)) (@pss_cons _ _ _ _ _ (@ps_set _ _ (1) _ _ _ _ sc_l_others.nd rfl (Or.inl rfl) (@pe_op _ _ _ _ _ _ _ _ op_cat (pv 1) (@pe_lst _ _ _ _ (@pa_cons _ _ _ _ _ (@pe_callB _ _ _ _ _ _ _ _ _ (@call_isinstJ _ (K) rfl) rfl T.n_isinstance boot_isinstance (@pa_cons _ _ _ _ _ (pv 0) (@pa_cons _ _ _ _ _ (@pe_glob _ _ (.ref c_NoRing) _ _ rfl hm_NoRing rfl (by decide)) pa_nil (by rfl)) (by rfl)) (by decide) (by decide) (by rfl) (by rfl)) (@pa_cons _ _ _ _ _ (@pe_callB _ _ _ _ _ _ _ _ _ (@call_isinstJ _ (K) rfl) rfl T.n_isinstance boot_isinstance (@pa_cons _ _ _ _ _ (pv 0) (@pa_cons _ _ _ _ _ (@pe_glob _ _ (.ref c_NoRow) _ _ rfl hm_NoRow rfl (by decide)) pa_nil (by rfl)) (by rfl)) (by decide) (by decide) (by rfl) (by rfl)) (@pa_cons _ _ _ _ _ (@pe_callB _ _ _ _ _ _ _ _ _ (@call_isinstJ _ (K) rfl) rfl T.n_isinstance boot_isinstance (@pa_cons _ _ _ _ _ (pv 0) (@pa_cons _ _ _ _ _ (@pe_glob _ _ (.ref c_NoSluice) _ _ rfl hm_NoSluice rfl (by decide)) pa_nil (by rfl)) (by rfl)) (by decide) (by decide) (by rfl) (by rfl)) (@pa_cons _ _ _ _ _ (@pe_callB _ _ _ _ _ _ _ _ _ (@call_isinstJ _ (K) rfl) rfl T.n_isinstance boot_isinstance (@pa_cons _ _ _ _ _ (pv 0) (@pa_cons _ _ _ _ _ (@pe_glob _ _ (.ref c_NoText) _ _ rfl hm_NoText rfl (by decide)) pa_nil (by rfl)) (by rfl)) (by decide) (by decide) (by rfl) (by rfl)) pa_nil (by rfl)) (by rfl)) (by rfl)) (by rfl)))) (by rfl) (by first | exact .inl rfl | exact .inr rfl | assumption)) (@pss_cons _ _ _ _ _ (@ps_set _ _ (1) _ _ _ _ sc_l_others.nd rfl (Or.inl rfl) (@pe_op _ _ _ _ _ _ _ _ op_cat (pv 1) (@pe_lst _ _ _ _ (@pa_cons _ _ _ _ _ (@pe_callB _ _ _ _ _ _ _ _ _ (@call_isinstJ _ (K) rfl) rfl T.n_isinstance boot_isinstance (@pa_cons _ _ _ _ _ (pv 0) (@pa_cons _ _ _ _ _ (@pe_glob _ _ (.ref c_NoVoice) _ _ rfl hm_NoVoice rfl (by decide)) pa_nil (by rfl)) (by rfl)) (by decide) (by decide) (by rfl) (by rfl)) (@pa_cons _ _ _ _ _ (@pe_callB _ _ _ _ _ _ _ _ _ (@call_isinstJ _ (K) rfl) rfl T.n_isinstance boot_isinstance (@pa_cons _ _ _ _ _ (pv 0) (@pa_cons _ _ _ _ _ (@pe_glob _ _ (.ref c_NoWay) _ _ rfl hm_NoWay rfl (by decide)) pa_nil (by rfl)) (by rfl)) (by decide) (by decide) (by rfl) (by rfl)) (@pa_cons _ _ _ _ _ (@pe_callB _ _ _ _ _ _ _ _ _ (@call_isinstJ _ (K) rfl) rfl T.n_isinstance boot_isinstance (@pa_cons _ _ _ _ _ (pv 0) (@pa_cons _ _ _ _ _ (@pe_glob _ _ (.ref c_NoWish) _ _ rfl hm_NoWish rfl (by decide)) pa_nil (by rfl)) (by rfl)) (by decide) (by decide) (by rfl) (by rfl)) (@pa_cons _ _ _ _ _ (@pe_callB _ _ _ _ _ _ _ _ _ (@call_isinstJ _ (K) rfl) rfl T.n_isinstance boot_isinstance (@pa_cons _ _ _ _ _ (pv 0) (@pa_cons _ _ _ _ _ (@pe_glob _ _ (.ref c_NoWork) _ _ rfl hm_NoWork rfl (by decide)) pa_nil (by rfl)) (by rfl)) (by decide) (by decide) (by rfl) (by rfl)) pa_nil (by rfl)) (by rfl)) (by rfl)) (by rfl)))) (by rfl) (by first | exact .inl rfl | exact .inr rfl | assumption)) (@pss_one _ _ _ (@ps_ret _ _ _ _ (@pe_op _ _ _ _ _ _ _ _ op_cat (pv 1) (@pe_lst _ _ _ _ (@pa_cons _ _ _ _ _ (@pe_callB _ _ _ _ _ _ _ _ _ (@call_isinstJ _ (K) rfl) rfl T.n_isinstance boot_isinstance (@pa_cons _ _ _ _ _ (pv 0) (@pa_cons _ _ _ _ _ (@pe_glob _ _ (.ref c_Outvoted) _ _ rfl hm_Outvoted rfl (by decide)) pa_nil (by rfl)) (by rfl)) (by decide) (by decide) (by rfl) (by rfl)) (@pa_cons _ _ _ _ _ (@pe_callB _ _ _ _ _ _ _ _ _ (@call_isinstJ _ (K) rfl) rfl T.n_isinstance boot_isinstance (@pa_cons _ _ _ _ _ (pv 0) (@pa_cons _ _ _ _ _ (@pe_glob _ _ (.ref c_Short) _ _ rfl hm_Short rfl (by decide)) pa_nil (by rfl)) (by rfl)) (by decide) (by decide) (by rfl) (by rfl)) (@pa_cons _ _ _ _ _ (@pe_callB _ _ _ _ _ _ _ _ _ (@call_isinstJ _ (K) rfl) rfl T.n_isinstance boot_isinstance (@pa_cons _ _ _ _ _ (pv 0) (@pa_cons _ _ _ _ _ (@pe_glob _ _ (.ref c_TooMany) _ _ rfl hm_TooMany rfl (by decide)) pa_nil (by rfl)) (by rfl)) (by decide) (by decide) (by rfl) (by rfl)) pa_nil (by rfl)) (by rfl)) (by rfl))))))))), ?_⟩
  refine ⟨_, rfl, a, _, _, c_NoLand, false, rfl, rfl, ha, ex_NoLand, kx_NoLand_NoDecree, _, rfl, a, _, _, c_NoLand, false, rfl, rfl, ha, ex_NoLand, kx_NoLand_NoLevel, _, rfl, a, _, _, c_NoLand, false, rfl, rfl, ha, ex_NoLand, kx_NoLand_NoName, _, rfl, a, _, _, c_NoLand, false, rfl, rfl, ha, ex_NoLand, kx_NoLand_NoPurse, small_le rfl, fun p1 hp1 => ?_⟩
  have S1 := Same.upd (o := .lst (List.replicate 4 (V.bl false))) hp1
  have h1 : upd H p1 (.lst (List.replicate 4 (V.bl false))) p1 = some (.lst (List.replicate 4 (V.bl false))) := upd_same
  have f1 := hp1
  refine ⟨_, rfl, _, rfl, a, _, _, c_NoLand, false, rfl, rfl, (S1 _ _ ha), ex_NoLand, kx_NoLand_NoRing, _, rfl, a, _, _, c_NoLand, false, rfl, rfl, (S1 _ _ ha), ex_NoLand, kx_NoLand_NoRow, _, rfl, a, _, _, c_NoLand, false, rfl, rfl, (S1 _ _ ha), ex_NoLand, kx_NoLand_NoSluice, _, rfl, a, _, _, c_NoLand, false, rfl, rfl, (S1 _ _ ha), ex_NoLand, kx_NoLand_NoText, small_le rfl, fun r1 hr1 => ?_⟩
  have U1 := Same.upd (o := .lst (List.replicate 4 (V.bl false))) hr1
  refine ⟨p1, r1, List.replicate 4 (V.bl false), List.replicate 4 (V.bl false), rfl, rfl, U1 _ _ h1, upd_same, small_le rfl, fun p2 hp2 => ?_⟩
  have W1 := Same.upd (o := .lst (List.replicate 8 (V.bl false))) hp2
  have S2 := S1.trans (U1.trans W1)
  refine ⟨_, rfl, _, rfl, a, _, _, c_NoLand, false, rfl, rfl, (S2 _ _ ha), ex_NoLand, kx_NoLand_NoVoice, _, rfl, a, _, _, c_NoLand, false, rfl, rfl, (S2 _ _ ha), ex_NoLand, kx_NoLand_NoWay, _, rfl, a, _, _, c_NoLand, false, rfl, rfl, (S2 _ _ ha), ex_NoLand, kx_NoLand_NoWish, _, rfl, a, _, _, c_NoLand, false, rfl, rfl, (S2 _ _ ha), ex_NoLand, kx_NoLand_NoWork, small_le rfl, fun r2 hr2 => ?_⟩
  have U2 := Same.upd (o := .lst (List.replicate 4 (V.bl false))) hr2
  refine ⟨p2, r2, List.replicate 8 (V.bl false), List.replicate 4 (V.bl false), rfl, rfl, U2 _ _ upd_same, upd_same, small_le rfl, fun p3 hp3 => ?_⟩
  have W2 := Same.upd (o := .lst (List.replicate 12 (V.bl false))) hp3
  have S3 := S2.trans (U2.trans W2)
  refine ⟨_, rfl, _, rfl, a, _, _, c_NoLand, false, rfl, rfl, (S3 _ _ ha), ex_NoLand, kx_NoLand_Outvoted, _, rfl, a, _, _, c_NoLand, false, rfl, rfl, (S3 _ _ ha), ex_NoLand, kx_NoLand_Short, _, rfl, a, _, _, c_NoLand, false, rfl, rfl, (S3 _ _ ha), ex_NoLand, kx_NoLand_TooMany, small_le rfl, fun r3 hr3 => ?_⟩
  have U3 := Same.upd (o := .lst (List.replicate 3 (V.bl false))) hr3
  refine ⟨p3, r3, List.replicate 12 (V.bl false), List.replicate 3 (V.bl false), rfl, rfl, U3 _ _ upd_same, upd_same, small_le rfl, fun p4 hp4 => ?_⟩
  have W3 := Same.upd (o := .lst (List.replicate 15 (V.bl false))) hp4
  have S4 := S3.trans (U3.trans W3)
  exact q p4 _ S4 (S3.free (U3.free hp4)) upd_same
theorem okV_is {H : Hp} {d : Dv} {x : V} (h : Is H d x) : okV x = true := by
  cases d with
  | non => cases (show x = .non from h); rfl
  | bl b => cases (show x = .bl b from h); rfl
  | int i => cases (show x = .int i from h); rfl
  | str z => cases (show x = .str z from h); rfl
  | lst ds => obtain ⟨a, vs, rfl, _⟩ := h; rfl
  | tup ds => obtain ⟨a, vs, rfl, _⟩ := h; rfl
  | dct ks ds => obtain ⟨a, vs, rfl, _⟩ := h; rfl
theorem okV_isL {H : Hp} : ∀ {ds : List Dv} {vs : List V}, IsL H ds vs → vs.all okV = true
  | [], _, e => by rw [show _ = [] from e]; rfl
  | d :: ds, _, ⟨v, r, e, h, t⟩ => by
    subst e
    rw [List.all_cons, okV_is h, okV_isL t]
    rfl
theorem isLst_of {d : Dv} (h : isLst d = true) : ∃ fs, d = .lst fs := by
  cases d with
  | lst fs => exact ⟨fs, rfl⟩
  | _ => cases h
theorem eqD_self {d : Dv} {x y : V} {H : Hp} {Q : VK} (hx : Is H d x) (hy : Is H d y) (f : flatTo 30 d = true) (q : Q (.bl true) H) : rEqD false x y H Q := ⟨d, d, hx, hy, f, f, by rw [deq_refl 30 d f]; exact q⟩

theorem ifJoin {c : Bool} {a b : TS} {D : Ends} {σ : St} {H : Hp} (R : St → Hp → Prop) (h : ∀ σ' H', R σ' H' → D.nx σ' H') (k : ∀ D' : Ends, (∀ σ' H', R σ' H' → D'.nx σ' H') → if c = true then a D' σ H else b D' σ H) : if c = true then a D σ H else b D σ H := k D h
theorem eq1_same {H H' : Hp} (S : Same H H') {x y : V} (h : EqV1 H x y) : EqV1 H' x y := by
  rcases h with h | ⟨p, q, vs, e1, e2, h1, h2, h3⟩
  · exact .inl h
  · exact .inr ⟨p, q, vs, e1, e2, S _ _ h1, S _ _ h2, h3⟩
theorem bools_is (H : Hp) : ∀ bs : List Bool, IsL H (bs.map Dv.bl) (bs.map V.bl)
  | [] => rfl
  | b :: bs => ⟨_, _, rfl, rfl, bools_is H bs⟩
def spRefused3 (C : Addr) : Sp := sp2 fun x y H Q => ∃ (d1 d2 : Dv), Is H d1 x ∧ Is H d2 y ∧ small d1 = true ∧ small d2 = true ∧ (areFields d1 = false ∨ ∃ fs, d1 = .lst fs ∧ areFields d1 = true ∧ areDykes ("sea" :: fs.map nmOf) d2 = false) ∧ ∀ H', Same H H' → Q (.bl true) H'
theorem ok_l_refused (T : Txt K mg C) : Fc P w K mg base 8 "_law_refused" ["_law_fields_here", "_law_dykes_here"] (spRefused3 C) := by
  obtain ⟨c_NoLand, c_DykeError, c_NoDecree, c_NoLevel, c_NoName, c_NoPurse, c_NoRing, c_NoRow, c_NoSluice, c_NoText, c_NoVoice, c_NoWay, c_NoWish, c_NoWork, c_Outvoted, c_Short, c_TooMany, ex_NoLand, hm_NoLand, hm_DykeError, hm_NoDecree, hm_NoLevel, hm_NoName, hm_NoPurse, hm_NoRing, hm_NoRow, hm_NoSluice, hm_NoText, hm_NoVoice, hm_NoWay, hm_NoWish, hm_NoWork, hm_Outvoted, hm_Short, hm_TooMany, kx_NoLand_DykeError, kx_NoLand_ValueError, kx_NoLand_NoDecree, kx_NoLand_NoLevel, kx_NoLand_NoName, kx_NoLand_NoPurse, kx_NoLand_NoRing, kx_NoLand_NoRow, kx_NoLand_NoSluice, kx_NoLand_NoText, kx_NoLand_NoVoice, kx_NoLand_NoWay, kx_NoLand_NoWish, kx_NoLand_NoWork, kx_NoLand_Outvoted, kx_NoLand_Short, kx_NoLand_TooMany⟩ := T.xs
  have G_land_pinit : IcX P w K mg base 6 C ["self", "fields", "dykes"] (spNoLand mg C) := ok_land_pinitX T
  have G_l_others : FcH P w K mg base 1 "_law_others" ["_law_e"] (spOthers mg) := ok_l_others T
  refine T.d_l_refused.fc sc_l_refused len2 (fun f cdv A outer s H vs Q E hr h => ?_)
  obtain ⟨x, y, rfl, d1, d2, h1, h2, s1, s2, bad, q⟩ := h
  have big := big1000
  refine ⟨_, (@pss_cons _ _ _ _ _ (@ps_set _ _ (2) _ _ _ _ sc_l_refused.nd rfl (Or.inl rfl) (@pe_lst _ _ _ _ pa_nil) (by rfl) (by first | exact .inl rfl | exact .inr rfl | assumption)) (@pss_cons _ _ _ _ _ (@ps_set _ _ (3) _ _ _ _ sc_l_refused.nd rfl (Or.inl rfl) (@pe_lst _ _ _ _ (@pa_cons _ _ _ _ _ (pv 0) (@pa_cons _ _ _ _ _ (pv 1) pa_nil (by rfl)) (by rfl))) (by rfl) (by first | exact .inl rfl | exact .inr rfl | assumption)) (@pss_cons _ _ _ _ _ (@ps_if _ _ _ _ _ _ _ _ (@pt_val _ _ _ (@pe_callB _ _ _ _ _ _ _ _ _ (@call_isinstB _ (K) rfl) rfl T.n_isinstance boot_isinstance (@pa_cons _ _ _ _ _ (pv 0) (@pa_cons _ _ _ _ _ (@pe_ty _ _ _ _ T.n_list boot_list' (by rfl) (by decide) (by decide)) pa_nil (by rfl)) (by rfl)) (by decide) (by decide) (by rfl) (by rfl)) (by intro _; rfl)) (@pss_one _ _ _ (@ps_lput _ _ _ _ _ _ _ _ _ (pv 3) pe_int (@pe_callTy _ _ _ _ _ _ _ _ _ (@call_list_ofB _ (K) rfl) rfl T.n_list boot_list' (@pa_cons _ _ _ _ _ (pv 0) pa_nil (by rfl)) (by decide) (by decide) (by rfl) (by rfl)) rfl)) pss_nil) (@pss_cons _ _ _ _ _ (@ps_if _ _ _ _ _ _ _ _ (@pt_val _ _ _ (@pe_callB _ _ _ _ _ _ _ _ _ (@call_isinstB _ (K) rfl) rfl T.n_isinstance boot_isinstance (@pa_cons _ _ _ _ _ (pv 1) (@pa_cons _ _ _ _ _ (@pe_ty _ _ _ _ T.n_list boot_list' (by rfl) (by decide) (by decide)) pa_nil (by rfl)) (by rfl)) (by decide) (by decide) (by rfl) (by rfl)) (by intro _; rfl)) (@pss_one _ _ _ (@ps_lput _ _ _ _ _ _ _ _ _ (pv 3) pe_int (@pe_callTy _ _ _ _ _ _ _ _ _ (@call_list_ofB _ (K) rfl) rfl T.n_list boot_list' (@pa_cons _ _ _ _ _ (pv 1) pa_nil (by rfl)) (by decide) (by decide) (by rfl) (by rfl)) rfl)) pss_nil) (@pss_cons _ _ _ _ _ (@ps_try1 _ _ _ _ _ _ _ _ _ _ _ _ (4) sc_l_refused.nd rfl rfl hm_NoLand (@pb_expr _ _ _ _ (@px_mk _ _ _ _ _ _ _ _ _ _ _ T.mg_Land G_land_pinit (hr.mono (by decide)) (@pa_cons _ _ _ _ _ (@pe_ix _ _ _ _ _ _ _ (@ix_listB _ (K) rfl) (pv 3) pe_int (fun _ _ => rfl)) (@pa_cons _ _ _ _ _ (@pe_ix _ _ _ _ _ _ _ (@ix_listB _ (K) rfl) (pv 3) pe_int (fun _ _ => rfl)) pa_nil (by rfl)) (by rfl)) (by rfl) (by decide) (by rfl) (by rfl)) (by rfl)) (fun ea => (@pss_one _ _ _ (@ps_set _ _ (2) _ _ _ _ sc_l_refused.nd rfl (Or.inl rfl) (@pe_op _ _ _ _ _ _ _ _ op_cat (@pe_lst _ _ _ _ (@pa_cons _ _ _ _ _ (@pe_callB _ _ _ _ _ _ _ _ _ (@call_isinstJ _ (K) rfl) rfl T.n_isinstance boot_isinstance (@pa_cons _ _ _ _ _ (pv 4) (@pa_cons _ _ _ _ _ (@pe_glob _ _ (.ref c_DykeError) _ _ rfl hm_DykeError rfl (by decide)) pa_nil (by rfl)) (by rfl)) (by decide) (by decide) (by rfl) (by rfl)) (@pa_cons _ _ _ _ _ (@pe_callB _ _ _ _ _ _ _ _ _ (@call_isinstJ _ (K) rfl) rfl T.n_isinstance boot_isinstance (@pa_cons _ _ _ _ _ (pv 4) (@pa_cons _ _ _ _ _ (@pe_ty _ _ _ _ T.n_ValueError PyProof.Rows.Boot.«ValueError» (by rfl) (by decide) (by decide)) pa_nil (by rfl)) (by rfl)) (by decide) (by decide) (by rfl) (by rfl)) pa_nil (by rfl)) (by rfl))) (@pe_cH _ _ _ _ _ _ _ _ _ _ G_l_others ((hr.mono (by decide)).held _) (@pa_cons _ _ _ _ _ (pv 4) pa_nil (by rfl)) (by rfl) (by decide) (by rfl) (by rfl))) (by rfl) (by first | exact .inl rfl | exact .inr rfl | assumption)))) (by rfl) (by decide) (by rfl) (by rfl)) (@pss_one _ _ _ (@ps_ret _ _ _ _ (@pe_and _ _ _ _ _ _ _ (@pe_cmpR _ _ _ _ _ _ _ _ (@op_eqD _ hr.units) (pv 2) (@pe_op _ _ _ _ _ _ _ _ op_cat (@pe_lst _ _ _ _ (@pa_cons _ _ _ _ _ pe_bl (@pa_cons _ _ _ _ _ pe_bl pa_nil (by rfl)) (by rfl))) (@pe_op _ _ _ _ _ _ _ _ op_rep (@pe_lst _ _ _ _ (@pa_cons _ _ _ _ _ pe_bl pa_nil (by rfl))) pe_int)) (@nomark _ _ (by decide) (by decide))) (@pe_one _ _ _ _ _ (@pe_cmpR _ _ _ _ _ _ _ _ (@op_eqS _ hr.units) (pv 3) (@pe_lst _ _ _ _ (@pa_cons _ _ _ _ _ (pv 0) (@pa_cons _ _ _ _ _ (pv 1) pa_nil (by rfl)) (by rfl))) (@nomark _ _ (by decide) (by decide)))))))))))), ?_⟩
  refine ⟨small_le rfl, fun pk hpk => ?_⟩
  have A1 := Same.upd (o := .lst []) hpk
  refine ⟨_, rfl, _, rfl, small_le rfl, fun ph hph => ?_⟩
  have A2 := Same.upd (o := .lst [x, y]) hph
  have A := A1.trans A2
  have nph : H ph = none := A1.free hph
  have hh : upd (upd H pk (.lst [])) ph (.lst [x, y]) ph = some (.lst [x, y]) := upd_same
  have hk : upd (upd H pk (.lst [])) ph (.lst [x, y]) pk = some (.lst []) := A2 _ _ upd_same
  generalize upd (upd H pk (.lst [])) ph (.lst [x, y]) = H2 at A hh hk
  obtain ⟨t, ty, _, _, _, e4, _⟩ := Is_kit K (Is.same A _ _ h1)
  obtain ⟨t', ty', _, _, _, e4', _⟩ := Is_kit K (Is.same A _ _ h2)
  refine ⟨_, rfl, _, _, _, t, _, rfl, rfl, ty, e4, _, rfl, ?_⟩
  have ox := okV_is h1
  have oy := okV_is h2
  have ext : ∀ {Hn G : Hp}, Same H Hn → (∀ b o, b ≠ ph → Hn b = some o → G b = some o) → Same H G := fun S k b o e => k b o (fun z => by rw [z, nph] at e; cases e) (S _ _ e)
  refine ifJoin (fun σ' Hn => σ' = [some x, some y, some (.ref pk), some (.ref ph), none] ∧ ∃ vx, Same H Hn ∧ Hn ph = some (.lst [vx, y]) ∧ ∀ G : Hp, (∀ b o, b ≠ ph → Hn b = some o → G b = some o) → Is G d1 vx ∧ EqV1 G vx x) (fun σ' Hn hR => ?_) (fun D' hD => ?_)
  rotate_left
  · cases el1 : isLst d1 with
    | true =>
      obtain ⟨fs1, rfl⟩ := isLst_of el1
      obtain ⟨a1, us1, rfl, o1, i1⟩ := id h1
      refine iteT ⟨_, rfl, a1, us1, rfl, .inl (SqL.of (A _ _ o1)), fun l1 hl1 => ⟨_, rfl, ph, [.ref a1, y], 0, rfl, rfl, Same.upd hl1 _ _ hh, by simp, ?_⟩⟩
      have nl1 : l1 ≠ ph := fun z => by rw [z, hh] at hl1; cases hl1
      have SH : Same H (upd (upd H2 l1 (.lst us1)) ph (.lst [.ref l1, y])) := (A.trans (Same.upd hl1)).over nph
      have hl3 : upd (upd H2 l1 (.lst us1)) ph (.lst [.ref l1, y]) l1 = some (.lst us1) := by rw [upd_ne nl1, upd_same]
      exact hD _ _ ⟨rfl, .ref l1, SH, upd_same, fun G k => ⟨⟨l1, us1, rfl, k _ _ nl1 hl3, IsL.same (ext SH k) _ _ i1⟩, .inr ⟨l1, a1, us1, rfl, rfl, k _ _ nl1 hl3, ext SH k _ _ o1, okV_isL i1⟩⟩⟩
    | false => exact iteF (hD _ _ ⟨rfl, x, A, hh, fun G k => ⟨Is.same (ext A k) _ _ h1, .inl ⟨rfl, ox⟩⟩⟩)
  obtain ⟨rfl, vx, S3, hh3, kx⟩ := hR
  obtain ⟨t3, ty3, _, _, _, e43, _⟩ := Is_kit K (Is.same S3 _ _ h2)
  refine ⟨_, rfl, _, _, _, t3, _, rfl, rfl, ty3, e43, _, rfl, ?_⟩
  refine ifJoin (fun σ' Hm => σ' = [some x, some y, some (.ref pk), some (.ref ph), none] ∧ ∃ vy, Same H Hm ∧ Hm ph = some (.lst [vx, vy]) ∧ Is Hm d1 vx ∧ EqV1 Hm vx x ∧ Is Hm d2 vy ∧ EqV1 Hm vy y) (fun σ' Hm hR => ?_) (fun D' hD => ?_)
  rotate_left
  · cases el2 : isLst d2 with
    | true =>
      obtain ⟨fs2, rfl⟩ := isLst_of el2
      obtain ⟨a2, us2, rfl, o2, i2⟩ := id h2
      refine iteT ⟨_, rfl, a2, us2, rfl, .inl (SqL.of (S3 _ _ o2)), fun l2 hl2 => ⟨_, rfl, ph, [vx, .ref a2], 1, rfl, rfl, Same.upd hl2 _ _ hh3, by simp, ?_⟩⟩
      have nl2 : l2 ≠ ph := fun z => by rw [z, hh3] at hl2; cases hl2
      have SH : Same H (upd (upd Hn l2 (.lst us2)) ph (.lst [vx, .ref l2])) := (S3.trans (Same.upd hl2)).over nph
      have hl3 : upd (upd Hn l2 (.lst us2)) ph (.lst [vx, .ref l2]) l2 = some (.lst us2) := by rw [upd_ne nl2, upd_same]
      obtain ⟨ix, ex⟩ := kx (upd (upd Hn l2 (.lst us2)) ph (.lst [vx, .ref l2])) (fun b o nb e => by rw [upd_ne nb]; exact Same.upd hl2 _ _ e)
      exact hD _ _ ⟨rfl, .ref l2, SH, upd_same, ix, ex, ⟨l2, us2, rfl, hl3, IsL.same SH _ _ i2⟩, .inr ⟨l2, a2, us2, rfl, rfl, hl3, SH _ _ o2, okV_isL i2⟩⟩
    | false =>
      obtain ⟨ix, ex⟩ := kx Hn (fun b o _ e => e)
      exact iteF (hD _ _ ⟨rfl, y, S3, hh3, ix, ex, Is.same S3 _ _ h2, .inl ⟨rfl, oy⟩⟩)
  obtain ⟨rfl, vy, S5, hh, ix, eqx5, iy, eqy5⟩ := hR
  refine ⟨_, rfl, ph, _, 0, vx, rfl, rfl, SqL.of hh, atI_nat (j := 0) rfl, _, rfl, ph, _, 1, vy, rfl, rfl, SqL.of hh, atI_nat (j := 1) rfl, fun p dx np ndx nex => ?_⟩
  have S4 : Same Hm (upd (upd Hm dx (.own p)) p (.ins C dx [])) := fun b o e => by
    rw [upd_ne (ne_of_none e np), upd_ne (ne_of_none e ndx)]
    exact e
  refine ⟨_, _, _, p, dx, d1, d2, c_NoLand, rfl, rfl, upd_same, Is.same S4 _ _ ix, Is.same S4 _ _ iy, s1, s2, hm_NoLand, bad, fun H5 S5' => ⟨ex_NoLand.em, fun ea hea => ?_⟩⟩
  have T5 := S4.trans S5'
  have S6 := Same.upd (o := excO ea (.ref c_NoLand)) hea
  have he : upd H5 ea (excO ea (.ref c_NoLand)) ea = some (excO ea (.ref c_NoLand)) := upd_same
  have T6 := T5.trans S6
  generalize upd H5 ea (excO ea (.ref c_NoLand)) = H6 at he T6
  refine ⟨_, rfl, ea, _, _, c_NoLand, true, rfl, rfl, he, ex_NoLand, kx_NoLand_DykeError, _, rfl, ea, _, _, c_NoLand, true, rfl, rfl, he, ex_NoLand, kx_NoLand_ValueError, small_le rfl, fun k1 hk1 => ?_⟩
  have S7 := Same.upd (o := .lst [V.bl true, V.bl true]) hk1
  refine ⟨_, rfl, _, rfl, ea, c_NoLand, rfl, hm_NoLand, S7 _ _ he, fun k2 H8 S8 fk2 hk2 => ?_⟩
  refine ⟨k1, k2, _, _, rfl, rfl, S8 _ _ upd_same, hk2, small_le rfl, fun k3 hk3 => ?_⟩
  have S9 := Same.upd (o := .lst ([V.bl true, V.bl true] ++ List.replicate 15 (V.bl false))) hk3
  have hk3' : upd H8 k3 (.lst ([V.bl true, V.bl true] ++ List.replicate 15 (V.bl false))) k3 = some (.lst ([V.bl true, V.bl true] ++ List.replicate 15 (V.bl false))) := upd_same
  have T9 := T6.trans (S7.trans (S8.trans S9))
  generalize upd H8 k3 (.lst ([V.bl true, V.bl true] ++ List.replicate 15 (V.bl false))) = H9 at hk3' T9
  refine ⟨_, rfl, small_le rfl, fun k4 hk4 => ?_⟩
  have R1 := Same.upd (o := .lst [V.bl true, V.bl true]) hk4
  refine ⟨small_le rfl, fun k5 hk5 => ?_⟩
  have R2 := Same.upd (o := .lst [V.bl false]) hk5
  refine ⟨k5, 15, _, rfl, rfl, upd_same, by decide, by decide, by decide, fun k6 hk6 => ?_⟩
  have R3 := Same.upd (o := .lst (List.replicate 15 [V.bl false]).flatten) hk6
  refine ⟨k4, k6, _, _, rfl, rfl, (R2.trans R3) _ _ upd_same, upd_same, small_le rfl, fun k7 hk7 => ?_⟩
  have R4 := Same.upd (o := .lst ([V.bl true, V.bl true] ++ (List.replicate 15 [V.bl false]).flatten)) hk7
  have R := R1.trans (R2.trans (R3.trans R4))
  have T10 := T9.trans R
  have bl : ∀ G : Hp, IsL G ((([true, true] ++ List.replicate 15 false) : List Bool).map Dv.bl) ([V.bl true, V.bl true] ++ List.replicate 15 (V.bl false)) := fun G => bools_is G _
  refine eqD_self (d := .lst ((([true, true] ++ List.replicate 15 false) : List Bool).map Dv.bl)) ⟨k3, _, rfl, R _ _ hk3', bl _⟩ ⟨k7, _, rfl, upd_same, bl _⟩ (by decide) ?_
  refine ⟨_, rfl, iteT ?_⟩
  refine ⟨_, rfl, _, rfl, _, rfl, small_le rfl, fun k8 hk8 => ?_⟩
  have R5 := Same.upd (o := .lst [x, y]) hk8
  have T11 := T10.trans R5
  exact ⟨ph, k8, _, _, rfl, rfl, T11 _ _ hh, upd_same, .cons (eq1_same T11 eqx5) (.cons (eq1_same T11 eqy5) .nil), q _ (S5.trans T11)⟩

theorem isl_at {H : Hp} {ds : List Dv} {vs : List V} (h : IsL H ds vs) {i : Int} (h0 : 0 ≤ i) (h1 : i < ds.length) : ∃ d v, d ∈ ds ∧ atI vs i = some v ∧ Is H d v := by
  obtain ⟨k, rfl⟩ := Int.eq_ofNat_of_zero_le h0
  have hk : k < ds.length := by omega
  obtain ⟨v, ev, iv⟩ := h.get (List.getElem?_eq_getElem hk)
  exact ⟨_, v, List.getElem_mem hk, atI_nat ev, iv⟩
def NewOf (H H' G : Hp) : Prop := ∀ b o, H b = none → H' b = some o → G b = some o
theorem isl_atG {φ : Hp → Prop} {ds : List Dv} {vs : List V} (hl : vs.length = ds.length) (h : ∀ G, φ G → IsL G ds vs) {i : Int} (h0 : 0 ≤ i) (h1 : i < ds.length) : ∃ d v, d ∈ ds ∧ atI vs i = some v ∧ ∀ G, φ G → Is G d v := by
  obtain ⟨k, rfl⟩ := Int.eq_ofNat_of_zero_le h0
  have hk : k < ds.length := by omega
  refine ⟨ds[k], vs[k]'(by omega), List.getElem_mem hk, atI_nat (List.getElem?_eq_getElem (by omega)), fun G hG => ?_⟩
  obtain ⟨v, ev, iv⟩ := (h G hG).get (List.getElem?_eq_getElem hk)
  rw [List.getElem?_eq_getElem (by omega)] at ev
  cases ev
  exact iv
theorem p20 : (0 : Int) < 10 ^ (20 : Int).toNat := by decide
def okN (lo : Int) : Dv → Bool
  | .int i => decide (lo ≤ i) && decide (i ≤ 1000000)
  | _ => false
theorem okN_low {c i : Int} (h : i < c) : okN c (.int i) = false := by
  show (decide (c ≤ i) && decide (i ≤ 1000000)) = false
  rw [decide_eq_false (by omega), Bool.false_and]
theorem okN_high {c i : Int} (h : 1000000 < i) : okN c (.int i) = false := by
  show (decide (c ≤ i) && decide (i ≤ 1000000)) = false
  rw [decide_eq_false (show ¬ i ≤ 1000000 by omega), Bool.and_false]
theorem okN_height (d : Dv) : isHeight d = okN (-1000000) d := by cases d <;> rfl
theorem okN_amount (d : Dv) : isAmount d = okN 0 d := by cases d <;> rfl
def spBadNum : Sp := sp2 fun x y H Q => ∃ n lo : Int, x = .int n ∧ y = .int lo ∧ ∀ (v : V) (d : Dv) (H' : Hp), Same H H' → (∀ G, NewOf H H' G → Is G d v) → okN lo d = false → small d = true → Q v H'
theorem ok_l_bad_number (T : Txt K mg C) : Fc P w K mg base 1 "_law_bad_number" ["_law_cell", "_law_least"] spBadNum := by
  refine T.d_l_bad_number.fc sc_l_bad_number len2 (fun f cdv A outer s H vs Q E hr h => ?_)
  obtain ⟨x, y, rfl, n, c, rfl, rfl, q⟩ := h
  refine ⟨_, (@pss_cons _ _ _ _ _ (@ps_set _ _ (2) _ _ _ _ sc_l_bad_number.nd rfl (Or.inl rfl) (@pe_op _ _ _ _ _ _ _ _ op_mod (@pe_op _ _ _ _ _ _ _ _ op_fdivB (pv 0) pe_int) (@pe_op _ _ _ _ _ _ _ _ op_pow pe_int pe_int)) (by rfl) (by first | exact .inl rfl | exact .inr rfl | assumption)) (@pss_one _ _ _ (@ps_ret _ _ _ _ (@pe_ix _ _ _ _ _ _ _ (@ix_listB _ (K) rfl) (@pe_lst _ _ _ _ (@pa_cons _ _ _ _ _ (@pe_op _ _ _ _ _ _ _ _ op_sub (pv 1) pe_int) (@pa_cons _ _ _ _ _ (@pe_op _ _ _ _ _ _ _ _ op_add (@pe_op _ _ _ _ _ _ _ _ op_pow pe_int pe_int) pe_int) (@pa_cons _ _ _ _ _ (@pe_op _ _ _ _ _ _ _ _ op_sub (@pe_op _ _ _ _ _ _ _ _ op_sub (pv 1) pe_int) (pv 2)) (@pa_cons _ _ _ _ _ (@pe_op _ _ _ _ _ _ _ _ op_add (@pe_op _ _ _ _ _ _ _ _ op_add (@pe_op _ _ _ _ _ _ _ _ op_pow pe_int pe_int) pe_int) (pv 2)) (@pa_cons _ _ _ _ _ pe_bl (@pa_cons _ _ _ _ _ pe_non (@pa_cons _ _ _ _ _ pe_str (@pa_cons _ _ _ _ _ (@pe_lst _ _ _ _ (@pa_cons _ _ _ _ _ pe_int pa_nil (by rfl))) (@pa_cons _ _ _ _ _ pe_bl pa_nil (by rfl)) (by rfl)) (by rfl)) (by rfl)) (by rfl)) (by rfl)) (by rfl)) (by rfl)) (by rfl))) (@pe_op _ _ _ _ _ _ _ _ op_mod (pv 0) pe_int) (fun _ _ => rfl))))), ?_⟩
  refine ⟨_, rfl, _, _, rfl, rfl, ⟨by decide, by decide⟩, _, _, rfl, rfl, ⟨by decide, by decide, by decide⟩, _, _, rfl, rfl, p20, ?_⟩
  have f0 : 0 ≤ n / 50 % 10 ^ (20 : Int).toNat := Int.emod_nonneg _ (by decide)
  dsimp only
  generalize n / 50 % 10 ^ (20 : Int).toNat = far at f0
  refine ⟨_, rfl, _, _, rfl, rfl, _, _, rfl, rfl, ⟨by decide, by decide, by decide⟩, _, _, rfl, rfl, _, rfl, _, _, rfl, rfl, _, rfl, _, _, rfl, rfl, _, _, rfl, rfl, ⟨by decide, by decide, by decide⟩, _, _, rfl, rfl, _, rfl, _, _, rfl, rfl, small_le rfl, fun p1 hp1 => ?_⟩
  have R1 := Same.upd (o := .lst [.int 7]) hp1
  refine ⟨small_le rfl, fun p3 hp3 => ?_⟩
  have p6' : (10 : Int) ^ (6 : Int).toNat = 1000000 := by decide
  have R3 := Same.upd (o := .lst [.int (c - 1), .int (10 ^ (6 : Int).toNat + 1), .int (c - 1 - far), .int (10 ^ (6 : Int).toNat + 1 + far), .bl true, .non, .str "7", .ref p1, .bl false]) hp3
  have il : ∀ G, NewOf H (upd (upd H p1 (.lst [.int 7])) p3 (.lst [.int (c - 1), .int (10 ^ (6 : Int).toNat + 1), .int (c - 1 - far), .int (10 ^ (6 : Int).toNat + 1 + far), .bl true, .non, .str "7", .ref p1, .bl false])) G → IsL G
      [.int (c - 1), .int (10 ^ (6 : Int).toNat + 1), .int (c - 1 - far), .int (10 ^ (6 : Int).toNat + 1 + far), .bl true, .non, .str "7", .lst [.int 7], .bl false] [.int (c - 1), .int (10 ^ (6 : Int).toNat + 1), .int (c - 1 - far), .int (10 ^ (6 : Int).toNat + 1 + far), .bl true, .non, .str "7", .ref p1, .bl false] := fun G g =>
    ⟨_, _, rfl, rfl, _, _, rfl, rfl, _, _, rfl, rfl, _, _, rfl, rfl, _, _, rfl, rfl, _, _, rfl, rfl, _, _, rfl, rfl, _, _, rfl, ⟨p1, _, rfl, g _ _ hp1 (R3 _ _ upd_same), _, _, rfl, rfl, rfl⟩, _, _, rfl, rfl, rfl⟩
  obtain ⟨d, v, md, ev, iv⟩ := isl_atG rfl il (i := n % 9) (Int.emod_nonneg _ (by decide)) (Int.emod_lt_of_pos _ (by decide))
  refine ⟨_, rfl, _, _, rfl, rfl, (posI rfl), p3, _, _, v, rfl, rfl, SqL.of upd_same, ev, ?_⟩
  have bad : okN c d = false ∧ small d = true := by
    rw [p6'] at md
    simp only [List.mem_cons, List.not_mem_nil, or_false] at md
    rcases md with rfl | rfl | rfl | rfl | rfl | rfl | rfl | rfl | rfl
    · exact ⟨okN_low (by omega), rfl⟩
    · exact ⟨okN_high (by omega), rfl⟩
    · exact ⟨okN_low (by omega), rfl⟩
    · exact ⟨okN_high (by omega), rfl⟩
    · exact ⟨rfl, rfl⟩
    · exact ⟨rfl, rfl⟩
    · exact ⟨rfl, by decide +kernel⟩
    · exact ⟨rfl, rfl⟩
    · exact ⟨rfl, rfl⟩
  exact q v d _ (R1.trans R3) iv bad.1 bad.2

def spBadNam : Sp := sp2 fun x y H Q => ∃ (n : Int) (p : Addr) (zs : List Str), x = .int n ∧ y = .ref p ∧ H p = some (.lst (zs.map V.str)) ∧ (∀ z ∈ zs, z.length ≤ 1000) ∧
  ∀ (v : V) (d : Dv) (H' : Hp), Same H H' → (∀ G, NewOf H H' G → Is G d v) → (isName d = false ∨ ∃ z ∈ zs, d = .str z) → small d = true → Q v H'
theorem cut_take3 (xs : List V) (k : Nat) : cutV xs none (some (k : Int)) = xs.take k := by
  unfold cutV
  rw [HT.sIx_nat, HT.sIx_none, List.drop_zero, Nat.sub_zero]
  by_cases h : k ≤ xs.length
  · rw [Nat.min_eq_left h]
  · rw [Nat.min_eq_right (by omega), List.take_of_length_le (Nat.le_refl _), List.take_of_length_le (by omega)]
theorem cut_take31 (xs : List V) : cutV xs none (some 1) = xs.take 1 := cut_take3 xs 1
theorem strs_is (H : Hp) : ∀ zs : List Str, IsL H (zs.map Dv.str) (zs.map V.str)
  | [] => rfl
  | z :: zs => ⟨_, _, rfl, rfl, strs_is H zs⟩
theorem ok_l_bad_name (T : Txt K mg C) : Fc P w K mg base 1 "_law_bad_name" ["_law_cell", "_law_names_here"] spBadNam := by
  refine T.d_l_bad_name.fc sc_l_bad_name len2 (fun f cdv A outer s H vs Q E hr h => ?_)
  obtain ⟨x, y, rfl, n, p, zs, rfl, rfl, hp, sm, q⟩ := h
  have big := big1000
  refine ⟨_, (@pss_cons _ _ _ _ _ (@ps_set _ _ (2) _ _ _ _ sc_l_bad_name.nd rfl (Or.inl rfl) (@pe_lst _ _ _ _ (@pa_cons _ _ _ _ _ pe_str (@pa_cons _ _ _ _ _ pe_str (@pa_cons _ _ _ _ _ pe_str (@pa_cons _ _ _ _ _ pe_str (@pa_cons _ _ _ _ _ pe_str (@pa_cons _ _ _ _ _ pe_str (@pa_cons _ _ _ _ _ pe_str (@pa_cons _ _ _ _ _ pe_int (@pa_cons _ _ _ _ _ pe_non (@pa_cons _ _ _ _ _ pe_bl (@pa_cons _ _ _ _ _ (@pe_lst _ _ _ _ (@pa_cons _ _ _ _ _ pe_str pa_nil (by rfl))) (@pa_cons _ _ _ _ _ (@pe_tup _ _ _ _ _ (@pa_cons _ _ _ _ _ pe_str pa_nil (by rfl))) pa_nil (by rfl)) (by rfl)) (by rfl)) (by rfl)) (by rfl)) (by rfl)) (by rfl)) (by rfl)) (by rfl)) (by rfl)) (by rfl)) (by rfl))) (by rfl) (by first | exact .inl rfl | exact .inr rfl | assumption)) (@pss_one _ _ _ (@ps_ret _ _ _ _ (@pe_ix _ _ _ _ _ _ _ (@ix_listB _ (K) rfl) (@pe_op _ _ _ _ _ _ _ _ op_cat (pv 2) (@pe_slice _ _ _ _ _ _ _ _ _ _ (@sl_listB _ (K) rfl) (pv 1) po_none (@po_some _ _ _ pe_int))) (@pe_op _ _ _ _ _ _ _ _ op_mod (pv 0) (@pe_op _ _ _ _ _ _ _ _ op_add pe_int (@pe_callB _ _ _ _ _ _ _ _ _ (@call_len_seqB _ (K) rfl) rfl T.n_len boot_len' (@pa_cons _ _ _ _ _ (@pe_slice _ _ _ _ _ _ _ _ _ _ (@sl_listB _ (K) rfl) (pv 1) po_none (@po_some _ _ _ pe_int)) pa_nil (by rfl)) (by decide) (by decide) (by rfl) (by rfl)))) (fun _ _ => rfl))))), ?_⟩
  refine ⟨small_le rfl, fun p1 hp1 => ?_⟩
  have R1 := Same.upd (o := .lst [.str "b"]) hp1
  refine ⟨small_le rfl, fun p2 hp2 => ?_⟩
  have R2 := Same.upd (o := .tup [.str "b"]) hp2
  refine ⟨small_le rfl, fun p3 hp3 => ?_⟩
  have R3 := Same.upd (o := .lst [.str "", .str "sea", .str "A", .str "b1", .str " b", .str "bbbbbbbbb", .str "b\n", .int 5, .non, .bl true, .ref p1, .ref p2]) hp3
  have R := R1.trans (R2.trans R3)
  have il : ∀ G, NewOf H (upd (upd (upd H p1 (.lst [.str "b"])) p2 (.tup [.str "b"])) p3 (.lst [.str "", .str "sea", .str "A", .str "b1", .str " b", .str "bbbbbbbbb", .str "b\n", .int 5, .non, .bl true, .ref p1, .ref p2])) G → IsL G
      [.str "", .str "sea", .str "A", .str "b1", .str " b", .str "bbbbbbbbb", .str "b\n", .int 5, .non, .bl true, .lst [.str "b"], .tup [.str "b"]] [.str "", .str "sea", .str "A", .str "b1", .str " b", .str "bbbbbbbbb", .str "b\n", .int 5, .non, .bl true, .ref p1, .ref p2] := fun G g =>
    ⟨_, _, rfl, rfl, _, _, rfl, rfl, _, _, rfl, rfl, _, _, rfl, rfl, _, _, rfl, rfl, _, _, rfl, rfl, _, _, rfl, rfl, _, _, rfl, rfl, _, _, rfl, rfl, _, _, rfl, rfl, _, _, rfl, ⟨p1, _, rfl, g _ _ hp1 ((R2.trans R3) _ _ upd_same), _, _, rfl, rfl, rfl⟩, _, _, rfl, ⟨p2, _, rfl, g _ _ (R1.free hp2) (R3 _ _ upd_same), _, _, rfl, rfl, rfl⟩, rfl⟩
  generalize hHp : upd (upd (upd H p1 (.lst [.str "b"])) p2 (.tup [.str "b"])) p3 (.lst [.str "", .str "sea", .str "A", .str "b1", .str " b", .str "bbbbbbbbb", .str "b\n", .int 5, .non, .bl true, .ref p1, .ref p2]) = H3 at R il
  have h3 : H3 p3 = some (.lst [.str "", .str "sea", .str "A", .str "b1", .str " b", .str "bbbbbbbbb", .str "b\n", .int 5, .non, .bl true, .ref p1, .ref p2]) := by rw [← hHp]; exact upd_same
  refine ⟨_, rfl, _, rfl, _, rfl, p, _, rfl, SqL.of (R _ _ hp), fun q1 hq1 => ?_⟩
  rw [cut_take31]
  have U1 := Same.upd (o := .lst ((zs.map V.str).take 1)) hq1
  refine ⟨p3, q1, _, _, rfl, rfl, U1 _ _ h3, upd_same, by show 12 + _ ≤ _; rw [List.length_take]; omega, fun q2 hq2 => ?_⟩
  have U2 := Same.upd (o := .lst ([V.str "", .str "sea", .str "A", .str "b1", .str " b", .str "bbbbbbbbb", .str "b\n", .int 5, .non, .bl true, .ref p1, .ref p2] ++ (zs.map V.str).take 1)) hq2
  have R5 := R.trans (U1.trans U2)
  refine ⟨_, rfl, _, rfl, _, rfl, p, _, rfl, SqL.of (R5 _ _ hp), fun q3 hq3 => ?_⟩
  rw [cut_take31]
  have U3 := Same.upd (o := .lst ((zs.map V.str).take 1)) hq3
  refine ⟨q3, _, rfl, .inl (SqL.of upd_same), _, _, rfl, rfl, _, _, rfl, rfl, by show (0 : Int) < 12 + _; omega, ?_⟩
  have R6 := R5.trans U3
  have il2 : ∀ G, NewOf H _ G → IsL G _ _ := fun G g => IsL.app (IsL.take 1 (strs_is G zs)) (il G (fun b o e1 e2 => g b o e1 ((U1.trans (U2.trans U3)) _ _ e2)))
  have lz : ((zs.map V.str).take 1).length = ((zs.map Dv.str).take 1).length := by rw [List.length_take, List.length_take, List.length_map, List.length_map]
  obtain ⟨d, v, md, ev, iv⟩ := isl_atG (by rw [List.length_append, List.length_append, lz]; rfl) il2 (i := n % (12 + (((zs.map V.str).take 1).length : Int))) (Int.emod_nonneg _ (by omega)) (by rw [List.length_append, ← lz]; show _ < (((12 + _ : Nat)) : Int); have := Int.emod_lt_of_pos n (show (0 : Int) < 12 + (((zs.map V.str).take 1).length : Int) by omega); omega)
  refine ⟨q2, _, _, v, rfl, rfl, SqL.of (U3 _ _ upd_same), ev, ?_⟩
  have bad : (isName d = false ∨ ∃ z ∈ zs, d = .str z) ∧ small d = true := by
    rcases List.mem_append.mp md with md | md
    · simp only [List.mem_cons, List.not_mem_nil, or_false] at md
      rcases md with rfl | rfl | rfl | rfl | rfl | rfl | rfl | rfl | rfl | rfl | rfl | rfl
      · exact ⟨.inl (by decide +kernel), by decide +kernel⟩
      · exact ⟨.inl (by decide +kernel), by decide +kernel⟩
      · exact ⟨.inl (by decide +kernel), by decide +kernel⟩
      · exact ⟨.inl (by decide +kernel), by decide +kernel⟩
      · exact ⟨.inl (by decide +kernel), by decide +kernel⟩
      · exact ⟨.inl (by decide +kernel), by decide +kernel⟩
      · exact ⟨.inl (by decide +kernel), by decide +kernel⟩
      · exact ⟨.inl rfl, rfl⟩
      · exact ⟨.inl rfl, rfl⟩
      · exact ⟨.inl rfl, rfl⟩
      · exact ⟨.inl rfl, by decide +kernel⟩
      · exact ⟨.inl rfl, by decide +kernel⟩
    · obtain ⟨z, mz, rfl⟩ := List.mem_map.mp (List.mem_of_mem_take md)
      exact ⟨.inr ⟨z, mz, rfl⟩, decide_eq_true (sm z mz)⟩
  exact q v d _ R6 iv bad.1 bad.2

def oddS : List Str := ["s", "ss", "", "Sea"]
def spBadSide : Sp := sp3 fun x y u H Q => ∃ (t : Addr) (n a b : Str) (c r : Int) (sv : V) (w cell : Int), x = .ref t ∧ H t = some (.tup [.str n, .str a, .str b, .int c, .int r, sv]) ∧ y = .int w ∧ (w = 1 ∨ w = 2) ∧ u = .int cell ∧ a.length ≤ 1000 ∧ b.length ≤ 1000 ∧
  ∀ (v : V) (d : Dv) (H' : Hp), Same H H' → (∀ G, NewOf H H' G → Is G d v) → small d = true → (d = .str (if w = 1 then b else a) ∨ (∃ z ∈ oddS, d = .str z) ∨ isStr d = false) → Q v H'
theorem ok_l_bad_side (T : Txt K mg C) : Fc P w K mg base 1 "_law_bad_side" ["_law_bank", "_law_way", "_law_cell"] spBadSide := by
  refine T.d_l_bad_side.fc sc_l_bad_side len3 (fun f cdv A outer s H vs Q E hr h => ?_)
  obtain ⟨x, y, u, rfl, t, n, a, b, c, r, sv, w, cell, rfl, ht, rfl, hw, rfl, la, lb, q⟩ := h
  have big := big1000
  refine ⟨_, (@pss_cons _ _ _ _ _ (@ps_set _ _ (3) _ _ _ _ sc_l_bad_side.nd rfl (Or.inl rfl) (@pe_ix _ _ _ _ _ _ _ (@ix_tupB _ (K) rfl) (pv 0) (@pe_op _ _ _ _ _ _ _ _ op_sub pe_int (pv 1)) (fun _ _ => rfl)) (by rfl) (by first | exact .inl rfl | exact .inr rfl | assumption)) (@pss_one _ _ _ (@ps_ret _ _ _ _ (@pe_ix _ _ _ _ _ _ _ (@ix_listB _ (K) rfl) (@pe_lst _ _ _ _ (@pa_cons _ _ _ _ _ (pv 3) (@pa_cons _ _ _ _ _ pe_str (@pa_cons _ _ _ _ _ pe_str (@pa_cons _ _ _ _ _ pe_str (@pa_cons _ _ _ _ _ pe_str (@pa_cons _ _ _ _ _ pe_non (@pa_cons _ _ _ _ _ pe_int (@pa_cons _ _ _ _ _ pe_bl (@pa_cons _ _ _ _ _ (@pe_lst _ _ _ _ (@pa_cons _ _ _ _ _ (pv 3) pa_nil (by rfl))) (@pa_cons _ _ _ _ _ (@pe_tup _ _ _ _ _ (@pa_cons _ _ _ _ _ (pv 3) pa_nil (by rfl))) pa_nil (by rfl)) (by rfl)) (by rfl)) (by rfl)) (by rfl)) (by rfl)) (by rfl)) (by rfl)) (by rfl)) (by rfl))) (@pe_op _ _ _ _ _ _ _ _ op_mod (pv 2) pe_int) (fun _ _ => rfl))))), ?_⟩
  obtain ⟨o, eo, lo, ho⟩ : ∃ o : Str, (if w = 1 then b else a) = o ∧ o.length ≤ 1000 ∧ atI [V.str n, .str a, .str b, .int c, .int r, sv] (3 - w) = some (.str o) := by
    rcases hw with rfl | rfl
    · exact ⟨b, rfl, lb, atI_nat (j := 2) rfl⟩
    · exact ⟨a, rfl, la, atI_nat (j := 1) rfl⟩
  rw [eo] at q
  refine ⟨_, rfl, _, rfl, _, _, rfl, rfl, t, _, _, _, rfl, rfl, SqT.of ht, ho, ?_⟩
  refine ⟨_, rfl, _, rfl, small_le rfl, fun p1 hp1 => ?_⟩
  have R1 := Same.upd (o := .lst [.str o]) hp1
  refine ⟨_, rfl, small_le rfl, fun p2 hp2 => ?_⟩
  have R2 := Same.upd (o := .tup [.str o]) hp2
  refine ⟨small_le rfl, fun p3 hp3 => ?_⟩
  have R3 := Same.upd (o := .lst [.str o, .str "s", .str "ss", .str "", .str "Sea", .non, .int 5, .bl true, .ref p1, .ref p2]) hp3
  have il : ∀ G, NewOf H (upd (upd (upd H p1 (.lst [.str o])) p2 (.tup [.str o])) p3 (.lst [.str o, .str "s", .str "ss", .str "", .str "Sea", .non, .int 5, .bl true, .ref p1, .ref p2])) G → IsL G
      [.str o, .str "s", .str "ss", .str "", .str "Sea", .non, .int 5, .bl true, .lst [.str o], .tup [.str o]] [.str o, .str "s", .str "ss", .str "", .str "Sea", .non, .int 5, .bl true, .ref p1, .ref p2] := fun G g =>
    ⟨_, _, rfl, rfl, _, _, rfl, rfl, _, _, rfl, rfl, _, _, rfl, rfl, _, _, rfl, rfl, _, _, rfl, rfl, _, _, rfl, rfl, _, _, rfl, rfl, _, _, rfl, ⟨p1, _, rfl, g _ _ hp1 ((R2.trans R3) _ _ upd_same), _, _, rfl, rfl, rfl⟩, _, _, rfl, ⟨p2, _, rfl, g _ _ (R1.free hp2) (R3 _ _ upd_same), _, _, rfl, rfl, rfl⟩, rfl⟩
  obtain ⟨d, v, md, ev, iv⟩ := isl_atG rfl il (i := cell % 10) (Int.emod_nonneg _ (by decide)) (Int.emod_lt_of_pos _ (by decide))
  refine ⟨_, rfl, _, _, rfl, rfl, (posI rfl), p3, _, _, v, rfl, rfl, SqL.of upd_same, ev, ?_⟩
  have so : small (.str o) = true := decide_eq_true lo
  have bad : small d = true ∧ (d = .str o ∨ (∃ z ∈ oddS, d = .str z) ∨ isStr d = false) := by
    simp only [List.mem_cons, List.not_mem_nil, or_false] at md
    rcases md with rfl | rfl | rfl | rfl | rfl | rfl | rfl | rfl | rfl | rfl
    · exact ⟨so, .inl rfl⟩
    · exact ⟨by decide +kernel, .inr (.inl ⟨"s", by simp [oddS], rfl⟩)⟩
    · exact ⟨by decide +kernel, .inr (.inl ⟨"ss", by simp [oddS], rfl⟩)⟩
    · exact ⟨by decide +kernel, .inr (.inl ⟨"", by simp [oddS], rfl⟩)⟩
    · exact ⟨by decide +kernel, .inr (.inl ⟨"Sea", by simp [oddS], rfl⟩)⟩
    · exact ⟨rfl, .inr (.inr rfl)⟩
    · exact ⟨rfl, .inr (.inr rfl)⟩
    · exact ⟨rfl, .inr (.inr rfl)⟩
    · exact ⟨lst_small (fun d m => by rw [List.mem_singleton.mp m]; exact so) (show 1 ≤ 1000 by decide), .inr (.inr rfl)⟩
    · refine ⟨?_, .inr (.inr rfl)⟩
      show (decide (1 ≤ 1000) && (small (.str o) && true)) = true
      rw [so]
      rfl
  exact q v d _ (R1.trans (R2.trans R3)) iv bad.1 bad.2
def spBadSill : Sp := sp2 fun x y H Q => ∃ (t : Addr) (n a b : Str) (c r : Int) (sv : V) (cell : Int), x = .ref t ∧ H t = some (.tup [.str n, .str a, .str b, .int c, .int r, sv]) ∧ y = .int cell ∧
  ∀ (v : V) (d : Dv) (H' : Hp), Same H H' → (∀ G, NewOf H H' G → Is G d v) → small d = true → isSill (.int c) d = false → Q v H'
theorem sill_bad {c i : Int} (h : c ≤ i) : isSill (.int c) (.int i) = false := by
  show (hgt i && decide (i < c)) = false
  rw [decide_eq_false (by omega), Bool.and_false]
theorem ok_l_bad_sill (T : Txt K mg C) : Fc P w K mg base 1 "_law_bad_sill" ["_law_bank", "_law_cell"] spBadSill := by
  refine T.d_l_bad_sill.fc sc_l_bad_sill len2 (fun f cdv A outer s H vs Q E hr h => ?_)
  obtain ⟨x, y, rfl, t, n, a, b, c, r, sv, cell, rfl, ht, rfl, q⟩ := h
  have big := big1000
  refine ⟨_, (@pss_one _ _ _ (@ps_ret _ _ _ _ (@pe_ix _ _ _ _ _ _ _ (@ix_listB _ (K) rfl) (@pe_lst _ _ _ _ (@pa_cons _ _ _ _ _ (@pe_ix _ _ _ _ _ _ _ (@ix_tupB _ (K) rfl) (pv 0) pe_int (fun _ _ => rfl)) (@pa_cons _ _ _ _ _ (@pe_op _ _ _ _ _ _ _ _ op_add (@pe_ix _ _ _ _ _ _ _ (@ix_tupB _ (K) rfl) (pv 0) pe_int (fun _ _ => rfl)) pe_int) (@pa_cons _ _ _ _ _ (@pe_op _ _ _ _ _ _ _ _ op_sub (@pe_op _ _ _ _ _ _ _ _ op_sub pe_int (@pe_op _ _ _ _ _ _ _ _ op_pow pe_int pe_int)) pe_int) (@pa_cons _ _ _ _ _ pe_bl (@pa_cons _ _ _ _ _ pe_str (@pa_cons _ _ _ _ _ (@pe_lst _ _ _ _ (@pa_cons _ _ _ _ _ (@pe_ix _ _ _ _ _ _ _ (@ix_tupB _ (K) rfl) (pv 0) pe_int (fun _ _ => rfl)) pa_nil (by rfl))) (@pa_cons _ _ _ _ _ (@pe_op _ _ _ _ _ _ _ _ op_add (@pe_op _ _ _ _ _ _ _ _ op_add (@pe_ix _ _ _ _ _ _ _ (@ix_tupB _ (K) rfl) (pv 0) pe_int (fun _ _ => rfl)) pe_int) (@pe_op _ _ _ _ _ _ _ _ op_mod (@pe_op _ _ _ _ _ _ _ _ op_fdivB (pv 1) pe_int) (@pe_op _ _ _ _ _ _ _ _ op_pow pe_int pe_int))) pa_nil (by rfl)) (by rfl)) (by rfl)) (by rfl)) (by rfl)) (by rfl)) (by rfl))) (@pe_op _ _ _ _ _ _ _ _ op_mod (pv 1) pe_int) (fun _ _ => rfl)))), ?_⟩
  have h3 : atI [V.str n, .str a, .str b, .int c, .int r, sv] 3 = some (.int c) := atI_nat (j := 3) rfl
  refine ⟨_, rfl, t, _, _, _, rfl, rfl, SqT.of ht, h3, _, rfl, t, _, _, _, rfl, rfl, SqT.of ht, h3, _, _, rfl, rfl, _, _, rfl, rfl, ⟨by decide, by decide, by decide⟩, _, _, rfl, rfl, _, _, rfl, rfl, _, rfl, t, _, _, _, rfl, rfl, SqT.of ht, h3, small_le rfl, fun p1 hp1 => ?_⟩
  have R1 := Same.upd (o := .lst [.int c]) hp1
  refine ⟨_, rfl, t, _, _, _, rfl, rfl, SqT.of (R1 _ _ ht), h3, _, _, rfl, rfl, ?_⟩
  refine ⟨_, rfl, _, _, rfl, rfl, ⟨by decide, by decide⟩, _, _, rfl, rfl, ⟨by decide, by decide, by decide⟩, _, _, rfl, rfl, p20, ?_⟩
  have f0 : 0 ≤ cell / 9 % 10 ^ (20 : Int).toNat := Int.emod_nonneg _ (by decide)
  dsimp only
  generalize cell / 9 % 10 ^ (20 : Int).toNat = far at f0
  refine ⟨_, _, rfl, rfl, small_le rfl, fun p3 hp3 => ?_⟩
  have p6' : (10 : Int) ^ (6 : Int).toNat = 1000000 := by decide
  have R3 := Same.upd (o := .lst [.int c, .int (c + 1), .int (0 - 10 ^ (6 : Int).toNat - 1), .bl false, .str "7", .ref p1, .int (c + 1 + far)]) hp3
  have il : ∀ G, NewOf H (upd (upd H p1 (.lst [.int c])) p3 (.lst [.int c, .int (c + 1), .int (0 - 10 ^ (6 : Int).toNat - 1), .bl false, .str "7", .ref p1, .int (c + 1 + far)])) G → IsL G
      [.int c, .int (c + 1), .int (0 - 10 ^ (6 : Int).toNat - 1), .bl false, .str "7", .lst [.int c], .int (c + 1 + far)] [.int c, .int (c + 1), .int (0 - 10 ^ (6 : Int).toNat - 1), .bl false, .str "7", .ref p1, .int (c + 1 + far)] := fun G g =>
    ⟨_, _, rfl, rfl, _, _, rfl, rfl, _, _, rfl, rfl, _, _, rfl, rfl, _, _, rfl, rfl, _, _, rfl, ⟨p1, _, rfl, g _ _ hp1 (R3 _ _ upd_same), _, _, rfl, rfl, rfl⟩, _, _, rfl, rfl, rfl⟩
  obtain ⟨d, v, md, ev, iv⟩ := isl_atG rfl il (i := cell % 7) (Int.emod_nonneg _ (by decide)) (Int.emod_lt_of_pos _ (by decide))
  refine ⟨_, rfl, _, _, rfl, rfl, (posI rfl), p3, _, _, v, rfl, rfl, SqL.of upd_same, ev, ?_⟩
  have bad : small d = true ∧ isSill (.int c) d = false := by
    rw [p6'] at md
    simp only [List.mem_cons, List.not_mem_nil, or_false] at md
    rcases md with rfl | rfl | rfl | rfl | rfl | rfl | rfl
    · exact ⟨rfl, sill_bad (by omega)⟩
    · exact ⟨rfl, sill_bad (by omega)⟩
    · exact ⟨rfl, rfl⟩
    · exact ⟨rfl, rfl⟩
    · exact ⟨by decide +kernel, rfl⟩
    · exact ⟨rfl, rfl⟩
    · exact ⟨rfl, sill_bad (by omega)⟩
  exact q v d _ (R1.trans R3) iv bad.1 bad.2

def del (X : Addr) (H : Hp) : Hp := fun b => if b = X then none else H b
theorem del_same (X : Addr) (H : Hp) : Same (del X H) H := fun b o e => by
  unfold del at e
  by_cases h : b = X
  · rw [if_pos h] at e; cases e
  · rw [if_neg h] at e; exact e
theorem del_of {X : Addr} {H : Hp} {b : Addr} {o : HO} (n : b ≠ X) (e : H b = some o) : del X H b = some o := by
  unfold del
  rw [if_neg n]
  exact e
theorem dsame {X : Addr} {H H' : Hp} (S : Same H H') : Same (del X H) (del X H') := fun b o e => by
  unfold del at e ⊢
  by_cases h : b = X
  · rw [if_pos h] at e; cases e
  · rw [if_neg h] at e ⊢; exact S _ _ e
theorem ndel {X : Addr} {H Hz : Hp} {b : Addr} {o : HO} (hX : ∃ o, H X = some o) (n : H b = none) (e : Hz b = some o) : del X Hz b = some o := by
  obtain ⟨o', h⟩ := hX
  exact del_of (fun z => by rw [z, h] at n; cases n) e
theorem bad_one {p : Dv → Bool} {xs ys : List Dv} {e : Dv} (h : p e = false ∨ ∃ d ∈ xs ++ ys, firstS d = firstS e) : ((xs ++ [e] ++ ys).all p && decide (((xs ++ [e] ++ ys).map firstS).Nodup)) = false := by
  rcases h with h | ⟨d, md, ed⟩
  · have : (xs ++ [e] ++ ys).all p = false := by
      rw [List.all_append, List.all_append]
      show (xs.all p && (p e && true) && _) = false
      rw [h, Bool.false_and, Bool.and_false, Bool.false_and]
    rw [this, Bool.false_and]
  · have : ¬ ((xs ++ [e] ++ ys).map firstS).Nodup := by
      intro nd
      have hp : (xs ++ [e] ++ ys).Perm (e :: (xs ++ ys)) := by
        rw [List.append_assoc]
        exact List.perm_middle
      have nd2 := (hp.map firstS).nodup_iff.mp nd
      rw [List.map_cons, List.nodup_cons] at nd2
      exact nd2.1 (List.mem_map.mpr ⟨d, md, ed⟩)
    rw [decide_eq_false this, Bool.and_false]
theorem other_at {ds : List Dv} {k : Nat} {d0 d : Dv} (e0 : ds[k]? = some d0) (m : d ∈ ds) (ne : d ≠ d0) : d ∈ ds.take k ++ ds.drop (k + 1) := by
  obtain ⟨hk, rfl⟩ := List.getElem?_eq_some_iff.mp e0
  have e : ds = ds.take k ++ (ds[k] :: ds.drop (k + 1)) := by rw [← List.drop_eq_getElem_cons hk, List.take_append_drop]
  rw [e] at m
  rcases List.mem_append.mp m with m | m
  · exact List.mem_append_left _ m
  · rcases List.mem_cons.mp m with m | m
    · exact absurd m ne
    · exact List.mem_append_right _ m
theorem cut_drop3 (xs : List V) (k : Nat) : cutV xs (some (k : Int)) none = xs.drop k := by
  unfold cutV
  rw [HT.sIx_nat, HT.sIx_none]
  by_cases h : k ≤ xs.length
  · rw [Nat.min_eq_left h, List.take_of_length_le (by rw [List.length_drop]; omega)]
  · rw [Nat.min_eq_right (by omega), List.drop_eq_nil_of_le (Nat.le_refl _), List.drop_eq_nil_of_le (by omega)]
    simp
theorem cut_take32 (xs : List V) : cutV xs none (some 2) = xs.take 2 := cut_take3 xs 2
theorem cut_take35 (xs : List V) : cutV xs none (some 5) = xs.take 5 := cut_take3 xs 5
theorem cut_drop31 (xs : List V) (k : Nat) : cutV xs (some ((k : Int) + 1)) none = xs.drop (k + 1) := cut_drop3 xs (k + 1)
def spBadFd : Sp := sp2 fun x y H Q => ∃ (X l : Addr) (us : List V) (fs : List Dv) (n : Int), (∃ o, H X = some o) ∧ x = .ref l ∧ H l = some (.lst us) ∧ IsL (del X H) fs us ∧ GoodF fs ∧ y = .int n ∧
  ∀ (p : Addr) (vs : List V) (es : List Dv) (H' : Hp), Same H H' → H p = none → H' p = some (.lst vs) → IsL (del X H') es vs → small (.lst es) = true → areFields (.lst es) = false → Q (.ref p) H'
theorem ok_l_bad_field (T : Txt K mg C) : Fc P w K mg base 2 "_law_bad_field" ["_law_fields_here", "_law_cell"] spBadFd := by
  have G_l_bad_name : Fc P w K mg base 1 "_law_bad_name" ["_law_cell", "_law_names_here"] spBadNam := ok_l_bad_name T
  have G_l_bad_number : Fc P w K mg base 1 "_law_bad_number" ["_law_cell", "_law_least"] spBadNum := ok_l_bad_number T
  refine T.d_l_bad_field.fc sc_l_bad_field len2 (fun f cdv A outer s H vs Q E hr h => ?_)
  obtain ⟨x, y, rfl, X, l, us, fs, n, hX, rfl, hl, il0, gf, rfl, q⟩ := h
  have il := IsL.same (del_same X H) _ _ il0
  have big := big1000
  have lus := il.length
  have l1 := gf.l1
  have l2 := gf.l2
  have pl : (0 : Int) < ((us.length : Nat) : Int) := by omega
  refine ⟨_, (@pss_cons _ _ _ _ _ (@ps_set _ _ (2) _ _ _ _ sc_l_bad_field.nd rfl (Or.inl rfl) (@pe_op _ _ _ _ _ _ _ _ op_mod (pv 1) (@pe_callB _ _ _ _ _ _ _ _ _ (@call_len_seqB _ (K) rfl) rfl T.n_len boot_len' (@pa_cons _ _ _ _ _ (pv 0) pa_nil (by rfl)) (by decide) (by decide) (by rfl) (by rfl))) (by rfl) (by first | exact .inl rfl | exact .inr rfl | assumption)) (@pss_cons _ _ _ _ _ (@ps_set _ _ (1) _ _ _ _ sc_l_bad_field.nd rfl (Or.inl rfl) (@pe_op _ _ _ _ _ _ _ _ op_fdivB (pv 1) pe_int) (by rfl) (by first | exact .inl rfl | exact .inr rfl | assumption)) (@pss_cons _ _ _ _ _ (@ps_set _ _ (3) _ _ _ _ sc_l_bad_field.nd rfl (Or.inr rfl) (@pe_ix _ _ _ _ _ _ _ (@ix_listB _ (K) rfl) (pv 0) (pv 2) (fun _ _ => rfl)) (by rfl) (by first | exact .inl rfl | exact .inr rfl | assumption)) (@pss_cons _ _ _ _ _ (@ps_setComp _ (4) _ _ _ _ _ _ _ _ _ _ _ _ _ sc_l_bad_field.nd rfl ["_law_one", "_law_field"] 1 [3] rfl (@pi_list _ _ _ _ (pv 0)) (fun R => @pg_name _ _ (0) _ (show List.Nodup (["_law_one", "_law_field"] : List Str) by decide +kernel) rfl (Or.inl rfl) (by first | exact .inl rfl | exact .inr rfl | assumption)) (@gkeep_name _ _ (by decide)) (fun R => @pifs_one _ _ _ (@pt_cmpR _ _ _ _ _ _ _ _ op_ne (@pe_ix _ _ _ _ _ _ _ (@ix_tupB _ (K) rfl) (pv 0) pe_int (fun _ _ => rfl)) (@pe_ix _ _ _ _ _ _ _ (@ix_tupB _ (K) rfl) (pv 1) pe_int (fun _ _ => rfl)) (@nomark _ _ (by decide) (by decide)))) (fun R => (@pe_ix _ _ _ _ _ _ _ (@ix_tupB _ (K) rfl) (pv 0) pe_int (fun _ _ => rfl))) (by exact Or.inl rfl) (by first | exact .inl rfl | exact .inr rfl | assumption) (by rfl) (by rfl) (by rfl) (by rfl) (by rfl) (by rfl) (by rfl) (by rfl) (by intro _; rfl)) (@pss_cons _ _ _ _ _ (@ps_set _ _ (5) _ _ _ _ sc_l_bad_field.nd rfl (Or.inl rfl) (@pe_callTy _ _ _ _ _ _ _ _ _ (@call_list_ofB _ (K) rfl) rfl T.n_list boot_list' (@pa_cons _ _ _ _ _ (pv 3) pa_nil (by rfl)) (by decide) (by decide) (by rfl) (by rfl)) (by rfl) (by first | exact .inl rfl | exact .inr rfl | assumption)) (@pss_cons _ _ _ _ _ (@ps_set _ _ (6) _ _ _ _ sc_l_bad_field.nd rfl (Or.inl rfl) (@pe_op _ _ _ _ _ _ _ _ op_mod (pv 1) pe_int) (by rfl) (by first | exact .inl rfl | exact .inr rfl | assumption)) (@pss_cons _ _ _ _ _ (@ps_if _ _ _ _ _ _ _ _ (@pt_cmpR _ _ _ _ _ _ _ _ op_eq (pv 6) pe_int (@nomark _ _ (by decide) (by decide))) (@pss_one _ _ _ (@ps_ret _ _ _ _ (@pe_op _ _ _ _ _ _ _ _ op_cat (@pe_op _ _ _ _ _ _ _ _ op_cat (@pe_slice _ _ _ _ _ _ _ _ _ _ (@sl_listB _ (K) rfl) (pv 0) po_none (@po_some _ _ _ (pv 2))) (@pe_lst _ _ _ _ (@pa_cons _ _ _ _ _ (@pe_ix _ _ _ _ _ _ _ (@ix_listB _ (K) rfl) (@pe_lst _ _ _ _ (@pa_cons _ _ _ _ _ (@pe_callTy _ _ _ _ _ _ _ _ _ (@call_list_ofB _ (K) rfl) rfl T.n_list boot_list' (@pa_cons _ _ _ _ _ (pv 3) pa_nil (by rfl)) (by decide) (by decide) (by rfl) (by rfl)) (@pa_cons _ _ _ _ _ (@pe_slice _ _ _ _ _ _ _ _ _ _ (@sl_tupB _ (K) rfl) (pv 3) po_none (@po_some _ _ _ pe_int)) (@pa_cons _ _ _ _ _ (@pe_op _ _ _ _ _ _ _ _ (@op_catTB _ (K) rfl) (pv 3) (@pe_tup _ _ _ _ _ (@pa_cons _ _ _ _ _ pe_int pa_nil (by rfl)))) (@pa_cons _ _ _ _ _ (@pe_ix _ _ _ _ _ _ _ (@ix_tupB _ (K) rfl) (pv 3) pe_int (fun _ _ => rfl)) pa_nil (by rfl)) (by rfl)) (by rfl)) (by rfl))) (@pe_op _ _ _ _ _ _ _ _ op_mod (@pe_op _ _ _ _ _ _ _ _ op_fdivB (pv 1) pe_int) pe_int) (fun _ _ => rfl)) pa_nil (by rfl)))) (@pe_slice _ _ _ _ _ _ _ _ _ _ (@sl_listB _ (K) rfl) (pv 0) (@po_some _ _ _ (@pe_op _ _ _ _ _ _ _ _ op_add (pv 2) pe_int)) po_none)))) pss_nil) (@pss_cons _ _ _ _ _ (@ps_if _ _ _ _ _ _ _ _ (@pt_cmpR _ _ _ _ _ _ _ _ op_lt (pv 6) pe_int (@nomark _ _ (by decide) (by decide))) (@pss_one _ _ _ (@ps_lput _ _ _ _ _ _ _ _ _ (pv 5) pe_int (@pe_c _ _ _ _ _ _ _ _ _ _ G_l_bad_name (hr.mono (by decide)) (@pa_cons _ _ _ _ _ (@pe_op _ _ _ _ _ _ _ _ op_fdivB (pv 1) pe_int) (@pa_cons _ _ _ _ _ (@pe_slice _ _ _ _ _ _ _ _ _ _ (@sl_listB _ (K) rfl) (pv 4) (@po_some _ _ _ (@pe_op _ _ _ _ _ _ _ _ op_mod (@pe_op _ _ _ _ _ _ _ _ op_mod (@pe_op _ _ _ _ _ _ _ _ op_fdivB (pv 1) pe_int) pe_int) (@pe_callB _ _ _ _ _ _ _ _ _ (@call_max2 _ rfl) rfl T.n_max boot_max' (@pa_cons _ _ _ _ _ pe_int (@pa_cons _ _ _ _ _ (@pe_callB _ _ _ _ _ _ _ _ _ (@call_len_seqB _ (K) rfl) rfl T.n_len boot_len' (@pa_cons _ _ _ _ _ (pv 4) pa_nil (by rfl)) (by decide) (by decide) (by rfl) (by rfl)) pa_nil (by rfl)) (by rfl)) (by decide) (by decide) (by rfl) (by rfl)))) po_none) pa_nil (by rfl)) (by rfl)) (by rfl) (by decide) (by rfl) (by rfl)) rfl)) (@pss_one _ _ _ (@ps_if _ _ _ _ _ _ _ _ (@pt_cmpR _ _ _ _ _ _ _ _ op_eq (pv 6) pe_int (@nomark _ _ (by decide) (by decide))) (@pss_one _ _ _ (@ps_lput _ _ _ _ _ _ _ _ _ (pv 5) pe_int (@pe_c _ _ _ _ _ _ _ _ _ _ G_l_bad_number (hr.mono (by decide)) (@pa_cons _ _ _ _ _ (@pe_op _ _ _ _ _ _ _ _ op_fdivB (pv 1) pe_int) (@pa_cons _ _ _ _ _ (@pe_op _ _ _ _ _ _ _ _ op_sub pe_int (@pe_op _ _ _ _ _ _ _ _ op_pow pe_int pe_int)) pa_nil (by rfl)) (by rfl)) (by rfl) (by decide) (by rfl) (by rfl)) rfl)) (@pss_one _ _ _ (@ps_lput _ _ _ _ _ _ _ _ _ (pv 5) pe_int (@pe_c _ _ _ _ _ _ _ _ _ _ G_l_bad_number (hr.mono (by decide)) (@pa_cons _ _ _ _ _ (@pe_op _ _ _ _ _ _ _ _ op_fdivB (pv 1) pe_int) (@pa_cons _ _ _ _ _ pe_int pa_nil (by rfl)) (by rfl)) (by rfl) (by decide) (by rfl) (by rfl)) rfl))))) (@pss_one _ _ _ (@ps_ret _ _ _ _ (@pe_op _ _ _ _ _ _ _ _ op_cat (@pe_op _ _ _ _ _ _ _ _ op_cat (@pe_slice _ _ _ _ _ _ _ _ _ _ (@sl_listB _ (K) rfl) (pv 0) po_none (@po_some _ _ _ (pv 2))) (@pe_lst _ _ _ _ (@pa_cons _ _ _ _ _ (@pe_callTy _ _ _ _ _ _ _ _ _ call_tuple_of rfl T.n_tuple boot_tuple' (@pa_cons _ _ _ _ _ (pv 5) pa_nil (by rfl)) (by decide) (by decide) (by rfl) (by rfl)) pa_nil (by rfl)))) (@pe_slice _ _ _ _ _ _ _ _ _ _ (@sl_listB _ (K) rfl) (pv 0) (@po_some _ _ _ (@pe_op _ _ _ _ _ _ _ _ op_add (pv 2) pe_int)) po_none)))))))))))), ?_⟩
  refine ⟨_, rfl, _, rfl, l, us, rfl, .inl (SqL.of hl), _, _, rfl, rfl, pl, ?_⟩
  obtain ⟨k, hk'⟩ := Int.eq_ofNat_of_zero_le (show 0 ≤ n % ((us.length : Nat) : Int) from Int.emod_nonneg _ (by omega))
  have hkl : k < us.length := by have := Int.emod_lt_of_pos n pl; omega
  dsimp only
  rw [hk']
  refine ⟨_, rfl, _, _, rfl, rfl, ⟨by decide, by decide⟩, ?_⟩
  obtain ⟨d, ed⟩ : ∃ d, fs[k]? = some d := ⟨_, List.getElem?_eq_getElem (by omega)⟩
  obtain ⟨v, ev, iv⟩ := il.get ed
  obtain ⟨z, g, e, rfl, hz, hg, he⟩ := field_shape (gf.all d (List.mem_of_getElem? ed))
  obtain ⟨t, rfl, o⟩ := field_row iv
  dsimp only
  generalize n / 12 = m
  refine ⟨_, rfl, _, rfl, l, us, _, .ref t, rfl, rfl, SqL.of hl, atI_nat ev, ?_⟩
  refine ⟨_, rfl, l, rfl, ⟨_, SqL.of hl⟩, ?_⟩
  refine comp_list (F := K) (xs := us) (by omega) (fun i ys H' => H = H' ∧ ys = (((fs.take i).map nmOf).filter fun y => !decide (y = z)).map V.str ∧ ys.length ≤ i) ⟨rfl, rfl, Nat.le_refl _⟩ ?_ ?_ ?_
  · rintro i ys H' hi' ⟨rfl, rfl, hy⟩
    exact ⟨SqL.of hl, hy⟩
  · rintro i x ys H' K1 K2 hx ⟨rfl, rfl, hy⟩ k1 k2
    have hil : i < us.length := (List.getElem?_eq_some_iff.mp hx).1
    obtain ⟨d', ed'⟩ : ∃ d, fs[i]? = some d := ⟨_, List.getElem?_eq_getElem (by omega)⟩
    obtain ⟨v', ev', iv'⟩ := il.get ed'
    rw [hx] at ev'
    cases ev'
    obtain ⟨z', g', e', rfl, _⟩ := field_shape (gf.all d' (List.mem_of_getElem? ed'))
    obtain ⟨t', rfl, o'⟩ := field_row iv'
    have et : ((fs.take (i + 1)).map nmOf).filter (fun y => !decide (y = z)) = ((fs.take i).map nmOf).filter (fun y => !decide (y = z)) ++ (if (!decide (z' = z)) = true then [z'] else []) := by
      rw [List.take_add_one, ed', List.map_append, List.filter_append]
      cases hb : (!decide (z' = z)) <;> simp_all [nmOf, firstS]
    refine ⟨_, rfl, t', _, 0, .str z', rfl, rfl, SqT.of o', atI_nat (j := 0) rfl, _, rfl, t, _, 0, .str z, rfl, rfl, SqT.of o, atI_nat (j := 0) rfl, rfl, _, rfl, ?_⟩
    show if (!decide (V.str z' = V.str z)) = true then _ else _
    rw [dec_str]
    cases hb : (!decide (z' = z)) with
    | true =>
      rw [hb] at et
      refine iteT ⟨_, rfl, t', _, 0, .str z', rfl, rfl, SqT.of o', atI_nat (j := 0) rfl, k1 _ _ ⟨rfl, ?_, by rw [List.length_append, List.length_singleton]; omega⟩⟩
      rw [et, List.map_append]
      rfl
    | false =>
      rw [hb] at et
      refine iteF (k2 _ ⟨rfl, ?_, by omega⟩)
      rw [et]
      simp
  rintro ys H' ⟨rfl, rfl, hy⟩
  rw [List.take_of_length_le (by omega)]
  intro lo hlo
  have R0 := Same.upd (o := .lst (((fs.map nmOf).filter fun y => !decide (y = z)).map V.str)) hlo
  refine ⟨_, rfl, t, _, rfl, .inr (SqT.of (R0 _ _ o)), fun lw hlw => ?_⟩
  have nlw : H lw = none := R0.free hlw
  have R1 := Same.upd (o := .lst [.str z, .int g, .int e]) hlw
  have hlo1 : upd (upd H lo (.lst (((fs.map nmOf).filter fun y => !decide (y = z)).map V.str))) lw (.lst [.str z, .int g, .int e]) lo = some (.lst (((fs.map nmOf).filter fun y => !decide (y = z)).map V.str)) := R1 _ _ upd_same
  have hlw1 : upd (upd H lo (.lst (((fs.map nmOf).filter fun y => !decide (y = z)).map V.str))) lw (.lst [.str z, .int g, .int e]) lw = some (.lst [.str z, .int g, .int e]) := upd_same
  have R := R0.trans R1
  generalize upd (upd H lo (.lst (((fs.map nmOf).filter fun y => !decide (y = z)).map V.str))) lw (.lst [.str z, .int g, .int e]) = H1 at R hlo1 hlw1
  have sz : small (.str z) = true := by
    have : (decide (1 ≤ z.length) && decide (z.length ≤ 8) && !decide (z = "sea") && z.cps.toList.all letter) = true := hz
    simp only [Bool.and_eq_true, decide_eq_true_eq] at this
    exact decide_eq_true (by omega)
  have smf : ∀ d ∈ fs, small d = true := fun d m => by
    obtain ⟨z, g, e, rfl, hz, _⟩ := field_shape (gf.all d m)
    have : (decide (1 ≤ z.length) && decide (z.length ≤ 8) && !decide (z = "sea") && z.cps.toList.all letter) = true := hz
    simp only [Bool.and_eq_true, decide_eq_true_eq] at this
    show (decide (3 ≤ 1000) && (decide (z.length ≤ 1000) && (true && (true && true)))) = true
    rw [decide_eq_true (show z.length ≤ 1000 by omega)]
    rfl
  have nml : ∀ y ∈ fs.map nmOf, y.length ≤ 1000 := fun y my => by
    obtain ⟨d, m, rfl⟩ := List.mem_map.mp my
    obtain ⟨z, g, e, rfl, hz, _⟩ := field_shape (gf.all d m)
    have : (decide (1 ≤ z.length) && decide (z.length ≤ 8) && !decide (z = "sea") && z.cps.toList.all letter) = true := hz
    simp only [Bool.and_eq_true, decide_eq_true_eq] at this
    show z.length ≤ 1000
    omega
  have fin : ∀ (Hz : Hp) (p5 : Addr) (ve : V) (e' : Dv), Same H Hz → H p5 = none → Hz p5 = some (.lst (us.take k ++ [ve] ++ us.drop (k + 1))) → Is (del X Hz) e' ve → small e' = true → (isField e' = false ∨ ∃ d ∈ fs.take k ++ fs.drop (k + 1), firstS d = firstS e') → Q (.ref p5) Hz := fun Hz p5 ve e' S n5 h5 ie se bad => by
    refine q p5 _ (fs.take k ++ [e'] ++ fs.drop (k + 1)) Hz S n5 h5 (IsL.app (IsL.drop (k + 1) (IsL.same (dsame S) _ _ il0)) (IsL.snoc ie (IsL.take k (IsL.same (dsame S) _ _ il0)))) (lst_small (fun d m => ?_) ?_) ?_
    · rcases List.mem_append.mp m with m | m
      · rcases List.mem_append.mp m with m | m
        · exact smf d (List.mem_of_mem_take m)
        · rw [List.mem_singleton.mp m]
          exact se
      · exact smf d (List.mem_of_mem_drop m)
    · rw [List.length_append, List.length_append, List.length_take, List.length_drop]
      show _ + 1 + _ ≤ _
      omega
    · show ((_ && _) && (List.all _ _ && _)) = false
      rw [bad_one bad, Bool.and_false]
  refine ⟨_, rfl, _, _, rfl, rfl, (posI rfl), ?_⟩
  refine ⟨_, rfl, rfl, _, rfl, ?_⟩
  rw [dec_int]
  dsimp only
  refine ite2 (fun w1 => ?_) (fun w1 => ?_)
  · refine ⟨_, rfl, _, rfl, _, rfl, l, us, rfl, SqL.of (R _ _ hl), fun p1 hp1 => ?_⟩
    rw [cut_take3]
    have A1 := Same.upd (o := .lst (us.take k)) hp1
    have B1 := R.trans A1
    refine ⟨_, rfl, t, _, rfl, .inr (SqT.of (B1 _ _ o)), fun p2 hp2 => ?_⟩
    have A2 := Same.upd (o := .lst [.str z, .int g, .int e]) hp2
    have B2 := B1.trans A2
    refine ⟨_, rfl, _, rfl, t, _, rfl, SqT.of (B2 _ _ o), (fun h => absurd h.2 (show ¬ HT.sIx 3 3 (some 2) = 3 by decide)), fun p3 hp3 => ?_⟩
    rw [cut_take32]
    have A3 := Same.upd (o := .tup [.str z, .int g]) hp3
    have B3 := B2.trans A3
    refine ⟨_, rfl, small_le rfl, fun p4 hp4 => ?_⟩
    have A4 := Same.upd (o := .tup [.int 1]) hp4
    have B4 := B3.trans A4
    refine ⟨t, p4, _, _, rfl, rfl, SqT.of (B4 _ _ o), SqT.of upd_same, by simp, small_le rfl, (fun h => by cases h), fun _ p5 hp5 => ?_⟩
    have A5 := Same.upd (o := .tup ([.str z, .int g, .int e] ++ [.int 1])) hp5
    have B5 := B4.trans A5
    refine ⟨_, rfl, t, _, 0, .str z, rfl, rfl, SqT.of (B5 _ _ o), atI_nat (j := 0) rfl, small_le rfl, fun p6 hp6 => ?_⟩
    have A6 := Same.upd (o := .lst [.ref p2, .ref p3, .ref p5, .str z]) hp6
    have B6 := B5.trans A6
    have d2 := (A3.trans (A4.trans (A5.trans A6))) _ _ upd_same
    have d3 := (A4.trans (A5.trans A6)) _ _ upd_same
    have d5 := A6 _ _ upd_same
    have d1 := (A2.trans (A3.trans (A4.trans (A5.trans A6)))) _ _ upd_same
    have d6 : _ = some (HO.lst [.ref p2, .ref p3, .ref p5, .str z]) := upd_same (H := upd (upd (upd (upd (upd H1 p1 (.lst (us.take k))) p2 (.lst [.str z, .int g, .int e])) p3 (.tup [.str z, .int g])) p4 (.tup [.int 1])) p5 (.tup ([.str z, .int g, .int e] ++ [.int 1]))) (a := p6)
    have il4 : IsL (del X _) [.lst [.str z, .int g, .int e], .tup [.str z, .int g], .tup [.str z, .int g, .int e, .int 1], .str z] [.ref p2, .ref p3, .ref p5, .str z] :=
      ⟨_, _, rfl, ⟨p2, _, rfl, ndel hX (B1.free hp2) d2, _, _, rfl, rfl, _, _, rfl, rfl, _, _, rfl, rfl, rfl⟩, _, _, rfl, ⟨p3, _, rfl, ndel hX (B2.free hp3) d3, _, _, rfl, rfl, _, _, rfl, rfl, rfl⟩, _, _, rfl, ⟨p5, _, rfl, ndel hX (B4.free hp5) d5, _, _, rfl, rfl, _, _, rfl, rfl, _, _, rfl, rfl, _, _, rfl, rfl, rfl⟩, _, _, rfl, rfl, rfl⟩
    obtain ⟨d', v', md', ev', iv'⟩ := isl_at il4 (i := m / 6 % 4) (Int.emod_nonneg _ (by decide)) (Int.emod_lt_of_pos _ (by decide))
    refine ⟨_, rfl, _, _, rfl, rfl, ⟨by decide, by decide⟩, _, _, rfl, rfl, (posI rfl), p6, _, _, v', rfl, rfl, SqL.of d6, ev', ?_⟩
    refine ⟨small_le rfl, fun p7 hp7 => ?_⟩
    have A7 := Same.upd (o := .lst [v']) hp7
    have B7 := B6.trans A7
    refine ⟨p1, p7, _, _, rfl, rfl, A7 _ _ d1, upd_same, by rw [List.length_take]; show _ + 1 ≤ _; omega, fun p8 hp8 => ?_⟩
    have A8 := Same.upd (o := .lst (us.take k ++ [v'])) hp8
    have B8 := B7.trans A8
    refine ⟨_, rfl, _, rfl, _, _, rfl, rfl, _, rfl, l, us, rfl, SqL.of (B8 _ _ hl), fun p9 hp9 => ?_⟩
    rw [cut_drop31]
    have A9 := Same.upd (o := .lst (us.drop (k + 1))) hp9
    have B9 := B8.trans A9
    refine ⟨p8, p9, _, _, rfl, rfl, A9 _ _ upd_same, upd_same, by rw [List.length_append, List.length_take, List.length_drop]; show _ + 1 + _ ≤ _; omega, fun p10 hp10 => ?_⟩
    have A10 := Same.upd (o := .lst (us.take k ++ [v'] ++ us.drop (k + 1))) hp10
    have bad : small d' = true ∧ isField d' = false := by
      simp only [List.mem_cons, List.not_mem_nil, or_false] at md'
      rcases md' with rfl | rfl | rfl | rfl
      · exact ⟨lst_small (fun d m => by simp only [List.mem_cons, List.not_mem_nil, or_false] at m; rcases m with rfl | rfl | rfl; exact sz; rfl; rfl) (show 3 ≤ 1000 by decide), rfl⟩
      · refine ⟨?_, rfl⟩
        show (decide (2 ≤ 1000) && (small (.str z) && (true && true))) = true
        rw [sz]; rfl
      · refine ⟨?_, rfl⟩
        show (decide (4 ≤ 1000) && (small (.str z) && (true && (true && (true && true))))) = true
        rw [sz]; rfl
      · exact ⟨sz, rfl⟩
    exact fin _ p10 v' d' (B9.trans A10) (B9.free hp10) upd_same (Is.same (dsame (A7.trans (A8.trans (A9.trans A10)))) _ _ iv') bad.1 (.inl bad.2)
  refine ⟨_, rfl, _, _, rfl, rfl, _, rfl, ?_⟩
  refine ifJoin (fun σ' H' => σ' = [some (.ref l), some (.int m), some (.int k), some (.ref t), some (.ref lo), some (.ref lw), some (.int (m % 6))] ∧ ∃ v0 v1 v2 e0 e1 e2, Same H H' ∧ H' lw = some (.lst [v0, v1, v2]) ∧ IsL (del X H') [e0, e1, e2] [v0, v1, v2] ∧ small (.tup [e0, e1, e2]) = true ∧ (isField (.tup [e0, e1, e2]) = false ∨ ∃ d ∈ fs.take k ++ fs.drop (k + 1), firstS d = firstS (.tup [e0, e1, e2]))) (fun σ' H' hR => ?_) (fun D' hD => ?_)
  rotate_left
  · have put : ∀ {H5 : Hp} {v : V} {d : Dv} (o : HO), (∀ G, NewOf H1 H5 G → Is G d v) → Is (del X (upd H5 lw o)) d v := fun o iv => iv _ (fun b o' e1 e2 => ndel (let ⟨ox, hx⟩ := hX; ⟨ox, R _ _ hx⟩) e1 (by rw [upd_ne (fun z => by rw [z, hlw1] at e1; cases e1)]; exact e2))
    have sm3 : ∀ {a b c : Dv}, small a = true → small b = true → small c = true → small (.tup [a, b, c]) = true := fun ha hb hc => by
      show (decide (3 ≤ 1000) && (small _ && (small _ && (small _ && true)))) = true
      rw [ha, hb, hc]; rfl
    refine ite2 (fun w2 => ?_) (fun w2 => ?_)
    · have pm : (0 : Int) < (if ((((fs.map nmOf).filter fun y => !decide (y = z)).map V.str).length : Int) > 1 then ((((fs.map nmOf).filter fun y => !decide (y = z)).map V.str).length : Int) else 1) := by split <;> omega
      refine ⟨_, rfl, _, _, rfl, rfl, ⟨by decide, by decide⟩, _, rfl, _, rfl, _, _, rfl, rfl, ⟨by decide, by decide⟩, _, _, rfl, rfl, (posI rfl), _, rfl, lo, _, rfl, .inl (SqL.of hlo1), _, _, rfl, _, _, rfl, rfl, pm, ?_⟩
      obtain ⟨j, hj⟩ := Int.eq_ofNat_of_zero_le (show 0 ≤ m / 90 % 11 % (if ((((fs.map nmOf).filter fun y => !decide (y = z)).map V.str).length : Int) > 1 then ((((fs.map nmOf).filter fun y => !decide (y = z)).map V.str).length : Int) else 1) from Int.emod_nonneg _ (by omega))
      dsimp only
      rw [hj]
      refine ⟨_, rfl, lo, _, rfl, SqL.of hlo1, fun q1 hq1 => ?_⟩
      rw [cut_drop3]
      have A1 := Same.upd (o := .lst ((((fs.map nmOf).filter fun y => !decide (y = z)).map V.str).drop j)) hq1
      refine ⟨_, _, rfl, _, q1, ((fs.map nmOf).filter fun y => !decide (y = z)).drop j, rfl, rfl, by rw [upd_same, List.map_drop], ?_, fun v d H5 S5 iv5 bad sd => ?_⟩
      · intro y my
        exact nml y (List.mem_filter.mp (List.mem_of_mem_drop my)).1
      have hlw5 : H5 lw = some (.lst [.str z, .int g, .int e]) := S5 _ _ (A1 _ _ hlw1)
      refine ⟨_, rfl, lw, _, 0, rfl, rfl, hlw5, by simp, ?_⟩
      refine hD _ _ ⟨rfl, v, .int g, .int e, d, .int g, .int e, (R.trans (A1.trans S5)).over nlw, upd_same, ⟨_, _, rfl, put _ (fun G g => iv5 G (fun b o e1 e2 => g b o (A1.free e1) e2)), _, _, rfl, rfl, _, _, rfl, rfl, rfl⟩, sm3 sd rfl rfl, ?_⟩
      rcases bad with bad | ⟨y, my, rfl⟩
      · left
        show (isName d && _) = false
        rw [bad, Bool.false_and]
      · right
        obtain ⟨my1, my2⟩ := List.mem_filter.mp (List.mem_of_mem_drop my)
        obtain ⟨d', md', rfl⟩ := List.mem_map.mp my1
        refine ⟨d', other_at ed md' (fun e => ?_), ?_⟩
        · rw [e] at my2
          have : (!decide (z = z)) = true := my2
          simp at this
        · obtain ⟨z', g', e', rfl, _⟩ := field_shape (gf.all d' md')
          rfl
    · refine ⟨_, rfl, rfl, _, rfl, ?_⟩
      rw [dec_int]
      refine ite2 (fun w3 => ?_) (fun w3 => ?_)
      · refine ⟨_, rfl, _, _, rfl, rfl, ⟨by decide, by decide⟩, _, _, rfl, rfl, ⟨by decide, by decide, by decide⟩, _, _, rfl, rfl, _, _, rfl, _, _, rfl, rfl, fun v d H5 S5 iv5 bad sd => ?_⟩
        refine ⟨_, rfl, lw, _, 1, rfl, rfl, S5 _ _ hlw1, by simp, ?_⟩
        refine hD _ _ ⟨rfl, .str z, v, .int e, .str z, d, .int e, (R.trans S5).over nlw, upd_same, ⟨_, _, rfl, rfl, _, _, rfl, put _ iv5, _, _, rfl, rfl, rfl⟩, sm3 sz sd rfl, .inl ?_⟩
        show (isName (.str z) && (isHeight d && _)) = false
        rw [okN_height d, show okN (-1000000) d = false from bad, Bool.false_and, Bool.and_false]
      · refine ⟨_, rfl, _, _, rfl, rfl, ⟨by decide, by decide⟩, _, _, rfl, _, _, rfl, rfl, fun v d H5 S5 iv5 bad sd => ?_⟩
        refine ⟨_, rfl, lw, _, 2, rfl, rfl, S5 _ _ hlw1, by simp, ?_⟩
        refine hD _ _ ⟨rfl, .str z, .int g, v, .str z, .int g, d, (R.trans S5).over nlw, upd_same, ⟨_, _, rfl, rfl, _, _, rfl, rfl, _, _, rfl, put _ iv5, rfl⟩, sm3 sz rfl sd, .inl ?_⟩
        show (isName (.str z) && (isHeight (.int g) && isAmount d)) = false
        rw [okN_amount d, bad, Bool.and_false, Bool.and_false]
  obtain ⟨rfl, v0, v1, v2, e0, e1, e2, S1, hw1, iw1, sw1, bad⟩ := hR
  refine ⟨_, rfl, _, rfl, _, rfl, l, us, rfl, SqL.of (S1 _ _ hl), fun p1 hp1 => ?_⟩
  rw [cut_take3]
  have A1 := Same.upd (o := .lst (us.take k)) hp1
  have B1 := S1.trans A1
  refine ⟨_, rfl, lw, _, rfl, .inl ⟨SqL.of (A1 _ _ hw1), fun p2 hp2 => ?_⟩⟩
  have A2 := Same.upd (o := .tup [v0, v1, v2]) hp2
  have B2 := B1.trans A2
  refine ⟨small_le rfl, fun p7 hp7 => ?_⟩
  have A7 := Same.upd (o := .lst [.ref p2]) hp7
  have B7 := B2.trans A7
  refine ⟨p1, p7, _, _, rfl, rfl, (A2.trans A7) _ _ upd_same, upd_same, by rw [List.length_take]; show _ + 1 ≤ _; omega, fun p8 hp8 => ?_⟩
  have A8 := Same.upd (o := .lst (us.take k ++ [.ref p2])) hp8
  have B8 := B7.trans A8
  refine ⟨_, rfl, _, rfl, _, _, rfl, rfl, _, rfl, l, us, rfl, SqL.of (B8 _ _ hl), fun p9 hp9 => ?_⟩
  rw [cut_drop31]
  have A9 := Same.upd (o := .lst (us.drop (k + 1))) hp9
  have B9 := B8.trans A9
  refine ⟨p8, p9, _, _, rfl, rfl, A9 _ _ upd_same, upd_same, by rw [List.length_append, List.length_take, List.length_drop]; show _ + 1 + _ ≤ _; omega, fun p10 hp10 => ?_⟩
  have A10 := Same.upd (o := .lst (us.take k ++ [.ref p2] ++ us.drop (k + 1))) hp10
  exact fin _ p10 (.ref p2) (.tup [e0, e1, e2]) (B9.trans A10) (B9.free hp10) upd_same ⟨p2, _, rfl, ndel hX (B1.free hp2) ((A7.trans (A8.trans (A9.trans A10))) _ _ upd_same), IsL.same (dsame (A1.trans (A2.trans (A7.trans (A8.trans (A9.trans A10)))))) _ _ iw1⟩ sw1 bad

theorem nameS_len {z : Str} (hz : nameS z = true) : z.length ≤ 8 := by
  have : (decide (1 ≤ z.length) && decide (z.length ≤ 8) && !decide (z = "sea") && z.cps.toList.all letter) = true := hz
  simp only [Bool.and_eq_true, decide_eq_true_eq] at this
  omega
theorem sill_shape {c : Int} {s : Dv} (h : isSill (.int c) s = true) : s = .non ∨ ∃ i, s = .int i := by
  cases s with
  | non => exact .inl rfl
  | int i => exact .inr ⟨i, rfl⟩
  | _ => cases h
theorem seqIfJoin {c : TT} {a b u : TS} {D : Ends} {σ : St} {H : Hp} (R : St → Hp → Prop) (h : ∀ σ' H', R σ' H' → u D σ' H') (k : ∀ D' : Ends, (∀ σ' H', R σ' H' → D'.nx σ' H') → tIfS c a b D' σ H) : tSeq (tIfS c a b) u D σ H := k { D with nx := u D } h
theorem iteJ {b : Bool} {A B X : Prop} (hA : A) (hX : A → b = false → X) : if b = true then (if true = true then A else B) else X := by
  cases b with
  | true => rw [if_pos rfl, if_pos rfl]; exact hA
  | false => rw [if_neg (by intro z; cases z)]; exact hX hA rfl
theorem sides_same {zs : List Str} {b : Str} : areSides zs (.str b) (.str b) = false := by
  show (oneOf zs _ && (oneOf zs _ && !(b == b))) = false
  rw [beq_self_eq_true, show (!true) = false from rfl, Bool.and_false, Bool.and_false]
theorem oneOf_odd {zs : List Str} {d : Dv} (odd : ∀ z ∈ oddS, ¬ z ∈ zs) (h : (∃ z ∈ oddS, d = .str z) ∨ isStr d = false) : oneOf zs d = false := by
  rcases h with ⟨z, m, rfl⟩ | h
  · exact decide_eq_false (odd z m)
  · cases d with
    | str z => cases h
    | _ => rfl
def spBadDk : Sp := sp2 fun x y H Q => ∃ (X l : Addr) (us : List V) (ds : List Dv) (zs : List Str) (n : Int), (∃ o, H X = some o) ∧ x = .ref l ∧ H l = some (.lst us) ∧ IsL (del X H) ds us ∧ GoodD zs ds ∧ (∀ z ∈ zs, z.length ≤ 8) ∧ (∀ z ∈ oddS, ¬ z ∈ zs) ∧ y = .int n ∧
  ∀ (p : Addr) (vs : List V) (es : List Dv) (H' : Hp), Same H H' → H p = none → H' p = some (.lst vs) → IsL (del X H') es vs → small (.lst es) = true → areDykes zs (.lst es) = false → Q (.ref p) H'
theorem ok_l_bad_dyke (T : Txt K mg C) : Fc P w K mg base 2 "_law_bad_dyke" ["_law_dykes_here", "_law_cell"] spBadDk := by
  have G_l_bad_name : Fc P w K mg base 1 "_law_bad_name" ["_law_cell", "_law_names_here"] spBadNam := ok_l_bad_name T
  have G_l_bad_number : Fc P w K mg base 1 "_law_bad_number" ["_law_cell", "_law_least"] spBadNum := ok_l_bad_number T
  have G_l_bad_side : Fc P w K mg base 1 "_law_bad_side" ["_law_bank", "_law_way", "_law_cell"] spBadSide := ok_l_bad_side T
  have G_l_bad_sill : Fc P w K mg base 1 "_law_bad_sill" ["_law_bank", "_law_cell"] spBadSill := ok_l_bad_sill T
  refine T.d_l_bad_dyke.fc sc_l_bad_dyke len2 (fun f cdv A outer s H vs Q E hr h => ?_)
  obtain ⟨x, y, rfl, X, l, us, ds, zs, n, hX, rfl, hl, il0, gd, zlen, odd, rfl, q⟩ := h
  have il := IsL.same (del_same X H) _ _ il0
  have big := big1000
  have lus := il.length
  have l1 := gd.l1
  have l2 := gd.l2
  have pl : (0 : Int) < ((us.length : Nat) : Int) := by omega
  refine ⟨_, (@pss_cons _ _ _ _ _ (@ps_set _ _ (2) _ _ _ _ sc_l_bad_dyke.nd rfl (Or.inl rfl) (@pe_op _ _ _ _ _ _ _ _ op_mod (pv 1) (@pe_callB _ _ _ _ _ _ _ _ _ (@call_len_seqB _ (K) rfl) rfl T.n_len boot_len' (@pa_cons _ _ _ _ _ (pv 0) pa_nil (by rfl)) (by decide) (by decide) (by rfl) (by rfl))) (by rfl) (by first | exact .inl rfl | exact .inr rfl | assumption)) (@pss_cons _ _ _ _ _ (@ps_set _ _ (1) _ _ _ _ sc_l_bad_dyke.nd rfl (Or.inl rfl) (@pe_op _ _ _ _ _ _ _ _ op_fdivB (pv 1) pe_int) (by rfl) (by first | exact .inl rfl | exact .inr rfl | assumption)) (@pss_cons _ _ _ _ _ (@ps_set _ _ (3) _ _ _ _ sc_l_bad_dyke.nd rfl (Or.inr rfl) (@pe_ix _ _ _ _ _ _ _ (@ix_listB _ (K) rfl) (pv 0) (pv 2) (fun _ _ => rfl)) (by rfl) (by first | exact .inl rfl | exact .inr rfl | assumption)) (@pss_cons _ _ _ _ _ (@ps_setComp _ (4) _ _ _ _ _ _ _ _ _ _ _ _ _ sc_l_bad_dyke.nd rfl ["_law_one", "_law_bank"] 1 [3] rfl (@pi_list _ _ _ _ (pv 0)) (fun R => @pg_name _ _ (0) _ (show List.Nodup (["_law_one", "_law_bank"] : List Str) by decide +kernel) rfl (Or.inl rfl) (by first | exact .inl rfl | exact .inr rfl | assumption)) (@gkeep_name _ _ (by decide)) (fun R => @pifs_one _ _ _ (@pt_cmpR _ _ _ _ _ _ _ _ op_ne (@pe_ix _ _ _ _ _ _ _ (@ix_tupB _ (K) rfl) (pv 0) pe_int (fun _ _ => rfl)) (@pe_ix _ _ _ _ _ _ _ (@ix_tupB _ (K) rfl) (pv 1) pe_int (fun _ _ => rfl)) (@nomark _ _ (by decide) (by decide)))) (fun R => (@pe_ix _ _ _ _ _ _ _ (@ix_tupB _ (K) rfl) (pv 0) pe_int (fun _ _ => rfl))) (by exact Or.inl rfl) (by first | exact .inl rfl | exact .inr rfl | assumption) (by rfl) (by rfl) (by rfl) (by rfl) (by rfl) (by rfl) (by rfl) (by rfl) (by intro _; rfl)) (@pss_cons _ _ _ _ _ (@ps_set _ _ (5) _ _ _ _ sc_l_bad_dyke.nd rfl (Or.inl rfl) (@pe_callTy _ _ _ _ _ _ _ _ _ (@call_list_ofB _ (K) rfl) rfl T.n_list boot_list' (@pa_cons _ _ _ _ _ (pv 3) pa_nil (by rfl)) (by decide) (by decide) (by rfl) (by rfl)) (by rfl) (by first | exact .inl rfl | exact .inr rfl | assumption)) (@pss_cons _ _ _ _ _ (@ps_set _ _ (6) _ _ _ _ sc_l_bad_dyke.nd rfl (Or.inl rfl) (@pe_op _ _ _ _ _ _ _ _ op_mod (pv 1) pe_int) (by rfl) (by first | exact .inl rfl | exact .inr rfl | assumption)) (@pss_cons _ _ _ _ _ (@ps_if _ _ _ _ _ _ _ _ (@pt_cmpR _ _ _ _ _ _ _ _ op_eq (pv 6) pe_int (@nomark _ _ (by decide) (by decide))) (@pss_one _ _ _ (@ps_ret _ _ _ _ (@pe_op _ _ _ _ _ _ _ _ op_cat (@pe_op _ _ _ _ _ _ _ _ op_cat (@pe_slice _ _ _ _ _ _ _ _ _ _ (@sl_listB _ (K) rfl) (pv 0) po_none (@po_some _ _ _ (pv 2))) (@pe_lst _ _ _ _ (@pa_cons _ _ _ _ _ (@pe_ix _ _ _ _ _ _ _ (@ix_listB _ (K) rfl) (@pe_lst _ _ _ _ (@pa_cons _ _ _ _ _ (@pe_callTy _ _ _ _ _ _ _ _ _ (@call_list_ofB _ (K) rfl) rfl T.n_list boot_list' (@pa_cons _ _ _ _ _ (pv 3) pa_nil (by rfl)) (by decide) (by decide) (by rfl) (by rfl)) (@pa_cons _ _ _ _ _ (@pe_slice _ _ _ _ _ _ _ _ _ _ (@sl_tupB _ (K) rfl) (pv 3) po_none (@po_some _ _ _ pe_int)) (@pa_cons _ _ _ _ _ (@pe_op _ _ _ _ _ _ _ _ (@op_catTB _ (K) rfl) (pv 3) (@pe_tup _ _ _ _ _ (@pa_cons _ _ _ _ _ pe_non pa_nil (by rfl)))) (@pa_cons _ _ _ _ _ (@pe_ix _ _ _ _ _ _ _ (@ix_tupB _ (K) rfl) (pv 3) pe_int (fun _ _ => rfl)) pa_nil (by rfl)) (by rfl)) (by rfl)) (by rfl))) (@pe_op _ _ _ _ _ _ _ _ op_mod (@pe_op _ _ _ _ _ _ _ _ op_fdivB (pv 1) pe_int) pe_int) (fun _ _ => rfl)) pa_nil (by rfl)))) (@pe_slice _ _ _ _ _ _ _ _ _ _ (@sl_listB _ (K) rfl) (pv 0) (@po_some _ _ _ (@pe_op _ _ _ _ _ _ _ _ op_add (pv 2) pe_int)) po_none)))) pss_nil) (@pss_cons _ _ _ _ _ (@ps_if _ _ _ _ _ _ _ _ (@PW.pt _ _ _ (@pw_or _ _ _ _ _ _ _ (@pt_cmpR _ _ _ _ _ _ _ _ op_eq (pv 6) pe_int (@nomark _ _ (by decide) (by decide))) (@pw_or1 _ _ _ _ (@pt_cmpR _ _ _ _ _ _ _ _ op_eq (pv 6) pe_int (@nomark _ _ (by decide) (by decide)))))) (@pss_one _ _ _ (@ps_lput _ _ _ _ _ _ _ _ _ (pv 5) pe_int (@pe_c _ _ _ _ _ _ _ _ _ _ G_l_bad_name (hr.mono (by decide)) (@pa_cons _ _ _ _ _ (@pe_op _ _ _ _ _ _ _ _ op_fdivB (pv 1) pe_int) (@pa_cons _ _ _ _ _ (@pe_slice _ _ _ _ _ _ _ _ _ _ (@sl_listB _ (K) rfl) (pv 4) (@po_some _ _ _ (@pe_op _ _ _ _ _ _ _ _ op_mod (@pe_op _ _ _ _ _ _ _ _ op_mod (@pe_op _ _ _ _ _ _ _ _ op_fdivB (pv 1) pe_int) pe_int) (@pe_callB _ _ _ _ _ _ _ _ _ (@call_max2 _ rfl) rfl T.n_max boot_max' (@pa_cons _ _ _ _ _ pe_int (@pa_cons _ _ _ _ _ (@pe_callB _ _ _ _ _ _ _ _ _ (@call_len_seqB _ (K) rfl) rfl T.n_len boot_len' (@pa_cons _ _ _ _ _ (pv 4) pa_nil (by rfl)) (by decide) (by decide) (by rfl) (by rfl)) pa_nil (by rfl)) (by rfl)) (by decide) (by decide) (by rfl) (by rfl)))) po_none) pa_nil (by rfl)) (by rfl)) (by rfl) (by decide) (by rfl) (by rfl)) rfl)) (@pss_one _ _ _ (@ps_if _ _ _ _ _ _ _ _ (@pt_cmpR _ _ _ _ _ _ _ _ op_lt (pv 6) pe_int (@nomark _ _ (by decide) (by decide))) (@pss_one _ _ _ (@ps_lput _ _ _ _ _ _ _ _ _ (pv 5) (@pe_op _ _ _ _ _ _ _ _ op_sub (pv 6) pe_int) (@pe_c _ _ _ _ _ _ _ _ _ _ G_l_bad_side (hr.mono (by decide)) (@pa_cons _ _ _ _ _ (pv 3) (@pa_cons _ _ _ _ _ (@pe_op _ _ _ _ _ _ _ _ op_sub (pv 6) pe_int) (@pa_cons _ _ _ _ _ (@pe_op _ _ _ _ _ _ _ _ op_fdivB (pv 1) pe_int) pa_nil (by rfl)) (by rfl)) (by rfl)) (by rfl) (by decide) (by rfl) (by rfl)) rfl)) (@pss_one _ _ _ (@ps_if _ _ _ _ _ _ _ _ (@pt_cmpR _ _ _ _ _ _ _ _ op_eq (pv 6) pe_int (@nomark _ _ (by decide) (by decide))) (@pss_one _ _ _ (@ps_lput _ _ _ _ _ _ _ _ _ (pv 5) pe_int (@pe_c _ _ _ _ _ _ _ _ _ _ G_l_bad_number (hr.mono (by decide)) (@pa_cons _ _ _ _ _ (@pe_op _ _ _ _ _ _ _ _ op_fdivB (pv 1) pe_int) (@pa_cons _ _ _ _ _ (@pe_op _ _ _ _ _ _ _ _ op_sub pe_int (@pe_op _ _ _ _ _ _ _ _ op_pow pe_int pe_int)) pa_nil (by rfl)) (by rfl)) (by rfl) (by decide) (by rfl) (by rfl)) rfl)) (@pss_one _ _ _ (@ps_if _ _ _ _ _ _ _ _ (@pt_cmpR _ _ _ _ _ _ _ _ op_eq (pv 6) pe_int (@nomark _ _ (by decide) (by decide))) (@pss_one _ _ _ (@ps_lput _ _ _ _ _ _ _ _ _ (pv 5) pe_int (@pe_c _ _ _ _ _ _ _ _ _ _ G_l_bad_number (hr.mono (by decide)) (@pa_cons _ _ _ _ _ (@pe_op _ _ _ _ _ _ _ _ op_fdivB (pv 1) pe_int) (@pa_cons _ _ _ _ _ pe_int pa_nil (by rfl)) (by rfl)) (by rfl) (by decide) (by rfl) (by rfl)) rfl)) (@pss_one _ _ _ (@ps_lput _ _ _ _ _ _ _ _ _ (pv 5) pe_int (@pe_c _ _ _ _ _ _ _ _ _ _ G_l_bad_sill (hr.mono (by decide)) (@pa_cons _ _ _ _ _ (pv 3) (@pa_cons _ _ _ _ _ (@pe_op _ _ _ _ _ _ _ _ op_fdivB (pv 1) pe_int) pa_nil (by rfl)) (by rfl)) (by rfl) (by decide) (by rfl) (by rfl)) rfl))))))))) (@pss_one _ _ _ (@ps_ret _ _ _ _ (@pe_op _ _ _ _ _ _ _ _ op_cat (@pe_op _ _ _ _ _ _ _ _ op_cat (@pe_slice _ _ _ _ _ _ _ _ _ _ (@sl_listB _ (K) rfl) (pv 0) po_none (@po_some _ _ _ (pv 2))) (@pe_lst _ _ _ _ (@pa_cons _ _ _ _ _ (@pe_callTy _ _ _ _ _ _ _ _ _ call_tuple_of rfl T.n_tuple boot_tuple' (@pa_cons _ _ _ _ _ (pv 5) pa_nil (by rfl)) (by decide) (by decide) (by rfl) (by rfl)) pa_nil (by rfl)))) (@pe_slice _ _ _ _ _ _ _ _ _ _ (@sl_listB _ (K) rfl) (pv 0) (@po_some _ _ _ (@pe_op _ _ _ _ _ _ _ _ op_add (pv 2) pe_int)) po_none)))))))))))), ?_⟩
  refine ⟨_, rfl, _, rfl, l, us, rfl, .inl (SqL.of hl), _, _, rfl, rfl, pl, ?_⟩
  obtain ⟨k, hk'⟩ := Int.eq_ofNat_of_zero_le (show 0 ≤ n % ((us.length : Nat) : Int) from Int.emod_nonneg _ (by omega))
  have hkl : k < us.length := by have := Int.emod_lt_of_pos n pl; omega
  dsimp only
  rw [hk']
  refine ⟨_, rfl, _, _, rfl, rfl, ⟨by decide, by decide⟩, ?_⟩
  obtain ⟨d, ed⟩ : ∃ d, ds[k]? = some d := ⟨_, List.getElem?_eq_getElem (by omega)⟩
  obtain ⟨v, ev, iv⟩ := il.get ed
  obtain ⟨z, a, b, c, r, sl, rfl, hz, ma, mb, nab, hc, hra, hsl⟩ := dyke_shape (gd.all d (List.mem_of_getElem? ed))
  obtain ⟨t, sv, rfl, o, isv0⟩ := dyke_row iv
  have isv : ∀ G : Hp, Is G sl sv := fun G => by
    rcases sill_shape hsl with rfl | ⟨i, rfl⟩
    · exact isv0
    · exact isv0
  have ssl : small sl = true := by rcases sill_shape hsl with rfl | ⟨i, rfl⟩ <;> rfl
  dsimp only
  generalize n / 40 = m
  refine ⟨_, rfl, _, rfl, l, us, _, .ref t, rfl, rfl, SqL.of hl, atI_nat ev, ?_⟩
  refine ⟨_, rfl, l, rfl, ⟨_, SqL.of hl⟩, ?_⟩
  refine comp_list (F := K) (xs := us) (by omega) (fun i ys H' => H = H' ∧ ys = (((ds.take i).map nmOf).filter fun y => !decide (y = z)).map V.str ∧ ys.length ≤ i) ⟨rfl, rfl, Nat.le_refl _⟩ ?_ ?_ ?_
  · rintro i ys H' hi' ⟨rfl, rfl, hy⟩
    exact ⟨SqL.of hl, hy⟩
  · rintro i x ys H' K1 K2 hx ⟨rfl, rfl, hy⟩ k1 k2
    have hil : i < us.length := (List.getElem?_eq_some_iff.mp hx).1
    obtain ⟨d', ed'⟩ : ∃ d, ds[i]? = some d := ⟨_, List.getElem?_eq_getElem (by omega)⟩
    obtain ⟨v', ev', iv'⟩ := il.get ed'
    rw [hx] at ev'
    cases ev'
    obtain ⟨z', a', b', c', r', s', rfl, _⟩ := dyke_shape (gd.all d' (List.mem_of_getElem? ed'))
    obtain ⟨t', sv', rfl, o', _⟩ := dyke_row iv'
    have et : ((ds.take (i + 1)).map nmOf).filter (fun y => !decide (y = z)) = ((ds.take i).map nmOf).filter (fun y => !decide (y = z)) ++ (if (!decide (z' = z)) = true then [z'] else []) := by
      rw [List.take_add_one, ed', List.map_append, List.filter_append]
      cases hb : (!decide (z' = z)) <;> simp_all [nmOf, firstS]
    refine ⟨_, rfl, t', _, 0, .str z', rfl, rfl, SqT.of o', atI_nat (j := 0) rfl, _, rfl, t, _, 0, .str z, rfl, rfl, SqT.of o, atI_nat (j := 0) rfl, rfl, _, rfl, ?_⟩
    show if (!decide (V.str z' = V.str z)) = true then _ else _
    rw [dec_str]
    cases hb : (!decide (z' = z)) with
    | true =>
      rw [hb] at et
      refine iteT ⟨_, rfl, t', _, 0, .str z', rfl, rfl, SqT.of o', atI_nat (j := 0) rfl, k1 _ _ ⟨rfl, ?_, by rw [List.length_append, List.length_singleton]; omega⟩⟩
      rw [et, List.map_append]
      rfl
    | false =>
      rw [hb] at et
      refine iteF (k2 _ ⟨rfl, ?_, by omega⟩)
      rw [et]
      simp
  rintro ys H' ⟨rfl, rfl, hy⟩
  rw [List.take_of_length_le (by omega)]
  intro lo hlo
  have R0 := Same.upd (o := .lst (((ds.map nmOf).filter fun y => !decide (y = z)).map V.str)) hlo
  refine ⟨_, rfl, t, _, rfl, .inr (SqT.of (R0 _ _ o)), fun lw hlw => ?_⟩
  have nlw : H lw = none := R0.free hlw
  have R1 := Same.upd (o := .lst [.str z, .str a, .str b, .int c, .int r, sv]) hlw
  have hlo1 : upd (upd H lo (.lst (((ds.map nmOf).filter fun y => !decide (y = z)).map V.str))) lw (.lst [.str z, .str a, .str b, .int c, .int r, sv]) lo = some (.lst (((ds.map nmOf).filter fun y => !decide (y = z)).map V.str)) := R1 _ _ upd_same
  have hlw1 : upd (upd H lo (.lst (((ds.map nmOf).filter fun y => !decide (y = z)).map V.str))) lw (.lst [.str z, .str a, .str b, .int c, .int r, sv]) lw = some (.lst [.str z, .str a, .str b, .int c, .int r, sv]) := upd_same
  have R := R0.trans R1
  generalize upd (upd H lo (.lst (((ds.map nmOf).filter fun y => !decide (y = z)).map V.str))) lw (.lst [.str z, .str a, .str b, .int c, .int r, sv]) = H1 at R hlo1 hlw1
  have sstr : ∀ {z : Str}, z.length ≤ 8 → small (.str z) = true := fun h => decide_eq_true (by omega)
  have sz := sstr (nameS_len hz)
  have sa := sstr (zlen a ma)
  have sb := sstr (zlen b mb)
  have sm6 : ∀ {e0 e1 e2 e3 e4 e5 : Dv}, small e0 = true → small e1 = true → small e2 = true → small e3 = true → small e4 = true → small e5 = true → small (.tup [e0, e1, e2, e3, e4, e5]) = true := fun h0 h1 h2 h3 h4 h5 => by
    show (decide (6 ≤ 1000) && (small _ && (small _ && (small _ && (small _ && (small _ && (small _ && true))))))) = true
    rw [h0, h1, h2, h3, h4, h5]; rfl
  have smf : ∀ d ∈ ds, small d = true := fun d m => by
    obtain ⟨z, a, b, c, r, sl, rfl, hz, ma, mb, nab, hc, hra, hsl⟩ := dyke_shape (gd.all d m)
    exact sm6 (sstr (nameS_len hz)) (sstr (zlen a ma)) (sstr (zlen b mb)) rfl rfl (by rcases sill_shape hsl with rfl | ⟨i, rfl⟩ <;> rfl)
  have nml : ∀ y ∈ ds.map nmOf, y.length ≤ 1000 := fun y my => by
    obtain ⟨d, m, rfl⟩ := List.mem_map.mp my
    obtain ⟨z, a, b, c, r, sl, rfl, hz, _⟩ := dyke_shape (gd.all d m)
    have := nameS_len hz
    show z.length ≤ 1000
    omega
  have fin : ∀ (Hz : Hp) (p5 : Addr) (ve : V) (e' : Dv), Same H Hz → H p5 = none → Hz p5 = some (.lst (us.take k ++ [ve] ++ us.drop (k + 1))) → Is (del X Hz) e' ve → small e' = true → (isDyke zs e' = false ∨ ∃ d ∈ ds.take k ++ ds.drop (k + 1), firstS d = firstS e') → Q (.ref p5) Hz := fun Hz p5 ve e' S n5 h5 ie se bad => by
    refine q p5 _ (ds.take k ++ [e'] ++ ds.drop (k + 1)) Hz S n5 h5 (IsL.app (IsL.drop (k + 1) (IsL.same (dsame S) _ _ il0)) (IsL.snoc ie (IsL.take k (IsL.same (dsame S) _ _ il0)))) (lst_small (fun d m => ?_) ?_) ?_
    · rcases List.mem_append.mp m with m | m
      · rcases List.mem_append.mp m with m | m
        · exact smf d (List.mem_of_mem_take m)
        · rw [List.mem_singleton.mp m]
          exact se
      · exact smf d (List.mem_of_mem_drop m)
    · rw [List.length_append, List.length_append, List.length_take, List.length_drop]
      show _ + 1 + _ ≤ _
      omega
    · show ((_ && _) && (List.all _ _ && _)) = false
      rw [bad_one bad, Bool.and_false]
  refine ⟨_, rfl, _, _, rfl, rfl, (posI rfl), ?_⟩
  have w0 : 0 ≤ m % 8 := Int.emod_nonneg _ (by decide)
  have w8 : m % 8 < 8 := Int.emod_lt_of_pos _ (by decide)
  dsimp only
  generalize m % 8 = ww at w0 w8
  refine ⟨_, rfl, rfl, _, rfl, ?_⟩
  rw [dec_int]
  refine ite2 (fun w1 => ?_) (fun w1 => ?_)
  · refine ⟨_, rfl, _, rfl, _, rfl, l, us, rfl, SqL.of (R _ _ hl), fun p1 hp1 => ?_⟩
    rw [cut_take3]
    have A1 := Same.upd (o := .lst (us.take k)) hp1
    have B1 := R.trans A1
    refine ⟨_, rfl, t, _, rfl, .inr (SqT.of (B1 _ _ o)), fun p2 hp2 => ?_⟩
    have A2 := Same.upd (o := .lst [.str z, .str a, .str b, .int c, .int r, sv]) hp2
    have B2 := B1.trans A2
    refine ⟨_, rfl, _, rfl, t, _, rfl, SqT.of (B2 _ _ o), (fun h => absurd h.2 (show ¬ HT.sIx 6 6 (some 5) = 6 by decide)), fun p3 hp3 => ?_⟩
    rw [cut_take35]
    have A3 := Same.upd (o := .tup [.str z, .str a, .str b, .int c, .int r]) hp3
    have B3 := B2.trans A3
    refine ⟨_, rfl, small_le rfl, fun p4 hp4 => ?_⟩
    have A4 := Same.upd (o := .tup [.non]) hp4
    have B4 := B3.trans A4
    refine ⟨t, p4, _, _, rfl, rfl, SqT.of (B4 _ _ o), SqT.of upd_same, by simp, small_le rfl, (fun h => by cases h), fun _ p5 hp5 => ?_⟩
    have A5 := Same.upd (o := .tup ([.str z, .str a, .str b, .int c, .int r, sv] ++ [.non])) hp5
    have B5 := B4.trans A5
    refine ⟨_, rfl, t, _, 0, .str z, rfl, rfl, SqT.of (B5 _ _ o), atI_nat (j := 0) rfl, small_le rfl, fun p6 hp6 => ?_⟩
    have A6 := Same.upd (o := .lst [.ref p2, .ref p3, .ref p5, .str z]) hp6
    have B6 := B5.trans A6
    have d2 := (A3.trans (A4.trans (A5.trans A6))) _ _ upd_same
    have d3 := (A4.trans (A5.trans A6)) _ _ upd_same
    have d5 := A6 _ _ upd_same
    have d1 := (A2.trans (A3.trans (A4.trans (A5.trans A6)))) _ _ upd_same
    have d6 : _ = some (HO.lst [.ref p2, .ref p3, .ref p5, .str z]) := upd_same (H := upd (upd (upd (upd (upd H1 p1 (.lst (us.take k))) p2 (.lst [.str z, .str a, .str b, .int c, .int r, sv])) p3 (.tup [.str z, .str a, .str b, .int c, .int r])) p4 (.tup [.non])) p5 (.tup ([.str z, .str a, .str b, .int c, .int r, sv] ++ [.non]))) (a := p6)
    have il4 : IsL (del X _) [.lst [.str z, .str a, .str b, .int c, .int r, sl], .tup [.str z, .str a, .str b, .int c, .int r], .tup [.str z, .str a, .str b, .int c, .int r, sl, .non], .str z] [.ref p2, .ref p3, .ref p5, .str z] :=
      ⟨_, _, rfl, ⟨p2, _, rfl, ndel hX (B1.free hp2) d2, _, _, rfl, rfl, _, _, rfl, rfl, _, _, rfl, rfl, _, _, rfl, rfl, _, _, rfl, rfl, _, _, rfl, isv _, rfl⟩, _, _, rfl, ⟨p3, _, rfl, ndel hX (B2.free hp3) d3, _, _, rfl, rfl, _, _, rfl, rfl, _, _, rfl, rfl, _, _, rfl, rfl, _, _, rfl, rfl, rfl⟩, _, _, rfl, ⟨p5, _, rfl, ndel hX (B4.free hp5) d5, _, _, rfl, rfl, _, _, rfl, rfl, _, _, rfl, rfl, _, _, rfl, rfl, _, _, rfl, rfl, _, _, rfl, isv _, _, _, rfl, rfl, rfl⟩, _, _, rfl, rfl, rfl⟩
    obtain ⟨d', v', md', ev', iv'⟩ := isl_at il4 (i := m / 8 % 4) (Int.emod_nonneg _ (by decide)) (Int.emod_lt_of_pos _ (by decide))
    refine ⟨_, rfl, _, _, rfl, rfl, ⟨by decide, by decide⟩, _, _, rfl, rfl, (posI rfl), p6, _, _, v', rfl, rfl, SqL.of d6, ev', ?_⟩
    refine ⟨small_le rfl, fun p7 hp7 => ?_⟩
    have A7 := Same.upd (o := .lst [v']) hp7
    have B7 := B6.trans A7
    refine ⟨p1, p7, _, _, rfl, rfl, A7 _ _ d1, upd_same, by rw [List.length_take]; show _ + 1 ≤ _; omega, fun p8 hp8 => ?_⟩
    have A8 := Same.upd (o := .lst (us.take k ++ [v'])) hp8
    have B8 := B7.trans A8
    refine ⟨_, rfl, _, rfl, _, _, rfl, rfl, _, rfl, l, us, rfl, SqL.of (B8 _ _ hl), fun p9 hp9 => ?_⟩
    rw [cut_drop31]
    have A9 := Same.upd (o := .lst (us.drop (k + 1))) hp9
    have B9 := B8.trans A9
    refine ⟨p8, p9, _, _, rfl, rfl, A9 _ _ upd_same, upd_same, by rw [List.length_append, List.length_take, List.length_drop]; show _ + 1 + _ ≤ _; omega, fun p10 hp10 => ?_⟩
    have A10 := Same.upd (o := .lst (us.take k ++ [v'] ++ us.drop (k + 1))) hp10
    have bad : small d' = true ∧ isDyke zs d' = false := by
      simp only [List.mem_cons, List.not_mem_nil, or_false] at md'
      rcases md' with rfl | rfl | rfl | rfl
      · exact ⟨lst_small (fun d m => by simp only [List.mem_cons, List.not_mem_nil, or_false] at m; rcases m with rfl | rfl | rfl | rfl | rfl | rfl; exact sz; exact sa; exact sb; rfl; rfl; exact ssl) (show 6 ≤ 1000 by decide), rfl⟩
      · refine ⟨?_, rfl⟩
        show (decide (5 ≤ 1000) && (small _ && (small _ && (small _ && (true && (true && true)))))) = true
        rw [sz, sa, sb]; rfl
      · refine ⟨?_, rfl⟩
        show (decide (7 ≤ 1000) && (small _ && (small _ && (small _ && (true && (true && (small _ && (true && true)))))))) = true
        rw [sz, sa, sb, ssl]; rfl
      · exact ⟨sz, rfl⟩
    exact fin _ p10 v' d' (B9.trans A10) (B9.free hp10) upd_same (Is.same (dsame (A7.trans (A8.trans (A9.trans A10)))) _ _ iv') bad.1 (.inl bad.2)
  have nw0 : ww ≠ 0 := fun z => w1 (by rw [z]; rfl)
  unfold tNext
  dsimp only
  refine seqIfJoin (fun σ' H' => σ' = [some (.ref l), some (.int m), some (.int k), some (.ref t), some (.ref lo), some (.ref lw), some (.int ww)] ∧ ∃ v0 v1 v2 v3 v4 v5 e0 e1 e2 e3 e4 e5, Same H H' ∧ H' lw = some (.lst [v0, v1, v2, v3, v4, v5]) ∧ IsL (del X H') [e0, e1, e2, e3, e4, e5] [v0, v1, v2, v3, v4, v5] ∧ small (.tup [e0, e1, e2, e3, e4, e5]) = true ∧ (isDyke zs (.tup [e0, e1, e2, e3, e4, e5]) = false ∨ ∃ d ∈ ds.take k ++ ds.drop (k + 1), firstS d = firstS (.tup [e0, e1, e2, e3, e4, e5]))) (fun σ' H' hR => ?_) (fun D' hD => ?_)
  rotate_left
  · have put : ∀ {H5 : Hp} {v : V} {d : Dv} (o : HO), (∀ G, NewOf H1 H5 G → Is G d v) → Is (del X (upd H5 lw o)) d v := fun o iv => iv _ (fun b o' e1 e2 => ndel (let ⟨ox, hx⟩ := hX; ⟨ox, R _ _ hx⟩) e1 (by rw [upd_ne (fun z => by rw [z, hlw1] at e1; cases e1)]; exact e2))
    refine ⟨_, rfl, rfl, _, rfl, ?_⟩
    rw [dec_int]
    dsimp only
    have pm : (0 : Int) < (if ((((ds.map nmOf).filter fun y => !decide (y = z)).map V.str).length : Int) > 1 then ((((ds.map nmOf).filter fun y => !decide (y = z)).map V.str).length : Int) else 1) := by split <;> omega
    refine iteJ ?_ (fun nam w2 => ?_)
    · refine ⟨_, rfl, _, _, rfl, rfl, ⟨by decide, by decide⟩, _, rfl, _, rfl, _, _, rfl, rfl, ⟨by decide, by decide⟩, _, _, rfl, rfl, (posI rfl), _, rfl, lo, _, rfl, .inl (SqL.of hlo1), _, _, rfl, _, _, rfl, rfl, pm, ?_⟩
      obtain ⟨j, hj⟩ := Int.eq_ofNat_of_zero_le (show 0 ≤ m / 120 % 39 % (if ((((ds.map nmOf).filter fun y => !decide (y = z)).map V.str).length : Int) > 1 then ((((ds.map nmOf).filter fun y => !decide (y = z)).map V.str).length : Int) else 1) from Int.emod_nonneg _ (by omega))
      dsimp only
      rw [hj]
      refine ⟨_, rfl, lo, _, rfl, SqL.of hlo1, fun q1 hq1 => ?_⟩
      rw [cut_drop3]
      have A1 := Same.upd (o := .lst ((((ds.map nmOf).filter fun y => !decide (y = z)).map V.str).drop j)) hq1
      refine ⟨_, _, rfl, _, q1, ((ds.map nmOf).filter fun y => !decide (y = z)).drop j, rfl, rfl, by rw [upd_same, List.map_drop], ?_, fun v d H5 S5 iv5 bad sd => ?_⟩
      · intro y my
        exact nml y (List.mem_filter.mp (List.mem_of_mem_drop my)).1
      have hlw5 : H5 lw = some (.lst [.str z, .str a, .str b, .int c, .int r, sv]) := S5 _ _ (A1 _ _ hlw1)
      refine ⟨_, rfl, lw, _, 0, rfl, rfl, hlw5, by simp, ?_⟩
      refine hD _ _ ⟨rfl, v, .str a, .str b, .int c, .int r, sv, d, .str a, .str b, .int c, .int r, sl, (R.trans (A1.trans S5)).over nlw, upd_same, ⟨_, _, rfl, put _ (fun G g => iv5 G (fun b o e1 e2 => g b o (A1.free e1) e2)), _, _, rfl, rfl, _, _, rfl, rfl, _, _, rfl, rfl, _, _, rfl, rfl, _, _, rfl, isv _, rfl⟩, sm6 sd sa sb rfl rfl ssl, ?_⟩
      rcases bad with bad | ⟨y, my, rfl⟩
      · left
        show (isName d && _ && _) = false
        rw [bad, Bool.false_and, Bool.false_and]
      · right
        obtain ⟨my1, my2⟩ := List.mem_filter.mp (List.mem_of_mem_drop my)
        obtain ⟨d', md', rfl⟩ := List.mem_map.mp my1
        refine ⟨d', other_at ed md' (fun e => ?_), ?_⟩
        · rw [e] at my2
          have : (!decide (z = z)) = true := my2
          simp at this
        · obtain ⟨z', a', b', c', r', s', rfl, _⟩ := dyke_shape (gd.all d' md')
          rfl
    have nw1 : ww ≠ 1 := fun e => by rw [e] at w2; cases w2
    refine ⟨_, rfl, rfl, _, rfl, ?_⟩
    rw [dec_int]
    refine ite2 (fun _ => nam) (fun w3 => ?_)
    have nw7 : ww ≠ 7 := fun e => w3 (by rw [e]; rfl)
    refine ⟨_, rfl, _, _, rfl, rfl, _, rfl, ?_⟩
    refine ite2 (fun w4 => ?_) (fun w4 => ?_)
    · have w4' : ww < 4 := of_decide_eq_true w4
      have side : ∀ {d : Dv} {x : Str}, (d = .str x ∨ (∃ z ∈ oddS, d = .str z) ∨ isStr d = false) → areSides zs d (.str x) = false ∧ areSides zs (.str x) d = false := fun h => by
        rcases h with rfl | h
        · exact ⟨sides_same, sides_same⟩
        · have := oneOf_odd odd h
          constructor
          · show (oneOf zs _ && _) = false
            rw [this, Bool.false_and]
          · show (oneOf zs _ && (oneOf zs _ && _)) = false
            rw [this, Bool.false_and, Bool.and_false]
      rcases (show ww = 2 ∨ ww = 3 by omega) with rfl | rfl
      · refine ⟨_, rfl, _, rfl, _, _, rfl, rfl, _, rfl, _, _, rfl, rfl, ⟨by decide, by decide⟩, _, _, _, rfl, t, z, a, b, c, r, sv, 1, _, rfl, R _ _ o, rfl, .inl rfl, rfl, by have := zlen a ma; omega, by have := zlen b mb; omega, fun v d H5 S5 iv5 sd bad => ?_⟩
        refine ⟨_, rfl, _, rfl, _, _, rfl, rfl, lw, _, 1, rfl, rfl, S5 _ _ hlw1, by simp, ?_⟩
        refine hD _ _ ⟨rfl, .str z, v, .str b, .int c, .int r, sv, .str z, d, .str b, .int c, .int r, sl, (R.trans S5).over nlw, upd_same, ⟨_, _, rfl, rfl, _, _, rfl, put _ iv5, _, _, rfl, rfl, _, _, rfl, rfl, _, _, rfl, rfl, _, _, rfl, isv _, rfl⟩, sm6 sz sd sb rfl rfl ssl, .inl ?_⟩
        show (isName _ && areSides zs d (.str b) && _) = false
        rw [show areSides zs d (.str b) = false from (side (x := b) bad).1, Bool.and_false, Bool.false_and]
      · refine ⟨_, rfl, _, rfl, _, _, rfl, rfl, _, rfl, _, _, rfl, rfl, ⟨by decide, by decide⟩, _, _, _, rfl, t, z, a, b, c, r, sv, 2, _, rfl, R _ _ o, rfl, .inr rfl, rfl, by have := zlen a ma; omega, by have := zlen b mb; omega, fun v d H5 S5 iv5 sd bad => ?_⟩
        refine ⟨_, rfl, _, rfl, _, _, rfl, rfl, lw, _, 2, rfl, rfl, S5 _ _ hlw1, by simp, ?_⟩
        refine hD _ _ ⟨rfl, .str z, .str a, v, .int c, .int r, sv, .str z, .str a, d, .int c, .int r, sl, (R.trans S5).over nlw, upd_same, ⟨_, _, rfl, rfl, _, _, rfl, rfl, _, _, rfl, put _ iv5, _, _, rfl, rfl, _, _, rfl, rfl, _, _, rfl, isv _, rfl⟩, sm6 sz sa sd rfl rfl ssl, .inl ?_⟩
        show (isName _ && areSides zs (.str a) d && _) = false
        rw [show areSides zs (.str a) d = false from (side (x := a) bad).2, Bool.and_false, Bool.false_and]
    · refine ⟨_, rfl, rfl, _, rfl, ?_⟩
      rw [dec_int]
      refine ite2 (fun w5 => ?_) (fun w5 => ?_)
      · refine ⟨_, rfl, _, _, rfl, rfl, ⟨by decide, by decide⟩, _, _, rfl, rfl, ⟨by decide, by decide, by decide⟩, _, _, rfl, rfl, _, _, rfl, _, _, rfl, rfl, fun v d H5 S5 iv5 bad sd => ?_⟩
        refine ⟨_, rfl, lw, _, 3, rfl, rfl, S5 _ _ hlw1, by simp, ?_⟩
        refine hD _ _ ⟨rfl, .str z, .str a, .str b, v, .int r, sv, .str z, .str a, .str b, d, .int r, sl, (R.trans S5).over nlw, upd_same, ⟨_, _, rfl, rfl, _, _, rfl, rfl, _, _, rfl, rfl, _, _, rfl, put _ iv5, _, _, rfl, rfl, _, _, rfl, isv _, rfl⟩, sm6 sz sa sb sd rfl ssl, .inl ?_⟩
        show (_ && _ && (isHeight d && _)) = false
        rw [okN_height d, show okN (-1000000) d = false from bad, Bool.false_and, Bool.and_false]
      · refine ⟨_, rfl, rfl, _, rfl, ?_⟩
        rw [dec_int]
        refine ite2 (fun w6 => ?_) (fun w6 => ?_)
        · refine ⟨_, rfl, _, _, rfl, rfl, ⟨by decide, by decide⟩, _, _, rfl, _, _, rfl, rfl, fun v d H5 S5 iv5 bad sd => ?_⟩
          refine ⟨_, rfl, lw, _, 4, rfl, rfl, S5 _ _ hlw1, by simp, ?_⟩
          refine hD _ _ ⟨rfl, .str z, .str a, .str b, .int c, v, sv, .str z, .str a, .str b, .int c, d, sl, (R.trans S5).over nlw, upd_same, ⟨_, _, rfl, rfl, _, _, rfl, rfl, _, _, rfl, rfl, _, _, rfl, rfl, _, _, rfl, put _ iv5, _, _, rfl, isv _, rfl⟩, sm6 sz sa sb rfl sd ssl, .inl ?_⟩
          show (_ && _ && (isHeight (.int c) && (isAmount d && _))) = false
          rw [okN_amount d, bad, Bool.false_and, Bool.and_false, Bool.and_false]
        · refine ⟨_, rfl, _, rfl, _, _, rfl, rfl, ⟨by decide, by decide⟩, _, _, rfl, t, z, a, b, c, r, sv, _, rfl, R _ _ o, rfl, fun v d H5 S5 iv5 sd bad => ?_⟩
          refine ⟨_, rfl, lw, _, 5, rfl, rfl, S5 _ _ hlw1, by simp, ?_⟩
          refine hD _ _ ⟨rfl, .str z, .str a, .str b, .int c, .int r, v, .str z, .str a, .str b, .int c, .int r, d, (R.trans S5).over nlw, upd_same, ⟨_, _, rfl, rfl, _, _, rfl, rfl, _, _, rfl, rfl, _, _, rfl, rfl, _, _, rfl, rfl, _, _, rfl, put _ iv5, rfl⟩, sm6 sz sa sb rfl rfl sd, .inl ?_⟩
          show (_ && _ && (isHeight (.int c) && (isAmount (.int r) && isSill (.int c) d))) = false
          rw [bad, Bool.and_false, Bool.and_false, Bool.and_false]
  obtain ⟨rfl, v0, v1, v2, v3, v4, v5, e0, e1, e2, e3, e4, e5, S1, hw1, iw1, sw1, bad⟩ := hR
  refine ⟨_, rfl, _, rfl, _, rfl, l, us, rfl, SqL.of (S1 _ _ hl), fun p1 hp1 => ?_⟩
  rw [cut_take3]
  have A1 := Same.upd (o := .lst (us.take k)) hp1
  have B1 := S1.trans A1
  refine ⟨_, rfl, lw, _, rfl, .inl ⟨SqL.of (A1 _ _ hw1), fun p2 hp2 => ?_⟩⟩
  have A2 := Same.upd (o := .tup [v0, v1, v2, v3, v4, v5]) hp2
  have B2 := B1.trans A2
  refine ⟨small_le rfl, fun p7 hp7 => ?_⟩
  have A7 := Same.upd (o := .lst [.ref p2]) hp7
  have B7 := B2.trans A7
  refine ⟨p1, p7, _, _, rfl, rfl, (A2.trans A7) _ _ upd_same, upd_same, by rw [List.length_take]; show _ + 1 ≤ _; omega, fun p8 hp8 => ?_⟩
  have A8 := Same.upd (o := .lst (us.take k ++ [.ref p2])) hp8
  have B8 := B7.trans A8
  refine ⟨_, rfl, _, rfl, _, _, rfl, rfl, _, rfl, l, us, rfl, SqL.of (B8 _ _ hl), fun p9 hp9 => ?_⟩
  rw [cut_drop31]
  have A9 := Same.upd (o := .lst (us.drop (k + 1))) hp9
  have B9 := B8.trans A9
  refine ⟨p8, p9, _, _, rfl, rfl, A9 _ _ upd_same, upd_same, by rw [List.length_append, List.length_take, List.length_drop]; show _ + 1 + _ ≤ _; omega, fun p10 hp10 => ?_⟩
  have A10 := Same.upd (o := .lst (us.take k ++ [.ref p2] ++ us.drop (k + 1))) hp10
  exact fin _ p10 (.ref p2) (.tup [e0, e1, e2, e3, e4, e5]) (B9.trans A10) (B9.free hp10) upd_same ⟨p2, _, rfl, ndel hX (B1.free hp2) ((A7.trans (A8.trans (A9.trans A10))) _ _ upd_same), IsL.same (dsame (A1.trans (A2.trans (A7.trans (A8.trans (A9.trans A10)))))) _ _ iw1⟩ sw1 bad

def spBadLs : Sp := sp3 fun x y u H Q => ∃ (X l : Addr) (us : List V) (ds : List Dv) (most : Nat) (n : Int), (∃ o, H X = some o) ∧ l ≠ X ∧ x = .ref l ∧ H l = some (.lst us) ∧ IsL (del X H) ds us ∧ (∀ d ∈ ds, small d = true) ∧ (∃ z a r, ds[0]? = some (.tup (.str z :: a :: r))) ∧ ds.length ≤ most ∧ most ≤ 40 ∧ y = .int most ∧ u = .int n ∧
  ∀ (v : V) (d : Dv) (H' : Hp), Same H H' → Is (del X H') d v → small d = true → (isLst d = false ∨ d = .lst [] ∨ (∃ es, d = .lst es ∧ most < es.length) ∨ d = .lst [.lst ds]) → Q v H'
theorem small_15 {z : Str} {t : Addr} : ([(Sum.inr z, V.ref t)] : List (Key × V)).length ≤ 15 := by simp
theorem merge_one {z : Str} {t : Addr} : mergeK [] ([(Sum.inr z, V.ref t)] : List (Key × V)) = [(Sum.inr z, V.ref t)] := rfl
open PyProof.Rows in
theorem ok_l_bad_list (T : Txt K mg C) : Fc P w K mg base 1 "_law_bad_list" ["_law_things", "_law_most", "_law_cell"] spBadLs := by
  refine T.d_l_bad_list.fc sc_l_bad_list len3 (fun f cdv A outer s H vs Q E hr h => ?_)
  obtain ⟨x, y, u, rfl, X, l, us, ds, most, n, hX, nlX, rfl, hl, il, sml, ⟨z, a, r, e0⟩, lm, m40, rfl, rfl, q⟩ := h
  have big := big1000
  have lus := il.length
  obtain ⟨v0, ev0, iv0⟩ := il.get e0
  obtain ⟨t, ts, rfl, o0, w0, r0, rfl, i0, w1, r1, rfl, i1, ir⟩ := id iv0
  have o := del_same X H _ _ o0
  cases (show w0 = .str z from i0)
  have st := sml _ (List.mem_of_getElem? e0)
  have lr := ir.length
  refine ⟨_, (@pss_cons _ _ _ _ _ (@ps_set _ _ (3) _ _ _ _ sc_l_bad_list.nd rfl (Or.inr rfl) (@pe_ix _ _ _ _ _ _ _ (@ix_listB _ (K) rfl) (pv 0) pe_int (fun _ _ => rfl)) (by rfl) (by first | exact .inl rfl | exact .inr rfl | assumption)) (@pss_cons _ _ _ _ _ (@ps_if _ _ _ _ _ _ _ _ (@pt_cmpR _ _ _ _ _ _ _ _ op_eq (@pe_op _ _ _ _ _ _ _ _ op_mod (pv 2) pe_int) pe_int (@nomark _ _ (by decide) (by decide))) (@pss_one _ _ _ (@ps_ret _ _ _ _ (@pe_op _ _ _ _ _ _ _ _ op_cat (pv 0) (@pe_comp _ _ _ _ _ _ _ _ _ _ _ ["_law_k", "_law_first"] 1 [3] rfl (@pi_range1 _ _ _ _ _ _ rfl T.n_range (@pa_cons _ _ _ _ _ (@pe_op _ _ _ _ _ _ _ _ op_sub (@pe_op _ _ _ _ _ _ _ _ op_add (pv 1) pe_int) (@pe_callB _ _ _ _ _ _ _ _ _ (@call_len_seqB _ (K) rfl) rfl T.n_len boot_len' (@pa_cons _ _ _ _ _ (pv 0) pa_nil (by rfl)) (by decide) (by decide) (by rfl) (by rfl))) pa_nil (by rfl)) (by rfl)) (fun R => @pg_name _ _ (0) _ (show List.Nodup (["_law_k", "_law_first"] : List Str) by decide +kernel) rfl (Or.inl rfl) (by first | exact .inl rfl | exact .inr rfl | assumption)) (@gkeep_name _ _ (by decide)) (fun R => pifs_nil) (fun R => (@pe_op _ _ _ _ _ _ _ _ (@op_catTB _ (K) rfl) (@pe_tup _ _ _ _ _ (@pa_cons _ _ _ _ _ (@pe_op _ _ _ _ _ _ _ _ op_add_str pe_str (@pe_op _ _ _ _ _ _ _ _ op_mul_str (@pe_ix _ _ _ _ _ _ _ ix_str pe_str (@pe_op _ _ _ _ _ _ _ _ op_mod (pv 0) pe_int) (fun _ _ => rfl)) (@pe_op _ _ _ _ _ _ _ _ op_add pe_int (@pe_op _ _ _ _ _ _ _ _ op_fdivB (pv 0) pe_int)))) pa_nil (by rfl))) (@pe_slice _ _ _ _ _ _ _ _ _ _ (@sl_tupB _ (K) rfl) (pv 1) (@po_some _ _ _ pe_int) po_none))) (by rfl) (by rfl) (by rfl) (by rfl) (by rfl) (by rfl) (by rfl) (by intro _; rfl))))) pss_nil) (@pss_one _ _ _ (@ps_ret _ _ _ _ (@pe_ix _ _ _ _ _ _ _ (@ix_listB _ (K) rfl) (@pe_lst _ _ _ _ (@pa_cons _ _ _ _ _ (@pe_callTy _ _ _ _ _ _ _ _ _ call_tuple_of rfl T.n_tuple boot_tuple' (@pa_cons _ _ _ _ _ (pv 0) pa_nil (by rfl)) (by decide) (by decide) (by rfl) (by rfl)) (@pa_cons _ _ _ _ _ pe_non (@pa_cons _ _ _ _ _ pe_str (@pa_cons _ _ _ _ _ (@pe_disp _ _ _ _ _ (@pps_cons _ _ _ _ _ _ _ _ _ (@pe_ix _ _ _ _ _ _ _ (@ix_tupB _ (K) rfl) (pv 3) pe_int (fun _ _ => rfl)) (pv 3) pps_nil) rfl rfl (by simp) (Nat.le_of_ble_eq_true rfl)) (@pa_cons _ _ _ _ _ pe_int (@pa_cons _ _ _ _ _ (@pe_lst _ _ _ _ pa_nil) (@pa_cons _ _ _ _ _ (@pe_lst _ _ _ _ (@pa_cons _ _ _ _ _ (pv 0) pa_nil (by rfl))) pa_nil (by rfl)) (by rfl)) (by rfl)) (by rfl)) (by rfl)) (by rfl)) (by rfl))) (@pe_op _ _ _ _ _ _ _ _ op_mod (@pe_op _ _ _ _ _ _ _ _ op_fdivB (pv 2) pe_int) pe_int) (fun _ _ => rfl)))))), ?_⟩
  refine ⟨_, rfl, l, us, 0, .ref t, rfl, rfl, SqL.of hl, atI_nat (j := 0) ev0, ?_⟩
  refine ⟨_, rfl, _, _, rfl, rfl, (posI rfl), rfl, _, rfl, ?_⟩
  rw [dec_int]
  dsimp only
  have l25 : ("abcdefghijklmnopqrtuvwxyz" : Str).length = 25 := by decide +kernel
  have c25 : ("abcdefghijklmnopqrtuvwxyz" : Str).cps.toList.length = 25 := by decide +kernel
  have st2 := Bool.and_eq_true_iff.mp (show (decide ((Dv.str z :: a :: r).length ≤ 1000) && smallL (.str z :: a :: r)) = true from st)
  have st3 := Bool.and_eq_true_iff.mp (show (small (.str z) && smallL (a :: r)) = true from st2.2)
  refine ite2 (fun c1 => ?_) (fun c1 => ?_)
  · refine ⟨_, rfl, ?_⟩
    refine ⟨_, rfl, _, _, rfl, rfl, _, rfl, l, us, rfl, .inl (SqL.of hl), _, _, rfl, rfl, _, rfl, by show -(2 ^ 62) ≤ (most : Int) + 1 - (us.length : Int); omega, by show (most : Int) + 1 - (us.length : Int) < 2 ^ 62; omega, ?_⟩
    obtain ⟨cnt, hcnt, lcnt⟩ : ∃ cnt : Nat, ((most : Int) + 1 - (us.length : Int)).toNat = cnt ∧ cnt + us.length = most + 1 := ⟨_, rfl, by omega⟩
    rw [hcnt]
    refine comp_range (lo := 0) (n := cnt) (by omega) (fun i ys H' => Same H H' ∧ ∃ es, IsL (del X H') es ys ∧ es.length = i ∧ ∀ d ∈ es, small d = true) ⟨Same.refl _, [], rfl, rfl, fun d m => by cases m⟩ ?_ ?_ ?_
    · rintro i ys H' ⟨_, es, h1, h2, _⟩
      have := h1.length
      omega
    · rintro i ys H' K1 K2 hi ⟨S, es, ie, le, ae⟩ k1 k2
      have b0 : 0 ≤ (0 + (i : Int)) % 25 := Int.emod_nonneg _ (by decide)
      have b1 : (0 + (i : Int)) % 25 < 25 := Int.emod_lt_of_pos _ (by decide)
      obtain ⟨ch, hch⟩ : ∃ ch, atI ("abcdefghijklmnopqrtuvwxyz" : Str).cps.toList ((0 + (i : Int)) % 25) = some ch := by
        obtain ⟨j, hj⟩ := Int.eq_ofNat_of_zero_le b0
        rw [hj]
        exact ⟨_, atI_nat (List.getElem?_eq_getElem (by omega))⟩
      have b2 : 0 ≤ (0 + (i : Int)) / 25 := Int.ediv_nonneg (by omega) (by decide)
      have b3 : (0 + (i : Int)) / 25 ≤ 41 := by omega
      have lm1 := len_mul_one (c := ch) (n := 1 + (0 + (i : Int)) / 25) (N := 50) rfl (by omega)
      refine ⟨_, rfl, _, _, rfl, rfl, (posI rfl), _, _, ch, rfl, rfl, by rw [l25]; omega, hch, _, rfl, _, _, rfl, rfl, ⟨by decide, by decide⟩, _, _, rfl, rfl, _, _, rfl, rfl, by show 1 ≤ 16; decide, by show 1 + _ ≤ _; omega, by show _ ≤ 1 + _; omega, _, _, rfl, rfl, by show 1 + _ ≤ _; omega, small_le rfl, fun p1 hp1 => ?_⟩
      generalize hs : ("s" : Str) ++ Txt.mul ⟨#[ch]⟩ (1 + (0 + (i : Int)) / 25) = ss
      have lss : ss.length ≤ 1000 := by
        rw [← hs, PySem.Str.length_append]
        show 1 + _ ≤ _
        omega
      have S1 := Same.upd (o := .tup [.str ss]) hp1
      refine ⟨_, rfl, _, rfl, t, _, rfl, SqT.of ((S.trans S1) _ _ o), (fun w => ?_), fun p2 hp2 => ?_⟩
      · have h1 := w.1
        rw [show (some (1 : Int)) = some ((1 : Nat) : Int) from rfl, HT.sIx_nat] at h1
        simp only [List.length_cons] at h1
        omega
      rw [show cutV (V.str z :: w1 :: r1) (some 1) none = (V.str z :: w1 :: r1).drop 1 from cut_drop3 _ 1]
      have S2 := Same.upd (o := .tup ((V.str z :: w1 :: r1).drop 1)) hp2
      refine ⟨p1, p2, [.str ss], w1 :: r1, rfl, rfl, SqT.of (S2 _ _ upd_same), SqT.of upd_same, by simp, by simp only [List.length_cons, List.length_nil]; have := of_decide_eq_true st2.1; simp only [List.length_cons] at this; omega, (fun w => by cases w), fun _ p3 hp3 => ?_⟩
      have S3 := Same.upd (o := .tup ([.str ss] ++ (w1 :: r1))) hp3
      have SS := S.trans (S1.trans (S2.trans S3))
      refine k1 _ _ ⟨SS, es ++ [.tup (.str ss :: a :: r)], IsL.snoc (d := .tup (.str ss :: a :: r)) (v := .ref p3) ⟨p3, [.str ss] ++ (w1 :: r1), rfl, ndel hX ((S.trans (S1.trans S2)).free hp3) upd_same, .str ss, w1 :: r1, rfl, rfl, w1, r1, rfl, Is.same (dsame SS) _ _ i1, IsL.same (dsame SS) _ _ ir⟩ (IsL.same (dsame (S1.trans (S2.trans S3))) _ _ ie), by rw [List.length_append, le]; rfl, ?_⟩
      intro d md
      rcases List.mem_append.mp md with md | md
      · exact ae d md
      · rw [List.mem_singleton.mp md]
        show (decide ((Dv.str ss :: a :: r).length ≤ 1000) && (small (.str ss) && smallL (a :: r))) = true
        rw [st3.2, show decide ((Dv.str ss :: a :: r).length ≤ 1000) = true from st2.1, show small (.str ss) = true from decide_eq_true lss]
        rfl
    · rintro ys H' ⟨S, es, ie, le, ae⟩
      have ly := ie.length
      intro pc hpc
      have S1 := Same.upd (o := .lst ys) hpc
      refine ⟨l, pc, us, ys, rfl, rfl, (S.trans S1) _ _ hl, upd_same, by omega, fun pr hpr => ?_⟩
      have S2 := Same.upd (o := .lst (us ++ ys)) hpr
      have SS := S.trans (S1.trans S2)
      refine q (.ref pr) (.lst (ds ++ es)) _ SS ⟨pr, _, rfl, ndel hX ((S.trans S1).free hpr) upd_same, IsL.app (IsL.same (dsame (S1.trans S2)) _ _ ie) (IsL.same (dsame SS) _ _ il)⟩ (lst_small (fun d m => ?_) ?_) (.inr (.inr (.inl ⟨_, rfl, ?_⟩)))
      · rcases List.mem_append.mp m with m | m
        · exact sml d m
        · exact ae d m
      · rw [List.length_append]; omega
      · rw [List.length_append]; omega
  · refine ⟨_, rfl, l, us, rfl, .inl ⟨SqL.of hl, fun p1 hp1 => ?_⟩⟩
    have A1 := Same.upd (o := .tup us) hp1
    intro pd hpd
    have A2 := Same.upd (o := .dK []) hpd
    refine ⟨_, rfl, t, _, 0, .str z, rfl, rfl, SqT.of ((A1.trans A2) _ _ o), atI_nat (j := 0) rfl, _, rfl, upd_same, [(.inr z, .ref t)], rfl, small_15, ?_⟩
    rw [merge_one]
    have npd : H pd = none := A1.free hpd
    have hpd3 : ∀ X : Hp, Same H X → Same H (upd X pd (.dK [(.inr z, .ref t)])) := fun X S => S.over npd
    have B3 := hpd3 _ (A1.trans A2)
    have np1 : p1 ≠ pd := fun e => by rw [e] at hpd; rw [upd_same] at hpd; cases hpd
    have d1 : upd (upd (upd H p1 (.tup us)) pd (.dK [])) pd (.dK [(.inr z, .ref t)]) p1 = some (.tup us) := by rw [upd_ne np1, upd_ne np1, upd_same]
    have dd : upd (upd (upd H p1 (.tup us)) pd (.dK [])) pd (.dK [(.inr z, .ref t)]) pd = some (.dK [(.inr z, .ref t)]) := upd_same
    generalize upd (upd (upd H p1 (.tup us)) pd (.dK [])) pd (.dK [(.inr z, .ref t)]) = H3 at B3 d1 dd
    refine ⟨small_le rfl, fun p3 hp3 => ?_⟩
    have A3 := Same.upd (o := .lst []) hp3
    refine ⟨_, rfl, small_le rfl, fun p4 hp4 => ?_⟩
    have A4 := Same.upd (o := .lst [.ref l]) hp4
    refine ⟨small_le rfl, fun p5 hp5 => ?_⟩
    have A5 := Same.upd (o := .lst [.ref p1, .non, .str "b", .ref pd, .int 5, .ref p3, .ref p4]) hp5
    have A35 := A3.trans (A4.trans A5)
    have B5 := B3.trans A35
    have il7 : IsL (del X (upd (upd (upd H3 p3 (.lst [])) p4 (.lst [.ref l])) p5 (.lst [.ref p1, .non, .str "b", .ref pd, .int 5, .ref p3, .ref p4]))) [.tup ds, .non, .str "b", .dct [.inr z] [.tup (.str z :: a :: r)], .int 5, .lst [], .lst [.lst ds]] [.ref p1, .non, .str "b", .ref pd, .int 5, .ref p3, .ref p4] :=
      ⟨_, _, rfl, ⟨p1, us, rfl, ndel hX hp1 (A35 _ _ d1), IsL.same (dsame B5) _ _ il⟩, _, _, rfl, rfl, _, _, rfl, rfl, _, _, rfl, ⟨pd, [.ref t], rfl, ndel hX npd (A35 _ _ dd), rfl, _, _, rfl, Is.same (dsame B5) _ _ iv0, rfl⟩, _, _, rfl, rfl, _, _, rfl, ⟨p3, [], rfl, ndel hX (B3.free hp3) ((A4.trans A5) _ _ upd_same), rfl⟩, _, _, rfl, ⟨p4, _, rfl, ndel hX ((B3.trans A3).free hp4) (A5 _ _ upd_same), _, _, rfl, ⟨l, us, rfl, del_of nlX (B5 _ _ hl), IsL.same (dsame B5) _ _ il⟩, rfl⟩, rfl⟩
    obtain ⟨d', v', md', ev', iv'⟩ := isl_at il7 (i := n / 3 % 7) (Int.emod_nonneg _ (by decide)) (Int.emod_lt_of_pos _ (by decide))
    refine ⟨_, rfl, _, _, rfl, rfl, ⟨by decide, by decide⟩, _, _, rfl, rfl, (posI rfl), p5, _, _, v', rfl, rfl, SqL.of upd_same, ev', ?_⟩
    have sl := lst_small sml (by omega)
    have bad : small d' = true ∧ (isLst d' = false ∨ d' = .lst [] ∨ (∃ es, d' = .lst es ∧ most < es.length) ∨ d' = .lst [.lst ds]) := by
      simp only [List.mem_cons, List.not_mem_nil, or_false] at md'
      rcases md' with rfl | rfl | rfl | rfl | rfl | rfl | rfl
      · exact ⟨sl, .inl rfl⟩
      · exact ⟨rfl, .inl rfl⟩
      · exact ⟨by decide +kernel, .inl rfl⟩
      · exact ⟨rfl, .inl rfl⟩
      · exact ⟨rfl, .inl rfl⟩
      · exact ⟨rfl, .inr (.inl rfl)⟩
      · exact ⟨lst_small (fun d m => by rw [List.mem_singleton.mp m]; exact sl) (show 1 ≤ 1000 by decide), .inr (.inr (.inr rfl))⟩
    exact q v' d' _ B5 iv' bad.1 bad.2

open Mt05
theorem delU {X : Addr} {H : Hp} {o : HO} : Same (del X H) (del X (upd H X o)) := fun b o' e => by
  unfold del at e ⊢
  by_cases h : b = X
  · rw [if_pos h] at e; cases e
  · rw [if_neg h] at e ⊢; rw [upd_ne h]; exact e
theorem fields_many {es : List Dv} (h : 12 < es.length) : areFields (.lst es) = false := by
  show ((_ && decide (es.length ≤ 12)) && _) = false
  rw [decide_eq_false (show ¬ es.length ≤ 12 by omega), Bool.and_false, Bool.false_and]
theorem dykes_many {zs : List Str} {es : List Dv} (h : 40 < es.length) : areDykes zs (.lst es) = false := by
  show ((_ && decide (es.length ≤ 40)) && _) = false
  rw [decide_eq_false (show ¬ es.length ≤ 40 by omega), Bool.and_false, Bool.false_and]
theorem fields_odd {ds : List Dv} {d : Dv} (h : isLst d = false ∨ d = .lst [] ∨ (∃ es, d = .lst es ∧ 12 < es.length) ∨ d = .lst [.lst ds]) : areFields d = false := by
  rcases h with h | rfl | ⟨es, rfl, h⟩ | rfl
  · cases d with
    | lst x => cases h
    | _ => rfl
  · rfl
  · exact fields_many h
  · rfl
theorem dykes_odd {zs : List Str} {ds : List Dv} {d : Dv} (h : isLst d = false ∨ d = .lst [] ∨ (∃ es, d = .lst es ∧ 40 < es.length) ∨ d = .lst [.lst ds]) : areDykes zs d = false := by
  rcases h with h | rfl | ⟨es, rfl, h⟩ | rfl
  · cases d with
    | lst x => cases h
    | _ => rfl
  · rfl
  · exact dykes_many h
  · rfl
theorem ok_law {f : Addr} {fd : FuncData} (T : Txt K mg C) (F : Fun K "law" "law" s_p_law f fd) : FnOk P w K mg base CX0 10 f fd ["_law_script"] (spLaw K) := by
  have G_l_fields : Fc P w K mg base 3 "_law_fields" ["_law_script", "_law_most"] (spFieldsL K) := ok_l_fields T
  have G_l_dykes : Fc P w K mg base 3 "_law_dykes" ["_law_script", "_law_fields_here", "_law_most"] (spDykesL K) := ok_l_dykes T
  have G_land_pinit : Ic P w K mg base 6 C ["self", "fields", "dykes"] (spInit C) := ok_land_pinit T
  have G_land_p_dykes : Mc P w K mg base 1 C "dykes" ["self"] (spRows C fun _ ds => ds) := ok_land_p_dykes T
  have G_land_p_fields : Mc P w K mg base 1 C "fields" ["self"] (spRows C fun fs _ => fs) := ok_land_p_fields T
  have G_l_cell_at : Fc P w K mg base 1 "_law_cell_at" ["_law_script", "_law_k"] (spCell K) := ok_l_cell_at T
  have G_l_bad_field : Fc P w K mg base 2 "_law_bad_field" ["_law_fields_here", "_law_cell"] spBadFd := ok_l_bad_field T
  have G_l_bad_dyke : Fc P w K mg base 2 "_law_bad_dyke" ["_law_dykes_here", "_law_cell"] spBadDk := ok_l_bad_dyke T
  have G_l_bad_list : Fc P w K mg base 1 "_law_bad_list" ["_law_things", "_law_most", "_law_cell"] spBadLs := ok_l_bad_list T
  have G_l_refused : Fc P w K mg base 8 "_law_refused" ["_law_fields_here", "_law_dykes_here"] (spRefused3 C) := ok_l_refused T
  refine F.ok sc_p_law len1 (fun cdv A outer s H vs Q E hr h => ?_)
  obtain ⟨x, rfl, a, ns, rfl, hS, hl, q⟩ := h
  have big := big1000
  have hu := hu_of hr
  have scr : Scr K H (.ref a) := ⟨a, ns, rfl, hS, hl⟩
  have no : ∀ (e1 e2 : Addr) (m : Str), ¬ m = "dyke_rows" → ¬ m = "field_rows" → (landF e1 e2).lookup m = none := fun e1 e2 m h1 h2 => landF_no _ _ h1 h2
  refine ⟨_, (@pss_cons _ _ _ _ _ (@ps_set _ _ (1) _ _ _ _ sc_p_law.nd rfl (Or.inl rfl) (@pe_c _ _ _ _ _ _ _ _ _ _ G_l_fields (hr.mono (by decide)) (@pa_cons _ _ _ _ _ (pv 0) (@pa_cons _ _ _ _ _ pe_int pa_nil (by rfl)) (by rfl)) (by rfl) (by decide) (by rfl) (by rfl)) (by rfl) (by first | exact .inl rfl | exact .inr rfl | assumption)) (@pss_cons _ _ _ _ _ (@ps_set _ _ (2) _ _ _ _ sc_p_law.nd rfl (Or.inl rfl) (@pe_c _ _ _ _ _ _ _ _ _ _ G_l_dykes (hr.mono (by decide)) (@pa_cons _ _ _ _ _ (pv 0) (@pa_cons _ _ _ _ _ (pv 1) (@pa_cons _ _ _ _ _ pe_int pa_nil (by rfl)) (by rfl)) (by rfl)) (by rfl) (by decide) (by rfl) (by rfl)) (by rfl) (by first | exact .inl rfl | exact .inr rfl | assumption)) (@pss_cons _ _ _ _ _ (@ps_if _ _ _ _ _ _ _ _ (@pt_cmpR _ _ _ _ _ _ _ _ (@op_neD _ hr.units) (@pe_m0 _ _ _ _ _ _ _ _ _ _ _ T.cl_Land G_land_p_fields (hr.mono (by decide)) (@pe_mk _ _ _ _ _ _ _ _ _ _ _ T.mg_Land G_land_pinit (hr.mono (by decide)) (@pa_cons _ _ _ _ _ (pv 1) (@pa_cons _ _ _ _ _ (pv 2) pa_nil (by rfl)) (by rfl)) (by rfl) (by decide) (by rfl) (by rfl)) (by rfl)) (pv 1) (@nomark _ _ (by decide) (by decide))) (@pss_one _ _ _ (@ps_ret _ _ _ _ pe_bl)) pss_nil) (@pss_cons _ _ _ _ _ (@ps_for _ _ _ _ _ _ _ _ PassesOwn.never rfl (@pi_list _ _ _ _ (@pe_op _ _ _ _ _ _ _ _ op_cat (@pe_lst _ _ _ _ (@pa_cons _ _ _ _ _ (@pe_c _ _ _ _ _ _ _ _ _ _ G_l_cell_at (hr.mono (by decide)) (@pa_cons _ _ _ _ _ (pv 0) (@pa_cons _ _ _ _ _ pe_int pa_nil (by rfl)) (by rfl)) (by rfl) (by decide) (by rfl) (by rfl)) pa_nil (by rfl))) (@pe_slice _ _ _ _ _ _ _ _ _ _ (@sl_listB _ (K) rfl) (pv 0) (@po_some _ _ _ pe_int) (@po_some _ _ _ pe_int)))) (@pg_name _ _ (3) _ sc_p_law.nd rfl (Or.inl rfl) (by first | exact .inl rfl | exact .inr rfl | assumption)) (@pss_cons _ _ _ _ _ (@ps_set _ _ (4) _ _ _ _ sc_p_law.nd rfl (Or.inl rfl) (@pe_op _ _ _ _ _ _ _ _ op_mod (@pe_op _ _ _ _ _ _ _ _ op_mul (@pe_op _ _ _ _ _ _ _ _ op_add (@pe_op _ _ _ _ _ _ _ _ op_mod (pv 3) (@pe_op _ _ _ _ _ _ _ _ op_pow pe_int pe_int)) pe_int) pe_int) (@pe_op _ _ _ _ _ _ _ _ op_add (@pe_op _ _ _ _ _ _ _ _ op_pow pe_int pe_int) pe_int)) (by rfl) (by first | exact .inl rfl | exact .inr rfl | assumption)) (@pss_cons _ _ _ _ _ (@ps_set _ _ (5) _ _ _ _ sc_p_law.nd rfl (Or.inl rfl) (@pe_lst _ _ _ _ (@pa_cons _ _ _ _ _ (pv 1) (@pa_cons _ _ _ _ _ (pv 2) pa_nil (by rfl)) (by rfl))) (by rfl) (by first | exact .inl rfl | exact .inr rfl | assumption)) (@pss_cons _ _ _ _ _ (@ps_set _ _ (6) _ _ _ _ sc_p_law.nd rfl (Or.inl rfl) (@pe_op _ _ _ _ _ _ _ _ op_mod (pv 4) pe_int) (by rfl) (by first | exact .inl rfl | exact .inr rfl | assumption)) (@pss_cons _ _ _ _ _ (@ps_set _ _ (4) _ _ _ _ sc_p_law.nd rfl (Or.inl rfl) (@pe_op _ _ _ _ _ _ _ _ op_fdivB (pv 4) pe_int) (by rfl) (by first | exact .inl rfl | exact .inr rfl | assumption)) (@pss_cons _ _ _ _ _ (@ps_if _ _ _ _ _ _ _ _ (@PW.pt _ _ _ (@pw_or _ _ _ _ _ _ _ (@pt_cmpR _ _ _ _ _ _ _ _ op_lt (pv 6) pe_int (@nomark _ _ (by decide) (by decide))) (@pw_or1 _ _ _ _ (@pt_cmpR _ _ _ _ _ _ _ _ op_eq (pv 6) pe_int (@nomark _ _ (by decide) (by decide)))))) (@pss_one _ _ _ (@ps_lput _ _ _ _ _ _ _ _ _ (pv 5) pe_int (@pe_c _ _ _ _ _ _ _ _ _ _ G_l_bad_field (hr.mono (by decide)) (@pa_cons _ _ _ _ _ (pv 1) (@pa_cons _ _ _ _ _ (pv 4) pa_nil (by rfl)) (by rfl)) (by rfl) (by decide) (by rfl) (by rfl)) rfl)) (@pss_one _ _ _ (@ps_if _ _ _ _ _ _ _ _ (@pt_cmpR _ _ _ _ _ _ _ _ op_eq (pv 6) pe_int (@nomark _ _ (by decide) (by decide))) (@pss_one _ _ _ (@ps_lput _ _ _ _ _ _ _ _ _ (pv 5) pe_int (@pe_c _ _ _ _ _ _ _ _ _ _ G_l_bad_list (hr.mono (by decide)) (@pa_cons _ _ _ _ _ (pv 1) (@pa_cons _ _ _ _ _ pe_int (@pa_cons _ _ _ _ _ (pv 4) pa_nil (by rfl)) (by rfl)) (by rfl)) (by rfl) (by decide) (by rfl) (by rfl)) rfl)) (@pss_one _ _ _ (@ps_if _ _ _ _ _ _ _ _ (@pt_cmpR _ _ _ _ _ _ _ _ op_eq (pv 6) pe_int (@nomark _ _ (by decide) (by decide))) (@pss_one _ _ _ (@ps_lput _ _ _ _ _ _ _ _ _ (pv 5) pe_int (@pe_c _ _ _ _ _ _ _ _ _ _ G_l_bad_list (hr.mono (by decide)) (@pa_cons _ _ _ _ _ (pv 2) (@pa_cons _ _ _ _ _ pe_int (@pa_cons _ _ _ _ _ (pv 4) pa_nil (by rfl)) (by rfl)) (by rfl)) (by rfl) (by decide) (by rfl) (by rfl)) rfl)) pss_nil))))) (@pss_cons _ _ _ _ _ (@ps_if _ _ _ _ _ _ _ _ (@pt_cmpR _ _ _ _ _ _ _ _ op_gt (pv 6) pe_int (@nomark _ _ (by decide) (by decide))) (@pss_one _ _ _ (@ps_lput _ _ _ _ _ _ _ _ _ (pv 5) pe_int (@pe_c _ _ _ _ _ _ _ _ _ _ G_l_bad_dyke (hr.mono (by decide)) (@pa_cons _ _ _ _ _ (pv 2) (@pa_cons _ _ _ _ _ (@pe_op _ _ _ _ _ _ _ _ op_fdivB (pv 4) (@pe_op _ _ _ _ _ _ _ _ op_pow pe_int pe_int)) pa_nil (by rfl)) (by rfl)) (by rfl) (by decide) (by rfl) (by rfl)) rfl)) pss_nil) (@pss_one _ _ _ (@ps_if _ _ _ _ _ _ _ _ (@pt_not _ _ _ _ (@pt_val _ _ _ (@pe_c _ _ _ _ _ _ _ _ _ _ G_l_refused (hr.mono (by decide)) (@pa_cons _ _ _ _ _ (@pe_ix _ _ _ _ _ _ _ (@ix_listB _ (K) rfl) (pv 5) pe_int (fun _ _ => rfl)) (@pa_cons _ _ _ _ _ (@pe_ix _ _ _ _ _ _ _ (@ix_listB _ (K) rfl) (pv 5) pe_int (fun _ _ => rfl)) pa_nil (by rfl)) (by rfl)) (by rfl) (by decide) (by rfl) (by rfl)) (by intro _; rfl))) (@pss_one _ _ _ (@ps_ret _ _ _ _ pe_bl)) pss_nil)))))))) (by intro _; rfl)) (@pss_one _ _ _ (@ps_ret _ _ _ _ (@pe_cmpR _ _ _ _ _ _ _ _ (@op_eqD _ hr.units) (@pe_m0 _ _ _ _ _ _ _ _ _ _ _ T.cl_Land G_land_p_dykes (hr.mono (by decide)) (@pe_mk _ _ _ _ _ _ _ _ _ _ _ T.mg_Land G_land_pinit (hr.mono (by decide)) (@pa_cons _ _ _ _ _ (pv 1) (@pa_cons _ _ _ _ _ (pv 2) pa_nil (by rfl)) (by rfl)) (by rfl) (by decide) (by rfl) (by rfl)) (by rfl)) (pv 2) (@nomark _ _ (by decide) (by decide))))))))), ?_⟩
  refine ⟨_, rfl, _, _, rfl, 12, scr, rfl, by decide, by decide, fun lf vf fs H1 S1 fl1 hf0 hif0 gf nosf => ?_⟩
  refine ⟨_, rfl, _, rfl, _, _, _, rfl, 40, lf, vf, fs, 12, scr.same S1, rfl, hf0, hif0, gf, by decide, rfl, by decide, by decide, fun ld vd ds H2 S2 fl2 hd hid gd => ?_⟩
  have T2 := S1.trans S2
  have hf := S2 _ _ hf0
  have hif := IsL.same S2 _ _ hif0
  clear hf0 hif0
  have f1 := gf.l1
  have f2 := gf.l2
  have d1 := gd.l1
  have d2 := gd.l2
  have lvd := hid.length
  have okf := fields_ok gf (by decide)
  have okd := dykes_ok gd (by decide)
  have GF := (goodF_iff _).mp okf
  have GD := (goodD_iff _ _).mp okd
  have smf1 : ∀ d ∈ fs, small d = true := fun d m => field_small (gf.all d m)
  have smd1 : ∀ d ∈ ds, small d = true := fun d m => dyke_small gf.all (gd.all d m)
  have smf : small (.lst fs) = true := lst_small smf1 (by omega)
  have smd : small (.lst ds) = true := lst_small smd1 (by omega)
  have ffs : flatTo 30 (.lst fs) = true := flat_lst fun d m => field_flat (gf.all d m)
  have fds : flatTo 30 (.lst ds) = true := flat_lst fun d m => dyke_flat (gd.all d m)
  have zlen : ∀ z ∈ (("sea" : Str) :: fs.map nmOf), z.length ≤ 8 := fun z m => by
    rcases List.mem_cons.mp m with rfl | m
    · decide +kernel
    · obtain ⟨d, md, rfl⟩ := List.mem_map.mp m
      obtain ⟨z, g, e, rfl, hz, _⟩ := field_shape (gf.all d md)
      exact nameS_len hz
  have odd : ∀ z ∈ oddS, ¬ z ∈ (("sea" : Str) :: fs.map nmOf) := fun z m => by
    have nm : ∀ y ∈ fs.map nmOf, nameS y = true ∧ noS y := fun y my => by
      refine ⟨?_, nosf y my⟩
      obtain ⟨d, md, rfl⟩ := List.mem_map.mp my
      obtain ⟨z, g, e, rfl, hz, _⟩ := field_shape (gf.all d md)
      exact hz
    unfold oddS at m
    simp only [List.mem_cons, List.not_mem_nil, or_false] at m
    intro mz
    rcases m with rfl | rfl | rfl | rfl <;> rcases List.mem_cons.mp mz with h | h
    · exact absurd h (by decide +kernel)
    · exact (nm _ h).2 (by decide +kernel)
    · exact absurd h (by decide +kernel)
    · exact (nm _ h).2 (by decide +kernel)
    · exact absurd h (by decide +kernel)
    · exact absurd (nm _ h).1 (by decide +kernel)
    · exact absurd h (by decide +kernel)
    · exact absurd (nm _ h).1 (by decide +kernel)
  refine ⟨_, rfl, _, rfl, fun p dx np ndx nex => ?_⟩
  have S3' : Same H2 (upd (upd H2 dx (.own p)) p (.ins C dx [])) := fun b o e => by
    rw [upd_ne (ne_of_none e np), upd_ne (ne_of_none e ndx)]
    exact e
  refine ⟨_, _, _, rfl, p, dx, fs, ds, rfl, upd_same, ⟨lf, vf, rfl, S3' _ _ hf, IsL.same S3' _ _ hif⟩, ⟨ld, vd, rfl, S3' _ _ hd, IsL.same S3' _ _ hid⟩, smf, smd, okf, okd, fun H3 L fr => ⟨rfl, ?_⟩⟩
  have S3 : Same H2 H3 := fun b o e => fr b o (S3' _ _ e) (ne_of_none e np)
  obtain ⟨dxa, x1, x2, hxa, _⟩ := L.ex
  refine ⟨p, dxa, _, rfl, hxa, no _ _ _ (by decide +kernel) (by decide +kernel), _, rfl, p, fs, ds, rfl, L, fun l4 v4 H4 S4 fl4 hl4 hi4 => ?_⟩
  have T4 := S3.trans S4
  refine ⟨_, rfl, neD_self (d := .lst fs) ⟨l4, _, rfl, hl4, hi4⟩ ⟨lf, _, rfl, T4 _ _ hf, IsL.same T4 _ _ hif⟩ ffs ⟨_, rfl, iteF ?_⟩⟩
  have hf9 := T4 _ _ hf
  have hif9 := IsL.same T4 _ _ hif
  have hd9 := T4 _ _ hd
  have hid9 := IsL.same T4 _ _ hid
  have sq9 := (T2.trans T4).seq hS
  clear hd hid hf hif S3' fr hxa L S3 S4 T4
  have cutl : (cutV (ns.map V.int) (some 3) (some 42)).length ≤ 63 := by
    unfold cutV
    rw [List.length_take, List.length_drop, List.length_map]
    omega
  have cutm : ∀ x ∈ V.int (ns.getD (Int.toNat 2) 0) :: cutV (ns.map V.int) (some 3) (some 42), ∃ n : Int, x = .int n := fun x m => by
    rcases List.mem_cons.mp m with rfl | m
    · exact ⟨_, rfl⟩
    · unfold cutV at m
      obtain ⟨n, _, rfl⟩ := List.mem_map.mp (List.mem_of_mem_drop (List.mem_of_mem_take m))
      exact ⟨_, rfl⟩
  refine ⟨_, rfl, _, _, rfl, a, ns, 2, rfl, rfl, sq9, hl, by decide, small_le rfl, fun q1 hq1 => ?_⟩
  have Z1 := Same.upd (o := .lst [.int (ns.getD (Int.toNat 2) 0)]) hq1
  refine ⟨_, rfl, _, rfl, _, rfl, a, _, rfl, Z1.seq sq9, fun q2 hq2 => ?_⟩
  have Z2 := Same.upd (o := .lst (cutV (ns.map V.int) (some 3) (some 42))) hq2
  refine ⟨q1, q2, _, _, rfl, rfl, Z2 _ _ upd_same, upd_same, (by simp only [List.length_singleton]; omega), fun q3 hq3 => ?_⟩
  have Z3 := Same.upd (o := .lst ([V.int (ns.getD (Int.toNat 2) 0)] ++ cutV (ns.map V.int) (some 3) (some 42))) hq3
  have hq10 : upd (upd (upd H4 q1 (.lst [.int (ns.getD (Int.toNat 2) 0)])) q2 (.lst (cutV (ns.map V.int) (some 3) (some 42)))) q3 (.lst ([V.int (ns.getD (Int.toNat 2) 0)] ++ cutV (ns.map V.int) (some 3) (some 42))) q3 = some (.lst (V.int (ns.getD (Int.toNat 2) 0) :: cutV (ns.map V.int) (some 3) (some 42))) := upd_same
  have Z := Z1.trans (Z2.trans Z3)
  generalize upd (upd (upd H4 q1 (.lst [.int (ns.getD (Int.toNat 2) 0)])) q2 (.lst (cutV (ns.map V.int) (some 3) (some 42)))) q3 (.lst ([V.int (ns.getD (Int.toNat 2) 0)] ++ cutV (ns.map V.int) (some 3) (some 42))) = H10 at hq10 Z
  clear Z1 Z2 Z3 hq1 hq2 hq3
  refine ⟨q3, rfl, ⟨_, SqL.of hq10⟩, for_list (K := K) (a := q3) (xs := V.int (ns.getD (Int.toNat 2) 0) :: cutV (ns.map V.int) (some 3) (some 42)) (fun i σ H' => ∃ v3 v4 v5 v6, σ = [some (.ref a), some (.ref lf), some (.ref ld), v3, v4, v5, v6] ∧ Same H10 H') ⟨_, _, _, _, rfl, Same.refl _⟩ (fun i σ H' _ ⟨_, _, _, _, _, e⟩ => SqL.of (e _ _ hq10)) ?_ ?_⟩
  · rintro i yv σ H' hi ⟨v3, v4, v5, v6, rfl, S⟩
    obtain ⟨n, rfl⟩ := cutm yv (List.mem_of_getElem? hi)
    have U := Z.trans S
    have m0 : (0 : Int) < 10 ^ 30 := by decide
    refine ⟨_, rfl, _, _, rfl, rfl, ⟨by decide, by decide, by decide⟩, _, _, rfl, rfl, m0, _, _, rfl, rfl, _, _, rfl, rfl, .inr ⟨by decide, by decide⟩, _, _, rfl, rfl, ⟨by decide, by decide, by decide⟩, _, _, rfl, rfl, _, _, rfl, rfl, (by show (0 : Int) < 10 ^ 24 + 7; decide), ?_⟩
    refine ⟨_, rfl, _, rfl, small_le rfl, fun pw hpw => ?_⟩
    refine ⟨_, rfl, _, _, rfl, rfl, (posI rfl), ?_⟩
    refine ⟨_, rfl, _, _, rfl, rfl, ⟨by decide, by decide⟩, ?_⟩
    dsimp only
    generalize (n % 10 ^ Int.toNat 30 + 5) * 618970019642690137 % (10 ^ Int.toNat 24 + 7) = m
    have w0 : 0 ≤ m % 16 := Int.emod_nonneg _ (by decide)
    have w16 : m % 16 < 16 := Int.emod_lt_of_pos _ (by decide)
    generalize m % 16 = ww at w0 w16
    have R0 := Same.upd (o := .lst [.ref lf, .ref ld]) hpw
    have hp0 : upd H' pw (.lst [.ref lf, .ref ld]) pw = some (.lst [.ref lf, .ref ld]) := upd_same
    have nf : lf ≠ pw := fun z => by rw [← z, U _ _ hf9] at hpw; cases hpw
    have nd : ld ≠ pw := fun z => by rw [← z, U _ _ hd9] at hpw; cases hpw
    have D0 : Same H' (del pw (upd H' pw (.lst [.ref lf, .ref ld]))) := fun b o e => del_of (fun z => by rw [z, hpw] at e; cases e) (R0 _ _ e)
    generalize upd H' pw (.lst [.ref lf, .ref ld]) = Hb at R0 hp0 D0
    have UD := U.trans D0
    have hX : ∃ o, Hb pw = some o := ⟨_, hp0⟩
    unfold gName
    refine seqIfJoin (fun σ' Ha => σ' = [some (.ref a), some (.ref lf), some (.ref ld), some (.int n), some (.int (m / 16)), some (.ref pw), some (.int ww)] ∧ ∃ vx vy d1 d2, Same H' Ha ∧ Ha pw = some (.lst [vx, vy]) ∧ Is (del pw Ha) d1 vx ∧ Is (del pw Ha) d2 vy ∧ small d1 = true ∧ small d2 = true ∧ Same (del pw Hb) (del pw Ha) ∧ (areFields d1 = false ∨ d1 = .lst fs ∧ (ww ≤ 7 → areDykes ("sea" :: fs.map nmOf) d2 = false))) (fun σ' Ha hR => ?_) (fun D' hD => ?_)
    rotate_left
    · refine ⟨_, rfl, _, _, rfl, rfl, _, rfl, ?_⟩
      dsimp only
      refine iteJ ?_ (fun fld w2 => ?_)
      · refine ⟨_, rfl, _, rfl, _, _, rfl, pw, lf, vf, fs, m / 16, hX, rfl, R0 _ _ (U _ _ hf9), IsL.same UD _ _ hif9, GF, rfl, fun p' vs' es H5 S5 np' hp' ip' sp' bad => ?_⟩
        refine ⟨_, rfl, pw, _, 0, rfl, rfl, S5 _ _ hp0, by simp, ?_⟩
        have DD := (dsame S5).trans (delU (X := pw) (H := H5) (o := .lst [.ref p', .ref ld]))
        exact hD _ _ ⟨rfl, .ref p', .ref ld, .lst es, .lst ds, (R0.trans S5).over hpw, upd_same, Is.same delU _ _ ⟨p', vs', rfl, ndel hX np' hp', ip'⟩, ⟨ld, vd, rfl, (UD.trans DD) _ _ hd9, IsL.same (UD.trans DD) _ _ hid9⟩, sp', smd, DD, .inl bad⟩
      have nw6 : ¬ ww < 6 := of_decide_eq_false w2
      refine ⟨_, rfl, rfl, _, rfl, ?_⟩
      rw [dec_int]
      refine ite2 (fun _ => fld) (fun w3 => ?_)
      refine ⟨_, rfl, rfl, _, rfl, ?_⟩
      rw [dec_int]
      refine ite2 (fun w4 => ?_) (fun w4 => ?_)
      · refine ⟨_, rfl, _, rfl, _, _, _, rfl, pw, lf, vf, fs, 12, m / 16, hX, nf, rfl, R0 _ _ (U _ _ hf9), IsL.same UD _ _ hif9, smf1, ?_, by omega, by omega, rfl, rfl, fun v d H5 S5 iv sd bad => ?_⟩
        · obtain ⟨d, ed⟩ : ∃ d, fs[0]? = some d := ⟨_, List.getElem?_eq_getElem (by omega)⟩
          obtain ⟨z, g, e, rfl, _⟩ := field_shape (gf.all d (List.mem_of_getElem? ed))
          exact ⟨z, _, _, ed⟩
        refine ⟨_, rfl, pw, _, 0, rfl, rfl, S5 _ _ hp0, by simp, ?_⟩
        have DD := (dsame S5).trans (delU (X := pw) (H := H5) (o := .lst [v, .ref ld]))
        exact hD _ _ ⟨rfl, v, .ref ld, d, .lst ds, (R0.trans S5).over hpw, upd_same, Is.same delU _ _ iv, ⟨ld, vd, rfl, (UD.trans DD) _ _ hd9, IsL.same (UD.trans DD) _ _ hid9⟩, sd, smd, DD, .inl (fields_odd bad)⟩
      refine ⟨_, rfl, rfl, _, rfl, ?_⟩
      rw [dec_int]
      refine ite2 (fun w5 => ?_) (fun w5 => ?_)
      · refine ⟨_, rfl, _, rfl, _, _, _, rfl, pw, ld, vd, ds, 40, m / 16, hX, nd, rfl, R0 _ _ (U _ _ hd9), IsL.same UD _ _ hid9, smd1, ?_, by omega, by omega, rfl, rfl, fun v d H5 S5 iv sd bad => ?_⟩
        · obtain ⟨d, ed⟩ : ∃ d, ds[0]? = some d := ⟨_, List.getElem?_eq_getElem (by omega)⟩
          obtain ⟨z, g, e, c, r, sl, rfl, _⟩ := dyke_shape (gd.all d (List.mem_of_getElem? ed))
          exact ⟨z, _, _, ed⟩
        refine ⟨_, rfl, pw, _, 1, rfl, rfl, S5 _ _ hp0, by simp, ?_⟩
        have DD := (dsame S5).trans (delU (X := pw) (H := H5) (o := .lst [.ref lf, v]))
        exact hD _ _ ⟨rfl, .ref lf, v, .lst fs, d, (R0.trans S5).over hpw, upd_same, ⟨lf, vf, rfl, (UD.trans DD) _ _ hf9, IsL.same (UD.trans DD) _ _ hif9⟩, Is.same delU _ _ iv, smf, sd, DD, .inr ⟨rfl, fun _ => dykes_odd bad⟩⟩
      · have nw6' : ww ≠ 6 := fun e => w4 (by rw [e]; rfl)
        have nw7' : ww ≠ 7 := fun e => w5 (by rw [e]; rfl)
        exact hD _ _ ⟨rfl, .ref lf, .ref ld, .lst fs, .lst ds, R0, hp0, ⟨lf, vf, rfl, UD _ _ hf9, IsL.same UD _ _ hif9⟩, ⟨ld, vd, rfl, UD _ _ hd9, IsL.same UD _ _ hid9⟩, smf, smd, Same.refl _, .inr ⟨rfl, fun h => by omega⟩⟩
    obtain ⟨rfl, vx, vy, e1, e2, Sa, hpa, i1, i2, s1, s2, DA, bad1⟩ := hR
    refine seqIfJoin (fun σ' Hc => σ' = [some (.ref a), some (.ref lf), some (.ref ld), some (.int n), some (.int (m / 16)), some (.ref pw), some (.int ww)] ∧ ∃ vx vy d1 d2, Same H' Hc ∧ Hc pw = some (.lst [vx, vy]) ∧ Is Hc d1 vx ∧ Is Hc d2 vy ∧ small d1 = true ∧ small d2 = true ∧ (areFields d1 = false ∨ ∃ fs, d1 = .lst fs ∧ areFields d1 = true ∧ areDykes ("sea" :: fs.map nmOf) d2 = false)) (fun σ' Hc hR => ?_) (fun D' hD => ?_)
    rotate_left
    · refine ⟨_, rfl, _, _, rfl, rfl, _, rfl, ?_⟩
      refine ite2 (fun w6 => ?_) (fun w6 => ?_)
      · have UA := UD.trans DA
        refine ⟨_, rfl, _, rfl, _, _, rfl, rfl, ⟨by decide, by decide, by decide⟩, _, _, rfl, rfl, ⟨by decide, by decide⟩, _, _, rfl, pw, ld, vd, ds, _, _, ⟨_, hpa⟩, rfl, del_same _ _ _ _ (UA _ _ hd9), IsL.same UA _ _ hid9, GD, zlen, odd, rfl, fun p' vs' es H5 S5 np' hp' ip' sp' bad => ?_⟩
        refine ⟨_, rfl, pw, _, 1, rfl, rfl, S5 _ _ hpa, by simp, ?_⟩
        refine hD _ _ ⟨rfl, vx, .ref p', e1, .lst es, (Sa.trans S5).over hpw, upd_same, Is.same (((dsame S5).trans delU).trans (del_same _ _)) _ _ i1, Is.same (delU.trans (del_same _ _)) _ _ ⟨p', vs', rfl, ndel ⟨_, hpa⟩ np' hp', ip'⟩, s1, sp', ?_⟩
        rcases bad1 with b | ⟨rfl, _⟩
        · exact .inl b
        · exact .inr ⟨fs, rfl, okf, bad⟩
      · have w6' : ¬ (7 < ww) := fun h => w6 (decide_eq_true h)
        refine hD _ _ ⟨rfl, vx, vy, e1, e2, Sa, hpa, Is.same (del_same _ _) _ _ i1, Is.same (del_same _ _) _ _ i2, s1, s2, ?_⟩
        rcases bad1 with b | ⟨rfl, b⟩
        · exact .inl b
        · exact .inr ⟨fs, rfl, okf, b (by omega)⟩
    obtain ⟨rfl, vx, vy, d1, d2, Sc, hpc, i1, i2, s1, s2, bad⟩ := hR
    refine ⟨_, rfl, pw, _, 0, vx, rfl, rfl, SqL.of hpc, atI_nat (j := 0) rfl, _, rfl, pw, _, 1, vy, rfl, rfl, SqL.of hpc, atI_nat (j := 1) rfl, _, _, rfl, d1, d2, i1, i2, s1, s2, bad, fun H6 S6 => ?_⟩
    exact ⟨_, rfl, iteF ⟨_, _, _, _, rfl, S.trans (Sc.trans S6)⟩⟩
  · rintro σ H' ⟨v3, v4, v5, v6, rfl, S⟩
    have U := Z.trans S
    refine ⟨_, rfl, _, rfl, fun p dx np ndx nex => ?_⟩
    have S3' : Same H' (upd (upd H' dx (.own p)) p (.ins C dx [])) := fun b o e => by
      rw [upd_ne (ne_of_none e np), upd_ne (ne_of_none e ndx)]
      exact e
    have U3 := U.trans S3'
    refine ⟨_, _, _, rfl, p, dx, fs, ds, rfl, upd_same, ⟨lf, vf, rfl, U3 _ _ hf9, IsL.same U3 _ _ hif9⟩, ⟨ld, vd, rfl, U3 _ _ hd9, IsL.same U3 _ _ hid9⟩, smf, smd, okf, okd, fun H3 L fr => ⟨rfl, ?_⟩⟩
    have S3 : Same H' H3 := fun b o e => fr b o (S3' _ _ e) (ne_of_none e np)
    obtain ⟨dxa, x1, x2, hxa, _⟩ := L.ex
    refine ⟨p, dxa, _, rfl, hxa, no _ _ _ (by decide +kernel) (by decide +kernel), _, rfl, p, fs, ds, rfl, L, fun l4 v4 H4 S4 fl4 hl4 hi4 => ?_⟩
    have T4 := U.trans (S3.trans S4)
    exact ⟨_, rfl, eqD_self (d := .lst ds) ⟨l4, _, rfl, hl4, hi4⟩ ⟨ld, _, rfl, T4 _ _ hd9, IsL.same T4 _ _ hid9⟩ fds (q _)⟩
theorem law_mk {fa : Addr} (hmg : mg "law" = some (.ref fa)) (T : Txt K mg C) :
    ∃ fd : FuncData, (∀ (s : Shared) (u : Value), BindsTo s fd ⟨[u], []⟩ [("_law_script", u)]) ∧ ∀ base : Heap, K.In base → base.Ns mainGlobals mg → FnOk P w K mg base CX0 10 fa fd ["_law_script"] (spLaw K) := by
  obtain ⟨f, fd, F, b, m⟩ := T.d_p_law.ex
  rw [hmg] at m
  cases m
  refine ⟨fd, fun s u => ?_, fun base _ _ => ok_law T F⟩
  obtain ⟨oc, od, kV, doc, pm, an, cdv, ct, osl, rfl, lk, hcd⟩ := F.ex
  exact .of_eq rfl

end
theorem txt_mk {K : PySem.W.Frag} {h : Heap} {mg : Str → Option Value} (X : K.In h) (G : h.Ns mainGlobals mg)
    {C : Addr}
    {fm15 : Addr} {ocm15 kVm15 docm15 pmm15 cdm15 ctm15 : Value} {odm15 anm15 : Option Addr} {slm15 : Array (Option Value)}
    {fm16 : Addr} {ocm16 kVm16 docm16 pmm16 cdm16 ctm16 : Value} {odm16 anm16 : Option Addr} {slm16 : Array (Option Value)}
    {fm17 : Addr} {ocm17 kVm17 docm17 pmm17 cdm17 ctm17 : Value} {odm17 anm17 : Option Addr} {slm17 : Array (Option Value)}
    {fm18 : Addr} {ocm18 kVm18 docm18 pmm18 cdm18 ctm18 : Value} {odm18 anm18 : Option Addr} {slm18 : Array (Option Value)}
    {fm19 : Addr} {ocm19 kVm19 docm19 pmm19 cdm19 ctm19 : Value} {odm19 anm19 : Option Addr} {slm19 : Array (Option Value)}
    {fm20 : Addr} {ocm20 kVm20 docm20 pmm20 cdm20 ctm20 : Value} {odm20 anm20 : Option Addr} {slm20 : Array (Option Value)}
    {fm21 : Addr} {ocm21 kVm21 docm21 pmm21 cdm21 ctm21 : Value} {odm21 anm21 : Option Addr} {slm21 : Array (Option Value)}
    {fm22 : Addr} {ocm22 kVm22 docm22 pmm22 cdm22 ctm22 : Value} {odm22 anm22 : Option Addr} {slm22 : Array (Option Value)}
    {fm23 : Addr} {ocm23 kVm23 docm23 pmm23 cdm23 ctm23 : Value} {odm23 anm23 : Option Addr} {slm23 : Array (Option Value)}
    {c_NoLand c_DykeError c_NoDecree c_NoLevel c_NoName c_NoPurse c_NoRing c_NoRow c_NoSluice c_NoText c_NoVoice c_NoWay c_NoWish c_NoWork c_Outvoted c_Short c_TooMany : Addr}
    {f0 : Addr} {oc0 kV0 doc0 pm0 cd0 ct0 : Value} {od0 an0 : Option Addr} {sl0 : Array (Option Value)}
    {f1 : Addr} {oc1 kV1 doc1 pm1 cd1 ct1 : Value} {od1 an1 : Option Addr} {sl1 : Array (Option Value)}
    {f2 : Addr} {oc2 kV2 doc2 pm2 cd2 ct2 : Value} {od2 an2 : Option Addr} {sl2 : Array (Option Value)}
    {f3 : Addr} {oc3 kV3 doc3 pm3 cd3 ct3 : Value} {od3 an3 : Option Addr} {sl3 : Array (Option Value)}
    {f4 : Addr} {oc4 kV4 doc4 pm4 cd4 ct4 : Value} {od4 an4 : Option Addr} {sl4 : Array (Option Value)}
    {f5 : Addr} {oc5 kV5 doc5 pm5 cd5 ct5 : Value} {od5 an5 : Option Addr} {sl5 : Array (Option Value)}
    {f6 : Addr} {oc6 kV6 doc6 pm6 cd6 ct6 : Value} {od6 an6 : Option Addr} {sl6 : Array (Option Value)}
    {f7 : Addr} {oc7 kV7 doc7 pm7 cd7 ct7 : Value} {od7 an7 : Option Addr} {sl7 : Array (Option Value)}
    {f8 : Addr} {oc8 kV8 doc8 pm8 cd8 ct8 : Value} {od8 an8 : Option Addr} {sl8 : Array (Option Value)}
    {f9 : Addr} {oc9 kV9 doc9 pm9 cd9 ct9 : Value} {od9 an9 : Option Addr} {sl9 : Array (Option Value)}
    {f10 : Addr} {oc10 kV10 doc10 pm10 cd10 ct10 : Value} {od10 an10 : Option Addr} {sl10 : Array (Option Value)}
    {f11 : Addr} {oc11 kV11 doc11 pm11 cd11 ct11 : Value} {od11 an11 : Option Addr} {sl11 : Array (Option Value)}
    {f12 : Addr} {oc12 kV12 doc12 pm12 cd12 ct12 : Value} {od12 an12 : Option Addr} {sl12 : Array (Option Value)}
    {f13 : Addr} {oc13 kV13 doc13 pm13 cd13 ct13 : Value} {od13 an13 : Option Addr} {sl13 : Array (Option Value)}
    {f14 : Addr} {oc14 kV14 doc14 pm14 cd14 ct14 : Value} {od14 an14 : Option Addr} {sl14 : Array (Option Value)}
    {f15 : Addr} {oc15 kV15 doc15 pm15 cd15 ct15 : Value} {od15 an15 : Option Addr} {sl15 : Array (Option Value)}
    {f16 : Addr} {oc16 kV16 doc16 pm16 cd16 ct16 : Value} {od16 an16 : Option Addr} {sl16 : Array (Option Value)}
    {f17 : Addr} {oc17 kV17 doc17 pm17 cd17 ct17 : Value} {od17 an17 : Option Addr} {sl17 : Array (Option Value)}
    {f18 : Addr} {oc18 kV18 doc18 pm18 cd18 ct18 : Value} {od18 an18 : Option Addr} {sl18 : Array (Option Value)}
    {f19 : Addr} {oc19 kV19 doc19 pm19 cd19 ct19 : Value} {od19 an19 : Option Addr} {sl19 : Array (Option Value)}
    {f20 : Addr} {oc20 kV20 doc20 pm20 cd20 ct20 : Value} {od20 an20 : Option Addr} {sl20 : Array (Option Value)}
    {f21 : Addr} {oc21 kV21 doc21 pm21 cd21 ct21 : Value} {od21 an21 : Option Addr} {sl21 : Array (Option Value)}
    {f22 : Addr} {oc22 kV22 doc22 pm22 cd22 ct22 : Value} {od22 an22 : Option Addr} {sl22 : Array (Option Value)}
    {f23 : Addr} {oc23 kV23 doc23 pm23 cd23 ct23 : Value} {od23 an23 : Option Addr} {sl23 : Array (Option Value)}
    {f24 : Addr} {oc24 kV24 doc24 pm24 cd24 ct24 : Value} {od24 an24 : Option Addr} {sl24 : Array (Option Value)}
    {f25 : Addr} {oc25 kV25 doc25 pm25 cd25 ct25 : Value} {od25 an25 : Option Addr} {sl25 : Array (Option Value)}
    {f26 : Addr} {oc26 kV26 doc26 pm26 cd26 ct26 : Value} {od26 an26 : Option Addr} {sl26 : Array (Option Value)}
    {f27 : Addr} {oc27 kV27 doc27 pm27 cd27 ct27 : Value} {od27 an27 : Option Addr} {sl27 : Array (Option Value)}
    {f28 : Addr} {oc28 kV28 doc28 pm28 cd28 ct28 : Value} {od28 an28 : Option Addr} {sl28 : Array (Option Value)}
    {f29 : Addr} {oc29 kV29 doc29 pm29 cd29 ct29 : Value} {od29 an29 : Option Addr} {sl29 : Array (Option Value)}
    {f30 : Addr} {oc30 kV30 doc30 pm30 cd30 ct30 : Value} {od30 an30 : Option Addr} {sl30 : Array (Option Value)}
    {f31 : Addr} {oc31 kV31 doc31 pm31 cd31 ct31 : Value} {od31 an31 : Option Addr} {sl31 : Array (Option Value)}
    {u0 : Value}
    {u1 : Value}
    {u2 : Value}
    {u3 : Value}
    {u4 : Value}
    {u5 : Value}
    {u6 : Value}
    (aC : PySem.W.nsIn K mainGlobals "Land" = some (some (.ref C))) (pgC : PySem.W.plainGet K C Str.empty = true) (hdC : PySem.W.hasDictIn K C = true) (poC : PySem.W.plainOver K C = true) (saC : PySem.W.findIn K (.ref C) "__setattr__" = some (some (.builtin "object.__setattr__"))) (mkC : PySem.W.makesIn K C = true) (kpC : PySem.W.keepIn K (.ref C) = true)
    (n_field_rows : PySem.W.findIn K (.ref C) "field_rows" = some none)
    (n_dyke_rows : PySem.W.findIn K (.ref C) "dyke_rows" = some none)
    (ma15 : PySem.W.findIn K (.ref C) "__init__" = some (some (.ref fm15))) (mi15 : PySem.W.isFn K (.ref fm15) = true) (ml15 : K.lookup fm15 = some ⟨ocm15, odm15, .func (PySem.W.fnOf "__init__" "Land.__init__" (defArgs s_land_pinit) (defBody s_land_pinit) (defScope s_land_pinit) .none kVm15 docm15 pmm15 anm15 cdm15 ctm15), slm15⟩) (mc15 : PySem.W.codeIn K cdm15 "Land.__init__" = true) (mk15 : PySem.W.keepIn K (.ref fm15) = true)
    (ma16 : PySem.W.findIn K (.ref C) "fields" = some (some (.ref fm16))) (mi16 : PySem.W.isFn K (.ref fm16) = true) (ml16 : K.lookup fm16 = some ⟨ocm16, odm16, .func (PySem.W.fnOf "fields" "Land.fields" (defArgs s_land_p_fields) (defBody s_land_p_fields) (defScope s_land_p_fields) .none kVm16 docm16 pmm16 anm16 cdm16 ctm16), slm16⟩) (mc16 : PySem.W.codeIn K cdm16 "Land.fields" = true) (mk16 : PySem.W.keepIn K (.ref fm16) = true)
    (ma17 : PySem.W.findIn K (.ref C) "dykes" = some (some (.ref fm17))) (mi17 : PySem.W.isFn K (.ref fm17) = true) (ml17 : K.lookup fm17 = some ⟨ocm17, odm17, .func (PySem.W.fnOf "dykes" "Land.dykes" (defArgs s_land_p_dykes) (defBody s_land_p_dykes) (defScope s_land_p_dykes) .none kVm17 docm17 pmm17 anm17 cdm17 ctm17), slm17⟩) (mc17 : PySem.W.codeIn K cdm17 "Land.dykes" = true) (mk17 : PySem.W.keepIn K (.ref fm17) = true)
    (ma18 : PySem.W.findIn K (.ref C) "field_names" = some (some (.ref fm18))) (mi18 : PySem.W.isFn K (.ref fm18) = true) (ml18 : K.lookup fm18 = some ⟨ocm18, odm18, .func (PySem.W.fnOf "field_names" "Land.field_names" (defArgs s_land_p_field_names) (defBody s_land_p_field_names) (defScope s_land_p_field_names) .none kVm18 docm18 pmm18 anm18 cdm18 ctm18), slm18⟩) (mc18 : PySem.W.codeIn K cdm18 "Land.field_names" = true) (mk18 : PySem.W.keepIn K (.ref fm18) = true)
    (ma19 : PySem.W.findIn K (.ref C) "dyke_names" = some (some (.ref fm19))) (mi19 : PySem.W.isFn K (.ref fm19) = true) (ml19 : K.lookup fm19 = some ⟨ocm19, odm19, .func (PySem.W.fnOf "dyke_names" "Land.dyke_names" (defArgs s_land_p_dyke_names) (defBody s_land_p_dyke_names) (defScope s_land_p_dyke_names) .none kVm19 docm19 pmm19 anm19 cdm19 ctm19), slm19⟩) (mc19 : PySem.W.codeIn K cdm19 "Land.dyke_names" = true) (mk19 : PySem.W.keepIn K (.ref fm19) = true)
    (ma20 : PySem.W.findIn K (.ref C) "sluices" = some (some (.ref fm20))) (mi20 : PySem.W.isFn K (.ref fm20) = true) (ml20 : K.lookup fm20 = some ⟨ocm20, odm20, .func (PySem.W.fnOf "sluices" "Land.sluices" (defArgs s_land_p_sluices) (defBody s_land_p_sluices) (defScope s_land_p_sluices) .none kVm20 docm20 pmm20 anm20 cdm20 ctm20), slm20⟩) (mc20 : PySem.W.codeIn K cdm20 "Land.sluices" = true) (mk20 : PySem.W.keepIn K (.ref fm20) = true)
    (ma21 : PySem.W.findIn K (.ref C) "ground" = some (some (.ref fm21))) (mi21 : PySem.W.isFn K (.ref fm21) = true) (ml21 : K.lookup fm21 = some ⟨ocm21, odm21, .func (PySem.W.fnOf "ground" "Land.ground" (defArgs s_land_p_ground) (defBody s_land_p_ground) (defScope s_land_p_ground) .none kVm21 docm21 pmm21 anm21 cdm21 ctm21), slm21⟩) (mc21 : PySem.W.codeIn K cdm21 "Land.ground" = true) (mk21 : PySem.W.keepIn K (.ref fm21) = true)
    (ma22 : PySem.W.findIn K (.ref C) "dues" = some (some (.ref fm22))) (mi22 : PySem.W.isFn K (.ref fm22) = true) (ml22 : K.lookup fm22 = some ⟨ocm22, odm22, .func (PySem.W.fnOf "dues" "Land.dues" (defArgs s_land_p_dues) (defBody s_land_p_dues) (defScope s_land_p_dues) .none kVm22 docm22 pmm22 anm22 cdm22 ctm22), slm22⟩) (mc22 : PySem.W.codeIn K cdm22 "Land.dues" = true) (mk22 : PySem.W.keepIn K (.ref fm22) = true)
    (ma23 : PySem.W.findIn K (.ref C) "dyke" = some (some (.ref fm23))) (mi23 : PySem.W.isFn K (.ref fm23) = true) (ml23 : K.lookup fm23 = some ⟨ocm23, odm23, .func (PySem.W.fnOf "dyke" "Land.dyke" (defArgs s_land_p_dyke) (defBody s_land_p_dyke) (defScope s_land_p_dyke) .none kVm23 docm23 pmm23 anm23 cdm23 ctm23), slm23⟩) (mc23 : PySem.W.codeIn K cdm23 "Land.dyke" = true) (mk23 : PySem.W.keepIn K (.ref fm23) = true)
    (xa_NoLand : PySem.W.nsIn K mainGlobals "NoLand" = some (some (.ref c_NoLand))) (xa_DykeError : PySem.W.nsIn K mainGlobals "DykeError" = some (some (.ref c_DykeError))) (xa_NoDecree : PySem.W.nsIn K mainGlobals "NoDecree" = some (some (.ref c_NoDecree))) (xa_NoLevel : PySem.W.nsIn K mainGlobals "NoLevel" = some (some (.ref c_NoLevel))) (xa_NoName : PySem.W.nsIn K mainGlobals "NoName" = some (some (.ref c_NoName))) (xa_NoPurse : PySem.W.nsIn K mainGlobals "NoPurse" = some (some (.ref c_NoPurse))) (xa_NoRing : PySem.W.nsIn K mainGlobals "NoRing" = some (some (.ref c_NoRing))) (xa_NoRow : PySem.W.nsIn K mainGlobals "NoRow" = some (some (.ref c_NoRow))) (xa_NoSluice : PySem.W.nsIn K mainGlobals "NoSluice" = some (some (.ref c_NoSluice))) (xa_NoText : PySem.W.nsIn K mainGlobals "NoText" = some (some (.ref c_NoText))) (xa_NoVoice : PySem.W.nsIn K mainGlobals "NoVoice" = some (some (.ref c_NoVoice))) (xa_NoWay : PySem.W.nsIn K mainGlobals "NoWay" = some (some (.ref c_NoWay))) (xa_NoWish : PySem.W.nsIn K mainGlobals "NoWish" = some (some (.ref c_NoWish))) (xa_NoWork : PySem.W.nsIn K mainGlobals "NoWork" = some (some (.ref c_NoWork))) (xa_Outvoted : PySem.W.nsIn K mainGlobals "Outvoted" = some (some (.ref c_Outvoted))) (xa_Short : PySem.W.nsIn K mainGlobals "Short" = some (some (.ref c_Short))) (xa_TooMany : PySem.W.nsIn K mainGlobals "TooMany" = some (some (.ref c_TooMany))) (xq_NoLand : PySem.W.excIn K c_NoLand [.type "ValueError", .type "Exception", .type "BaseException", .type "object"] "ValueError.__new__" = true) (xm_NoLand : PySem.W.exmOne K (.ref c_NoLand) (.ref c_NoLand) = some true) (xp_NoLand : PySem.W.findIn K (.ref c_NoLand) "__getattribute__" = some (some (.builtin "BaseException.__getattribute__"))) (xg_NoLand : PySem.W.findIn K (.ref c_NoLand) "__getattr__" = some none) (xb_NoLand : PySem.W.mroIn K c_NoLand (.type "BaseException") = some true) (xh_NoLand : PySem.W.findIn K (.ref c_NoLand) "__class__" = some (some (.builtin "object.__class__"))) (xi_NoLand : PySem.W.specialIn K (.builtin "object.__class__") "__get__" = some (some (.builtin "getset_descriptor.__get__"))) (xt_NoLand : PySem.W.takesIn K (.builtin "object.__class__") = some true) (xo_NoLand : PySem.W.mroIn K c_NoLand (.type "object") = some true)
    (xz0 : PySem.W.kitOne K (.ref c_NoLand) (.ref c_DykeError) = some true)
    (xz1 : PySem.W.kitOne K (.ref c_NoLand) (.type "ValueError") = some true)
    (xz2 : PySem.W.kitOne K (.ref c_NoLand) (.ref c_NoDecree) = some false)
    (xz3 : PySem.W.kitOne K (.ref c_NoLand) (.ref c_NoLevel) = some false)
    (xz4 : PySem.W.kitOne K (.ref c_NoLand) (.ref c_NoName) = some false)
    (xz5 : PySem.W.kitOne K (.ref c_NoLand) (.ref c_NoPurse) = some false)
    (xz6 : PySem.W.kitOne K (.ref c_NoLand) (.ref c_NoRing) = some false)
    (xz7 : PySem.W.kitOne K (.ref c_NoLand) (.ref c_NoRow) = some false)
    (xz8 : PySem.W.kitOne K (.ref c_NoLand) (.ref c_NoSluice) = some false)
    (xz9 : PySem.W.kitOne K (.ref c_NoLand) (.ref c_NoText) = some false)
    (xz10 : PySem.W.kitOne K (.ref c_NoLand) (.ref c_NoVoice) = some false)
    (xz11 : PySem.W.kitOne K (.ref c_NoLand) (.ref c_NoWay) = some false)
    (xz12 : PySem.W.kitOne K (.ref c_NoLand) (.ref c_NoWish) = some false)
    (xz13 : PySem.W.kitOne K (.ref c_NoLand) (.ref c_NoWork) = some false)
    (xz14 : PySem.W.kitOne K (.ref c_NoLand) (.ref c_Outvoted) = some false)
    (xz15 : PySem.W.kitOne K (.ref c_NoLand) (.ref c_Short) = some false)
    (xz16 : PySem.W.kitOne K (.ref c_NoLand) (.ref c_TooMany) = some false)
    (a0 : PySem.W.nsIn K mainGlobals "_wall" = some (some (.ref f0))) (l0 : K.lookup f0 = some ⟨oc0, od0, .func (PySem.W.fnOf "_wall" "_wall" (defArgs s_p_wall) (defBody s_p_wall) (defScope s_p_wall) .none kV0 doc0 pm0 an0 cd0 ct0), sl0⟩) (c0 : PySem.W.codeIn K cd0 "_wall" = true) (k0 : PySem.W.keepIn K (.ref f0) = true)
    (a1 : PySem.W.nsIn K mainGlobals "is_whole" = some (some (.ref f1))) (l1 : K.lookup f1 = some ⟨oc1, od1, .func (PySem.W.fnOf "is_whole" "is_whole" (defArgs s_p_is_whole) (defBody s_p_is_whole) (defScope s_p_is_whole) .none kV1 doc1 pm1 an1 cd1 ct1), sl1⟩) (c1 : PySem.W.codeIn K cd1 "is_whole" = true) (k1 : PySem.W.keepIn K (.ref f1) = true)
    (a2 : PySem.W.nsIn K mainGlobals "is_name" = some (some (.ref f2))) (l2 : K.lookup f2 = some ⟨oc2, od2, .func (PySem.W.fnOf "is_name" "is_name" (defArgs s_p_is_name) (defBody s_p_is_name) (defScope s_p_is_name) .none kV2 doc2 pm2 an2 cd2 ct2), sl2⟩) (c2 : PySem.W.codeIn K cd2 "is_name" = true) (k2 : PySem.W.keepIn K (.ref f2) = true)
    (a3 : PySem.W.nsIn K mainGlobals "is_height" = some (some (.ref f3))) (l3 : K.lookup f3 = some ⟨oc3, od3, .func (PySem.W.fnOf "is_height" "is_height" (defArgs s_p_is_height) (defBody s_p_is_height) (defScope s_p_is_height) .none kV3 doc3 pm3 an3 cd3 ct3), sl3⟩) (c3 : PySem.W.codeIn K cd3 "is_height" = true) (k3 : PySem.W.keepIn K (.ref f3) = true)
    (a4 : PySem.W.nsIn K mainGlobals "is_amount" = some (some (.ref f4))) (l4 : K.lookup f4 = some ⟨oc4, od4, .func (PySem.W.fnOf "is_amount" "is_amount" (defArgs s_p_is_amount) (defBody s_p_is_amount) (defScope s_p_is_amount) .none kV4 doc4 pm4 an4 cd4 ct4), sl4⟩) (c4 : PySem.W.codeIn K cd4 "is_amount" = true) (k4 : PySem.W.keepIn K (.ref f4) = true)
    (a5 : PySem.W.nsIn K mainGlobals "is_one_of" = some (some (.ref f5))) (l5 : K.lookup f5 = some ⟨oc5, od5, .func (PySem.W.fnOf "is_one_of" "is_one_of" (defArgs s_p_is_one_of) (defBody s_p_is_one_of) (defScope s_p_is_one_of) .none kV5 doc5 pm5 an5 cd5 ct5), sl5⟩) (c5 : PySem.W.codeIn K cd5 "is_one_of" = true) (k5 : PySem.W.keepIn K (.ref f5) = true)
    (a6 : PySem.W.nsIn K mainGlobals "is_list_of" = some (some (.ref f6))) (l6 : K.lookup f6 = some ⟨oc6, od6, .func (PySem.W.fnOf "is_list_of" "is_list_of" (defArgs s_p_is_list_of) (defBody s_p_is_list_of) (defScope s_p_is_list_of) .none kV6 doc6 pm6 an6 cd6 ct6), sl6⟩) (c6 : PySem.W.codeIn K cd6 "is_list_of" = true) (k6 : PySem.W.keepIn K (.ref f6) = true)
    (a7 : PySem.W.nsIn K mainGlobals "is_tuple_of" = some (some (.ref f7))) (l7 : K.lookup f7 = some ⟨oc7, od7, .func (PySem.W.fnOf "is_tuple_of" "is_tuple_of" (defArgs s_p_is_tuple_of) (defBody s_p_is_tuple_of) (defScope s_p_is_tuple_of) .none kV7 doc7 pm7 an7 cd7 ct7), sl7⟩) (c7 : PySem.W.codeIn K cd7 "is_tuple_of" = true) (k7 : PySem.W.keepIn K (.ref f7) = true)
    (a8 : PySem.W.nsIn K mainGlobals "none_twice" = some (some (.ref f8))) (l8 : K.lookup f8 = some ⟨oc8, od8, .func (PySem.W.fnOf "none_twice" "none_twice" (defArgs s_p_none_twice) (defBody s_p_none_twice) (defScope s_p_none_twice) .none kV8 doc8 pm8 an8 cd8 ct8), sl8⟩) (c8 : PySem.W.codeIn K cd8 "none_twice" = true) (k8 : PySem.W.keepIn K (.ref f8) = true)
    (a9 : PySem.W.nsIn K mainGlobals "is_field" = some (some (.ref f9))) (l9 : K.lookup f9 = some ⟨oc9, od9, .func (PySem.W.fnOf "is_field" "is_field" (defArgs s_p_is_field) (defBody s_p_is_field) (defScope s_p_is_field) .none kV9 doc9 pm9 an9 cd9 ct9), sl9⟩) (c9 : PySem.W.codeIn K cd9 "is_field" = true) (k9 : PySem.W.keepIn K (.ref f9) = true)
    (a10 : PySem.W.nsIn K mainGlobals "are_fields" = some (some (.ref f10))) (l10 : K.lookup f10 = some ⟨oc10, od10, .func (PySem.W.fnOf "are_fields" "are_fields" (defArgs s_p_are_fields) (defBody s_p_are_fields) (defScope s_p_are_fields) .none kV10 doc10 pm10 an10 cd10 ct10), sl10⟩) (c10 : PySem.W.codeIn K cd10 "are_fields" = true) (k10 : PySem.W.keepIn K (.ref f10) = true)
    (a11 : PySem.W.nsIn K mainGlobals "are_sides" = some (some (.ref f11))) (l11 : K.lookup f11 = some ⟨oc11, od11, .func (PySem.W.fnOf "are_sides" "are_sides" (defArgs s_p_are_sides) (defBody s_p_are_sides) (defScope s_p_are_sides) .none kV11 doc11 pm11 an11 cd11 ct11), sl11⟩) (c11 : PySem.W.codeIn K cd11 "are_sides" = true) (k11 : PySem.W.keepIn K (.ref f11) = true)
    (a12 : PySem.W.nsIn K mainGlobals "is_sill" = some (some (.ref f12))) (l12 : K.lookup f12 = some ⟨oc12, od12, .func (PySem.W.fnOf "is_sill" "is_sill" (defArgs s_p_is_sill) (defBody s_p_is_sill) (defScope s_p_is_sill) .none kV12 doc12 pm12 an12 cd12 ct12), sl12⟩) (c12 : PySem.W.codeIn K cd12 "is_sill" = true) (k12 : PySem.W.keepIn K (.ref f12) = true)
    (a13 : PySem.W.nsIn K mainGlobals "is_dyke" = some (some (.ref f13))) (l13 : K.lookup f13 = some ⟨oc13, od13, .func (PySem.W.fnOf "is_dyke" "is_dyke" (defArgs s_p_is_dyke) (defBody s_p_is_dyke) (defScope s_p_is_dyke) .none kV13 doc13 pm13 an13 cd13 ct13), sl13⟩) (c13 : PySem.W.codeIn K cd13 "is_dyke" = true) (k13 : PySem.W.keepIn K (.ref f13) = true)
    (a14 : PySem.W.nsIn K mainGlobals "are_dykes" = some (some (.ref f14))) (l14 : K.lookup f14 = some ⟨oc14, od14, .func (PySem.W.fnOf "are_dykes" "are_dykes" (defArgs s_p_are_dykes) (defBody s_p_are_dykes) (defScope s_p_are_dykes) .none kV14 doc14 pm14 an14 cd14 ct14), sl14⟩) (c14 : PySem.W.codeIn K cd14 "are_dykes" = true) (k14 : PySem.W.keepIn K (.ref f14) = true)
    (a15 : PySem.W.nsIn K mainGlobals "_law_cell_at" = some (some (.ref f15))) (l15 : K.lookup f15 = some ⟨oc15, od15, .func (PySem.W.fnOf "_law_cell_at" "_law_cell_at" (defArgs s_l_cell_at) (defBody s_l_cell_at) (defScope s_l_cell_at) .none kV15 doc15 pm15 an15 cd15 ct15), sl15⟩) (c15 : PySem.W.codeIn K cd15 "_law_cell_at" = true) (k15 : PySem.W.keepIn K (.ref f15) = true)
    (a16 : PySem.W.nsIn K mainGlobals "_law_names" = some (some (.ref f16))) (l16 : K.lookup f16 = some ⟨oc16, od16, .func (PySem.W.fnOf "_law_names" "_law_names" (defArgs s_l_names) (defBody s_l_names) (defScope s_l_names) .none kV16 doc16 pm16 an16 cd16 ct16), sl16⟩) (c16 : PySem.W.codeIn K cd16 "_law_names" = true) (k16 : PySem.W.keepIn K (.ref f16) = true)
    (a17 : PySem.W.nsIn K mainGlobals "_law_mixed" = some (some (.ref f17))) (l17 : K.lookup f17 = some ⟨oc17, od17, .func (PySem.W.fnOf "_law_mixed" "_law_mixed" (defArgs s_l_mixed) (defBody s_l_mixed) (defScope s_l_mixed) .none kV17 doc17 pm17 an17 cd17 ct17), sl17⟩) (c17 : PySem.W.codeIn K cd17 "_law_mixed" = true) (k17 : PySem.W.keepIn K (.ref f17) = true)
    (a18 : PySem.W.nsIn K mainGlobals "_law_height" = some (some (.ref f18))) (l18 : K.lookup f18 = some ⟨oc18, od18, .func (PySem.W.fnOf "_law_height" "_law_height" (defArgs s_l_height) (defBody s_l_height) (defScope s_l_height) .none kV18 doc18 pm18 an18 cd18 ct18), sl18⟩) (c18 : PySem.W.codeIn K cd18 "_law_height" = true) (k18 : PySem.W.keepIn K (.ref f18) = true)
    (a19 : PySem.W.nsIn K mainGlobals "_law_amount" = some (some (.ref f19))) (l19 : K.lookup f19 = some ⟨oc19, od19, .func (PySem.W.fnOf "_law_amount" "_law_amount" (defArgs s_l_amount) (defBody s_l_amount) (defScope s_l_amount) .none kV19 doc19 pm19 an19 cd19 ct19), sl19⟩) (c19 : PySem.W.codeIn K cd19 "_law_amount" = true) (k19 : PySem.W.keepIn K (.ref f19) = true)
    (a20 : PySem.W.nsIn K mainGlobals "_law_fields" = some (some (.ref f20))) (l20 : K.lookup f20 = some ⟨oc20, od20, .func (PySem.W.fnOf "_law_fields" "_law_fields" (defArgs s_l_fields) (defBody s_l_fields) (defScope s_l_fields) .none kV20 doc20 pm20 an20 cd20 ct20), sl20⟩) (c20 : PySem.W.codeIn K cd20 "_law_fields" = true) (k20 : PySem.W.keepIn K (.ref f20) = true)
    (a21 : PySem.W.nsIn K mainGlobals "_law_dykes" = some (some (.ref f21))) (l21 : K.lookup f21 = some ⟨oc21, od21, .func (PySem.W.fnOf "_law_dykes" "_law_dykes" (defArgs s_l_dykes) (defBody s_l_dykes) (defScope s_l_dykes) .none kV21 doc21 pm21 an21 cd21 ct21), sl21⟩) (c21 : PySem.W.codeIn K cd21 "_law_dykes" = true) (k21 : PySem.W.keepIn K (.ref f21) = true)
    (a22 : PySem.W.nsIn K mainGlobals "_law_bad_name" = some (some (.ref f22))) (l22 : K.lookup f22 = some ⟨oc22, od22, .func (PySem.W.fnOf "_law_bad_name" "_law_bad_name" (defArgs s_l_bad_name) (defBody s_l_bad_name) (defScope s_l_bad_name) .none kV22 doc22 pm22 an22 cd22 ct22), sl22⟩) (c22 : PySem.W.codeIn K cd22 "_law_bad_name" = true) (k22 : PySem.W.keepIn K (.ref f22) = true)
    (a23 : PySem.W.nsIn K mainGlobals "_law_bad_number" = some (some (.ref f23))) (l23 : K.lookup f23 = some ⟨oc23, od23, .func (PySem.W.fnOf "_law_bad_number" "_law_bad_number" (defArgs s_l_bad_number) (defBody s_l_bad_number) (defScope s_l_bad_number) .none kV23 doc23 pm23 an23 cd23 ct23), sl23⟩) (c23 : PySem.W.codeIn K cd23 "_law_bad_number" = true) (k23 : PySem.W.keepIn K (.ref f23) = true)
    (a24 : PySem.W.nsIn K mainGlobals "_law_bad_field" = some (some (.ref f24))) (l24 : K.lookup f24 = some ⟨oc24, od24, .func (PySem.W.fnOf "_law_bad_field" "_law_bad_field" (defArgs s_l_bad_field) (defBody s_l_bad_field) (defScope s_l_bad_field) .none kV24 doc24 pm24 an24 cd24 ct24), sl24⟩) (c24 : PySem.W.codeIn K cd24 "_law_bad_field" = true) (k24 : PySem.W.keepIn K (.ref f24) = true)
    (a25 : PySem.W.nsIn K mainGlobals "_law_bad_side" = some (some (.ref f25))) (l25 : K.lookup f25 = some ⟨oc25, od25, .func (PySem.W.fnOf "_law_bad_side" "_law_bad_side" (defArgs s_l_bad_side) (defBody s_l_bad_side) (defScope s_l_bad_side) .none kV25 doc25 pm25 an25 cd25 ct25), sl25⟩) (c25 : PySem.W.codeIn K cd25 "_law_bad_side" = true) (k25 : PySem.W.keepIn K (.ref f25) = true)
    (a26 : PySem.W.nsIn K mainGlobals "_law_bad_sill" = some (some (.ref f26))) (l26 : K.lookup f26 = some ⟨oc26, od26, .func (PySem.W.fnOf "_law_bad_sill" "_law_bad_sill" (defArgs s_l_bad_sill) (defBody s_l_bad_sill) (defScope s_l_bad_sill) .none kV26 doc26 pm26 an26 cd26 ct26), sl26⟩) (c26 : PySem.W.codeIn K cd26 "_law_bad_sill" = true) (k26 : PySem.W.keepIn K (.ref f26) = true)
    (a27 : PySem.W.nsIn K mainGlobals "_law_bad_dyke" = some (some (.ref f27))) (l27 : K.lookup f27 = some ⟨oc27, od27, .func (PySem.W.fnOf "_law_bad_dyke" "_law_bad_dyke" (defArgs s_l_bad_dyke) (defBody s_l_bad_dyke) (defScope s_l_bad_dyke) .none kV27 doc27 pm27 an27 cd27 ct27), sl27⟩) (c27 : PySem.W.codeIn K cd27 "_law_bad_dyke" = true) (k27 : PySem.W.keepIn K (.ref f27) = true)
    (a28 : PySem.W.nsIn K mainGlobals "_law_bad_list" = some (some (.ref f28))) (l28 : K.lookup f28 = some ⟨oc28, od28, .func (PySem.W.fnOf "_law_bad_list" "_law_bad_list" (defArgs s_l_bad_list) (defBody s_l_bad_list) (defScope s_l_bad_list) .none kV28 doc28 pm28 an28 cd28 ct28), sl28⟩) (c28 : PySem.W.codeIn K cd28 "_law_bad_list" = true) (k28 : PySem.W.keepIn K (.ref f28) = true)
    (a29 : PySem.W.nsIn K mainGlobals "_law_others" = some (some (.ref f29))) (l29 : K.lookup f29 = some ⟨oc29, od29, .func (PySem.W.fnOf "_law_others" "_law_others" (defArgs s_l_others) (defBody s_l_others) (defScope s_l_others) .none kV29 doc29 pm29 an29 cd29 ct29), sl29⟩) (c29 : PySem.W.codeIn K cd29 "_law_others" = true) (k29 : PySem.W.keepIn K (.ref f29) = true)
    (a30 : PySem.W.nsIn K mainGlobals "_law_refused" = some (some (.ref f30))) (l30 : K.lookup f30 = some ⟨oc30, od30, .func (PySem.W.fnOf "_law_refused" "_law_refused" (defArgs s_l_refused) (defBody s_l_refused) (defScope s_l_refused) .none kV30 doc30 pm30 an30 cd30 ct30), sl30⟩) (c30 : PySem.W.codeIn K cd30 "_law_refused" = true) (k30 : PySem.W.keepIn K (.ref f30) = true)
    (a31 : PySem.W.nsIn K mainGlobals "law" = some (some (.ref f31))) (l31 : K.lookup f31 = some ⟨oc31, od31, .func (PySem.W.fnOf "law" "law" (defArgs s_p_law) (defBody s_p_law) (defScope s_p_law) .none kV31 doc31 pm31 an31 cd31 ct31), sl31⟩) (c31 : PySem.W.codeIn K cd31 "law" = true) (k31 : PySem.W.keepIn K (.ref f31) = true)
    (g0 : PySem.W.nsIn K mainGlobals "SEA" = some (some u0)) (r0 : RelV (.str "sea") u0)
    (g1 : PySem.W.nsIn K mainGlobals "LETTERS" = some (some u1)) (r1 : RelV (.str "abcdefghijklmnopqrstuvwxyz") u1)
    (g2 : PySem.W.nsIn K mainGlobals "MOST_LETTERS" = some (some u2)) (r2 : RelV (.int 8) u2)
    (g3 : PySem.W.nsIn K mainGlobals "MOST_HEIGHT" = some (some u3)) (r3 : RelV (.int 1000000) u3)
    (g4 : PySem.W.nsIn K mainGlobals "MOST_AMOUNT" = some (some u4)) (r4 : RelV (.int 1000000) u4)
    (g5 : PySem.W.nsIn K mainGlobals "MOST_FIELDS" = some (some u5)) (r5 : RelV (.int 12) u5)
    (g6 : PySem.W.nsIn K mainGlobals "MOST_DYKES" = some (some u6)) (r6 : RelV (.int 40) u6)
    (z0 : PySem.W.nsIn K mainGlobals "ValueError" = some none)
    (z1 : PySem.W.nsIn K mainGlobals "all" = some none)
    (z2 : PySem.W.nsIn K mainGlobals "bool" = some none)
    (z3 : PySem.W.nsIn K mainGlobals "dict" = some none)
    (z4 : PySem.W.nsIn K mainGlobals "int" = some none)
    (z5 : PySem.W.nsIn K mainGlobals "isinstance" = some none)
    (z6 : PySem.W.nsIn K mainGlobals "len" = some none)
    (z7 : PySem.W.nsIn K mainGlobals "list" = some none)
    (z8 : PySem.W.nsIn K mainGlobals "max" = some none)
    (z9 : PySem.W.nsIn K mainGlobals "range" = some none)
    (z10 : PySem.W.nsIn K mainGlobals "set" = some none)
    (z11 : PySem.W.nsIn K mainGlobals "str" = some none)
    (z12 : PySem.W.nsIn K mainGlobals "tuple" = some none)   : Txt K mg C :=
  ⟨⟨pgC, hdC, poC, saC⟩,
   PySem.W.mg_of X G aC,
   n_field_rows,
   n_dyke_rows,
   init_mk ma15 mi15 ml15 mc15 mk15 mkC kpC (fun _ _ _ _ _ _ us hl => match us, hl with | [_, _, _], _ => rfl),
   meth_mk ma16 mi16 ml16 mc16 mk16 (fun _ _ _ _ _ _ us hl => match us, hl with | [_], _ => rfl),
   meth_mk ma17 mi17 ml17 mc17 mk17 (fun _ _ _ _ _ _ us hl => match us, hl with | [_], _ => rfl),
   meth_mk ma18 mi18 ml18 mc18 mk18 (fun _ _ _ _ _ _ us hl => match us, hl with | [_], _ => rfl),
   meth_mk ma19 mi19 ml19 mc19 mk19 (fun _ _ _ _ _ _ us hl => match us, hl with | [_], _ => rfl),
   meth_mk ma20 mi20 ml20 mc20 mk20 (fun _ _ _ _ _ _ us hl => match us, hl with | [_], _ => rfl),
   meth_mk ma21 mi21 ml21 mc21 mk21 (fun _ _ _ _ _ _ us hl => match us, hl with | [_, _], _ => rfl),
   meth_mk ma22 mi22 ml22 mc22 mk22 (fun _ _ _ _ _ _ us hl => match us, hl with | [_, _], _ => rfl),
   meth_mk ma23 mi23 ml23 mc23 mk23 (fun _ _ _ _ _ _ us hl => match us, hl with | [_, _], _ => rfl),
   ⟨c_NoLand, c_DykeError, c_NoDecree, c_NoLevel, c_NoName, c_NoPurse, c_NoRing, c_NoRow, c_NoSluice, c_NoText, c_NoVoice, c_NoWay, c_NoWish, c_NoWork, c_Outvoted, c_Short, c_TooMany, ⟨⟨⟨xq_NoLand⟩, xm_NoLand⟩, xp_NoLand, xg_NoLand, xb_NoLand, ⟨xh_NoLand, xi_NoLand, xt_NoLand, xo_NoLand⟩⟩, PySem.W.mg_of X G xa_NoLand, PySem.W.mg_of X G xa_DykeError, PySem.W.mg_of X G xa_NoDecree, PySem.W.mg_of X G xa_NoLevel, PySem.W.mg_of X G xa_NoName, PySem.W.mg_of X G xa_NoPurse, PySem.W.mg_of X G xa_NoRing, PySem.W.mg_of X G xa_NoRow, PySem.W.mg_of X G xa_NoSluice, PySem.W.mg_of X G xa_NoText, PySem.W.mg_of X G xa_NoVoice, PySem.W.mg_of X G xa_NoWay, PySem.W.mg_of X G xa_NoWish, PySem.W.mg_of X G xa_NoWork, PySem.W.mg_of X G xa_Outvoted, PySem.W.mg_of X G xa_Short, PySem.W.mg_of X G xa_TooMany, xz0, xz1, xz2, xz3, xz4, xz5, xz6, xz7, xz8, xz9, xz10, xz11, xz12, xz13, xz14, xz15, xz16⟩,
   def_mk X G a0 l0 c0 k0 (fun _ _ _ _ _ _ us hl => match us, hl with | [_], _ => rfl),
   def_mk X G a1 l1 c1 k1 (fun _ _ _ _ _ _ us hl => match us, hl with | [_], _ => rfl),
   def_mk X G a2 l2 c2 k2 (fun _ _ _ _ _ _ us hl => match us, hl with | [_], _ => rfl),
   def_mk X G a3 l3 c3 k3 (fun _ _ _ _ _ _ us hl => match us, hl with | [_], _ => rfl),
   def_mk X G a4 l4 c4 k4 (fun _ _ _ _ _ _ us hl => match us, hl with | [_], _ => rfl),
   def_mk X G a5 l5 c5 k5 (fun _ _ _ _ _ _ us hl => match us, hl with | [_, _], _ => rfl),
   def_mk X G a6 l6 c6 k6 (fun _ _ _ _ _ _ us hl => match us, hl with | [_, _], _ => rfl),
   def_mk X G a7 l7 c7 k7 (fun _ _ _ _ _ _ us hl => match us, hl with | [_, _], _ => rfl),
   def_mk X G a8 l8 c8 k8 (fun _ _ _ _ _ _ us hl => match us, hl with | [_], _ => rfl),
   def_mk X G a9 l9 c9 k9 (fun _ _ _ _ _ _ us hl => match us, hl with | [_], _ => rfl),
   def_mk X G a10 l10 c10 k10 (fun _ _ _ _ _ _ us hl => match us, hl with | [_], _ => rfl),
   def_mk X G a11 l11 c11 k11 (fun _ _ _ _ _ _ us hl => match us, hl with | [_, _, _], _ => rfl),
   def_mk X G a12 l12 c12 k12 (fun _ _ _ _ _ _ us hl => match us, hl with | [_, _], _ => rfl),
   def_mk X G a13 l13 c13 k13 (fun _ _ _ _ _ _ us hl => match us, hl with | [_, _], _ => rfl),
   def_mk X G a14 l14 c14 k14 (fun _ _ _ _ _ _ us hl => match us, hl with | [_, _], _ => rfl),
   def_mk X G a15 l15 c15 k15 (fun _ _ _ _ _ _ us hl => match us, hl with | [_, _], _ => rfl),
   def_mk X G a16 l16 c16 k16 (fun _ _ _ _ _ _ us hl => match us, hl with | [_, _], _ => rfl),
   def_mk X G a17 l17 c17 k17 (fun _ _ _ _ _ _ us hl => match us, hl with | [_, _], _ => rfl),
   def_mk X G a18 l18 c18 k18 (fun _ _ _ _ _ _ us hl => match us, hl with | [_], _ => rfl),
   def_mk X G a19 l19 c19 k19 (fun _ _ _ _ _ _ us hl => match us, hl with | [_], _ => rfl),
   def_mk X G a20 l20 c20 k20 (fun _ _ _ _ _ _ us hl => match us, hl with | [_, _], _ => rfl),
   def_mk X G a21 l21 c21 k21 (fun _ _ _ _ _ _ us hl => match us, hl with | [_, _, _], _ => rfl),
   def_mk X G a22 l22 c22 k22 (fun _ _ _ _ _ _ us hl => match us, hl with | [_, _], _ => rfl),
   def_mk X G a23 l23 c23 k23 (fun _ _ _ _ _ _ us hl => match us, hl with | [_, _], _ => rfl),
   def_mk X G a24 l24 c24 k24 (fun _ _ _ _ _ _ us hl => match us, hl with | [_, _], _ => rfl),
   def_mk X G a25 l25 c25 k25 (fun _ _ _ _ _ _ us hl => match us, hl with | [_, _, _], _ => rfl),
   def_mk X G a26 l26 c26 k26 (fun _ _ _ _ _ _ us hl => match us, hl with | [_, _], _ => rfl),
   def_mk X G a27 l27 c27 k27 (fun _ _ _ _ _ _ us hl => match us, hl with | [_, _], _ => rfl),
   def_mk X G a28 l28 c28 k28 (fun _ _ _ _ _ _ us hl => match us, hl with | [_, _, _], _ => rfl),
   def_mk X G a29 l29 c29 k29 (fun _ _ _ _ _ _ us hl => match us, hl with | [_], _ => rfl),
   def_mk X G a30 l30 c30 k30 (fun _ _ _ _ _ _ us hl => match us, hl with | [_, _], _ => rfl),
   def_mk X G a31 l31 c31 k31 (fun _ _ _ _ _ _ us hl => match us, hl with | [_], _ => rfl),
   glob_mk X G g0 r0,
   glob_mk X G g1 r1,
   glob_mk X G g2 r2,
   glob_mk X G g3 r3,
   glob_mk X G g4 r4,
   glob_mk X G g5 r5,
   glob_mk X G g6 r6,
   PySem.W.mg_none_of X G z0,
   PySem.W.mg_none_of X G z1,
   PySem.W.mg_none_of X G z2,
   PySem.W.mg_none_of X G z3,
   PySem.W.mg_none_of X G z4,
   PySem.W.mg_none_of X G z5,
   PySem.W.mg_none_of X G z6,
   PySem.W.mg_none_of X G z7,
   PySem.W.mg_none_of X G z8,
   PySem.W.mg_none_of X G z9,
   PySem.W.mg_none_of X G z10,
   PySem.W.mg_none_of X G z11,
   PySem.W.mg_none_of X G z12⟩
end K03
namespace PySem.W.Fast
def tw5144499252202632294 := 0
def tw11708630792655609918 := 0
def tw774576258687797955 := 0
def tw6450293843980713317 := 0
def tw2576082296143605167 := 0
def tw7772867408642261047 := 0
def tw1466521242704116123 := 0
def tw6893433062976688622 := 0
def tw2199133282902143278 := 0
def tw10592131520165767810 := 0
def tw11957045170420365665 := 0
def tw6418688542461710952 := 0
def tw13095324802077587304 := 0
def tw17919771723708512298 := 0
def tw7496571776024018179 := 0
def tw16372866499765170143 := 0
def tw3247296751150154429 := 0
def tw9934846716460819143 := 0
def tw8272533646810880150 := 0
def tw11984019191003851149 := 0
def tw3914686898735819485 := 0
def tw7383389007657146762 := 0
def tw9588827549152540659 := 0
def tw11146525346388512238 := 0
def tw14072522786358082761 := 0
def tw5930332948043119456 := 0
def tw3994951050680019763 := 0
def tw264781862976083885 := 0
def tw14591505970076031090 := 0
def tw7557073610410751386 := 0
def tw17284517867891205865 := 0
def tw12207880583249529572 := 0
def tw6884319139805167777 := 0
def tw429933861474933905 := 0
def tw1567945848232587760 := 0
def tw6190752345884077833 := 0
def tw3869622368678495746 := 0
def tw7586793609377944405 := 0
def tw5016163112002577755 := 0
def tw10526895427001899209 := 0
def tw16663960841401387466 := 0
def tw15937204563649778753 := 0
def tw5217802562477054470 := 0
def tw107559939078909487 := 0
def tw4065552224502833679 := 0
def tw11220115513650446447 := 0
def tw1336929034293360424 := 0
def tw561148345934636461 := 0
def tw4602784504666353462 := 0
def tw8504526421090750119 := 0
def tw5749230916239427758 := 0
def tw14987963553152643909 := 0
def tw7459859172159899802 := 0
def tw7842919620970211976 := 0
def tw16415059953893477417 := 0
def tw14526801266015563742 := 0
def tw16121209461461655452 := 0
def tw12373564503370447586 := 0
def tw7777859885940013357 := 0
def tw4629546476364122202 := 0
def tw5249064714218411269 := 0
def tw12487321152683750218 := 0
def tw16870727249803885143 := 0
def tw7573286958680459037 := 0
def tw8213697839862515915 := 0
def tw5635750465170751313 := 0
def tw8201450748514769334 := 0
def tw7270377074931040878 := 0
def tw18052697202972207564 := 0
def tw188484755099823300 := 0
def tw4298983008573791335 := 0
def tw877722686389380490 := 0
def tw7232941823142530787 := 0
def tw6377786078710317564 := 0
def tw8328515036726931871 := 0
def tw10540035586429844175 := 0
def tw13233495904112098823 := 0
def tw6327188217791420934 := 0
def tw13526533874789451947 := 0
def tw4361990016083432109 := 0
def tw264954368866406278 := 0
def tw15662064908403404065 := 0
end PySem.W.Fast
open PySem PySem.W PyProof.Rows
set_option maxRecDepth 100000 in
set_option maxHeartbeats 0 in
theorem PySem.Challenge.cw_dykemoot_k03_no_land_holds : PySem.Challenge.rw_dykemoot_k03_no_land.Holds := by
  w_on; o_law; k_head; (case hw => w_witness2)
  k_fill
  refine L2.walk_law (l := PySem.Challenge.rw_dykemoot_k03_no_land) 10 ⟨rfl, by decide, by decide⟩ rfl rfl (fun w h Y => PySem.W.kIn_of Y) ?F
  case F =>
    intro w mg fa h KX G hmg
    refine' K03.law_mk hmg (K03.txt_mk KX G ?xaC ?xpgC ?xhdC ?xpoC ?xsaC ?xmkC ?xkpC ?xn_field_rows ?xn_dyke_rows ?xma15 ?xmi15 ?xml15 ?xmc15 ?xmk15 ?xma16 ?xmi16 ?xml16 ?xmc16 ?xmk16 ?xma17 ?xmi17 ?xml17 ?xmc17 ?xmk17 ?xma18 ?xmi18 ?xml18 ?xmc18 ?xmk18 ?xma19 ?xmi19 ?xml19 ?xmc19 ?xmk19 ?xma20 ?xmi20 ?xml20 ?xmc20 ?xmk20 ?xma21 ?xmi21 ?xml21 ?xmc21 ?xmk21 ?xma22 ?xmi22 ?xml22 ?xmc22 ?xmk22 ?xma23 ?xmi23 ?xml23 ?xmc23 ?xmk23 ?xxa_NoLand ?xxa_DykeError ?xxa_NoDecree ?xxa_NoLevel ?xxa_NoName ?xxa_NoPurse ?xxa_NoRing ?xxa_NoRow ?xxa_NoSluice ?xxa_NoText ?xxa_NoVoice ?xxa_NoWay ?xxa_NoWish ?xxa_NoWork ?xxa_Outvoted ?xxa_Short ?xxa_TooMany ?xxq_NoLand ?xxm_NoLand ?xxp_NoLand ?xxg_NoLand ?xxb_NoLand ?xxh_NoLand ?xxi_NoLand ?xxt_NoLand ?xxo_NoLand ?xxz0 ?xxz1 ?xxz2 ?xxz3 ?xxz4 ?xxz5 ?xxz6 ?xxz7 ?xxz8 ?xxz9 ?xxz10 ?xxz11 ?xxz12 ?xxz13 ?xxz14 ?xxz15 ?xxz16 ?xa0 ?xl0 ?xc0 ?xk0 ?xa1 ?xl1 ?xc1 ?xk1 ?xa2 ?xl2 ?xc2 ?xk2 ?xa3 ?xl3 ?xc3 ?xk3 ?xa4 ?xl4 ?xc4 ?xk4 ?xa5 ?xl5 ?xc5 ?xk5 ?xa6 ?xl6 ?xc6 ?xk6 ?xa7 ?xl7 ?xc7 ?xk7 ?xa8 ?xl8 ?xc8 ?xk8 ?xa9 ?xl9 ?xc9 ?xk9 ?xa10 ?xl10 ?xc10 ?xk10 ?xa11 ?xl11 ?xc11 ?xk11 ?xa12 ?xl12 ?xc12 ?xk12 ?xa13 ?xl13 ?xc13 ?xk13 ?xa14 ?xl14 ?xc14 ?xk14 ?xa15 ?xl15 ?xc15 ?xk15 ?xa16 ?xl16 ?xc16 ?xk16 ?xa17 ?xl17 ?xc17 ?xk17 ?xa18 ?xl18 ?xc18 ?xk18 ?xa19 ?xl19 ?xc19 ?xk19 ?xa20 ?xl20 ?xc20 ?xk20 ?xa21 ?xl21 ?xc21 ?xk21 ?xa22 ?xl22 ?xc22 ?xk22 ?xa23 ?xl23 ?xc23 ?xk23 ?xa24 ?xl24 ?xc24 ?xk24 ?xa25 ?xl25 ?xc25 ?xk25 ?xa26 ?xl26 ?xc26 ?xk26 ?xa27 ?xl27 ?xc27 ?xk27 ?xa28 ?xl28 ?xc28 ?xk28 ?xa29 ?xl29 ?xc29 ?xk29 ?xa30 ?xl30 ?xc30 ?xk30 ?xa31 ?xl31 ?xc31 ?xk31 ?xg0 ?xr0 ?xg1 ?xr1 ?xg2 ?xr2 ?xg3 ?xr3 ?xg4 ?xr4 ?xg5 ?xr5 ?xg6 ?xr6 ?xz0 ?xz1 ?xz2 ?xz3 ?xz4 ?xz5 ?xz6 ?xz7 ?xz8 ?xz9 ?xz10 ?xz11 ?xz12)
    (case xaC => k_is)
    (case xpgC => k_is)
    (case xhdC => k_is)
    (case xpoC => k_is)
    (case xsaC => k_is)
    (case xmkC => k_is)
    (case xkpC => k_is)
    (case xn_field_rows => k_is)
    (case xn_dyke_rows => k_is)
    (case xma15 => k_is)
    (case xmi15 => k_is)
    (case xml15 => k_is)
    (case xmc15 => k_is)
    (case xmk15 => k_is)
    (case xma16 => k_is)
    (case xmi16 => k_is)
    (case xml16 => k_is)
    (case xmc16 => k_is)
    (case xmk16 => k_is)
    (case xma17 => k_is)
    (case xmi17 => k_is)
    (case xml17 => k_is)
    (case xmc17 => k_is)
    (case xmk17 => k_is)
    (case xma18 => k_is)
    (case xmi18 => k_is)
    (case xml18 => k_is)
    (case xmc18 => k_is)
    (case xmk18 => k_is)
    (case xma19 => k_is)
    (case xmi19 => k_is)
    (case xml19 => k_is)
    (case xmc19 => k_is)
    (case xmk19 => k_is)
    (case xma20 => k_is)
    (case xmi20 => k_is)
    (case xml20 => k_is)
    (case xmc20 => k_is)
    (case xmk20 => k_is)
    (case xma21 => k_is)
    (case xmi21 => k_is)
    (case xml21 => k_is)
    (case xmc21 => k_is)
    (case xmk21 => k_is)
    (case xma22 => k_is)
    (case xmi22 => k_is)
    (case xml22 => k_is)
    (case xmc22 => k_is)
    (case xmk22 => k_is)
    (case xma23 => k_is)
    (case xmi23 => k_is)
    (case xml23 => k_is)
    (case xmc23 => k_is)
    (case xmk23 => k_is)
    (case xxa_NoLand => k_is)
    (case xxa_DykeError => k_is)
    (case xxa_NoDecree => k_is)
    (case xxa_NoLevel => k_is)
    (case xxa_NoName => k_is)
    (case xxa_NoPurse => k_is)
    (case xxa_NoRing => k_is)
    (case xxa_NoRow => k_is)
    (case xxa_NoSluice => k_is)
    (case xxa_NoText => k_is)
    (case xxa_NoVoice => k_is)
    (case xxa_NoWay => k_is)
    (case xxa_NoWish => k_is)
    (case xxa_NoWork => k_is)
    (case xxa_Outvoted => k_is)
    (case xxa_Short => k_is)
    (case xxa_TooMany => k_is)
    (case xxq_NoLand => k_exc)
    (case xxm_NoLand => kts_exm)
    (case xxp_NoLand => k_is)
    (case xxg_NoLand => k_is)
    (case xxb_NoLand => k_is)
    (case xxh_NoLand => k_is)
    (case xxi_NoLand => k_is)
    (case xxt_NoLand => k_is)
    (case xxo_NoLand => k_is)
    (case xxz0 => kit_is)
    (case xxz1 => kit_is)
    (case xxz2 => kit_is)
    (case xxz3 => kit_is)
    (case xxz4 => kit_is)
    (case xxz5 => kit_is)
    (case xxz6 => kit_is)
    (case xxz7 => kit_is)
    (case xxz8 => kit_is)
    (case xxz9 => kit_is)
    (case xxz10 => kit_is)
    (case xxz11 => kit_is)
    (case xxz12 => kit_is)
    (case xxz13 => kit_is)
    (case xxz14 => kit_is)
    (case xxz15 => kit_is)
    (case xxz16 => kit_is)
    (case xa0 => k_is)
    (case xl0 => k_is)
    (case xc0 => k_is)
    (case xk0 => k_is)
    (case xa1 => k_is)
    (case xl1 => k_is)
    (case xc1 => k_is)
    (case xk1 => k_is)
    (case xa2 => k_is)
    (case xl2 => k_is)
    (case xc2 => k_is)
    (case xk2 => k_is)
    (case xa3 => k_is)
    (case xl3 => k_is)
    (case xc3 => k_is)
    (case xk3 => k_is)
    (case xa4 => k_is)
    (case xl4 => k_is)
    (case xc4 => k_is)
    (case xk4 => k_is)
    (case xa5 => k_is)
    (case xl5 => k_is)
    (case xc5 => k_is)
    (case xk5 => k_is)
    (case xa6 => k_is)
    (case xl6 => k_is)
    (case xc6 => k_is)
    (case xk6 => k_is)
    (case xa7 => k_is)
    (case xl7 => k_is)
    (case xc7 => k_is)
    (case xk7 => k_is)
    (case xa8 => k_is)
    (case xl8 => k_is)
    (case xc8 => k_is)
    (case xk8 => k_is)
    (case xa9 => k_is)
    (case xl9 => k_is)
    (case xc9 => k_is)
    (case xk9 => k_is)
    (case xa10 => k_is)
    (case xl10 => k_is)
    (case xc10 => k_is)
    (case xk10 => k_is)
    (case xa11 => k_is)
    (case xl11 => k_is)
    (case xc11 => k_is)
    (case xk11 => k_is)
    (case xa12 => k_is)
    (case xl12 => k_is)
    (case xc12 => k_is)
    (case xk12 => k_is)
    (case xa13 => k_is)
    (case xl13 => k_is)
    (case xc13 => k_is)
    (case xk13 => k_is)
    (case xa14 => k_is)
    (case xl14 => k_is)
    (case xc14 => k_is)
    (case xk14 => k_is)
    (case xa15 => k_is)
    (case xl15 => k_is)
    (case xc15 => k_is)
    (case xk15 => k_is)
    (case xa16 => k_is)
    (case xl16 => k_is)
    (case xc16 => k_is)
    (case xk16 => k_is)
    (case xa17 => k_is)
    (case xl17 => k_is)
    (case xc17 => k_is)
    (case xk17 => k_is)
    (case xa18 => k_is)
    (case xl18 => k_is)
    (case xc18 => k_is)
    (case xk18 => k_is)
    (case xa19 => k_is)
    (case xl19 => k_is)
    (case xc19 => k_is)
    (case xk19 => k_is)
    (case xa20 => k_is)
    (case xl20 => k_is)
    (case xc20 => k_is)
    (case xk20 => k_is)
    (case xa21 => k_is)
    (case xl21 => k_is)
    (case xc21 => k_is)
    (case xk21 => k_is)
    (case xa22 => k_is)
    (case xl22 => k_is)
    (case xc22 => k_is)
    (case xk22 => k_is)
    (case xa23 => k_is)
    (case xl23 => k_is)
    (case xc23 => k_is)
    (case xk23 => k_is)
    (case xa24 => k_is)
    (case xl24 => k_is)
    (case xc24 => k_is)
    (case xk24 => k_is)
    (case xa25 => k_is)
    (case xl25 => k_is)
    (case xc25 => k_is)
    (case xk25 => k_is)
    (case xa26 => k_is)
    (case xl26 => k_is)
    (case xc26 => k_is)
    (case xk26 => k_is)
    (case xa27 => k_is)
    (case xl27 => k_is)
    (case xc27 => k_is)
    (case xk27 => k_is)
    (case xa28 => k_is)
    (case xl28 => k_is)
    (case xc28 => k_is)
    (case xk28 => k_is)
    (case xa29 => k_is)
    (case xl29 => k_is)
    (case xc29 => k_is)
    (case xk29 => k_is)
    (case xa30 => k_is)
    (case xl30 => k_is)
    (case xc30 => k_is)
    (case xk30 => k_is)
    (case xa31 => k_is)
    (case xl31 => k_is)
    (case xc31 => k_is)
    (case xk31 => k_is)
    (case xg0 => k_is)
    (case xr0 => exact ⟨_, rfl⟩)
    (case xg1 => k_is)
    (case xr1 => exact ⟨_, rfl⟩)
    (case xg2 => k_is)
    (case xr2 => exact ⟨_, rfl⟩)
    (case xg3 => k_is)
    (case xr3 => exact ⟨_, rfl⟩)
    (case xg4 => k_is)
    (case xr4 => exact ⟨_, rfl⟩)
    (case xg5 => k_is)
    (case xr5 => exact ⟨_, rfl⟩)
    (case xg6 => k_is)
    (case xr6 => exact ⟨_, rfl⟩)
    (case xz0 => k_is)
    (case xz1 => k_is)
    (case xz2 => k_is)
    (case xz3 => k_is)
    (case xz4 => k_is)
    (case xz5 => k_is)
    (case xz6 => k_is)
    (case xz7 => k_is)
    (case xz8 => k_is)
    (case xz9 => k_is)
    (case xz10 => k_is)
    (case xz11 => k_is)
    (case xz12 => k_is)
