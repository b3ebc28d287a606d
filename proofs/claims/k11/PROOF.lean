import PyProof.Rows.All
import Wide.All
import OpenK.AllK
import Wide.FinOn
import Lean
import PyProof.EqAt
import PyProof.EqKinds
import PyProof.TupleCall
import PyProof.StrBlockI
import PyProof.SliceList
import PyProof.StrLawsIn
import PyProof.StrLaws
import PyProof.StrBlockG
import PyProof.StrLawsTight
import PyProof.StrLawsChain
import PySem.Challenge.RW_dykemoot_k11_lands_written_and_read
set_option Elab.async false
set_option linter.all false
set_option maxRecDepth 100000
namespace L2
open PySem PySem.Spec PyProof.Rows

abbrev Key := Sum Int Str
def keyIs : Key → Value → Bool
  | .inl k, v => Value.isInt k v
  | .inr x, v => Value.isStrOf x v
def keyH (w : World) : Key → Int
  | .inl k => hashInt k
  | .inr x => hashStr w x
theorem keyIs_shape : ∀ {k : Key} {v : Value}, keyIs k v = true → (∃ i t, k = Sum.inl i ∧ v = Value.int i t) ∨ (∃ x t, k = Sum.inr x ∧ v = Value.str x t)
  | .inl i, v, h => by
    obtain ⟨t, e⟩ := Value.isInt_shape (k := i) (v := v) h
    exact .inl ⟨i, t, rfl, e⟩
  | .inr x, v, h => by
    obtain ⟨t, e⟩ := Value.isStrOf_shape (x := x) (v := v) h
    exact .inr ⟨x, t, rfl, e⟩
theorem keyIs_int (i : Int) (t : Tok) : keyIs (.inl i) (.int i t) = true := by simp [keyIs, Value.isInt]
theorem keyIs_str (x : Str) (t : Tok) : keyIs (.inr x) (.str x t) = true := by simp [keyIs, Value.isStrOf]
theorem key_ll (a b : Int) : decide ((Sum.inl a : Key) = Sum.inl b) = (a == b) := by
  by_cases e : a = b
  · subst e; simp
  · have h : ¬ (Sum.inl a : Key) = Sum.inl b := fun q => e (Sum.inl.inj q)
    rw [decide_eq_false h]
    exact (beq_eq_false_iff_ne.mpr e).symm
theorem key_rr (a b : Str) : decide ((Sum.inr a : Key) = Sum.inr b) = decide (a = b) := by
  by_cases e : a = b
  · subst e; simp
  · have h : ¬ (Sum.inr a : Key) = Sum.inr b := fun q => e (Sum.inr.inj q)
    rw [decide_eq_false h, decide_eq_false e]
theorem key_lr (a : Int) (b : Str) : decide ((Sum.inl a : Key) = Sum.inr b) = false := decide_eq_false (fun q => nomatch q)
theorem key_rl (a : Str) (b : Int) : decide ((Sum.inr a : Key) = Sum.inl b) = false := decide_eq_false (fun q => nomatch q)

def mixKind (prog : Program) (w : World) : PySem.KeyKind prog w Key where
  is := keyIs
  hash := keyH w
  inj := fun v a b ha hb => by
    rcases keyIs_shape ha with ⟨i, t, rfl, rfl⟩ | ⟨x, t, rfl, rfl⟩
    · rcases keyIs_shape hb with ⟨j, u, rfl, e⟩ | ⟨y, u, rfl, e⟩
      · injection e with e1 _; rw [e1]
      · exact nomatch e
    · rcases keyIs_shape hb with ⟨j, u, rfl, e⟩ | ⟨y, u, rfl, e⟩
      · exact nomatch e
      · injection e with e1 _; rw [e1]
  byValue := fun k v h => by
    rcases keyIs_shape h with ⟨i, t, rfl, rfl⟩ | ⟨x, t, rfl, rfl⟩ <;> rfl
  pyHash := fun hv h => by
    rcases keyIs_shape hv with ⟨i, t, rfl, rfl⟩ | ⟨x, t, rfl, rfl⟩
    · exact wpAny_pyHash_int h
    · exact wpAny_pyHash_str h
  eqBool := fun hu hv h => by
    rcases keyIs_shape hu with ⟨i, t, rfl, rfl⟩ | ⟨x, t, rfl, rfl⟩
    · rcases keyIs_shape hv with ⟨j, u, rfl, rfl⟩ | ⟨y, u, rfl, rfl⟩
      · rw [key_ll] at h; exact wpAny_eqBool_int h
      · rw [key_lr] at h; exact SeqAt.EqAt.int_str i t y u _ _ _ _ h
    · rcases keyIs_shape hv with ⟨j, u, rfl, rfl⟩ | ⟨y, u, rfl, rfl⟩
      · rw [key_rl] at h; exact SeqAt.EqAt.str_int x t j u _ _ _ _ h
      · rw [key_rr] at h; exact wpAny_eqBool_str h
  «strs» := fun k x t v h => by
    rcases keyIs_shape h with ⟨i, u, rfl, e⟩ | ⟨y, u, rfl, e⟩
    · exact nomatch e
    · injection e with e1 _
      subst e1
      cases v <;> rfl

theorem mixKind_int (prog : Program) (w : World) (i : Int) (t : Tok) : (mixKind prog w).is (.inl i) (.int i t) = true := keyIs_int i t
theorem mixKind_str (prog : Program) (w : World) (x : Str) (t : Tok) : (mixKind prog w).is (.inr x) (.str x t) = true := keyIs_str x t
end L2

namespace L2
open PySem PySem.Spec PyProof.Rows

inductive V where
  | non | bl (b : Bool) | int (i : Int) | str (x : Str) | byt (b : Array UInt8) | flt (b : UInt64) | ref (a : Addr) | ty (n : String)
  deriving DecidableEq

def RelV : V → Value → Prop
  | .non, u => u = Value.none
  | .bl b, u => u = Value.bool b
  | .int i, u => ∃ t, u = Value.int i t
  | .str x, u => ∃ t, u = Value.str x t
  | .byt b, u => ∃ t, u = Value.bytes b t
  | .flt b, u => ∃ t, u = Value.float b t
  | .ref a, u => u = Value.ref a
  | .ty n, u => u = Value.type n

abbrev Vals : List V → List Value → Prop := Paired RelV
theorem Vals.length {xs : List V} {us : List Value} (r : Vals xs us) : xs.length = us.length := Paired.length r
theorem Vals.get : ∀ {xs : List V} {us : List Value} {i : Nat} {x : V}, Vals xs us → xs[i]? = some x → ∃ u, us[i]? = some u ∧ RelV x u
  | _, _, _, _, .nil, e => by simp at e
  | _, _, 0, _, .cons r _, e => by simp at e; subst e; exact ⟨_, rfl, r⟩
  | _, _, i + 1, x, .cons _ t, e => by
    obtain ⟨u, h1, h2⟩ := Vals.get (i := i) (x := x) t (by simpa using e)
    exact ⟨u, by simpa using h1, h2⟩
theorem Vals.append : ∀ {xs ys : List V} {us ws : List Value}, Vals xs us → Vals ys ws → Vals (xs ++ ys) (us ++ ws)
  | _, _, _, _, .nil, s => s
  | _, _, _, _, .cons r t, s => .cons r (Vals.append t s)
theorem Vals.take : ∀ {xs : List V} {us : List Value} (n : Nat), Vals xs us → Vals (xs.take n) (us.take n)
  | _, _, 0, _ => .nil
  | _, _, _ + 1, .nil => .nil
  | _, _, n + 1, .cons r t => .cons r (Vals.take n t)
theorem Vals.drop : ∀ {xs : List V} {us : List Value} (n : Nat), Vals xs us → Vals (xs.drop n) (us.drop n)
  | _, _, 0, r => r
  | _, _, _ + 1, .nil => .nil
  | _, _, n + 1, .cons _ t => Vals.drop n t
def RelO : Option V → Option Value → Prop
  | some v, some u => RelV v u
  | none, none => True
  | _, _ => False
def KV {κ : Type} : List (κ × V) → List (κ × Value) → Prop := Paired fun (p : κ × V) (q : κ × Value) => p.1 = q.1 ∧ RelV p.2 q.2

def kV : Key → V
  | .inl i => .int i
  | .inr x => .str x

inductive HO where
  /-- a list -/
  | lst (xs : List V)
  /-- a tuple (never changes) -/
  | tup (xs : List V)
  /-- a dict whose keys are ints and texts; one whose keys are tuples of ints and texts (the empty one is both) -/
  | dK (kvs : List (Key × V)) | dT (kvs : List (List Key × V))
  /-- a set of ints: its members, its size -/
  | set (S : Int → Bool) (n : Nat)
  /-- an instance of the class at C, its dict at dx, its attributes -/
  | ins (C dx : Addr) (fs : List (Str × V))
  /-- the dict of the instance at x -/
  | own (x : Addr)
  /-- the dict of an exception -/
  | xd (fs : List (Str × V))
  /-- a bound method, f of x -/
  | met (f x : Addr)
  /-- a range object lo, lo + 1, .. below hi -/
  | rng (lo hi : Int)
  /-- a thing that is known to the object (the script; a dict while a loop walks it): read, never written while it is so -/
  | frz (o : Obj) (u : HO)
  /-- a code object's table -/
  | tbl (ps : Array Value)
  /-- any other thing, by what is true of its one object (a def of one's own: SetO a S n := HO.ext fun h => ..) -/
  | ext (φ : Heap → Prop)

abbrev Hp := Addr → Option HO
def upd (H : Hp) (a : Addr) (o : HO) : Hp := fun b => if b = a then some o else H b
theorem upd_same {H : Hp} {a : Addr} {o : HO} : upd H a o a = some o := by unfold upd; rw [if_pos rfl]
theorem upd_ne {H : Hp} {a b : Addr} {o : HO} (h : b ≠ a) : upd H a o b = H b := by unfold upd; rw [if_neg h]
theorem upd_upd {H : Hp} {a : Addr} {o u : HO} : upd (upd H a o) a u = upd H a u := by
  funext b; unfold upd; split <;> rfl
theorem ne_of {H : Hp} {a b : Addr} {o u : HO} (h : H a = some o) (h' : H b = some u) (d : o ≠ u) : a ≠ b := by
  intro e; subst e; rw [h] at h'; exact d (Option.some.inj h')
theorem ne_of_none {H : Hp} {a b : Addr} {o : HO} (h : H a = some o) (h' : H b = none) : a ≠ b := by
  intro e; subst e; rw [h] at h'; cases h'

def IsTupD (h : Heap) (a : Addr) (its : Array Value) : Prop := ∃ o, h.get? a = some o ∧ o.cls = .type "tuple" ∧ ∃ n, o.data = .seq its n ∧ o.dict = none
theorem IsTupD.tup {h : Heap} {a : Addr} {its : Array Value} (x : IsTupD h a its) : IsTup h a its := by
  obtain ⟨o, e, c, n, d, _⟩ := x
  exact ⟨o, e, c, n, d⟩
theorem IsTupD.new (h : Heap) (its : Array Value) : IsTupD (h.push { cls := .type "tuple", data := .seq its }) h.objs.size its := ⟨_, Heap.get?_push_size _ rfl, rfl, _, rfl, rfl⟩
section
variable (P : Program) (w : World)
def ObjOk (H : Hp) (h : Heap) (a : Addr) : HO → Prop
  | .lst xs => xs.length ≤ sizeLine ∧ ∃ (its : List Value) (n : Nat), Vals xs its ∧ h.get? a = some { cls := .type "list", data := .seq its.toArray n }
  | .tup xs => xs.length ≤ sizeLine ∧ ∃ its : List Value, Vals xs its ∧ IsTupD h a its.toArray
  | .dK kvs => kvs.length ≤ sizeLine ∧ (a == sysModules) = false ∧ ∃ vs, KV kvs vs ∧ h.DictOf (mixKind P w) a vs
  | .dT kvs => kvs.length ≤ sizeLine ∧ (a == sysModules) = false ∧ ∃ xs : List (List Key × Addr × Value),
      Paired (fun (p : List Key × V) (q : List Key × Addr × Value) => p.1 = q.1 ∧ H q.2.1 = some (.tup (p.1.map kV)) ∧ RelV p.2 q.2.2) kvs xs ∧
      ∃ o es ep, h.get? a = some o ∧ o.ExactDict ∧ o.data = .dict es ep ∧ es.toList = xs.map (entryOfKey (tupleKind (mixKind P w))) ∧ (xs.map (·.1)).Nodup
  | .set S n => h.SetOf (intKind P w) a S n
  | .ins C dx fs => H dx = some (.own a) ∧ fs.length ≤ 1000 ∧ dx ≠ a ∧ h.get? a = some (PySem.W.instObj C dx) ∧
      ∃ mA, h.Ns1 dx mA ∧ (∀ f, RelO (fs.lookup f) (mA f)) ∧ PySem.Within mA (fs.map (·.1))
  | .own _ => ∃ o, h.get? a = some o
  | .xd fs => ∃ mA, h.Ns1 a mA ∧ ∀ f, RelO (fs.lookup f) (mA f)
  | .rng lo hi => ∃ t u v, h.get? a = some { cls := .type "range", data := .fields #[.int lo t, .int hi u, .int 1 v] }
  | .frz o u => h.get? a = some o ∧ ObjOk H h a u
  | .tbl ps => h.get? a = some { cls := .none, data := .fields ps }
  | .met f x => h.get? a = some (PySem.W.methodObj (.ref f) (.ref x))
  | .ext φ => φ h ∧ (∃ o, h.get? a = some o) ∧ ∀ h1 h2 : Heap, φ h1 → (∀ o, h1.get? a = some o → h2.get? a = some o) → φ h2
def HOk (H : Hp) (h : Heap) : Prop := ∀ a o, H a = some o → ObjOk P w H h a o
end

section
variable {P : Program} {w : World} {H H' : Hp} {h h' : Heap} {a : Addr} {o : HO}
theorem ObjOk.lt (x : ObjOk P w H h a o) : a < h.objs.size := by
  cases o with
  | lst xs => obtain ⟨_, _, _, _, e⟩ := x; exact Heap.lt_size e
  | tup xs => obtain ⟨_, _, _, _, e, _⟩ := x; exact Heap.lt_size e
  | dK kvs => obtain ⟨_, _, _, _, o, _, _, e, _⟩ := x; exact Heap.lt_size e
  | dT kvs => obtain ⟨_, _, _, _, o, _, _, e, _⟩ := x; exact Heap.lt_size e
  | set S n => obtain ⟨o, _, _, _, e, _⟩ := x; exact Heap.lt_size e
  | ins C dx fs => obtain ⟨_, _, _, e, _⟩ := x; exact Heap.lt_size e
  | own y => obtain ⟨_, e⟩ := x; exact Heap.lt_size e
  | xd fs => obtain ⟨_, ⟨_, _, _, e, _⟩, _⟩ := x; exact Heap.lt_size e
  | rng lo hi => obtain ⟨_, _, _, e⟩ := x; exact Heap.lt_size e
  | frz ob u => obtain ⟨e, _⟩ := x; exact Heap.lt_size e
  | tbl ps => exact Heap.lt_size (show h.get? a = some _ from x)
  | met f y => exact Heap.lt_size (show h.get? a = some _ from x)
  | ext φ => obtain ⟨_, ⟨_, e⟩, _⟩ := x; exact Heap.lt_size e
theorem Paired.mapP {α β : Type} {F G : α → β → Prop} : ∀ {l₁ : List α} {l₂ : List β}, Paired F l₁ l₂ → (∀ a b, F a b → G a b) → Paired G l₁ l₂
  | _, _, .nil, _ => .nil
  | _, _, .cons r t, f => .cons (f _ _ r) (Paired.mapP t f)
theorem ObjOk.stay (x : ObjOk P w H h a o) (k : ∀ b u, (b = a ∨ H b = some (.own a)) → h.get? b = some u → h'.get? b = some u)
    (ho : ∀ b, H b = some (.own a) → H' b = some (.own a)) (ht : ∀ b xs, H b = some (.tup xs) → H' b = some (.tup xs)) : ObjOk P w H' h' a o := by
  induction o with
  | lst xs => obtain ⟨z, its, n, r, e⟩ := x; exact ⟨z, its, n, r, k _ _ (.inl rfl) e⟩
  | tup xs => obtain ⟨z, its, r, ob, e, c⟩ := x; exact ⟨z, its, r, ob, k _ _ (.inl rfl) e, c⟩
  | dK kvs => obtain ⟨z, y, vs, r, ob, es, ep, e, c⟩ := x; exact ⟨z, y, vs, r, ob, es, ep, k _ _ (.inl rfl) e, c⟩
  | dT kvs =>
    obtain ⟨z, y, xs, r, ob, es, ep, e, c⟩ := x
    exact ⟨z, y, xs, Paired.mapP r fun p q z => ⟨z.1, ht _ _ z.2.1, z.2.2⟩, ob, es, ep, k _ _ (.inl rfl) e, c⟩
  | set S n => obtain ⟨ob, es, ep, t, e, c⟩ := x; exact ⟨ob, es, ep, t, k _ _ (.inl rfl) e, c⟩
  | ins C dx fs =>
    obtain ⟨d, z, ne, e, mA, ⟨od, es, ep, e2, c⟩, r⟩ := x
    exact ⟨ho _ d, z, ne, k _ _ (.inl rfl) e, mA, ⟨od, es, ep, k _ _ (.inr d) e2, c⟩, r⟩
  | own y => obtain ⟨ob, e⟩ := x; exact ⟨ob, k _ _ (.inl rfl) e⟩
  | xd fs => obtain ⟨mA, ⟨od, es, ep, e, c⟩, r⟩ := x; exact ⟨mA, ⟨od, es, ep, k _ _ (.inl rfl) e, c⟩, r⟩
  | rng lo hi => obtain ⟨t, u, v, e⟩ := x; exact ⟨t, u, v, k _ _ (.inl rfl) e⟩
  | frz ob u ih => obtain ⟨e, q⟩ := x; exact ⟨k _ _ (.inl rfl) e, ih q⟩
  | tbl ps =>
    have e : h.get? a = some { cls := .none, data := .fields ps } := x
    show h'.get? a = some { cls := .none, data := .fields ps }
    exact k a _ (.inl rfl) e
  | met f y =>
    have e : h.get? a = some (PySem.W.methodObj (.ref f) (.ref y)) := x
    show h'.get? a = some (PySem.W.methodObj (.ref f) (.ref y))
    exact k a _ (.inl rfl) e
  | ext φ => obtain ⟨p, ⟨o, e⟩, st⟩ := x; exact ⟨st _ _ p fun o q => k _ _ (.inl rfl) q, ⟨o, k _ _ (.inl rfl) e⟩, st⟩
theorem HOk.lt (x : HOk P w H h) (e : H a = some o) : a < h.objs.size := (x a o e).lt
theorem HOk.fresh (x : HOk P w H h) (e : h.objs.size ≤ a) : H a = none := by
  cases q : H a with
  | none => rfl
  | some u => exact absurd (Nat.lt_of_lt_of_le (x.lt q) e) (Nat.lt_irrefl _)
theorem HOk.kept (x : HOk P w H h) (k : ∀ b u, h.get? b = some u → h'.get? b = some u) : HOk P w H h' := fun a o e =>
  (x a o e).stay (fun b u _ q => k b u q) (fun _ q => q) fun _ _ q => q
theorem HOk.laid (x : HOk P w H h) (k : ∀ b u, h.get? b = some u → h'.get? b = some u) (hp : h.objs.size ≤ a) (new : ObjOk P w (upd H a o) h' a o) : HOk P w (upd H a o) h' := fun b u e => by
  have hn := x.fresh hp
  by_cases hb : b = a
  · subst hb; rw [upd_same] at e; cases e; exact new
  · rw [upd_ne hb] at e
    exact (x b u e).stay (fun c v _ q => k c v q) (fun c q => by rw [upd_ne (ne_of_none q hn)]; exact q) fun c xs q => by rw [upd_ne (ne_of_none q hn)]; exact q
end

def Rd (H : Hp) (a : Addr) (u : HO) : Prop := H a = some u ∨ ∃ o, H a = some (.frz o u)
theorem Rd.ok {P : Program} {w : World} {H : Hp} {h : Heap} {a : Addr} {u : HO} (r : Rd H a u) (x : HOk P w H h) : ObjOk P w H h a u := by
  rcases r with r | ⟨o, r⟩
  · exact x a u r
  · obtain ⟨_, q⟩ := x a _ r
    exact q
def Mut : Option HO → Prop
  | some (.lst _) => True
  | some (.dK _) => True
  | some (.dT _) => True
  | some (.set _ _) => True
  | some (.ins _ _ _) => True
  | some (.ext _) => True
  | _ => False
section
variable {P : Program} {w : World} {H : Hp} {h h' : Heap} {x e : Addr} {o' : HO}
theorem HOk.write (ok : HOk P w H h) (mu : Mut (H x)) (he : e = x ∨ H e = some (.own x)) (k : ∀ b u, b ≠ e → h.get? b = some u → h'.get? b = some u) (heo : ∃ u, h'.get? e = some u)
    (new : ObjOk P w (upd H x o') h' x o') : HOk P w (upd H x o') h' := fun b u q => by
  have nown : ∀ c y, H c = some (.own y) → c ≠ x := fun c y r z => by subst z; rw [r] at mu; exact mu
  have ntup : ∀ c xs, H c = some (.tup xs) → c ≠ x := fun c xs r z => by subst z; rw [r] at mu; exact mu
  by_cases hb : b = x
  · subst hb; rw [upd_same] at q; cases q; exact new
  · rw [upd_ne hb] at q
    by_cases hbe : b = e
    · have q' : H b = some (.own x) := by
        rcases he with z | z
        · exact absurd (hbe.trans z) hb
        · rw [hbe]; exact z
      rw [q] at q'; cases q'
      obtain ⟨v, hv⟩ := heo
      exact ⟨v, by rw [hbe]; exact hv⟩
    · refine (ok b u q).stay (fun c v hc r => k c v ?_ r) (fun c r => by rw [upd_ne (nown c b r)]; exact r) fun c xs r => by rw [upd_ne (ntup c xs r)]; exact r
      rcases hc with rfl | hc
      · exact hbe
      · rintro rfl
        rcases he with z | z
        · exact nown c b hc z
        · rw [hc] at z; cases z; exact hb rfl
end

structure Un (fs ex : List Addr) (H H' : Hp) (h h' : Heap) : Prop where
  keep : ∀ b o, h.get? b = some o → H b = none → b ∉ fs → b ∉ ex → h'.get? b = some o
  slot : ∀ b o, h.get? b = some o → H b = none → b ∈ fs → b ∉ ex → ∃ sl, h'.get? b = some { o with slots := sl }
  free : ∀ b o, h.get? b = some o → H b = none → b ∉ ex → H' b = none
  there : ∀ b o, h.get? b = some o → b ∉ ex → ∃ o', h'.get? b = some o'
  tups : ∀ b xs, H b = some (.tup xs) → H' b = some (.tup xs)
  frzs : ∀ b o u, H b = some (.frz o u) → H' b = some (.frz o u)
  tbls : ∀ b ps, H b = some (.tbl ps) → ∃ more, H' b = some (.tbl (ps ++ more))
section
variable {fs fs' ex ex' : List Addr} {H H1 H2 : Hp} {h h1 h2 h' : Heap} {a x e : Addr} {o : HO}
theorem Un.any (u : Un fs ex H H1 h h1) {b : Addr} {ob : Obj} (q : h.get? b = some ob) (n : H b = none) (hx : b ∉ ex) : ∃ sl, h1.get? b = some { ob with slots := sl } := by
  by_cases hb : b ∈ fs
  · exact u.slot b ob q n hb hx
  · exact ⟨ob.slots, u.keep b ob q n hb hx⟩
theorem Un.kept (k : ∀ b u, h.get? b = some u → h'.get? b = some u) : Un fs ex H H h h' :=
  ⟨fun b ob q _ _ _ => k b ob q, fun b ob q _ _ _ => ⟨ob.slots, k b ob q⟩, fun _ _ _ n _ => n, fun b ob q _ => ⟨ob, k b ob q⟩, fun _ _ q => q, fun _ _ _ q => q, fun _ ps q => ⟨#[], by rw [q]; simp⟩⟩
theorem Un.refl : Un fs ex H H h h := Un.kept fun _ _ q => q
theorem Un.laid (k : ∀ b u, h.get? b = some u → h'.get? b = some u) (hp : h.objs.size ≤ a) (hn : H a = none) : Un fs ex H (upd H a o) h h' where
  keep := fun b u q _ _ _ => k b u q
  slot := fun b u q _ _ _ => ⟨u.slots, k b u q⟩
  free := fun b u q n _ => by rw [upd_ne (Nat.ne_of_lt (Nat.lt_of_lt_of_le (Heap.lt_size q) hp))]; exact n
  there := fun b u q _ => ⟨u, k b u q⟩
  tups := fun b xs q => by rw [upd_ne (ne_of_none q hn)]; exact q
  frzs := fun b u xs q => by rw [upd_ne (ne_of_none q hn)]; exact q
  tbls := fun b ps q => ⟨#[], by rw [upd_ne (ne_of_none q hn), q]; simp⟩
theorem Un.write (mu : Mut (H x)) (he : e = x ∨ H e = some (.own x)) (k : ∀ b u, b ≠ e → h.get? b = some u → h'.get? b = some u) (heo : ∃ u, h'.get? e = some u) : Un fs ex H (upd H x o) h h' := by
  have hx : ∀ b, H b = none → b ≠ x := fun b n z => by subst z; rw [n] at mu; exact mu
  have hb : ∀ b, H b = none → b ≠ e := fun b n z => by
    subst z
    rcases he with r | r
    · exact hx b n r
    · rw [n] at r; cases r
  have hm : ∀ b u, H b = some u → ¬ Mut (some u) → b ≠ x := fun b u q nm z => by subst z; rw [q] at mu; exact nm mu
  refine ⟨fun b u q n _ _ => k b u (hb b n) q, fun b u q n _ _ => ⟨u.slots, k b u (hb b n) q⟩, fun b u q n _ => by rw [upd_ne (hx b n)]; exact n, fun b u q _ => ?_,
    fun b xs q => by rw [upd_ne (hm b _ q fun z => z)]; exact q, fun b u xs q => by rw [upd_ne (hm b _ q fun z => z)]; exact q, fun b ps q => ⟨#[], by rw [upd_ne (hm b _ q fun z => z), q]; simp⟩⟩
  by_cases hbe : b = e
  · subst hbe; exact heo
  · exact ⟨u, k b u hbe q⟩
end

def trk (h : Heap) (H : Hp) : List Addr := (List.range h.objs.size).filter fun a => (H a).isSome
def hidT (h : Heap) (H : Hp) : Heap := PySem.W.hideAll h (trk h H)
theorem hidT_size (h : Heap) (H : Hp) : (hidT h H).objs.size = h.objs.size := PySem.W.hideAll_size _ _
theorem hidT_get {h : Heap} {H : Hp} {b : Addr} {o : Obj} (e : h.get? b = some o) (n : H b = none) : (hidT h H).get? b = some o :=
  PySem.W.hideAll_get _ e fun hm => by
    have q : (H b).isSome = true := (List.mem_filter.mp hm).2
    rw [n] at q; simp at q
theorem of_hidT {h : Heap} {H : Hp} {b : Addr} {o : Obj} (e : (hidT h H).get? b = some o) : h.get? b = some o ∧ H b = none := by
  have e' : h.get? b = some o := PySem.W.of_hideAll (trk h H) e
  refine ⟨e', ?_⟩
  cases q : H b with
  | none => rfl
  | some x =>
    have hm : b ∈ trk h H := List.mem_filter.mpr ⟨List.mem_range.mpr (Heap.lt_size e'), by simp [q]⟩
    have z : (hidT h H).get? b = none := PySem.W.hideAll_none (trk h H) hm
    rw [z] at e; cases e

def allNews (g h : Heap) (L : Addr) : List (Addr × Obj) := (List.range h.objs.size).filterMap fun a => if a = L ∨ (g.get? a).isSome = true then none else (h.get? a).map fun o => (a, o)
def rest (g h : Heap) (L d : Addr) : List (Addr × Obj) := (allNews g h L).filter fun p => decide (p.1 ≠ d)
end L2

namespace L2
open PySem PySem.Spec PyProof.Rows

structure Mod (K : PySem.W.Frag) (mg : Str → Option Value) (base : Heap) : Prop where
  kin : K.In base
  glob : base.Ns mainGlobals mg
  blt : ∃ mb, base.Ns builtinsNs mb ∧ ∀ x : Str, x ≠ "__name__" → mb x = bootBuiltins x
  nolimit : base.NoLimit

structure Cx where
  prog : Program
  w : World
  K : PySem.W.Frag
  mg : Str → Option Value
  base : Heap
  A : Around
  N : List Str
  s₀ : Shared
  H₀ : Hp
  env : Env
  outer : List Env
  stack : List Env
  ex : List Addr
  fn : Str → Bool
  calm : Bool
  pn : List (Addr × Obj)
  xe : Value → Shared → Prop
def frs (l : List Env) : List Addr := l.filterMap (·.frame)
abbrev Cx.fs (X : Cx) : List Addr := frs X.outer

def Vis (sc : Scope) (x : Str) : Prop := sc.names.lookup x = some .local ∨ sc.names.lookup x = some .cell ∨ sc.names.lookup x = some .free
def Loc (sc : Scope) (x : Str) : Prop := sc.names.lookup x = some .local ∨ sc.names.lookup x = some .cell
def Look (env : Env) (h : Heap) (m : Str → Option Value) (x : Str) (u : Value) : Prop :=
  (env.kindOf x = some .local ∧ m x = some u) ∨ ((env.kindOf x = some .cell ∨ env.kindOf x = some .free) ∧ ∃ c, env.cells.lookup x = some c ∧ h.IsCell c (some u))

structure Cx.Ok (X : Cx) : Prop where
  mod : Mod X.K X.mg X.base
  kind : X.env.scope.kind = .function
  glob : X.env.globals = mainGlobals
  blt : X.env.builtins = builtinsNs
  above : X.s₀.heap.objs.size ≤ X.env.locals
  inj : ∀ x y c, X.env.cells.lookup x = some c → X.env.cells.lookup y = some c → x = y
  has : ∀ x, (X.env.kindOf x = some .cell ∨ X.env.kindOf x = some .free) → ∃ c, X.env.cells.lookup x = some c
  cab : ∀ x c, X.fn x = true → X.env.cells.lookup x = some c → X.s₀.heap.objs.size ≤ c
  hd : X.calm = true → X.A.handled = none
  frames : X.A.frames = some X.stack
  stk : X.stack = X.outer ∨ (X.stack = X.env :: X.outer ∧ X.env.frame = some X.env.locals)
  exf : ∀ b ∈ X.ex, b ≠ X.env.locals ∧ ∀ x c, X.env.cells.lookup x = some c → c ≠ b
  bs : ∀ b o, X.base.get? b = some o → X.s₀.heap.get? b = some o ∧ X.H₀ b = none
  bsz : X.base.objs.size ≤ X.s₀.heap.objs.size
  noex : ∀ b o, X.base.get? b = some o → b ∉ X.ex
  exfs : ∀ b ∈ X.ex, b ∉ X.fs
  funs : X.s₀.heap.FunFrames X.base X.outer
  frf : ∀ b ∈ X.fs, X.H₀ b = none

structure Inv (X : Cx) (pins : List (Addr × Obj)) (σ : List (Option V)) (H : Hp) (s : Shared) : Prop where
  ok : X.Ok
  os : s.os = X.s₀.os
  bare : AllBare s.gens
  base : Un X.fs X.ex X.H₀ H X.s₀.heap s.heap
  loc : ∃ m, s.heap.Ns X.env.locals m ∧ ∀ (i : Nat) (x : Str) (v : V), X.N[i]? = some x → σ[i]? = some (some v) → Vis X.env.scope x → ∃ u, RelV v u ∧ Look X.env s.heap m x u
  cell : ∀ x c, X.env.cells.lookup x = some c → ∃ v, s.heap.IsCell c v
  free : H X.env.locals = none
  freeC : ∀ x c, X.env.cells.lookup x = some c → H c = none
  pin : ∀ p ∈ X.pn ++ pins, s.heap.get? p.1 = some p.2 ∧ H p.1 = none ∧ p.1 ≠ X.env.locals ∧ p.1 ∉ X.fs ∧ ∀ v, p.2.data ≠ .cell v
  hok : HOk X.prog X.w H s.heap
  len : σ.length = X.N.length

section
variable {X : Cx} {pins : List (Addr × Obj)} {σ : List (Option V)} {H H' : Hp} {s : Shared} {h' : Heap}

theorem Cx.Ok.nofr (ok : X.Ok) {b : Addr} {o : Obj} (e : X.base.get? b = some o) : b ∉ X.fs := fun hb => by
  have := (ok.funs.mem hb).1
  rw [e] at this; cases this
theorem Inv.bs (I : Inv X pins σ H s) : ∀ b o, X.base.get? b = some o → s.heap.get? b = some o ∧ H b = none := fun b o e =>
  ⟨I.base.keep b o (I.ok.bs b o e).1 (I.ok.bs b o e).2 (I.ok.nofr e) (I.ok.noex b o e), I.base.free b o (I.ok.bs b o e).1 (I.ok.bs b o e).2 (I.ok.noex b o e)⟩
theorem Inv.bk (I : Inv X pins σ H s) : ∀ b o, X.base.get? b = some o → s.heap.get? b = some o := fun b o e => (I.bs b o e).1
theorem Inv.mod (I : Inv X pins σ H s) : Mod X.K X.mg X.base := I.ok.mod
theorem Inv.kIn (I : Inv X pins σ H s) : X.K.In s.heap := I.ok.mod.kin.keeps I.bk
theorem Inv.fr (I : Inv X pins σ H s) : ∃ m, Fr X.base X.env.locals s.heap m :=
  let ⟨m, hn, _⟩ := I.loc
  ⟨m, hn, I.bk, Nat.le_trans I.ok.bsz I.ok.above⟩
theorem Inv.lt (I : Inv X pins σ H s) : X.env.locals < s.heap.objs.size := let ⟨_, hn, _⟩ := I.loc; hn.lt
theorem Inv.sz (I : Inv X pins σ H s) : X.s₀.heap.objs.size ≤ s.heap.objs.size := Nat.le_trans I.ok.above (Nat.le_of_lt I.lt)
theorem Inv.nofs (I : Inv X pins σ H s) {a : Addr} (h : s.heap.objs.size ≤ a) : a ∉ X.fs := fun hb => by
  obtain ⟨_, o, ho, _⟩ := I.ok.funs.mem hb
  exact absurd (Nat.lt_of_lt_of_le (Heap.lt_size ho) (Nat.le_trans I.sz h)) (Nat.lt_irrefl _)
theorem Inv.cne (I : Inv X pins σ H s) : ∀ x c, X.env.cells.lookup x = some c → c ≠ X.env.locals := fun x c e z => by
  obtain ⟨v, o, ho, hd⟩ := I.cell x c e
  obtain ⟨m, ⟨o', es, ep, ho', hd', _⟩, _⟩ := I.loc
  rw [z, ho'] at ho; cases ho; rw [hd'] at hd; cases hd
theorem Inv.funs (I : Inv X pins σ H s) : s.heap.FunFrames X.base X.outer := by
  have all : ∀ (l : List Env), (∀ b ∈ frs l, b ∈ X.fs) → X.s₀.heap.FunFrames X.base l → s.heap.FunFrames X.base l := by
    intro l
    induction l with
    | nil => intro _ _; trivial
    | cons env r ih =>
      intro hs hl
      obtain ⟨hk, ⟨L, o, hf, hn, ho, hd⟩, hr⟩ := hl
      have hL : L ∈ X.fs := hs L (by unfold frs; rw [List.filterMap_cons, hf]; exact List.mem_cons_self)
      obtain ⟨sl, e⟩ := I.base.slot L o ho (I.ok.frf L hL) hL fun z => I.ok.exfs L z hL
      exact ⟨hk, ⟨L, _, hf, hn, e, hd⟩, ih (fun b hb => hs b (by unfold frs; rw [List.filterMap_cons, hf]; exact List.mem_cons_of_mem _ hb)) hr⟩
  exact all X.outer (fun _ hb => hb) I.ok.funs

theorem Inv.stack (I : Inv X pins σ H s) : s.heap.FunFrames X.base X.stack := by
  rcases I.ok.stk with e | ⟨e, hf⟩
  · rw [e]; exact I.funs
  · rw [e]
    obtain ⟨m, hn, _⟩ := I.loc
    refine .cons (by rw [I.ok.kind]; decide) hf hn ?_ I.funs
    exact Heap.get?_none_of_le (Nat.le_trans I.ok.bsz I.ok.above)
theorem Inv.stkSub (I : Inv X pins σ H s) : ∀ b ∈ frs X.stack, b ∈ X.env.locals :: X.fs := fun b hb => by
  rcases I.ok.stk with e | ⟨e, hf⟩
  · rw [e] at hb; exact List.mem_cons_of_mem _ hb
  · rw [e] at hb
    unfold frs at hb
    rw [List.filterMap_cons, hf] at hb
    exact hb
theorem Inv.stkFree (I : Inv X pins σ H s) : ∀ b ∈ frs X.stack, H b = none := fun b hb => by
  rcases List.mem_cons.mp (I.stkSub b hb) with e | hb
  · rw [e]; exact I.free
  · obtain ⟨_, o, ho, _⟩ := I.ok.funs.mem hb
    exact I.base.free b o ho (I.ok.frf b hb) fun z => I.ok.exfs b z hb

theorem Inv.step {g' : Array GenState} {t' : Nat} {d' : Drawn} {ch : List Addr} (I : Inv X pins σ H s)
    (hch : ∀ b ∈ ch, (b ∈ X.ex ∨ X.s₀.heap.objs.size ≤ b) ∧ b ≠ X.env.locals ∧ (∀ x c, X.env.cells.lookup x = some c → c ≠ b) ∧ ∀ p ∈ X.pn ++ pins, p.1 ≠ b)
    (keep : ∀ b o, b ≠ X.env.locals → b ∉ X.fs → b ∉ ch → s.heap.get? b = some o → H b = none → h'.get? b = some o)
    (slot : ∀ b o, b ≠ X.env.locals → b ∈ X.fs → b ∉ ch → s.heap.get? b = some o → H b = none → ∃ sl, h'.get? b = some { o with slots := sl }) (free : ∀ b o, b ∉ ch → s.heap.get? b = some o → H b = none → H' b = none)
    (there : ∀ b o, b ∉ ch → s.heap.get? b = some o → ∃ o', h'.get? b = some o')
    (tups : ∀ b xs, H b = some (.tup xs) → H' b = some (.tup xs)) (frzs : ∀ b o u, H b = some (.frz o u) → H' b = some (.frz o u)) (tbls : ∀ b ps, H b = some (.tbl ps) → ∃ more, H' b = some (.tbl (ps ++ more)))
    (ns : ∀ m, s.heap.Ns X.env.locals m → h'.Ns X.env.locals m) (hok : HOk X.prog X.w H' h') (hg : AllBare g') :
    Inv X pins σ H' { s with heap := h', gens := g', drawn := d', toks := t' } := by
  have neL : ∀ b o, X.s₀.heap.get? b = some o → b ≠ X.env.locals := fun b o e => Nat.ne_of_lt (Nat.lt_of_lt_of_le (Heap.lt_size e) I.ok.above)
  have neC : ∀ b o, X.s₀.heap.get? b = some o → b ∉ X.ex → b ∉ ch := fun b o e hx hb => by
    rcases (hch b hb).1 with z | z
    · exact hx z
    · exact absurd (Nat.lt_of_lt_of_le (Heap.lt_size e) z) (Nat.lt_irrefl _)
  have cellK : ∀ x c, X.env.cells.lookup x = some c → ∀ v, s.heap.IsCell c v → h'.IsCell c v := fun x c e v ⟨o, ho, hd⟩ => by
    have nch : c ∉ ch := fun z => (hch c z).2.2.1 x c e rfl
    by_cases hc : c ∈ X.fs
    · obtain ⟨sl, q⟩ := slot c o (I.cne x c e) hc nch ho (I.freeC x c e)
      exact ⟨_, q, hd⟩
    · exact ⟨o, keep c o (I.cne x c e) hc nch ho (I.freeC x c e), hd⟩
  refine ⟨I.ok, I.os, hg, ⟨fun b o e n hb hx => ?_, fun b o e n hb hx => ?_, fun b o e n hx => ?_, fun b o e hx => ?_, fun b xs e => tups b xs (I.base.tups b xs e), fun b o xs e => frzs b o xs (I.base.frzs b o xs e), fun b ps e => ?_⟩, ?_, fun x c e => ?_, ?_, fun x c e => ?_, fun p hp => ?_, hok, I.len⟩
  · exact keep b o (neL b o e) hb (neC b o e hx) (I.base.keep b o e n hb hx) (I.base.free b o e n hx)
  · obtain ⟨sl, e1⟩ := I.base.slot b o e n hb hx
    obtain ⟨sl', e2⟩ := slot b _ (neL b o e) hb (neC b o e hx) e1 (I.base.free b o e n hx)
    exact ⟨sl', e2⟩
  · obtain ⟨o', e1⟩ := I.base.there b o e hx
    exact free b o' (neC b o e hx) e1 (I.base.free b o e n hx)
  · obtain ⟨o', e1⟩ := I.base.there b o e hx
    exact there b o' (neC b o e hx) e1
  · obtain ⟨m1, e1⟩ := I.base.tbls b ps e
    obtain ⟨m2, e2⟩ := tbls b _ e1
    exact ⟨m1 ++ m2, by rw [e2, Array.append_assoc]⟩
  · obtain ⟨m, hn, hl⟩ := I.loc
    refine ⟨m, ns m hn, fun i x v e1 e2 e3 => ?_⟩
    obtain ⟨u, r, l⟩ := hl i x v e1 e2 e3
    refine ⟨u, r, ?_⟩
    rcases l with l | ⟨k, c, e, z⟩
    · exact .inl l
    · exact .inr ⟨k, c, e, cellK x c e _ z⟩
  · obtain ⟨v, z⟩ := I.cell x c e
    exact ⟨v, cellK x c e v z⟩
  · obtain ⟨m, ⟨o, _, _, ho, _⟩, _⟩ := I.loc
    exact free _ o (fun z => (hch _ z).2.1 rfl) ho I.free
  · obtain ⟨v, o, ho, hd⟩ := I.cell x c e
    exact free c o (fun z => (hch c z).2.2.1 x c e rfl) ho (I.freeC x c e)
  · obtain ⟨e, n, ne, nf, d⟩ := I.pin p hp
    have nch : p.1 ∉ ch := fun z => (hch p.1 z).2.2.2 p hp rfl
    exact ⟨keep p.1 p.2 ne nf nch e n, free p.1 p.2 nch e n, ne, nf, d⟩
theorem Inv.un {t' : Nat} (I : Inv X pins σ H s) (u : Un X.fs [] H H' s.heap h') (hok : HOk X.prog X.w H' h') : Inv X pins σ H' { s with heap := h', toks := t' } := by
  obtain ⟨m, ⟨o, es, ep, ho, r⟩, _⟩ := id I.loc
  obtain ⟨sl, hL⟩ := u.any ho I.free (by simp)
  exact I.step (g' := s.gens) (d' := s.drawn) (ch := []) (fun _ z => nomatch z) (fun b o _ hb _ e n => u.keep b o e n hb (by simp)) (fun b o _ hb _ e n => u.slot b o e n hb (by simp)) (fun b o _ e n => u.free b o e n (by simp)) (fun b o _ e => u.there b o e (by simp)) u.tups u.frzs u.tbls (fun m' hm => by
    obtain ⟨o', es', ep', ho', r'⟩ := hm
    rw [ho] at ho'; cases ho'
    exact ⟨_, es', ep', hL, r'⟩) hok I.bare
theorem Inv.call {g' : Array GenState} {t' : Nat} {d' : Drawn} {ch : List Addr} (I : Inv X pins σ H s) (u : Un (frs X.stack) ch H H' s.heap h') (hok : HOk X.prog X.w H' h') (hg : AllBare g')
    (hch : ∀ b ∈ ch, (b ∈ X.ex ∨ X.s₀.heap.objs.size ≤ b) ∧ b ≠ X.env.locals ∧ (∀ x c, X.env.cells.lookup x = some c → c ≠ b) ∧ ∀ p ∈ X.pn ++ pins, p.1 ≠ b) :
    Inv X pins σ H' { s with heap := h', gens := g', drawn := d', toks := t' } := by
  obtain ⟨m, ⟨o, es, ep, ho, r⟩, _⟩ := id I.loc
  obtain ⟨sl, hL⟩ := u.any ho I.free fun z => (hch _ z).2.1 rfl
  exact I.step (ch := ch) hch (fun b o hL hb hc e n => u.keep b o e n (fun z => (List.mem_cons.mp (I.stkSub b z)).elim hL hb) hc) (fun b o _ _ hc e n => u.any e n hc) (fun b o hc e n => u.free b o e n hc) (fun b o hc e => u.there b o e hc) u.tups u.frzs u.tbls (fun m' hm => by
    obtain ⟨o', es', ep', ho', r'⟩ := hm
    rw [ho] at ho'; cases ho'
    exact ⟨_, es', ep', hL, r'⟩) hok hg
theorem Inv.turned {t' : Nat} {it : Addr} (I : Inv X pins σ H s) (k : ∀ b o, b ≠ it → s.heap.get? b = some o → h'.get? b = some o) (hn : H it = none) (hL : it ≠ X.env.locals)
    (h1 : it ∈ X.ex ∨ X.s₀.heap.objs.size ≤ it) (h2 : ∀ x c, X.env.cells.lookup x = some c → c ≠ it) (h3 : ∀ p ∈ X.pn ++ pins, p.1 ≠ it) : Inv X pins σ H { s with heap := h', toks := t' } := by
  have nit : ∀ b u, H b = some u → b ≠ it := fun b u e z => by rw [z, hn] at e; cases e
  refine I.step (g' := s.gens) (d' := s.drawn) (ch := [it]) (fun b hb => ?_) (fun b o _ _ hc e _ => k b o (fun z => hc (by simp [z])) e) (fun b o _ _ hc e _ => ⟨o.slots, k b o (fun z => hc (by simp [z])) e⟩) (fun _ _ _ _ n => n)
    (fun b o hc e => ⟨o, k b o (fun z => hc (by simp [z])) e⟩) (fun _ _ e => e) (fun _ _ _ e => e) (fun b ps e => ⟨#[], by rw [e]; simp⟩) (fun m hm => ?_) (fun b u e => ?_) I.bare
  · have e : b = it := by simpa using hb
    subst e
    exact ⟨h1, hL, h2, h3⟩
  · obtain ⟨o, es, ep, ho, r⟩ := hm
    exact ⟨o, es, ep, k _ o (Ne.symm hL) ho, r⟩
  · refine (I.hok b u e).stay (fun c v hc q => k c v ?_ q) (fun _ q => q) fun _ _ q => q
    rcases hc with z | z
    · rw [z]; exact nit b u e
    · exact nit c _ z
theorem Inv.tok (I : Inv X pins σ H s) (t : Nat) : Inv X pins σ H { s with toks := t } := I.un (h' := s.heap) (t' := t) Un.refl I.hok
theorem Inv.kept {t' : Nat} (I : Inv X pins σ H s) (k : ∀ b u, s.heap.get? b = some u → h'.get? b = some u) : Inv X pins σ H { s with heap := h', toks := t' } := I.un (Un.kept k) (I.hok.kept k)
theorem Inv.laid {a : Addr} {o : HO} {t' : Nat} (I : Inv X pins σ H s) (k : ∀ b u, s.heap.get? b = some u → h'.get? b = some u) (hp : s.heap.objs.size ≤ a) (new : ObjOk X.prog X.w (upd H a o) h' a o) :
    Inv X pins σ (upd H a o) { s with heap := h', toks := t' } := I.un (Un.laid k hp (I.hok.fresh hp)) (I.hok.laid k hp new)
theorem Inv.write {x e : Addr} {o : HO} {t' : Nat} (I : Inv X pins σ H s) (mu : Mut (H x)) (he : e = x ∨ H e = some (.own x)) (k : ∀ b u, b ≠ e → s.heap.get? b = some u → h'.get? b = some u) (heo : ∃ u, h'.get? e = some u)
    (new : ObjOk X.prog X.w (upd H x o) h' x o) : Inv X pins σ (upd H x o) { s with heap := h', toks := t' } := I.un (Un.write mu he k heo) (I.hok.write mu he k heo new)
theorem Inv.weak {σ' : List (Option V)} (I : Inv X pins σ H s) (hl : σ'.length = σ.length) (w : ∀ (i : Nat) v, σ'[i]? = some (some v) → σ[i]? = some (some v)) : Inv X pins σ' H s :=
  ⟨I.ok, I.os, I.bare, I.base, let ⟨m, hn, hl'⟩ := I.loc; ⟨m, hn, fun i x v e1 e2 e3 => hl' i x v e1 (w i v e2) e3⟩, I.cell, I.free, I.freeC, I.pin, I.hok, hl.trans I.len⟩
theorem Inv.pins_of {pins' : List (Addr × Obj)} (I : Inv X pins σ H s) (h : ∀ p ∈ pins', s.heap.get? p.1 = some p.2 ∧ H p.1 = none ∧ p.1 ≠ X.env.locals ∧ p.1 ∉ X.fs ∧ ∀ v, p.2.data ≠ .cell v) : Inv X pins' σ H s :=
  ⟨I.ok, I.os, I.bare, I.base, I.loc, I.cell, I.free, I.freeC, fun p hp => (List.mem_append.mp hp).elim (fun z => I.pin p (List.mem_append_left _ z)) (h p), I.hok, I.len⟩

theorem nodup_ix {N : List Str} (hN : N.Nodup) {i j : Nat} {x : Str} (a : N[i]? = some x) (b : N[j]? = some x) : i = j := by
  obtain ⟨h1, e1⟩ := List.getElem?_eq_some_iff.mp a
  obtain ⟨h2, e2⟩ := List.getElem?_eq_some_iff.mp b
  exact (List.getElem_inj hN).mp (e1.trans e2.symm)

theorem store_ok2 {M : Model} {A : Around} {E : Value → Shared → Prop} {i : Nat} {x : Str} {v : V} {u : Value} {Q : Unit → Shared → Prop} (I : Inv X pins σ H s) (hN : X.N.Nodup) (hi : X.N[i]? = some x) (hx : Loc X.env.scope x) (r : RelV v u)
    (h : ∀ s', Inv X pins (σ.set i (some v)) H s' → (∃ a, Heap.SameBut a s.heap s'.heap ∧ (a = X.env.locals ∨ X.env.cells.lookup x = some a)) → Q () s') (hf : X.fn x = true ∨ X.env.scope.names.lookup x = some .local := by first | exact .inl rfl | exact .inr rfl | assumption) : wpAny M A (storeName X.env x u) Q E s := by
  obtain ⟨m, hn, hl⟩ := id I.loc
  have hcls : (X.env.scope.kind == .class || (X.env.scope.kind == .module && X.env.locals != X.env.globals)) = false := by rw [I.ok.kind]; rfl
  have hiσ : i < σ.length := by rw [I.len]; exact (List.getElem?_eq_some_iff.mp hi).1
  have cne := I.cne
  have tracked : ∀ {a : Addr} {h' : Heap}, (∃ o, s.heap.get? a = some o ∧ H a = none) → Heap.SameBut a s.heap h' → HOk X.prog X.w H h' := fun {a h'} ha hs b ob e => by
    obtain ⟨_, _, hfree⟩ := ha
    refine (I.hok b ob e).stay (fun c w' hc q => (hs.2 c ?_).trans q) (fun _ q => q) fun _ _ q => q
    rintro rfl
    rcases hc with rfl | hc
    · rw [hfree] at e; cases e
    · rw [hfree] at hc; cases hc
  rcases hx with hk | hk
  · refine wpAny_storeName_local hk hn (fun h' hn' hs => ?_) hcls
    obtain ⟨oL, _, _, hoL, _⟩ := id hn
    refine h _ ⟨I.ok, I.os, I.bare, ⟨fun b o e n hb hx => ?_, fun b o e n hb hx => ?_, I.base.free, fun b o e hx => ?_, I.base.tups, I.base.frzs, I.base.tbls⟩, ⟨_, hn', fun j y v' e1 e2 e3 => ?_⟩, fun y c e => ?_, I.free, I.freeC, fun p hp => ?_, tracked ⟨oL, hoL, I.free⟩ hs, by simpa using I.len⟩ ⟨_, hs, .inl rfl⟩
    · exact (hs.2 b (Nat.ne_of_lt (Nat.lt_of_lt_of_le (Heap.lt_size e) I.ok.above))).trans (I.base.keep b o e n hb hx)
    · obtain ⟨sl, e1⟩ := I.base.slot b o e n hb hx
      exact ⟨sl, (hs.2 b (Nat.ne_of_lt (Nat.lt_of_lt_of_le (Heap.lt_size e) I.ok.above))).trans e1⟩
    · obtain ⟨o', e1⟩ := I.base.there b o e hx
      exact ⟨o', (hs.2 b (Nat.ne_of_lt (Nat.lt_of_lt_of_le (Heap.lt_size e) I.ok.above))).trans e1⟩
    · by_cases hj : j = i
      · subst hj
        rw [hi] at e1; cases e1
        rw [List.getElem?_set_self hiσ] at e2
        cases e2
        exact ⟨u, r, .inl ⟨hk, by simp⟩⟩
      · rw [List.getElem?_set_ne (Ne.symm hj)] at e2
        obtain ⟨u', r', q⟩ := hl j y v' e1 e2 e3
        refine ⟨u', r', ?_⟩
        rcases q with ⟨k, e⟩ | ⟨k, c, e, z⟩
        · refine .inl ⟨k, ?_⟩
          have : y ≠ x := fun e => hj (nodup_ix hN e1 (e ▸ hi))
          simp [this, e]
        · exact .inr ⟨k, c, e, z.sameBut hs (cne y c e)⟩
    · obtain ⟨w', z⟩ := I.cell y c e
      exact ⟨w', z.sameBut hs (cne y c e)⟩
    · obtain ⟨e, n, ne, nf, d⟩ := I.pin p hp
      exact ⟨(hs.2 p.1 ne).trans e, n, ne, nf, d⟩
  · have hfn : X.fn x = true := by
      rcases hf with z | z
      · exact z
      · rw [z] at hk; cases hk
    obtain ⟨c, hc⟩ := I.ok.has x (.inl hk)
    obtain ⟨w', z⟩ := I.cell x c hc
    refine wpAny_storeName_cell I.ok.kind hk hc z (fun h' hc' hs => ?_)
    obtain ⟨oc, hoc, hocd⟩ := id z
    refine h { s with heap := h' } ⟨I.ok, I.os, I.bare, ⟨fun b o e n hb hx => ?_, fun b o e n hb hx => ?_, I.base.free, fun b o e hx => ?_, I.base.tups, I.base.frzs, I.base.tbls⟩, ⟨m, hn.sameBut hs (Ne.symm (cne x c hc)), fun j y v' e1 e2 e3 => ?_⟩, fun y c' e => ?_, I.free, I.freeC, fun p hp => ?_, tracked ⟨oc, hoc, I.freeC x c hc⟩ hs, by simpa using I.len⟩ ⟨c, hs, .inr hc⟩
    · exact (hs.2 b (Nat.ne_of_lt (Nat.lt_of_lt_of_le (Heap.lt_size e) (I.ok.cab x c hfn hc)))).trans (I.base.keep b o e n hb hx)
    · obtain ⟨sl, e1⟩ := I.base.slot b o e n hb hx
      exact ⟨sl, (hs.2 b (Nat.ne_of_lt (Nat.lt_of_lt_of_le (Heap.lt_size e) (I.ok.cab x c hfn hc)))).trans e1⟩
    · obtain ⟨o', e1⟩ := I.base.there b o e hx
      exact ⟨o', (hs.2 b (Nat.ne_of_lt (Nat.lt_of_lt_of_le (Heap.lt_size e) (I.ok.cab x c hfn hc)))).trans e1⟩
    · by_cases hj : j = i
      · subst hj
        rw [hi] at e1; cases e1
        rw [List.getElem?_set_self hiσ] at e2
        cases e2
        exact ⟨u, r, .inr ⟨.inl hk, c, hc, hc'⟩⟩
      · rw [List.getElem?_set_ne (Ne.symm hj)] at e2
        obtain ⟨u', r', q⟩ := hl j y v' e1 e2 e3
        refine ⟨u', r', ?_⟩
        rcases q with q | ⟨k, c', e, z'⟩
        · exact .inl q
        · refine .inr ⟨k, c', e, z'.sameBut hs ?_⟩
          rintro rfl
          exact hj (nodup_ix hN e1 (I.ok.inj _ _ _ e hc ▸ hi))
    · by_cases hcc : c' = c
      · subst hcc; exact ⟨_, hc'⟩
      · obtain ⟨w2, z2⟩ := I.cell y c' e
        exact ⟨w2, z2.sameBut hs hcc⟩
    · obtain ⟨e, n, ne, nf, d⟩ := I.pin p hp
      refine ⟨(hs.2 p.1 ?_).trans e, n, ne, nf, d⟩
      intro q
      rw [q, hoc] at e
      have q' : oc = p.2 := Option.some.inj e
      exact d w' (by rw [← q']; exact hocd)
theorem store_ok {M : Model} {A : Around} {E : Value → Shared → Prop} {i : Nat} {x : Str} {v : V} {u : Value} {Q : Unit → Shared → Prop} (I : Inv X pins σ H s) (hN : X.N.Nodup) (hi : X.N[i]? = some x) (hx : Loc X.env.scope x) (r : RelV v u)
    (h : ∀ s', Inv X pins (σ.set i (some v)) H s' → Q () s') (hf : X.fn x = true ∨ X.env.scope.names.lookup x = some .local := by first | exact .inl rfl | exact .inr rfl | assumption) : wpAny M A (storeName X.env x u) Q E s :=
  store_ok2 I hN hi hx r (fun s' I' _ => h s' I') hf
theorem Inv.call' {s' : Shared} {ch : List Addr} (I : Inv X pins σ H s) (ho : s'.os = s.os) (u : Un (frs X.stack) ch H H' s.heap s'.heap) (hok : HOk X.prog X.w H' s'.heap) (hg : AllBare s'.gens)
    (hch : ∀ b ∈ ch, (b ∈ X.ex ∨ X.s₀.heap.objs.size ≤ b) ∧ b ≠ X.env.locals ∧ (∀ x c, X.env.cells.lookup x = some c → c ≠ b) ∧ ∀ p ∈ X.pn ++ pins, p.1 ≠ b) : Inv X pins σ H' s' := by
  obtain ⟨h', g', d', t', o'⟩ := s'
  have e : o' = s.os := ho
  subst e
  exact I.call (g' := g') (t' := t') (d' := d') u hok hg hch
end

abbrev XK := Value → Option Addr → Hp → Prop
abbrev St := List (Option V)
abbrev VK := V → Hp → Prop
abbrev TE := St → Hp → VK → Prop
abbrev TT := St → Hp → (Bool → Hp → Prop) → Prop
abbrev TA := St → Hp → (List V → Hp → Prop) → Prop
structure Ends where
  nx : St → Hp → Prop
  rt : VK
  bk : St → Hp → Prop := fun _ _ => False
  ct : St → Hp → Prop := fun _ _ => False
abbrev TS := Ends → St → Hp → Prop

def EP (X : Cx) (pins : List (Addr × Obj)) (σ : St) (Q : VK) (u : Value) (s' : Shared) : Prop := ∃ v H', Inv X pins σ H' s' ∧ RelV v u ∧ Q v H'
def TP (X : Cx) (pins : List (Addr × Obj)) (σ : St) (Q : Bool → Hp → Prop) (b : Bool) (s' : Shared) : Prop := ∃ H', Inv X pins σ H' s' ∧ Q b H'
def AP (X : Cx) (pins : List (Addr × Obj)) (σ : St) (Q : List V → Hp → Prop) (us : List Value) (s' : Shared) : Prop := ∃ vs H', Inv X pins σ H' s' ∧ Vals vs us ∧ Q vs H'
def SP (X : Cx) (pins : List (Addr × Obj)) (D : Ends) (f : Flow) (s' : Shared) : Prop :=
  match f with
  | .next => ∃ σ' H', Inv X pins σ' H' s' ∧ D.nx σ' H'
  | .brk => ∃ σ' H', Inv X pins σ' H' s' ∧ D.bk σ' H'
  | .cont => ∃ σ' H', Inv X pins σ' H' s' ∧ D.ct σ' H'
  | .ret u => ∃ v σ' H', Inv X pins σ' H' s' ∧ RelV v u ∧ D.rt v H'

def PE (X : Cx) (e : Expr) (t : TE) : Prop :=
  ∀ (pins : List (Addr × Obj)) (s : Shared) (σ : St) (H : Hp) (Q : VK), Inv X pins σ H s → t σ H Q → wpAny (model X.prog X.w) X.A (eval e X.env) (EP X pins σ Q) X.xe s
def PT (X : Cx) (e : Expr) (t : TT) : Prop :=
  ∀ (pins : List (Addr × Obj)) (s : Shared) (σ : St) (H : Hp) (Q : Bool → Hp → Prop), Inv X pins σ H s → t σ H Q → wpAny (model X.prog X.w) X.A (isTrue e X.env (eval e X.env)) (TP X pins σ Q) X.xe s
def PW (X : Cx) (e : Expr) (t : TT) : Prop :=
  ∀ (whole : Sem Value) (pins : List (Addr × Obj)) (s : Shared) (σ : St) (H : Hp) (Q : Bool → Hp → Prop), Inv X pins σ H s → t σ H Q → wpAny (model X.prog X.w) X.A (isTrue e X.env whole) (TP X pins σ Q) X.xe s
theorem PW.pt {X : Cx} {e : Expr} {t : TT} (h : PW X e t) : PT X e t := h _
def PA (X : Cx) (es : List Expr) (t : TA) : Prop :=
  ∀ (pos : Pos) (pins : List (Addr × Obj)) (s : Shared) (σ : St) (H : Hp) (Q : List V → Hp → Prop), Inv X pins σ H s → t σ H Q → wpAny (model X.prog X.w) X.A (spliced (backTo pos (starEach es X.env))) (AP X pins σ Q) X.xe s
def PS (X : Cx) (st : Stmt) (t : TS) : Prop :=
  ∀ (pins : List (Addr × Obj)) (s : Shared) (σ : St) (H : Hp) (D : Ends), Inv X pins σ H s → t D σ H → wpAny (model X.prog X.w) X.A (exec st X.env) (SP X pins D) X.xe s
def PSs (X : Cx) (st : List Stmt) (t : TS) : Prop :=
  ∀ (pins : List (Addr × Obj)) (s : Shared) (σ : St) (H : Hp) (D : Ends), Inv X pins σ H s → t D σ H → wpAny (model X.prog X.w) X.A (execs st X.env) (SP X pins D) X.xe s
theorem thn {α : Type} {t : Sem α} {Q Q' : α → Shared → Prop} {M : Model} {A : Around} {E : Value → Shared → Prop} {s : Shared} (h : wpAny M A t Q E s) (hQ : ∀ a s, Q a s → Q' a s) : wpAny M A t Q' E s := wpAny_mono h hQ fun _ _ x => x
end L2

namespace L2
open PySem PySem.Spec PyProof.Rows
section
variable {X : Cx}

def tVar (i : Nat) : TE := fun σ H Q => ∃ v, σ[i]? = some (some v) ∧ Q v H
def tC (v : V) : TE := fun _ H Q => Q v H
theorem pe_var {i : Nat} {x : Str} {pos : Pos} (hN : X.N[i]? = some x) (hv : Vis X.env.scope x) (hd : (x == ("__debug__" : Str)) = false := by decide) (hcd : (x == ("__classdict__" : Str)) = false := by decide) : PE X (.Name x pos) (tVar i) := by
  intro pins s σ H Q I h
  obtain ⟨v, e, h⟩ := h
  obtain ⟨m, hn, hl⟩ := I.loc
  obtain ⟨u, r, l⟩ := hl i x v hN e hv
  have fin : EP X pins σ Q u s := ⟨v, H, I, r, h⟩
  rcases l with ⟨hk, hm⟩ | ⟨hk, c, hc, hcell⟩
  · exact wpAny_Name (wpAny_loadName_local I.ok.kind hk hn hm fin) hd
  · rcases hk with hk | hk
    · exact wpAny_Name (wpAny_loadName_cell I.ok.kind hk hc hcell fin) hd
    · exact wpAny_Name (wpAny_loadName_free I.ok.kind hk hc hcell fin hcd) hd
theorem pe_int {i j pos} : PE X (.Constant (.int i) j pos) (tC (.int i)) := fun _ _ _ H _ I h => wpAny_Constant_int ⟨.int i, H, I.tok _, ⟨_, rfl⟩, h⟩
theorem pe_bl {b j pos} : PE X (.Constant (.bool b) j pos) (tC (.bl b)) := fun _ _ _ H _ I h => Constant_bool ⟨.bl b, H, I, rfl, h⟩
theorem pe_non {j pos} : PE X (.Constant .none j pos) (tC .non) := fun _ _ _ H _ I h => Constant_none ⟨.non, H, I, rfl, h⟩
theorem pe_str {x j pos} : PE X (.Constant (.str x) j pos) (tC (.str x)) := fun _ _ _ H _ I h => Calls.Constant_str ⟨.str x, H, I.tok _, ⟨_, rfl⟩, h⟩

def Gl (X : Cx) (x : Str) : Prop := X.env.kindOf x = some .globalImplicit
theorem ld_glob {E : Value → Shared → Prop} {pins : List (Addr × Obj)} {s : Shared} {σ : St} {H : Hp} {x : Str} {u : Value} {pos : Pos} {Q : Value → Shared → Prop} (I : Inv X pins σ H s) (hg : Gl X x) (hm : X.mg x = some u) (h : Q u s)
    (hd : (x == ("__debug__" : Str)) = false := by decide) : wpAny (model X.prog X.w) X.A (eval (.Name x pos) X.env) Q E s :=
  Calls.Name_function_global I.ok.kind hg (Calls.loadGlobal_global (by rw [I.ok.glob]; exact I.mod.glob.keeps I.bk) hm h) hd
theorem ld_blt {E : Value → Shared → Prop} {pins : List (Addr × Obj)} {s : Shared} {σ : St} {H : Hp} {x : Str} {u : Value} {pos : Pos} {Q : Value → Shared → Prop} (I : Inv X pins σ H s) (hg : Gl X x) (hm : X.mg x = none) (hv : bootBuiltins x = some u) (h : Q u s)
    (hn : x ≠ "__name__" := by decide) (hd : (x == ("__debug__" : Str)) = false := by decide) : wpAny (model X.prog X.w) X.A (eval (.Name x pos) X.env) Q E s := by
  obtain ⟨mb, h1, h2⟩ := I.mod.blt
  exact Calls.Name_function_global I.ok.kind hg (Calls.loadGlobal_builtin (by rw [I.ok.glob]; exact I.mod.glob.keeps I.bk) hm (by rw [I.ok.blt]; exact h1.keeps I.bk) ((h2 x hn).trans hv) h) hd
theorem pe_glob {x : Str} {v : V} {u : Value} {pos : Pos} (hg : Gl X x) (hm : X.mg x = some u) (r : RelV v u) (hd : (x == ("__debug__" : Str)) = false := by decide) : PE X (.Name x pos) (tC v) :=
  fun _ _ _ H _ I h => ld_glob I hg hm ⟨v, H, I, r, h⟩ hd
theorem pe_bltn {x : Str} {v : V} {u : Value} {pos : Pos} (hg : Gl X x) (hm : X.mg x = none) (hv : bootBuiltins x = some u) (r : RelV v u) (hn : x ≠ "__name__" := by decide) (hd : (x == ("__debug__" : Str)) = false := by decide) : PE X (.Name x pos) (tC v) :=
  fun _ _ _ H _ I h => ld_blt I hg hm hv ⟨v, H, I, r, h⟩ hn hd

def t2I (ta tb : TE) (k : Int → Int → Hp → Prop) : St → Hp → Prop := fun σ H => ta σ H fun x H1 => tb σ H1 fun y H2 => ∃ i j, x = .int i ∧ y = .int j ∧ k i j H2
variable {a b : Expr} {ta tb : TE} {pos : Pos}
def tCmp (p : Int → Int → Bool) (ta tb : TE) : TE := fun σ H Q => t2I ta tb (fun i j H2 => Q (.bl (p i j)) H2) σ H
def tB (t : TE) : TT := fun σ H Q => t σ H fun x H1 => ∃ c, x = .bl c ∧ Q c H1
theorem pt_val {e : Expr} {t : TE} (h : PE X e t) (he : ∀ whole, isTrue e X.env whole = (do let v ← whole; standAt e.pos; holding [v] (truthy v)) := by intro _; rfl) : PT X e (tB t) := by
  intro pins s σ H Q I hw
  refine isTrue_plain (thn (h pins s σ H _ I hw) fun v s1 ⟨x, H1, I1, r1, q1⟩ => ?_) (he _)
  obtain ⟨d, rfl, q⟩ := q1
  cases r1
  exact wpAny_truthy_bool ⟨H1, I1, q⟩

variable {tA tB' : TT} {rest : List Expr}
def tAnd (t u : TT) : TT := fun σ H Q => t σ H fun c H1 => if c = true then u σ H1 Q else Q false H1
def tOr (t u : TT) : TT := fun σ H Q => t σ H fun c H1 => if c = true then Q true H1 else u σ H1 Q
def tNot (t : TT) : TT := fun σ H Q => t σ H fun c H1 => Q (!c) H1
theorem pw_and1 (ha : PT X a tA) : PW X (.BoolOp .And [a] pos) tA := by
  intro wh pins s σ H Q I h
  refine isTrue_and (thn (ha pins s σ H Q I h) fun c s1 e => ?_)
  cases c with
  | true => exact isTrue_and_nil e
  | false => exact e
theorem pw_or1 (ha : PT X a tA) : PW X (.BoolOp .Or [a] pos) tA := by
  intro wh pins s σ H Q I h
  refine isTrue_or (thn (ha pins s σ H Q I h) fun c s1 e => ?_)
  cases c with
  | false => exact isTrue_or_nil e
  | true => exact e
theorem pw_and (ha : PT X a tA) (hb : PW X (.BoolOp .And (b :: rest) pos) tB') : PW X (.BoolOp .And (a :: b :: rest) pos) (tAnd tA tB') := by
  intro wh pins s σ H Q I h
  refine isTrue_and (thn (ha pins s σ H _ I h) fun c s1 ⟨H1, I1, q1⟩ => ?_)
  cases c with
  | true => exact hb wh pins s1 σ H1 Q I1 q1
  | false => exact ⟨H1, I1, q1⟩
theorem pw_or (ha : PT X a tA) (hb : PW X (.BoolOp .Or (b :: rest) pos) tB') : PW X (.BoolOp .Or (a :: b :: rest) pos) (tOr tA tB') := by
  intro wh pins s σ H Q I h
  refine isTrue_or (thn (ha pins s σ H _ I h) fun c s1 ⟨H1, I1, q1⟩ => ?_)
  cases c with
  | true => exact ⟨H1, I1, q1⟩
  | false => exact hb wh pins s1 σ H1 Q I1 q1
theorem pt_not (ha : PT X a tA) : PT X (.UnaryOp .Not a pos) (tNot tA) := by
  intro pins s σ H Q I h
  exact isTrue_not (ha pins s σ H (fun c H1 => Q (!c) H1) I h)
def tAndV (ta tb : TE) : TE := fun σ H Q => ta σ H fun x H1 => ∃ c, x = .bl c ∧ if c = true then tb σ H1 Q else Q (.bl false) H1
def tOrV (ta tb : TE) : TE := fun σ H Q => ta σ H fun x H1 => ∃ c, x = .bl c ∧ if c = true then Q (.bl true) H1 else tb σ H1 Q
def tNotV (ta : TE) : TE := fun σ H Q => ta σ H fun x H1 => ∃ c, x = .bl c ∧ Q (.bl (!c)) H1
theorem pe_one {op} {t : TE} (h : PE X a t) : PE X (.BoolOp op [a] pos) t := fun pins s σ H Q I hw => BoolOp_one (h pins s σ H Q I hw)
theorem pe_and (ha : PE X a ta) (hb : PE X (.BoolOp .And (b :: rest) pos) tb) : PE X (.BoolOp .And (a :: b :: rest) pos) (tAndV ta tb) := by
  intro pins s σ H Q I h
  refine BoolOp_and (thn (ha pins s σ H _ I h) fun v s1 ⟨x, H1, I1, r1, q1⟩ => ?_)
  obtain ⟨c, rfl, q1⟩ := q1
  cases r1
  refine wpAny_truthy_bool ?_
  cases c with
  | true => exact hb pins s1 σ H1 Q I1 q1
  | false => exact ⟨.bl false, H1, I1, rfl, q1⟩
theorem pe_or (ha : PE X a ta) (hb : PE X (.BoolOp .Or (b :: rest) pos) tb) : PE X (.BoolOp .Or (a :: b :: rest) pos) (tOrV ta tb) := by
  intro pins s σ H Q I h
  refine BoolOp_or (thn (ha pins s σ H _ I h) fun v s1 ⟨x, H1, I1, r1, q1⟩ => ?_)
  obtain ⟨c, rfl, q1⟩ := q1
  cases r1
  refine wpAny_truthy_bool ?_
  cases c with
  | false => exact hb pins s1 σ H1 Q I1 q1
  | true => exact ⟨.bl true, H1, I1, rfl, q1⟩
theorem pe_not (ha : PE X a ta) : PE X (.UnaryOp .Not a pos) (tNotV ta) := by
  intro pins s σ H Q I h
  refine UnaryOp_ (thn (ha pins s σ H _ I h) fun v s1 ⟨x, H1, I1, r1, q1⟩ => ?_)
  obtain ⟨c, rfl, q1⟩ := q1
  cases r1
  exact not_of (wpAny_truthy_bool ⟨.bl (!c), H1, I1, rfl, q1⟩)
def tIf (t : TT) (ta tb : TE) : TE := fun σ H Q => t σ H fun c H1 => if c = true then ta σ H1 Q else tb σ H1 Q
theorem pe_ifExp {c : Expr} (hc : PT X c tA) (ha : PE X a ta) (hb : PE X b tb) : PE X (.IfExp c a b pos) (tIf tA ta tb) := by
  intro pins s σ H Q I h
  refine wpAny_IfExp (thn (hc pins s σ H _ I h) fun d s1 ⟨H1, I1, q1⟩ => ?_)
  cases d with
  | true => exact ha pins s1 σ H1 Q I1 q1
  | false => exact hb pins s1 σ H1 Q I1 q1
end
end L2

namespace L2
open PySem PySem.Spec PyProof.Rows

def SqL (K : PySem.W.Frag) (H : Hp) (a : Addr) (xs : List V) : Prop :=
  Rd H a (.lst xs) ∨
    ∃ (o : Obj) (its : Array Value) (n : Nat), K.lookup a = some o ∧ o.cls = .type "list" ∧ o.dict = none ∧ o.data = .seq its n ∧ its.size ≤ sizeLine ∧ Vals xs its.toList
def SqT (K : PySem.W.Frag) (H : Hp) (a : Addr) (xs : List V) : Prop :=
  Rd H a (.tup xs) ∨
    ∃ (o : Obj) (its : Array Value) (n : Nat), K.lookup a = some o ∧ o.cls = .type "tuple" ∧ o.data = .seq its n ∧ its.size ≤ sizeLine ∧ Vals xs its.toList
def absV : Value → Option V
  | .none => some .non
  | .bool b => some (.bl b)
  | .int i _ => some (.int i)
  | .str x _ => some (.str x)
  | .bytes b _ => some (.byt b)
  | .float b _ => some (.flt b)
  | .ref a => some (.ref a)
  | .type n => some (.ty n)
  | _ => none
theorem RelV.abs {x : V} {u : Value} (r : RelV x u) : absV u = some x := by
  cases x with
  | non => cases r; rfl
  | bl _ => cases r; rfl
  | int _ => obtain ⟨t, rfl⟩ := r; rfl
  | str _ => obtain ⟨t, rfl⟩ := r; rfl
  | byt _ => obtain ⟨t, rfl⟩ := r; rfl
  | flt _ => obtain ⟨t, rfl⟩ := r; rfl
  | ref _ => cases r; rfl
  | ty _ => cases r; rfl
theorem RelV.inj {x y : V} {u : Value} (r : RelV x u) (q : RelV y u) : x = y := Option.some.inj (r.abs.symm.trans q.abs)
theorem Vals.inj : ∀ {xs ys : List V} {us : List Value}, Vals xs us → Vals ys us → xs = ys
  | _, _, _, .nil, .nil => rfl
  | _, _, _, .cons r t, .cons r' t' => by rw [r.inj r', Vals.inj t t']
section
variable {X : Cx} {pins : List (Addr × Obj)} {σ : St} {H : Hp} {s : Shared} {a : Addr} {xs ys : List V}
theorem SqL.of {K : PySem.W.Frag} (h : H a = some (.lst xs)) : SqL K H a xs := .inl (.inl h)
theorem SqT.of {K : PySem.W.Frag} (h : H a = some (.tup xs)) : SqT K H a xs := .inl (.inl h)
theorem Inv.list (I : Inv X pins σ H s) (h : SqL X.K H a xs) : ∃ its : List Value, Vals xs its ∧ PlainL s.heap a its.toArray ∧ xs.length ≤ sizeLine := by
  rcases h with h | ⟨o, its, n, hk, hc, hd, hs, hz, r⟩
  · obtain ⟨z, its, n, r, e⟩ := h.ok I.hok
    exact ⟨its, r, ⟨_, n, e, rfl, rfl, rfl⟩, z⟩
  · refine ⟨its.toList, r, ⟨o, n, I.kIn a o hk, hc, hd, by simpa using hs⟩, ?_⟩
    have e := r.length
    simp only [Array.length_toList] at e
    omega
theorem Inv.tuple (I : Inv X pins σ H s) (h : SqT X.K H a xs) : ∃ its : List Value, Vals xs its ∧ IsTup s.heap a its.toArray ∧ xs.length ≤ sizeLine := by
  rcases h with h | ⟨o, its, n, hk, hc, hs, hz, r⟩
  · obtain ⟨z, its, r, p⟩ := h.ok I.hok
    exact ⟨its, r, p.tup, z⟩
  · refine ⟨its.toList, r, ⟨o, I.kIn a o hk, hc, n, by simpa using hs⟩, ?_⟩
    have e := r.length
    simp only [Array.length_toList] at e
    omega
theorem Inv.list_inj (I : Inv X pins σ H s) (h : SqL X.K H a xs) (h' : SqL X.K H a ys) : xs = ys := by
  obtain ⟨its, r, ⟨o, n, e, _, _, d⟩, _⟩ := I.list h
  obtain ⟨its', r', ⟨o', n', e', _, _, d'⟩, _⟩ := I.list h'
  rw [e] at e'; cases e'
  rw [d] at d'
  injection d' with d1 _
  have : its = its' := by simpa using congrArg Array.toList d1
  subst this
  exact r.inj r'
theorem Inv.tuple_inj (I : Inv X pins σ H s) (h : SqT X.K H a xs) (h' : SqT X.K H a ys) : xs = ys := by
  obtain ⟨its, r, ⟨o, e, _, n, d⟩, _⟩ := I.tuple h
  obtain ⟨its', r', ⟨o', e', _, n', d'⟩, _⟩ := I.tuple h'
  rw [e] at e'; cases e'
  rw [d] at d'
  injection d' with d1 _
  have : its = its' := by simpa using congrArg Array.toList d1
  subst this
  exact r.inj r'
end

abbrev Cx.wish (X : Cx) (E : Value → Shared → Prop) : Cx := { X with xe := E }
abbrev Cx.nox (X : Cx) : Cx := X.wish fun _ _ => False
theorem Cx.Ok.wish {X : Cx} (ok : X.Ok) (E : Value → Shared → Prop) : (X.wish E).Ok :=
  ⟨ok.mod, ok.kind, ok.glob, ok.blt, ok.above, ok.inj, ok.has, ok.cab, ok.hd, ok.frames, ok.stk, ok.exf, ok.bs, ok.bsz, ok.noex, ok.exfs, ok.funs, ok.frf⟩
theorem Cx.Ok.unwish {X : Cx} {E : Value → Shared → Prop} (ok : (X.wish E).Ok) : X.Ok :=
  ⟨ok.mod, ok.kind, ok.glob, ok.blt, ok.above, ok.inj, ok.has, ok.cab, ok.hd, ok.frames, ok.stk, ok.exf, ok.bs, ok.bsz, ok.noex, ok.exfs, ok.funs, ok.frf⟩
section
variable {X : Cx} {pins : List (Addr × Obj)} {σ : St} {H : Hp} {s : Shared} {E : Value → Shared → Prop}
theorem Inv.wish (I : Inv X pins σ H s) (E : Value → Shared → Prop) : Inv (X.wish E) pins σ H s := ⟨I.ok.wish E, I.os, I.bare, I.base, I.loc, I.cell, I.free, I.freeC, I.pin, I.hok, I.len⟩
theorem Inv.unwish (I : Inv (X.wish E) pins σ H s) : Inv X pins σ H s := ⟨I.ok.unwish, I.os, I.bare, I.base, I.loc, I.cell, I.free, I.freeC, I.pin, I.hok, I.len⟩
theorem SP.unwish {D : Ends} {f : Flow} {s' : Shared} (h : SP (X.wish E) pins D f s') : SP X pins D f s' := by
  cases f with
  | next => obtain ⟨σ', H', I, q⟩ := h; exact ⟨σ', H', I.unwish, q⟩
  | brk => obtain ⟨σ', H', I, q⟩ := h; exact ⟨σ', H', I.unwish, q⟩
  | cont => obtain ⟨σ', H', I, q⟩ := h; exact ⟨σ', H', I.unwish, q⟩
  | ret u => obtain ⟨v, σ', H', I, r, q⟩ := h; exact ⟨v, σ', H', I.unwish, r, q⟩
theorem PSs.nox {st : List Stmt} {t : TS} (h : PSs X.nox st t) : PSs X st t := fun pins s σ H D I hw =>
  wpAny_mono (h pins s σ H D (I.wish _) hw) (fun _ _ q => q.unwish) fun _ _ z => False.elim z
end

section
variable {X : Cx} {st : Stmt} {rest : List Stmt} {t u : TS} {e : Expr} {te : TE} {pos : Pos}
def tNext : TS := fun D σ H => D.nx σ H
def tSeq (t u : TS) : TS := fun D σ H => t { D with nx := u D } σ H
theorem pss_nil : PSs X [] tNext := fun _ _ σ H _ I h => wpAny_execs_nil ⟨σ, H, I, h⟩
theorem pss_cons (h1 : PS X st t) (h2 : PSs X rest u) : PSs X (st :: rest) (tSeq t u) := by
  intro pins s σ H D I h
  refine wpAny_execs_cons (thn (h1 pins s σ H { D with nx := u D } I h) fun f s1 q => ?_)
  cases f with
  | next =>
    obtain ⟨σ', H', I', q⟩ := q
    exact h2 pins s1 σ' H' D I' q
  | ret v => exact q
  | brk => exact q
  | cont => exact q
theorem pss_one (h1 : PS X st t) : PSs X [st] t := by
  intro pins s σ H D I h
  refine wpAny_execs_cons (thn (h1 pins s σ H D I h) fun f s1 q => ?_)
  cases f with
  | next => exact wpAny_execs_nil q
  | ret v => exact q
  | brk => exact q
  | cont => exact q
theorem Inv.quiet {pins : List (Addr × Obj)} {σ : St} {H : Hp} {s : Shared} (I : Inv X pins σ H s) : interactive X.env = false := by simp [interactive, I.ok.kind]
def tDrop (te : TE) : TS := fun D σ H => te σ H fun _ H1 => D.nx σ H1
theorem ps_expr (he : PE X e te) (hs : swapsWith e none pos.line X.env = pure false := by rfl) : PS X (.Expr e pos) (tDrop te) := by
  intro pins s σ H D I h
  exact wpAny_Expr_any (thn (he pins s σ H _ I h) fun v s1 ⟨x, H1, I1, r1, q1⟩ => ⟨σ, H1, I1, q1⟩) I.quiet hs
def tRet (te : TE) : TS := fun D σ H => te σ H D.rt
theorem ps_ret (he : PE X e te) : PS X (.Return (some e) pos) (tRet te) := by
  intro pins s σ H D I h
  exact wpAny_Return_some (thn (he pins s σ H _ I h) fun v s1 ⟨x, H1, I1, r1, q1⟩ => ⟨x, σ, H1, I1, r1, q1⟩)
def tIfS (c : TT) (t u : TS) : TS := fun D σ H => c σ H fun b H1 => if b = true then t D σ H1 else u D σ H1
theorem ps_if {c : Expr} {a b : List Stmt} {tc : TT} (hc : PT X c tc) (ha : PSs X a t) (hb : PSs X b u) : PS X (.If c a b pos) (tIfS tc t u) := by
  intro pins s σ H D I h
  refine wpAny_If (thn (hc pins s σ H _ I h) fun d s1 ⟨H1, I1, q1⟩ => ?_)
  cases d with
  | true => exact ha pins s1 σ H1 D I1 q1
  | false => exact hb pins s1 σ H1 D I1 q1
def tNever : TS := fun _ _ _ => False
theorem ps_never : PS X st tNever := fun _ _ _ _ _ _ h => h.elim
end

abbrev TG := V → St → Hp → (St → Hp → Prop) → Prop
abbrev TGs := List V → St → Hp → (St → Hp → Prop) → Prop
def PG (X : Cx) (target : Expr) (t : TG) : Prop :=
  ∀ (pins : List (Addr × Obj)) (s : Shared) (σ : St) (H : Hp) (v : V) (u : Value) (Q : St → Hp → Prop), Inv X pins σ H s → RelV v u → t v σ H Q →
    wpAny (model X.prog X.w) X.A (assign target X.env u) (fun _ s' => ∃ σ' H', Inv X pins σ' H' s' ∧ Q σ' H') X.xe s
def PGs (X : Cx) (ts : List Expr) (t : TGs) : Prop :=
  ∀ (pins : List (Addr × Obj)) (s : Shared) (σ : St) (H : Hp) (vs : List V) (us : List Value) (Q : St → Hp → Prop), Inv X pins σ H s → Vals vs us → t vs σ H Q →
    wpAny (model X.prog X.w) X.A (assignInOrder ((assignEach ts X.env).map (·.2)) us) (fun _ s' => ∃ σ' H', Inv X pins σ' H' s' ∧ Q σ' H') X.xe s
abbrev TSet := V → V → V → Hp → (Hp → Prop) → Prop
abbrev TIp := V → V → Hp → VK → Prop
section
variable {X : Cx} {pos : Pos}
def gName (i : Nat) : TG := fun v σ H Q => Q (σ.set i (some v)) H
theorem pg_name {i : Nat} {x : Str} (hN : X.N.Nodup) (hi : X.N[i]? = some x) (hx : Loc X.env.scope x) (hf : X.fn x = true ∨ X.env.scope.names.lookup x = some .local := by first | exact .inl rfl | exact .inr rfl | assumption) : PG X (.Name x pos) (gName i) := by
  intro pins s σ H v u Q I r h
  exact wpAny_assign_Name (store_ok I hN hi hx r (fun s' I' => ⟨_, H, I', h⟩) hf)
def gNil : TGs := fun vs σ H Q => vs = [] ∧ Q σ H
def gCons (t : TG) (u : TGs) : TGs := fun vs σ H Q => ∃ v r, vs = v :: r ∧ t v σ H fun σ' H' => u r σ' H' Q
theorem pgs_nil : PGs X [] gNil := by
  intro pins s σ H vs us Q I r h
  obtain ⟨e, h⟩ := h
  subst e
  cases r
  exact assignInOrder_nil ⟨σ, H, I, h⟩
theorem pgs_cons {e : Expr} {es : List Expr} {t : TG} {u : TGs} (h1 : PG X e t) (h2 : PGs X es u)
    (hs : (assignEach (e :: es) X.env).map (·.2) = assign e X.env :: (assignEach es X.env).map (·.2) := by rfl) : PGs X (e :: es) (gCons t u) := by
  intro pins s σ H vs us Q I r h
  obtain ⟨v, vr, e1, h⟩ := h
  subst e1
  cases r with
  | cons r rr =>
    rw [hs]
    refine assignInOrder_cons (thn (h1 pins s σ H _ _ _ I r h) fun _ s1 ⟨σ1, H1, I1, q1⟩ => ?_)
    exact h2 pins s1 σ1 H1 _ _ Q I1 rr q1
def gTup (K : PySem.W.Frag) (n : Nat) (t : TGs) : TG := fun v σ H Q => ∃ a xs, v = .ref a ∧ SqT K H a xs ∧ xs.length = n ∧ t xs σ H Q
theorem pg_tup {es : List Expr} {k : Nat} {t : TGs} {n : Nat} (hc : X.calm = true) (h : PGs X es t)
    (hn : (assignEach es X.env).length = n := by rfl) (hst : (assignEach es X.env).findIdx? (·.1) = none := by rfl) : PG X (.Tuple es k pos) (gTup X.K n t) := by
  intro pins s σ H v u Q I r hw
  obtain ⟨a, xs, e1, hq, hl, hw⟩ := hw
  subst e1
  cases r
  obtain ⟨its, rv, ht, hz⟩ := I.tuple hq
  refine assign_Tuple_tuple (I.ok.hd hc) ht (by simp [hn, ← hl, rv.length]) hst fun h' hx => ?_
  have I1 : Inv X pins σ H { s with heap := h' } := I.kept (t' := s.toks) fun b o e => hx b o (Nat.ne_of_lt (Heap.lt_size e)) e
  exact h pins _ σ H xs _ Q I1 (by simpa using rv) hw
def tAsg (te : TE) (g : TG) : TS := fun D σ H => te σ H fun x H1 => g x σ H1 D.nx
theorem ps_asg {tg e : Expr} {te : TE} {g : TG} (he : PE X e te) (hg : PG X tg g) (hs : swapsWithSole [tg] e pos.line X.env = pure false := by rfl) (hw : swappedStores [tg] e X.env = pure none := by rfl)
    (h1 : (assignEach [tg] X.env).map (·.2) = [assign tg X.env] := by rfl) : PS X (.Assign [tg] e pos) (tAsg te g) := by
  intro pins s σ H D I h
  refine wpAny_Assign_stores (thn (he pins s σ H _ I h) fun v s1 ⟨x, H1, I1, r1, q1⟩ => ?_) hs hw
  rw [h1]
  exact thn (hg pins s1 σ H1 x v _ I1 r1 q1) fun _ s2 q => q
theorem ps_set {i : Nat} {x : Str} {e : Expr} {te : TE} {pos' : Pos} (hN : X.N.Nodup) (hi : X.N[i]? = some x) (hx : Loc X.env.scope x) (he : PE X e te) (hs : swapsWith e (some (.Name x pos')) pos.line X.env = pure false := by rfl) (hf : X.fn x = true ∨ X.env.scope.names.lookup x = some .local := by first | exact .inl rfl | exact .inr rfl | assumption) :
    PS X (.Assign [.Name x pos'] e pos) (tAsg te (gName i)) := by
  intro pins s σ H D I h
  refine wpAny_Assign_Name (thn (he pins s σ H _ I h) fun v s1 ⟨y, H1, I1, r1, q1⟩ => ?_) hs
  exact store_ok I1 hN hi hx r1 (fun s2 I2 => ⟨_, H1, I2, q1⟩) hf
end

section
variable {X : Cx} {pos : Pos}
end

structure It where
  go : Nat → Hp → Prop
  yld : Nat → Hp → V → Hp → Prop
  stop : Nat → Hp → Prop
def FpOk (X : Cx) (pins : List (Addr × Obj)) (H : Hp) (b : Addr) : Prop :=
  H b = none ∧ b ≠ X.env.locals ∧ b ∉ X.fs ∧ (b ∈ X.ex ∨ X.s₀.heap.objs.size ≤ b) ∧ (∀ x c, X.env.cells.lookup x = some c → c ≠ b) ∧ ∀ p ∈ X.pn ++ pins, p.1 ≠ b
theorem Inv.fpOk {X : Cx} {pins : List (Addr × Obj)} {σ : St} {H H' : Hp} {s : Shared} {b : Addr} (I : Inv X pins σ H s) (hb : s.heap.objs.size ≤ b) (hn : H' b = none) : FpOk X pins H' b := by
  refine ⟨hn, Nat.ne_of_gt (Nat.lt_of_lt_of_le I.lt hb), I.nofs hb, .inr (Nat.le_trans I.sz hb), fun x c e z => ?_, fun p hp z => ?_⟩
  · obtain ⟨v, q⟩ := I.cell x c e
    exact absurd (Nat.lt_of_lt_of_le q.lt (by rw [z]; exact hb)) (Nat.lt_irrefl _)
  · exact absurd (Nat.lt_of_lt_of_le (Heap.lt_size (I.pin p hp).1) (by rw [z]; exact hb)) (Nat.lt_irrefl _)
structure Turn (P : Program) (w : World) (K : PySem.W.Frag) (tg : Expr) (J : It) (fp : List Addr) (it : Addr) (tn : Nat → Heap → Prop) : Prop where
  mem : it ∈ fp
  obj : ∀ i h, tn i h → ∀ b ∈ fp, ∃ o, h.get? b = some o ∧ ∀ v, o.data ≠ .cell v
  keep : ∀ i h h', tn i h → (∀ b ∈ fp, ∀ o, h.get? b = some o → h'.get? b = some o) → tn i h'
  item : ∀ (X : Cx), X.prog = P → X.w = w → X.K = K → X.calm = true → ∀ (i : Nat) (pins : List (Addr × Obj)) (s : Shared) (σ : St) (H : Hp) (E : Value → Shared → Prop), Inv X pins σ H s → (∀ b ∈ fp, FpOk X pins H b) → tn i s.heap → J.go i H →
    wpAny (model P w) X.A (pyNext (.ref it)) (fun r s1 => ∃ u, r = some u ∧
      wpAny (model P w) X.A (letOwnedTupleGo tg (.ref it) u) (fun _ s2 => ∃ x H', Inv X pins σ H' s2 ∧ RelV x u ∧ J.yld i H x H' ∧ tn (i + 1) s2.heap ∧ ∀ b ∈ fp, H' b = none) E s1) E s
  done : ∀ (X : Cx), X.prog = P → X.w = w → X.K = K → X.calm = true → ∀ (i : Nat) (pins : List (Addr × Obj)) (s : Shared) (σ : St) (H : Hp) (E : Value → Shared → Prop), Inv X pins σ H s → (∀ b ∈ fp, FpOk X pins H b) → tn i s.heap → J.stop i H →
    wpAny (model P w) X.A (pyNext (.ref it)) (fun r s1 => r = none ∧ Inv X pins σ H s1) E s
  self : ∀ (A : Around) (i : Nat) (s : Shared) (Q : Value → Shared → Prop) (E : Value → Shared → Prop), tn i s.heap → Q (.ref it) s → wpAny (model P w) A (pyIter (.ref it)) Q E s
abbrev TI := St → Hp → (It → Hp → Prop) → Prop
def PIE (X : Cx) (pins : List (Addr × Obj)) (σ : St) (tg : Expr) (R : It → Hp → Prop) (itv : Value) (s2 : Shared) : Prop :=
  ∃ (it : Addr) (fp : List Addr) (tn : Nat → Heap → Prop) (J : It) (H' : Hp), itv = .ref it ∧ Inv X pins σ H' s2 ∧ Turn X.prog X.w X.K tg J fp it tn ∧ tn 0 s2.heap ∧ (∀ b ∈ fp, FpOk X pins H' b) ∧ R J H'
def PI (X : Cx) (tg iter : Expr) (wi : TI) : Prop :=
  ∀ (pins : List (Addr × Obj)) (s : Shared) (σ : St) (H : Hp) (R : It → Hp → Prop), Inv X pins σ H s → wi σ H R →
    wpAny (model X.prog X.w) X.A (eval iter X.env) (fun v s1 => wpAny (model X.prog X.w) X.A (pyIter v) (PIE X pins σ tg R) X.xe s1) X.xe s

theorem go_of {M : Model} {A : Around} {E : Value → Shared → Prop} {s : Shared} {tg : Expr} {it : Addr} {u : Value} {o : Obj} {n : String} {vs : Array Value} {Q : Unit → Shared → Prop} (ho : s.heap.get? it = some o) (hc : o.cls = .type n) (hd : o.data = .fields vs)
    (hn : ["enumerate", "zip", "dict_itemiterator", "dict_reverseitemiterator", "odict_iterator", "itertools.zip_longest", "itertools.pairwise"].contains n = false) (hQ : Q () s) : wpAny M A (letOwnedTupleGo tg (.ref it) u) Q E s := by
  unfold letOwnedTupleGo
  cases tg <;> first
    | exact wpAny_pure hQ
    | (cases u <;> first
        | exact wpAny_pure hQ
        | (refine wpAny_bind (wpAny_load ho ?_)
           rw [hc, hd]
           show wpAny M A (if (["enumerate", "zip", "dict_itemiterator", "dict_reverseitemiterator", "odict_iterator", "itertools.zip_longest", "itertools.pairwise"].contains n && vs[0]? == some (rawInt _)) = true then _ else _) Q E s
           rw [if_neg (by intro h; rw [hn, Bool.false_and] at h; cases h)]
           exact wpAny_pure hQ))

def Itl (K : PySem.W.Frag) (a : Addr) : It :=
  ⟨fun i H => ∃ xs x, SqL K H a xs ∧ xs[i]? = some x, fun i H x H' => H' = H ∧ ∀ xs, SqL K H a xs → xs[i]? = some x, fun i H => ∃ xs, SqL K H a xs ∧ xs.length ≤ i⟩
def Itt (K : PySem.W.Frag) (a : Addr) : It :=
  ⟨fun i H => ∃ xs x, SqT K H a xs ∧ xs[i]? = some x, fun i H x H' => H' = H ∧ ∀ xs, SqT K H a xs → xs[i]? = some x, fun i H => ∃ xs, SqT K H a xs ∧ xs.length ≤ i⟩
def Itr (lo : Int) (n : Nat) : It := ⟨fun i _ => i < n, fun i H x H' => H' = H ∧ x = .int (lo + i), fun i _ => n ≤ i⟩
theorem turn_list {P : Program} {w : World} {K : PySem.W.Frag} {tg : Expr} (a it : Addr) : Turn P w K tg (Itl K a) [it] it (fun i h => h.IsListIter it a i) where
  mem := by simp
  obj := fun i h st b hb => by
    have e : b = it := by simpa using hb
    subst e
    obtain ⟨o, e, c, d⟩ := st
    exact ⟨o, e, fun v z => by rw [d] at z; cases z⟩
  keep := fun i h h' st k => st.at fun o e => k it (by simp) o e
  item := by
    intro X hP hw hK hc i pins s σ H E I hf st hg
    subst hP hw hK
    obtain ⟨xs, x, hq, hx⟩ := hg
    obtain ⟨its, rv, p, hz⟩ := I.list hq
    obtain ⟨u, hu, ru⟩ := rv.get hx
    obtain ⟨f0, f1, f2, f3, f4, f5⟩ := hf it (by simp)
    refine wpAny_pyNext_list_item st p.isList (x := u) (by simpa using hu) fun h' st' sb => ?_
    have I1 : Inv X pins σ H { s with heap := h' } := I.turned (t' := s.toks) (fun b o hb e => (sb.2 b hb).trans e) f0 f1 f3 f4 f5
    obtain ⟨o, e, c, d⟩ := id st'
    exact ⟨u, rfl, go_of (s := { s with heap := h' }) e c d (by decide) ⟨x, H, I1, ru, ⟨rfl, fun ys hy => by rw [I.list_inj hy hq]; exact hx⟩, st', fun b hb => (hf b hb).1⟩⟩
  done := by
    intro X hP hw hK hc i pins s σ H E I hf st hg
    subst hP hw hK
    obtain ⟨xs, hq, hx⟩ := hg
    obtain ⟨its, rv, p, hz⟩ := I.list hq
    obtain ⟨f0, f1, f2, f3, f4, f5⟩ := hf it (by simp)
    have hl := rv.length
    exact wpAny_pyNext_list_end (I.ok.hd hc) st p.isList (by simp; omega) fun h' eb => ⟨rfl, I.turned (t' := s.toks) (fun b o hb e => eb b o hb e) f0 f1 f3 f4 f5⟩
  self := fun _ _ _ _ _ st h => wpAny_pyIter_listiter st h
theorem turn_tuple {P : Program} {w : World} {K : PySem.W.Frag} {tg : Expr} (a it : Addr) : Turn P w K tg (Itt K a) [it] it (fun i h => h.IsTupleIter it a i) where
  mem := by simp
  obj := fun i h st b hb => by
    have e : b = it := by simpa using hb
    subst e
    obtain ⟨o, e, c, d⟩ := st
    exact ⟨o, e, fun v z => by rw [d] at z; cases z⟩
  keep := fun i h h' st k => st.at fun o e => k it (by simp) o e
  item := by
    intro X hP hw hK hc i pins s σ H E I hf st hg
    subst hP hw hK
    obtain ⟨xs, x, hq, hx⟩ := hg
    obtain ⟨its, rv, p, hz⟩ := I.tuple hq
    obtain ⟨u, hu, ru⟩ := rv.get hx
    obtain ⟨f0, f1, f2, f3, f4, f5⟩ := hf it (by simp)
    refine wpAny_pyNext_tuple_item st (show s.heap.IsTuple a its.toArray from p) (x := u) (by simpa using hu) fun h' st' sb => ?_
    have I1 : Inv X pins σ H { s with heap := h' } := I.turned (t' := s.toks) (fun b o hb e => (sb.2 b hb).trans e) f0 f1 f3 f4 f5
    obtain ⟨o, e, c, d⟩ := id st'
    exact ⟨u, rfl, go_of (s := { s with heap := h' }) e c d (by decide) ⟨x, H, I1, ru, ⟨rfl, fun ys hy => by rw [I.tuple_inj hy hq]; exact hx⟩, st', fun b hb => (hf b hb).1⟩⟩
  done := by
    intro X hP hw hK hc i pins s σ H E I hf st hg
    subst hP hw hK
    obtain ⟨xs, hq, hx⟩ := hg
    obtain ⟨its, rv, p, hz⟩ := I.tuple hq
    obtain ⟨f0, f1, f2, f3, f4, f5⟩ := hf it (by simp)
    have hl := rv.length
    exact wpAny_pyNext_tuple_end (I.ok.hd hc) st (show s.heap.IsTuple a its.toArray from p) (by simp; omega) fun h' eb => ⟨rfl, I.turned (t' := s.toks) (fun b o hb e => eb b o hb e) f0 f1 f3 f4 f5⟩
  self := fun _ _ _ _ _ st h => wpAny_pyIter_tupleiter st h
theorem turn_range {P : Program} {w : World} {K : PySem.W.Frag} {tg : Expr} (it : Addr) (lo : Int) (n : Nat) : Turn P w K tg (Itr lo n) [it] it (fun i h => IsRangeIter h it (lo + (i : Nat) * 1) ((n : Int) - (i : Nat)) 1) where
  mem := by simp
  obj := fun i h st b hb => by
    have e : b = it := by simpa using hb
    subst e
    exact ⟨_, st, fun v z => by
      have z' : Data.fields _ = Data.cell v := z
      cases z'⟩
  keep := fun i h h' st k => k it (by simp) _ st
  item := by
    intro X hP hw hK hc i pins s σ H E I hf st hg
    subst hP hw hK
    obtain ⟨f0, f1, f2, f3, f4, f5⟩ := hf it (by simp)
    have W := Walks.range (prog := X.prog) (w := X.w) (I.ok.hd hc) it lo 1 n
    refine W.item i s _ _ hg st fun v h' tk hv st' kk => ?_
    obtain ⟨t, rfl⟩ := hv
    have I1 : Inv X pins σ H { s with heap := h', toks := tk } := I.turned (fun b o hb e => kk b o (by simpa using hb) e) f0 f1 f3 f4 f5
    refine ⟨_, rfl, go_of (s := { s with heap := h', toks := tk }) (n := "range_iterator") st' rfl rfl (by decide) ⟨.int (lo + i), H, I1, ⟨t, ?_⟩, ⟨rfl, rfl⟩, st', fun b hb => (hf b hb).1⟩⟩
    rw [Int.mul_one]
  done := by
    intro X hP hw hK hc i pins s σ H E I hf st hg
    subst hP hw hK
    obtain ⟨f0, f1, f2, f3, f4, f5⟩ := hf it (by simp)
    exact wpAny_pyNext_range_end (I.ok.hd hc) st (by have : n ≤ i := hg; omega) fun h' eb => ⟨rfl, I.turned (t' := s.toks) (fun b o hb e => eb b o hb e) f0 f1 f3 f4 f5⟩
  self := fun _ _ _ _ _ st h => wpAny_pyIter_rangeiter st h
end L2

namespace L2
open PySem PySem.Spec PyProof.Rows
section
variable {X : Cx} {tg : Expr}
def iList (K : PySem.W.Frag) (tl : TE) : TI := fun σ H R => tl σ H fun x H1 => ∃ a, x = .ref a ∧ (∃ xs, SqL K H1 a xs) ∧ R (Itl K a) H1
def iTup (K : PySem.W.Frag) (tl : TE) : TI := fun σ H R => tl σ H fun x H1 => ∃ a, x = .ref a ∧ (∃ xs, SqT K H1 a xs) ∧ R (Itt K a) H1
theorem pi_list {l : Expr} {tl : TE} (hl : PE X l tl) : PI X tg l (iList X.K tl) := by
  intro pins s σ H R I h
  refine thn (hl pins s σ H _ I h) fun v s1 ⟨x, H1, I1, r1, q1⟩ => ?_
  obtain ⟨a, e, ⟨xs, hq⟩, q⟩ := q1
  subst e
  cases r1
  obtain ⟨its, rv, p, hz⟩ := I1.list hq
  refine wpAny_pyIter_list p.isList ?_
  refine ⟨s1.heap.objs.size, [s1.heap.objs.size], _, _, H1, rfl, I1.kept (t' := s1.toks) fun b o e => Heap.get?_push_of_some _ e, turn_list a _, ⟨_, Heap.get?_push_size _ rfl, rfl, rfl⟩, fun b hb => ?_, q⟩
  have e : b = s1.heap.objs.size := by simpa using hb
  subst e
  exact I1.fpOk (Nat.le_refl _) (I1.hok.fresh (Nat.le_refl _))
theorem pi_tup {l : Expr} {tl : TE} (hl : PE X l tl) : PI X tg l (iTup X.K tl) := by
  intro pins s σ H R I h
  refine thn (hl pins s σ H _ I h) fun v s1 ⟨x, H1, I1, r1, q1⟩ => ?_
  obtain ⟨a, e, ⟨xs, hq⟩, q⟩ := q1
  subst e
  cases r1
  obtain ⟨its, rv, p, hz⟩ := I1.tuple hq
  refine wpAny_pyIter_tuple (show s1.heap.IsTuple a its.toArray from p) ?_
  refine ⟨s1.heap.objs.size, [s1.heap.objs.size], _, _, H1, rfl, I1.kept (t' := s1.toks) fun b o e => Heap.get?_push_of_some _ e, turn_tuple a _, ⟨_, Heap.get?_push_size _ rfl, rfl, rfl⟩, fun b hb => ?_, q⟩
  have e : b = s1.heap.objs.size := by simpa using hb
  subst e
  exact I1.fpOk (Nat.le_refl _) (I1.hok.fresh (Nat.le_refl _))
theorem range_it {pins : List (Addr × Obj)} {σ : St} {H : Hp} {s : Shared} {R : It → Hp → Prop} {E : Value → Shared → Prop} {lo hi : Int} {t u v : Tok} {tk : Nat} (I : Inv X pins σ H s) (h1 : -(2 ^ 62) ≤ lo) (h2 : lo < 2 ^ 62) (h3 : -(2 ^ 62) ≤ hi) (h4 : hi < 2 ^ 62)
    (q : R (Itr lo (hi - lo).toNat) H) : wpAny (model X.prog X.w) X.A (pyIter (.ref s.heap.objs.size)) (PIE X pins σ tg R) E { s with heap := s.heap.push { cls := .type "range", data := .fields #[.int lo t, .int hi u, .int 1 v] }, toks := tk } := by
  refine wpAny_pyIter_range (IsRange.new ..) (small_one h1 h2 h3 h4) ?_
  have I1 : Inv X pins σ H { s with heap := s.heap.push { cls := .type "range", data := .fields #[.int lo t, .int hi u, .int 1 v] }, toks := tk } := I.kept fun b o e => Heap.get?_push_of_some _ e
  refine ⟨(s.heap.push { cls := .type "range", data := .fields #[.int lo t, .int hi u, .int 1 v] }).objs.size, [(s.heap.push { cls := .type "range", data := .fields #[.int lo t, .int hi u, .int 1 v] }).objs.size], _, _, H, rfl,
    I1.kept (t' := tk) fun b o e => Heap.get?_push_of_some _ e, turn_range _ lo (hi - lo).toNat, ?_, fun b hb => ?_, q⟩
  · have e1 : lo + ((0 : Nat) : Int) * 1 = lo := by simp
    have e2 : (((hi - lo).toNat : Nat) : Int) - ((0 : Nat) : Int) = Builtin.Range.rangeSize lo hi 1 := by rw [rangeSize_one]; split <;> omega
    show IsRangeIter _ _ (lo + ((0 : Nat) : Int) * 1) ((((hi - lo).toNat : Nat) : Int) - ((0 : Nat) : Int)) 1
    rw [e1, e2]
    exact Heap.get?_push_size _ rfl
  · have e : b = (s.heap.push { cls := .type "range", data := .fields #[.int lo t, .int hi u, .int 1 v] }).objs.size := by simpa using hb
    subst e
    exact I1.fpOk (Nat.le_refl _) (I1.hok.fresh (Nat.le_refl _))
def iRng1 (ta : TA) : TI := fun σ H R => ta σ H fun vs H1 => ∃ j : Int, vs = [.int j] ∧ -(2 ^ 62) ≤ j ∧ j < 2 ^ 62 ∧ R (Itr 0 j.toNat) H1
theorem pi_range1 {a : Expr} {ta : TA} {p pos : Pos} (hg : Gl X "range") (hm : X.mg "range" = none) (ha : PA X [a] ta) (hs : starEach [a] X.env = [(false, eval a X.env)] := by rfl) : PI X tg (.Call (.Name "range" p) [a] [] pos) (iRng1 ta) := by
  intro pins s σ H R I h
  refine Call_ (ld_blt I hg hm boot_range (PyProof.Rows.callWith_type1 (thn (ha pos pins s σ H _ I h) fun us s1 ⟨vs, H1, I1, r1, q1⟩ => ?_) hs rfl))
  obtain ⟨j, e, q1, q2, q⟩ := q1
  subst e
  cases r1 with
  | cons r rr =>
    cases rr
    obtain ⟨t, rfl⟩ := r
    exact call_range_1 (range_it I1 (by omega) (by omega) q1 q2 (by simpa using q))
def tFor (wi : TI) (g : TG) (tb : TS) : TS := fun D σ H => wi σ H fun J H1 => ∃ W : Nat → Nat → St → Hp → Prop, (∃ m, W 0 m σ H1) ∧ ∀ i m σ H, W i m σ H →
  (J.stop i H ∧ D.nx σ H) ∨ (J.go i H ∧ ∃ N : St → Hp → Prop, (∀ σ' H', N σ' H' → ∃ m', m' < m ∧ W (i + 1) m' σ' H') ∧ ∀ x H', J.yld i H x H' → g x σ H' fun σ2 H2 => tb { D with nx := N, ct := N, bk := D.nx } σ2 H2)
def pinsAt (fp : List Addr) (h : Heap) : List (Addr × Obj) := fp.filterMap fun b => (h.get? b).map fun o => (b, o)
theorem mem_pinsAt {fp : List Addr} {h : Heap} {b : Addr} {o : Obj} (hb : b ∈ fp) (e : h.get? b = some o) : (b, o) ∈ pinsAt fp h := List.mem_filterMap.mpr ⟨b, hb, by rw [e]; rfl⟩
theorem of_pinsAt {fp : List Addr} {h : Heap} {p : Addr × Obj} (hp : p ∈ pinsAt fp h) : p.1 ∈ fp ∧ h.get? p.1 = some p.2 := by
  obtain ⟨b, hb, e⟩ := List.mem_filterMap.mp hp
  cases q : h.get? b with
  | none => rw [q] at e; cases e
  | some o =>
    rw [q] at e
    have e' : (b, o) = p := Option.some.inj e
    subst e'
    exact ⟨hb, q⟩
theorem Inv.pinned {pins : List (Addr × Obj)} {σ : St} {H : Hp} {s : Shared} {fp : List Addr} (I : Inv X pins σ H s) (hf : ∀ b ∈ fp, FpOk X pins H b) (ho : ∀ b ∈ fp, ∃ o, s.heap.get? b = some o ∧ ∀ v, o.data ≠ .cell v) : Inv X (pins ++ pinsAt fp s.heap) σ H s :=
  I.pins_of fun p hp => (List.mem_append.mp hp).elim (fun z => I.pin p (List.mem_append_right _ z)) fun z => by
    obtain ⟨hb, e⟩ := of_pinsAt z
    obtain ⟨f0, f1, f2, _⟩ := hf p.1 hb
    obtain ⟨o, e', d⟩ := ho p.1 hb
    rw [e] at e'; cases e'
    exact ⟨e, f0, f1, f2, d⟩
theorem Inv.unpinned {pins pl : List (Addr × Obj)} {σ : St} {H : Hp} {s : Shared} (I : Inv X (pins ++ pl) σ H s) : Inv X pins σ H s := I.pins_of fun p hp => I.pin p (List.mem_append_right _ (List.mem_append_left _ hp))
theorem ps_for {iter : Expr} {body : List Stmt} {wi : TI} {g : TG} {tb : TS} {pos : Pos} (hp : PassesOwn (model X.prog X.w) X.A X.env X.xe) (hc : X.calm = true) (hi : PI X tg iter wi) (hg : PG X tg g) (hb : PSs X body tb)
    (hs : ∀ x, foldedSetIterable iter X.env x = pure x := by intro _; rfl) : PS X (.For tg iter body [] pos) (tFor wi g tb) := by
  intro pins s σ H D I h
  refine wpAny_For (thn (hi pins s σ H _ I h) fun v s1 h1 => thn h1 fun itv s2 h2 => ?_) hs
  obtain ⟨it, fp, tn, J, H2, e, I2, T, st2, f2, W, ⟨m0, w0⟩, turn⟩ := h2
  subst e
  have stat : ∀ {H' : Hp}, (∀ b ∈ fp, H' b = none) → ∀ b ∈ fp, FpOk X pins H' b := fun hn b hb => ⟨hn b hb, (f2 b hb).2⟩
  refine codeAny_forLoop_any (fun n s' => ∃ i σ' H', Inv X pins σ' H' s' ∧ tn i s'.heap ∧ (∀ b ∈ fp, H' b = none) ∧ W i n σ' H') ?_ m0 ⟨0, σ, H2, I2, st2, fun b hb => (f2 b hb).1, w0⟩
  rintro n s3 ⟨i, σ3, H3, I3, st3, fr3, w3⟩
  rcases turn i n σ3 H3 w3 with ⟨stop, qn⟩ | ⟨go, N, hN, step⟩
  · refine wpAny_passesOwn hp (thn (T.done X rfl rfl rfl hc i pins s3 σ3 H3 X.xe I3 (stat fr3) st3 stop) fun r s4 ⟨hr, I4⟩ => ?_)
    subst hr
    exact wpAny_execs_nil ⟨σ3, H3, I4, qn⟩
  · refine wpAny_passesOwn hp (thn (T.item X rfl rfl rfl hc i pins s3 σ3 H3 X.xe I3 (stat fr3) st3 go) fun r s4 ⟨u, hr, h4⟩ => ?_)
    subst hr
    refine wpAny_passesOwn hp (thn h4 fun _ s5 ⟨x, H5, I5, r5, y5, st5, fr5⟩ => ?_)
    have I5' := I5.pinned (stat fr5) (T.obj _ _ st5)
    refine wpAny_passesOwn hp (thn (hg _ s5 σ3 H5 x u _ I5' r5 (step x H5 y5)) fun _ s6 ⟨σ6, H6, I6, q6⟩ => ?_)
    refine wpAny_passesOwn hp (thn (hb _ s6 σ6 H6 _ I6 q6) fun f s7 q7 => ?_)
    have again : ∀ {σ7 : St} {H7 : Hp}, Inv X (pins ++ pinsAt fp s5.heap) σ7 H7 s7 → N σ7 H7 → ∃ m, m < n ∧ ∃ i σ' H', Inv X pins σ' H' s7 ∧ tn i s7.heap ∧ (∀ b ∈ fp, H' b = none) ∧ W i m σ' H' := fun {σ7 H7} I7 n7 => by
      obtain ⟨m', hm, w7⟩ := hN σ7 H7 n7
      refine ⟨m', hm, i + 1, σ7, H7, I7.unpinned, T.keep _ _ _ st5 fun b hb o e => (I7.pin (b, o) (List.mem_append_right _ (List.mem_append_right _ (mem_pinsAt hb e)))).1, fun b hb => ?_, w7⟩
      obtain ⟨o, e, d⟩ := T.obj _ _ st5 b hb
      exact (I7.pin (b, o) (List.mem_append_right _ (List.mem_append_right _ (mem_pinsAt hb e)))).2.1
    cases f with
    | next => obtain ⟨σ7, H7, I7, n7⟩ := q7; exact again I7 n7
    | cont => obtain ⟨σ7, H7, I7, n7⟩ := q7; exact again I7 n7
    | brk => obtain ⟨σ7, H7, I7, q7⟩ := q7; exact ⟨σ7, H7, I7.unpinned, q7⟩
    | ret v => obtain ⟨x7, σ7, H7, I7, r7, q7⟩ := q7; exact ⟨x7, σ7, H7, I7.unpinned, r7, q7⟩
end

theorem for_list {K : PySem.W.Frag} {a : Addr} {xs : List V} {g : TG} {tb : TS} {D : Ends} {σ : St} {H : Hp} (Pv : Nat → St → Hp → Prop) (h0 : Pv 0 σ H) (hl : ∀ i σ H, i ≤ xs.length → Pv i σ H → SqL K H a xs)
    (hs : ∀ i x σ H, xs[i]? = some x → Pv i σ H → g x σ H fun σ2 H2 => tb { D with nx := Pv (i + 1), ct := Pv (i + 1), bk := D.nx } σ2 H2) (hd : ∀ σ H, Pv xs.length σ H → D.nx σ H) :
    ∃ W : Nat → Nat → St → Hp → Prop, (∃ m, W 0 m σ H) ∧ ∀ i m σ H, W i m σ H →
      ((Itl K a).stop i H ∧ D.nx σ H) ∨ ((Itl K a).go i H ∧ ∃ N : St → Hp → Prop, (∀ σ' H', N σ' H' → ∃ m', m' < m ∧ W (i + 1) m' σ' H') ∧ ∀ x H', (Itl K a).yld i H x H' → g x σ H' fun σ2 H2 => tb { D with nx := N, ct := N, bk := D.nx } σ2 H2) := by
  refine ⟨fun i m σ H => m = xs.length - i ∧ i ≤ xs.length ∧ Pv i σ H, ⟨xs.length, by simp, Nat.zero_le _, h0⟩, ?_⟩
  rintro i m σ H ⟨rfl, hi, p⟩
  have q := hl i σ H hi p
  by_cases hlt : i < xs.length
  · refine .inr ⟨⟨xs, xs[i], q, by simp [hlt]⟩, Pv (i + 1), fun σ' H' p' => ⟨xs.length - (i + 1), by omega, rfl, hlt, p'⟩, fun x H' y => ?_⟩
    obtain ⟨e, y⟩ := y
    subst e
    exact hs i x σ _ (y xs q) p
  · have e : i = xs.length := by omega
    subst e
    exact .inl ⟨⟨xs, q, Nat.le_refl _⟩, hd σ H p⟩
theorem for_tup {K : PySem.W.Frag} {a : Addr} {xs : List V} {g : TG} {tb : TS} {D : Ends} {σ : St} {H : Hp} (Pv : Nat → St → Hp → Prop) (h0 : Pv 0 σ H) (hl : ∀ i σ H, i ≤ xs.length → Pv i σ H → SqT K H a xs)
    (hs : ∀ i x σ H, xs[i]? = some x → Pv i σ H → g x σ H fun σ2 H2 => tb { D with nx := Pv (i + 1), ct := Pv (i + 1), bk := D.nx } σ2 H2) (hd : ∀ σ H, Pv xs.length σ H → D.nx σ H) :
    ∃ W : Nat → Nat → St → Hp → Prop, (∃ m, W 0 m σ H) ∧ ∀ i m σ H, W i m σ H →
      ((Itt K a).stop i H ∧ D.nx σ H) ∨ ((Itt K a).go i H ∧ ∃ N : St → Hp → Prop, (∀ σ' H', N σ' H' → ∃ m', m' < m ∧ W (i + 1) m' σ' H') ∧ ∀ x H', (Itt K a).yld i H x H' → g x σ H' fun σ2 H2 => tb { D with nx := N, ct := N, bk := D.nx } σ2 H2) := by
  refine ⟨fun i m σ H => m = xs.length - i ∧ i ≤ xs.length ∧ Pv i σ H, ⟨xs.length, by simp, Nat.zero_le _, h0⟩, ?_⟩
  rintro i m σ H ⟨rfl, hi, p⟩
  have q := hl i σ H hi p
  by_cases hlt : i < xs.length
  · refine .inr ⟨⟨xs, xs[i], q, by simp [hlt]⟩, Pv (i + 1), fun σ' H' p' => ⟨xs.length - (i + 1), by omega, rfl, hlt, p'⟩, fun x H' y => ?_⟩
    obtain ⟨e, y⟩ := y
    subst e
    exact hs i x σ _ (y xs q) p
  · have e : i = xs.length := by omega
    subst e
    exact .inl ⟨⟨xs, q, Nat.le_refl _⟩, hd σ H p⟩
theorem for_range {lo : Int} {n : Nat} {g : TG} {tb : TS} {D : Ends} {σ : St} {H : Hp} (Pv : Nat → St → Hp → Prop) (h0 : Pv 0 σ H)
    (hs : ∀ i σ H, i < n → Pv i σ H → g (.int (lo + i)) σ H fun σ2 H2 => tb { D with nx := Pv (i + 1), ct := Pv (i + 1), bk := D.nx } σ2 H2) (hd : ∀ σ H, Pv n σ H → D.nx σ H) :
    ∃ W : Nat → Nat → St → Hp → Prop, (∃ m, W 0 m σ H) ∧ ∀ i m σ H, W i m σ H →
      ((Itr lo n).stop i H ∧ D.nx σ H) ∨ ((Itr lo n).go i H ∧ ∃ N : St → Hp → Prop, (∀ σ' H', N σ' H' → ∃ m', m' < m ∧ W (i + 1) m' σ' H') ∧ ∀ x H', (Itr lo n).yld i H x H' → g x σ H' fun σ2 H2 => tb { D with nx := N, ct := N, bk := D.nx } σ2 H2) := by
  refine ⟨fun i m σ H => m = n - i ∧ i ≤ n ∧ Pv i σ H, ⟨n, by simp, Nat.zero_le _, h0⟩, ?_⟩
  rintro i m σ H ⟨rfl, hi, p⟩
  by_cases hlt : i < n
  · refine .inr ⟨hlt, Pv (i + 1), fun σ' H' p' => ⟨n - (i + 1), by omega, rfl, hlt, p'⟩, fun x H' y => ?_⟩
    obtain ⟨e, y⟩ := y
    subst e y
    exact hs i σ _ hlt p
  · have e : i = n := by omega
    subst e
    exact .inl ⟨Nat.le_refl _, hd σ H p⟩
end L2

namespace L2
open PySem PySem.Spec PyProof.Rows

abbrev R2 := V → V → Hp → VK → Prop
def OpR (X : Cx) (f : Value → Value → Sem Value) (r : R2) : Prop :=
  ∀ (pins : List (Addr × Obj)) (s : Shared) (σ : St) (H : Hp) (x y : V) (v u : Value) (Q : VK), Inv X pins σ H s → RelV x v → RelV y u → r x y H Q →
    wpAny (model X.prog X.w) X.A (f v u) (EP X pins σ Q) X.xe s
def UnR (X : Cx) (f : Value → Sem Value) (r : V → Hp → VK → Prop) : Prop :=
  ∀ (pins : List (Addr × Obj)) (s : Shared) (σ : St) (H : Hp) (x : V) (v : Value) (Q : VK), Inv X pins σ H s → RelV x v → r x H Q →
    wpAny (model X.prog X.w) X.A (f v) (EP X pins σ Q) X.xe s
def CallR (X : Cx) (f : Value) (r : List V → Hp → VK → Prop) : Prop :=
  ∀ (pins : List (Addr × Obj)) (s : Shared) (σ : St) (H : Hp) (xs : List V) (us : List Value) (Q : VK), Inv X pins σ H s → Vals xs us → r xs H Q →
    wpAny (model X.prog X.w) X.A (call f us) (EP X pins σ Q) X.xe s
def tOp (r : R2) (ta tb : TE) : TE := fun σ H Q => ta σ H fun x H1 => tb σ H1 fun y H2 => r x y H2 Q
def tUn (r : V → Hp → VK → Prop) (ta : TE) : TE := fun σ H Q => ta σ H fun x H1 => r x H1 Q
def rI (C : Int → Int → Prop) (g : Int → Int → V) : R2 := fun x y H Q => ∃ i j, x = .int i ∧ y = .int j ∧ C i j ∧ Q (g i j) H
def rI0 (g : Int → Int → V) : R2 := fun x y H Q => ∃ i j, x = .int i ∧ y = .int j ∧ Q (g i j) H
def rU (g : Int → V) : V → Hp → VK → Prop := fun x H Q => ∃ i, x = .int i ∧ Q (g i) H

section
variable {X : Cx} {a b c : Expr} {ta tb tc : TE} {pos : Pos}

theorem binT (ha : PE X a ta) (hb : PE X b tb) {pins : List (Addr × Obj)} {s : Shared} {σ : St} {H : Hp} {R : V → V → Hp → Prop} (I : Inv X pins σ H s)
    (h : ta σ H fun x H1 => tb σ H1 fun y H2 => R x y H2) {Q : Value → Shared → Prop} {f : Value → Value → Sem Value}
    (hf : ∀ v u s2 x y H2, Inv X pins σ H2 s2 → RelV x v → RelV y u → R x y H2 → wpAny (model X.prog X.w) X.A (f v u) Q X.xe s2) :
    wpAny (model X.prog X.w) X.A (eval a X.env) (fun v s₁ => wpAny (model X.prog X.w) X.A (eval b X.env) (fun u s₂ => wpAny (model X.prog X.w) X.A (f v u) Q X.xe s₂) X.xe s₁) X.xe s := by
  refine thn (ha pins s σ H _ I h) fun v s1 ⟨x, H1, I1, r1, q1⟩ => ?_
  refine thn (hb pins s1 σ H1 _ I1 q1) fun u s2 ⟨y, H2, I2, r2, q2⟩ => ?_
  exact hf v u s2 x y H2 I2 r1 r2 q2

theorem pe_op {op : Operator} {r : R2} (ho : OpR X (binaryOp op) r) (ha : PE X a ta) (hb : PE X b tb) : PE X (.BinOp a op b pos) (tOp r ta tb) := by
  intro pins s σ H Q I h
  exact wpAny_BinOp (binT ha hb I h fun v u s2 x y H2 I2 rx ry q => ho pins s2 σ H2 x y v u Q I2 rx ry q)
theorem pe_un {op : UnaryOp} {r : V → Hp → VK → Prop} (ho : UnR X (unaryOp op) r) (ha : PE X a ta) : PE X (.UnaryOp op a pos) (tUn r ta) := by
  intro pins s σ H Q I h
  exact UnaryOp_ (thn (ha pins s σ H _ I h) fun v s1 ⟨x, H1, I1, r1, q1⟩ => ho pins s1 σ H1 x v Q I1 r1 q1)
theorem opI {f : Value → Value → Sem Value} {C : Int → Int → Prop} {g : Int → Int → Int}
    (rule : ∀ (i j : Int) (t u : Tok) (s : Shared) (Q : Value → Shared → Prop) (E : Value → Shared → Prop), C i j → Q (.int (g i j) s.toks) { s with toks := s.toks + 1 } → wpAny (model X.prog X.w) X.A (f (.int i t) (.int j u)) Q E s) :
    OpR X f (rI C fun i j => .int (g i j)) := by
  intro pins s σ H x y v u Q I rx ry h
  obtain ⟨i, j, rfl, rfl, hc, q⟩ := h
  obtain ⟨t, rfl⟩ := rx
  obtain ⟨t', rfl⟩ := ry
  exact rule i j t t' s _ _ hc ⟨.int (g i j), H, I.tok _, ⟨_, rfl⟩, q⟩
theorem opI0 {f : Value → Value → Sem Value} {g : Int → Int → Int}
    (rule : ∀ (i j : Int) (t u : Tok) (s : Shared) (Q : Value → Shared → Prop) (E : Value → Shared → Prop), Q (.int (g i j) s.toks) { s with toks := s.toks + 1 } → wpAny (model X.prog X.w) X.A (f (.int i t) (.int j u)) Q E s) :
    OpR X f (rI0 fun i j => .int (g i j)) := by
  intro pins s σ H x y v u Q I rx ry h
  obtain ⟨i, j, rfl, rfl, q⟩ := h
  obtain ⟨t, rfl⟩ := rx
  obtain ⟨t', rfl⟩ := ry
  exact rule i j t t' s _ _ ⟨.int (g i j), H, I.tok _, ⟨_, rfl⟩, q⟩
theorem opB0 {f : Value → Value → Sem Value} {g : Int → Int → Bool}
    (rule : ∀ (i j : Int) (t u : Tok) (s : Shared) (Q : Value → Shared → Prop) (E : Value → Shared → Prop), Q (.bool (g i j)) s → wpAny (model X.prog X.w) X.A (f (.int i t) (.int j u)) Q E s) :
    OpR X f (rI0 fun i j => .bl (g i j)) := by
  intro pins s σ H x y v u Q I rx ry h
  obtain ⟨i, j, rfl, rfl, q⟩ := h
  obtain ⟨t, rfl⟩ := rx
  obtain ⟨t', rfl⟩ := ry
  exact rule i j t t' s _ _ ⟨.bl (g i j), H, I, rfl, q⟩

def CPow (i j : Int) : Prop := 0 ≤ j ∧ j ≤ 1000000 ∧ i.natAbs < 2 ^ 64
def CMul (i j : Int) : Prop := (-(2 ^ 64) < i ∧ i < 2 ^ 64) ∨ (-(2 ^ 64) < j ∧ j < 2 ^ 64)
theorem CMul.ok {i j : Int} (h : CMul i j) : IntMulOk i j := by
  rcases h with ⟨h1, h2⟩ | ⟨h1, h2⟩
  · exact .of_left (intBits_le_64 h1 h2)
  · exact .of_right (intBits_le_64 h1 h2)
theorem op_add : OpR X (binaryOp .Add) (rI0 fun i j => .int (i + j)) := opI0 fun _ _ _ _ _ _ _ q => add_int q
theorem op_sub : OpR X (binaryOp .Sub) (rI0 fun i j => .int (i - j)) := opI0 fun _ _ _ _ _ _ _ q => sub_int q
theorem op_mul : OpR X (binaryOp .Mult) (rI CMul fun i j => .int (i * j)) := opI fun _ _ _ _ _ _ _ hc q => mul_int q hc.ok
theorem op_mod : OpR X (binaryOp .Mod) (rI (fun _ j => 0 < j) fun i j => .int (i % j)) := opI fun i j _ _ _ _ _ hc q => by
  have h1 : (0 : Int) < j := hc
  exact mod_int' (by omega) (by rw [Int.fmod_eq_emod_of_nonneg i (by omega)]; exact q)
theorem op_pow : OpR X (binaryOp .Pow) (rI CPow fun i j => .int (i ^ j.toNat)) := opI fun _ _ _ _ _ _ _ hc q => pow_int_small hc.1 hc.2.1 hc.2.2 q
theorem unI {f : Value → Sem Value} {g : Int → Int}
    (rule : ∀ (i : Int) (t : Tok) (s : Shared) (Q : Value → Shared → Prop) (E : Value → Shared → Prop), Q (.int (g i) s.toks) { s with toks := s.toks + 1 } → wpAny (model X.prog X.w) X.A (f (.int i t)) Q E s) :
    UnR X f (rU fun i => .int (g i)) := by
  intro pins s σ H x v Q I rx h
  obtain ⟨i, rfl, q⟩ := h
  obtain ⟨t, rfl⟩ := rx
  exact rule i t s _ _ ⟨.int (g i), H, I.tok _, ⟨_, rfl⟩, q⟩
theorem un_neg : UnR X (unaryOp .USub) (rU fun i => .int (-i)) := unI fun _ _ _ _ _ q => neg_int q
end

def scal : V → V → Bool
  | .non, .non => true | .non, .int _ => true | .int _, .non => true | .non, .bl _ => true | .bl _, .non => true | .non, .str _ => true | .str _, .non => true
  | .int _, .int _ => true | .bl _, .bl _ => true | .str _, .str _ => true | .byt _, .byt _ => true
  | .int _, .str _ => true | .str _, .int _ => true | .bl _, .str _ => true | .str _, .bl _ => true
  | _, _ => false
def rEq : R2 := fun x y H Q => scal x y = true ∧ Q (.bl (decide (x = y))) H
def rNe : R2 := fun x y H Q => scal x y = true ∧ Q (.bl (!decide (x = y))) H

theorem dec_int {i j : Int} : decide (V.int i = V.int j) = (i == j) := by
  rw [Bool.eq_iff_iff]
  simp
theorem dec_bl {i j : Bool} : decide (V.bl i = V.bl j) = (i == j) := by
  rw [Bool.eq_iff_iff]
  simp
theorem dec_str {i j : Str} : decide (V.str i = V.str j) = (i == j) := by
  rw [Bool.eq_iff_iff]
  simp
theorem dec_byt {i j : Array UInt8} : decide (V.byt i = V.byt j) = (i.toList == j.toList) := by
  rw [Bool.eq_iff_iff]
  cases i
  cases j
  simp

section
variable {X : Cx} {a b c : Expr} {ta tb tc : TE} {pos : Pos}
theorem fin_bl {pins : List (Addr × Obj)} {σ : St} {H : Hp} {s : Shared} {Q : VK} {k k' : Bool} (I : Inv X pins σ H s) (q : Q (.bl k) H) (e : k = k') : EP X pins σ Q (.bool k') s := by
  subst e
  exact ⟨.bl k, H, I, rfl, q⟩
theorem op_eq : OpR X (compareOp .Eq) rEq := by
  intro pins s σ H x y v u Q I rx ry h
  obtain ⟨hs, q⟩ := h
  cases x with
  | non =>
    cases rx
    cases y with
    | non => cases ry; exact PySem.EqNone.eq_none_none (fin_bl I q (by simp))
    | bl j => cases ry; exact PySem.EqNone.eq_none_bool (fin_bl I q (by simp))
    | int j => obtain ⟨t', rfl⟩ := ry; exact PySem.EqNone.eq_none_int (fin_bl I q (by simp))
    | str j => obtain ⟨t', rfl⟩ := ry; exact PySem.EqNone.eq_none_str (fin_bl I q (by simp))
    | _ => exact absurd (show false = true from hs) Bool.false_ne_true
  | bl i =>
    cases rx
    cases y with
    | non => cases ry; exact PySem.EqNone.eq_bool_none (fin_bl I q (by simp))
    | bl j => cases ry; exact eq_bool (fin_bl I q dec_bl)
    | str j => obtain ⟨t', rfl⟩ := ry; exact PySem.EqMixed.eq_bool_str (fin_bl I q (by simp))
    | _ => exact absurd (show false = true from hs) Bool.false_ne_true
  | int i =>
    obtain ⟨t, rfl⟩ := rx
    cases y with
    | non => cases ry; exact PySem.EqNone.eq_int_none (fin_bl I q (by simp))
    | int j => obtain ⟨t', rfl⟩ := ry; exact eq_int (fin_bl I q dec_int)
    | str j => obtain ⟨t', rfl⟩ := ry; exact PySem.EqMixed.eq_int_str (fin_bl I q (by simp))
    | _ => exact absurd (show false = true from hs) Bool.false_ne_true
  | str i =>
    obtain ⟨t, rfl⟩ := rx
    cases y with
    | non => cases ry; exact PySem.EqNone.eq_str_none (fin_bl I q (by simp))
    | bl j => cases ry; exact PySem.EqMixed.eq_str_bool (fin_bl I q (by simp))
    | int j => obtain ⟨t', rfl⟩ := ry; exact PySem.EqMixed.eq_str_int (fin_bl I q (by simp))
    | str j => obtain ⟨t', rfl⟩ := ry; exact eq_str (fin_bl I q dec_str)
    | _ => exact absurd (show false = true from hs) Bool.false_ne_true
  | byt i =>
    obtain ⟨t, rfl⟩ := rx
    cases y with
    | byt j => obtain ⟨t', rfl⟩ := ry; exact PySem.W.eq_bytes (fin_bl I q dec_byt)
    | _ => exact absurd (show false = true from hs) Bool.false_ne_true
  | _ => cases y <;> exact absurd (show false = true from hs) Bool.false_ne_true
theorem op_ne : OpR X (compareOp .NotEq) rNe := by
  intro pins s σ H x y v u Q I rx ry h
  obtain ⟨hs, q⟩ := h
  cases x with
  | non =>
    cases rx
    cases y with
    | non => cases ry; exact PySem.EqNone.ne_none_none (fin_bl I q (by simp))
    | bl j => cases ry; exact PySem.EqNone.ne_none_bool (fin_bl I q (by simp))
    | int j => obtain ⟨t', rfl⟩ := ry; exact PySem.EqNone.ne_none_int (fin_bl I q (by simp))
    | str j => obtain ⟨t', rfl⟩ := ry; exact PySem.EqNone.ne_none_str (fin_bl I q (by simp))
    | _ => exact absurd (show false = true from hs) Bool.false_ne_true
  | bl i =>
    cases rx
    cases y with
    | non => cases ry; exact PySem.EqNone.ne_bool_none (fin_bl I q (by simp))
    | bl j => cases ry; exact ne_bool (fin_bl I q (congrArg not dec_bl))
    | str j => obtain ⟨t', rfl⟩ := ry; exact PySem.EqMixed.ne_bool_str (fin_bl I q (by simp))
    | _ => exact absurd (show false = true from hs) Bool.false_ne_true
  | int i =>
    obtain ⟨t, rfl⟩ := rx
    cases y with
    | non => cases ry; exact PySem.EqNone.ne_int_none (fin_bl I q (by simp))
    | int j => obtain ⟨t', rfl⟩ := ry; exact ne_int (fin_bl I q (congrArg not dec_int))
    | str j => obtain ⟨t', rfl⟩ := ry; exact PySem.EqMixed.ne_int_str (fin_bl I q (by simp))
    | _ => exact absurd (show false = true from hs) Bool.false_ne_true
  | str i =>
    obtain ⟨t, rfl⟩ := rx
    cases y with
    | non => cases ry; exact PySem.EqNone.ne_str_none (fin_bl I q (by simp))
    | bl j => cases ry; exact PySem.EqMixed.ne_str_bool (fin_bl I q (by simp))
    | int j => obtain ⟨t', rfl⟩ := ry; exact PySem.EqMixed.ne_str_int (fin_bl I q (by simp))
    | str j => obtain ⟨t', rfl⟩ := ry; exact ne_str (fin_bl I q (congrArg not dec_str))
    | _ => exact absurd (show false = true from hs) Bool.false_ne_true
  | byt i =>
    obtain ⟨t, rfl⟩ := rx
    cases y with
    | byt j => obtain ⟨t', rfl⟩ := ry; exact PySem.W.ne_bytes (fin_bl I q (congrArg not dec_byt))
    | _ => exact absurd (show false = true from hs) Bool.false_ne_true
  | _ => cases y <;> exact absurd (show false = true from hs) Bool.false_ne_true

theorem op_lt : OpR X (compareOp .Lt) (rI0 fun i j => .bl (decide (i < j))) := opB0 fun _ _ _ _ _ _ _ q => lt_int q
theorem op_le : OpR X (compareOp .LtE) (rI0 fun i j => .bl (decide (i ≤ j))) := opB0 fun _ _ _ _ _ _ _ q => le_int q
theorem op_gt : OpR X (compareOp .Gt) (rI0 fun i j => .bl (decide (j < i))) := opB0 fun _ _ _ _ _ _ _ q => gt_int q
theorem op_ge : OpR X (compareOp .GtE) (rI0 fun i j => .bl (decide (j ≤ i))) := opB0 fun _ _ _ _ _ _ _ q => ge_int q
theorem op_in_str : OpR X (compareOp .In) (fun x y H Q => ∃ i j, x = .str i ∧ y = .str j ∧ Q (.bl (!(Builtin.Str.occurrences j i 0 j.length 1).isEmpty)) H) := by
  intro pins s σ H x y v u Q I rx ry h
  obtain ⟨i, j, rfl, rfl, q⟩ := h
  obtain ⟨t, rfl⟩ := rx
  obtain ⟨t', rfl⟩ := ry
  exact in_str (fin_bl I q rfl)

theorem op_isN : OpR X (compareOp .Is) (fun x y H Q => y = .non ∧ Q (.bl (decide (x = .non))) H) := by
  intro pins s σ H x y v u Q I rx ry h
  obtain ⟨rfl, q⟩ := h
  cases ry
  refine is_none_gen (fin_bl I q ?_)
  cases x <;> first
    | (cases rx; rfl)
    | (obtain ⟨t, rfl⟩ := rx; rfl)
theorem op_notN : OpR X (compareOp .IsNot) (fun x y H Q => y = .non ∧ Q (.bl (!decide (x = .non))) H) := by
  intro pins s σ H x y v u Q I rx ry h
  obtain ⟨rfl, q⟩ := h
  cases ry
  refine isnot_none_gen (fin_bl I q ?_)
  cases x <;> first
    | (cases rx; rfl)
    | (obtain ⟨t, rfl⟩ := rx; rfl)

theorem nomark (b : Expr) {op : CmpOp} (h : op ≠ .In := by decide) (h2 : op ≠ .NotIn := by decide) : behindInMarks op b = false := by
  have e1 : (op == CmpOp.In) = false := by cases op <;> first | rfl | exact absurd rfl h
  have e2 : (op == CmpOp.NotIn) = false := by cases op <;> first | rfl | exact absurd rfl h2
  cases b <;> simp [behindInMarks, e1, e2]
theorem pe_cmpR {op : CmpOp} {r : R2} (ho : OpR X (compareOp op) r) (ha : PE X a ta) (hb : PE X b tb) (hm : behindInMarks op b = false) : PE X (.Compare a [op] [b] pos) (tOp r ta tb) := by
  intro pins s σ H Q I h
  exact wpAny_Compare1 (binT ha hb I h fun v u s2 x y H2 I2 rx ry q => ho pins s2 σ H2 x y v u Q I2 rx ry q) hm
def tTest (t : TE) : TT := fun σ H Q => t σ H fun x H' => ∃ k, x = .bl k ∧ Q k H'
theorem pt_cmpR {op : CmpOp} {r : R2} (ho : OpR X (compareOp op) r) (ha : PE X a ta) (hb : PE X b tb) (hm : behindInMarks op b = false) : PT X (.Compare a [op] [b] pos) (tTest (tOp r ta tb)) := by
  intro pins s σ H Q I h
  refine wpAny_isTrue_Compare1 (thn (ha pins s σ H _ I h) fun v s1 ⟨x, H1, I1, r1, q1⟩ => thn (hb pins s1 σ H1 _ I1 q1) fun u s2 ⟨y, H2, I2, r2, q2⟩ =>
    thn (ho pins s2 σ H2 x y v u _ I2 r1 r2 q2) fun c s3 ⟨z, H3, I3, r3, k, e, q3⟩ => ?_) hm
  subst e
  cases r3
  exact wpAny_truthy_bool ⟨H3, I3, q3⟩
def tChain (r r' : R2) (ta tb tc : TE) : TE := fun σ H Q => ta σ H fun x H1 => tb σ H1 fun y H2 => r x y H2 fun z H3 => ∃ k, z = .bl k ∧
  (if k = true then tc σ H3 fun w' H4 => r' y w' H4 Q else Q (.bl false) H3)
theorem pe_chain {op op' : CmpOp} {r r' : R2} (ho : OpR X (compareOp op) r) (ho' : OpR X (compareOp op') r') (ha : PE X a ta) (hb : PE X b tb) (hc : PE X c tc)
    (hm : lastMarks [op, op'] [b, c] = false := by with_unfolding_all rfl) : PE X (.Compare a [op, op'] [b, c] pos) (tChain r r' ta tb tc) := by
  intro pins s σ H Q I h
  refine Compare_chain (thn (ha pins s σ H _ I h) fun v s1 ⟨x, H1, I1, r1, q1⟩ => chain_link (thn (hb pins s1 σ H1 _ I1 q1) fun u s2 ⟨y, H2, I2, r2, q2⟩ =>
    thn (ho pins s2 σ H2 x y v u _ I2 r1 r2 q2) fun d s3 ⟨z, H3, I3, r3, k, e, q3⟩ => ?_)) hm
  subst e
  cases r3
  refine wpAny_truthy_bool ?_
  cases k with
  | false => exact ite_ff ⟨.bl false, H3, I3, rfl, q3⟩
  | true => exact ite_tt (chain_last (thn (hc pins s3 σ H3 _ I3 q3) fun w' s4 ⟨z', H4, I4, r4, q4⟩ => ho' pins s4 σ H4 y z' u w' Q I4 r2 r4 q4))
theorem pt_chain {op op' : CmpOp} {r r' : R2} (ho : OpR X (compareOp op) r) (ho' : OpR X (compareOp op') r') (ha : PE X a ta) (hb : PE X b tb) (hc : PE X c tc)
    (hm : lastMarks [op, op'] [b, c] = false := by with_unfolding_all rfl) : PT X (.Compare a [op, op'] [b, c] pos) (tTest (tChain r r' ta tb tc)) := by
  intro pins s σ H Q I h
  refine isTrue_chain (thn (ha pins s σ H _ I h) fun v s1 ⟨x, H1, I1, r1, q1⟩ => test_link (thn (hb pins s1 σ H1 _ I1 q1) fun u s2 ⟨y, H2, I2, r2, q2⟩ =>
    thn (ho pins s2 σ H2 x y v u _ I2 r1 r2 q2) fun d s3 ⟨z, H3, I3, r3, k, e, q3⟩ => ?_)) hm
  subst e
  cases r3
  refine wpAny_truthy_bool ?_
  cases k with
  | false =>
    obtain ⟨k', e', q'⟩ := q3
    cases e'
    exact ite_ff ⟨H3, I3, q'⟩
  | true =>
    refine ite_tt (test_last (thn (hc pins s3 σ H3 _ I3 q3) fun w' s4 ⟨z', H4, I4, r4, q4⟩ => thn (ho' pins s4 σ H4 y z' u w' _ I4 r2 r4 q4) fun d' s5 ⟨z2, H5, I5, r5, k2, e2, q5⟩ => ?_))
    subst e2
    cases r5
    exact wpAny_truthy_bool ⟨H5, I5, q5⟩

theorem line63 : (sizeLine : Nat) < 2 ^ 63 := by rw [sizeLine_eq]; decide
theorem op_add_str : OpR X (binaryOp .Add) (fun x y H Q => ∃ i j, x = .str i ∧ y = .str j ∧ i.length + j.length ≤ sizeLine ∧ Q (.str (i ++ j)) H) := by
  intro pins s σ H x y v u Q I rx ry h
  obtain ⟨i, j, rfl, rfl, hz, q⟩ := h
  obtain ⟨t, rfl⟩ := rx
  obtain ⟨t', rfl⟩ := ry
  exact add_str (fun t' tk => ⟨.str (i ++ j), H, I.tok _, ⟨_, rfl⟩, q⟩) hz
theorem vals1 {x : V} {us : List Value} (r : Vals [x] us) : ∃ u, us = [u] ∧ RelV x u := by
  cases r with
  | cons r1 r2 => cases r2; exact ⟨_, rfl, r1⟩
theorem vals2 {x y : V} {us : List Value} (r : Vals [x, y] us) : ∃ u w', us = [u, w'] ∧ RelV x u ∧ RelV y w' := by
  cases r with
  | cons r1 r2 =>
    cases r2 with
    | cons r3 r4 => cases r4; exact ⟨_, _, rfl, r1, r3⟩
theorem call_max2 (hc : X.calm = true) : CallR X (.builtin "max") (fun xs H Q => ∃ i j, xs = [.int i, .int j] ∧ Q (.int (if j > i then j else i)) H) := by
  intro pins s σ H xs us Q I r h
  obtain ⟨i, j, rfl, q⟩ := h
  obtain ⟨u, w', rfl, ⟨t, rfl⟩, ⟨t', rfl⟩⟩ := vals2 r
  refine max_two_ints (I.ok.hd hc) fun h' tk k => ⟨_, H, I.kept k, ?_, q⟩
  by_cases hj : j > i
  · rw [if_pos hj, if_pos hj]; exact ⟨_, rfl⟩
  · rw [if_neg hj, if_neg hj]; exact ⟨_, rfl⟩
theorem call_min2 (hc : X.calm = true) : CallR X (.builtin "min") (fun xs H Q => ∃ i j, xs = [.int i, .int j] ∧ Q (.int (if j < i then j else i)) H) := by
  intro pins s σ H xs us Q I r h
  obtain ⟨i, j, rfl, q⟩ := h
  obtain ⟨u, w', rfl, ⟨t, rfl⟩, ⟨t', rfl⟩⟩ := vals2 r
  refine min_two_ints (I.ok.hd hc) fun h' tk k => ⟨_, H, I.kept k, ?_, q⟩
  by_cases hj : j < i
  · rw [if_pos hj, if_pos hj]; exact ⟨_, rfl⟩
  · rw [if_neg hj, if_neg hj]; exact ⟨_, rfl⟩
theorem call_str_int : CallR X (.type "str") (fun xs H Q => ∃ i, xs = [.int i] ∧ i.natAbs.log2 < 1920 ∧ Q (.str (toString i)) H) := by
  intro pins s σ H xs us Q I r h
  obtain ⟨i, rfl, hz, q⟩ := h
  obtain ⟨u, rfl, t, rfl⟩ := vals1 r
  exact PySem.P.str_of_int hz ⟨.str _, H, I.tok _, ⟨_, rfl⟩, q⟩
end
end L2

namespace L2
open PySem PySem.Spec PyProof.Rows

structure ObjM (h : Heap) (x dx C : Addr) (mA : Str → Option Value) : Prop where
  obj : h.get? x = some (PySem.W.instObj C dx)
  ns : h.Ns1 dx mA
  ne : dx ≠ x

theorem lookIn_ns {h : Heap} {dx : Addr} {mA : Str → Option Value} (n : h.Ns1 dx mA) : ∃ od, h.get? dx = some od ∧ ∀ name, PySem.W.lookIn name od = some (mA name) := by
  obtain ⟨o, es, ep, ho, hd, hk, _, hm⟩ := n
  refine ⟨o, ho, fun name => ?_⟩
  have e := hm name
  unfold nsFind findBy at e
  rw [← Array.find?_toList] at e
  unfold PySem.W.lookIn
  rw [hd]
  dsimp only
  split
  · rename_i y q
    rw [q] at e
    exact congrArg some e
  · rename_i q
    rw [q] at e
    have a : es.toList.any (·.refKey) = false := by
      rw [List.any_eq_false]
      intro y hy
      obtain ⟨z, t, hkey⟩ := hk y (Array.mem_toList_iff.mp hy)
      simp [DictEntry.refKey, hkey]
    have a' : ¬ es.toList.any (·.refKey) = true := by rw [a]; exact Bool.false_ne_true
    rw [if_neg a']
    exact congrArg some e

theorem ObjM.look {h : Heap} {x dx C : Addr} {mA : Str → Option Value} (I : ObjM h x dx C mA) : ∃ od, PySem.W.InstAt h x (PySem.W.instObj C dx) C (some od) ∧ ∀ name, PySem.W.lookIn name od = some (mA name) :=
  let ⟨od, ho, hl⟩ := lookIn_ns I.ns
  ⟨od, ⟨I.obj, rfl, rfl, ho⟩, hl⟩

section
variable {prog : Program} {w : World} {A : Around} {E : Value → Shared → Prop} {s : Shared} {K : PySem.W.Frag} {x dx C f : Addr} {mA : Str → Option Value} {name : Str} {v : Value}

theorem get_map {expr : Bool} {Q : Value → Shared → Prop} (X : K.In s.heap) (I : ObjM s.heap x dx C mA) (hg : PySem.W.plainGet K C name = true) (hh : PySem.W.hasDictIn K C = true)
    (ha : PySem.W.findIn K (.ref C) name = some none) (hv : mA name = some v) (hv' : PySem.W.handedIn v = true) (h : Q v { s with toks := s.toks + 1 }) :
    wpAny (model prog w) A (getAttr (.ref x) name expr) Q E s := by
  obtain ⟨od, J, hl⟩ := I.look
  exact PySem.W.get_value X J (PySem.W.plainGet_of hg).1 (PySem.W.findObj_own hh ha rfl (by rw [hl, hv])) hv' h

theorem get_meth {pl : Sem Bool} {Q : Value × List Value → Shared → Prop} (X : K.In s.heap) (I : ObjM s.heap x dx C mA) (hg : PySem.W.plainGet K C name = true)
    (hf : PySem.W.findIn K (.ref C) name = some (some (.ref f))) (ht : PySem.W.isFn K (.ref f) = true) (hv : mA name = none) (h : Q (.ref f, [.ref x]) s) :
    wpAny (model prog w) A (getMethod (.ref x) name pl) Q E s := by
  obtain ⟨od, J, hl⟩ := I.look
  exact PySem.W.method_fn X J (PySem.W.plainGet_of hg).1 (PySem.W.plainGet_of hg).2 hf (beq_iff_eq.mp ht) (by show (PySem.W.lookIn name od).map (·.isSome) = some false; rw [hl, hv]; rfl) h

theorem set_map {ns : List Str} {Q : Unit → Shared → Prop} (X : K.In s.heap) (I : ObjM s.heap x dx C mA)
    (hs : PySem.W.findIn K (.ref C) "__setattr__" = some (some (.builtin "object.__setattr__"))) (hp : PySem.W.plainOver K C = true) (ht : PySem.W.takerIn K C name = some none) (hh : PySem.W.hasDictIn K C = true)
    (hw : PySem.Within mA ns) (hsz : ns.length ≤ sizeLine)
    (h : ∀ h', ObjM h' x dx C (fun y => if y = name then some v else mA y) → Heap.SameBut dx s.heap h' → Q () { s with heap := h', toks := s.toks + 2 }) :
    wpAny (model prog w) A (setAttr (.ref x) name v) Q E s := by
  obtain ⟨od, J, hl⟩ := I.look
  refine PySem.W.set_plain X J hs (PySem.W.osa_open (s := { s with toks := s.toks + 1 }) (r := none) X J hp ht fun b => ?_)
  obtain ⟨cd, hc, hd'⟩ := PySem.W.any_some hh
  have hx : s.heap.get? x = some ⟨.ref C, some dx, .plain, #[]⟩ := I.obj
  refine wpAny_bind (wpAny_pure (wpAny_bind (wpAny_bind (wpAny_loadPart hx (wpAny_bind (PySem.W.Looks.here (s := { s with toks := s.toks + 1 }) (PySem.W.looks_clsIn X hc) ?_))))))
  rw [hd']
  refine wpAny_pure (a := some dx) (wpAny_bind (wpAny_pure (wpAny_bind ?_)))
  refine wpAny_nsSet1 (s := { s with toks := s.toks + 1 }) I.ns fun h' hn2 hs2 => ?_
  obtain ⟨oD, esD, epD, hoD, hdD, hcD⟩ := hn2.count (PySem.Within.cons name v hw)
  refine wpAny_bind (wpAny_lookBehind hoD (by rw [hdD]; exact pastItsLine_dict (Nat.le_trans hcD (by rw [List.length_cons]; omega))) ?_)
  exact wpAny_pure (h _ ⟨(hs2.2 _ (Ne.symm I.ne)).trans I.obj, hn2, I.ne⟩ hs2)

theorem make_map {R : Result → Shared → Prop} {vs : List Value} {kw : List (Str × Value)} (X : K.In s.heap) (hm : PySem.W.makesIn K C = true)
    (hi : PySem.W.findIn K (.ref C) "__init__" = some (some (.ref f))) (hf : PySem.W.typeIn K (.ref f) = some (.type "function"))
    (h : codeAny (model prog w) (A.under (.builtin "type.__call__" ⟨.ref C :: vs, kw⟩)) (.call (.ref f) ⟨.ref (s.heap.objs.size + 1) :: vs, kw⟩) (PySem.W.InitBack (s.heap.objs.size + 1) R)
      { s with heap := (s.heap.push PySem.W.emptyDict).push (PySem.W.instObj C s.heap.objs.size) }) :
    codeAny (model prog w) A (.call (.ref C) ⟨vs, kw⟩) R s := by
  obtain ⟨hh, g, d, t, os⟩ := s
  exact PySem.W.make_core (PySem.W.makes_of X hm) (PySem.W.looks_findIn X hi) (fun self => PySem.W.bind_fn X self hf) (.inl rfl) h
end

def putF (f : Str) (v : V) : List (Str × V) → List (Str × V)
  | [] => [(f, v)]
  | (g, x) :: r => if g = f then (g, v) :: r else (g, x) :: putF f v r
theorem lookup_putF (f g : Str) (v : V) : ∀ fs : List (Str × V), (putF f v fs).lookup g = if g = f then some v else fs.lookup g
  | [] => by
    show List.lookup g [(f, v)] = _
    by_cases h : g = f
    · have hb : (g == f) = true := beq_iff_eq.mpr h
      simp only [List.lookup, hb, if_pos h]
    · have hb : (g == f) = false := beq_eq_false_iff_ne.mpr h
      simp only [List.lookup, hb, if_neg h]
  | (k, x) :: r => by
    have ih := lookup_putF f g v r
    rw [show putF f v ((k, x) :: r) = (if k = f then (k, v) :: r else (k, x) :: putF f v r) from rfl]
    by_cases hk : k = f
    · rw [if_pos hk]
      by_cases h : g = k
      · have hb : (g == k) = true := beq_iff_eq.mpr h
        simp only [List.lookup, hb, if_pos (h.trans hk)]
      · have hb : (g == k) = false := beq_eq_false_iff_ne.mpr h
        simp only [List.lookup, hb, if_neg (fun e : g = f => h (e.trans hk.symm))]
    · rw [if_neg hk]
      by_cases h : g = k
      · have hb : (g == k) = true := beq_iff_eq.mpr h
        simp only [List.lookup, hb, if_neg (fun e : g = f => hk (h.symm.trans e))]
      · have hb : (g == k) = false := beq_eq_false_iff_ne.mpr h
        simp only [List.lookup, hb]
        exact ih
theorem keys_putF (f : Str) (v : V) : ∀ fs : List (Str × V), f ∈ (putF f v fs).map (·.1) ∧ ∀ g, g ∈ fs.map (·.1) → g ∈ (putF f v fs).map (·.1)
  | [] => ⟨by simp [putF], fun g h => by simp at h⟩
  | (k, x) :: r => by
    obtain ⟨i1, i2⟩ := keys_putF f v r
    rw [show putF f v ((k, x) :: r) = (if k = f then (k, v) :: r else (k, x) :: putF f v r) from rfl]
    by_cases hk : k = f
    · rw [if_pos hk]
      subst hk
      exact ⟨by simp, fun g h => by simpa using h⟩
    · rw [if_neg hk]
      refine ⟨?_, fun g h => ?_⟩
      · rw [List.map_cons]
        exact List.mem_cons_of_mem _ i1
      · rw [List.map_cons] at h ⊢
        rcases List.mem_cons.mp h with e | e
        · exact List.mem_cons.mpr (.inl e)
        · exact List.mem_cons_of_mem _ (i2 g e)
theorem length_putF (f : Str) (v : V) : ∀ fs : List (Str × V), (putF f v fs).length ≤ fs.length + 1
  | [] => by simp [putF]
  | (k, x) :: r => by
    have ih := length_putF f v r
    rw [show putF f v ((k, x) :: r) = (if k = f then (k, v) :: r else (k, x) :: putF f v r) from rfl]
    by_cases hk : k = f
    · rw [if_pos hk, List.length_cons, List.length_cons]; omega
    · rw [if_neg hk, List.length_cons, List.length_cons]; omega

theorem RelO.some_of {v : V} {o : Option Value} (r : RelO (some v) o) : ∃ u, o = some u ∧ RelV v u := by
  cases o with
  | none => exact (show False from r).elim
  | some u => exact ⟨u, rfl, r⟩
theorem RelO.none_of {o : Option Value} (r : RelO none o) : o = none := by
  cases o with
  | none => rfl
  | some u => exact (show False from r).elim
theorem handed_of {v : V} {u : Value} (r : RelV v u) : PySem.W.handedIn u = true := by
  cases v with
  | non => cases (show u = Value.none from r); rfl
  | bl b => cases (show u = Value.bool b from r); rfl
  | int i => obtain ⟨t, e⟩ := (show ∃ t, u = Value.int i t from r); cases e; rfl
  | str x => obtain ⟨t, e⟩ := (show ∃ t, u = Value.str x t from r); cases e; rfl
  | byt b => obtain ⟨t, e⟩ := (show ∃ t, u = Value.bytes b t from r); cases e; rfl
  | flt b => obtain ⟨t, e⟩ := (show ∃ t, u = Value.float b t from r); cases e; rfl
  | ref a => cases (show u = Value.ref a from r); rfl
  | ty n => cases (show u = Value.type n from r); rfl

section
variable {P : Program} {w : World} {H H' : Hp} {h h' : Heap} {a C dx : Addr} {fs fs' : List (Str × V)}
theorem ins_get (hok : HOk P w H h) (e : H a = some (.ins C dx fs)) : ∃ mA, ObjM h a dx C mA ∧ (∀ f, RelO (fs.lookup f) (mA f)) ∧ PySem.Within mA (fs.map (·.1)) ∧ fs.length ≤ 1000 ∧ H dx = some (.own a) := by
  obtain ⟨d, z, ne, ob, mA, n, r, q⟩ := (show ObjOk P w H h a (.ins C dx fs) from hok a _ e)
  exact ⟨mA, ⟨ob, n, ne⟩, r, q, z, d⟩
end

structure Cls (K : PySem.W.Frag) (C : Addr) : Prop where
  pg : PySem.W.plainGet K C Str.empty = true
  hd : PySem.W.hasDictIn K C = true
  po : PySem.W.plainOver K C = true
  sa : PySem.W.findIn K (.ref C) "__setattr__" = some (some (.builtin "object.__setattr__"))
theorem Cls.get {K : PySem.W.Frag} {C : Addr} (c : Cls K C) (f : Str) : PySem.W.plainGet K C f = true := c.pg
def NoAttr (K : PySem.W.Frag) (C : Addr) (f : Str) : Prop := PySem.W.findIn K (.ref C) f = some none
theorem NoAttr.taker {K : PySem.W.Frag} {C : Addr} {f : Str} (n : NoAttr K C f) : PySem.W.takerIn K C f = some none := by
  unfold PySem.W.takerIn
  rw [show PySem.W.findIn K (.ref C) f = some none from n]
  rfl
structure Con (K : PySem.W.Frag) (C : Addr) (f : Str) (v : V) (u : Value) : Prop where
  at_ : PySem.W.findIn K (.ref C) f = some (some u)
  rel : RelV v u
  get : PySem.W.specialIn K u "__get__" = some none
  cp : PySem.W.copiedNames.contains f = false
structure Meth (K : PySem.W.Frag) (C : Addr) (m : Str) (f : Addr) : Prop where
  at_ : PySem.W.findIn K (.ref C) m = some (some (.ref f))
  fn : PySem.W.isFn K (.ref f) = true
  kp : PySem.W.keepIn K (.ref f) = true

section
variable {X : Cx} {pins : List (Addr × Obj)} {σ : St} {H : Hp} {s : Shared} {a C dx : Addr} {fs : List (Str × V)} {f : Str} {v : V} {A : Around} {E : Value → Shared → Prop}

theorem getattr_ok {b : Bool} {Q : Value → Shared → Prop} (I : Inv X pins σ H s) (e : H a = some (.ins C dx fs)) (c : Cls X.K C) (n : NoAttr X.K C f) (l : fs.lookup f = some v)
    (h : ∀ u s', Inv X pins σ H s' → RelV v u → Q u s') : wpAny (model X.prog X.w) A (getAttr (.ref a) f b) Q E s := by
  obtain ⟨mA, O, r, _, _, _⟩ := ins_get I.hok e
  obtain ⟨u, hu, ru⟩ := RelO.some_of (v := v) (o := mA f) (by rw [← l]; exact r f)
  exact get_map I.kIn O (c.get f) c.hd n hu (handed_of ru) (h u _ (I.tok _) ru)

theorem getmeth_ok {m : Str} {g : Addr} {pl : Sem Bool} {Q : Value × List Value → Shared → Prop} (I : Inv X pins σ H s) (e : H a = some (.ins C dx fs)) (c : Cls X.K C) (k : Meth X.K C m g) (l : fs.lookup m = none)
    (h : Q (.ref g, [.ref a]) s) : wpAny (model X.prog X.w) A (getMethod (.ref a) m pl) Q E s := by
  obtain ⟨mA, O, r, _, _, _⟩ := ins_get I.hok e
  have hn : mA m = none := RelO.none_of (by rw [← l]; exact r m)
  exact get_meth I.kIn O (c.get m) k.at_ k.fn hn h

theorem setattr_ok {y : V} {u : Value} {Q : Unit → Shared → Prop} (I : Inv X pins σ H s) (e : H a = some (.ins C dx fs)) (c : Cls X.K C) (n : NoAttr X.K C f) (hl : fs.length < 1000) (ry : RelV y u)
    (h : ∀ s', Inv X pins σ (upd H a (.ins C dx (putF f y fs))) s' → Q () s') : wpAny (model X.prog X.w) A (setAttr (.ref a) f u) Q E s := by
  obtain ⟨mA, O, r, wi, _, ho⟩ := ins_get I.hok e
  have hz : (fs.map (·.1)).length ≤ sizeLine := by rw [List.length_map, sizeLine_eq]; omega
  refine set_map I.kIn O c.sa c.po n.taker c.hd wi hz fun h' O' sb => h _ ?_
  have hd : ∃ o, h'.get? dx = some o := let ⟨o, _, _, e', _⟩ := O'.ns; ⟨o, e'⟩
  refine I.write (x := a) (e := dx) (by rw [e]; exact True.intro) (.inr ho) (fun b q hb z => (sb.2 b hb).trans z) hd ?_
  refine ⟨by rw [upd_ne O.ne]; exact ho, ?_, O.ne, O'.obj, _, O'.ns, fun g => ?_, fun g hg => ?_⟩
  · have := length_putF f y fs; omega
  · show RelO ((putF f y fs).lookup g) (if g = f then some u else mA g)
    rw [lookup_putF]
    by_cases q : g = f
    · rw [if_pos q, if_pos q]; exact ry
    · rw [if_neg q, if_neg q]; exact r g
  · by_cases q : g = f
    · rw [q]; exact (keys_putF f y fs).1
    · refine (keys_putF f y fs).2 g (wi g fun z => hg ?_)
      show (if g = f then some u else mA g) = none
      rw [if_neg q]; exact z

theorem Inv.made (I : Inv X pins σ H s) : Inv X pins σ (upd (upd H s.heap.objs.size (.own (s.heap.objs.size + 1))) (s.heap.objs.size + 1) (.ins C s.heap.objs.size []))
    { s with heap := (s.heap.push PySem.W.emptyDict).push (PySem.W.instObj C s.heap.objs.size) } := by
  have e1 : (s.heap.push PySem.W.emptyDict).get? s.heap.objs.size = some PySem.W.emptyDict := Heap.get?_push_size s.heap rfl
  have e2 : ((s.heap.push PySem.W.emptyDict).push (PySem.W.instObj C s.heap.objs.size)).get? (s.heap.objs.size + 1) = some (PySem.W.instObj C s.heap.objs.size) := by
    have := Heap.get?_push_size (s.heap.push PySem.W.emptyDict) (o := PySem.W.instObj C s.heap.objs.size) rfl
    rwa [Heap.size_push] at this
  have e3 : (s.heap.push PySem.W.emptyDict).Ns s.heap.objs.size (fun _ => none) := ⟨PySem.W.emptyDict, #[], _, e1, rfl, (fun e he => absurd he (by simp)), fun _ => rfl⟩
  have I1 := I.laid (a := s.heap.objs.size) (o := .own (s.heap.objs.size + 1)) (h' := s.heap.push PySem.W.emptyDict) (t' := s.toks) (fun b u q => Heap.get?_push_of_some _ q) (Nat.le_refl _) ⟨_, e1⟩
  refine I1.laid (a := s.heap.objs.size + 1) (o := .ins C s.heap.objs.size []) (t' := s.toks) (fun b u q => Heap.get?_push_of_some _ q) (Nat.le_of_eq (Heap.size_push _ _)) ?_
  have ne : s.heap.objs.size ≠ s.heap.objs.size + 1 := Nat.ne_of_lt (Nat.lt_succ_self _)
  refine ⟨by rw [upd_ne ne, upd_same], Nat.zero_le _, ne, e2, fun _ => none, (Heap.Ns1.of_empty e3).at fun o q => Heap.get?_push_of_some _ q, fun _ => True.intro, fun y hy => absurd rfl hy⟩

theorem attr_of {prog : Program} {w : World} {env : Env} {e : Expr} {f : Str} {pos : Pos} {s : Shared} {Q : Value → Shared → Prop} (hb : attributeBase e f env (eval e env) = eval e env)
    (h : wpAny (model prog w) A (eval e env) (fun o s₁ => wpAny (model prog w) A (getAttr o f true) Q E s₁) E s) : wpAny (model prog w) A (eval (.Attribute e f pos) env) Q E s :=
  Attribute_any_ h (by rw [arm_eval_Attribute, hb])
end

def tFld (K : PySem.W.Frag) (ta : TE) (f : Str) : TE := fun σ H Q => ta σ H fun x H1 => ∃ a C dx fs v, x = .ref a ∧ H1 a = some (.ins C dx fs) ∧ Cls K C ∧ NoAttr K C f ∧ fs.lookup f = some v ∧ Q v H1
def sFld (K : PySem.W.Frag) (ta tv : TE) (f : Str) : TS := fun D σ H => tv σ H fun y H1 => ta σ H1 fun x H2 => ∃ a C dx fs, x = .ref a ∧ H2 a = some (.ins C dx fs) ∧ Cls K C ∧ NoAttr K C f ∧ fs.length < 1000 ∧
  D.nx σ (upd H2 a (.ins C dx (putF f y fs)))
section
variable {X : Cx} {o e value : Expr} {f : Str} {pos pos' tpos : Pos} {ta tv : TE}
theorem pe_fld (he : PE X e ta) (hb : attributeBase e f X.env (eval e X.env) = eval e X.env) : PE X (.Attribute e f pos) (tFld X.K ta f) := by
  intro pins s σ H Q I h
  refine attr_of hb (thn (he pins s σ H _ I h) fun u s1 ⟨x, H1, I1, rx, a, C, dx, fs, v, ex, ea, c, n, l, q⟩ => ?_)
  subst ex
  obtain rfl : u = Value.ref a := rx
  exact getattr_ok I1 ea c n l fun u' s2 I2 ru => ⟨v, H1, I2, ru, q⟩
theorem ps_fld (ha : PE X o ta) (hv : PE X value tv) (hs : swapsWith value (some (.Attribute o f pos')) pos.line X.env = pure false) : PS X (.Assign [.Attribute o f pos'] value pos) (sFld X.K ta tv f) := by
  intro pins s σ H D I h
  refine plainObj_wpAny_Assign_Attribute (thn (hv pins s σ H _ I h) fun u s1 ⟨y, H1, I1, ry, q⟩ => thn (ha pins s1 σ H1 _ I1 q) fun ov s2 ⟨x, H2, I2, rx, a, C, dx, fs, ex, ea, c, n, l, q2⟩ => ?_) hs
  subst ex
  obtain rfl : ov = Value.ref a := rx
  exact setattr_ok I2 ea c n l ry fun s3 I3 => ⟨σ, _, I3, q2⟩
end

section
variable {X : Cx} {pins : List (Addr × Obj)} {σ : St} {H : Hp} {s : Shared} {A : Around} {E : Value → Shared → Prop} {Q : Value → Shared → Prop} {c : Value} {b : Bool}
inductive TyOf (K : PySem.W.Frag) (H : Hp) : V → Value → Prop where
  | non : TyOf K H .non (.type "NoneType")
  | bl (x : Bool) : TyOf K H (.bl x) (.type "bool")
  | int (i : Int) : TyOf K H (.int i) (.type "int")
  | str (x : Str) : TyOf K H (.str x) (.type "str")
  | flt (x : UInt64) : TyOf K H (.flt x) (.type "float")
  | lst {a : Addr} {xs : List V} (e : H a = some (.lst xs)) : TyOf K H (.ref a) (.type "list")
  | frz {a : Addr} {o : Obj} {xs : List V} (e : H a = some (.frz o (.lst xs))) : TyOf K H (.ref a) (.type "list")
  | tup {a : Addr} {xs : List V} (e : H a = some (.tup xs)) : TyOf K H (.ref a) (.type "tuple")
  | dK {a : Addr} {kvs : List (Key × V)} (e : H a = some (.dK kvs)) : TyOf K H (.ref a) (.type "dict")
  | dT {a : Addr} {kvs : List (List Key × V)} (e : H a = some (.dT kvs)) : TyOf K H (.ref a) (.type "dict")
  | ins {a C dx : Addr} {fs : List (Str × V)} (e : H a = some (.ins C dx fs)) (cl : Cls K C) (ha : PySem.W.findIn K (.ref C) "__class__" = some (some (.builtin "object.__class__")))
      (hn : PySem.W.specialIn K (.builtin "object.__class__") "__get__" = some (some (.builtin "getset_descriptor.__get__"))) (htk : PySem.W.takesIn K (.builtin "object.__class__") = some true)
      (hm : PySem.W.mroIn K C (.type "object") = some true) : TyOf K H (.ref a) (.ref C)
theorem isinst_ok {x : V} {u t : Value} (I : Inv X pins σ H s) (rx : RelV x u) (ty : TyOf X.K H x t) (e : PySem.W.kitOne X.K t c = some b) (h : ∀ tk, Q (.bool b) { s with toks := tk }) :
    wpAny (model X.prog X.w) A (call (.builtin "isinstance") [u, c]) Q E s := by
  cases ty with
  | non => cases (show u = Value.none from rx); exact PySem.W.kia_one PySem.W.kitx_none I.kIn True.intro e (fun z => nomatch z) h
  | bl y => cases (show u = Value.bool y from rx); exact PySem.W.kia_one PySem.W.kitx_bool I.kIn True.intro e (fun z => nomatch z) h
  | int i => obtain ⟨t, q⟩ := (show ∃ t, u = Value.int i t from rx); cases q; exact PySem.W.kia_one PySem.W.kitx_int I.kIn True.intro e (fun z => nomatch z) h
  | str y => obtain ⟨t, q⟩ := (show ∃ t, u = Value.str y t from rx); cases q; exact PySem.W.kia_one PySem.W.kitx_str I.kIn True.intro e (fun z => nomatch z) h
  | flt y => obtain ⟨t, q⟩ := (show ∃ t, u = Value.float y t from rx); cases q; exact PySem.W.kia_one PySem.W.kitx_float I.kIn True.intro e (fun z => nomatch z) h
  | @lst a xs ea =>
    cases (show u = Value.ref a from rx)
    obtain ⟨_, _, n, _, h1⟩ := (show ObjOk X.prog X.w H s.heap a (.lst xs) from I.hok a _ ea)
    exact PySem.W.kia_one PySem.W.kitx_list I.kIn ⟨_, h1, rfl⟩ e (fun z => nomatch z) h
  | @frz a ob xs ea =>
    cases (show u = Value.ref a from rx)
    obtain ⟨_, _, _, n, _, h1⟩ := (show ObjOk X.prog X.w H s.heap a (.frz ob (.lst xs)) from I.hok a _ ea)
    exact PySem.W.kia_one PySem.W.kitx_list I.kIn ⟨_, h1, rfl⟩ e (fun z => nomatch z) h
  | @tup a xs ea =>
    cases (show u = Value.ref a from rx)
    obtain ⟨_, _, _, p⟩ := (show ObjOk X.prog X.w H s.heap a (.tup xs) from I.hok a _ ea)
    obtain ⟨o, h1, h2, _⟩ := p
    exact PySem.W.kia_one PySem.W.kitx_tuple I.kIn ⟨o, h1, h2⟩ e (fun z => nomatch z) h
  | @dK a kvs ea =>
    cases (show u = Value.ref a from rx)
    obtain ⟨_, _, vs, _, p⟩ := (show ObjOk X.prog X.w H s.heap a (.dK kvs) from I.hok a _ ea)
    obtain ⟨o, es, ep, h1, h2, _⟩ := p
    exact PySem.W.kia_one PySem.W.kitx_dict I.kIn ⟨o, h1, h2.1⟩ e (fun z => nomatch z) h
  | @dT a kvs ea =>
    cases (show u = Value.ref a from rx)
    obtain ⟨_, _, xs, _, o, es, ep, h1, h2, _⟩ := (show ObjOk X.prog X.w H s.heap a (.dT kvs) from I.hok a _ ea)
    exact PySem.W.kia_one PySem.W.kitx_dict I.kIn ⟨o, h1, h2.1⟩ e (fun z => nomatch z) h
  | @ins a C dx fs ea cl ha hn htk hm =>
    cases (show u = Value.ref a from rx)
    obtain ⟨mA, O, _⟩ := ins_get I.hok ea
    obtain ⟨od, J, _⟩ := O.look
    exact PySem.W.kia_one (PySem.W.kitx_own (cl.get _) cl.hd ha hn htk hm) I.kIn J e (fun z => nomatch z) h
end
end L2

namespace L2
open PySem PySem.Spec PyProof.Rows

structure Room (k : Nat) (A : Around) : Prop where
  hd : A.handled = none
  dp : A.depth + 3 * k + 5 < recursionLimit
  un : A.units + 16 * k + 200 < cLine
theorem Room.mono {j k : Nat} {A : Around} (r : Room k A) (h : j ≤ k) : Room j A := ⟨r.hd, by have := r.dp; omega, by have := r.un; omega⟩
theorem Room.deeper {k : Nat} {A : Around} (r : Room (k + 1) A) (env : Env) : Room k (A.deeper env) :=
  ⟨r.hd, by have := r.dp; show A.depth + 1 + 3 * k + 5 < _; omega, by have := r.un; show A.units + 3 + 16 * k + 200 < _; omega⟩
theorem make_depth {A : Around} {C : Addr} {us : List Value} {kw : List (Str × Value)} : (A.under (.builtin "type.__call__" ⟨.ref C :: us, kw⟩)).depth = A.depth + 1 := by
  first | rfl | simp [Around.under, Code.weight, Code.isCreation, Code.isGuard, Code.isCaller, Code.frames, Code.isFrame, guardIds]
theorem make_units {A : Around} {C : Addr} {us : List Value} {kw : List (Str × Value)} : (A.under (.builtin "type.__call__" ⟨.ref C :: us, kw⟩)).units = A.units + 1 := by
  first | rfl | simp [Around.under, Code.cUnits, Code.frames, Code.isFrame]
theorem Room.make {k : Nat} {A : Around} (r : Room (k + 1) A) (C : Addr) (us : List Value) (kw : List (Str × Value)) : Room k (A.under (.builtin "type.__call__" ⟨.ref C :: us, kw⟩)) :=
  ⟨r.hd, by have := r.dp; rw [make_depth]; omega, by have := r.un; rw [make_units]; omega⟩
theorem Room.depth {k : Nat} {A : Around} (r : Room k A) : A.depth < recursionLimit := by have := r.dp; omega
theorem Room.units {k : Nat} {A : Around} (r : Room k A) : A.units + 64 < cLine := by have := r.un; omega
def tNil : TA := fun _ H Q => Q [] H
def tCons (ta : TE) (tr : TA) : TA := fun σ H Q => ta σ H fun x H1 => tr σ H1 fun xs H2 => Q (x :: xs) H2
section
variable {X : Cx} {e : Expr} {es : List Expr} {te : TE} {t : TA} {pos : Pos}
theorem pa_nil : PA X [] tNil := fun _ _ _ _ H Q I h => Calls.spliced_nil ⟨[], H, I, .nil, h⟩
theorem pa_cons (ha : PE X e te) (hr : PA X es t) (hs : starEach (e :: es) X.env = (false, eval e X.env) :: starEach es X.env := by rfl) : PA X (e :: es) (tCons te t) := by
  intro pos pins s σ H Q I h
  rw [hs]
  show wpAny _ _ (spliced ((false, eval e X.env) :: backTo pos (starEach es X.env))) _ _ s
  refine Calls.spliced_cons (thn (ha pins s σ H _ I h) fun u s1 ⟨x, H1, I1, r1, q1⟩ => ?_)
  exact thn (hr pos pins s1 σ H1 _ I1 q1) fun us s2 ⟨xs, H2, I2, r2, q2⟩ => ⟨x :: xs, H2, I2, .cons r1 r2, q2⟩

def tTup (t : TA) : TE := fun σ H Q => t σ H fun xs H1 => xs.length ≤ sizeLine ∧ ∀ p, H1 p = none → Q (.ref p) (upd H1 p (.tup xs))
def tLst (t : TA) : TE := fun σ H Q => t σ H fun xs H1 => xs.length ≤ sizeLine ∧ ∀ p, H1 p = none → Q (.ref p) (upd H1 p (.lst xs))
theorem pe_tup {x1} (h : PA X es t) : PE X (.Tuple es x1 pos) (tTup t) := by
  intro pins s σ H Q I hq
  refine wpAny_Tuple_spliced (thn (h pos pins s σ H _ I hq) fun us s1 ⟨xs, H1, I1, r, z, q⟩ => ⟨by rw [← r.length]; exact z, ?_⟩)
  have hf : H1 s1.heap.objs.size = none := I1.hok.fresh (Nat.le_refl _)
  refine ⟨.ref s1.heap.objs.size, upd H1 s1.heap.objs.size (.tup xs), I1.laid (t' := s1.toks) (fun b u e => Heap.get?_push_of_some _ e) (Nat.le_refl _) ?_, rfl, q _ hf⟩
  exact ⟨z, us, r, ⟨_, Heap.get?_push_size _ rfl, rfl, _, rfl, rfl⟩⟩
theorem pe_lst (h : PA X es t) : PE X (.List es pos) (tLst t) := by
  intro pins s σ H Q I hq
  refine wpAny_List_spliced (thn (h pos pins s σ H _ I hq) fun us s1 ⟨xs, H1, I1, r, z, q⟩ => ⟨by rw [← r.length]; exact z, ?_⟩)
  have hf : H1 s1.heap.objs.size = none := I1.hok.fresh (Nat.le_refl _)
  refine ⟨.ref s1.heap.objs.size, upd H1 s1.heap.objs.size (.lst xs), I1.laid (t' := s1.toks) (fun b u e => Heap.get?_push_of_some _ e) (Nat.le_refl _) ?_, rfl, q _ hf⟩
  exact ⟨z, us, 0, r, Heap.get?_push_size _ rfl⟩
end

abbrev Sp := List V → Hp → VK → XK → Prop
abbrev CXT := List Env → Hp → Shared → XK → Value → Shared → Prop

structure Env0 (P : Program) (w : World) (K : PySem.W.Frag) (mg : Str → Option Value) (base : Heap) (A : Around) (outer : List Env) (s : Shared) (H : Hp) : Prop where
  frames : A.frames = some outer
  mod : Mod K mg base
  bs : ∀ b o, base.get? b = some o → s.heap.get? b = some o ∧ H b = none
  bsz : base.objs.size ≤ s.heap.objs.size
  funs : s.heap.FunFrames base outer
  frf : ∀ b ∈ frs outer, H b = none
  hok : HOk P w H s.heap
  bare : AllBare s.gens
def CE (outer : List Env) (P : Program) (w : World) (H : Hp) (s : Shared) (Q : VK) (u : Value) (s' : Shared) : Prop :=
  ∃ v H', s'.os = s.os ∧ AllBare s'.gens ∧ Un (frs outer) [] H H' s.heap s'.heap ∧ HOk P w H' s'.heap ∧ RelV v u ∧ Q v H'
def CR (CX : CXT) (outer : List Env) (P : Program) (w : World) (H : Hp) (s : Shared) (Q : VK) (E : XK) (r : Result) (s' : Shared) : Prop :=
  match r with
  | .ok (.ret u) => CE outer P w H s Q u s'
  | .ok _ => False
  | .error e => CX outer H s E e s'
structure FnOk (P : Program) (w : World) (K : PySem.W.Frag) (mg : Str → Option Value) (base : Heap) (CX : CXT) (k : Nat) (f : Addr) (fd : FuncData) (ps : List Str) (sp : Sp) : Prop where
  len : ∀ vs H Q E, sp vs H Q E → vs.length = ps.length
  run : ∀ (A : Around) (outer : List Env) (s : Shared) (H : Hp) (args : Args) (us : List Value) (vs : List V) (Q : VK) (E : XK), Room k A → Env0 P w K mg base A outer s H → BindsTo s fd args (ps.zip us) → Vals vs us → sp vs H Q E →
    codeAny (model P w) A (.call (.ref f) args) (CR CX outer P w H s Q E) s
theorem FnOk.imp {P : Program} {w : World} {K : PySem.W.Frag} {mg : Str → Option Value} {base : Heap} {CX : CXT} {k : Nat} {f : Addr} {fd : FuncData} {ps : List Str} {sp sp' : Sp} (F : FnOk P w K mg base CX k f fd ps sp)
    (h : ∀ vs H Q E, sp' vs H Q E → sp vs H Q E) : FnOk P w K mg base CX k f fd ps sp' :=
  ⟨fun vs H Q E q => F.len vs H Q E (h _ _ _ _ q), fun A outer s H args us vs Q E hr he hb hv hs => F.run A outer s H args us vs Q E hr he hb hv (h _ _ _ _ hs)⟩

theorem Env0.make {P : Program} {w : World} {K : PySem.W.Frag} {mg : Str → Option Value} {base : Heap} {A : Around} {outer : List Env} {s : Shared} {H : Hp} (e : Env0 P w K mg base A outer s H) (C : Addr) (us : List Value) (kw : List (Str × Value)) :
    Env0 P w K mg base (A.under (.builtin "type.__call__" ⟨.ref C :: us, kw⟩)) outer s H := ⟨by first | exact e.frames | (simpa [Around.under, Code.envs, Code.isFrame, pushEnvs] using e.frames), e.mod, e.bs, e.bsz, e.funs, e.frf, e.hok, e.bare⟩
section
variable {X : Cx} {pins : List (Addr × Obj)} {σ : St} {H : Hp} {s s' : Shared}
theorem Inv.env0 (I : Inv X pins σ H s) : Env0 X.prog X.w X.K X.mg X.base X.A X.stack s H :=
  ⟨I.ok.frames, I.ok.mod, I.bs, Nat.le_trans I.ok.bsz I.sz, I.stack, I.stkFree, I.hok, I.bare⟩
theorem Inv.after {Q : VK} {u : Value} (I : Inv X pins σ H s) (h : CE X.stack X.prog X.w H s Q u s') : EP X pins σ Q u s' := by
  obtain ⟨v, H', os, bare, un, hok, r, q⟩ := h
  obtain ⟨hh, g, d, t, os'⟩ := s'
  obtain rfl : os' = s.os := os
  exact ⟨v, H', I.call (h' := hh) (g' := g) (d' := d) (t' := t) (ch := []) un hok bare (fun b z => absurd z (by simp)), r, q⟩
end

def tCall (sp : Sp) (dvs : List V) (E : XK) (t : TA) : TE := fun σ H Q => t σ H fun vs H1 => sp (vs ++ dvs) H1 Q E
def tMeth (C : Addr) (m : Str) (sp : Sp) (dvs : List V) (E : XK) (ta : TE) (t : TA) : TE := fun σ H Q => ta σ H fun x H1 => ∃ a dx fs, x = .ref a ∧ H1 a = some (.ins C dx fs) ∧ fs.lookup m = none ∧
  t σ H1 fun vs H2 => sp (x :: (vs ++ dvs)) H2 Q E
def tMake (C : Addr) (sp : Sp) (dvs : List V) (E : XK) (t : TA) : TE := fun σ H Q => t σ H fun vs H1 => ∀ x dx, H1 x = none → H1 dx = none → dx ≠ x →
  sp (.ref x :: (vs ++ dvs)) (upd (upd H1 dx (.own x)) x (.ins C dx [])) (fun v H2 => v = .non ∧ Q (.ref x) H2) E

def Binds (K : PySem.W.Frag) (fd : FuncData) (ps : List Str) (ds : List Value) : Prop :=
  ∀ (s : Shared) (us : List Value), K.In s.heap → (us ++ ds).length = ps.length → BindsTo s fd ⟨us, []⟩ (ps.zip (us ++ ds))
theorem Binds.all {K : PySem.W.Frag} {fd : FuncData} {ps : List Str} (h : ∀ us : List Value, us.length = ps.length → bindArgs fd ⟨us, []⟩ = pure (ps.zip us)) : Binds K fd ps [] := fun s us _ hl => by
  rw [List.append_nil] at hl ⊢
  exact .of_eq (h us hl)

def Passes (CX : CXT) (X : Cx) (E : XK) : Prop := ∀ (pins : List (Addr × Obj)) (σ : St) (H : Hp) (s : Shared) (e : Value) (s' : Shared), Inv X pins σ H s → CX X.stack H s E e s' → X.xe e s'

section
variable {X : Cx} {CX : CXT} {k : Nat} {f C : Addr} {fd : FuncData} {ps : List Str} {sp : Sp} {dvs : List V} {ds : List Value} {E : XK} {x m : Str} {p pos apos : Pos} {e o : Expr} {es : List Expr} {ta : TE} {t : TA}

theorem run_fn {pins : List (Addr × Obj)} {σ : St} {H : Hp} {s : Shared} {Q : VK} {us : List Value} {vs : List V} (F : FnOk X.prog X.w X.K X.mg X.base CX k f fd ps sp) (hr : Room k X.A) (hb : Binds X.K fd ps ds) (hd : Vals dvs ds) (hx : Passes CX X E)
    (I : Inv X pins σ H s) (r : Vals vs us) (h : sp (vs ++ dvs) H Q E) : wpAny (model X.prog X.w) X.A (call (.ref f) us) (EP X pins σ Q) X.xe s := by
  have r2 : Vals (vs ++ dvs) (us ++ ds) := r.append hd
  have hl : (us ++ ds).length = ps.length := by rw [← r2.length]; exact F.len _ _ _ _ h
  refine wpAny_call (codeAny_mono (F.run X.A X.stack s H ⟨us, []⟩ (us ++ ds) (vs ++ dvs) Q E hr I.env0 (hb s us I.kIn hl) r2 h) fun r s' hq => ?_)
  cases r with
  | error e => exact hx pins σ H s e s' I hq
  | ok fl =>
    cases fl with
    | ret u => exact I.after hq
    | next => exact False.elim hq
    | brk => exact False.elim hq
    | cont => exact False.elim hq

theorem pe_call (F : FnOk X.prog X.w X.K X.mg X.base CX k f fd ps sp) (hr : Room k X.A) (hg : Gl X x) (hm : X.mg x = some (.ref f)) (hk : PySem.W.keepIn X.K (.ref f) = true) (hb : Binds X.K fd ps ds) (hd : Vals dvs ds) (hx : Passes CX X E)
    (ha : PA X (e :: es) t) (hdb : (x == ("__debug__" : Str)) = false := by decide) (he : starEach (e :: es) X.env = (false, eval e X.env) :: starEach es X.env := by rfl) (hpl : (backTo pos (starEach es X.env)).any (·.1) = false := by rfl) :
    PE X (.Call (.Name x p) (e :: es) [] pos) (tCall sp dvs E t) := by
  intro pins s σ H Q I h
  refine wpAny_Call_Name_kw (ld_glob I hg hm ?_ hdb)
  refine PySem.W.callWith_K (h₀ := X.base) I.ok.mod.kin hk (thn (ha pos pins s σ H _ I h) fun us s1 ⟨vs, H1, I1, r, q⟩ => ⟨I1.kIn, ?_⟩) he hpl
  exact run_fn F hr hb hd hx I1 r q
theorem pe_meth {pl : Sem Bool} (he : PE X o ta) (c : Cls X.K C) (hm : Meth X.K C m f) (F : FnOk X.prog X.w X.K X.mg X.base CX k f fd ps sp) (hr : Room k X.A) (hb : Binds X.K fd ps ds) (hd : Vals dvs ds) (hx : Passes CX X E) (ha : PA X (e :: es) t)
    (hst : starEach (e :: es) X.env = (false, eval e X.env) :: starEach es X.env := by rfl) (hpl : (backTo pos (starEach es X.env)).any (·.1) = false := by rfl)
    (ht : eval (.Call (.Attribute o m apos) (e :: es) [] pos) X.env = (do
      let ov ← eval o X.env
      standAt apos.atName
      let (f, first) ← holding [ov] (getMethod ov m pl)
      callWith pos f first (backTo pos (starEach (e :: es) X.env)) (backToKw pos (keywordEach [] X.env))) := by rfl) :
    PE X (.Call (.Attribute o m apos) (e :: es) [] pos) (tMeth C m sp dvs E ta t) := by
  intro pins s σ H Q I h
  refine PySem.W.methodCall_KW (pl := pl) (thn (he pins s σ H _ I h) fun u s1 ⟨x, H1, I1, rx, a, dx, fs, ex, ea, l, q⟩ => ?_) ht
  subst ex
  obtain rfl : u = Value.ref a := rx
  refine getmeth_ok I1 ea c hm l ?_
  refine PySem.W.callWith_K (first := [.ref a]) (h₀ := X.base) I.ok.mod.kin hm.kp (thn (ha pos pins s1 σ H1 _ I1 q) fun us s2 ⟨vs, H2, I2, r, q2⟩ => ⟨I2.kIn, ?_⟩) hst hpl
  exact run_fn (us := .ref a :: us) (vs := .ref a :: vs) F hr hb hd hx I2 (.cons rfl r) q2
theorem pe_meth0 {pl : Sem Bool} (he : PE X o ta) (c : Cls X.K C) (hm : Meth X.K C m f) (F : FnOk X.prog X.w X.K X.mg X.base CX k f fd ps sp) (hr : Room k X.A) (hb : Binds X.K fd ps ds) (hd : Vals dvs ds) (hx : Passes CX X E)
    (ht : eval (.Call (.Attribute o m apos) [] [] pos) X.env = (do
      let ov ← eval o X.env
      standAt apos.atName
      let (f, first) ← holding [ov] (getMethod ov m pl)
      callWith pos f first (backTo pos (starEach [] X.env)) (backToKw pos (keywordEach [] X.env))) := by rfl) :
    PE X (.Call (.Attribute o m apos) [] [] pos) (tMeth C m sp dvs E ta tNil) := by
  intro pins s σ H Q I h
  refine PySem.W.methodCall_KW (pl := pl) (thn (he pins s σ H _ I h) fun u s1 ⟨x, H1, I1, rx, a, dx, fs, ex, ea, l, q⟩ => ?_) ht
  subst ex
  obtain rfl : u = Value.ref a := rx
  refine getmeth_ok I1 ea c hm l ?_
  exact PySem.W.callWith_K0 (first := [.ref a]) I1.kIn hm.kp (run_fn (us := [.ref a]) (vs := [.ref a]) F hr hb hd hx I1 (.cons rfl .nil) q)

structure Mk (K : PySem.W.Frag) (C f : Addr) : Prop where
  makes : PySem.W.makesIn K C = true
  init : PySem.W.findIn K (.ref C) "__init__" = some (some (.ref f))
  fn : PySem.W.isFn K (.ref f) = true
  kp : PySem.W.keepIn K (.ref C) = true

theorem run_make {pins : List (Addr × Obj)} {σ : St} {H : Hp} {s : Shared} {Q : VK} {us : List Value} {vs : List V} (M : Mk X.K C f) (F : FnOk X.prog X.w X.K X.mg X.base CX k f fd ps sp) (hr : Room (k + 1) X.A) (hb : Binds X.K fd ps ds) (hd : Vals dvs ds)
    (hx : Passes CX X E) (I : Inv X pins σ H s) (r : Vals vs us)
    (h : ∀ x dx, H x = none → H dx = none → dx ≠ x → sp (.ref x :: (vs ++ dvs)) (upd (upd H dx (.own x)) x (.ins C dx [])) (fun v H2 => v = .non ∧ Q (.ref x) H2) E) :
    wpAny (model X.prog X.w) X.A (call (.ref C) us) (EP X pins σ Q) X.xe s := by
  have hq := h (s.heap.objs.size + 1) s.heap.objs.size (I.hok.fresh (Nat.le_succ _)) (I.hok.fresh (Nat.le_refl _)) (Nat.ne_of_lt (Nat.lt_succ_self _))
  have I2 := Inv.made (C := C) I
  have r2 : Vals (V.ref (s.heap.objs.size + 1) :: (vs ++ dvs)) (Value.ref (s.heap.objs.size + 1) :: (us ++ ds)) := .cons rfl (r.append hd)
  have hl : (Value.ref (s.heap.objs.size + 1) :: us ++ ds).length = ps.length := by
    have e := r2.length
    rw [F.len _ _ _ _ hq] at e
    exact e.symm
  refine wpAny_call (make_map (f := f) I.kIn M.makes M.init (beq_iff_eq.mp M.fn) (codeAny_mono (F.run _ X.stack _ _ ⟨Value.ref (s.heap.objs.size + 1) :: us, []⟩ (Value.ref (s.heap.objs.size + 1) :: (us ++ ds)) _ _ E (hr.make C us [])
    (I2.env0.make C us []) (hb _ (Value.ref (s.heap.objs.size + 1) :: us) I2.kIn hl) r2 hq) fun r s' hq' => ?_))
  cases r with
  | error e => exact hx pins σ _ _ e s' I2 hq'
  | ok fl =>
    cases fl with
    | ret u =>
      obtain ⟨v, H', I3, rv, ev, q3⟩ := I2.after hq'
      subst ev
      exact ⟨rv, ⟨V.ref (s.heap.objs.size + 1), H', I3, rfl, q3⟩⟩
    | next => exact False.elim hq'
    | brk => exact False.elim hq'
    | cont => exact False.elim hq'
theorem pe_make (M : Mk X.K C f) (F : FnOk X.prog X.w X.K X.mg X.base CX k f fd ps sp) (hr : Room (k + 1) X.A) (hg : Gl X x) (hm : X.mg x = some (.ref C)) (hb : Binds X.K fd ps ds) (hd : Vals dvs ds) (hx : Passes CX X E)
    (ha : PA X (e :: es) t) (hdb : (x == ("__debug__" : Str)) = false := by decide) (he : starEach (e :: es) X.env = (false, eval e X.env) :: starEach es X.env := by rfl) (hpl : (backTo pos (starEach es X.env)).any (·.1) = false := by rfl) :
    PE X (.Call (.Name x p) (e :: es) [] pos) (tMake C sp dvs E t) := by
  intro pins s σ H Q I h
  refine wpAny_Call_Name_kw (ld_glob I hg hm ?_ hdb)
  refine PySem.W.callWith_K (h₀ := X.base) I.ok.mod.kin M.kp (thn (ha pos pins s σ H _ I h) fun us s1 ⟨vs, H1, I1, r, q⟩ => ⟨I1.kIn, ?_⟩) he hpl
  exact run_make M F hr hb hd hx I1 r q
end

section
variable {X : Cx} {CX : CXT} {k : Nat} {f C : Addr} {fd : FuncData} {ps ks : List Str} {sp : Sp} {E : XK} {x m : Str} {p pos apos kpos : Pos} {e o : Expr} {es : List Expr} {kws : List Keyword} {te ta : TE} {t tk : TA} {nm : Option Str}
structure KBinds (K : PySem.W.Frag) (fd : FuncData) (ps ks : List Str) (g : List Value → List Value → List Value) (gV : List V → List V → List V) : Prop where
  to : ∀ (s : Shared) (us ws : List Value), K.In s.heap → (g us ws).length = ps.length → BindsTo s fd ⟨us, ks.zip ws⟩ (ps.zip (g us ws))
  rel : ∀ {vs : List V} {us : List Value} {zs : List V} {ws : List Value}, Vals vs us → Vals zs ws → Vals (gV vs zs) (g us ws)
variable {g : List Value → List Value → List Value} {gV : List V → List V → List V}
end

structure FnScope (N P : List Str) (sc : Scope) : Prop where
  kind : sc.kind = .function
  co : sc.isCoroutine = false
  gen : sc.isGenerator = false
  nd : N.Nodup
  pre : N.take P.length = P
  par : ∀ x ∈ P, sc.names.lookup x = some .local ∨ sc.names.lookup x = some .cell
  nofree : ∀ y ∈ sc.names, y.2 ≠ .free

theorem bindL_out {kindOf : Str → Option NameKind} {x : Str} : ∀ {binds : List (Str × Value)} {m : Str → Option Value}, (∀ v, (x, v) ∉ binds) → bindL kindOf binds m x = m x
  | [], _, _ => rfl
  | (n, v) :: r, m, h => by
    unfold bindL
    rw [bindL_out fun w hw => h w (List.mem_cons_of_mem _ hw)]
    split
    · have : x ≠ n := by rintro rfl; exact h v List.mem_cons_self
      simp [this]
    · rfl
theorem bindC_out {kindOf : Str → Option NameKind} {x : Str} : ∀ {binds : List (Str × Value)} {m : Str → Option Value}, (∀ v, (x, v) ∉ binds) → bindC kindOf binds m x = m x
  | [], _, _ => rfl
  | (n, v) :: r, m, h => by
    unfold bindC
    rw [bindC_out fun w hw => h w (List.mem_cons_of_mem _ hw)]
    split
    · rfl
    · have : x ≠ n := by rintro rfl; exact h v List.mem_cons_self
      simp [this]
theorem bindL_get {kindOf : Str → Option NameKind} {x : Str} {v : Value} : ∀ {P : List Str} {vs : List Value} {i : Nat} {m : Str → Option Value}, P.Nodup → P[i]? = some x → vs[i]? = some v → kindOf x = some .local →
    bindL kindOf (P.zip vs) m x = some v
  | [], _, _, _, _, h, _, _ => by simp at h
  | _ :: _, [], _, _, _, _, h, _ => by simp at h
  | p :: P, w :: vs, 0, m, nd, h1, h2, hk => by
    simp at h1 h2; subst h1; subst h2
    show bindL kindOf ((p, w) :: P.zip vs) m p = _
    unfold bindL
    rw [bindL_out fun v hv => (List.nodup_cons.mp nd).1 (List.of_mem_zip hv).1, if_pos hk]
    simp
  | p :: P, w :: vs, i + 1, m, nd, h1, h2, hk => by
    show bindL kindOf ((p, w) :: P.zip vs) m x = _
    unfold bindL
    exact bindL_get (i := i) (List.nodup_cons.mp nd).2 (by simpa using h1) (by simpa using h2) hk
theorem bindC_get {kindOf : Str → Option NameKind} {x : Str} {v : Value} : ∀ {P : List Str} {vs : List Value} {i : Nat} {m : Str → Option Value}, P.Nodup → P[i]? = some x → vs[i]? = some v → kindOf x ≠ some .local →
    bindC kindOf (P.zip vs) m x = some v
  | [], _, _, _, _, h, _, _ => by simp at h
  | _ :: _, [], _, _, _, _, h, _ => by simp at h
  | p :: P, w :: vs, 0, m, nd, h1, h2, hk => by
    simp at h1 h2; subst h1; subst h2
    show bindC kindOf ((p, w) :: P.zip vs) m p = _
    unfold bindC
    rw [bindC_out fun v hv => (List.nodup_cons.mp nd).1 (List.of_mem_zip hv).1, if_neg hk]
    simp
  | p :: P, w :: vs, i + 1, m, nd, h1, h2, hk => by
    show bindC kindOf ((p, w) :: P.zip vs) m x = _
    unfold bindC
    exact bindC_get (i := i) (List.nodup_cons.mp nd).2 (by simpa using h1) (by simpa using h2) hk

def start (N : List Str) (vs : List V) : St := vs.map some ++ List.replicate (N.length - vs.length) none

def cxOf (CX : CXT) (P : Program) (w : World) (K : PySem.W.Frag) (mg : Str → Option Value) (base : Heap) (N : List Str) (qual : Str) (scope : Scope) (f : Addr) (cd : Value) (A : Around) (outer : List Env) (s : Shared) (H : Hp) (E : XK) : Cx where
  prog := P
  w := w
  K := K
  mg := mg
  base := base
  A := A.deeper (envOfC qual scope s.heap.objs.size f cd)
  N := N
  s₀ := s
  H₀ := H
  env := envOfC qual scope s.heap.objs.size f cd
  outer := outer
  stack := envOfC qual scope s.heap.objs.size f cd :: outer
  ex := []
  calm := true
  fn := fun _ => true
  pn := []
  xe := fun e s' => wpAny (model P w) (A.deeper (envOfC qual scope s.heap.objs.size f cd)) (leaving (envOfC qual scope s.heap.objs.size f cd) e) (fun _ s'' => CX outer H s E e s'') (fun e' s'' => CX outer H s E e' s'') s'

theorem cell_has {sc : Scope} {n : Nat} {x : Str} (h : sc.names.lookup x = some .cell) : ∃ c, (cellsFrom n sc.names []).lookup x = some c := by
  have q := PySem.W.cellsFrom_some sc.names n [] (.inl h)
  exact Option.isSome_iff_exists.mp q

theorem inv_start {CX : CXT} {P : Program} {w : World} {K : PySem.W.Frag} {mg : Str → Option Value} {base : Heap} {N ps : List Str} {qual : Str} {scope : Scope} {f : Addr} {cd : Value} {A : Around} {outer : List Env} {s s1 : Shared} {H : Hp} {E : XK} {us : List Value} {vs : List V}
    (S : FnScope N ps scope) (hd : A.handled = none) (e0 : Env0 P w K mg base A outer s H) (hl : vs.length = ps.length) (r : Vals vs us)
    (x : InCallC s s.heap.objs.size (bindL (envOfC qual scope s.heap.objs.size f cd).kindOf (ps.zip us) fun _ => none) (cellsFrom (s.heap.objs.size + 1) scope.names []) (bindC (envOfC qual scope s.heap.objs.size f cd).kindOf (ps.zip us) fun _ => none) s1) :
    Inv (cxOf CX P w K mg base N qual scope f cd A outer s H E) [] (start N vs) H s1 := by
  have hpl : ps.length ≤ N.length := by have := congrArg List.length S.pre; rw [List.length_take] at this; omega
  obtain ⟨h1, tk, rfl, hk⟩ := x.done
  have noA : ∀ b : Addr, b ∉ (cxOf CX P w K mg base N qual scope f cd A outer s H E).ex := fun b z => absurd (show b ∈ ([] : List Addr) from z) (by simp)
  refine ⟨⟨e0.mod, S.kind, rfl, rfl, Nat.le_refl _, fun y z c h1 h2 => ?_, fun y hy => ?_, fun y c _ h => ?_, fun _ => hd, Around.frames_deeper e0.frames, .inr ⟨rfl, rfl⟩, fun b z => absurd z (noA b), e0.bs, e0.bsz, fun b _ _ => noA b, fun b z => absurd z (noA b), e0.funs, e0.frf⟩,
    rfl, e0.bare, Un.kept hk, ⟨_, x.toInCall.ns, fun i y v h1 h2 h3 => ?_⟩, fun y c h => ⟨_, x.cell y c h⟩, e0.hok.fresh (Nat.le_refl _), fun y c h => ?_, fun p hp => absurd (show p ∈ ([] : List (Addr × Obj)) from hp) (by simp), e0.hok.kept hk, ?_⟩
  · exact name_of_addr x.apart (PySem.mem_of_lookup h1) (PySem.mem_of_lookup h2)
  · have hy : scope.names.lookup y = some .cell ∨ scope.names.lookup y = some .free := hy
    rcases hy with hy | hy
    · exact cell_has hy
    · exact absurd rfl (S.nofree _ (PySem.mem_of_lookup hy))
  · exact Nat.le_of_lt (x.above y c (PySem.mem_of_lookup h))
  · have hi : i < vs.length := by
      unfold start at h2
      by_cases hi : i < vs.length
      · exact hi
      · rw [List.getElem?_append_right (by simpa using hi)] at h2
        rw [List.getElem?_replicate] at h2
        split at h2 <;> cases h2
    have ha : vs[i]? = some v := by
      unfold start at h2
      rw [List.getElem?_append_left (by simpa using hi), List.getElem?_map] at h2
      cases e : vs[i]? with
      | none => rw [e] at h2; cases h2
      | some a => rw [e] at h2; cases h2; rfl
    obtain ⟨u, hu, rv⟩ := r.get ha
    have hp : ps[i]? = some y := by
      rw [← S.pre, List.getElem?_take_of_lt (by omega)]; exact h1
    have ndP : ps.Nodup := by rw [← S.pre]; exact S.nd.sublist (List.take_sublist _ _)
    refine ⟨u, rv, ?_⟩
    rcases S.par y (List.mem_of_getElem? hp) with k | k
    · exact .inl ⟨k, bindL_get ndP hp hu k⟩
    · obtain ⟨c, e⟩ := cell_has (n := s.heap.objs.size + 1) k
      refine .inr ⟨.inl k, c, e, ?_⟩
      have q := x.cell y c e
      rw [bindC_get ndP hp hu (by show scope.names.lookup y ≠ _; rw [k]; decide)] at q
      exact q
  · exact e0.hok.fresh (Nat.le_of_lt (x.above y c (PySem.mem_of_lookup h)))
  · unfold start
    show _ = N.length
    rw [List.length_append, List.length_map, List.length_replicate]
    omega

theorem fn_of {CX : CXT} {P : Program} {w : World} {K : PySem.W.Frag} {mg : Str → Option Value} {base : Heap} {k : Nat} {f : Addr} {name qual : Str} {params : Arguments} {body : List Stmt} {scope : Scope} {dV kV doc pm cdv ct oc : Value} {an od : Option Addr}
    {osl : Array (Option Value)} {N ps : List Str} {sp : Sp} (lk : K.lookup f = some ⟨oc, od, .func (PySem.W.fnOf name qual params body scope dV kV doc pm an cdv ct), osl⟩) (hcd : PySem.W.codeIn K cdv qual = true) (S : FnScope N ps scope)
    (len : ∀ vs H Q E, sp vs H Q E → vs.length = ps.length)
    (hbody : ∀ (A : Around) (outer : List Env) (s : Shared) (H : Hp) (vs : List V) (Q : VK) (E : XK), Room k (A.deeper (envOfC qual scope s.heap.objs.size f cdv)) → sp vs H Q E →
      ∃ t, PSs (cxOf CX P w K mg base N qual scope f cdv A outer s H E) body t ∧ t { nx := fun _ H' => Q .non H', rt := Q } (start N vs) H) :
    FnOk P w K mg base CX (k + 1) f (PySem.W.fnOf name qual params body scope dV kV doc pm an cdv ct) ps sp := by
  refine ⟨len, fun A outer s H args us vs Q E hr e0 hb r hsp => ?_⟩
  have hl := len _ _ _ _ hsp
  have KX : K.In s.heap := e0.mod.kin.keeps fun b o e => (e0.bs b o e).1
  have lim : s.heap.NoLimit := e0.mod.nolimit.keeps fun b o e => (e0.bs b o e).1
  have hkind : ∀ y ∈ ps.zip us, scope.names.lookup y.1 = some .local ∨ (scope.names.lookup y.1 = some .cell ∧ ((cellsFrom (s.heap.objs.size + 1) scope.names []).lookup y.1).isSome = true) := fun ⟨n, v⟩ hy => by
    rcases S.par n (List.of_mem_zip hy).1 with q | q
    · exact .inl q
    · exact .inr ⟨q, PySem.W.cellsFrom_some _ _ _ (.inl q)⟩
  refine codeAny_call_function hr.depth (KX _ _ lk) rfl S.co S.gen rfl (PySem.W.codeRec_of KX hcd) (hb _ _ _ _ ?_)
  refine wpAny_newFunctionEnv_cells S.kind hkind fun env he s1 x => ?_
  subst he
  refine ⟨lim.keeps x.toInCall.keep, codeAny_func ?_⟩
  obtain ⟨t, ht, hq⟩ := hbody A outer s H vs Q E (hr.deeper _) hsp
  have I : Inv (cxOf CX P w K mg base N qual scope f cdv A outer s H E) [] (start N vs) H s1 := inv_start S hr.hd e0 hl r x
  refine wpAny_mono (ht [] s1 (start N vs) H _ I hq) (fun fl s' hs => ?_) fun e s' hs => hs
  have fin : ∀ {σ' : St} {H' : Hp} {v : V} {u : Value}, Inv (cxOf CX P w K mg base N qual scope f cdv A outer s H E) [] σ' H' s' → RelV v u → Q v H' → CE outer P w H s Q u s' :=
    fun {σ' H' v u} J rv q => ⟨v, H', J.os, J.bare, J.base, J.hok, rv, q⟩
  cases fl with
  | ret u =>
    obtain ⟨v, σ', H', J, rv, q⟩ := hs
    exact fin J rv q
  | next =>
    obtain ⟨σ', H', J, q⟩ := hs
    exact fin (v := V.non) (u := Value.none) J rfl q
  | brk =>
    obtain ⟨_, _, _, q⟩ := hs
    exact False.elim q
  | cont =>
    obtain ⟨_, _, _, q⟩ := hs
    exact False.elim q
end L2

namespace L2
open PySem PySem.Spec PyProof.Rows
section
variable {X : Cx} {x : Str} {p pos : Pos} {e : Expr} {es : List Expr} {t : TA} {id T : String} {r : List V → Hp → VK → Prop}

def tCB (r : List V → Hp → VK → Prop) (t : TA) : TE := fun σ H Q => t σ H fun vs H1 => r vs H1 Q
theorem pe_callB (hc : CallR X (.builtin id) r) (hg : Gl X x) (hm : X.mg x = none) (hv : bootBuiltins x = some (.builtin id)) (ha : PA X (e :: es) t) (hn : x ≠ "__name__" := by decide) (hdb : (x == ("__debug__" : Str)) = false := by decide)
    (he : starEach (e :: es) X.env = (false, eval e X.env) :: starEach es X.env := by rfl) (hpl : (backTo pos (starEach es X.env)).any (·.1) = false := by rfl) : PE X (.Call (.Name x p) (e :: es) [] pos) (tCB r t) := by
  intro pins s σ H Q I h
  refine wpAny_Call_Name_kw (ld_blt I hg hm hv ?_ hn hdb)
  exact PyProof.Rows.callWith_builtin1 (thn (ha pos pins s σ H _ I h) fun us s1 ⟨vs, H1, I1, r1, q1⟩ => hc pins s1 σ H1 vs us Q I1 r1 q1) he hpl
theorem pe_callTy (hc : CallR X (.type T) r) (hg : Gl X x) (hm : X.mg x = none) (hv : bootBuiltins x = some (.type T)) (ha : PA X (e :: es) t) (hn : x ≠ "__name__" := by decide) (hdb : (x == ("__debug__" : Str)) = false := by decide)
    (he : starEach (e :: es) X.env = (false, eval e X.env) :: starEach es X.env := by rfl) (hpl : (backTo pos (starEach es X.env)).any (·.1) = false := by rfl) : PE X (.Call (.Name x p) (e :: es) [] pos) (tCB r t) := by
  intro pins s σ H Q I h
  refine wpAny_Call_Name_kw (ld_blt I hg hm hv ?_ hn hdb)
  exact PyProof.Rows.callWith_type1 (thn (ha pos pins s σ H _ I h) fun us s1 ⟨vs, H1, I1, r1, q1⟩ => hc pins s1 σ H1 vs us Q I1 r1 q1) he hpl
end
end L2

namespace L2
open PySem PySem.Spec PyProof.Rows

section
variable {κ : Type} [DecidableEq κ]
def valV (kvs : List (κ × V)) (k : κ) : Option V := (kvs.find? fun kv => decide (kv.1 = k)).map (·.2)
def putK (kvs : List (κ × V)) (k : κ) (v : V) : List (κ × V) :=
  if (kvs.any fun kv => decide (kv.1 = k)) = true then kvs.map (fun kv => if kv.1 = k then (kv.1, v) else kv) else kvs ++ [(k, v)]
def dropK (kvs : List (κ × V)) (k : κ) : List (κ × V) := kvs.filter fun kv => decide (kv.1 ≠ k)

theorem valV_pos {p : κ × V} {r : List (κ × V)} {k : κ} (e : p.1 = k) : valV (p :: r) k = some p.2 := by simp [valV, List.find?_cons, e]
theorem valV_neg {p : κ × V} {r : List (κ × V)} {k : κ} (e : ¬ p.1 = k) : valV (p :: r) k = valV r k := by simp [valV, List.find?_cons, e]
theorem RelO.getD {o : Option V} {u : Option Value} {d : V} {d' : Value} (r : RelO o u) (rd : RelV d d') : RelV (o.getD d) (u.getD d') := by
  cases o with
  | none => cases u with
    | none => exact rd
    | some _ => exact (show False from r).elim
  | some _ => cases u with
    | none => exact (show False from r).elim
    | some _ => exact r

theorem KV.val {kvs : List (κ × V)} {vs : List (κ × Value)} (r : KV kvs vs) (k : κ) : RelO (valV kvs k) (valueAt vs k) := by
  unfold KV at r
  induction r with
  | nil => exact True.intro
  | @cons p q ps qs h t ih =>
    obtain ⟨h1, h2⟩ := h
    by_cases e : p.1 = k
    · have e' : q.1 = k := h1.symm.trans e
      have b : valueAt (q :: qs) k = some q.2 := by simp [valueAt, List.find?_cons, e']
      rw [valV_pos e, b]; exact h2
    · have e' : ¬ q.1 = k := fun z => e (h1.trans z)
      have b : valueAt (q :: qs) k = valueAt qs k := by simp [valueAt, List.find?_cons, e']
      rw [valV_neg e, b]; exact ih
theorem KV.keys {kvs : List (κ × V)} {vs : List (κ × Value)} (r : KV kvs vs) : kvs.map (·.1) = vs.map (·.1) := by
  unfold KV at r
  induction r with
  | nil => rfl
  | cons h t ih => rw [List.map_cons, List.map_cons, ih, h.1]
theorem KV.length {kvs : List (κ × V)} {vs : List (κ × Value)} (r : KV kvs vs) : kvs.length = vs.length := Paired.length r
end


theorem kV_is {P : Program} {w : World} {k : Key} {u : Value} (r : RelV (kV k) u) : (mixKind P w).is k u = true := by
  cases k with
  | inl i => obtain ⟨t, e⟩ := (show ∃ t, u = Value.int i t from r); subst e; exact mixKind_int P w i t
  | inr x => obtain ⟨t, e⟩ := (show ∃ t, u = Value.str x t from r); subst e; exact mixKind_str P w x t
theorem items_are {P : Program} {w : World} : ∀ {ks : List Key} {us : List Value}, Vals (ks.map kV) us → ItemsAre (mixKind P w) ks us
  | [], _, r => by rw [List.map_nil] at r; cases r; exact .nil
  | k :: ks, _, r => by
    rw [List.map_cons] at r
    cases r with
    | cons h t => exact .cons (kV_is h) (items_are t)

abbrev KT (H : Hp) : List (List Key × V) → List (List Key × Addr × Value) → Prop := Paired fun p q => p.1 = q.1 ∧ H q.2.1 = some (.tup (p.1.map kV)) ∧ RelV p.2 q.2.2
theorem KT.val {H : Hp} {kvs : List (List Key × V)} {xs : List (List Key × Addr × Value)} (r : KT H kvs xs) (k : List Key) : RelO (valV kvs k) ((atKey xs k).map (·.2)) := by
  induction r with
  | nil => exact True.intro
  | @cons p q ps qs h t ih =>
    obtain ⟨h1, _, h2⟩ := h
    by_cases e : p.1 = k
    · have e' : q.1 = k := h1.symm.trans e
      have b : atKey (q :: qs) k = some q.2 := by simp [atKey, List.find?_cons, e']
      rw [valV_pos e, b]; exact h2
    · have e' : ¬ q.1 = k := fun z => e (h1.trans z)
      have b : atKey (q :: qs) k = atKey qs k := by simp [atKey, List.find?_cons, e']
      rw [valV_neg e, b]; exact ih
section
variable {P : Program} {w : World} {H : Hp} {h : Heap} {a : Addr}
theorem rd_of {u : HO} (ok : HOk P w H h) (e : Rd H a u) : ObjOk P w H h a u := e.ok ok
theorem dk_rd {kvs : List (Key × V)} (ok : HOk P w H h) (e : Rd H a (.dK kvs)) : kvs.length ≤ sizeLine ∧ (a == sysModules) = false ∧ ∃ vs, KV kvs vs ∧ h.DictOf (mixKind P w) a vs :=
  show ObjOk P w H h a (.dK kvs) from rd_of ok e
theorem key_of {ks : List Key} (ok : HOk P w H h) (e : H a = some (.tup (ks.map kV))) : (tupleKind (mixKind P w)).is h ks a := by
  obtain ⟨_, its, r, o, h1, h2, n, h3, _⟩ := (show ObjOk P w H h a (.tup (ks.map kV)) from ok a _ e)
  exact ⟨o, its.toArray, n, h1, h2, h3, by simpa using items_are r⟩
theorem dt_rd {kvs : List (List Key × V)} (ok : HOk P w H h) (e : Rd H a (.dT kvs)) : kvs.length ≤ sizeLine ∧ (a == sysModules) = false ∧
    ∃ xs, KT H kvs xs ∧ h.DictOfH (tupleKind (mixKind P w)) a xs := by
  obtain ⟨z, y, xs, r, o, es, ep, h1, h2, h3, h4, h5⟩ := (show ObjOk P w H h a (.dT kvs) from rd_of ok e)
  refine ⟨z, y, xs, r, o, es, ep, h1, h2, h3, h4, fun x hx => ?_, h5⟩
  have all : ∀ {l : List (List Key × V)} {m : List (List Key × Addr × Value)}, KT H l m → ∀ x ∈ m, (tupleKind (mixKind P w)).is h x.1 x.2.1 := by
    intro l m q
    induction q with
    | nil => intro x hx; exact nomatch hx
    | @cons p q ps qs hq t ih =>
      intro x hx
      rcases List.mem_cons.mp hx with e | hx
      · subst e
        exact key_of ok (by rw [← hq.1]; exact hq.2.1)
      · exact ih x hx
  exact all r x hx
end

def DGet (H : Hp) (a : Addr) (y : V) (r : Option V) : Prop :=
  (∃ kvs k, Rd H a (.dK kvs) ∧ y = kV k ∧ r = valV kvs k) ∨ ∃ kvs k b, Rd H a (.dT kvs) ∧ y = .ref b ∧ H b = some (.tup (k.map kV)) ∧ r = valV kvs k
def DPut (H : Hp) (a : Addr) (y v : V) (H' : Hp) : Prop :=
  (∃ kvs k, H a = some (.dK kvs) ∧ y = kV k ∧ kvs.length < sizeLine ∧ H' = upd H a (.dK (putK kvs k v))) ∨
  ∃ kvs k b, H a = some (.dT kvs) ∧ y = .ref b ∧ H b = some (.tup (k.map kV)) ∧ kvs.length < sizeLine ∧ H' = upd H a (.dT (putK kvs k v))
theorem DGet.k {H : Hp} {a : Addr} {kvs : List (Key × V)} {k : Key} (e : H a = some (.dK kvs)) : DGet H a (kV k) (valV kvs k) := .inl ⟨kvs, k, .inl e, rfl, rfl⟩
section
variable {X : Cx} {pins : List (Addr × Obj)} {σ : St} {H : Hp} {s : Shared} {a : Addr} {y v : V} {u r : Value} {o : Option V} {A : Around} {E : Value → Shared → Prop}

theorem Inv.big (I : Inv X pins σ H s) : sysModules < s.heap.objs.size := by
  have h : mainGlobals < s.heap.objs.size := (I.mod.glob.keeps I.bk).lt
  exact Nat.lt_trans (by decide) h

theorem d_getItem {Q : Value → Shared → Prop} (hu : A.units + 1 < cLine) (I : Inv X pins σ H s) (g : DGet H a y (some v)) (ry : RelV y u) (h : ∀ w' s', Inv X pins σ H s' → RelV v w' → Q w' s') :
    wpAny (model X.prog X.w) A (getItem (.ref a) u) Q E s := by
  rcases g with ⟨kvs, k, e, ey, l⟩ | ⟨kvs, k, b, e, ey, eb, l⟩
  · subst ey
    obtain ⟨z, hd, vs, rel, dd⟩ := dk_rd I.hok e
    obtain ⟨w', hw, rw'⟩ := RelO.some_of (v := v) (o := valueAt vs k) (by rw [l]; exact rel.val k)
    exact wpAny_getItem_of (kV_is ry) dd.mapOf hw (h w' _ (I.tok _) rw')
  · subst ey
    cases (show u = Value.ref b from ry)
    obtain ⟨z, hd, xs, rel, dd⟩ := dt_rd I.hok e
    obtain ⟨w', hw, rw'⟩ := RelO.some_of (v := v) (o := (atKey xs k).map (·.2)) (by rw [l]; exact rel.val k)
    obtain ⟨p, hp, hp2⟩ := Option.map_eq_some_iff.mp hw
    refine wpAny_getItem_heap (tupleKind_room_in1 hu) (key_of I.hok eb) dd hp ?_
    rw [hp2]
    exact h w' _ (I.tok _) rw'
end

section
variable {X : Cx} {pins : List (Addr × Obj)} {σ : St} {H : Hp} {s : Shared} {a : Addr} {kvs : List (Key × V)} {k : Key} {u : Value} {A : Around} {E : Value → Shared → Prop}
end


def NoSl (i : Expr) : Prop := ∀ ov iv, subscripted i false ov iv = operate [ov, iv] (getItem ov iv)
theorem subD_of {prog : Program} {w : World} {A : Around} {E : Value → Shared → Prop} {s : Shared} {env : Env} {value slice : Expr} {pos : Pos} {T id : String} {Q : Value → Shared → Prop}
    (hl : typeLookup (.type T) "__getitem__" = pure (some (.builtin id))) (hs : NoSl slice)
    (h : wpAny (model prog w) A (eval value env) (fun o s₁ => wpAny (model prog w) A (eval slice env) (fun i s₂ => s₂.TypeIs o T ∧ wpAny (model prog w) A (getItem o i) Q E s₂) E s₁) E s) :
    wpAny (model prog w) A (eval (.Subscript value slice pos) env) Q E s := by
  refine Subscript_ (wpAny_mono h (fun o s₁ h₁ => wpAny_mono h₁ (fun i s₂ h₂ => ?_) fun _ _ x => x) fun _ _ x => x)
  obtain ⟨hT, h₂⟩ := h₂
  unfold subscriptTail
  refine wpAny_bind ?_
  rw [getitemInPython_of_ne hT.not_modules]
  refine wpAny_bind (wpAny_specialOf hT hl ?_)
  have fin : wpAny (model prog w) A (subscripted slice false o i) (fun r s₃ => wpAny (model prog w) A (letTemporaryGo value o r >>= fun _ => pure r) Q E s₃) E s₂ := by
    rw [hs o i]
    exact wpAny_operating (wpAny_mono h₂ (fun r s₃ h₃ => wpAny_bind (wpAny_letTemporaryGo (wpAny_pure h₃))) fun _ _ x => x)
  first
    | exact wpAny_pure (wpAny_bind fin)
    | exact wpAny_bind (wpAny_pure (wpAny_bind fin))
    | exact wpAny_bind fin

theorem dict_typeIs {X : Cx} {pins : List (Addr × Obj)} {σ : St} {H : Hp} {s : Shared} {a : Addr} {y : V} {o : Option V} (I : Inv X pins σ H s) (g : DGet H a y o) : s.TypeIs (.ref a) "dict" := by
  rcases g with ⟨kvs, k, e, _, _⟩ | ⟨kvs, k, b, e, _, _, _⟩
  · obtain ⟨_, _, vs, _, dd⟩ := dk_rd I.hok e
    exact dd.typeIs
  · obtain ⟨_, _, xs, _, dd⟩ := dt_rd I.hok e
    exact dd.typeIs
def tDGet (td ty : TE) : TE := fun σ H Q => td σ H fun x H1 => ty σ H1 fun y H2 => ∃ a v, x = .ref a ∧ DGet H2 a y (some v) ∧ Q v H2
section
variable {X : Cx} {o i e value : Expr} {pos pos' tpos : Pos} {td ty tv : TE}
theorem pe_dget (hu : X.A.units + 1 < cLine) (ho : PE X o td) (hi : PE X i ty) (hs : NoSl i) : PE X (.Subscript o i pos) (tDGet td ty) := by
  intro pins s σ H Q I h
  refine subD_of PySem.F.slot_dict_getitem.lookup hs (thn (ho pins s σ H _ I h) fun u s1 ⟨x, H1, I1, rx, q1⟩ => thn (hi pins s1 σ H1 _ I1 q1) fun iv s2 ⟨y, H2, I2, ry, a, v, ex, g, q2⟩ => ?_)
  subst ex
  obtain rfl : u = Value.ref a := rx
  exact ⟨dict_typeIs I2 g, d_getItem hu I2 g ry fun w' s3 I3 rw' => ⟨v, H2, I3, rw', q2⟩⟩
end


section
variable {X : Cx} {pos : Pos}
end

def tPairs : List (TE × TE) → St → Hp → (List (V × V) → Hp → Prop) → Prop
  | [], _, H, Q => Q [] H
  | (tk, tv) :: r, σ, H, Q => tk σ H fun x H1 => tv σ H1 fun y H2 => tPairs r σ H2 fun ps H3 => Q ((x, y) :: ps) H3
abbrev VV : List (V × V) → List (Value × Value) → Prop := Paired fun p q => RelV p.1 q.1 ∧ RelV p.2 q.2
def mergeK (kvs more : List (Key × V)) : List (Key × V) := more.foldl (fun acc kv => putK acc kv.1 kv.2) kvs
structure M1 (X : Cx) (o : Expr) (m : Str) (apos : Pos) (e : Expr) (cpos : Pos) : Prop where
  base : attributeBase o m X.env (eval o X.env) = eval o X.env
  few : ((backTo cpos (starEach [e] X.env)).all (fun x => !x.1) && (backToKw cpos (keywordEach [] X.env)).all (fun x => x.1.isSome)
    && decide (([e] : List Expr).length + ([] : List Keyword).length + (if ([] : List Keyword).isEmpty then 0 else 1) < 30)) = true
  line : (apos.endLine == cpos.line) = true
  trees : backTo cpos (starEach [e] X.env) = [(false, eval e X.env)]
structure M2 (X : Cx) (o : Expr) (m : Str) (apos : Pos) (e f : Expr) (cpos : Pos) : Prop where
  base : attributeBase o m X.env (eval o X.env) = eval o X.env
  few : ((backTo cpos (starEach [e, f] X.env)).all (fun x => !x.1) && (backToKw cpos (keywordEach [] X.env)).all (fun x => x.1.isSome)
    && decide (([e, f] : List Expr).length + ([] : List Keyword).length + (if ([] : List Keyword).isEmpty then 0 else 1) < 30)) = true
  line : (apos.endLine == cpos.line) = true
  trees : backTo cpos (starEach [e, f] X.env) = [(false, eval e X.env), (false, eval f X.env)]

def IsD (H : Hp) (a : Addr) : Prop := (∃ kvs, Rd H a (.dK kvs)) ∨ ∃ kvs, Rd H a (.dT kvs)
theorem isD_at {X : Cx} {pins : List (Addr × Obj)} {σ : St} {H : Hp} {s : Shared} {a : Addr} (I : Inv X pins σ H s) (d : IsD H a) :
    s.TypeIs (.ref a) "dict" ∧ (∀ b, Value.ref a = .ref b → ∃ ob, s.heap.get? b = some ob ∧ ob.dict = none) ∧ (a == sysModules) = false := by
  rcases d with ⟨kvs, e⟩ | ⟨kvs, e⟩
  · obtain ⟨_, hd, vs, _, dd⟩ := dk_rd I.hok e
    refine ⟨dd.typeIs, fun b q => ?_, hd⟩
    cases q
    obtain ⟨ob, _, _, h1, h2, _⟩ := dd
    exact ⟨ob, h1, h2.2.1⟩
  · obtain ⟨_, hd, xs, _, dd⟩ := dt_rd I.hok e
    refine ⟨dd.typeIs, fun b q => ?_, hd⟩
    cases q
    obtain ⟨ob, _, _, h1, h2, _⟩ := dd
    exact ⟨ob, h1, h2.2.1⟩

section
variable {X : Cx} {pins : List (Addr × Obj)} {σ : St} {H : Hp} {s : Shared} {a : Addr} {y d : V} {u r : Value} {o : Option V} {A : Around} {E : Value → Shared → Prop}
theorem d_get2 {Q : Value → Shared → Prop} (hu : A.units + 1 < cLine) (I : Inv X pins σ H s) (g : DGet H a y o) (ry : RelV y u) (rd : RelV d r) (h : ∀ w' s', Inv X pins σ H s' → RelV (o.getD d) w' → Q w' s') :
    wpAny (model X.prog X.w) A (call (.builtin "dict.get") [.ref a, u, r]) Q E s := by
  rcases g with ⟨kvs, k, e, ey, l⟩ | ⟨kvs, k, b, e, ey, eb, l⟩
  · subst ey
    obtain ⟨z, hd, vs, rel, dd⟩ := dk_rd I.hok e
    refine call_meetsIn PySem.F.slot_dict_get dd.typeIs PySem.F.entry_dict_get (PySem.F.args_dict_get_3 _ _ _) (meets_dict_get_default (mixKind X.prog X.w) a (kV_is ry) hd r) ⟨_, dd.mapOf, h _ _ (I.tok _) ?_⟩
    rw [l]
    exact (rel.val k).getD rd
  · subst ey
    cases (show u = Value.ref b from ry)
    obtain ⟨z, hd, xs, rel, dd⟩ := dt_rd I.hok e
    refine call_meetsIn PySem.F.slot_dict_get dd.typeIs PySem.F.entry_dict_get (PySem.F.args_dict_get_3 _ _ _) (meetsH_dict_get_default (tupleKind (mixKind X.prog X.w)) a b hd r) ⟨tupleKind_room_in1 hu, k, xs, key_of I.hok eb, dd, h _ _ (I.tok _) ?_⟩
    rw [l]
    exact (rel.val k).getD rd
end

def tDGet2 (td ty tx : TE) : TE := fun σ H Q => td σ H fun x H1 => ∃ a, x = .ref a ∧ IsD H1 a ∧ ty σ H1 fun y H2 => tx σ H2 fun z H3 => ∃ o, DGet H3 a y o ∧ Q (o.getD z) H3
section
variable {X : Cx} {o e f : Expr} {apos cpos : Pos} {td ty tx : TE}
theorem pe_dget2 (hu : X.A.units + 1 < cLine) (ho : PE X o td) (he : PE X e ty) (hf : PE X f tx) (m : M2 X o "get" apos e f cpos) : PE X (.Call (.Attribute o "get" apos) [e, f] [] cpos) (tDGet2 td ty tx) := by
  intro pins s σ H Q I h
  refine wpAny_Call_method m.base m.few m.line PySem.F.plainAttrs_dict PySem.F.slot_dict_get PySem.F.type_dict_get (thn (ho pins s σ H _ I h) fun u s1 ⟨x, H1, I1, rx, a, ex, d, q1⟩ => ?_)
  subst ex
  obtain rfl : u = Value.ref a := rx
  obtain ⟨t1, t2, _⟩ := isD_at I1 d
  refine ⟨t1, t2, ?_⟩
  rw [m.trees]
  refine Calls.callWith_builtin rfl (Calls.evalArgs_plain (Calls.spliced_cons (thn (he pins s1 σ H1 _ I1 q1) fun iv s2 ⟨y, H2, I2, ry, q2⟩ =>
    Calls.spliced_cons (thn (hf pins s2 σ H2 _ I2 q2) fun fv s3 ⟨z, H3, I3, rz, ov, g, q3⟩ => Calls.spliced_nil ?_))))
  exact d_get2 hu I3 g ry rz fun w' s4 I4 rw' => ⟨_, H3, I4, rw', q3⟩
end

section
variable {X : Cx} {pins : List (Addr × Obj)} {σ : St} {H : Hp} {s : Shared} {a : Addr} {kvs : List (Key × V)} {A : Around} {E : Value → Shared → Prop}
end


section
variable {X : Cx} {pins : List (Addr × Obj)} {σ : St} {H : Hp} {s : Shared} {a : Addr} {y : V} {u : Value} {A : Around} {E : Value → Shared → Prop}
end
end L2

namespace HT
open PySem PyProof.Rows

def lexLt : List Int → List Int → Bool
  | [], [] => false
  | [], _ :: _ => true
  | _ :: _, [] => false
  | x :: xs, y :: ys => if x = y then lexLt xs ys else decide (x < y)
section
open PySem.SeqAt
open PySem.AutoSeq1 (wpAny_loadPart')
open PySem.MeetsSeq PySem.MeetsSeq2 PySem.MeetsSeq3

end

section
variable {prog : Program} {w : World} {A : Around} {E : Value → Shared → Prop} {s : Shared}

theorem cat_tup {t b : Addr} {vs ws : List Value} {Q : Value → Shared → Prop} (ht : IsTup s.heap t vs.toArray) (hb : IsTup s.heap b ws.toArray) (hv : vs ≠ [])
    (h1 : ws = [] → Q (.ref t) s) (h2 : ws ≠ [] → Q (.ref s.heap.objs.size) { s with heap := s.heap.push { cls := .type "tuple", data := .seq (vs ++ ws).toArray } })
    (hsz : vs.length + ws.length ≤ sizeLine) : wpAny (model prog w) A (binaryOp .Add (.ref t) (.ref b)) Q E s := by
  obtain ⟨⟨cls, dd, data, sl⟩, ho, hc, n, hd⟩ := id ht
  obtain ⟨⟨cls2, dd2, data2, sl2⟩, ho2, hc2, n2, hd2⟩ := id hb
  simp only at hc hd hc2 hd2
  subst hc hd hc2 hd2
  have e : vs.toArray ++ ws.toArray = (vs ++ ws).toArray := by simp
  by_cases hw : ws = []
  · exact concat_meets ⟨_, ho, rfl⟩ ⟨_, ho2, rfl⟩ noFill_tuple_add seq_tuple_add PySem.F.slot_tuple_add PySem.F.entry_tuple_add (PySem.F.args_tuple_add_2 _ _)
      (tuple_addW1 t b vs.toArray ws.toArray n n2 dd dd2 sl sl2 (by simpa using hv) (by simp [hw])) ⟨ho, ho2, h1 hw⟩
  · refine concat_meets ⟨_, ho, rfl⟩ ⟨_, ho2, rfl⟩ noFill_tuple_add seq_tuple_add PySem.F.slot_tuple_add PySem.F.entry_tuple_add (PySem.F.args_tuple_add_2 _ _)
      (tuple_addW2 t b vs.toArray ws.toArray n n2 dd dd2 sl sl2 (by simpa using hv) (by simpa using hw) (by rw [List.size_toArray, List.size_toArray]; exact hsz)) ⟨ho, ho2, ?_⟩
    rw [e]
    exact h2 hw

def sIx (n d : Nat) : Option Int → Nat
  | none => d
  | some v => if v < 0 then (v + (n : Int)).toNat else min v.toNat n
theorem sIx_le (n d : Nat) (hd : d ≤ n) (o : Option Int) : sIx n d o ≤ n := by
  cases o with
  | none => exact hd
  | some v =>
    show (if v < 0 then (v + (n : Int)).toNat else min v.toNat n) ≤ n
    by_cases hv : v < 0
    · rw [if_pos hv]; omega
    · rw [if_neg hv]; exact Nat.min_le_right _ _
theorem clip_eq (v : Int) (n d : Nat) : (if v < 0 then max (v + (n : Int)) 0 else min v (n : Int)) = ((sIx n d (some v) : Nat) : Int) := by
  show (if v < 0 then max (v + (n : Int)) 0 else min v (n : Int)) = (((if v < 0 then (v + (n : Int)).toNat else min v.toNat n) : Nat) : Int)
  by_cases hv : v < 0
  · simp only [if_pos hv]; omega
  · simp only [if_neg hv]; omega
theorem adjust_gen (lo hi : Option Int) (n : Nat) : Builtin.Slice.sliceAdjust lo hi 1 (n : Int) = (((sIx n 0 lo : Nat) : Int), ((sIx n n hi : Nat) : Int)) := by
  have h1 : ¬ ((1 : Int) < 0) := by omega
  unfold Builtin.Slice.sliceAdjust
  simp only [h1, if_false]
  refine Prod.ext ?_ ?_
  · cases lo with
    | none => rfl
    | some v => exact clip_eq v n 0
  · cases hi with
    | none => rfl
    | some v => exact clip_eq v n n
theorem places_gen (i j : Nat) : Builtin.Slice.slicePlaces (i : Int) (j : Int) 1 = j - i := by
  unfold Builtin.Slice.slicePlaces
  have h1 : (1 : Int) > 0 := by omega
  simp only [h1, if_true, Int.ediv_one]
  split <;> omega
theorem slicePart_ {v : Value} {o : Option Int} {Q : Option Int → Shared → Prop} (p : IsPart v o) (h : Q o s) : wpAny (model prog w) A (Builtin.Slice.slicePartIndex v) Q E s := by
  cases p with
  | none => exact slicePart_none h
  | int i t => exact slicePart_int h
theorem sliceApplied_gen {sl : Addr} {vl vu : Value} {lo hi : Option Int} {n : Nat} {Q : Int × Int × Nat → Shared → Prop} (hs : s.heap.IsSliceOf sl vl vu .none) (pl : IsPart vl lo) (pu : IsPart vu hi)
    (h : Q (((sIx n 0 lo : Nat) : Int), 1, sIx n n hi - sIx n 0 lo) s) : wpAny (model prog w) A (Builtin.Slice.sliceApplied (.ref sl) (pure (n : Int))) Q E s := by
  obtain ⟨os, hos, hcs, hds⟩ := id hs
  unfold Builtin.Slice.sliceApplied Builtin.Slice.sliceFields
  refine wpAny_bind (wpAny_bind (wpAny_field hos hds (x := vl) rfl (wpAny_bind (wpAny_field hos hds (x := vu) rfl (wpAny_bind (wpAny_field hos hds (x := .none) rfl (wpAny_pure ?_)))))))
  refine wpAny_bind (slicePart_none ?_)
  show wpAny _ _ (if ((1 : Int) == 0) = true then _ else _) _ _ s
  rw [if_neg (by decide)]
  refine wpAny_bind (slicePart_ pl (wpAny_bind (slicePart_ pu (wpAny_bind (wpAny_pure ?_)))))
  show wpAny _ _ (match Builtin.Slice.sliceAdjust lo hi 1 (n : Int) with | (lo, hi) => pure (lo, (1 : Int), Builtin.Slice.slicePlaces lo hi 1)) _ _ s
  rw [adjust_gen lo hi n]
  show wpAny _ _ (pure (((sIx n 0 lo : Nat) : Int), (1 : Int), Builtin.Slice.slicePlaces ((sIx n 0 lo : Nat) : Int) ((sIx n n hi : Nat) : Int) 1)) _ _ s
  rw [places_gen]
  exact wpAny_pure h
theorem pick_gen (xs : Array Value) (i k : Nat) : ((List.range k).filterMap fun (m : Nat) => xs[((i : Int) + (m : Int) * 1).toNat]?).toArray = ((xs.toList.drop i).take k).toArray := by
  have e : (fun (m : Nat) => xs[((i : Int) + (m : Int) * 1).toNat]?) = fun m => xs[i + m]? := by
    funext m
    have : ((i : Int) + (m : Int) * 1).toNat = i + m := by omega
    rw [this]
  rw [e]
  have := pick_run xs i k
  rw [List.filterMap_map] at this
  have e2 : ((fun x => xs[x]?) ∘ fun x => i + x) = fun m => xs[i + m]? := rfl
  rw [e2] at this
  rw [this]

theorem getItem_tuple_cut {t sl : Addr} {items : Array Value} {vl vu : Value} {lo hi : Option Int} {Q : Value → Shared → Prop} (ht : IsTup s.heap t items) (hs : s.heap.IsSliceOf sl vl vu .none) (pl : IsPart vl lo) (pu : IsPart vu hi)
    (hw : ¬ (sIx items.size 0 lo = 0 ∧ sIx items.size items.size hi = items.size))
    (h : Q (.ref s.heap.objs.size) { s with heap := s.heap.push { cls := .type "tuple", data := .seq ((items.toList.drop (sIx items.size 0 lo)).take (sIx items.size items.size hi - sIx items.size 0 lo)).toArray } })
    (hsz : items.size ≤ sizeLine) : wpAny (model prog w) A (getItem (.ref t) (.ref sl)) Q E s := by
  have htake : sizeOk (.seq ((items.toList.drop (sIx items.size 0 lo)).take (sIx items.size items.size hi - sIx items.size 0 lo)).toArray) := by
    show ((items.toList.drop (sIx items.size 0 lo)).take (sIx items.size items.size hi - sIx items.size 0 lo)).toArray.size ≤ sizeLine
    rw [List.size_toArray, List.length_take, List.length_drop, Array.length_toList]
    omega
  have hj : sIx items.size items.size hi ≤ items.size := sIx_le _ _ (Nat.le_refl _) hi
  obtain ⟨os, hos, hcs, hds⟩ := id hs
  have hTs : s.TypeIs (.ref sl) "slice" := ⟨os, hos, hcs⟩
  unfold getItem
  try with_reducible refine wpAny_holding ?_
  first | refine wpAny_bind (wpAny_pure ?_) | skip
  refine wpAny_bind (wpAny_sequenceKey ht.typeIs (by decide) ?_)
  refine wpAny_bind (wpAny_callSpecial?_slot (name := Str.ofString "__getitem__") ht.typeIs PyProof.Rows.slot_tuple_getitem
    (wpAny_call_entry PyProof.Rows.slot_tuple_getitem ht.typeIs entry_tuple_getitem ?_ (args_tuple_getitem _ _)))
  show wpAny _ _ (Builtin.Tuple.tupleItemsOf (.ref t) >>= _) _ _ s
  refine wpAny_bind (tupleItemsOf_ ht ?_)
  refine wpAny_bind (wpAny_typeOf hTs ?_)
  rw [if_pos (by decide)]
  refine wpAny_bind (sliceApplied_gen hs pl pu ?_)
  have hno : ¬ ((((sIx items.size 0 lo : Nat) : Int) == 0 && (1 : Int) == 1 && (sIx items.size items.size hi - sIx items.size 0 lo) == items.size) = true) := by
    intro q
    rw [Bool.and_eq_true, Bool.and_eq_true] at q
    have q1 : ((sIx items.size 0 lo : Nat) : Int) = 0 := eq_of_beq q.1.1
    have q2 : sIx items.size items.size hi - sIx items.size 0 lo = items.size := eq_of_beq q.2
    exact hw ⟨by omega, by omega⟩
  show wpAny _ _ (if (((sIx items.size 0 lo : Nat) : Int) == 0 && (1 : Int) == 1 && (sIx items.size items.size hi - sIx items.size 0 lo) == items.size) = true then _ else _) _ _ s
  rw [if_neg hno, pick_gen]
  first
    | exact wpAny_bind (m := Builtin.Tuple.tupleExact _) (wpAny_newObj_type (wpAny_pure ⟨_, rfl, wpAny_pure h⟩) htake)
    | exact wpAny_bind (m := Builtin.Tuple.tupleExact _) (wpAny_newObj_type (wpAny_bind (wpAny_pure (wpAny_pure ⟨_, rfl, wpAny_pure h⟩))) htake)
    | exact wpAny_bind (wpAny_bind (m := Builtin.Tuple.tupleExact _) (wpAny_newObj_type (wpAny_pure (wpAny_pure ⟨_, rfl, wpAny_pure h⟩)) htake))
    | exact wpAny_bind (wpAny_bind (m := Builtin.Tuple.tupleExact _) (wpAny_newObj_type (wpAny_pure ⟨_, rfl, wpAny_pure h⟩) htake))
end
end HT

namespace L2
open PySem PySem.Spec PyProof.Rows

abbrev TO := St → Hp → (Option Int → Hp → Prop) → Prop
def PO (X : Cx) (e : Option Expr) (t : TO) : Prop :=
  ∀ (pins : List (Addr × Obj)) (s : Shared) (σ : St) (H : Hp) (Q : Option Int → Hp → Prop), Inv X pins σ H s → t σ H Q →
    wpAny (model X.prog X.w) X.A (evalPart e X.env) (fun u s' => ∃ o H', Inv X pins σ H' s' ∧ IsPart u o ∧ Q o H') X.xe s
def tNoPart : TO := fun _ H Q => Q none H
def tPart (t : TE) : TO := fun σ H Q => t σ H fun x H1 => ∃ i, x = .int i ∧ Q (some i) H1

section
variable {X : Cx} {e : Expr} {te : TE} {lo hi : Option Expr} {tl th : TO} {pos p2 : Pos}

theorem po_none : PO X none tNoPart := by
  intro pins s σ H Q I h
  rw [evalPart_none]
  exact wpAny_pure ⟨none, H, I, .none, h⟩
theorem po_some (h : PE X e te) : PO X (some e) (tPart te) := by
  intro pins s σ H Q I hw
  rw [evalPart_some]
  refine thn (h pins s σ H _ I hw) fun u s1 ⟨x, H1, I1, r1, q1⟩ => ?_
  obtain ⟨i, rfl, q⟩ := q1
  obtain ⟨t, rfl⟩ := r1
  exact ⟨some i, H1, I1, .int i t, q⟩

def SlR (X : Cx) (r : V → Option Int → Option Int → Hp → VK → Prop) : Prop :=
  ∀ (pins : List (Addr × Obj)) (s : Shared) (σ : St) (H : Hp) (x : V) (v vl vu : Value) (lo hi : Option Int) (sl : Addr) (Q : VK), Inv X pins σ H s → RelV x v → s.heap.IsSliceOf sl vl vu .none → IsPart vl lo → IsPart vu hi → r x lo hi H Q →
    ∃ T id, typeLookup (.type T) "__getitem__" = pure (some (.builtin id)) ∧ s.TypeIs v T ∧ wpAny (model X.prog X.w) X.A (getItem v (.ref sl)) (EP X pins σ Q) X.xe s
def tSl (r : V → Option Int → Option Int → Hp → VK → Prop) (te : TE) (tl th : TO) : TE := fun σ H Q => te σ H fun x H1 => tl σ H1 fun l H2 => th σ H2 fun u H3 => r x l u H3 Q
theorem pe_slice {r : V → Option Int → Option Int → Hp → VK → Prop} (hr : SlR X r) (he : PE X e te) (hl : PO X lo tl) (hu : PO X hi th) : PE X (.Subscript e (.Slice lo hi none p2) pos) (tSl r te tl th) := by
  intro pins s σ H Q I h
  refine Subscript_ (thn (he pins s σ H _ I h) fun v s1 ⟨x, H1, I1, r1, q1⟩ => ?_)
  refine wpAny_Slice (thn (hl pins s1 σ H1 _ I1 q1) fun vl s2 ⟨l, H2, I2, pl, q2⟩ => thn (hu pins s2 σ H2 _ I2 q2) fun vu s3 ⟨u, H3, I3, pu, q3⟩ => ?_)
  rw [evalPart_none]
  refine wpAny_pure ?_
  have I4 : Inv X pins σ H3 { s3 with heap := s3.heap.push { cls := .type "slice", data := .fields #[vl, vu, .none] } } := I3.kept (t' := s3.toks) fun b ob q => Heap.get?_push_of_some _ q
  obtain ⟨T, id, hT, ht, hg⟩ := hr pins { s3 with heap := s3.heap.push { cls := .type "slice", data := .fields #[vl, vu, .none] } } σ H3 x v vl vu l u s3.heap.objs.size Q I4 r1 (Heap.IsSliceOf.new ..) pl pu q3
  show wpAny (model X.prog X.w) X.A (subscriptTail e (.Slice lo hi none p2) v (.ref s3.heap.objs.size)) (EP X pins σ Q) X.xe { s3 with heap := s3.heap.push { cls := .type "slice", data := .fields #[vl, vu, .none] } }
  exact tail_any (ops := [.ref s3.heap.objs.size, v]) ht hT hg (by with_unfolding_all rfl)

def cutV (xs : List V) (lo hi : Option Int) : List V := (xs.drop (HT.sIx xs.length 0 lo)).take (HT.sIx xs.length xs.length hi - HT.sIx xs.length 0 lo)
theorem cutV_length (xs : List V) (lo hi : Option Int) : (cutV xs lo hi).length ≤ xs.length := by
  unfold cutV
  rw [List.length_take, List.length_drop]
  omega
def rSlT (K : PySem.W.Frag) : V → Option Int → Option Int → Hp → VK → Prop := fun x lo hi H Q => ∃ a xs, x = .ref a ∧ SqT K H a xs ∧
  ¬ (HT.sIx xs.length 0 lo = 0 ∧ HT.sIx xs.length xs.length hi = xs.length) ∧ ∀ p, H p = none → Q (.ref p) (upd H p (.tup (cutV xs lo hi)))
theorem sl_tup : SlR X (rSlT X.K) := by
  intro pins s σ H x v vl vu lo hi sl Q I rx hs pl pu h
  obtain ⟨a, xs, rfl, hx, hw, q⟩ := h
  cases rx
  obtain ⟨its, r, ht, hz⟩ := I.tuple hx
  have hlen : its.toArray.size = xs.length := by rw [List.size_toArray]; exact r.length.symm
  refine ⟨"tuple", _, PyProof.Rows.slot_tuple_getitem.lookup, ht.typeIs, ?_⟩
  refine HT.getItem_tuple_cut ht hs pl pu (by rw [hlen]; exact hw) ?_ (by rw [hlen]; exact hz)
  rw [hlen]
  refine ⟨.ref s.heap.objs.size, _, I.laid (t' := s.toks) (o := .tup (cutV xs lo hi)) (fun b ob q => Heap.get?_push_of_some _ q) (Nat.le_refl _) ?_, rfl, q _ (I.hok.fresh (Nat.le_refl _))⟩
  exact ⟨Nat.le_trans (cutV_length xs lo hi) hz, _, (r.drop (HT.sIx xs.length 0 lo)).take (HT.sIx xs.length xs.length hi - HT.sIx xs.length 0 lo), IsTupD.new _ _⟩

def rCatT (K : PySem.W.Frag) : R2 := fun x y H Q => ∃ a b xs ys, x = .ref a ∧ y = .ref b ∧ SqT K H a xs ∧ SqT K H b ys ∧ xs ≠ [] ∧ xs.length + ys.length ≤ sizeLine ∧
  (ys = [] → Q (.ref a) H) ∧ (ys ≠ [] → ∀ p, H p = none → Q (.ref p) (upd H p (.tup (xs ++ ys))))
theorem Vals.nil_iff {xs : List V} {us : List Value} (r : Vals xs us) : us = [] ↔ xs = [] := by
  cases r with
  | nil => simp
  | cons _ _ => simp
theorem op_catT : OpR X (binaryOp .Add) (rCatT X.K) := by
  intro pins s σ H x y v u Q I rx ry h
  obtain ⟨a, b, xs, ys, rfl, rfl, ha, hb, hx, hz, q1, q2⟩ := h
  cases rx
  cases ry
  obtain ⟨its, r1, p1, _⟩ := I.tuple ha
  obtain ⟨its2, r2, p2, _⟩ := I.tuple hb
  refine HT.cat_tup p1 p2 (fun z => hx (r1.nil_iff.mp z)) (fun z => ⟨.ref a, H, I, rfl, q1 (r2.nil_iff.mp z)⟩) (fun z => ?_) (by rw [← r1.length, ← r2.length]; exact hz)
  refine ⟨.ref s.heap.objs.size, _, I.laid (t' := s.toks) (o := .tup (xs ++ ys)) (fun b ob q => Heap.get?_push_of_some _ q) (Nat.le_refl _) ?_, rfl, q2 (fun w => z (r2.nil_iff.mpr w)) _ (I.hok.fresh (Nat.le_refl _))⟩
  exact ⟨by rw [List.length_append]; exact hz, _, r1.append r2, IsTupD.new _ _⟩
end
end L2

namespace L2
open PySem PySem.Spec PyProof.Rows

def ixN (n : Nat) (i : Int) : Option Nat := if 0 ≤ i then (if i < n then some i.toNat else none) else if -(n : Int) ≤ i then some (i + n).toNat else none
def atI {α : Type} (xs : List α) (i : Int) : Option α := (ixN xs.length i).bind fun j => xs[j]?
theorem ixN_seq {n : Nat} {i : Int} {j : Nat} (h : ixN n i = some j) : seqIndex? i n = some j ∧ j < n ∧ -(n : Int) ≤ i ∧ i < n := by
  unfold ixN at h
  by_cases h0 : 0 ≤ i
  · rw [if_pos h0] at h
    by_cases h1 : i < n
    · rw [if_pos h1] at h
      have e : i.toNat = j := Option.some.inj h
      exact ⟨by rw [seqIndex_of h0 h1, e], by omega, by omega, h1⟩
    · rw [if_neg h1] at h; cases h
  · rw [if_neg h0] at h
    by_cases h1 : -(n : Int) ≤ i
    · rw [if_pos h1] at h
      have e : (i + n).toNat = j := Option.some.inj h
      exact ⟨by rw [seqIndex_neg (by omega) h1, e], by omega, h1, by omega⟩
    · rw [if_neg h1] at h; cases h
theorem atI_get {α : Type} {xs : List α} {i : Int} {v : α} (h : atI xs i = some v) : ∃ j, seqIndex? i xs.length = some j ∧ xs[j]? = some v ∧ j < xs.length ∧ -(xs.length : Int) ≤ i ∧ i < xs.length := by
  unfold atI at h
  cases e : ixN xs.length i with
  | none => rw [e] at h; cases h
  | some j =>
    rw [e] at h
    obtain ⟨h1, h2, h3, h4⟩ := ixN_seq e
    exact ⟨j, h1, h, h2, h3, h4⟩
theorem atI_nat {α : Type} {xs : List α} {j : Nat} {v : α} (h : xs[j]? = some v) : atI xs (j : Int) = some v := by
  have hj : j < xs.length := (List.getElem?_eq_some_iff.mp h).1
  have e : ixN xs.length (j : Int) = some j := by
    unfold ixN
    rw [if_pos (by omega), if_pos (by omega)]; simp
  unfold atI; rw [e]; exact h
def PlainIx (b : Expr) : Prop := ∀ o i, subscripted b false o i = operate [o, i] (getItem o i)
def IxR (X : Cx) (r : R2) : Prop :=
  ∀ (value slice : Expr) (pins : List (Addr × Obj)) (s : Shared) (σ : St) (H : Hp) (x y : V) (v u : Value) (Q : VK), Inv X pins σ H s → RelV x v → RelV y u → r x y H Q →
    subscripted slice false v u = operate [v, u] (getItem v u) → wpAny (model X.prog X.w) X.A (subscriptTail value slice v u) (EP X pins σ Q) X.xe s
def MtR (X : Cx) (id : String) (r : V → List V → Hp → VK → Prop) : Prop :=
  ∀ (pins : List (Addr × Obj)) (s : Shared) (σ : St) (H : Hp) (x : V) (xs : List V) (v : Value) (us : List Value) (Q : VK), Inv X pins σ H s → RelV x v → Vals xs us → r x xs H Q →
    wpAny (model X.prog X.w) X.A (call (.builtin id) (v :: us)) (EP X pins σ Q) X.xe s
section
variable {X : Cx} {a b : Expr} {ta tb : TE} {pos : Pos}
theorem pe_ix {r : R2} (hr : IxR X r) (ha : PE X a ta) (hb : PE X b tb) (hs : PlainIx b) : PE X (.Subscript a b pos) (tOp r ta tb) := by
  intro pins s σ H Q I h
  exact Subscript_ (binT ha hb I h fun v u s2 x y H2 I2 rx ry q => hr a b pins s2 σ H2 x y v u Q I2 rx ry q (hs _ _))

def rIxL (K : PySem.W.Frag) : R2 := fun x y H Q => ∃ p xs i v, x = .ref p ∧ y = .int i ∧ SqL K H p xs ∧ atI xs i = some v ∧ Q v H
def rIxT (K : PySem.W.Frag) : R2 := fun x y H Q => ∃ p xs i v, x = .ref p ∧ y = .int i ∧ SqT K H p xs ∧ atI xs i = some v ∧ Q v H
def rIxS : R2 := fun x y H Q => ∃ z i c, x = .str z ∧ y = .int i ∧ z.length ≤ sizeLine ∧ atI z.cps.toList i = some c ∧ Q (.str ⟨#[c]⟩) H
theorem ix_list : IxR X (rIxL X.K) := by
  intro value slice pins s σ H x y v u Q I rx ry h hs
  obtain ⟨p, xs, i, z, rfl, rfl, hq, he, q⟩ := h
  cases rx
  obtain ⟨t, rfl⟩ := ry
  obtain ⟨its, r, pl, hz⟩ := I.list hq
  obtain ⟨j, h1, h2, h3, h4, h5⟩ := atI_get he
  obtain ⟨w, ew, rw'⟩ := r.get h2
  have hl := r.length
  have hn := line63
  have fin : EP X pins σ Q w s := ⟨z, H, I, rw', q⟩
  by_cases h0 : 0 ≤ i
  · have hj : i.toNat = j := by
      rw [seqIndex_of h0 h5] at h1
      exact Option.some.inj h1
    exact item_listR pl.isList h0 (by omega) (by rw [hj]; simpa using ew) fin hs
  · have hj : (i + (its.toArray.size : Int)).toNat = j := by
      rw [seqIndex_neg (by omega) h4] at h1
      rw [List.size_toArray, ← hl]
      exact Option.some.inj h1
    exact subscriptTail_builtinR (x := w) pl.isList.typeIs slot_list_getitem.lookup
      (wpAny_getItem_list_neg (Q := fun r s' => r = w ∧ EP X pins σ Q r s') pl.isList (by omega) (by rw [List.size_toArray] <;> omega) (by omega) (by rw [hj]; simpa using ew) ⟨rfl, fin⟩) hs
theorem ix_tup : IxR X (rIxT X.K) := by
  intro value slice pins s σ H x y v u Q I rx ry h hs
  obtain ⟨p, xs, i, z, rfl, rfl, hq, he, q⟩ := h
  cases rx
  obtain ⟨t, rfl⟩ := ry
  obtain ⟨its, r, pl, hz⟩ := I.tuple hq
  obtain ⟨j, h1, h2, h3, h4, h5⟩ := atI_get he
  obtain ⟨w, ew, rw'⟩ := r.get h2
  have hl := r.length
  have hn := line63
  have fin : EP X pins σ Q w s := ⟨z, H, I, rw', q⟩
  exact subscriptTail_builtinR (x := w) pl.typeIs slot_tuple_getitem.lookup
    (getItem_tuple (j := j) (Q := fun r s' => r = w ∧ EP X pins σ Q r s') pl (by omega) (by omega) (by rw [List.size_toArray, ← hl]; exact h1) (by simpa using ew) ⟨rfl, fin⟩) hs
theorem ix_str : IxR X rIxS := by
  intro value slice pins s σ H x y v u Q I rx ry h hs
  obtain ⟨z, i, c, rfl, rfl, hz, he, q⟩ := h
  obtain ⟨t, rfl⟩ := rx
  obtain ⟨t', rfl⟩ := ry
  obtain ⟨j, h1, h2, h3, h4, h5⟩ := atI_get he
  have hl : z.cps.toList.length = z.length := by simp [Str.length]
  rw [hl] at h1 h4 h5
  have hn := line63
  exact tail_any (typeIs_str s z t) slot_str_getitem.lookup (getItem_str (c := c) (by
    have e1 : decide (i < -(2 ^ 63 : Int)) = false := decide_eq_false (by omega)
    have e2 : decide (i ≥ 2 ^ 63) = false := decide_eq_false (by omega)
    rw [e1, e2, Bool.or_false]) (by rw [h1]; simpa using h2) ⟨.str ⟨#[c]⟩, H, I.tok _, ⟨_, rfl⟩, q⟩) hs
theorem slice_bounds (lo hi : Option Int) (n : Nat) : (sliceBounds lo hi none n).1 = ((HT.sIx n 0 lo : Nat) : Int) ∧ (sliceBounds lo hi none n).2.1 = ((HT.sIx n n hi : Nat) : Int) ∧ (sliceBounds lo hi none n).2.2 = 1 := by
  refine ⟨?_, ?_, rfl⟩
  · cases lo with
    | none => simp [sliceBounds, HT.sIx]
    | some i =>
      simp only [sliceBounds, HT.sIx, Option.getD_none, show (1 : Int) > 0 by decide, if_true]
      by_cases h : i < 0
      · simp only [h, if_true] <;> omega
      · simp only [h, if_false] <;> omega
  · cases hi with
    | none => simp [sliceBounds, HT.sIx]
    | some i =>
      simp only [sliceBounds, HT.sIx, Option.getD_none, show (1 : Int) > 0 by decide, if_true]
      by_cases h : i < 0
      · simp only [h, if_true] <;> omega
      · simp only [h, if_false] <;> omega
theorem slicePick_cut (its : List Value) (lo hi : Option Int) : slicePick its.toArray lo hi none = ((its.drop (HT.sIx its.length 0 lo)).take (HT.sIx its.length its.length hi - HT.sIx its.length 0 lo)).toArray := by
  obtain ⟨h1, h2, h3⟩ := slice_bounds lo hi its.toArray.size
  unfold slicePick
  rw [h1, h2, h3]
  simp only [sliceRange_one, pick_run, List.size_toArray] <;> rfl
def rSlL (K : PySem.W.Frag) : V → Option Int → Option Int → Hp → VK → Prop := fun x lo hi H Q => ∃ a xs, x = .ref a ∧ SqL K H a xs ∧ ∀ p, H p = none → Q (.ref p) (upd H p (.lst (cutV xs lo hi)))
theorem sl_list : SlR X (rSlL X.K) := by
  intro pins s σ H x v vl vu lo hi sl Q I rx hs pl pu h
  obtain ⟨a, xs, rfl, hx, q⟩ := h
  cases rx
  obtain ⟨its, r, ht, hz⟩ := I.list hx
  have hlen := r.length
  refine ⟨"list", _, slot_list_getitem.lookup, ht.isList.typeIs, ?_⟩
  refine wpAny_getItem_list_slice ht.isList hs pl pu .none (by simp) ?_ (by rw [List.size_toArray] <;> omega)
  rw [slicePick_cut, ← hlen]
  refine ⟨.ref s.heap.objs.size, _, I.laid (t' := s.toks) (o := .lst (cutV xs lo hi)) (fun b ob q => Heap.get?_push_of_some _ q) (Nat.le_refl _) ?_, rfl, q _ (I.hok.fresh (Nat.le_refl _))⟩
  exact ⟨Nat.le_trans (cutV_length xs lo hi) hz, _, 0, (r.drop (HT.sIx xs.length 0 lo)).take (HT.sIx xs.length xs.length hi - HT.sIx xs.length 0 lo), Heap.get?_push_size _ rfl⟩

def flatV : V → Bool
  | .non => true
  | .bl _ => true
  | .int _ => true
  | .str _ => true
  | _ => false
def eqV : V → V → Bool
  | .non, .non => true
  | .bl a, .bl b => a == b
  | .bl a, .int b => (if a then 1 else 0) == b
  | .int a, .bl b => a == (if b then 1 else 0)
  | .int a, .int b => a == b
  | .str a, .str b => a == b
  | _, _ => false
theorem eqAt_V {A : Around} {s : Shared} {y x : V} {u v : Value} (ry : RelV y u) (rx : RelV x v) (fy : flatV y = true) (fx : flatV x = true) : SeqAt.EqAt A s u v (eqV y x) := by
  cases y with
  | non =>
    cases ry
    cases x with
    | non => cases rx; exact SeqAt.EqAt.same _
    | bl b => cases rx; exact SeqAt.EqAt.none_bool b
    | int b => obtain ⟨t, rfl⟩ := rx; exact SeqAt.EqAt.none_int b t
    | str b => obtain ⟨t, rfl⟩ := rx; exact SeqAt.EqAt.none_str b t
    | _ => exact absurd (show false = true from fx) Bool.false_ne_true
  | bl a =>
    cases ry
    cases x with
    | non => cases rx; exact SeqAt.EqAt.bool_none a
    | bl b => cases rx; exact SeqAt.EqAt.bool_bool a b
    | int b => obtain ⟨t, rfl⟩ := rx; exact SeqAt.EqAt.bool_int a b t
    | str b => obtain ⟨t, rfl⟩ := rx; exact SeqAt.EqAt.bool_str a b t
    | _ => exact absurd (show false = true from fx) Bool.false_ne_true
  | int a =>
    obtain ⟨t', rfl⟩ := ry
    cases x with
    | non => cases rx; exact SeqAt.EqAt.int_none a t'
    | bl b => cases rx; exact SeqAt.EqAt.int_bool a t' b
    | int b => obtain ⟨t, rfl⟩ := rx; exact SeqAt.EqAt.int_int a t' b t
    | str b => obtain ⟨t, rfl⟩ := rx; exact SeqAt.EqAt.int_str a t' b t
    | _ => exact absurd (show false = true from fx) Bool.false_ne_true
  | str a =>
    obtain ⟨t', rfl⟩ := ry
    cases x with
    | non => cases rx; exact SeqAt.EqAt.str_none a t'
    | bl b => cases rx; exact SeqAt.EqAt.str_bool a t' b
    | int b => obtain ⟨t, rfl⟩ := rx; exact SeqAt.EqAt.str_int a t' b t
    | str b => obtain ⟨t, rfl⟩ := rx; exact SeqAt.EqAt.str_str a t' b t
    | _ => exact absurd (show false = true from fx) Bool.false_ne_true
  | _ => exact absurd (show false = true from fy) Bool.false_ne_true
def eqU (x : V) (u : Value) : Bool := match u with
  | .none => eqV .non x
  | .bool b => eqV (.bl b) x
  | .int i _ => eqV (.int i) x
  | .str z _ => eqV (.str z) x
  | _ => false
theorem eqU_of {x y : V} {u : Value} (r : RelV y u) (f : flatV y = true) : eqU x u = eqV y x := by
  cases y with
  | non => cases r; rfl
  | bl b => cases r; rfl
  | int i => obtain ⟨t, rfl⟩ := r; rfl
  | str z => obtain ⟨t, rfl⟩ := r; rfl
  | _ => exact absurd (show false = true from f) Bool.false_ne_true
theorem any_eqU {x : V} : ∀ {xs : List V} {us : List Value}, Vals xs us → xs.all flatV = true → us.any (eqU x) = xs.any fun y => eqV y x
  | _, _, .nil, _ => rfl
  | y :: xs, u :: us, .cons r t, f => by
    rw [List.all_cons, Bool.and_eq_true] at f
    rw [List.any_cons, List.any_cons, eqU_of r f.1, any_eqU t f.2]
theorem mem_eqAt {A : Around} {s : Shared} {x : V} {v : Value} (rx : RelV x v) (fx : flatV x = true) : ∀ {xs : List V} {us : List Value}, Vals xs us → xs.all flatV = true → ∀ u ∈ us, SeqAt.EqAt A s u v (eqU x u)
  | _, _, .nil, _ => fun u hu => by cases hu
  | y :: xs, u :: us, .cons r t, f => fun u' hu => by
    rw [List.all_cons, Bool.and_eq_true] at f
    rcases List.mem_cons.mp hu with rfl | hu
    · rw [eqU_of r f.1]; exact eqAt_V r rx f.1 fx
    · exact mem_eqAt rx fx t f.2 u' hu
def inV (x : V) (xs : List V) : Bool := xs.any fun y => eqV y x
def rIn (K : PySem.W.Frag) (neg : Bool) : R2 := fun x y H Q => ∃ p xs, y = .ref p ∧ (SqL K H p xs ∨ SqT K H p xs) ∧ flatV x = true ∧ xs.all flatV = true ∧ Q (.bl (if neg then !inV x xs else inV x xs)) H
theorem op_in_seq : OpR X (compareOp .In) (rIn X.K false) := by
  intro pins s σ H x y v u Q I rx ry h
  obtain ⟨p, xs, rfl, hq, fx, fs, q⟩ := h
  cases ry
  rcases hq with hq | hq
  · obtain ⟨its, r, pl, hz⟩ := I.list hq
    refine SeqAt.in_listAt (eqU x) pl.isList (fun w hw => mem_eqAt rx fx r fs w (by simpa using hw)) ⟨.bl _, H, I, rfl, ?_⟩
    rw [show its.toArray.any (eqU x) = its.any (eqU x) by simp, any_eqU r fs]
    exact q
  · obtain ⟨its, r, pl, hz⟩ := I.tuple hq
    refine SeqAt.in_tupleAt (eqU x) pl (fun w hw => mem_eqAt rx fx r fs w (by simpa using hw)) ⟨.bl _, H, I, rfl, ?_⟩
    rw [show its.toArray.any (eqU x) = its.any (eqU x) by simp, any_eqU r fs]
    exact q
theorem call_len_seq : CallR X (.builtin "len") (fun xs H Q => ∃ p ys, xs = [.ref p] ∧ (SqL X.K H p ys ∨ SqT X.K H p ys) ∧ Q (.int ys.length) H) := by
  intro pins s σ H xs us Q I r h
  obtain ⟨p, ys, rfl, hq, q⟩ := h
  obtain ⟨u, rfl, rx⟩ := vals1 r
  cases rx
  have hn := line63
  rcases hq with hq | hq
  · obtain ⟨its, r', pl, hz⟩ := I.list hq
    have hlen := r'.length
    exact Calls.call_len_list pl.isList (by simp only [List.size_toArray] <;> omega) ⟨.int ys.length, H, I.tok _, ⟨s.toks + 1, by rw [List.size_toArray, hlen]⟩, q⟩
  · obtain ⟨its, r', pl, hz⟩ := I.tuple hq
    have hlen := r'.length
    exact len_tuple pl (by simp only [List.size_toArray] <;> omega) ⟨.int ys.length, H, I.tok _, ⟨s.toks + 1, by rw [List.size_toArray, hlen]⟩, q⟩
theorem call_len_str : CallR X (.builtin "len") (fun xs H Q => ∃ z, xs = [.str z] ∧ z.length ≤ sizeLine ∧ Q (.int z.length) H) := by
  intro pins s σ H xs us Q I r h
  obtain ⟨z, rfl, hz, q⟩ := h
  obtain ⟨u, rfl, t, rfl⟩ := vals1 r
  have hn := line63
  exact len_str (by omega) ⟨.int z.length, H, I.tok _, ⟨_, rfl⟩, q⟩
theorem call_list_of : CallR X (.type "list") (fun xs H Q => ∃ p ys, xs = [.ref p] ∧ (SqL X.K H p ys ∨ SqT X.K H p ys) ∧ ∀ l, H l = none → Q (.ref l) (upd H l (.lst ys))) := by
  intro pins s σ H xs us Q I r h
  obtain ⟨p, ys, rfl, hq, q⟩ := h
  obtain ⟨u, rfl, rx⟩ := vals1 r
  cases rx
  have fin : ∀ (its : List Value), Vals ys its → ys.length ≤ sizeLine → ∀ (h' : Heap) (c' : Nat), (∀ b o', s.heap.get? b = some o' → h'.get? b = some o') →
      h'.get? s.heap.objs.size = some { cls := .type "list", dict := none, data := .seq its.toArray c', slots := #[] } → EP X pins σ Q (.ref s.heap.objs.size) { s with heap := h' } := fun its r' hz h' c' kp e =>
    ⟨.ref s.heap.objs.size, _, I.laid (t' := s.toks) kp (Nat.le_refl _) (show ObjOk X.prog X.w _ h' _ (.lst ys) from ⟨hz, its, c', r', e⟩), rfl, q _ (I.hok.fresh (Nat.le_refl _))⟩
  rcases hq with hq | hq
  · obtain ⟨its, r', pl, hz⟩ := I.list hq
    have hlen := r'.length
    obtain ⟨o, ho, hc, n, hd⟩ := pl.isList
    exact call_list_seq p (.inl rfl) ho hc hd (fun h' c' kp e => fin its r' hz h' c' kp e) (by simp only [List.size_toArray] <;> omega)
  · obtain ⟨its, r', pl, hz⟩ := I.tuple hq
    have hlen := r'.length
    obtain ⟨o, ho, hc, n, hd⟩ := pl
    exact call_list_seq p (.inr rfl) ho hc hd (fun h' c' kp e => fin its r' hz h' c' kp e) (by simp only [List.size_toArray] <;> omega)
theorem call_tuple_of : CallR X (.type "tuple") (fun xs H Q => ∃ p ys, xs = [.ref p] ∧ ((SqL X.K H p ys ∧ ∀ l, H l = none → Q (.ref l) (upd H l (.tup ys))) ∨ (SqT X.K H p ys ∧ Q (.ref p) H))) := by
  intro pins s σ H xs us Q I r h
  obtain ⟨p, ys, rfl, h⟩ := h
  obtain ⟨u, rfl, rx⟩ := vals1 r
  cases rx
  rcases h with ⟨hq, q⟩ | ⟨hq, q⟩
  · obtain ⟨its, r', pl, hz⟩ := I.list hq
    have hlen := r'.length
    refine call_tuple_list pl.isList (fun h' kp => ?_) (by simp only [List.size_toArray] <;> omega)
    have I1 : Inv X pins σ H { s with heap := h' } := I.kept (t' := s.toks) kp
    have I2 : Inv X pins σ (upd H h'.objs.size (.tup ys)) { s with heap := h'.push { cls := .type "tuple", data := .seq its.toArray } } :=
      I1.laid (t' := s.toks) (fun b o e => Heap.get?_push_of_some _ e) (Nat.le_refl _) (show ObjOk X.prog X.w _ _ _ (.tup ys) from ⟨hz, its, r', IsTupD.new _ _⟩)
    exact ⟨.ref h'.objs.size, _, I2, rfl, q _ (I1.hok.fresh (Nat.le_refl _))⟩
  · obtain ⟨its, r', pl, hz⟩ := I.tuple hq
    exact call_tuple_same pl ⟨.ref p, H, I, rfl, q⟩

def tyV (K : PySem.W.Frag) (T : String) (x : V) (H : Hp) : Prop := match x with
  | .str _ => T = "str"
  | .int _ => T = "int"
  | .ref p => (T = "list" ∧ ∃ xs, SqL K H p xs) ∨ (T = "tuple" ∧ ∃ o, K.lookup p = some o ∧ o.cls = .type "tuple" ∧ o.dict = none) ∨
      (T = "dict" ∧ ((∃ kvs, H p = some (.dK kvs)) ∨ ∃ kvs, H p = some (.dT kvs))) ∨ (T = "set" ∧ ∃ S n, H p = some (.set S n)) ∨ (T = "tuple" ∧ ∃ xs, H p = some (.tup xs))
  | _ => False
theorem tyV_is {pins : List (Addr × Obj)} {σ : St} {H : Hp} {s : Shared} {T : String} {x : V} {v : Value} (I : Inv X pins σ H s) (r : RelV x v) (ty : tyV X.K T x H) :
    s.TypeIs v T ∧ ∀ a, v = .ref a → ∃ ob, s.heap.get? a = some ob ∧ ob.dict = none := by
  cases x with
  | str z =>
    obtain ⟨t, rfl⟩ := r
    cases (show T = "str" from ty)
    exact ⟨typeIs_str s z t, fun _ e => nomatch e⟩
  | int i =>
    obtain ⟨t, rfl⟩ := r
    cases (show T = "int" from ty)
    exact ⟨typeIs_int s i t, fun _ e => nomatch e⟩
  | ref p =>
    cases r
    rcases ty with ⟨rfl, xs, hq⟩ | ⟨rfl, o, hk, hc, hd⟩ | ⟨rfl, hk⟩ | ⟨rfl, S, n, hk⟩ | ⟨rfl, xs, hk⟩
    · obtain ⟨its, _, pl, _⟩ := I.list hq
      refine ⟨pl.isList.typeIs, fun a e => ?_⟩
      cases e
      obtain ⟨o, n, e, c, hd, _⟩ := pl
      exact ⟨o, e, hd⟩
    · refine ⟨⟨o, I.kIn p o hk, hc⟩, fun a e => ?_⟩
      cases e
      exact ⟨o, I.kIn _ o hk, hd⟩
    · have z : ∃ o, s.heap.get? p = some o ∧ o.ExactDict := by
        rcases hk with ⟨kvs, hk⟩ | ⟨kvs, hk⟩
        · obtain ⟨_, _, _, _, o, _, _, e, ex, _⟩ := I.hok p _ hk
          exact ⟨o, e, ex⟩
        · obtain ⟨_, _, _, _, o, _, _, e, ex, _⟩ := I.hok p _ hk
          exact ⟨o, e, ex⟩
      obtain ⟨o, e, ex⟩ := z
      refine ⟨⟨o, e, ex.1⟩, fun a e2 => ?_⟩
      cases e2
      exact ⟨o, e, ex.2.1⟩
    · obtain ⟨o, _, _, _, e, ex, _⟩ := I.hok p _ hk
      refine ⟨⟨o, e, ex.1⟩, fun a e2 => ?_⟩
      cases e2
      exact ⟨o, e, ex.2.1⟩
    · obtain ⟨_, _, _, o, e, hc, _, _, hd⟩ := (show ObjOk X.prog X.w H s.heap p (.tup xs) from I.hok p _ hk)
      refine ⟨⟨o, e, hc⟩, fun a e2 => ?_⟩
      cases e2
      exact ⟨o, e, hd⟩
  | _ => exact False.elim ty
def tBM0 (K : PySem.W.Frag) (T : String) (r : V → List V → Hp → VK → Prop) (to : TE) : TE := fun σ H Q => to σ H fun x H1 => tyV K T x H1 ∧ r x [] H1 Q
def tBM (K : PySem.W.Frag) (T : String) (r : V → List V → Hp → VK → Prop) (to : TE) (t : TA) : TE := fun σ H Q => to σ H fun x H1 => tyV K T x H1 ∧ t σ H1 fun xs H2 => r x xs H2 Q
variable {o e : Expr} {es : List Expr} {to : TE} {t : TA} {name : Str} {apos cpos : Pos} {T id : String} {r : V → List V → Hp → VK → Prop}
theorem pe_bm0 (pa : PlainAttrs T) (slot : Slot T name id) (hty : typeOf (.builtin id) = pure (.type "method_descriptor")) (hm : MtR X id r) (ho : PE X o to)
    (hbase : attributeBase o name X.env (eval o X.env) = eval o X.env := by rfl) (hline : (apos.endLine == cpos.line) = true := by rfl) : PE X (.Call (.Attribute o name apos) [] [] cpos) (tBM0 X.K T r to) := by
  intro pins s σ H Q I h
  refine wpAny_Call_method0_late hbase hline (thn (ho pins s σ H _ I h) fun v s1 ⟨x, H1, I1, r1, ty, q1⟩ => ?_)
  obtain ⟨h1, h2⟩ := tyV_is I1 r1 ty
  exact ⟨T, id, pa, slot, hty, h1, h2, Calls.callWith_builtin rfl (PySem.evalArgs_none (hm pins s1 σ H1 x [] v [] Q I1 r1 .nil q1))⟩
theorem pe_bm (pa : PlainAttrs T) (slot : Slot T name id) (hty : typeOf (.builtin id) = pure (.type "method_descriptor")) (hm : MtR X id r) (ho : PE X o to) (ha : PA X (e :: es) t)
    (hbase : attributeBase o name X.env (eval o X.env) = eval o X.env := by rfl)
    (hfew : ((backTo cpos (starEach (e :: es) X.env)).all (fun x => !x.1) && (backToKw cpos (keywordEach [] X.env)).all (fun x => x.1.isSome)
      && decide ((e :: es).length + ([] : List Keyword).length + (if ([] : List Keyword).isEmpty then 0 else 1) < 30)) = true := by rfl)
    (hline : (apos.endLine == cpos.line) = true := by rfl) (hs : starEach (e :: es) X.env = (false, eval e X.env) :: starEach es X.env := by rfl) (hplain : (backTo cpos (starEach es X.env)).any (·.1) = false := by rfl) :
    PE X (.Call (.Attribute o name apos) (e :: es) [] cpos) (tBM X.K T r to t) := by
  intro pins s σ H Q I h
  refine wpAny_Call_method_late hbase hfew hline rfl (thn (ho pins s σ H _ I h) fun v s1 ⟨x, H1, I1, r1, ty, q1⟩ => ?_)
  obtain ⟨h1, h2⟩ := tyV_is I1 r1 ty
  refine ⟨T, id, pa, slot, hty, h1, h2, ?_⟩
  have hA := ha cpos pins s1 σ H1 _ I1 q1
  rw [hs] at hA ⊢
  refine Calls.callWith_builtin (by show (false || (backTo cpos (starEach es X.env)).any (·.1)) = false; rw [hplain] <;> rfl) (Calls.evalArgs_plain ?_)
  exact thn hA fun us s2 ⟨vs, H2, I2, r2, q2⟩ => hm pins s2 σ H2 x vs v us Q I2 r1 r2 q2
end
end L2

namespace L2
open PySem PySem.Spec PyProof.Rows

def MtM (X : Cx) (id : String) (r : V → List V → Hp → VK → Prop) : Prop :=
  ∀ (pins : List (Addr × Obj)) (s : Shared) (σ : St) (H : Hp) (x : V) (xs : List V) (v : Value) (us : List Value) (Q : VK), Inv X pins σ H s → RelV x v → Vals xs us → r x xs H Q →
    wpAny (model X.prog X.w) X.A (call (.builtin id) (v :: us)) (EP X pins σ Q) X.xe s

theorem Vals.one : ∀ {x : V} {us : List Value}, Vals [x] us → ∃ u, us = [u] ∧ RelV x u
  | _, _, .cons r .nil => ⟨_, rfl, r⟩
theorem Vals.two : ∀ {x y : V} {us : List Value}, Vals [x, y] us → ∃ u v, us = [u, v] ∧ RelV x u ∧ RelV y v
  | _, _, _, .cons r (.cons q .nil) => ⟨_, _, rfl, r, q⟩
theorem Vals.zero : ∀ {us : List Value}, Vals [] us → us = []
  | _, .nil => rfl
section
variable {X : Cx} {pins : List (Addr × Obj)} {σ : St} {H : Hp} {s : Shared} {l b : Addr} {xs ys zs : List V}

theorem Inv.lset {its its' : List Value} {n : Nat} {f : Array Value → Array Value} {t' : Nat} (I : Inv X pins σ H s) (hH : H l = some (.lst xs))
    (e : s.heap.get? l = some { cls := .type "list", data := .seq its.toArray n }) (hf : f its.toArray = its'.toArray) (hv : Vals ys its') (hz : ys.length ≤ sizeLine) :
    Inv X pins σ (upd H l (.lst ys)) { s with heap := s.heap.update l (Obj.mapSeq f), toks := t' } := by
  have q := PySem.IsL.update e f
  rw [hf] at q
  refine I.write (x := l) (e := l) (by rw [hH]; exact trivial) (.inl rfl) (fun b' u hb hu => (Heap.get?_update_other s.heap (Obj.mapSeq f) (Ne.symm hb)).trans hu) ⟨_, q⟩ ?_
  exact ⟨hz, its', _, hv, q⟩
theorem Inv.lnew {its : List Value} {t' : Nat} (I : Inv X pins σ H s) (hv : Vals ys its) (hz : ys.length ≤ sizeLine) :
    Inv X pins σ (upd H s.heap.objs.size (.lst ys)) { s with heap := s.heap.push { cls := .type "list", data := .seq its.toArray }, toks := t' } :=
  I.laid (fun _ _ q => Heap.get?_push_of_some _ q) (Nat.le_refl _) ⟨hz, its, 0, hv, Heap.get?_push_size _ rfl⟩
theorem Inv.fresh (I : Inv X pins σ H s) : H s.heap.objs.size = none := I.hok.fresh (Nat.le_refl _)
theorem Inv.lstM (I : Inv X pins σ H s) (hH : H l = some (.lst xs)) : xs.length ≤ sizeLine ∧ ∃ (its : List Value) (n : Nat), Vals xs its ∧ xs.length = its.length ∧ s.heap.get? l = some { cls := .type "list", data := .seq its.toArray n } := by
  obtain ⟨z, its, n, r, e⟩ := I.hok l _ hH
  exact ⟨z, its, n, r, r.length, e⟩

end

section
variable {X : Cx}

def rAppend : V → List V → Hp → VK → Prop := fun x vs H Q => ∃ l xs y, x = .ref l ∧ vs = [y] ∧ H l = some (.lst xs) ∧ xs.length < sizeLine ∧ Q .non (upd H l (.lst (xs ++ [y])))
theorem mt_append : MtM X "list.append" rAppend := by
  intro pins s σ H x vs v us Q I rx rv h
  obtain ⟨l, xs, y, rfl, rfl, hH, hz, q⟩ := h
  cases rx
  obtain ⟨u, rfl, ru⟩ := rv.one
  obtain ⟨z, its, n, r, hl, e⟩ := I.lstM hH
  refine call_meets F.slot_list_append ⟨_, e, rfl⟩ F.entry_list_append (F.args_list_append_2 _ _) (PySem.list_append l its.toArray n u (by rw [List.size_toArray]; omega)) ⟨e, ?_⟩
  refine ⟨.non, _, I.lset (its' := its ++ [u]) hH e (by simp) (r.append (.cons ru .nil)) ?_, rfl, q⟩
  rw [List.length_append, List.length_singleton]
  omega

def rCat : R2 := fun x y H Q => ∃ l b xs zs, x = .ref l ∧ y = .ref b ∧ H l = some (.lst xs) ∧ H b = some (.lst zs) ∧ xs.length + zs.length ≤ sizeLine ∧ ∀ p, H p = none → Q (.ref p) (upd H p (.lst (xs ++ zs)))
theorem op_cat : OpR X (binaryOp .Add) rCat := by
  intro pins s σ H x y v u Q I rx ry h
  obtain ⟨l, b, xs, zs, rfl, rfl, hH, hB, hz, q⟩ := h
  cases rx
  cases ry
  obtain ⟨z, its, n, r, hl, e⟩ := I.lstM hH
  obtain ⟨z2, its2, n2, r2, hl2, e2⟩ := I.lstM hB
  refine PySem.P.add_list e e2 ?_ (by rw [List.size_toArray, List.size_toArray]; omega)
  have ea : its.toArray ++ its2.toArray = (its ++ its2).toArray := by simp
  rw [ea]
  exact ⟨.ref _, _, I.lnew (t' := s.toks) (r.append r2) (by rw [List.length_append]; omega), rfl, q _ I.fresh⟩
end

section
variable {prog : Program} {w : World} {A : Around} {E : Value → Shared → Prop} {s : Shared}
end

section
variable {X : Cx}
end
end L2

namespace Att
open PySem PySem.W PySem.Calls PyProof.Rows

theorem ints_of_wellAll {P : Params} {h : Heap} : ∀ (ns : List Int) (vs : List Value), WellAll P h vs (ns.map WData.int) → IntsAre vs ns := by
  intro ns
  induction ns with
  | nil =>
    intro vs w
    rw [List.map_nil] at w
    cases w
    exact .nil
  | cons n ns ih =>
    intro vs w
    rw [List.map_cons] at w
    cases w with
    | cons a b =>
      cases a
      exact .cons _ _ (ih _ b)

theorem script_of {l : OpenLaw} {n : Nat} (hn : l.most = some n) {P : Params} {h : Heap} {args : List WData} {vals : List Value}
    (hpre : l.row.toRowW.claim.pre args = true) (hwl : WellAll P h vals args) :
    ∃ a vs ns, vals = [Value.ref a] ∧ args = [WData.list (ns.map WData.int)] ∧ h.get? a = some { cls := .type "list", data := .seq vs.toArray } ∧ IntsAre vs ns ∧ ns.length ≤ n := by
  have hsh : WShape.hasAll [] args [.list .int] = true := (pre_splitW hpre).1
  have hc : l.pre.holds [] { args := args } = true := (pre_splitW hpre).2
  obtain ⟨d, r, rfl, h1, h2⟩ := hasAllW_cons hsh
  obtain rfl := hasAllW_nil h2
  obtain ⟨xs, rfl, h3⟩ := hasW_list h1
  obtain ⟨ns, rfl⟩ := items_int h3
  have hlen : ns.length ≤ n := by
    unfold OpenLaw.pre at hc
    have h4 : (WTm.not (.lt (.lit (.int (n : Int))) (.len (.arg 0)))).holds [] { args := [.list (ns.map .int)] } = true := by
      have h4 := (holds_andW hc).1
      rw [hn] at h4
      exact h4
    have h5 := condW_of h4 (w_not (w_lt w_lit (w_len_list (w_arg rfl))))
    rw [List.length_map] at h5
    refine Nat.le_of_not_lt fun q => ?_
    have q' : (n : Int) < ((ns.length : Nat) : Int) := by omega
    first
      | (rw [decide_eq_true q'] at h5; exact absurd h5 (by decide))
      | (simp at h5; omega)
  cases hwl with
  | cons w1 w2 =>
    cases w2
    cases w1 with
    | list ho hall => exact ⟨_, _, ns, rfl, rfl, ho, ints_of_wellAll ns _ hall, hlen⟩

theorem post_true (l : OpenLaw) (args : List WData) : l.row.toRowW.claim.post args (.bool true) args = true :=
  postW_of (r := l.row.toRowW) (X := (true == true))
    (show WShape.has [] (.bool true) .bool = true by first | rfl | decide | simp [WShape.has, WShape.arms, WShape.armsAll])
    (show (WTm.eq .res (.lit (.bool true))).value [] { args := args, res := some (.bool true), after := args } = some (.bool (true == true)) from w_eq_bool (w_res rfl) w_lit) rfl

theorem attach_call {l : OpenLaw} {n : Nat} {q : Program} {loose : List Str} {XP : (Str → Option Value) → Heap → Prop} {YP : World → Heap → Prop} {d : DefRec}
    (hn : l.most = some n) (hdf : d.params.defaults = [])
    (call : ∀ (w : World) (s₀ s₁ : Shared) (mg mb : Str → Option Value) (fa : Addr) (o : Obj) (pm cd doc : Value) (a : Addr) (vs : List Value) (ns : List Int),
      Ground q loose [] XP w s₀ mg mb s₁.heap → YP w s₁.heap →
      s₁.heap.get? fa = some o → o.data = .func (docDef d.name d.params d.body d.scope pm cd doc) → s₁.heap.CodeRec cd d.name → mg d.name = some (.ref fa) →
      s₁.heap.get? a = some { cls := .type "list", data := .seq vs.toArray } → IntsAre vs ns → ns.length ≤ n → s₁.gens = #[] →
      codeAny (model l.prog w) callerA (.call (.ref fa) ⟨[.ref a], []⟩) (fun r s' => r = .ok (.ret (.bool true)) ∧ OldK s₁.heap s'.heap ∧ s'.os = s₁.os ∧ AllBare s'.gens) s₁) :
    WalkO q loose XP YP l.row.toRowW d [] (fun f vs => PySem.call f vs) := by
  intro w s₀ s₁ mg mb G Y fa o pm cd doc dV kV ho hd hcd hD hmg hg args vals as hpre hlay hrd hwl hlo
  obtain rfl : dV = .none := Dflts.none hD hdf
  obtain rfl : kV = .none := Dflts.noKw hD
  obtain ⟨a, vs, ns, rfl, rfl, hobj, hints, hlen⟩ := script_of hn hpre hwl
  refine enter_call (codeAny_mono (call w s₀ s₁ mg mb fa o pm cd doc a vs ns G Y ho (fd_plain hd) hcd hmg hobj hints hlen hg) fun r s' hq => ?_)
  obtain ⟨rfl, h2, h3, h4⟩ := hq
  exact ⟨.inl ⟨.bool true, .bool true, [], rfl, fun _ => rfl, .bool true, post_true l _, fun _ => ⟨List.Pairwise.nil, fun _ hm => (nomatch hm)⟩⟩, h2, h3, h4⟩

section
variable {prog : Program} {w : World} {A : Around} {E : Value → Shared → Prop} {s : Shared} {K : Frag}

def noObjs (h : Heap) : Heap := { h with objs := #[] }
def ledger (h : Heap) (L d : Addr) : List (Addr × Obj) := (List.range h.objs.size).filterMap fun a => if a = L ∨ a = d then none else (h.get? a).map fun o => (a, o)
end
end Att

namespace L2
open PySem PySem.Spec PyProof.Rows

theorem vals_ints : ∀ {vs : List Value} {ns : List Int}, IntsAre vs ns → Vals (ns.map V.int) vs
  | _, _, .nil => .nil
  | _, _, .cons n t h => .cons ⟨t, rfl⟩ (vals_ints h)

def Only (H : Hp) : Prop := ∀ b, H b = none ∨ ∃ o xs, H b = some (.frz o (.lst xs))

theorem law_call {P : Program} {w : World} {K : PySem.W.Frag} {mg mb : Str → Option Value} {CX : CXT} {k : Nat} {fa a : Addr} {fd : FuncData} {x : Str} {sp : Sp} {s₁ : Shared} {vs : List Value} {ns : List Int}
    (KX : K.In s₁.heap) (hns : s₁.heap.Ns mainGlobals mg) (hb : s₁.heap.Ns builtinsNs mb) (hbb : ∀ x : Str, x ≠ "__name__" → mb x = bootBuiltins x) (hlim : s₁.heap.NoLimit) (hg : s₁.gens = #[])
    (ha : s₁.heap.get? a = some { cls := .type "list", data := .seq vs.toArray }) (hi : IntsAre vs ns) (hl : ns.length ≤ sizeLine) (hr : Room k callerA)
    (F : ∀ base : Heap, K.In base → base.Ns mainGlobals mg → FnOk P w K mg base CX k fa fd [x] sp) (hbind : ∀ (s : Shared) (u : Value), BindsTo s fd ⟨[u], []⟩ [(x, u)])
    (hsp : ∀ H : Hp, Only H → SqL K H a (ns.map V.int) → sp [.ref a] H (fun v _ => v = .bl true) fun _ _ _ => False)
    (hCX : ∀ H e s', CX [] H s₁ (fun _ _ _ => False) e s' → False) :
    codeAny (model P w) callerA (.call (.ref fa) ⟨[.ref a], []⟩) (fun r s' => r = .ok (.ret (.bool true)) ∧ OldK s₁.heap s'.heap ∧ s'.os = s₁.os ∧ AllBare s'.gens) s₁ := by
  have rv := vals_ints hi
  have lenV := hi.length
  have core : ∀ H : Hp, Only H → SqL K H a (ns.map V.int) → HOk P w H s₁.heap → (∀ b, H b ≠ none → b = a) → (H a ≠ none → K.lookup a = none) →
      codeAny (model P w) callerA (.call (.ref fa) ⟨[.ref a], []⟩) (fun r s' => r = .ok (.ret (.bool true)) ∧ OldK s₁.heap s'.heap ∧ s'.os = s₁.os ∧ AllBare s'.gens) s₁ := by
    intro H hO hS hok hA hK
    have base_of : ∀ {b : Addr} {o : Obj}, s₁.heap.get? b = some o → H b = none → (hidT s₁.heap H).get? b = some o := fun e n => hidT_get e n
    have noA : ∀ {b : Addr} {o : Obj} {es : Array DictEntry} {ep : Nat}, s₁.heap.get? b = some o → o.data = .dict es ep → H b = none := fun {b o es ep} e d => by
      cases q : H b with
      | none => rfl
      | some u =>
        have e' : b = a := hA b (by rw [q]; simp)
        subst e'
        rw [ha] at e; cases e
        have d' : Data.seq vs.toArray _ = Data.dict es ep := d
        cases d'
    have nsK : ∀ {b : Addr} {m : Str → Option Value}, s₁.heap.Ns b m → (hidT s₁.heap H).Ns b m := fun {b m} ⟨o, es, ep, e, d, r⟩ => ⟨o, es, ep, base_of e (noA e d), d, r⟩
    have hKb : K.In (hidT s₁.heap H) := fun b o e => base_of (KX b o e) (by
      cases q : H b with
      | none => rfl
      | some u =>
        have e' : b = a := hA b (by rw [q]; simp)
        subst e'
        rw [hK (by rw [q]; simp)] at e; cases e)
    have hM : Mod K mg (hidT s₁.heap H) := ⟨hKb, nsK hns, ⟨mb, nsK hb, hbb⟩, let ⟨mc, h1, h2⟩ := hlim; ⟨mc, nsK h1, h2⟩⟩
    have e0 : Env0 P w K mg (hidT s₁.heap H) callerA [] s₁ H := ⟨rfl, hM, fun b o e => of_hidT e, Nat.le_of_eq (hidT_size _ _), trivial, fun b hb => absurd (show b ∈ ([] : List Addr) from hb) (by simp), hok, .of_eq hg⟩
    refine codeAny_mono ((F _ hKb (nsK hns)).run callerA [] s₁ H ⟨[.ref a], []⟩ [.ref a] [.ref a] _ _ hr e0 (hbind s₁ (.ref a)) (.cons rfl .nil) (hsp H hO hS)) fun r s' h => ?_
    cases r with
    | error e => exact (hCX H e s' h).elim
    | ok fl =>
      cases fl with
      | next => exact False.elim h
      | brk => exact False.elim h
      | cont => exact False.elim h
      | ret u =>
        obtain ⟨v, H', os, bare, un, hok', r', q⟩ := h
        have q' : v = .bl true := q
        subst q'
        obtain rfl : u = Value.bool true := r'
        refine ⟨rfl, OldK.of_keep fun b o e => ?_, os, bare⟩
        cases q : H b with
        | none => exact un.keep b o e q (by intro z; exact absurd (show b ∈ ([] : List Addr) from z) (by simp)) (by simp)
        | some u =>
          rcases hO b with z | ⟨ob, xs, z⟩
          · rw [q] at z; cases z
          · have z2 := un.frzs b ob _ z
            obtain ⟨e1, _⟩ := hok b _ z
            obtain ⟨e2, _⟩ := hok' b _ z2
            rw [e] at e1; cases e1
            exact e2
  cases hk : K.lookup a with
  | some o =>
    have e := KX a o hk
    rw [ha] at e
    cases e
    refine core (fun _ => none) (fun _ => .inl rfl) (.inr ⟨_, vs.toArray, _, hk, rfl, rfl, rfl, by rw [List.size_toArray, lenV]; exact hl, by simpa using rv⟩) (fun b u z => by have z' : (none : Option HO) = some u := z; cases z') (fun b z => absurd rfl z) fun z => absurd rfl z
  | none =>
    refine core (fun b => if b = a then some (.frz { cls := .type "list", data := .seq vs.toArray } (.lst (ns.map V.int))) else none) (fun b => ?_) (.inl (.inr ⟨{ cls := .type "list", data := .seq vs.toArray }, if_pos rfl⟩)) (fun b u z => ?_) (fun b z => ?_) fun _ => hk
    · by_cases hb : b = a
      · exact .inr ⟨_, _, if_pos hb⟩
      · exact .inl (if_neg hb)
    · by_cases hb : b = a
      · have z' := (if_pos hb).symm.trans z
        cases z'
        subst hb
        exact ⟨ha, by rw [List.length_map]; exact hl, vs, _, rv, ha⟩
      · have z' := (if_neg hb).symm.trans z
        cases z'
    · by_cases hb : b = a
      · exact hb
      · exact absurd (if_neg hb) z
end L2

namespace L2
open PySem PySem.Spec PyProof.Rows

theorem walk_of {l : PySem.W.OpenLaw} {n k : Nat} {q : Program} {loose : List Str} {XP : (Str → Option Value) → Heap → Prop} {YP : World → Heap → Prop} {d : DefRec} {K : Params → PySem.W.Frag} {CX : World → CXT} {sp : World → Sp} {x : Str}
    (hn : l.most = some n) (hn2 : n ≤ sizeLine) (hdf : d.params.defaults = []) (hr : Room k callerA)
    (hY : ∀ (w : World) (h : Heap), YP w h → (K w.params).In h)
    (F : ∀ (w : World) (mg : Str → Option Value) (fa : Addr) (h : Heap), (K w.params).In h → h.Ns mainGlobals mg → mg d.name = some (.ref fa) →
      ∃ fd : FuncData, (∀ (s : Shared) (u : Value), BindsTo s fd ⟨[u], []⟩ [(x, u)]) ∧
        ∀ base : Heap, (K w.params).In base → base.Ns mainGlobals mg → FnOk l.prog w (K w.params) mg base (CX w) k fa fd [x] (sp w))
    (hsp : ∀ (w : World) (H : Hp) (a : Addr) (ns : List Int), ns.length ≤ n → Only H → SqL (K w.params) H a (ns.map V.int) → sp w [.ref a] H (fun v _ => v = .bl true) fun _ _ _ => False)
    (hCX : ∀ (w : World) (H : Hp) (s : Shared) (e : Value) (s' : Shared), CX w [] H s (fun _ _ _ => False) e s' → False) :
    PySem.W.WalkO q loose XP YP l.row.toRowW d [] (fun f vs => PySem.call f vs) := by
  refine Att.attach_call hn hdf fun w s₀ s₁ mg mb fa o pm cd doc a vs ns G Y ho hd hcd hmg hobj hints hlen hg => ?_
  have KX := hY w _ Y
  obtain ⟨fd, hb, hF⟩ := F w mg fa _ KX G.T.g hmg
  exact law_call KX G.T.g G.T.b G.T.builtins G.T.nolimit hg hobj hints (Nat.le_trans hlen hn2) hr hF hb (fun H hO hS => hsp w H a ns hlen hO hS) fun H e s' => hCX w H s₁ e s'
end L2


namespace L2
open PySem PySem.Spec PyProof.Rows

def inClass (s : Stmt) (j : Nat) : Stmt := match s with
  | .ClassDef _ _ _ body _ _ _ _ _ _ _ => body.getD j (.Pass ⟨0, 0, 0, 0⟩)
  | _ => .Pass ⟨0, 0, 0, 0⟩
def defArgs (s : Stmt) : Arguments := match s with
  | .FunctionDef _ a _ _ _ _ _ _ _ _ => a
  | _ => { posonlyargs := [], args := [], vararg := none, kwonlyargs := [], kw_defaults := [], kwarg := none, defaults := [] }
def defBody (s : Stmt) : List Stmt := match s with
  | .FunctionDef _ _ b _ _ _ _ _ _ _ => b
  | _ => []
def defScope (s : Stmt) : Scope := match s with
  | .FunctionDef _ _ _ _ _ _ sc _ _ _ => sc
  | _ => { kind := .function, names := [], isGenerator := false, isCoroutine := false }

abbrev CX0 : CXT := fun _ _ _ _ _ _ => False
abbrev E0 : XK := fun _ _ _ => False
theorem pass0 {X : Cx} : Passes CX0 X E0 := fun _ _ _ _ _ _ _ h => h.elim

structure Fun (K : PySem.W.Frag) (x qual : Str) (st : Stmt) (f : Addr) (fd : FuncData) : Prop where
  ex : ∃ (oc : Value) (od : Option Addr) (kV doc pm : Value) (an : Option Addr) (cdv ct : Value) (osl : Array (Option Value)),
    fd = PySem.W.fnOf x qual (defArgs st) (defBody st) (defScope st) .none kV doc pm an cdv ct ∧ K.lookup f = some ⟨oc, od, .func fd, osl⟩ ∧ PySem.W.codeIn K cdv qual = true
  kp : PySem.W.keepIn K (.ref f) = true
section
variable {P : Program} {w : World} {K : PySem.W.Frag} {mg : Str → Option Value} {base : Heap}
theorem Fun.ok {x qual : Str} {st : Stmt} {f : Addr} {fd : FuncData} {N ps : List Str} {k : Nat} {sp : Sp} (F : Fun K x qual st f fd) (S : FnScope N ps (defScope st)) (len : ∀ vs H Q E, sp vs H Q E → vs.length = ps.length)
    (hbody : ∀ (cdv : Value) (A : Around) (outer : List Env) (s : Shared) (H : Hp) (vs : List V) (Q : VK) (E : XK), Room k (A.deeper (envOfC qual (defScope st) s.heap.objs.size f cdv)) → sp vs H Q E →
      ∃ t, PSs (cxOf CX0 P w K mg base N qual (defScope st) f cdv A outer s H E).nox (defBody st) t ∧ t { nx := fun _ H' => Q .non H', rt := Q } (start N vs) H) : FnOk P w K mg base CX0 (k + 1) f fd ps sp := by
  obtain ⟨oc, od, kV, doc, pm, an, cdv, ct, osl, rfl, lk, hcd⟩ := F.ex
  refine fn_of lk hcd S len fun A outer s H vs Q E hr hsp => ?_
  obtain ⟨t, h, q⟩ := hbody cdv A outer s H vs Q E hr hsp
  exact ⟨t, h.nox, q⟩
theorem Fun.binds {x qual : Str} {st : Stmt} {f : Addr} {fd : FuncData} {ps : List Str} (F : Fun K x qual st f fd)
    (h : ∀ (kV doc pm : Value) (an : Option Addr) (cdv ct : Value) (us : List Value), us.length = ps.length → bindArgs (PySem.W.fnOf x qual (defArgs st) (defBody st) (defScope st) .none kV doc pm an cdv ct) ⟨us, []⟩ = pure (ps.zip us)) : Binds K fd ps [] := by
  obtain ⟨oc, od, kV, doc, pm, an, cdv, ct, osl, rfl, lk, hcd⟩ := F.ex
  exact .all (h kV doc pm an cdv ct)
theorem fun_mk {x qual : Str} {st : Stmt} {f : Addr} {oc : Value} {od an : Option Addr} {osl : Array (Option Value)} {kV doc pm cdv ct : Value} (l : K.lookup f = some ⟨oc, od, .func (PySem.W.fnOf x qual (defArgs st) (defBody st) (defScope st) .none kV doc pm an cdv ct), osl⟩)
    (c : PySem.W.codeIn K cdv qual = true) (k : PySem.W.keepIn K (.ref f) = true) : Fun K x qual st f (PySem.W.fnOf x qual (defArgs st) (defBody st) (defScope st) .none kV doc pm an cdv ct) := ⟨⟨oc, od, kV, doc, pm, an, cdv, ct, osl, rfl, l, c⟩, k⟩
end
theorem hu_of {A : Around} {k : Nat} (hr : Room k A) : A.units + 1 < cLine := Nat.lt_of_le_of_lt (Nat.add_le_add_left (by decide : 1 ≤ 64) _) hr.units
section
variable {X : Cx}
theorem pv (i : Nat) {x : Str} {pos : Pos} (hN : X.N[i]? = some x := by rfl) (hv : Vis X.env.scope x := by first | exact Or.inl rfl | exact Or.inr (Or.inl rfl) | exact Or.inr (Or.inr rfl)) (hd : (x == ("__debug__" : Str)) = false := by decide)
    (hcd : (x == ("__classdict__" : Str)) = false := by decide) : PE X (.Name x pos) (tVar i) := pe_var hN hv hd hcd
end

theorem iteF {A B : Prop} (h : B) : if false = true then A else B := by
  rw [if_neg Bool.false_ne_true]
  exact h
theorem iteT {A B : Prop} (h : A) : if true = true then A else B := by
  rw [if_pos rfl]
  exact h
theorem ite2 {c A B : Prop} [Decidable c] (h1 : c → A) (h2 : ¬ c → B) : if c then A else B := by
  by_cases h : c
  · rw [if_pos h]
    exact h1 h
  · rw [if_neg h]
    exact h2 h
def Same (H H' : Hp) : Prop := ∀ b o, H b = some o → H' b = some o
theorem Same.refl (H : Hp) : Same H H := fun _ _ h => h
theorem Same.trans {H H1 H2 : Hp} (a : Same H H1) (b : Same H1 H2) : Same H H2 := fun c o h => b c o (a c o h)
theorem Same.free {H H' : Hp} (e : Same H H') {l : Addr} (h : H' l = Option.none) : H l = Option.none := by
  cases q : H l with
  | none => rfl
  | some o =>
    rw [e l o q] at h
    cases h
theorem Same.seq {K : PySem.W.Frag} {H H' : Hp} {a : Addr} {xs : List V} (e : Same H H') (h : SqL K H a xs) : SqL K H' a xs := by
  rcases h with (h | ⟨o, h⟩) | h
  · exact .inl (.inl (e _ _ h))
  · exact .inl (.inr ⟨o, e _ _ h⟩)
  · exact .inr h

end L2


namespace L2
open PySem PySem.Spec PyProof.Rows
section
variable {X : Cx}
end
section
variable {κ : Type} [DecidableEq κ]
end
end L2

namespace Tx
open PySem PySem.Builtin PySem.Builtin.Str
def cl (n d : Nat) : Option Int → Nat
  | none => d
  | some i => (max 0 (min (if i < 0 then i + n else i) n)).toNat
theorem cl_nat (n d k : Nat) : cl n d (some (k : Int)) = min k n := by
  show (max 0 (min (if (k : Int) < 0 then (k : Int) + n else (k : Int)) n)).toNat = min k n
  rw [if_neg (by omega)]
  omega
theorem cl_le (n d : Nat) (hd : d ≤ n) : ∀ o, cl n d o ≤ n
  | none => hd
  | some i => by
    show (max 0 (min (if i < 0 then i + n else i) n)).toNat ≤ n
    omega
theorem indices_eq (lo hi : Option Int) (n : Nat) : strSliceIndices lo hi 1 n = (List.range (cl n n hi - cl n 0 lo)).map (cl n 0 lo + ·) := by
  have h1 : ∀ (v : Option Int) (d : Nat), d ≤ n → (match v with | none => (d : Int) | some i => if (1 : Int) > 0 then max 0 (min (if i < 0 then i + n else i) n) else max (-1) (min (if i < 0 then i + n else i) (n - 1))) = ((cl n d v : Nat) : Int) := by
    intro v d hd
    cases v with
    | none => rfl
    | some i =>
      show (if (1 : Int) > 0 then max 0 (min (if i < 0 then i + n else i) n) else max (-1) (min (if i < 0 then i + n else i) (n - 1))) = (((max 0 (min (if i < 0 then i + n else i) n)).toNat : Nat) : Int)
      rw [if_pos (by decide)]
      omega
  rw [← sliceRange_one]
  unfold strSliceIndices
  have a := h1 lo 0 (Nat.zero_le _)
  have b := h1 hi n (Nat.le_refl _)
  simp only [show (1 : Int) > 0 by decide, if_true] at a b ⊢
  congr 1
theorem slice_codes (x : Str) (lo hi : Option Int) : (Txt.slice x lo hi).cps.toList = (x.cps.toList.drop (cl x.length 0 lo)).take (cl x.length x.length hi - cl x.length 0 lo) := by
  unfold Txt.slice
  rw [indices_eq]
  split
  · rename_i h
    have h' : cl x.length x.length hi - cl x.length 0 lo = x.length := by
      have := (Bool.and_eq_true_iff.mp h).2
      have := beq_iff_eq.mp this
      simpa using this
    have h2 := cl_le x.length x.length (Nat.le_refl _) hi
    have h4 := cl_le x.length 0 (Nat.zero_le _) lo
    have h3 : cl x.length 0 lo = 0 := by omega
    rw [h', h3, List.drop_zero, List.take_of_length_le]
    show x.cps.toList.length ≤ x.cps.size
    simp
  · rw [pick_run]
theorem app_codes (a b : Str) : (a ++ b).cps.toList = a.cps.toList ++ b.cps.toList := by
  simp [Str.cps_append]
end Tx

set_option maxHeartbeats 4000000

namespace L2
open PySem PySem.Spec PyProof.Rows

theorem forIn_cells {env : Env} {f : (Str × NameKind) → List (Str × Addr) → Sem (ForInStep (List (Str × Addr)))}
    (hf : ∀ n k cs, f (n, k) cs = if (k == NameKind.free) = true then (cellOf env n >>= fun c => pure (ForInStep.yield ((n, c) :: cs))) else pure (ForInStep.yield cs)) :
    ∀ (names : List (Str × NameKind)) (acc : List (Str × Addr)),
    (∀ y ∈ names, y.2 = .free → ∃ c, env.cells.lookup y.1 = some c) →
    (∀ x c, acc.lookup x = some c → env.cells.lookup x = some c) →
    ∃ cl, forIn names acc f = (pure cl : Sem _) ∧ (∀ x c, cl.lookup x = some c → env.cells.lookup x = some c) ∧ (∀ x c, acc.lookup x = some c → ∃ d, cl.lookup x = some d) ∧
      ∀ x, (x, NameKind.free) ∈ names → ∃ c, cl.lookup x = some c
  | [], acc, _, ha => ⟨acc, rfl, ha, fun x c e => ⟨c, e⟩, fun x m => absurd m (by simp)⟩
  | (n, k) :: r, acc, hn, ha => by
    have hr : ∀ y ∈ r, y.2 = .free → ∃ c, env.cells.lookup y.1 = some c := fun y hy => hn y (List.mem_cons_of_mem _ hy)
    by_cases hk : k = .free
    · subst hk
      obtain ⟨c, hc⟩ := hn (n, .free) List.mem_cons_self rfl
      have hcell : cellOf env n = pure c := by
        have hc' : env.cells.lookup n = some c := hc
        unfold cellOf
        rw [hc']
      have ha' : ∀ x d, List.lookup x ((n, c) :: acc) = some d → env.cells.lookup x = some d := fun x d e => by
        by_cases hx : (x == n) = true
        · rw [List.lookup_cons, hx] at e
          obtain rfl := beq_iff_eq.mp hx
          cases e
          exact hc
        · have hx' : (x == n) = false := by simpa using hx
          rw [List.lookup_cons, hx'] at e
          exact ha x d e
      obtain ⟨cl, e1, e2, e3, e4⟩ := forIn_cells hf r ((n, c) :: acc) hr ha'
      refine ⟨cl, ?_, e2, fun x d e => ?_, fun x m => ?_⟩
      · rw [List.forIn_cons, hf, if_pos (beq_self_eq_true _), hcell, pure_bind, pure_bind]
        exact e1
      · by_cases hx : (x == n) = true
        · exact e3 x c (by rw [List.lookup_cons, hx])
        · have hx' : (x == n) = false := by simpa using hx
          exact e3 x d (by rw [List.lookup_cons, hx']; exact e)
      · rcases List.mem_cons.mp m with q | q
        · have q' : x = n := congrArg Prod.fst q
          subst q'
          exact e3 x c (by rw [List.lookup_cons, beq_self_eq_true])
        · exact e4 x q
    · have hk' : (k == NameKind.free) = false := by simpa using hk
      obtain ⟨cl, e1, e2, e3, e4⟩ := forIn_cells hf r acc hr ha
      refine ⟨cl, ?_, e2, e3, fun x m => ?_⟩
      · rw [List.forIn_cons, hf, hk', if_neg Bool.false_ne_true, pure_bind]
        exact e1
      · rcases List.mem_cons.mp m with q | q
        · exact absurd (congrArg Prod.snd q).symm hk
        · exact e4 x q

theorem closure_ok {scope : Scope} {env : Env} (h : ∀ y ∈ scope.names, y.2 = .free → ∃ c, env.cells.lookup y.1 = some c) :
    ∃ cl, closureFor scope env = pure cl ∧ (∀ x c, cl.lookup x = some c → env.cells.lookup x = some c) ∧ ∀ x, (x, NameKind.free) ∈ scope.names → ∃ c, cl.lookup x = some c := by
  obtain ⟨cl, e1, e2, _, e4⟩ := forIn_cells (env := env) (f := fun (x : Str × NameKind) cs => match x with | (name, kind) => if (kind == NameKind.free) = true then (cellOf env name >>= fun c => pure (ForInStep.yield ((name, c) :: cs))) else pure (ForInStep.yield cs)) (fun n k cs => rfl) scope.names [] h (fun x c e => by cases e)
  refine ⟨cl, ?_, e2, e4⟩
  have : closureFor scope env = (forIn scope.names [] (fun (x : Str × NameKind) cs => match x with | (name, kind) => if (kind == NameKind.free) = true then (cellOf env name >>= fun c => pure (ForInStep.yield ((name, c) :: cs))) else pure (ForInStep.yield cs)) >>= fun cs => pure cs) := by
    first | rfl | (unfold closureFor; rfl) | (unfold closureFor; simp only [pure_bind, bind_pure])
  rw [this, e1, pure_bind]

theorem lookup_relabel_free {env : Env} : ∀ {names : List (Str × NameKind)} {x : Str}, names.lookup x = some .free →
    (names.map fun (n, k) => if (k == NameKind.free && env.scope.kind == .function && env.kindOf n == some .cell) then (n, NameKind.cell) else (n, k)).lookup x = some .cell ∨
    (names.map fun (n, k) => if (k == NameKind.free && env.scope.kind == .function && env.kindOf n == some .cell) then (n, NameKind.cell) else (n, k)).lookup x = some .free
  | [], _, h => by simp at h
  | (n, k) :: r, x, h => by
    have ih := @lookup_relabel_free env r x
    show List.lookup x ((if (k == NameKind.free && env.scope.kind == .function && env.kindOf n == some .cell) = true then (n, NameKind.cell) else (n, k)) :: _) = _ ∨ List.lookup x ((if (k == NameKind.free && env.scope.kind == .function && env.kindOf n == some .cell) = true then (n, NameKind.cell) else (n, k)) :: _) = _
    cases hx : x == n with
    | true =>
      simp only [List.lookup_cons, hx] at h
      cases h
      by_cases hc : (NameKind.free == NameKind.free && env.scope.kind == .function && env.kindOf n == some .cell) = true
      · rw [if_pos hc]; left; simp only [List.lookup_cons, hx]
      · rw [if_neg hc]; right; simp only [List.lookup_cons, hx]
    | false =>
      simp only [List.lookup_cons, hx] at h
      by_cases hc : (k == NameKind.free && env.scope.kind == .function && env.kindOf n == some .cell) = true
      · rw [if_pos hc]; simp only [List.lookup_cons, hx]; exact ih h
      · rw [if_neg hc]; simp only [List.lookup_cons, hx]; exact ih h
theorem relabel_was_free {env : Env} : ∀ {names : List (Str × NameKind)} {x : Str}, (∀ y ∈ names, y.2 ≠ .cell) →
    ((names.map fun (n, k) => if (k == NameKind.free && env.scope.kind == .function && env.kindOf n == some .cell) then (n, NameKind.cell) else (n, k)).lookup x = some .cell ∨
    (names.map fun (n, k) => if (k == NameKind.free && env.scope.kind == .function && env.kindOf n == some .cell) then (n, NameKind.cell) else (n, k)).lookup x = some .free) → (x, NameKind.free) ∈ names
  | [], _, _, h => by rcases h with h | h <;> simp at h
  | (n, k) :: r, x, hn, h => by
    have ih := @relabel_was_free env r x (fun y hy => hn y (List.mem_cons_of_mem _ hy))
    have h' : List.lookup x ((if (k == NameKind.free && env.scope.kind == .function && env.kindOf n == some .cell) = true then (n, NameKind.cell) else (n, k)) :: (r.map fun (n, k) => if (k == NameKind.free && env.scope.kind == .function && env.kindOf n == some .cell) then (n, NameKind.cell) else (n, k))) = some .cell ∨
      List.lookup x ((if (k == NameKind.free && env.scope.kind == .function && env.kindOf n == some .cell) = true then (n, NameKind.cell) else (n, k)) :: (r.map fun (n, k) => if (k == NameKind.free && env.scope.kind == .function && env.kindOf n == some .cell) then (n, NameKind.cell) else (n, k))) = some .free := h
    cases hx : x == n with
    | true =>
      obtain rfl := beq_iff_eq.mp hx
      have hk : k = .free := by
        by_cases hc : (k == NameKind.free && env.scope.kind == .function && env.kindOf x == some .cell) = true
        · have := (Bool.and_eq_true_iff.mp (Bool.and_eq_true_iff.mp hc).1).1
          exact beq_iff_eq.mp this
        · rw [if_neg hc] at h'
          simp only [List.lookup_cons, hx] at h'
          rcases h' with e | e
          · cases e; exact absurd rfl (hn (x, .cell) List.mem_cons_self)
          · cases e; rfl
      subst hk
      exact List.mem_cons_self
    | false =>
      refine List.mem_cons_of_mem _ (ih ?_)
      by_cases hc : (k == NameKind.free && env.scope.kind == .function && env.kindOf n == some .cell) = true
      · rw [if_pos hc] at h'; simp only [List.lookup_cons, hx] at h'; exact h'
      · rw [if_neg hc] at h'; simp only [List.lookup_cons, hx] at h'; exact h'

structure BlkR where
  cl : List (Str × Addr)
  C : Addr
  s₀ : Shared
  H₀ : Hp
  ex : List Addr
abbrev blk (X : Cx) (scope : Scope) (N' : List Str) (R : BlkR) : Cx :=
  { prog := X.prog, w := X.w, K := X.K, mg := X.mg, base := X.base, A := X.A, N := N', s₀ := R.s₀, H₀ := R.H₀, env := compEnvC scope R.cl R.C X.env, outer := X.stack, stack := X.stack, ex := R.ex, fn := fun _ => false, calm := X.calm, pn := [], xe := fun _ _ => False }

def PIfs (X : Cx) (ifs : List Expr) (t : TT) : Prop :=
  ∀ (pins : List (Addr × Obj)) (s : Shared) (σ : St) (H : Hp) (Q : Bool → Hp → Prop), Inv X pins σ H s → t σ H Q →
    wpAny (model X.prog X.w) X.A (forIn ifs true fun c r => if r = true then do let ok ← isTrue c X.env (eval c X.env); pure (ForInStep.yield ok) else pure (ForInStep.yield r)) (TP X pins σ Q) X.xe s
def tTrue : TT := fun _ H Q => Q true H
theorem pifs_nil {X : Cx} : PIfs X [] tTrue := fun pins s σ H Q I h => wpAny_tests_nil ⟨H, I, h⟩
theorem pifs_one {X : Cx} {c : Expr} {t : TT} (h : PT X c t) : PIfs X [c] t := fun pins s σ H Q I hw => wpAny_tests_one (h pins s σ H Q I hw)

def GKeep (nt : Nat) (g : TG) : Prop := ∀ x σ H Q, g x σ H Q → g x σ H fun σ2 H2 => Q σ2 H2 ∧ σ2.length = σ.length ∧ ∀ i, nt ≤ i → σ2[i]? = σ[i]?
theorem gkeep_name {nt i : Nat} (h : i < nt) : GKeep nt (gName i) := fun x σ H Q q =>
  ⟨q, by simp, fun j hj => List.getElem?_set_ne (by omega)⟩

def blkSt (nt : Nat) (cap : List Nat) (σ : St) : St := List.replicate nt none ++ cap.map fun j => (σ[j]?).join
theorem blkSt_len {nt : Nat} {cap : List Nat} {σ : St} : (blkSt nt cap σ).length = nt + cap.length := by simp [blkSt]
theorem blkSt_get {nt : Nat} {cap : List Nat} {σ : St} {i : Nat} {v : V} (h : (blkSt nt cap σ)[i]? = some (some v)) : ∃ j, nt ≤ i ∧ cap[i - nt]? = some j ∧ σ[j]? = some (some v) := by
  unfold blkSt at h
  by_cases hi : i < nt
  · rw [List.getElem?_append_left (by simpa using hi), List.getElem?_replicate] at h
    rw [if_pos hi] at h
    cases h
  · rw [List.getElem?_append_right (by simp; omega), List.length_replicate, List.getElem?_map] at h
    cases e : cap[i - nt]? with
    | none => rw [e] at h; cases h
    | some j =>
      rw [e] at h
      refine ⟨j, by omega, rfl, ?_⟩
      have h' : (σ[j]?).join = some v := by simpa using h
      cases q : σ[j]? with
      | none => rw [q] at h'; cases h'
      | some o => rw [q] at h'; cases o with
        | none => cases h'
        | some z => cases h'; rfl

theorem compLoop_turns {prog : Program} {w : World} {A : Around} {R : Result → Shared → Prop} {s : Shared} {elt target iter : Expr} {ifs : List Expr} {scope : Scope} {pos : Pos} {it acc : Value} {env : Env} (I : Nat → Shared → Prop)
    (turn : ∀ n s, I n s → wpAny (model prog w) A (pyNext it) (fun r s₁ => match r with
      | none => R (.ok .next) s₁
      | some v => wpAny (model prog w) A (letOwnedTupleGo target it v) (fun _ s₁ => wpAny (model prog w) A (assign target env v) (fun _ s₂ =>
          wpAny (model prog w) A (forIn ifs true fun c r => if r = true then do let ok ← isTrue c env (eval c env); pure (ForInStep.yield ok) else pure (ForInStep.yield r)) (fun ok s₃ =>
            if ok = true then wpAny (model prog w) A (eval elt env) (fun x s₄ =>
              wpAny (model prog w) A (call (.builtin "list.append") [acc, x]) (fun _ s₅ => ∃ m, m < n ∧ I m s₅) (notedBy (model prog w) A env fun e s' => R (.error e) s') s₄) (notedBy (model prog w) A env fun e s' => R (.error e) s') s₃
            else ∃ m, m < n ∧ I m s₃) (notedBy (model prog w) A env fun e s' => R (.error e) s') s₂) (notedBy (model prog w) A env fun e s' => R (.error e) s') s₁) (notedBy (model prog w) A env fun e s' => R (.error e) s') s₁) (notedBy (model prog w) A env fun e s' => R (.error e) s') s)
    (n : Nat) (h : I n s) :
    codeAny (model prog w) A (.compLoop (.ListComp elt [⟨target, iter, ifs, 0⟩] scope pos) 0 it acc env) R s := by
  refine codeAny_loop rfl I (fun n s hI => ?_) n h
  show wpAny _ A ((compTurn (.ListComp elt [⟨target, iter, ifs, 0⟩] scope pos) 0 it acc env).onRaise (fun x => do noteFrame x env; theTreesLotGoes x)) _ _ s
  refine wpAny_noted ?_
  rw [compTurn_list]
  refine wpAny_bind (wpAny_standAt (wpAny_bind (wpAny_mono (turn n s hI) (fun r s₁ h₁ => ?_) fun _ _ h' => h')))
  cases r with
  | none => exact wpAny_pure h₁
  | some v =>
    refine wpAny_bind (wpAny_mono h₁ (fun _ s₁' h₁' => ?_) fun _ _ h' => h')
    refine wpAny_bind (wpAny_mono h₁' (fun _ s₂ h₂ => wpAny_bind (wpAny_mono h₂ (fun ok s₃ h₃ => ?_) fun _ _ h' => h')) fun _ _ h' => h')
    cases ok with
    | false => exact wpAny_pure ⟨rfl, h₃⟩
    | true =>
      exact wpAny_bind (wpAny_bind (wpAny_mono h₃ (fun x s₄ h₄ => wpAny_bind (wpAny_mono h₄ (fun _ s₅ h₅ => wpAny_pure (wpAny_pure ⟨rfl, h₅⟩)) fun _ _ h' => h')) fun _ _ h' => h'))

abbrev CW := Nat → Nat → List V → Hp → Prop
def tTurn (σb : St) (J : It) (g : TG) (tt : TT) (te : TE) (W : CW) (fin : List V → Hp → Prop) (i m : Nat) (ys : List V) (H : Hp) : Prop :=
  (J.stop i H ∧ fin ys H) ∨
  (J.go i H ∧ ys.length < sizeLine ∧ ∀ x H', J.yld i H x H' → g x σb H' fun σ2 H2 => tt σ2 H2 fun b H3 =>
    if b = true then te σ2 H3 fun y H4 => ∃ m', m' < m ∧ W (i + 1) m' (ys ++ [y]) H4 else ∃ m', m' < m ∧ W (i + 1) m' ys H3)

structure BlkEnd (X : Cx) (pins : List (Addr × Obj)) (H : Hp) (C : Addr) (s : Shared) : Prop where
  ns : ∃ m, s.heap.Ns C m
  fr : H C = none
  ne : C ≠ X.env.locals
  ab : X.s₀.heap.objs.size ≤ C
  cl : ∀ x c, X.env.cells.lookup x = some c → c ≠ C
  pn : ∀ p ∈ X.pn ++ pins, p.1 ≠ C

theorem comp_block {X : Cx} {pins : List (Addr × Obj)} {σ : St} {s₂ : Shared} {H₂ : Hp} {elt iter tg : Expr} {ifs : List Expr} {scope : Scope} {pos : Pos} {N' : List Str} {nt : Nat} {cap : List Nat} {g : TG} {tt : TT} {te : TE} {cl : List (Str × Addr)}
    {it : Addr} {fp : List Addr} {tn : Nat → Heap → Prop} {J : It} {Q : List V → Hp → Prop} {E : Value → Shared → Prop}
    (hc : X.calm = true) (I₂ : Inv X pins σ H₂ s₂) (T : Turn X.prog X.w X.K tg J fp it tn) (st : tn 0 s₂.heap) (hf : ∀ b ∈ fp, FpOk X pins H₂ b)
    (hclk : ∀ x c, cl.lookup x = some c → X.env.cells.lookup x = some c) (hclh : ∀ x, (x, NameKind.free) ∈ scope.names → ∃ c, cl.lookup x = some c)
    (hcell : ∀ y ∈ scope.names, y.2 ≠ .cell) (hkind : scope.kind = .function)
    (hfr : ∀ y ∈ scope.names, y.2 = .free → (X.env.kindOf y.1 = some .cell ∨ X.env.kindOf y.1 = some .free))
    (hN : N'.length = nt + cap.length) (hcapN : ∀ (k j : Nat), cap[k]? = some j → N'[nt + k]? = X.N[j]?) (hcapF : ∀ x ∈ N'.drop nt, scope.names.lookup x = some .free)
    (hg : ∀ R, PG (blk X scope N' R) tg g) (hgk : GKeep nt g) (ht : ∀ R, PIfs (blk X scope N' R) ifs tt) (he : ∀ R, PE (blk X scope N' R) elt te)
    (h : ∃ W : CW, (∃ m, W 0 m [] H₂) ∧ ∀ i m ys H, W i m ys H → tTurn (blkSt nt cap σ) J g tt te W Q i m ys H)
    {RR : Value → Addr → Result → Shared → Prop}
    (hRR : ∀ D C s' H' ys, H' D = none → Q ys H' → Inv X pins σ (upd H' D (.lst ys)) s' → BlkEnd X pins (upd H' D (.lst ys)) C s' → RR (.ref D) C (.ok .next) s') :
    wpAny (model X.prog X.w) X.A (newList []) (fun acc s₃ => wpAny (model X.prog X.w) X.A (newFunctionEnv scope X.env.globals cl [] X.env.qual none .none (some X.env)) (fun cenv s₄ =>
      codeAny (model X.prog X.w) X.A (.compStart (.ListComp elt [⟨tg, iter, ifs, 0⟩] scope pos) 0 (.ref it) acc { cenv with scope := relabel scope X.env }) (RR acc cenv.locals) s₄) E s₃) E s₂ := by
  obtain ⟨W, ⟨m0, w0⟩, turn⟩ := h
  refine wpAny_newObj_type (wpAny_newFunctionEnv hcell (by intro y hy; simp at hy) (fun h₁ hns₁ hsb₁ => ?_) hkind)
  dsimp only at hns₁ hsb₁ ⊢
  generalize hH2 : s₂.heap.push { cls := .type "list", dict := none, data := .seq ([] : List Value).toArray } = Hx at hns₁ hsb₁ ⊢
  have hC : Hx.objs.size = s₂.heap.objs.size + 1 := by rw [← hH2, Heap.size_push]
  generalize hD : s₂.heap.objs.size = D at hC ⊢
  generalize hCC : Hx.objs.size = C at hns₁ hsb₁ hC ⊢
  have hDC : D ≠ C := by omega
  have below : ∀ b, b < s₂.heap.objs.size → b ≠ C ∧ b ≠ D := fun b hb => by omega
  have old : ∀ b o, s₂.heap.get? b = some o → h₁.get? b = some o := fun b o e => hsb₁.extBut b o (below b (Heap.lt_size e)).1 (Heap.get?_push_of_some _ (hH2 ▸ Heap.get?_push_of_some _ e))
  have hacc : h₁.get? D = some { cls := .type "list", data := .seq ([] : List Value).toArray } := hsb₁.extBut _ _ hDC (Heap.get?_push_of_some _ (by rw [← hH2, ← hD]; exact Heap.get?_push_size _ rfl))
  have freshD : H₂ D = none := I₂.hok.fresh (by omega)
  have freshC : H₂ C = none := I₂.hok.fresh (by omega)
  have fpo : ∀ b ∈ fp, ∃ o, s₂.heap.get? b = some o ∧ ∀ v, o.data ≠ .cell v := T.obj 0 _ st
  have fplt : ∀ b ∈ fp, b < s₂.heap.objs.size := fun b hb => let ⟨o, e, _⟩ := fpo b hb; Heap.lt_size e
  have celllt : ∀ x c, X.env.cells.lookup x = some c → c < s₂.heap.objs.size := fun x c e => let ⟨v, z⟩ := I₂.cell x c e; z.lt
  have pinlt : ∀ p ∈ X.pn ++ pins, p.1 < s₂.heap.objs.size := fun p hp => Heap.lt_size (I₂.pin p hp).1
  let R : BlkR := ⟨cl, C, s₂, H₂, fp⟩
  have okb : (blk X scope N' R).Ok := {
    mod := I₂.mod
    kind := hkind
    glob := I₂.ok.glob
    blt := I₂.ok.blt
    above := (by show s₂.heap.objs.size ≤ C; omega)
    inj := fun x y c e1 e2 => I₂.ok.inj x y c (hclk x c e1) (hclk y c e2)
    has := fun x hx => hclh x (relabel_was_free hcell hx)
    cab := fun x c hx _ => by cases hx
    hd := I₂.ok.hd
    frames := I₂.ok.frames
    stk := .inl rfl
    exf := fun b hb => ⟨(below b (fplt b hb)).1, fun x c e => (hf b hb).2.2.2.2.1 x c (hclk x c e)⟩
    bs := I₂.bs
    bsz := Nat.le_trans I₂.ok.bsz I₂.sz
    noex := fun b o e hb => by
      rcases (hf b hb).2.2.2.1 with z | z
      · exact I₂.ok.noex b o e z
      · exact absurd (Nat.lt_of_lt_of_le (Heap.lt_size e) (Nat.le_trans I₂.ok.bsz z)) (Nat.lt_irrefl _)
    exfs := fun b hb z => by
      rcases List.mem_cons.mp (I₂.stkSub b z) with q | q
      · exact (hf b hb).2.1 q
      · exact (hf b hb).2.2.1 q
    funs := I₂.stack
    frf := I₂.stkFree }
  have nofs : ∀ a, s₂.heap.objs.size ≤ a → a ∉ frs X.stack := fun a ha z => by
    rcases List.mem_cons.mp (I₂.stkSub a z) with q | q
    · exact absurd (Nat.lt_of_lt_of_le I₂.lt ha) (by rw [q]; exact Nat.lt_irrefl _)
    · exact I₂.nofs ha q
  have hDle : s₂.heap.objs.size ≤ D := by omega
  have hCle : s₂.heap.objs.size ≤ C := by omega
  have stat : ∀ {H' : Hp} {ob : Obj}, (∀ b ∈ fp, H' b = none) → ∀ b ∈ fp, FpOk (blk X scope N' R) [(D, ob)] H' b := fun {H' ob} hn b hb =>
    ⟨hn b hb, (below b (fplt b hb)).1, okb.exfs b hb, .inl hb, fun x c e => (hf b hb).2.2.2.2.1 x c (hclk x c e), fun p hp => by
      have e : p = (D, ob) := by simpa using hp
      rw [e]
      exact Ne.symm (below b (fplt b hb)).2⟩
  have entry : ∀ tk, Inv (blk X scope N' R) [(D, { cls := .type "list", data := .seq ([] : List Value).toArray })] (blkSt nt cap σ) H₂ { s₂ with heap := h₁, toks := tk } := fun tk => {
    ok := okb
    os := rfl
    bare := I₂.bare
    base := Un.kept old
    loc := by
      refine ⟨_, hns₁, fun i x v e1 e2 e3 => ?_⟩
      obtain ⟨j, hi, hj, hv⟩ := blkSt_get e2
      have hx : X.N[j]? = some x := by
        rw [← hcapN _ _ hj, show nt + (i - nt) = i by omega]
        exact e1
      have hxm : x ∈ N'.drop nt := by
        refine List.mem_of_getElem? (i := i - nt) ?_
        rw [List.getElem?_drop, show nt + (i - nt) = i by omega]
        exact e1
      have hfree := hcapF x hxm
      have hmem : (x, NameKind.free) ∈ scope.names := by
        have : ∀ (l : List (Str × NameKind)), l.lookup x = some .free → (x, NameKind.free) ∈ l := by
          intro l
          induction l with
          | nil => intro q; cases q
          | cons a r ih =>
            intro q
            obtain ⟨n, k⟩ := a
            cases hxn : x == n with
            | true =>
              rw [List.lookup_cons, hxn] at q
              obtain rfl := beq_iff_eq.mp hxn
              cases q
              exact List.mem_cons_self
            | false =>
              rw [List.lookup_cons, hxn] at q
              exact List.mem_cons_of_mem _ (ih q)
        exact this _ hfree
      have hk := hfr (x, .free) hmem rfl
      obtain ⟨m, hn, hl⟩ := I₂.loc
      have vis : Vis X.env.scope x := by
        rcases hk with k | k
        · exact .inr (.inl k)
        · exact .inr (.inr k)
      obtain ⟨u, ru, lk⟩ := hl j x v hx hv vis
      refine ⟨u, ru, ?_⟩
      rcases lk with ⟨k, _⟩ | ⟨k, c, hc1, hc2⟩
      · exfalso
        rcases hk with z | z
        · rw [z] at k; cases k
        · rw [z] at k; cases k
      · obtain ⟨d, hd⟩ := hclh x hmem
        have hd' := hclk x d hd
        rw [hc1] at hd'
        cases hd'
        refine .inr ⟨lookup_relabel_free hfree, c, hd, ?_⟩
        obtain ⟨o, ho, hdat⟩ := hc2
        exact ⟨o, old c o ho, hdat⟩
    cell := fun x c e => by
      obtain ⟨v, o, ho, hdat⟩ := I₂.cell x c (hclk x c e)
      exact ⟨v, o, old c o ho, hdat⟩
    free := freshC
    freeC := fun x c e => I₂.freeC x c (hclk x c e)
    pin := fun p hp => by
      have e : p = (D, { cls := .type "list", data := .seq ([] : List Value).toArray }) := by simpa using hp
      subst e
      exact ⟨hacc, freshD, hDC, nofs D hDle, fun v z => by cases z⟩
    hok := I₂.hok.kept old
    len := by rw [blkSt_len, hN] }
  have loop : ∀ tk, codeAny (model X.prog X.w) X.A (.compLoop (.ListComp elt [⟨tg, iter, ifs, 0⟩] scope pos) 0 (.ref it) (.ref D) (compEnvC scope cl C X.env)) (RR (.ref D) C) { s₂ with heap := h₁, toks := tk } := by
    intro tk
    refine compLoop_turns (fun n s' => ∃ i ys H' its k, Inv (blk X scope N' R) [(D, { cls := .type "list", data := .seq its.toArray k })] (blkSt nt cap σ) H' s' ∧ tn i s'.heap ∧ (∀ b ∈ fp, H' b = none) ∧ Vals ys its ∧ ys.length ≤ sizeLine ∧ W i n ys H') ?_ m0
      ⟨0, [], H₂, [], 0, entry tk, T.keep _ _ _ st fun b hb o e => old b o e, fun b hb => (hf b hb).1, .nil, Nat.zero_le _, w0⟩
    rintro n s3 ⟨i, ys, H3, its, k, I3, st3, fr3, rv, hz, w3⟩
    have pD := I3.pin (D, { cls := .type "list", data := .seq its.toArray k }) (by simp)
    rcases turn i n ys H3 w3 with ⟨stop, qn⟩ | ⟨go, hlt, step⟩
    · -- the end
      refine wpAny_mono (T.done (blk X scope N' R) rfl rfl rfl hc i _ s3 _ H3 (fun _ _ => False) I3 (stat fr3) st3 stop) (fun r s4 ⟨hr, I4⟩ => ?_) fun _ _ z => z.elim
      subst hr
      have pD4 := I4.pin (D, { cls := .type "list", data := .seq its.toArray k }) (by simp)
      have b4 : Un (frs X.stack) fp H₂ H3 s₂.heap s4.heap := I4.base
      have u4 : Un (frs X.stack) fp H₂ (upd H3 D (.lst ys)) s₂.heap s4.heap := {
        keep := b4.keep
        slot := b4.slot
        free := fun b o e n hx => by
          rw [upd_ne (below b (Heap.lt_size e)).2]
          exact b4.free b o e n hx
        there := b4.there
        tups := fun b xs e => by
          have z := b4.tups b xs e
          rw [upd_ne (ne_of_none z pD4.2.1)]
          exact z
        frzs := fun b o u e => by
          have z := b4.frzs b o u e
          rw [upd_ne (ne_of_none z pD4.2.1)]
          exact z
        tbls := fun b ps e => by
          obtain ⟨more, z⟩ := b4.tbls b ps e
          exact ⟨more, by rw [upd_ne (ne_of_none z pD4.2.1)]; exact z⟩ }
      have hok4 : HOk X.prog X.w (upd H3 D (.lst ys)) s4.heap := fun b u e => by
        by_cases hb : b = D
        · subst hb
          rw [upd_same] at e
          cases e
          exact ⟨hz, its, k, rv, pD4.1⟩
        · rw [upd_ne hb] at e
          exact (I4.hok b u e).stay (fun c v _ q => q) (fun c q => by rw [upd_ne (ne_of_none q pD4.2.1)]; exact q) fun c xs q => by rw [upd_ne (ne_of_none q pD4.2.1)]; exact q
      have I5 : Inv X pins σ (upd H3 D (.lst ys)) s4 := I₂.call' I4.os u4 hok4 I4.bare fun b hb => ⟨(hf b hb).2.2.2.1, (hf b hb).2.1, (hf b hb).2.2.2.2.1, (hf b hb).2.2.2.2.2⟩
      refine hRR D C s4 H3 ys pD4.2.1 qn I5 ?_
      obtain ⟨m, hn, _⟩ := I4.loc
      exact ⟨⟨m, hn⟩, by rw [upd_ne (Ne.symm hDC)]; exact I4.free, fun z => absurd I₂.lt (by rw [← z]; exact Nat.not_lt.mpr hCle), Nat.le_trans I₂.sz hCle, fun x c e => Nat.ne_of_lt (Nat.lt_of_lt_of_le (celllt x c e) hCle), fun p hp => Nat.ne_of_lt (Nat.lt_of_lt_of_le (pinlt p hp) hCle)⟩
    · -- a turn
      refine wpAny_mono (T.item (blk X scope N' R) rfl rfl rfl hc i _ s3 _ H3 (fun _ _ => False) I3 (stat fr3) st3 go) (fun r s4 ⟨u, hr, h4⟩ => ?_) fun _ _ z => z.elim
      subst hr
      refine wpAny_mono h4 (fun _ s5 ⟨x, H5, I5, r5, y5, st5, fr5⟩ => ?_) fun _ _ z => z.elim
      have I5' := I5.pinned (stat fr5) (T.obj _ _ st5)
      refine wpAny_mono (hg R _ s5 _ H5 x u _ I5' r5 (hgk _ _ _ _ (step x H5 y5))) (fun _ s6 ⟨σ6, H6, I6, q6, l6, k6⟩ => ?_) fun _ _ z => z.elim
      refine wpAny_mono (ht R _ s6 σ6 H6 _ I6 q6) (fun ok s7 ⟨H7, I7, q7⟩ => ?_) fun _ _ z => z.elim
      have weak : ∀ {H8 : Hp} {s8 : Shared} {ps : List (Addr × Obj)}, Inv (blk X scope N' R) ps σ6 H8 s8 → Inv (blk X scope N' R) ps (blkSt nt cap σ) H8 s8 := fun I8 => I8.weak (by rw [l6]) fun j v e => by
        obtain ⟨_, hj, _, _⟩ := blkSt_get e
        rw [k6 j hj]
        exact e
      have tnK : ∀ {H8 : Hp} {s8 : Shared} {σ8 : St}, Inv (blk X scope N' R) ([(D, { cls := .type "list", data := .seq its.toArray k })] ++ pinsAt fp s5.heap) σ8 H8 s8 → tn (i + 1) s8.heap ∧ ∀ b ∈ fp, H8 b = none := fun {H8 s8 σ8} I8 =>
        ⟨T.keep _ _ _ st5 fun b hb o e => (I8.pin (b, o) (List.mem_append_right _ (List.mem_append_right _ (mem_pinsAt hb e)))).1, fun b hb => by
          obtain ⟨o, e, _⟩ := T.obj _ _ st5 b hb
          exact (I8.pin (b, o) (List.mem_append_right _ (List.mem_append_right _ (mem_pinsAt hb e)))).2.1⟩
      cases ok with
      | false =>
        rw [if_neg Bool.false_ne_true] at q7 ⊢
        obtain ⟨m', hm, w7⟩ := q7
        exact ⟨m', hm, i + 1, ys, H7, its, k, weak I7.unpinned, (tnK I7).1, (tnK I7).2, rv, hz, w7⟩
      | true =>
        rw [if_pos rfl] at q7 ⊢
        refine wpAny_mono (he R _ s7 σ6 H7 _ I7 q7) (fun xv s8 ⟨y, H8, I8, ry, q8⟩ => ?_) fun _ _ z => z.elim
        obtain ⟨m', hm, w8⟩ := q8
        have pD8 := I8.pin (D, { cls := .type "list", data := .seq its.toArray k }) (by simp)
        have hsz : its.toArray.size ≤ sizeLine := by rw [List.size_toArray, ← rv.length]; omega
        refine wpAny_list_append_plain (hsz := hsz) ⟨k, pD8.1⟩ fun h9 hl9 hs9 => ?_
        obtain ⟨k9, hl9⟩ := hl9
        have tn8 := tnK I8
        have I8' : Inv (blk X scope N' R) (pinsAt fp s5.heap) (blkSt nt cap σ) H8 s8 := (weak I8).pins_of fun p hp => I8.pin p (List.mem_append_right _ (List.mem_append_right _ hp))
        have I9 : Inv (blk X scope N' R) (pinsAt fp s5.heap) (blkSt nt cap σ) H8 { s8 with heap := h9 } := I8'.turned (it := D) (t' := s8.toks) (fun b o hb e => hs9.extBut b o hb e) pD8.2.1 pD8.2.2.1 (.inr hDle)
          (fun x c e => Nat.ne_of_lt (Nat.lt_of_lt_of_le (celllt x c (hclk x c e)) hDle)) fun p hp => by
            have hp' : p ∈ pinsAt fp s5.heap := by simpa using hp
            exact Nat.ne_of_lt (Nat.lt_of_lt_of_le (fplt p.1 (of_pinsAt hp').1) hDle)
        have e9 : h9.get? D = some { cls := .type "list", data := .seq (its ++ [xv]).toArray k9 } := by
          rw [hl9]
          simp
        refine ⟨m', hm, i + 1, ys ++ [y], H8, its ++ [xv], k9, I9.pins_of fun p hp => ?_, T.keep _ _ _ tn8.1 fun b hb o e => hs9.extBut b o (Nat.ne_of_lt (Nat.lt_of_lt_of_le (fplt b hb) hDle)) e, tn8.2, rv.append (.cons ry .nil), by rw [List.length_append]; exact hlt, w8⟩
        have e : p = (D, { cls := .type "list", data := .seq (its ++ [xv]).toArray k9 }) := by simpa using hp
        subst e
        exact ⟨e9, pD8.2.1, pD8.2.2.1, pD8.2.2.2.1, fun v z => by cases z⟩
  exact codeAny_compStart_list (loop _) (T.self _ 0 _ _ _ (T.keep _ _ _ st fun b hb o e => old b o e) (loop _))

def tComp (nt : Nat) (cap : List Nat) (wi : TI) (g : TG) (tt : TT) (te : TE) : TE := fun σ H Q => wi σ H fun J H1 => ∃ W : CW, (∃ m, W 0 m [] H1) ∧ ∀ i m ys H, W i m ys H → tTurn (blkSt nt cap σ) J g tt te W (fun ys H' => ∀ p, H' p = none → Q (.ref p) (upd H' p (.lst ys))) i m ys H

theorem all_mem {α : Type} {l : List α} {p : α → Bool} (h : l.all p = true) : ∀ x ∈ l, p x = true := fun x hx => List.all_eq_true.mp h x hx

theorem pe_comp {X : Cx} {elt iter tg : Expr} {ifs : List Expr} {scope : Scope} {pos : Pos} {wi : TI} {g : TG} {tt : TT} {te : TE} (N' : List Str) (nt : Nat) (cap : List Nat)
    (hc : X.calm = true) (hi : PI X tg iter wi) (hg : ∀ R, PG (blk X scope N' R) tg g) (hgk : GKeep nt g) (ht : ∀ R, PIfs (blk X scope N' R) ifs tt) (he : ∀ R, PE (blk X scope N' R) elt te)
    (hcell : (scope.names.all fun y => !(y.2 == .cell)) = true := by rfl) (hkind : scope.kind = .function := by rfl)
    (hnames : (scope.names.all fun y => !(y.2 == .local) || (scope.names.lookup y.1 == some .local)) = true := by rfl)
    (hfr : (scope.names.all fun y => !(y.2 == .free) || (X.env.kindOf y.1 == some .cell || X.env.kindOf y.1 == some .free)) = true := by rfl)
    (hN : N'.length = nt + cap.length := by rfl) (hcapN : (cap.map fun j => X.N[j]?) = (N'.drop nt).map some := by rfl) (hcapF : ((N'.drop nt).all fun x => scope.names.lookup x == some .free) = true := by rfl)
    (hs : ∀ x, foldedSetIterable iter X.env x = pure x := by intro _; rfl) :
    PE X (.ListComp elt [⟨tg, iter, ifs, 0⟩] scope pos) (tComp nt cap wi g tt te) := by
  intro pins s σ H Q I h
  have hfr' : ∀ y ∈ scope.names, y.2 = .free → (X.env.kindOf y.1 = some .cell ∨ X.env.kindOf y.1 = some .free) := fun y hy e => by
    have z := all_mem hfr y hy
    rw [e] at z
    have z' : (X.env.kindOf y.1 == some .cell || X.env.kindOf y.1 == some .free) = true := z
    rcases Bool.or_eq_true_iff.mp z' with q | q
    · exact .inl (beq_iff_eq.mp q)
    · exact .inr (beq_iff_eq.mp q)
  have hcell' : ∀ y ∈ scope.names, y.2 ≠ .cell := fun y hy e => by
    have z := all_mem hcell y hy
    rw [e] at z
    cases z
  obtain ⟨cl, hcl, hclk, hclh⟩ := closure_ok (scope := scope) (env := X.env) fun y hy e => I.ok.has y.1 (hfr' y hy e)
  have hnames' : ∀ y ∈ scope.names, y.2 = .local → scope.names.lookup y.1 = some .local := fun y hy e => by
    have z := all_mem hnames y hy
    rw [e] at z
    exact beq_iff_eq.mp z
  have hcapN' : ∀ (k j : Nat), cap[k]? = some j → N'[nt + k]? = X.N[j]? := fun k j e => by
    have z := congrArg (fun l : List (Option Str) => l[k]?) hcapN
    simp only [List.getElem?_map, e, Option.map_some, List.getElem?_drop] at z
    cases q : N'[nt + k]? with
    | none => rw [q] at z; cases z
    | some x => rw [q] at z; exact (Option.some.inj z).symm
  rw [eval_ListComp]
  refine wpAny_comprehension_free (use := none) rfl hs hcl hkind hnames' (thn (hi pins s σ H _ I h) fun v s1 h1 => thn h1 fun itv s2 h2 => ?_)
  obtain ⟨it, fp, tn, J, H2, e, I2, T, st2, f2, hw⟩ := h2
  subst e
  refine comp_block (RR := fun acc C => compPost (model X.prog X.w) X.A X.xe none (EP X pins σ Q) acc C) hc I2 T st2 f2 hclk hclh hcell' hkind hfr' hN hcapN' (fun x hx => beq_iff_eq.mp (all_mem hcapF x hx)) hg hgk ht he hw ?_
  intro D C s' H' ys hD q I' B
  obtain ⟨m, hn⟩ := B.ns
  refine ⟨m, hn, fun h' hs' => ⟨.ref D, _, I'.turned (it := C) (t' := s'.toks) (fun b o hb e => hs'.extBut b o hb e) B.fr B.ne (.inr B.ab) B.cl B.pn, rfl, q D hD⟩⟩
end L2


namespace L2
open PySem PySem.Spec PyProof.Rows

section
variable {X : Cx}
def clsV : V → Option Value
  | .ty n => some (.type n)
  | .ref a => some (.ref a)
  | _ => none
theorem clsV_rel {y : V} {c u : Value} (h : clsV y = some c) (r : RelV y u) : u = c := by
  cases y with
  | ty n => cases h; exact r
  | ref a => cases h; exact r
  | non => cases h
  | bl b => cases h
  | int i => cases h
  | str x => cases h
  | byt b => cases h
  | flt b => cases h
theorem call_isinst : CallR X (.builtin "isinstance") (fun xs H Q => ∃ x y c t b, xs = [x, y] ∧ clsV y = some c ∧ TyOf X.K H x t ∧ PySem.W.kitOne X.K t c = some b ∧ Q (.bl b) H) := by
  intro pins s σ H xs us Q I r h
  obtain ⟨x, y, c, t, b, rfl, hc, ty, e, q⟩ := h
  obtain ⟨u, v, rfl, ru, rv⟩ := Vals.two r
  obtain rfl := clsV_rel hc rv
  exact isinst_ok I ru ty e fun tk => ⟨.bl b, H, I.tok tk, rfl, q⟩

theorem boolsAre_of : ∀ {bs : List Bool} {us : List Value}, Vals (bs.map V.bl) us → LSm.BoolsAre us bs
  | [], us, r => by
    rw [List.map_nil] at r
    cases r
    exact .nil
  | b :: bs, us, r => by
    rw [List.map_cons] at r
    cases r with
    | cons r1 r2 =>
      cases r1
      exact .cons b (boolsAre_of r2)
theorem call_all (hc : X.calm = true) : CallR X (.builtin "all") (fun xs H Q => ∃ (p : Addr) (bs : List Bool), xs = [.ref p] ∧ SqL X.K H p (bs.map V.bl) ∧ Q (.bl (bs.all id)) H) := by
  intro pins s σ H xs us Q I r h
  obtain ⟨p, bs, rfl, hq, q⟩ := h
  obtain ⟨u, rfl, ru⟩ := Vals.one r
  cases ru
  obtain ⟨its, rv, pl, hz⟩ := I.list hq
  obtain ⟨m, F⟩ := I.fr
  have hb := boolsAre_of rv
  have hl := pl.isList
  have hlt : p < s.heap.objs.size := by obtain ⟨_, e, _⟩ := hl; exact Heap.lt_size e
  refine call_all_walk (wpAny_pyIter_list hl ?_)
  refine ⟨s.heap.objs.size, [s.heap.objs.size, p], [s.heap.objs.size], its.toArray.size, _, _, fun i => (bs[i]?).getD true, rfl, Walks.list (A := X.A.in1) (I.ok.hd hc) _ p (Nat.ne_of_lt hlt) its.toArray,
    ⟨⟨_, Heap.get?_push_size _ rfl, rfl, rfl⟩, hl.push _⟩, fun i v s' Q' E' hP hQ => ?_, fun h' tk hk => ?_⟩
  · obtain ⟨b, e, rfl⟩ := hb.get i v (by simpa using hP)
    simp only [e, Option.getD_some] at hQ
    exact wpAny_truthy_bool hQ
  · have e : ((List.range its.toArray.size).all fun i => (bs[i]?).getD true) = bs.all id := by
      rw [List.size_toArray, hb.length]; exact LSm.range_all bs
    rw [e]
    exact ⟨.bl _, H, I.kept (LSm.kept_iter hk), rfl, q⟩

theorem sl_str : SlR X (fun x lo hi H Q => ∃ z, x = .str z ∧ z.length ≤ sizeLine ∧ Q (.str (Txt.slice z lo hi)) H) := by
  intro pins s σ H x v vl vu lo hi sl Q I rx hs pl pu h
  obtain ⟨z, rfl, hz, q⟩ := h
  obtain ⟨t, rfl⟩ := rx
  refine ⟨"str", _, F.slot_str_getitem.lookup, typeIs_str _ _ _, ?_⟩
  have fin : ∀ (t' : Tok) (k : Nat), EP X pins σ Q (.str (Txt.slice z lo hi) t') { s with toks := k } := fun t' k => ⟨.str _, H, I.tok k, ⟨t', rfl⟩, q⟩
  cases pl with
  | none =>
    cases pu with
    | none => exact wpAny_getItem_str_slice (l := none) (u := none) (st := none) hs rfl (post_val_or_str ⟨Nat.le_trans (Txt.slice_le z _ _) hz, fun t' k => fin t' k⟩)
    | int j uj => exact wpAny_getItem_str_slice (l := none) (u := some (j, uj)) (st := none) hs rfl (post_val_or_str ⟨Nat.le_trans (Txt.slice_le z _ _) hz, fun t' k => fin t' k⟩)
  | int i ui =>
    cases pu with
    | none => exact wpAny_getItem_str_slice (l := some (i, ui)) (u := none) (st := none) hs rfl (post_val_or_str ⟨Nat.le_trans (Txt.slice_le z _ _) hz, fun t' k => fin t' k⟩)
    | int j uj => exact wpAny_getItem_str_slice (l := some (i, ui)) (u := some (j, uj)) (st := none) hs rfl (post_val_or_str ⟨Nat.le_trans (Txt.slice_le z _ _) hz, fun t' k => fin t' k⟩)

theorem mt_startswith : MtR X "str.startswith" (fun x vs H Q => ∃ z y, x = .str z ∧ vs = [.str y] ∧ Q (.bl (decide (0 + y.length ≤ z.length) && Builtin.Str.subAt z y 0)) H) := by
  intro pins s σ H x xs v us Q I rx r h
  obtain ⟨z, y, rfl, rfl, q⟩ := h
  obtain ⟨t, rfl⟩ := rx
  obtain ⟨u, rfl, ru⟩ := Vals.one r
  obtain ⟨t', rfl⟩ := ru
  exact call_gives F.slot_str_startswith (typeIs_str s z t) F.entry_str_startswith (F.args_str_startswith_2 _ _) (gives_str_startswith z y t t') ⟨.bl _, H, I, rfl, q⟩

theorem call_int_text : CallR X (.type "int") (fun xs H Q => ∃ x n, xs = [.str x] ∧ PySem.intText? x = some n ∧ x.length ≤ 640 ∧ Q (.int n) H) := by
  intro pins s σ H xs us Q I r h
  obtain ⟨x, n, rfl, hn, hl, q⟩ := h
  obtain ⟨u, rfl, ru⟩ := Vals.one r
  obtain ⟨t, rfl⟩ := ru
  exact PySem.W.KIN.call_text hn hl ⟨.int n, H, I.tok _, ⟨_, rfl⟩, q⟩

theorem op_mul_str : OpR X (binaryOp .Mult) (fun x y H Q => ∃ z n, x = .str z ∧ y = .int n ∧ z.length ≤ 16 ∧ n ≤ 1048576 ∧ -(2 ^ 63) ≤ n ∧ Q (.str (Txt.mul z n)) H) := by
  intro pins s σ H x y v u Q I rx ry h
  obtain ⟨z, n, rfl, rfl, h1, h2, h3, q⟩ := h
  obtain ⟨t, rfl⟩ := rx
  obtain ⟨t', rfl⟩ := ry
  exact SB.mul (mulOk_of 16 1048576 h1 h2 h3 (by decide) (by decide)) fun t'' k => ⟨.str _, H, I.tok k, ⟨t'', rfl⟩, q⟩

theorem op_fdivB : OpR X (binaryOp .FloorDiv) (rI (fun _ j => 0 < j ∧ j.natAbs.log2 < 9000) fun i j => .int (i / j)) := opI fun i j _ _ _ _ _ hc q => by
  have h1 : (0 : Int) < j := hc.1
  exact floordiv_int (by omega) (by rw [Int.fdiv_eq_ediv_of_nonneg i (by omega)]; exact q) (.inl (PyProof.noPylong_of_log2 hc.2))

def Its (x : Str) : It where
  go := fun i _ => i < x.cps.size
  yld := fun i H v H' => H' = H ∧ ∃ c, x.cps[i]? = some c ∧ v = .str ⟨#[c]⟩
  stop := fun i _ => i = x.cps.size
theorem turn_str {P : Program} {w : World} {K : PySem.W.Frag} {tg : Expr} (it : Addr) (x : Str) (t : Tok) (ty : String)
    (W : ∀ A : Around, A.handled = none → Walks P w A it [it] [it] x.cps.size (SignAt x) (fun i h => h.IsStrIter it ty x t i))
    (hn : ["enumerate", "zip", "dict_itemiterator", "dict_reverseitemiterator", "odict_iterator", "itertools.zip_longest", "itertools.pairwise"].contains ty = false)
    (self : ∀ (A : Around) (i : Nat) (s : Shared) (Q : Value → Shared → Prop) (E : Value → Shared → Prop), s.heap.IsStrIter it ty x t i → Q (.ref it) s → wpAny (model P w) A (pyIter (.ref it)) Q E s) :
    Turn P w K tg (Its x) [it] it (fun i h => h.IsStrIter it ty x t i) where
  mem := by simp
  obj := fun i h st b hb => by
    have e : b = it := by simpa using hb
    subst e
    obtain ⟨o, e, c, d⟩ := st
    exact ⟨o, e, fun v z => by rw [d] at z; cases z⟩
  keep := fun i h h' st k => let ⟨o, ho, r⟩ := st; ⟨o, k it (by simp) o ho, r⟩
  item := by
    intro X hP hw hK hc i pins s σ H E I hf st hg
    subst hP hw hK
    obtain ⟨f0, f1, f2, f3, f4, f5⟩ := hf it (by simp)
    refine (W X.A (I.ok.hd hc)).item i s _ _ hg st fun v h' tk hv st' kk => ?_
    obtain ⟨c, u, hx, rfl⟩ := hv
    have I1 : Inv X pins σ H { s with heap := h', toks := tk } := I.turned (fun b o hb e => kk b o (by simpa using hb) e) f0 f1 f3 f4 f5
    obtain ⟨o, e, cc, d⟩ := id st'
    exact ⟨_, rfl, go_of (s := { s with heap := h', toks := tk }) e cc d hn ⟨.str ⟨#[c]⟩, H, I1, ⟨u, rfl⟩, ⟨rfl, c, hx, rfl⟩, st', fun b hb => (hf b hb).1⟩⟩
  done := by
    intro X hP hw hK hc i pins s σ H E I hf st hg
    subst hP hw hK
    obtain ⟨f0, f1, f2, f3, f4, f5⟩ := hf it (by simp)
    have hg' : i = x.cps.size := hg
    subst hg'
    exact (W X.A (I.ok.hd hc)).done s _ _ st fun h' tk kk => ⟨rfl, I.turned (fun b o hb e => kk b o (by simpa using hb) e) f0 f1 f3 f4 f5⟩
  self := self
def iStr (tl : TE) : TI := fun σ H R => tl σ H fun x H1 => ∃ z, x = .str z ∧ R (Its z) H1
theorem pi_str {tg l : Expr} {tl : TE} (hl : PE X l tl) : PI X tg l (iStr tl) := by
  intro pins s σ H R I h
  refine thn (hl pins s σ H _ I h) fun v s1 ⟨x, H1, I1, r1, q1⟩ => ?_
  obtain ⟨z, e, q⟩ := q1
  subst e
  obtain ⟨t, rfl⟩ := r1
  have fp : ∀ b ∈ [s1.heap.objs.size], FpOk X pins H1 b := fun b hb => by
    have e : b = s1.heap.objs.size := by simpa using hb
    subst e
    exact I1.fpOk (Nat.le_refl _) (I1.hok.fresh (Nat.le_refl _))
  cases ha : z.cps.all (· < 128)
  · refine wpAny_pyIter_wide ha ?_
    exact ⟨s1.heap.objs.size, [s1.heap.objs.size], _, _, H1, rfl, I1.kept (t' := s1.toks) fun b o e => Heap.get?_push_of_some _ e, turn_str _ z t "str_iterator" (fun A hA => Walks.strWide hA _ z t) (by decide) (fun A i s Q E st h => wpAny_pyIter_striter_wide st h),
      ⟨_, Heap.get?_push_size _ rfl, rfl, rfl⟩, fp, q⟩
  · refine wpAny_pyIter_ascii ha ?_
    exact ⟨s1.heap.objs.size, [s1.heap.objs.size], _, _, H1, rfl, I1.kept (t' := s1.toks) fun b o e => Heap.get?_push_of_some _ e, turn_str _ z t "str_ascii_iterator" (fun A hA => Walks.strAscii hA _ z t) (by decide) (fun A i s Q E st h => wpAny_pyIter_striter_ascii st h),
      ⟨_, Heap.get?_push_size _ rfl, rfl, rfl⟩, fp, q⟩
end

theorem comp_str {σb : St} {x : Str} {g : TG} {tt : TT} {te : TE} {fin : List V → Hp → Prop} {H : Hp} (hz : x.cps.size ≤ sizeLine) (Pv : Nat → List V → Hp → Prop) (h0 : Pv 0 [] H) (hl : ∀ i ys H, Pv i ys H → ys.length ≤ i)
    (hs : ∀ i c ys H (K : VK) (K' : Hp → Prop), x.cps[i]? = some c → Pv i ys H → (∀ y H4, Pv (i + 1) (ys ++ [y]) H4 → K y H4) → (∀ H3, Pv (i + 1) ys H3 → K' H3) →
      g (.str ⟨#[c]⟩) σb H fun σ2 H2 => tt σ2 H2 fun b H3 => if b = true then te σ2 H3 K else K' H3)
    (hd : ∀ ys H, Pv x.cps.size ys H → fin ys H) : ∃ W : CW, (∃ m, W 0 m [] H) ∧ ∀ i m ys H, W i m ys H → tTurn σb (Its x) g tt te W fin i m ys H := by
  refine ⟨fun i m ys H => m = x.cps.size - i ∧ i ≤ x.cps.size ∧ Pv i ys H, ⟨x.cps.size, by simp, Nat.zero_le _, h0⟩, ?_⟩
  rintro i m ys H ⟨rfl, hi, p⟩
  by_cases hlt : i < x.cps.size
  · refine .inr ⟨hlt, ?_, fun v H' y => ?_⟩
    · have := hl i ys H p; omega
    · obtain ⟨e, c, hx, rfl⟩ := y
      subst e
      exact hs i c ys _ _ _ hx p (fun y H4 q => ⟨x.cps.size - (i + 1), by omega, rfl, hlt, q⟩) fun H3 q => ⟨x.cps.size - (i + 1), by omega, rfl, hlt, q⟩
  · have e : i = x.cps.size := by omega
    subst e
    exact .inl ⟨rfl, hd ys H p⟩
theorem comp_list {F : PySem.W.Frag} {a : Addr} {xs : List V} {σb : St} {g : TG} {tt : TT} {te : TE} {fin : List V → Hp → Prop} {H : Hp} (hz : xs.length ≤ sizeLine) (Pv : Nat → List V → Hp → Prop) (h0 : Pv 0 [] H)
    (hl : ∀ i ys H, i ≤ xs.length → Pv i ys H → SqL F H a xs ∧ ys.length ≤ i)
    (hs : ∀ i x ys H (K : VK) (K' : Hp → Prop), xs[i]? = some x → Pv i ys H → (∀ y H4, Pv (i + 1) (ys ++ [y]) H4 → K y H4) → (∀ H3, Pv (i + 1) ys H3 → K' H3) →
      g x σb H fun σ2 H2 => tt σ2 H2 fun b H3 => if b = true then te σ2 H3 K else K' H3)
    (hd : ∀ ys H, Pv xs.length ys H → fin ys H) : ∃ W : CW, (∃ m, W 0 m [] H) ∧ ∀ i m ys H, W i m ys H → tTurn σb (Itl F a) g tt te W fin i m ys H := by
  refine ⟨fun i m ys H => m = xs.length - i ∧ i ≤ xs.length ∧ Pv i ys H, ⟨xs.length, by simp, Nat.zero_le _, h0⟩, ?_⟩
  rintro i m ys H ⟨rfl, hi, p⟩
  obtain ⟨q, ql⟩ := hl i ys H hi p
  by_cases hlt : i < xs.length
  · refine .inr ⟨⟨xs, xs[i], q, by simp [hlt]⟩, by omega, fun x H' y => ?_⟩
    obtain ⟨e, y⟩ := y
    subst e
    exact hs i x ys _ _ _ (y xs q) p (fun y H4 q => ⟨xs.length - (i + 1), by omega, rfl, hlt, q⟩) fun H3 q => ⟨xs.length - (i + 1), by omega, rfl, hlt, q⟩
  · have e : i = xs.length := by omega
    subst e
    exact .inl ⟨⟨xs, q, Nat.le_refl _⟩, hd ys H p⟩
theorem comp_range {lo : Int} {n : Nat} {σb : St} {g : TG} {tt : TT} {te : TE} {fin : List V → Hp → Prop} {H : Hp} (hz : n ≤ sizeLine) (Pv : Nat → List V → Hp → Prop) (h0 : Pv 0 [] H) (hl : ∀ i ys H, Pv i ys H → ys.length ≤ i)
    (hs : ∀ i ys H (K : VK) (K' : Hp → Prop), i < n → Pv i ys H → (∀ y H4, Pv (i + 1) (ys ++ [y]) H4 → K y H4) → (∀ H3, Pv (i + 1) ys H3 → K' H3) →
      g (.int (lo + i)) σb H fun σ2 H2 => tt σ2 H2 fun b H3 => if b = true then te σ2 H3 K else K' H3)
    (hd : ∀ ys H, Pv n ys H → fin ys H) : ∃ W : CW, (∃ m, W 0 m [] H) ∧ ∀ i m ys H, W i m ys H → tTurn σb (Itr lo n) g tt te W fin i m ys H := by
  refine ⟨fun i m ys H => m = n - i ∧ i ≤ n ∧ Pv i ys H, ⟨n, by simp, Nat.zero_le _, h0⟩, ?_⟩
  rintro i m ys H ⟨rfl, hi, p⟩
  by_cases hlt : i < n
  · refine .inr ⟨hlt, ?_, fun v H' y => ?_⟩
    · have := hl i ys H p; omega
    · obtain ⟨e, y⟩ := y
      subst e y
      exact hs i ys _ _ _ hlt p (fun y H4 q => ⟨n - (i + 1), by omega, rfl, hlt, q⟩) fun H3 q => ⟨n - (i + 1), by omega, rfl, hlt, q⟩
  · have e : i = n := by omega
    subst e
    exact .inl ⟨Nat.le_refl _, hd ys H p⟩
end L2


namespace L2
open PySem PySem.Spec PyProof.Rows

structure DefAt (K : PySem.W.Frag) (mg : Str → Option Value) (x : Str) (st : Stmt) (ps : List Str) : Prop where
  ex : ∃ (f : Addr) (fd : FuncData), Fun K x x st f fd ∧ Binds K fd ps [] ∧ mg x = some (.ref f)
structure Fc (P : Program) (w : World) (K : PySem.W.Frag) (mg : Str → Option Value) (base : Heap) (k : Nat) (x : Str) (ps : List Str) (sp : Sp) : Prop where
  ex : ∃ (f : Addr) (fd : FuncData), FnOk P w K mg base CX0 k f fd ps sp ∧ Binds K fd ps [] ∧ mg x = some (.ref f) ∧ PySem.W.keepIn K (.ref f) = true
section
variable {P : Program} {w : World} {K : PySem.W.Frag} {mg : Str → Option Value} {base : Heap}
theorem DefAt.fc {x : Str} {st : Stmt} {N ps : List Str} {k : Nat} {sp : Sp} (D : DefAt K mg x st ps) (S : FnScope N ps (defScope st)) (len : ∀ vs H Q E, sp vs H Q E → vs.length = ps.length)
    (hbody : ∀ (f : Addr) (cdv : Value) (A : Around) (outer : List Env) (s : Shared) (H : Hp) (vs : List V) (Q : VK) (E : XK), Room k (A.deeper (envOfC x (defScope st) s.heap.objs.size f cdv)) → sp vs H Q E →
      ∃ t, PSs (cxOf CX0 P w K mg base N x (defScope st) f cdv A outer s H E).nox (defBody st) t ∧ t { nx := fun _ H' => Q .non H', rt := Q } (start N vs) H) : Fc P w K mg base (k + 1) x ps sp := by
  obtain ⟨f, fd, F, b, m⟩ := D.ex
  exact ⟨f, fd, F.ok S len fun cdv A outer s H vs Q E hr h => hbody f cdv A outer s H vs Q E hr h, b, m, F.kp⟩
theorem def_mk {h : Heap} {x : Str} {st : Stmt} {ps : List Str} {f : Addr} {oc : Value} {od an : Option Addr} {osl : Array (Option Value)} {kV doc pm cdv ct : Value} (X : K.In h) (G : h.Ns mainGlobals mg)
    (a : PySem.W.nsIn K mainGlobals x = some (some (.ref f))) (l : K.lookup f = some ⟨oc, od, .func (PySem.W.fnOf x x (defArgs st) (defBody st) (defScope st) .none kV doc pm an cdv ct), osl⟩)
    (c : PySem.W.codeIn K cdv x = true) (k : PySem.W.keepIn K (.ref f) = true)
    (hb : ∀ (kV doc pm : Value) (an : Option Addr) (cdv ct : Value) (us : List Value), us.length = ps.length → bindArgs (PySem.W.fnOf x x (defArgs st) (defBody st) (defScope st) .none kV doc pm an cdv ct) ⟨us, []⟩ = pure (ps.zip us)) : DefAt K mg x st ps :=
  ⟨f, _, fun_mk l c k, (fun_mk l c k).binds hb, PySem.W.mg_of X G a⟩
end
section
variable {X : Cx} {k : Nat} {ps : List Str} {sp : Sp} {x : Str} {p pos : Pos} {e : Expr} {es : List Expr} {t : TA}
theorem pe_c (F : Fc X.prog X.w X.K X.mg X.base k x ps sp) (hr : Room k X.A) (ha : PA X (e :: es) t) (hg : Gl X x := by rfl) (hdb : (x == ("__debug__" : Str)) = false := by decide)
    (he : starEach (e :: es) X.env = (false, eval e X.env) :: starEach es X.env := by rfl) (hpl : (backTo pos (starEach es X.env)).any (·.1) = false := by rfl) :
    PE X (.Call (.Name x p) (e :: es) [] pos) (tCall sp [] E0 t) := by
  obtain ⟨f, fd, G, b, m, kp⟩ := F.ex
  exact pe_call G hr hg m kp b .nil pass0 ha hdb he hpl
end
def sp1 (f : V → Hp → VK → Prop) : Sp := fun vs H Q _ => ∃ x, vs = [x] ∧ f x H Q
def sp2 (f : V → V → Hp → VK → Prop) : Sp := fun vs H Q _ => ∃ x y, vs = [x, y] ∧ f x y H Q
def sp3 (f : V → V → V → Hp → VK → Prop) : Sp := fun vs H Q _ => ∃ x y z, vs = [x, y, z] ∧ f x y z H Q
theorem len1 {f : V → Hp → VK → Prop} : ∀ vs H Q E, sp1 f vs H Q E → vs.length = 1 := fun vs H Q E ⟨x, e, _⟩ => by rw [e]; rfl
theorem len2 {f : V → V → Hp → VK → Prop} : ∀ vs H Q E, sp2 f vs H Q E → vs.length = 2 := fun vs H Q E ⟨x, y, e, _⟩ => by rw [e]; rfl
theorem len3 {f : V → V → V → Hp → VK → Prop} : ∀ vs H Q E, sp3 f vs H Q E → vs.length = 3 := fun vs H Q E ⟨x, y, z, e, _⟩ => by rw [e]; rfl

theorem boot_isinstance : bootBuiltins "isinstance" = some (.builtin "isinstance") := by decide +kernel
theorem boot_all' : bootBuiltins "all" = some (.builtin "all") := by decide +kernel
theorem boot_len' : bootBuiltins "len" = some (.builtin "len") := by decide +kernel
theorem boot_max' : bootBuiltins "max" = some (.builtin "max") := by decide +kernel
theorem boot_min' : bootBuiltins "min" = some (.builtin "min") := by decide +kernel
theorem boot_str' : bootBuiltins "str" = some (.type "str") := by decide +kernel
theorem boot_int' : bootBuiltins "int" = some (.type "int") := by decide +kernel
theorem boot_bool' : bootBuiltins "bool" = some (.type "bool") := by decide +kernel
theorem boot_list' : bootBuiltins "list" = some (.type "list") := by decide +kernel
theorem boot_tuple' : bootBuiltins "tuple" = some (.type "tuple") := by decide +kernel
theorem boot_dict' : bootBuiltins "dict" = some (.type "dict") := by decide +kernel
theorem boot_set' : bootBuiltins "set" = some (.type "set") := by decide +kernel

inductive Pl (K : PySem.W.Frag) (H : Hp) : V → Prop where
  | non : Pl K H .non
  | bl (b : Bool) : Pl K H (.bl b)
  | int (i : Int) : Pl K H (.int i)
  | str (x : Str) : Pl K H (.str x)
  | lst {a : Addr} {xs : List V} (e : H a = some (.lst xs)) : Pl K H (.ref a)
  | frz {a : Addr} {o : Obj} {xs : List V} (e : H a = some (.frz o (.lst xs))) : Pl K H (.ref a)
  | tup {a : Addr} {xs : List V} (e : H a = some (.tup xs)) : Pl K H (.ref a)
  | dK {a : Addr} {kvs : List (Key × V)} (e : H a = some (.dK kvs)) : Pl K H (.ref a)
def isI : V → Bool
  | .int _ => true
  | _ => false
def isB : V → Bool
  | .bl _ => true
  | _ => false
def isS : V → Bool
  | .str _ => true
  | _ => false
theorem kit_self (K : PySem.W.Frag) (n : String) : PySem.W.kitOne K (.type n) (.type n) = some true := by
  unfold PySem.W.kitOne
  rw [if_pos (by simp)]
theorem Pl.ty {K : PySem.W.Frag} {H : Hp} {x : V} (h : Pl K H x) : ∃ t, TyOf K H x t ∧ PySem.W.kitOne K t (.type "int") = some (isI x || isB x) ∧ PySem.W.kitOne K t (.type "bool") = some (isB x) ∧ PySem.W.kitOne K t (.type "str") = some (isS x) := by
  cases h with
  | non => exact ⟨_, .non, rfl, rfl, rfl⟩
  | bl b => exact ⟨_, .bl b, rfl, kit_self _ _, rfl⟩
  | int i => exact ⟨_, .int i, kit_self _ _, rfl, rfl⟩
  | str z => exact ⟨_, .str z, rfl, rfl, kit_self _ _⟩
  | lst e => exact ⟨_, .lst e, rfl, rfl, rfl⟩
  | frz e => exact ⟨_, .frz e, rfl, rfl, rfl⟩
  | tup e => exact ⟨_, .tup e, rfl, rfl, rfl⟩
  | dK e => exact ⟨_, .dK e, rfl, rfl, rfl⟩
end L2
namespace L2
open PySem PySem.Spec PyProof.Rows
def GlobAt (mg : Str → Option Value) (x : Str) (v : V) : Prop := ∃ u, mg x = some u ∧ RelV v u
theorem pe_g {X : Cx} {x : Str} {v : V} {pos : Pos} (h : GlobAt X.mg x v) (hg : Gl X x := by rfl) (hd : (x == ("__debug__" : Str)) = false := by decide) : PE X (.Name x pos) (tC v) := by
  obtain ⟨u, hm, r⟩ := h
  exact pe_glob hg hm r hd
theorem glob_mk {K : PySem.W.Frag} {mg : Str → Option Value} {h : Heap} {x : Str} {v : V} {u : Value} (X : K.In h) (G : h.Ns mainGlobals mg) (a : PySem.W.nsIn K mainGlobals x = some (some u)) (r : RelV v u) : GlobAt mg x v := ⟨u, PySem.W.mg_of X G a, r⟩
end L2
namespace L2
open PySem PySem.Spec PyProof.Rows
def droppable : HO → Bool
  | .lst _ => true
  | .dK _ => true
  | .set _ _ => true
  | .ext _ => true
  | .rng _ _ => true
  | _ => false
def Drop (H' H'' : Hp) : Prop := ∀ b, H'' b = H' b ∨ (H'' b = none ∧ ∃ o, H' b = some o ∧ droppable o = true)
theorem Drop.refl (H : Hp) : Drop H H := fun _ => .inl rfl
theorem Drop.trans {H1 H2 H3 : Hp} (a : Drop H1 H2) (b : Drop H2 H3) : Drop H1 H3 := fun c => by
  rcases b c with e | ⟨e, o, q, d⟩
  · rcases a c with e' | ⟨e', o, q, d⟩
    · exact .inl (e.trans e')
    · exact .inr ⟨e.trans e', o, q, d⟩
  · rcases a c with e' | ⟨e', _⟩
    · exact .inr ⟨e, o, e' ▸ q, d⟩
    · rw [e'] at q; cases q
theorem Drop.new {H : Hp} {p : Addr} {o : HO} (h : H p = none) (d : droppable o = true) : Drop (upd H p o) H := fun b => by
  by_cases hb : b = p
  · subst hb
    exact .inr ⟨h, o, upd_same, d⟩
  · exact .inl (upd_ne hb).symm
theorem Drop.lst {H : Hp} {p : Addr} {xs : List V} (h : H p = none) : Drop (upd H p (.lst xs)) H := Drop.new h rfl
def dropQ (Q : VK) : VK := fun v H' => ∃ H'', Drop H' H'' ∧ Q v H''
theorem dropQ.of {Q : VK} {v : V} {H H' : Hp} (d : Drop H' H) (q : Q v H) : dropQ Q v H' := ⟨H, d, q⟩
theorem HOk.drop {P : Program} {w : World} {H' H'' : Hp} {h : Heap} (d : Drop H' H'') (ok : HOk P w H' h) : HOk P w H'' h := fun b o e => by
  have e' : H' b = some o := by
    rcases d b with z | ⟨z, _⟩
    · exact z.symm.trans e
    · rw [z] at e; cases e
  refine (ok b o e').stay (fun _ _ _ q => q) (fun c q => ?_) fun c xs q => ?_
  · rcases d c with z | ⟨_, o', z', dr⟩
    · exact z.trans q
    · rw [q] at z'; cases z'; cases dr
  · rcases d c with z | ⟨_, o', z', dr⟩
    · exact z.trans q
    · rw [q] at z'; cases z'; cases dr
theorem Un.drop {fs ex : List Addr} {H H' H'' : Hp} {h h' : Heap} (d : Drop H' H'') (u : Un fs ex H H' h h') : Un fs ex H H'' h h' where
  keep := u.keep
  slot := u.slot
  free := fun b o e n hx => by
    rcases d b with z | ⟨z, _⟩
    · exact z.trans (u.free b o e n hx)
    · exact z
  there := u.there
  tups := fun b xs e => by
    have q := u.tups b xs e
    rcases d b with z | ⟨_, o', z', dr⟩
    · exact z.trans q
    · rw [q] at z'; cases z'; cases dr
  frzs := fun b o v e => by
    have q := u.frzs b o v e
    rcases d b with z | ⟨_, o', z', dr⟩
    · exact z.trans q
    · rw [q] at z'; cases z'; cases dr
  tbls := fun b ps e => by
    obtain ⟨m, q⟩ := u.tbls b ps e
    rcases d b with z | ⟨_, o', z', dr⟩
    · exact ⟨m, z.trans q⟩
    · rw [q] at z'; cases z'; cases dr
theorem FnOk.drop {P : Program} {w : World} {K : PySem.W.Frag} {mg : Str → Option Value} {base : Heap} {k : Nat} {f : Addr} {fd : FuncData} {ps : List Str} {sp : Sp} (len : ∀ vs H Q E, sp vs H Q E → vs.length = ps.length)
    (F : FnOk P w K mg base CX0 k f fd ps (fun vs H Qd E => ∃ Q, sp vs H Q E ∧ Qd = dropQ Q)) : FnOk P w K mg base CX0 k f fd ps sp := by
  refine ⟨len, fun A outer s H args us vs Q E hr he hb hv hs => codeAny_mono (F.run A outer s H args us vs (dropQ Q) E hr he hb hv ⟨Q, hs, rfl⟩) fun r s' h => ?_⟩
  cases r with
  | error e => exact h
  | ok fl =>
    cases fl with
    | ret u =>
      obtain ⟨v, H', os, bare, un, hok, rv, H'', d, q⟩ := h
      exact ⟨v, H'', os, bare, un.drop d, hok.drop d, rv, q⟩
    | next => exact h
    | brk => exact h
    | cont => exact h
theorem DefAt.fcD {P : Program} {w : World} {K : PySem.W.Frag} {mg : Str → Option Value} {base : Heap} {x : Str} {st : Stmt} {N ps : List Str} {k : Nat} {sp : Sp} (D : DefAt K mg x st ps) (S : FnScope N ps (defScope st)) (len : ∀ vs H Q E, sp vs H Q E → vs.length = ps.length)
    (hbody : ∀ (f : Addr) (cdv : Value) (A : Around) (outer : List Env) (s : Shared) (H : Hp) (vs : List V) (Q : VK) (E : XK), Room k (A.deeper (envOfC x (defScope st) s.heap.objs.size f cdv)) → sp vs H Q E →
      ∃ t, PSs (cxOf CX0 P w K mg base N x (defScope st) f cdv A outer s H E).nox (defBody st) t ∧ t { nx := fun _ H' => dropQ Q .non H', rt := dropQ Q } (start N vs) H) : Fc P w K mg base (k + 1) x ps sp := by
  obtain ⟨f, fd, F, b, m⟩ := D.ex
  refine ⟨f, fd, FnOk.drop len (F.ok S (fun vs H Q E ⟨Q', h, _⟩ => len vs H Q' E h) fun cdv A outer s H vs Q E hr ⟨Q', h, e⟩ => ?_), b, m, F.kp⟩
  subst e
  exact hbody f cdv A outer s H vs Q' E hr h
end L2
namespace L2
open PySem PySem.Spec PyProof.Rows
theorem Same.upd {H : Hp} {p : Addr} {o : HO} (h : H p = none) : Same H (upd H p o) := fun b u e => by
  rw [upd_ne (ne_of_none e h)]
  exact e
def spLaw (K : PySem.W.Frag) : Sp := sp1 fun x H Q => ∃ (a : Addr) (ns : List Int), x = .ref a ∧ SqL K H a (ns.map V.int) ∧ ns.length ≤ 63 ∧ ∀ H', Q (.bl true) H'
theorem walk_law {l : PySem.W.OpenLaw} {q : Program} {loose : List Str} {XP : (Str → Option Value) → Heap → Prop} {YP : World → Heap → Prop} {d : DefRec} {K : Params → PySem.W.Frag} (k : Nat) (hr : Room k callerA) (hn : l.most = some 63) (hdf : d.params.defaults = [])
    (hY : ∀ (w : World) (h : Heap), YP w h → (K w.params).In h)
    (F : ∀ (w : World) (mg : Str → Option Value) (fa : Addr) (h : Heap), (K w.params).In h → h.Ns mainGlobals mg → mg d.name = some (.ref fa) →
      ∃ fd : FuncData, (∀ (s : Shared) (u : Value), BindsTo s fd ⟨[u], []⟩ [("_law_script", u)]) ∧ ∀ base : Heap, (K w.params).In base → base.Ns mainGlobals mg → FnOk l.prog w (K w.params) mg base CX0 k fa fd ["_law_script"] (spLaw (K w.params))) :
    PySem.W.WalkO q loose XP YP l.row.toRowW d [] (fun f vs => PySem.call f vs) :=
  L2.walk_of (n := 63) (k := k) (x := "_law_script") (CX := fun _ => CX0) (sp := fun w => spLaw (K w.params)) hn (by decide) hdf hr hY F (fun _ _ a ns hl _ hS => ⟨_, rfl, a, ns, rfl, hS, hl, fun _ => rfl⟩) fun _ _ _ _ _ z => z
end L2
namespace L2
open PySem PySem.Spec PyProof.Rows
theorem pe_ty {X : Cx} {x : Str} {n : String} {pos : Pos} (hm : X.mg x = none) (hv : bootBuiltins x = some (.type n)) (hg : Gl X x := by rfl) (hn : x ≠ "__name__" := by decide) (hd : (x == ("__debug__" : Str)) = false := by decide) : PE X (.Name x pos) (tC (.ty n)) :=
  pe_bltn hg hm hv rfl hn hd
end L2
namespace L2
theorem small_le {n : Nat} (h : Nat.ble n 1000 = true) : n ≤ PySem.sizeLine := Nat.le_trans (Nat.le_of_ble_eq_true h) (by decide)
end L2

namespace L2
open PySem PySem.Spec PyProof.Rows
def Ite (K : PySem.W.Frag) (a : Addr) : It where
  go := fun i H => ∃ xs x, SqL K H a xs ∧ xs[i]? = some x
  yld := fun i H v H' => ∃ p x, H p = none ∧ v = .ref p ∧ H' = upd H p (.tup [.int i, x]) ∧ ∀ ys, SqL K H a ys → ys[i]? = some x
  stop := fun i H => ∃ xs, SqL K H a xs ∧ xs.length ≤ i
end L2

namespace L2
open PySem PySem.Spec PyProof.Rows
inductive Dv where
  | non | bl (b : Bool) | int (i : Int) | str (x : Str) | lst (ds : List Dv) | tup (ds : List Dv) | dct (ks : List Key) (ds : List Dv)
mutual
def Is (H : Hp) : Dv → V → Prop
  | .non, v => v = .non
  | .bl b, v => v = .bl b
  | .int i, v => v = .int i
  | .str x, v => v = .str x
  | .lst ds, v => ∃ a vs, v = .ref a ∧ H a = some (.lst vs) ∧ IsL H ds vs
  | .tup ds, v => ∃ a vs, v = .ref a ∧ H a = some (.tup vs) ∧ IsL H ds vs
  | .dct ks ds, v => ∃ a vs, v = .ref a ∧ H a = some (.dK (ks.zip vs)) ∧ vs.length = ks.length ∧ IsL H ds vs
def IsL (H : Hp) : List Dv → List V → Prop
  | [], vs => vs = []
  | d :: ds, vs => ∃ v r, vs = v :: r ∧ Is H d v ∧ IsL H ds r
end
def isData : HO → Bool
  | .lst _ => true
  | .tup _ => true
  | .dK _ => true
  | _ => false
def SameD (H H' : Hp) : Prop := ∀ b o, H b = some o → isData o = true → H' b = some o
mutual
theorem Is.sameD {H H' : Hp} (S : SameD H H') : ∀ (d : Dv) (v : V), Is H d v → Is H' d v
  | .non, _, h => h
  | .bl _, _, h => h
  | .int _, _, h => h
  | .str _, _, h => h
  | .lst ds, _, ⟨a, vs, e, o, h⟩ => ⟨a, vs, e, S _ _ o rfl, IsL.sameD S ds vs h⟩
  | .tup ds, _, ⟨a, vs, e, o, h⟩ => ⟨a, vs, e, S _ _ o rfl, IsL.sameD S ds vs h⟩
  | .dct ks ds, _, ⟨a, vs, e, o, l, h⟩ => ⟨a, vs, e, S _ _ o rfl, l, IsL.sameD S ds vs h⟩
theorem IsL.sameD {H H' : Hp} (S : SameD H H') : ∀ (ds : List Dv) (vs : List V), IsL H ds vs → IsL H' ds vs
  | [], _, h => h
  | d :: ds, _, ⟨v, r, e, h, t⟩ => ⟨v, r, e, Is.sameD S d v h, IsL.sameD S ds r t⟩
end
theorem Is.same {H H' : Hp} (S : Same H H') (d : Dv) (v : V) (h : Is H d v) : Is H' d v := Is.sameD (fun b o e _ => S b o e) d v h
theorem IsL.same {H H' : Hp} (S : Same H H') (ds : List Dv) (vs : List V) (h : IsL H ds vs) : IsL H' ds vs := IsL.sameD (fun b o e _ => S b o e) ds vs h
mutual
def hard : Dv → Bool
  | .lst _ => false
  | .dct _ _ => false
  | .tup ds => hardL ds
  | _ => true
def hardL : List Dv → Bool
  | [] => true
  | d :: ds => hard d && hardL ds
end
def KeepT (H H' : Hp) : Prop := ∀ a xs, H a = some (.tup xs) → H' a = some (.tup xs)
mutual
theorem Is.keep {H H' : Hp} (S : KeepT H H') : ∀ (d : Dv) (v : V), hard d = true → Is H d v → Is H' d v
  | .non, _, _, h => h
  | .bl _, _, _, h => h
  | .int _, _, _, h => h
  | .str _, _, _, h => h
  | .lst ds, _, f, _ => by cases f
  | .tup ds, _, f, ⟨a, vs, e, o, h⟩ => ⟨a, vs, e, S _ _ o, IsL.keep S ds vs f h⟩
  | .dct ks ds, _, f, _ => by cases f
theorem IsL.keep {H H' : Hp} (S : KeepT H H') : ∀ (ds : List Dv) (vs : List V), hardL ds = true → IsL H ds vs → IsL H' ds vs
  | [], _, _, h => h
  | d :: ds, _, f, ⟨v, r, e, h, t⟩ => ⟨v, r, e, Is.keep S d v (Bool.and_eq_true_iff.mp f).1 h, IsL.keep S ds r (Bool.and_eq_true_iff.mp f).2 t⟩
end
mutual
def deq : Dv → Dv → Bool
  | .non, .non => true
  | .bl a, .bl b => a == b
  | .bl a, .int b => (if a then 1 else 0) == b
  | .int a, .bl b => a == (if b then 1 else 0)
  | .int a, .int b => a == b
  | .str a, .str b => a == b
  | .lst a, .lst b => deqL a b
  | .tup a, .tup b => deqL a b
  | _, _ => false
def deqL : List Dv → List Dv → Bool
  | [], [] => true
  | a :: r, b :: q => deq a b && deqL r q
  | _, _ => false
end
mutual
def flatTo : Nat → Dv → Bool
  | _, .dct _ _ => false
  | 0, .lst _ => false
  | 0, .tup _ => false
  | n + 1, .lst ds => flatToL n ds
  | n + 1, .tup ds => flatToL n ds
  | _, _ => true
def flatToL : Nat → List Dv → Bool
  | _, [] => true
  | n, d :: ds => flatTo n d && flatToL n ds
end
mutual
theorem deq_refl : ∀ (n : Nat) (d : Dv), flatTo n d = true → deq d d = true
  | _, .non, _ => rfl
  | _, .bl b, _ => beq_self_eq_true b
  | _, .int i, _ => beq_self_eq_true i
  | _, .str x, _ => beq_self_eq_true x
  | 0, .lst ds, f => by simp [flatTo] at f
  | 0, .tup ds, f => by simp [flatTo] at f
  | n + 1, .lst ds, f => deqL_refl n ds (by simpa [flatTo] using f)
  | n + 1, .tup ds, f => deqL_refl n ds (by simpa [flatTo] using f)
  | n, .dct ks ds, f => by simp [flatTo] at f
theorem deqL_refl : ∀ (n : Nat) (ds : List Dv), flatToL n ds = true → deqL ds ds = true
  | _, [], _ => rfl
  | n, d :: ds, f => by
    rw [flatToL, Bool.and_eq_true] at f
    show (deq d d && deqL ds ds) = true
    rw [deq_refl n d f.1, deqL_refl n ds f.2]; rfl
end
theorem IsL.length {H : Hp} : ∀ {ds : List Dv} {vs : List V}, IsL H ds vs → vs.length = ds.length
  | [], _, h => by rw [show _ = [] from h]; rfl
  | d :: ds, _, ⟨v, r, e, _, t⟩ => by rw [e, List.length_cons, List.length_cons, IsL.length t]
mutual
theorem Is.inj {H : Hp} : ∀ (d e : Dv) (v : V), Is H d v → Is H e v → (∃ n, flatTo n d = true) → (∃ n, flatTo n e = true) → d = e
  | .non, e, v, h, h', _, _ => by
    cases e <;> simp_all [Is]
  | .bl b, e, v, h, h', _, _ => by
    cases e <;> simp_all [Is]
  | .int b, e, v, h, h', _, _ => by
    cases e <;> simp_all [Is]
  | .str b, e, v, h, h', _, _ => by
    cases e <;> simp_all [Is]
  | .lst ds, e, v, ⟨a, vs, q, o, h⟩, h', ⟨n, f⟩, ⟨m, g⟩ => by
    subst q
    cases e with
    | lst es =>
      obtain ⟨a', vs', q', o', h'⟩ := h'
      cases q'
      rw [o] at o'
      cases o'
      cases n with
      | zero => simp [flatTo] at f
      | succ n =>
        cases m with
        | zero => simp [flatTo] at g
        | succ m => rw [IsL.inj ds es vs h h' ⟨n, by simpa [flatTo] using f⟩ ⟨m, by simpa [flatTo] using g⟩]
    | tup es =>
      obtain ⟨a', vs', q', o', h'⟩ := h'
      cases q'
      rw [o] at o'
      cases o'
    | dct ks es => simp [flatTo] at g
    | _ => simp_all [Is]
  | .tup ds, e, v, ⟨a, vs, q, o, h⟩, h', ⟨n, f⟩, ⟨m, g⟩ => by
    subst q
    cases e with
    | tup es =>
      obtain ⟨a', vs', q', o', h'⟩ := h'
      cases q'
      rw [o] at o'
      cases o'
      cases n with
      | zero => simp [flatTo] at f
      | succ n =>
        cases m with
        | zero => simp [flatTo] at g
        | succ m => rw [IsL.inj ds es vs h h' ⟨n, by simpa [flatTo] using f⟩ ⟨m, by simpa [flatTo] using g⟩]
    | lst es =>
      obtain ⟨a', vs', q', o', h'⟩ := h'
      cases q'
      rw [o] at o'
      cases o'
    | dct ks es => simp [flatTo] at g
    | _ => simp_all [Is]
  | .dct ks ds, e, v, _, h', ⟨n, f⟩, _ => by simp [flatTo] at f
theorem IsL.inj {H : Hp} : ∀ (ds es : List Dv) (vs : List V), IsL H ds vs → IsL H es vs → (∃ n, flatToL n ds = true) → (∃ n, flatToL n es = true) → ds = es
  | [], es, vs, h, h', _, _ => by
    rw [show vs = [] from h] at h'
    cases es with
    | nil => rfl
    | cons e es => obtain ⟨v, r, q, _⟩ := h'; cases q
  | d :: ds, es, vs, ⟨v, r, q, h, t⟩, h', ⟨n, f⟩, ⟨m, g⟩ => by
    subst q
    cases es with
    | nil => cases (show v :: r = [] from h')
    | cons e es =>
      obtain ⟨v', r', q', h', t'⟩ := h'
      cases q'
      rw [flatToL, Bool.and_eq_true] at f g
      rw [Is.inj d e v h h' ⟨n, f.1⟩ ⟨m, g.1⟩, IsL.inj ds es r t t' ⟨n, f.2⟩ ⟨m, g.2⟩]
end
theorem IsL.get {H : Hp} : ∀ {ds : List Dv} {vs : List V} {i : Nat} {d : Dv}, IsL H ds vs → ds[i]? = some d → ∃ v, vs[i]? = some v ∧ Is H d v
  | [], _, _, _, _, e => by simp at e
  | d :: ds, _, 0, d', ⟨v, r, e, h, t⟩, q => by
    simp at q
    subst q e
    exact ⟨v, rfl, h⟩
  | d :: ds, _, i + 1, d', ⟨v, r, e, h, t⟩, q => by
    subst e
    obtain ⟨u, h1, h2⟩ := IsL.get (i := i) t (by simpa using q)
    exact ⟨u, by simpa using h1, h2⟩
theorem deqL_range : ∀ (ds es : List Dv), ds.length = es.length → (List.range ds.length).all (fun j => deq (ds.getD j .non) (es.getD j .non)) = deqL ds es
  | [], [], _ => rfl
  | d :: ds, e :: es, h => by
    have ih := deqL_range ds es (by simpa using h)
    rw [List.length_cons, List.range_succ_eq_map, List.all_cons, List.all_map]
    show (deq d e && (List.range ds.length).all (fun j => deq (ds.getD j .non) (es.getD j .non))) = (deq d e && deqL ds es)
    rw [ih]
  | [], _ :: _, h => by simp at h
  | _ :: _, [], h => by simp at h
theorem deqL_len : ∀ (ds es : List Dv), ds.length ≠ es.length → deqL ds es = false
  | [], [], h => absurd rfl h
  | d :: ds, e :: es, h => by
    show (deq d e && deqL ds es) = false
    rw [deqL_len ds es (fun q => h (by simp [q]))]
    simp
  | [], _ :: _, _ => rfl
  | _ :: _, [], _ => rfl
theorem flatToL_get : ∀ {n : Nat} {ds : List Dv} {i : Nat} {d : Dv}, flatToL n ds = true → ds[i]? = some d → flatTo n d = true
  | n, [], _, _, _, e => by simp at e
  | n, d :: ds, 0, d', f, e => by
    simp at e
    subst e
    rw [flatToL, Bool.and_eq_true] at f
    exact f.1
  | n, d :: ds, i + 1, d', f, e => by
    rw [flatToL, Bool.and_eq_true] at f
    exact flatToL_get (i := i) f.2 (by simpa using e)
theorem IsL.snoc {H : Hp} {d : Dv} {v : V} (h : Is H d v) : ∀ {ds : List Dv} {vs : List V}, IsL H ds vs → IsL H (ds ++ [d]) (vs ++ [v])
  | [], _, e => by
    rw [show _ = [] from e]
    exact ⟨v, [], rfl, h, rfl⟩
  | d' :: ds, _, ⟨v', r, e, h', t⟩ => by
    subst e
    exact ⟨v', r ++ [v], rfl, h', IsL.snoc h t⟩
theorem IsL.strs (H : Hp) : ∀ zs : List Str, IsL H (zs.map Dv.str) (zs.map V.str)
  | [] => rfl
  | z :: zs => ⟨.str z, zs.map V.str, rfl, rfl, IsL.strs H zs⟩
theorem hardL_of : ∀ {ds : List Dv}, (∀ d ∈ ds, hard d = true) → hardL ds = true
  | [], _ => rfl
  | d :: ds, h => by
    rw [hardL, h d List.mem_cons_self, hardL_of fun e m => h e (List.mem_cons_of_mem _ m)]
    rfl
theorem KeepT.lst {H : Hp} {l : Addr} {xs : List V} {o : HO} (h : H l = some (.lst xs)) : KeepT H (upd H l o) := fun a ys e => by
  have : a ≠ l := ne_of e h (by intro z; cases z)
  rw [upd_ne this]
  exact e
theorem Same.over {H H' : Hp} {l : Addr} {o : HO} (S : Same H H') (hl : H l = none) : Same H (L2.upd H' l o) := fun b u e => by
  rw [upd_ne (ne_of_none e hl)]
  exact S b u e
inductive View (s : Shared) (H : Hp) : Dv → Value → Prop where
  | non : View s H .non .none
  | bl (b : Bool) : View s H (.bl b) (.bool b)
  | int (i : Int) (t : Tok) : View s H (.int i) (.int i t)
  | str (x : Str) (t : Tok) : View s H (.str x) (.str x t)
  | lst {ds : List Dv} {l : Addr} {its : List Value} {vs : List V} (hl : s.heap.IsList l its.toArray) (r : Vals vs its) (h : IsL H ds vs) : View s H (.lst ds) (.ref l)
  | tup {ds : List Dv} {l : Addr} {its : List Value} {vs : List V} (hl : s.heap.IsTuple l its.toArray) (r : Vals vs its) (h : IsL H ds vs) : View s H (.tup ds) (.ref l)
section
variable {X : Cx} {pins : List (Addr × Obj)} {σ : St} {H : Hp} {s : Shared}
theorem Is.view (I : Inv X pins σ H s) {n : Nat} {d : Dv} {v : V} {u : Value} (f : flatTo n d = true) (h : Is H d v) (r : RelV v u) : View s H d u := by
  cases d with
  | non => cases (show v = .non from h); cases r; exact .non
  | bl b => cases (show v = .bl b from h); cases r; exact .bl b
  | int b => cases (show v = .int b from h); obtain ⟨t, rfl⟩ := r; exact .int b t
  | str b => cases (show v = .str b from h); obtain ⟨t, rfl⟩ := r; exact .str b t
  | lst ds =>
    obtain ⟨a, vs, rfl, o, h⟩ := h
    cases r
    obtain ⟨its, rv, pl, hz⟩ := I.list (SqL.of o)
    exact .lst pl.isList rv h
  | tup ds =>
    obtain ⟨a, vs, rfl, o, h⟩ := h
    cases r
    obtain ⟨its, rv, pl, hz⟩ := I.tuple (SqT.of o)
    exact .tup pl rv h
  | dct ks ds => simp [flatTo] at f
open PySem.SeqAt in
theorem items_eqAt {n : Nat} {A : Around} (hu : A.units + n < cLine)
    (ih : ∀ (d e : Dv) (v v' : V) (u u' : Value) (A : Around), A.units + n < cLine → flatTo n d = true → flatTo n e = true → Is H d v → Is H e v' → RelV v u → RelV v' u' → EqAt A s u u' (deq d e))
    {ds es : List Dv} {vs vs' : List V} {its its' : List Value} (f : flatToL n ds = true) (g : flatToL n es = true) (h : IsL H ds vs) (h' : IsL H es vs') (r : Vals vs its) (r' : Vals vs' its')
    (j : Nat) (h1 : j < its.toArray.size) (h2 : j < its'.toArray.size) : EqAt A s its.toArray[j] its'.toArray[j] (deq (ds.getD j .non) (es.getD j .non)) := by
  have l1 := r.length
  have l2 := r'.length
  have l3 := h.length
  have l4 := h'.length
  rw [List.size_toArray] at h1 h2
  have e1 : ds[j]? = some (ds.getD j .non) := by
    rw [List.getD_eq_getElem?_getD, List.getElem?_eq_getElem (by omega)]; rfl
  have e2 : es[j]? = some (es.getD j .non) := by
    rw [List.getD_eq_getElem?_getD, List.getElem?_eq_getElem (by omega)]; rfl
  obtain ⟨v, q1, i1⟩ := h.get e1
  obtain ⟨v', q2, i2⟩ := h'.get e2
  obtain ⟨u, p1, k1⟩ := r.get q1
  obtain ⟨u', p2, k2⟩ := r'.get q2
  have z1 : its.toArray[j] = u := by
    have := List.getElem?_eq_some_iff.mp p1
    obtain ⟨_, e⟩ := this
    simpa using e
  have z2 : its'.toArray[j] = u' := by
    have := List.getElem?_eq_some_iff.mp p2
    obtain ⟨_, e⟩ := this
    simpa using e
  rw [z1, z2]
  exact ih _ _ v v' u u' A hu (flatToL_get f e1) (flatToL_get g e2) i1 i2 k1 k2
open PySem.SeqAt in
theorem rc_of (I : Inv X pins σ H s) {n : Nat}
    (ih : ∀ (d e : Dv) (v v' : V) (u u' : Value) (A : Around), A.units + n < cLine → flatTo n d = true → flatTo n e = true → Is H d v → Is H e v' → RelV v u → RelV v' u' → EqAt A s u u' (deq d e))
    (d e : Dv) (v v' : V) (u u' : Value) (A : Around) (hu : A.units + (n + 1) < cLine) (f : flatTo (n + 1) d = true) (g : flatTo (n + 1) e = true) (h : Is H d v) (h' : Is H e v') (r : RelV v u) (r' : RelV v' u') :
    RcAt A s u u' (deq d e) ∧ RcNeAt A s u u' (!deq d e) := by
  have hu0 : A.units < cLine := by omega
  have hu1 : A.in1.units + n < cLine := by show A.units + 1 + n < cLine; omega
  have w := Is.view I f h r
  have w' := Is.view I g h' r'
  cases w with
  | non =>
    cases w' with
    | non => exact ⟨RcAt.none_none, RcNeAt.none_none⟩
    | bl b => exact ⟨RcAt.none_bool _, RcNeAt.none_bool _⟩
    | int b t => exact ⟨RcAt.none_int _ _, RcNeAt.none_int _ _⟩
    | str b t => exact ⟨RcAt.none_str _ _, RcNeAt.none_str _ _⟩
    | lst hl _ _ => exact ⟨RcAt.none_list hl hu0, RcNeAt.none_list hl hu0⟩
    | tup hl _ _ => exact ⟨RcAt.none_tuple hl hu0, RcNeAt.none_tuple hl hu0⟩
  | bl a =>
    cases w' with
    | non => exact ⟨RcAt.bool_none _, RcNeAt.bool_none _⟩
    | bl b => exact ⟨RcAt.bool_bool _ _, RcNeAt.bool_bool _ _⟩
    | int b t => exact ⟨RcAt.bool_int _ _ _, RcNeAt.bool_int _ _ _⟩
    | str b t => exact ⟨RcAt.bool_str _ _ _, RcNeAt.bool_str _ _ _⟩
    | lst hl _ _ => exact ⟨RcAt.bool_list _ hl hu0, RcNeAt.bool_list _ hl hu0⟩
    | tup hl _ _ => exact ⟨RcAt.bool_tuple _ hl hu0, RcNeAt.bool_tuple _ hl hu0⟩
  | int a t =>
    cases w' with
    | non => exact ⟨RcAt.int_none _ _, RcNeAt.int_none _ _⟩
    | bl b => exact ⟨RcAt.int_bool _ _ _, RcNeAt.int_bool _ _ _⟩
    | int b t => exact ⟨RcAt.int_int _ _ _ _, RcNeAt.int_int _ _ _ _⟩
    | str b t => exact ⟨RcAt.int_str _ _ _ _, RcNeAt.int_str _ _ _ _⟩
    | lst hl _ _ => exact ⟨RcAt.int_list _ _ hl hu0, RcNeAt.int_list _ _ hl hu0⟩
    | tup hl _ _ => exact ⟨RcAt.int_tuple _ _ hl hu0, RcNeAt.int_tuple _ _ hl hu0⟩
  | str a t =>
    cases w' with
    | non => exact ⟨RcAt.str_none _ _, RcNeAt.str_none _ _⟩
    | bl b => exact ⟨RcAt.str_bool _ _ _, RcNeAt.str_bool _ _ _⟩
    | int b t => exact ⟨RcAt.str_int _ _ _ _, RcNeAt.str_int _ _ _ _⟩
    | str b t => exact ⟨RcAt.str_str _ _ _ _, RcNeAt.str_str _ _ _ _⟩
    | lst hl _ _ => exact ⟨RcAt.str_list _ _ hl hu0, RcNeAt.str_list _ _ hl hu0⟩
    | tup hl _ _ => exact ⟨RcAt.str_tuple _ _ hl hu0, RcNeAt.str_tuple _ _ hl hu0⟩
  | @lst ds l its vs hl rv hi =>
    cases w' with
    | non => exact ⟨RcAt.list_none hl hu0, RcNeAt.list_none hl hu0⟩
    | bl b => exact ⟨RcAt.list_bool _ hl hu0, RcNeAt.list_bool _ hl hu0⟩
    | int b t => exact ⟨RcAt.list_int _ _ hl hu0, RcNeAt.list_int _ _ hl hu0⟩
    | str b t => exact ⟨RcAt.list_str _ _ hl hu0, RcNeAt.list_str _ _ hl hu0⟩
    | @lst es l' its' vs' hl' rv' hi' =>
      have f' : flatToL n ds = true := by simpa [flatTo] using f
      have g' : flatToL n es = true := by simpa [flatTo] using g
      have l1 := rv.length
      have l2 := rv'.length
      have l3 := hi.length
      have l4 := hi'.length
      by_cases hq : ds.length = es.length
      · have hsz : its.toArray.size = its'.toArray.size := by rw [List.size_toArray, List.size_toArray]; omega
        have key : (List.range its.toArray.size).all (fun j => deq (ds.getD j .non) (es.getD j .non)) = deq (.lst ds) (.lst es) := by
          rw [List.size_toArray, show its.length = ds.length by omega]
          exact deqL_range ds es hq
        rw [← key]
        exact ⟨RcAt.lists hl hl' hsz hu0 (items_eqAt hu1 ih f' g' hi hi' rv rv'), RcNeAt.lists hl hl' hsz hu0 (items_eqAt hu1 ih f' g' hi hi' rv rv')⟩
      · have key : deq (.lst ds) (.lst es) = false := deqL_len ds es hq
        have hsz : (its.toArray.size != its'.toArray.size) = true := by
          rw [List.size_toArray, List.size_toArray, bne_iff_ne]; omega
        rw [key]
        exact ⟨RcAt.lists_lengths hl hl' hsz hu0, RcNeAt.lists_lengths hl hl' hsz hu0⟩
    | tup hl' _ _ => exact ⟨RcAt.list_tuple hl hl' hu0, RcNeAt.list_tuple hl hl' hu0⟩
  | @tup ds l its vs hl rv hi =>
    cases w' with
    | non => exact ⟨RcAt.tuple_none hl hu0, RcNeAt.tuple_none hl hu0⟩
    | bl b => exact ⟨RcAt.tuple_bool _ hl hu0, RcNeAt.tuple_bool _ hl hu0⟩
    | int b t => exact ⟨RcAt.tuple_int _ _ hl hu0, RcNeAt.tuple_int _ _ hl hu0⟩
    | str b t => exact ⟨RcAt.tuple_str _ _ hl hu0, RcNeAt.tuple_str _ _ hl hu0⟩
    | lst hl' _ _ => exact ⟨RcAt.tuple_list hl hl' hu0, RcNeAt.tuple_list hl hl' hu0⟩
    | @tup es l' its' vs' hl' rv' hi' =>
      have f' : flatToL n ds = true := by simpa [flatTo] using f
      have g' : flatToL n es = true := by simpa [flatTo] using g
      have l1 := rv.length
      have l2 := rv'.length
      have l3 := hi.length
      have l4 := hi'.length
      have key : ((List.range (min its.toArray.size its'.toArray.size)).all (fun j => deq (ds.getD j .non) (es.getD j .non)) && its.toArray.size == its'.toArray.size) = deq (.tup ds) (.tup es) := by
        rw [List.size_toArray, List.size_toArray, show its.length = ds.length by omega, show its'.length = es.length by omega]
        show _ = deqL ds es
        by_cases hq : ds.length = es.length
        · rw [← hq, Nat.min_self, deqL_range ds es hq]
          simp
        · rw [deqL_len ds es hq, beq_eq_false_iff_ne.mpr hq]
          simp
      rw [← key]
      exact ⟨RcAt.tuples hl hl' hu0 (items_eqAt hu1 ih f' g' hi hi' rv rv'), RcNeAt.tuples hl hl' hu0 (items_eqAt hu1 ih f' g' hi hi' rv rv')⟩
open PySem.SeqAt in
theorem Is.eqAt (I : Inv X pins σ H s) : ∀ (n : Nat) (d e : Dv) (v v' : V) (u u' : Value) (A : Around), A.units + n < cLine → flatTo n d = true → flatTo n e = true → Is H d v → Is H e v' → RelV v u → RelV v' u' → EqAt A s u u' (deq d e) := by
  intro n
  induction n with
  | zero =>
    intro d e v v' u u' A hu f g h h' r r'
    cases d with
    | lst _ => simp [flatTo] at f
    | tup _ => simp [flatTo] at f
    | dct _ _ => simp [flatTo] at f
    | non =>
      cases e with
      | lst _ => simp [flatTo] at g
      | tup _ => simp [flatTo] at g
      | dct _ _ => simp [flatTo] at g
      | _ => cases h; cases h'; exact eqAt_V r r' rfl rfl
    | bl b =>
      cases e with
      | lst _ => simp [flatTo] at g
      | tup _ => simp [flatTo] at g
      | dct _ _ => simp [flatTo] at g
      | _ => cases h; cases h'; exact eqAt_V r r' rfl rfl
    | int b =>
      cases e with
      | lst _ => simp [flatTo] at g
      | tup _ => simp [flatTo] at g
      | dct _ _ => simp [flatTo] at g
      | _ => cases h; cases h'; exact eqAt_V r r' rfl rfl
    | str b =>
      cases e with
      | lst _ => simp [flatTo] at g
      | tup _ => simp [flatTo] at g
      | dct _ _ => simp [flatTo] at g
      | _ => cases h; cases h'; exact eqAt_V r r' rfl rfl
  | succ n ih =>
    intro d e v v' u u' A hu f g h h' r r'
    have rc := (rc_of I ih d e v v' u u' A hu f g h h' r r').1
    have w := Is.view I f h r
    have w' := Is.view I g h' r'
    have fin : ∀ (l l' : Addr), u = .ref l → u' = .ref l' → EqAt A s u u' (deq d e) := by
      rintro l l' rfl rfl
      by_cases hq : l = l'
      · subst hq
        have e1 : v = .ref l := r.inj (show RelV (.ref l) (.ref l) from rfl)
        have e2 : v' = .ref l := r'.inj (show RelV (.ref l) (.ref l) from rfl)
        subst e1 e2
        have e3 := Is.inj d e _ h h' ⟨_, f⟩ ⟨_, g⟩
        subst e3
        rw [deq_refl _ d f]
        exact EqAt.same _
      · exact EqAt.of_refs hq rc
    cases w with
    | lst hl _ _ =>
      cases w' with
      | lst hl' _ _ => exact fin _ _ rfl rfl
      | tup hl' _ _ => exact fin _ _ rfl rfl
      | non => exact EqAt.list_none hl (by omega)
      | bl b => exact EqAt.list_bool _ hl (by omega)
      | int b t => exact EqAt.list_int _ _ hl (by omega)
      | str b t => exact EqAt.list_str _ _ hl (by omega)
    | tup hl _ _ =>
      cases w' with
      | lst hl' _ _ => exact fin _ _ rfl rfl
      | tup hl' _ _ => exact fin _ _ rfl rfl
      | non => exact EqAt.tuple_none hl (by omega)
      | bl b => exact EqAt.tuple_bool _ hl (by omega)
      | int b t => exact EqAt.tuple_int _ _ hl (by omega)
      | str b t => exact EqAt.tuple_str _ _ hl (by omega)
    | non =>
      cases w' with
      | lst hl' _ _ => exact EqAt.none_list hl' (by omega)
      | tup hl' _ _ => exact EqAt.none_tuple hl' (by omega)
      | _ => cases h; cases h'; exact eqAt_V r r' rfl rfl
    | bl b =>
      cases w' with
      | lst hl' _ _ => exact EqAt.bool_list _ hl' (by omega)
      | tup hl' _ _ => exact EqAt.bool_tuple _ hl' (by omega)
      | _ => cases h; cases h'; exact eqAt_V r r' rfl rfl
    | int b t =>
      cases w' with
      | lst hl' _ _ => exact EqAt.int_list _ _ hl' (by omega)
      | tup hl' _ _ => exact EqAt.int_tuple _ _ hl' (by omega)
      | _ => cases h; cases h'; exact eqAt_V r r' rfl rfl
    | str b t =>
      cases w' with
      | lst hl' _ _ => exact EqAt.str_list _ _ hl' (by omega)
      | tup hl' _ _ => exact EqAt.str_tuple _ _ hl' (by omega)
      | _ => cases h; cases h'; exact eqAt_V r r' rfl rfl
end
def rEqD (neg : Bool) : R2 := fun x y H Q => ∃ d e, Is H d x ∧ Is H e y ∧ flatTo 30 d = true ∧ flatTo 30 e = true ∧ Q (.bl (if neg then !deq d e else deq d e)) H
theorem op_neD {X : Cx} (hu : X.A.units + 64 < cLine) : OpR X (compareOp .NotEq) (rEqD true) := by
  intro pins s σ H x y v u Q I rx ry h
  obtain ⟨d, e, h, h', f, g, q⟩ := h
  exact (rc_of (n := 29) I (Is.eqAt I 29) d e x y v u X.A (by omega) f g h h' rx ry).2 _ _ _ _ ⟨.bl _, H, I, rfl, q⟩
end L2

namespace L2
open PySem PySem.Spec PyProof.Rows
instance keyMem (k : Key) (l : List Key) : Decidable (k ∈ l) := decidable_of_iff (l.any (fun x => decide (x = k)) = true) (by simp)
def metK (key : Nat → Key) : Nat → List Key
  | 0 => []
  | i + 1 => if key i ∈ metK key i then metK key i else metK key i ++ [key i]
theorem metK_le (key : Nat → Key) : ∀ i, (metK key i).length ≤ i
  | 0 => Nat.le_refl _
  | i + 1 => by
    have ih := metK_le key i
    show (if key i ∈ metK key i then metK key i else metK key i ++ [key i]).length ≤ i + 1
    split
    · omega
    · rw [List.length_append, List.length_singleton]; omega
theorem metK_mem (key : Nat → Key) (k : Key) : ∀ i, k ∈ metK key i ↔ ∃ j, j < i ∧ key j = k
  | 0 => by
    constructor
    · intro h; cases h
    · rintro ⟨j, h, _⟩; omega
  | i + 1 => by
    have ih := metK_mem key k i
    show k ∈ (if key i ∈ metK key i then metK key i else metK key i ++ [key i]) ↔ _
    have step : (k ∈ metK key i ∨ k = key i) ↔ ∃ j, j < i + 1 ∧ key j = k := by
      rw [ih]
      constructor
      · rintro (⟨j, h, e⟩ | e)
        · exact ⟨j, by omega, e⟩
        · exact ⟨i, by omega, e.symm⟩
      · rintro ⟨j, h, e⟩
        by_cases hj : j = i
        · subst hj; exact .inr e.symm
        · exact .inl ⟨j, by omega, e⟩
    rw [← step]
    split
    · rename_i h
      constructor
      · exact .inl
      · rintro (h' | rfl)
        · exact h'
        · exact h
    · rw [List.mem_append, List.mem_singleton]
theorem metK_full (key : Nat → Key) : ∀ n, (metK key n).length = n ↔ ∀ i j, i < j → j < n → key i ≠ key j
  | 0 => ⟨fun _ i j _ h => absurd h (Nat.not_lt_zero _), fun _ => rfl⟩
  | n + 1 => by
    have ih := metK_full key n
    have le := metK_le key n
    have mm := metK_mem key (key n) n
    show (if key n ∈ metK key n then metK key n else metK key n ++ [key n]).length = n + 1 ↔ _
    split
    · rename_i h
      constructor
      · intro e; omega
      · intro e
        obtain ⟨j, hj, q⟩ := mm.mp h
        exact absurd q (e j n hj (Nat.lt_succ_self n))
    · rename_i h
      rw [List.length_append, List.length_singleton, Nat.add_right_cancel_iff, ih]
      constructor
      · intro e i j hi hj
        by_cases q : j = n
        · subst q
          exact fun z => h (mm.mpr ⟨i, hi, z⟩)
        · exact e i j hi (by omega)
      · intro e i j hi hj
        exact e i j hi (by omega)
def dedK (ks : List Key) : List Key := metK (fun i => ks.getD i (.inl 0)) ks.length
theorem dedK_full (ks : List Key) : (dedK ks).length = ks.length ↔ ks.Nodup := by
  unfold dedK
  rw [metK_full, List.nodup_iff_pairwise_ne, List.pairwise_iff_getElem]
  constructor
  · intro h i j hi hj hij
    have := h i j hij hj
    simpa [List.getD_eq_getElem?_getD, hi, hj] using this
  · intro h i j hij hj
    have hi : i < ks.length := by omega
    have := h i j hi hj hij
    simpa [List.getD_eq_getElem?_getD, hi, hj] using this
theorem dedK_le (ks : List Key) : (dedK ks).length ≤ ks.length := metK_le _ _
def SetO (P : Program) (w : World) (a : Addr) (S : Key → Bool) (n : Nat) : HO := .ext fun h => h.SetOf (mixKind P w) a S n
theorem SetO.ok {P : Program} {w : World} {H : Hp} {h : Heap} {a : Addr} {S : Key → Bool} {n : Nat} (x : h.SetOf (mixKind P w) a S n) : ObjOk P w H h a (SetO P w a S n) :=
  ⟨x, let ⟨o, _, _, _, ho, _⟩ := x; ⟨o, ho⟩, fun _ _ ⟨o, es, ep, t, ho, r⟩ k => ⟨o, es, ep, t, k o ho, r⟩⟩
theorem key_scan {P : Program} {w : World} {k : Key} {v : Value} (h : (mixKind P w).is k v = true) : v.scannable = true := by
  rcases keyIs_shape h with ⟨i, t, rfl, rfl⟩ | ⟨x, t, rfl, rfl⟩ <;> rfl
section
variable {P : Program} {w : World} {A : Around} {R : Result → Shared → Prop} {I : Addr} {fp wr : List Addr} {G : Array GenState → Array GenState → Prop} {n : Nat} {Pv : Nat → Value → Prop} {Stt : Nat → Shared → Prop}
theorem setO_congr {h : Heap} {a : Addr} {S S' : Key → Bool} {n n' : Nat} (x : h.SetOf (mixKind P w) a S n) (e : ∀ k, S k = S' k) (q : n = n') : h.SetOf (mixKind P w) a S' n' := by
  obtain rfl : S = S' := funext e
  subst q
  exact x
theorem set_loop (W : WalksS P w A.in1 I fp wr G n Pv Stt) (D : Addr) (hD : D ∉ fp) (key : Nat → Key) (hv : ∀ i v, Pv i v → (mixKind P w).is (key i) v = true) (hb : n + 1 < scanBound) (fin : ∀ s s', Moved (D :: wr) G s s' → s'.heap.SetOf (mixKind P w) D (fun k => decide (k ∈ metK key n)) (metK key n).length → True) :
    ∀ (m i : Nat) (s : Shared), n - i = m → i ≤ n → Stt i s → s.heap.SetOf (mixKind P w) D (fun k => decide (k ∈ metK key i)) (metK key i).length →
      (∀ s', Moved (D :: wr) G s s' → s'.heap.SetOf (mixKind P w) D (fun k => decide (k ∈ metK key n)) (metK key n).length → R (.ok (.ret .none)) s') →
      codeAny (model P w) A (.builtin "set.update.loop" ⟨[.ref D, .ref I], []⟩) R s := by
  have hDw : D ∉ wr := fun z => hD (W.sub _ z)
  have sub : ∀ b ∈ wr, b ∈ D :: wr := fun b z => List.mem_cons_of_mem _ z
  have moved : ∀ {s s' : Shared} {S : Key → Bool} {c : Nat}, Moved wr G s s' → s.heap.SetOf (mixKind P w) D S c → s'.heap.SetOf (mixKind P w) D S c := fun mv ⟨o, es, ep, t, ho, r⟩ => ⟨o, es, ep, t, mv.heap D _ hDw ho, r⟩
  intro m
  induction m with
  | zero =>
    intro i s e1 e2 st hS hR
    obtain rfl : i = n := by omega
    refine codeAny_builtin PyProof.Rows.F.entry_set_update_loop ?_
    rw [Around.under_plainId PyProof.Rows.F.plain_set_update_loop _]
    show wpAny _ A.in1 (pyNext (.ref I) >>= _) _ _ s
    refine wpAny_bind (W.done s _ _ st fun s' mv => ?_)
    exact wpAny_pure (hR s' (mv.mono sub) (moved mv hS))
  | succ m ih =>
    intro i s e1 e2 st hS hR
    have lt : i < n := by omega
    refine codeAny_builtin PyProof.Rows.F.entry_set_update_loop ?_
    rw [Around.under_plainId PyProof.Rows.F.plain_set_update_loop _]
    show wpAny _ A.in1 (pyNext (.ref I) >>= _) _ _ s
    refine wpAny_bind (W.item i s _ _ lt st fun v s' pv st' mv => ?_)
    have hk := hv i v pv
    have hS1 := moved mv hS
    show wpAny _ A.in1 (holding [v] (setAdd D v) >>= _) _ _ s'
    refine wpAny_bind (wpAny_holding ?_)
    unfold setAdd
    refine wpAny_holding (wpAny_bind ((mixKind P w).pyHash (k := key i) hk ?_))
    have room : (metK key i).length + 1 < scanBound := by have := metK_le key i; omega
    refine wpAny_setAddHashed_of (knd := mixKind P w) (s := { s' with toks := s'.toks + 1 }) hk (key_scan hk) hS1 room fun h' sb hS2 => ?_
    have hS3 : h'.SetOf (mixKind P w) D (fun k => decide (k ∈ metK key (i + 1))) (metK key (i + 1)).length := by
      refine setO_congr hS2 (fun k => ?_) ?_
      · show (decide (k ∈ metK key i) || decide (k = key i)) = decide (k ∈ if key i ∈ metK key i then metK key i else metK key i ++ [key i])
        by_cases z : key i ∈ metK key i
        · rw [if_pos z]
          by_cases y : k = key i
          · subst y; simp [z]
          · simp [y]
        · rw [if_neg z]
          simp
      · show (if decide (key i ∈ metK key i) = true then (metK key i).length else (metK key i).length + 1) = (if key i ∈ metK key i then metK key i else metK key i ++ [key i]).length
        by_cases z : key i ∈ metK key i
        · rw [if_pos z, if_pos (decide_eq_true z)]
        · rw [if_neg z, if_neg (by simpa using z)]
          simp
    refine wpAny_pure ⟨plainId_quiet PyProof.Rows.F.plain_set_update_loop _, ih (i + 1) _ (by omega) lt (W.frame _ s' _ _ st' (Nat.le_succ _) fun b hb o e => ?_) hS3 fun s2 mv2 hS4 => ?_⟩
    · rw [sb.2 b (fun z : b = D => hD (by rw [← z]; exact hb))]
      exact e
    · refine hR s2 (Moved.trans W.gtrans ((mv.mono sub).then_heap (Nat.le_succ _) fun b o hb e => ?_) mv2) hS4
      rw [sb.2 b (fun z : b = D => hb (by rw [z]; exact List.mem_cons_self))]
      exact e
end
section
variable {P : Program} {w : World} {A : Around} {E : Value → Shared → Prop} {s : Shared}
abbrev newS (led : Bool) : Obj := { cls := .type "set", dict := none, data := .set #[] 0 (.fresh 0 0 led) }
set_option maxHeartbeats 8000000 in
theorem set_of_keys {l : Addr} {its : List Value} {ks : List Key} {Q : Value → Shared → Prop} (hh : A.handled = none) (hl : s.heap.IsList l its.toArray) (hk : ∀ i v, its[i]? = some v → (mixKind P w).is (ks.getD i (.inl 0)) v = true) (hn : its.length = ks.length) (hb : its.length + 1 < scanBound)
    (h : ∀ (h' : Heap) (tk : Nat), h'.SetOf (mixKind P w) s.heap.objs.size (fun k => decide (k ∈ dedK ks)) (dedK ks).length → (∀ b o, s.heap.get? b = some o → h'.get? b = some o) → Q (.ref s.heap.objs.size) { s with heap := h', toks := tk }) :
    wpAny (model P w) A (call (.type "set") [.ref l]) Q E s := by
  obtain ⟨c, tl, hmro⟩ := PySem.F.called_set.mro
  have m1 := PySem.F.called_set.made
  have m2 := PySem.F.called_set.sub
  refine wpAny_call (codeAny_of_tree ?_)
  show wpAny _ _ (callAny (.type "set") _) _ _ _
  refine wpAny_pure ⟨Code.quiet_builtin _ (by decide +kernel), codeAny_builtin PySem.F.entry_type_call ?_⟩
  rw [Around.under_plain (weight_type_call_type "set" [.ref l] []) rfl]
  have m3 := PySem.F.called_set.notType
  have m4 := PySem.F.called_set.canCreate
  have m5 := PySem.F.typeCall_set_1 (.ref l)
  repeat (any_goals (first | assumption | wp_step))
  refine codeAny_mono (code_set_new_1 (.ref l) (E := E) (Q₁ := fun ob s1 => ∃ led : Bool, ob = .ref s.heap.objs.size ∧ s1 = { s with heap := s.heap.push (newS led) }) fun led => ⟨led, rfl, rfl⟩) fun r s1 hr => ?_
  cases r with
  | error e => exact hr
  | ok fl =>
    cases fl with
    | ret ob =>
      obtain ⟨led, rfl, rfl⟩ := hr
      have hS : (s.heap.push (newS led)).get? s.heap.objs.size = some (newS led) := Heap.get?_push_size _ rfl
      have hT : Shared.TypeIs { s with heap := s.heap.push (newS led) } (.ref s.heap.objs.size) "set" := ⟨_, hS, rfl⟩
      have m6 := PySem.F.called_set.init.lookup
      have m7 := PySem.F.called_set.init.bind (.ref s.heap.objs.size)
      repeat (any_goals (first | assumption | wp_step))
      refine codeAny_mono (codeAny_call_builtin (R := wants (fun r s2 => r = .none ∧ ∃ h' tk, s2 = { s with heap := h', toks := tk } ∧ h'.SetOf (mixKind P w) s.heap.objs.size (fun k => decide (k ∈ dedK ks)) (dedK ks).length ∧ (∀ b o, s.heap.get? b = some o → h'.get? b = some o)) E)
        PySem.F.called_set.init.plain PySem.F.entry_set_init (check_set_init_1 hT ?_)) fun r2 s2 hr2 => ?_
      · obtain ⟨⟨oc, od, oda, osl⟩, hol, hcl, nl, hdl⟩ := hl
        simp only at hcl hdl
        subst hcl hdl
        have hol1 : (s.heap.push (newS led)).get? l = some { cls := .type "list", dict := od, data := .seq its.toArray nl, slots := osl } := Heap.get?_push_of_some _ hol
        have m8 := PySem.F.sub_list_set
        have m9 := PySem.F.sub_list_frozenset
        have m10 : (Value.type "list" == Value.type "dict") = false := by decide
        have hl1 : (s.heap.push (newS led)).IsList l its.toArray := ⟨_, hol1, rfl, nl, rfl⟩
        have lS : l < s.heap.objs.size := Heap.lt_size hol
        unfold Builtin.«set.__init__» noKeywords Builtin.Frozenset.updateFrom
        generalize hPI : pyIter = PI
        wp_walk
        subst hPI
        refine wpAny_pyIter_list hl1 (wpAny_bind (wpAny_runValue ?_))
        have hh3 : A.in1.in1.in1.handled = none := by simp [hh]
        have nI : l ≠ (s.heap.push (newS led)).objs.size := by rw [Heap.size_push]; exact Nat.ne_of_lt (Nat.lt_succ_of_lt lS)
        have nS : s.heap.objs.size ∉ [(s.heap.push (newS led)).objs.size, l] := by
          rw [Heap.size_push]
          simp only [List.mem_cons, List.mem_singleton, List.not_mem_nil, or_false, not_or]
          exact ⟨Nat.ne_of_lt (Nat.lt_succ_self _), Nat.ne_of_gt lS⟩
        have sz : its.toArray.size = ks.length := by rw [List.size_toArray, hn]
        refine set_loop ((Walks.list hh3 _ l nI its.toArray).toS) s.heap.objs.size nS (fun i => ks.getD i (.inl 0)) (fun i v pv => hk i v (by simpa using pv)) (by rw [List.size_toArray]; exact hb) (fun _ _ _ _ => trivial) (its.toArray.size - 0) 0 _ (by omega) (Nat.zero_le _)
          ⟨⟨_, Heap.get?_push_size _ rfl, rfl, rfl⟩, (hl1.push _)⟩ ?_ ?_
        · have g : ((s.heap.push (newS led)).push { cls := .type "list_iterator", data := .fields #[.ref l, .int 0 0] }).get? s.heap.objs.size = some (newS led) := Heap.get?_push_of_some _ hS
          exact ⟨_, #[], 0, _, g, ⟨rfl, rfl, rfl⟩, rfl, fun e he => by simp at he, fun k => by simp [metK], by decide, by rfl, rfl⟩
        · intro s3 mv hS3
          obtain ⟨h3, g3, d3, t3, o3⟩ := s3
          have e1 : g3 = s.gens := mv.gens
          have e2 : d3 = s.drawn := mv.drawn
          have e3 : o3 = s.os := mv.os
          subst e1 e2 e3
          rw [sz] at hS3
          show wpAny _ _ _ _ _ _
          refine wpAny_pure ?_
          show wpAny _ _ (ret Value.none) _ _ _
          refine wpAny_pure ⟨rfl, h3, t3, rfl, hS3, fun b o e => ?_⟩
          have lb := Heap.lt_size e
          have b1 : b ≠ s.heap.objs.size := Nat.ne_of_lt lb
          have b2 : b ≠ (s.heap.push (newS led)).objs.size := by rw [Heap.size_push]; exact Nat.ne_of_lt (Nat.lt_succ_of_lt lb)
          exact mv.heap b o (by simp only [List.mem_cons, List.mem_singleton, List.not_mem_nil, or_false, not_or]; exact ⟨b1, b2⟩) (Heap.get?_push_of_some _ (Heap.get?_push_of_some _ e))
      · cases r2 with
        | error e => exact hr2
        | ok f2 =>
          cases f2 with
          | ret r =>
            obtain ⟨rfl, h', tk, rfl, hS2, hk2⟩ := hr2
            repeat (any_goals (first | assumption | wp_step))
            exact h _ _ hS2 hk2
          | _ => exact hr2.elim
    | _ => exact hr.elim
end
section
variable {X : Cx}
theorem keysRel {P : Program} {w : World} : ∀ {ks : List Key} {us : List Value}, Vals (ks.map kV) us → ∀ i v, us[i]? = some v → (mixKind P w).is (ks.getD i (.inl 0)) v = true
  | [], us, r, i, v, e => by
    rw [List.map_nil] at r
    cases r
    simp at e
  | k :: ks, us, r, i, v, e => by
    rw [List.map_cons] at r
    cases r with
    | cons r1 r2 =>
      cases i with
      | zero =>
        simp at e
        subst e
        cases k with
        | inl z => obtain ⟨t, rfl⟩ := r1; exact keyIs_int z t
        | inr z => obtain ⟨t, rfl⟩ := r1; exact keyIs_str z t
      | succ i =>
        have := keysRel (P := P) (w := w) r2 i v (by simpa using e)
        simpa using this
theorem call_set_list (hc : X.calm = true) : CallR X (.type "set") (fun xs H Q => ∃ (p : Addr) (ks : List Key), xs = [.ref p] ∧ SqL X.K H p (ks.map kV) ∧ ks.length ≤ 1000 ∧
    ∀ l, H l = none → Q (.ref l) (upd H l (SetO X.prog X.w l (fun k => decide (k ∈ dedK ks)) (dedK ks).length))) := by
  intro pins s σ H xs us Q I r h
  obtain ⟨p, ks, rfl, hq, hn, q⟩ := h
  obtain ⟨u, rfl, ru⟩ := Vals.one r
  cases ru
  obtain ⟨its, rv, pl, hz⟩ := I.list hq
  have hlen := rv.length
  rw [List.length_map] at hlen
  refine set_of_keys (ks := ks) (I.ok.hd hc) pl.isList (keysRel rv) hlen.symm (by unfold scanBound; omega) fun h' tk hS hk => ?_
  exact ⟨.ref s.heap.objs.size, _, I.laid (t' := tk) hk (Nat.le_refl _) (SetO.ok hS), rfl, q _ (I.hok.fresh (Nat.le_refl _))⟩
theorem call_len_set : CallR X (.builtin "len") (fun xs H Q => ∃ l S n, xs = [.ref l] ∧ H l = some (SetO X.prog X.w l S n) ∧ n ≤ 1000 ∧ Q (.int n) H) := by
  intro pins s σ H xs us Q I r h
  obtain ⟨l, S, n, rfl, e, hn, q⟩ := h
  obtain ⟨u, rfl, ru⟩ := Vals.one r
  cases ru
  obtain ⟨⟨o, es, ep, t, ho, hex, hd, hel, hmem, hb, hf, hes⟩, _⟩ := I.hok l _ e
  refine PySem.call_len_set ho hex hd hf (by rw [hes]; omega) ⟨.int n, H, I.tok _, ⟨s.toks + 1, by rw [hes]⟩, q⟩
end
end L2

namespace L2
open PySem PySem.Spec PyProof.Rows
section
variable {X : Cx}
theorem keyIs_rel {k : Key} {v : Value} (h : keyIs k v = true) : RelV (kV k) v := by
  rcases keyIs_shape h with ⟨i, t, rfl, rfl⟩ | ⟨x, t, rfl, rfl⟩
  · exact ⟨t, rfl⟩
  · exact ⟨t, rfl⟩
theorem vals_of : ∀ {xs : List V} {us : List Value}, us.length = xs.length → (∀ (j : Nat) (u : Value) (x : V), us[j]? = some u → xs[j]? = some x → RelV x u) → Vals xs us
  | [], [], _, _ => .nil
  | x :: xs, u :: us, hl, h => .cons (h 0 u x rfl rfl) (vals_of (by simpa using hl) fun j v y e1 e2 => h (j + 1) v y (by simpa using e1) (by simpa using e2))
  | [], _ :: _, hl, _ => by simp at hl
  | _ :: _, [], hl, _ => by simp at hl
theorem KV.get : ∀ {kvs : List (Key × V)} {vs : List (Key × Value)} {i : Nat} {p : Key × Value}, KV kvs vs → vs[i]? = some p → ∃ q, kvs[i]? = some q ∧ q.1 = p.1 ∧ RelV q.2 p.2
  | _, _, _, _, .nil, e => by simp at e
  | _, _, 0, _, .cons r _, e => by simp at e; subst e; exact ⟨_, rfl, r.1, r.2⟩
  | _, _, i + 1, p, .cons _ t, e => by
    obtain ⟨q, h1, h2⟩ := KV.get (i := i) (p := p) t (by simpa using e)
    exact ⟨q, by simpa using h1, h2⟩
theorem call_list_dict (hc : X.calm = true) : CallR X (.type "list") (fun xs H Q => ∃ p kvs, xs = [.ref p] ∧ Rd H p (.dK kvs) ∧ ∀ l, H l = none → Q (.ref l) (upd H l (.lst (kvs.map fun kv => kV kv.1)))) := by
  intro pins s σ H xs us Q I r h
  obtain ⟨p, kvs, rfl, hq, q⟩ := h
  obtain ⟨u, rfl, ru⟩ := Vals.one r
  cases ru
  obtain ⟨hz, lo, vs, kv, hD⟩ := hq.ok I.hok
  obtain ⟨ep, hat⟩ := hD.dictAt
  have hl := KV.length kv
  refine PySem.W.kdl_call (PySem.W.kdl_dict (knd := mixKind X.prog X.w) (kvs := vs) (ep := ep) lo) (I.ok.hd hc) hat (by omega) fun h' tk acc c hk hg hi => ?_
  refine ⟨.ref s.heap.objs.size, _, I.laid (t' := tk) hk (Nat.le_refl _) (show ObjOk X.prog X.w _ h' _ (.lst (kvs.map fun kv => kV kv.1)) from ⟨by rw [List.length_map]; exact hz, acc.toList, c, ?_, by simpa using hg⟩), rfl, q _ (I.hok.fresh (Nat.le_refl _))⟩
  refine vals_of (by rw [List.length_map, Array.length_toList, hi.1, hl]) fun j u x e1 e2 => ?_
  obtain ⟨k, y, e3, e4⟩ := hi.2 j u (by rw [← Array.getElem?_toList]; exact e1)
  obtain ⟨z, e5, e6, _⟩ := KV.get kv e3
  rw [List.getElem?_map, e5] at e2
  have e2' : kV z.1 = x := by simpa using e2
  subst e2'
  rw [show z.1 = k from e6]
  exact keyIs_rel e4
def ValsO (v d : Addr) : HO := .ext fun h => h.IsValuesView v d
theorem ValsO.ok {P : Program} {w : World} {H : Hp} {h : Heap} {v d : Addr} (x : h.IsValuesView v d) : ObjOk P w H h v (ValsO v d) :=
  ⟨x, let ⟨o, ho, _⟩ := x; ⟨o, ho⟩, fun _ _ ⟨o, ho, r⟩ k => ⟨o, k o ho, r⟩⟩
theorem mt_values : MtR X "dict.values" (fun x vs H Q => ∃ d kvs, x = .ref d ∧ vs = [] ∧ Rd H d (.dK kvs) ∧ ∀ v, H v = none → Q (.ref v) (upd H v (ValsO v d))) := by
  intro pins s σ H x vs v us Q I rx rv h
  obtain ⟨d, kvs, rfl, rfl, hq, q⟩ := h
  cases rx
  have hus := rv.zero
  subst hus
  obtain ⟨hz, lo, ws, kv, hD⟩ := hq.ok I.hok
  refine call_meetsIn PySem.F.slot_dict_values hD.typeIs PySem.F.entry_dict_values (PySem.F.args_dict_values_1 _) (meets_dict_values (mixKind X.prog X.w) d lo) ⟨⟨ws, hD⟩, ?_⟩
  exact ⟨.ref s.heap.objs.size, _, I.laid (t' := s.toks) (fun b ob e => Heap.get?_push_of_some _ e) (Nat.le_refl _) (ValsO.ok ⟨_, Heap.get?_push_size _ rfl, rfl, rfl⟩), rfl, q _ (I.hok.fresh (Nat.le_refl _))⟩
theorem call_list_values (hc : X.calm = true) : CallR X (.type "list") (fun xs H Q => ∃ v d kvs, xs = [.ref v] ∧ H v = some (ValsO v d) ∧ Rd H d (.dK kvs) ∧ ∀ l, H l = none → Q (.ref l) (upd H l (.lst (kvs.map (·.2))))) := by
  intro pins s σ H xs us Q I r h
  obtain ⟨v, d, kvs, rfl, ev, hq, q⟩ := h
  obtain ⟨u, rfl, ru⟩ := Vals.one r
  cases ru
  obtain ⟨hz, lo, vs, kv, hD⟩ := hq.ok I.hok
  obtain ⟨hv, _⟩ := I.hok v _ ev
  obtain ⟨ep, hat⟩ := hD.dictAt
  have hl := KV.length kv
  refine PySem.W.kdl_call (PySem.W.kdl_values (knd := mixKind X.prog X.w) (kvs := vs) (ep := ep)) (I.ok.hd hc) ⟨hv, hat⟩ (by omega) fun h' tk acc c hk hg hi => ?_
  refine ⟨.ref s.heap.objs.size, _, I.laid (t' := tk) hk (Nat.le_refl _) (show ObjOk X.prog X.w _ h' _ (.lst (kvs.map (·.2))) from ⟨by rw [List.length_map]; exact hz, acc.toList, c, ?_, by simpa using hg⟩), rfl, q _ (I.hok.fresh (Nat.le_refl _))⟩
  refine vals_of (by rw [List.length_map, Array.length_toList, hi.1, hl]) fun j u x e1 e2 => ?_
  obtain ⟨k, e3⟩ := hi.2 j u (by rw [← Array.getElem?_toList]; exact e1)
  obtain ⟨z, e5, _, e6⟩ := KV.get kv e3
  rw [List.getElem?_map, e5] at e2
  have e2' : z.2 = x := by simpa using e2
  subst e2'
  exact e6
end
section
variable {X : Cx} {e se : Expr} {te ts : TE} {p2 pos : Pos}
end
end L2

namespace L2
open PySem PySem.Spec PyProof.Rows
theorem list_keys_miss : typeLookup (.type "list") "keys" = pure none := by rw [typeLookup_type, builtinLookup_eq_fast]; kernel_rfl
section
variable {P : Program} {w : World} {A : Around} {E : Value → Shared → Prop} {s : Shared}
theorem list_no_keys {a : Addr} {xs : Array Value} {k : Nat} {sl : Array (Option Value)} {Q : Option Value → Shared → Prop} (hA : A.handled = none) (hx : s.heap.get? a = some { cls := .type "list", dict := none, data := .seq xs k, slots := sl })
    (h : ∀ h' tk, (∀ b o, s.heap.get? b = some o → h'.get? b = some o) → Q none { s with heap := h', toks := tk }) : wpAny (model P w) A (getAttr? (.ref a) "keys") Q E s := by
  obtain ⟨hp, g, d, tk, os⟩ := s
  have hT : ∀ tk', (⟨hp, g, d, tk', os⟩ : Shared).TypeIs (.ref a) "list" := fun _ => ⟨_, hx, rfl⟩
  have f1 := sub_AttributeError
  have f3 := F.slot_list_getattribute.lookup
  have f4 := F.slot_list_getattribute.bind (.ref a)
  have f5 := am_list_getattr_none
  unfold getAttr? getAttrBy? getAttrBy
  repeat (any_goals (first | assumption | exact hT _ | ((with_reducible show wpAny _ _ (call (Value.builtin "list.__getattribute__") _ _) _ _ _); refine call_meets F.slot_list_getattribute (hT _) am_entry_list_getattribute (F.args_list_getattribute_2 _ _) (meets_getattribute_miss_list a xs k sl "keys" _ list_keys_miss (by decide +kernel)) ⟨hx, hA, fun h' tk' e hx' => ?_⟩) | wp_step))
  obtain ⟨t', u', he⟩ := hx'.there
  show wpAny _ _ (getattributeRaised _ _ _ _ _ _ _) _ _ _
  unfold getattributeRaised
  repeat (any_goals (first | assumption | wp_step))
  exact h _ _ hx'.keeps
end
theorem upd_loop_entry : entryFor table "dict.update.loop" = some Builtin.«dict.update.loop» := entryFor_of_tree (by kernel_rfl)
theorem upd_loop_plain : plainId "dict.update.loop" = true := by decide +kernel
section
variable {P : Program} {w : World} {A : Around} {R : Result → Shared → Prop} {I : Addr} {fp wr : List Addr} {G : Array GenState → Array GenState → Prop} {n : Nat} {Pv : Nat → Value → Prop} {Stt : Nat → Shared → Prop}
theorem dict_loop (W : WalksS P w A.in1 I fp wr G n Pv Stt) (D : Addr) (hD : D ∉ fp) (res : Value) (kvs : List (Key × Value)) (hn : kvs.length = n) (hz : n ≤ sizeLine) (s₀ : Shared)
    (hv : ∀ (i : Nat) (v : Value), Pv i v → ∃ (a : Addr) (k : Key) (kv x : Value) (ob : Obj) (c : Nat), v = .ref a ∧ a ∉ D :: wr ∧ s₀.heap.get? a = some ob ∧ ob.cls = .type "tuple" ∧ ob.data = .seq #[kv, x] c ∧ kvs[i]? = some (k, x) ∧ (mixKind P w).is k kv = true) :
    ∀ (m i : Nat) (s : Shared), n - i = m → i ≤ n → Stt i s → (∀ b o, b ∉ D :: wr → s₀.heap.get? b = some o → s.heap.get? b = some o) → s.heap.DictOf (mixKind P w) D (merged [] (kvs.take i)) →
      (∀ s', Moved (D :: wr) G s s' → s'.heap.DictOf (mixKind P w) D (merged [] kvs) → R (.ok (.ret res)) s') →
      codeAny (model P w) A (.builtin "dict.update.loop" ⟨[.ref D, .ref I, rawInt i, res], []⟩) R s := by
  have hDw : D ∉ wr := fun z => hD (W.sub _ z)
  have sub : ∀ b ∈ wr, b ∈ D :: wr := fun b z => List.mem_cons_of_mem _ z
  have moved : ∀ {s s' : Shared} {l : List (Key × Value)}, Moved wr G s s' → s.heap.DictOf (mixKind P w) D l → s'.heap.DictOf (mixKind P w) D l := fun mv ⟨o, es, ep, ho, r⟩ => ⟨o, es, ep, mv.heap D _ hDw ho, r⟩
  intro m
  induction m with
  | zero =>
    intro i s e1 e2 st kp hS hR
    obtain rfl : i = n := by omega
    rw [List.take_of_length_le (by omega)] at hS
    refine codeAny_builtin upd_loop_entry ?_
    rw [Around.under_plainId upd_loop_plain _]
    show wpAny _ A.in1 (pyNext (.ref I) >>= _) _ _ s
    refine wpAny_bind (W.done s _ _ st fun s' mv => ?_)
    show wpAny _ A.in1 (Builtin.Dict.addKeywords D [] >>= _) _ _ s'
    refine wpAny_bind (wpAny_pure ?_)
    exact wpAny_pure (hR s' (mv.mono sub) (moved mv hS))
  | succ m ih =>
    intro i s e1 e2 st kp hS hR
    have lt : i < n := by omega
    refine codeAny_builtin upd_loop_entry ?_
    rw [Around.under_plainId upd_loop_plain _]
    show wpAny _ A.in1 (pyNext (.ref I) >>= _) _ _ s
    refine wpAny_bind (W.item i s _ _ lt st fun v s' pv st' mv => ?_)
    obtain ⟨a, k, kv, x, ob, c, rfl, ha, hg, hc, hd, hi, hk⟩ := hv i v pv
    have hS1 := moved mv hS
    have hg1 : s'.heap.get? a = some ob := mv.heap a ob (fun z => ha (sub a z)) (kp a ob ha hg)
    have hT : s'.TypeIs (.ref a) "tuple" := ⟨ob, hg1, hc⟩
    refine wpAny_bind (wpAny_holding (wpAny_bind (wpAny_tryCatch ?_)))
    unfold Builtin.Dict.pairItems
    refine wpAny_bind (wpAny_typeOf hT ?_)
    rw [if_pos (by decide)]
    refine wpAny_bind (wpAny_seqItems hg1 hd (wpAny_pure ?_))
    show wpAny _ _ (holding [kv, x] (dictSet D kv x)) _ _ s'
    refine wpAny_holding (wpAny_dictSet_pairs hk hS1 (fun h' hS2 sb => ?_) ?_)
    · have e : merged [] (kvs.take (i + 1)) = stored (merged [] (kvs.take i)) k x := merged_take_succ [] kvs i (k, x) hi
      rw [← e] at hS2
      refine wpAny_pure ⟨plainId_quiet upd_loop_plain _, ih (i + 1) _ (by omega) lt (W.frame _ s' _ _ st' (Nat.le_succ _) fun b hb o e => ?_) (fun b o hb e => ?_) hS2 fun s2 mv2 hS4 => ?_⟩
      · rw [sb.2 b (fun z : b = D => hD (by rw [← z]; exact hb))]
        exact e
      · rw [sb.2 b (fun z : b = D => hb (by rw [z]; exact List.mem_cons_self))]
        exact mv.heap b o (fun z => hb (sub b z)) (kp b o hb e)
      · refine hR s2 (Moved.trans W.gtrans ((mv.mono sub).then_heap (Nat.le_succ _) fun b o hb e => ?_) mv2) hS4
        rw [sb.2 b (fun z : b = D => hb (by rw [z]; exact List.mem_cons_self))]
        exact e
    · have := merged_length_le ([] : List (Key × Value)) (kvs.take i)
      rw [List.length_take] at this
      simp only [List.length_nil] at this
      omega
end
section
variable {P : Program} {w : World} {A : Around} {E : Value → Shared → Prop} {s : Shared}
theorem dict_of_pairs {l : Addr} {its : List Value} {kvs : List (Key × Value)} {Q : Value → Shared → Prop} (hh : A.handled = none) (hl : PlainL s.heap l its.toArray) (hn : its.length = kvs.length) (hz : its.length ≤ sizeLine)
    (hv : ∀ (i : Nat) (v : Value), its[i]? = some v → ∃ (a : Addr) (k : Key) (kv x : Value) (ob : Obj) (c : Nat), v = .ref a ∧ s.heap.get? a = some ob ∧ ob.cls = .type "tuple" ∧ ob.data = .seq #[kv, x] c ∧ kvs[i]? = some (k, x) ∧ (mixKind P w).is k kv = true)
    (h : ∀ (h' : Heap) (tk : Nat), h'.DictOf (mixKind P w) s.heap.objs.size (merged [] kvs) → (∀ b o, s.heap.get? b = some o → h'.get? b = some o) → Q (.ref s.heap.objs.size) { s with heap := h', toks := tk }) :
    wpAny (model P w) A (call (.type "dict") [.ref l]) Q E s := by
  refine callType_codes (Q₁ := fun (obj : Value) (s₁ : Shared) => obj = Value.ref s.heap.objs.size ∧ s₁ = { s with heap := s.heap.push { cls := .type "dict", data := .dict #[] } }) F.kt_called_dict (F.kt_typeCall_dict_1 _) F.entry_dict_init (kt_code_dict_new _ ⟨rfl, rfl⟩) ?_
  rintro obj s₁ ⟨rfl, rfl⟩
  have hnew : (s.heap.push { cls := .type "dict", data := .dict #[] }).DictOf (mixKind P w) s.heap.objs.size [] := Heap.DictOf.new s.heap
  obtain ⟨⟨oc, od, oda, osl⟩, nl, hol, hcl, hod, hdl⟩ := id hl
  simp only at hcl hod hdl
  subst hcl hod hdl
  have lS : l < s.heap.objs.size := Heap.lt_size hol
  have hol1 := Heap.get?_push_of_some (h := s.heap) { cls := .type "dict", data := .dict #[] } hol
  refine ⟨hnew.typeIs, F.args_dict_init_2 _ _, ?_⟩
  unfold Builtin.«dict.__init__»
  refine wpAny_bind ?_
  unfold Builtin.Dict.selfAndRest
  refine wpAny_bind (wpAny_notOrdered_dict hnew.typeIs ?_)
  show wpAny _ _ (pure (s.heap.objs.size, [Value.ref l])) _ _ _
  refine wpAny_pure ?_
  show wpAny _ _ (Builtin.Dict.updateFrom "dict.__init__" s.heap.objs.size (.ref l) [] .none) _ _ _
  unfold Builtin.Dict.updateFrom
  refine wpAny_bind (wpAny_typeOf (T := "list") ⟨_, hol1, rfl⟩ ?_)
  rw [if_pos (by decide)]
  refine wpAny_bind (list_no_keys (by simp [hh]) hol1 fun h1 t1 k1 => ?_)
  show wpAny _ _ (rule _ >>= _) _ _ _
  refine wpAny_bind (wpAny_rule ?_)
  have hol2 := k1 _ _ hol1
  have hl2 : h1.IsList l its.toArray := ⟨_, hol2, rfl, nl, rfl⟩
  refine wpAny_bind (wpAny_pyIter_list (s := { s with heap := h1, toks := t1 }) hl2 ?_)
  have sz1 : s.heap.objs.size < h1.objs.size := by
    obtain ⟨o, es, ep, ho, _⟩ := hnew
    exact Heap.lt_size (k1 _ _ ho)
  have nI : l ≠ h1.objs.size := Nat.ne_of_lt (Heap.lt_size hol2)
  have nD : s.heap.objs.size ∉ [h1.objs.size, l] := by
    simp only [List.mem_cons, List.mem_singleton, List.not_mem_nil, or_false, not_or]
    exact ⟨Nat.ne_of_lt sz1, Nat.ne_of_gt lS⟩
  refine wpAny_pure ⟨plainId_quiet upd_loop_plain _, ?_⟩
  have hh2 : A.in1.in1.handled = none := by simp [hh]
  refine dict_loop ((Walks.list hh2 _ l nI its.toArray).toS) s.heap.objs.size nD .none kvs (by rw [List.size_toArray, hn]) (by rw [List.size_toArray]; exact hz) { s with heap := h1.push { cls := .type "list_iterator", data := .fields #[.ref l, .int 0 0] }, toks := t1 } (fun i v pv => ?_) (its.toArray.size - 0) 0 _ (by omega) (Nat.zero_le _)
    ⟨⟨_, Heap.get?_push_size _ rfl, rfl, rfl⟩, (hl2.push _)⟩ (fun _ _ _ e => e) ?_ ?_
  · obtain ⟨a, k, kv, x, ob, c, rfl, hg, hc, hd, hi, hk⟩ := hv i v (by simpa using pv)
    have la := Heap.lt_size hg
    refine ⟨a, k, kv, x, ob, c, rfl, ?_, Heap.get?_push_of_some _ (k1 _ _ (Heap.get?_push_of_some _ hg)), hc, hd, hi, hk⟩
    simp only [List.mem_cons, List.mem_singleton, List.not_mem_nil, or_false, not_or]
    exact ⟨Nat.ne_of_lt la, Nat.ne_of_lt (Nat.lt_trans la sz1)⟩
  · obtain ⟨o, es, ep, ho, r⟩ := hnew
    exact ⟨o, es, ep, Heap.get?_push_of_some _ (k1 _ _ ho), r⟩
  · intro s3 mv hS3
    obtain ⟨h3, g3, d3, t3, o3⟩ := s3
    have e1 : g3 = s.gens := mv.gens
    have e2 : d3 = s.drawn := mv.drawn
    have e3 : o3 = s.os := mv.os
    subst e1 e2 e3
    refine ⟨rfl, h h3 t3 hS3 fun b o e => ?_⟩
    have lb := Heap.lt_size e
    refine mv.heap b o ?_ (Heap.get?_push_of_some _ (k1 _ _ (Heap.get?_push_of_some _ e)))
    simp only [List.mem_cons, List.mem_singleton, List.not_mem_nil, or_false, not_or]
    exact ⟨Nat.ne_of_lt lb, Nat.ne_of_lt (Nat.lt_trans lb sz1)⟩
end
def PairsAt (H : Hp) (ys : List V) (kvs : List (Key × V)) : Prop := Paired (fun (y : V) (kv : Key × V) => ∃ a, y = .ref a ∧ H a = some (.tup [kV kv.1, kv.2])) ys kvs
theorem PairsAt.nil (H : Hp) : PairsAt H [] [] := Paired.nil
theorem PairsAt.len {H : Hp} {ys : List V} {kvs : List (Key × V)} (h : PairsAt H ys kvs) : ys.length = kvs.length := Paired.length h
theorem PairsAt.same {H H' : Hp} (S : Same H H') : ∀ {ys : List V} {kvs : List (Key × V)}, PairsAt H ys kvs → PairsAt H' ys kvs
  | _, _, Paired.nil => Paired.nil
  | _, _, Paired.cons ⟨a, e, o⟩ t => Paired.cons ⟨a, e, S _ _ o⟩ (PairsAt.same S t)
theorem PairsAt.snoc {H : Hp} {ys : List V} {kvs : List (Key × V)} {p : Addr} {k : Key} {v : V} (h : PairsAt H ys kvs) (hp : H p = none) : PairsAt (upd H p (.tup [kV k, v])) (ys ++ [.ref p]) (kvs ++ [(k, v)]) :=
  Paired.snoc (h.same (Same.upd hp)) ⟨p, rfl, upd_same⟩
section
variable {X : Cx}
theorem rel_key {P : Program} {w : World} {k : Key} {u : Value} (r : RelV (kV k) u) : (mixKind P w).is k u = true := by
  cases k with
  | inl z => obtain ⟨t, rfl⟩ := r; exact keyIs_int z t
  | inr z => obtain ⟨t, rfl⟩ := r; exact keyIs_str z t
theorem pairs_values {pins : List (Addr × Obj)} {σ : St} {H : Hp} {s : Shared} (I : Inv X pins σ H s) : ∀ {ys : List V} {kvs : List (Key × V)} {its : List Value}, PairsAt H ys kvs → Vals ys its →
    ∃ vk : List (Key × Value), KV kvs vk ∧ its.length = vk.length ∧ ∀ (i : Nat) (v : Value), its[i]? = some v → ∃ (a : Addr) (k : Key) (kv x : Value) (ob : Obj) (c : Nat), v = .ref a ∧ s.heap.get? a = some ob ∧ ob.cls = .type "tuple" ∧ ob.data = .seq #[kv, x] c ∧ vk[i]? = some (k, x) ∧ (mixKind X.prog X.w).is k kv = true
  | _, _, _, Paired.nil, Paired.nil => ⟨[], Paired.nil, rfl, fun i v e => by simp at e⟩
  | _, (k, v0) :: kvs, u :: its, Paired.cons ⟨a, e, o⟩ t, Paired.cons r rs => by
    obtain ⟨vk, h1, h2, h3⟩ := pairs_values I t rs
    subst e
    cases r
    obtain ⟨tis, rt, ⟨ob, g, hc, c, hd⟩, _⟩ := I.tuple (SqT.of o)
    obtain ⟨ku, xu, rfl, rk, rx⟩ := Vals.two rt
    refine ⟨(k, xu) :: vk, Paired.cons ⟨rfl, rx⟩ h1, by simp [h2], fun i v e => ?_⟩
    cases i with
    | zero =>
      simp at e
      subst e
      exact ⟨a, k, ku, xu, ob, c, rfl, g, hc, hd, rfl, rel_key rk⟩
    | succ i =>
      obtain ⟨a', k', kv', x', ob', c', q⟩ := h3 i v (by simpa using e)
      exact ⟨a', k', kv', x', ob', c', by simpa using q⟩
theorem call_dict_pairs (hc : X.calm = true) : CallR X (.type "dict") (fun xs H Q => ∃ (p : Addr) (ys : List V) (kvs : List (Key × V)), xs = [.ref p] ∧ SqL X.K H p ys ∧ PairsAt H ys kvs ∧ kvs.length ≤ 1000 ∧ (kvs.map (·.1)).Nodup ∧ ∀ l, H l = none → Q (.ref l) (upd H l (.dK kvs))) := by
  intro pins s σ H xs us Q I r h
  obtain ⟨p, ys, kvs, rfl, hq, hp, hn, nd, q⟩ := h
  obtain ⟨u, rfl, ru⟩ := Vals.one r
  cases ru
  obtain ⟨its, rv, pl, hz⟩ := I.list hq
  obtain ⟨vk, kv, el, hv⟩ := pairs_values I hp rv
  have big : (1000 : Nat) ≤ sizeLine := by decide
  have l1 := KV.length kv
  have ek : vk.map (·.1) = kvs.map (·.1) := (KV.keys kv).symm
  refine dict_of_pairs (kvs := vk) (I.ok.hd hc) pl el (by omega) hv fun h' tk hD hk => ?_
  rw [merged_nil_of_nodup vk (by rw [ek]; exact nd)] at hD
  refine ⟨.ref s.heap.objs.size, _, I.laid (t' := tk) hk (Nat.le_refl _) (show ObjOk X.prog X.w _ h' _ (.dK kvs) from ⟨by omega, ?_, vk, kv, hD⟩), rfl, q _ (I.hok.fresh (Nat.le_refl _))⟩
  have b := I.big
  exact beq_eq_false_iff_ne.mpr (Nat.ne_of_gt b)
end
end L2

namespace L2
open PySem PySem.Spec PyProof.Rows
structure MethAt (K : PySem.W.Frag) (C : Addr) (m qual : Str) (st : Stmt) (ps : List Str) : Prop where
  ex : ∃ (f : Addr) (fd : FuncData), Fun K m qual st f fd ∧ Binds K fd ps [] ∧ Meth K C m f
structure InitAt (K : PySem.W.Frag) (C : Addr) (qual : Str) (st : Stmt) (ps : List Str) : Prop where
  ex : ∃ (f : Addr) (fd : FuncData), Fun K "__init__" qual st f fd ∧ Binds K fd ps [] ∧ Mk K C f
structure Mc (P : Program) (w : World) (K : PySem.W.Frag) (mg : Str → Option Value) (base : Heap) (k : Nat) (C : Addr) (m : Str) (ps : List Str) (sp : Sp) : Prop where
  ex : ∃ (f : Addr) (fd : FuncData), FnOk P w K mg base CX0 k f fd ps sp ∧ Binds K fd ps [] ∧ Meth K C m f
structure Ic (P : Program) (w : World) (K : PySem.W.Frag) (mg : Str → Option Value) (base : Heap) (k : Nat) (C : Addr) (ps : List Str) (sp : Sp) : Prop where
  ex : ∃ (f : Addr) (fd : FuncData), FnOk P w K mg base CX0 k f fd ps sp ∧ Binds K fd ps [] ∧ Mk K C f
section
variable {P : Program} {w : World} {K : PySem.W.Frag} {mg : Str → Option Value} {base : Heap} {C : Addr} {m qual : Str} {st : Stmt} {N ps : List Str} {k : Nat} {sp : Sp}
theorem MethAt.mc (D : MethAt K C m qual st ps) (S : FnScope N ps (defScope st)) (len : ∀ vs H Q E, sp vs H Q E → vs.length = ps.length)
    (hbody : ∀ (f : Addr) (cdv : Value) (A : Around) (outer : List Env) (s : Shared) (H : Hp) (vs : List V) (Q : VK) (E : XK), Room k (A.deeper (envOfC qual (defScope st) s.heap.objs.size f cdv)) → sp vs H Q E →
      ∃ t, PSs (cxOf CX0 P w K mg base N qual (defScope st) f cdv A outer s H E).nox (defBody st) t ∧ t { nx := fun _ H' => Q .non H', rt := Q } (start N vs) H) : Mc P w K mg base (k + 1) C m ps sp := by
  obtain ⟨f, fd, F, b, mm⟩ := D.ex
  exact ⟨f, fd, F.ok S len fun cdv A outer s H vs Q E hr h => hbody f cdv A outer s H vs Q E hr h, b, mm⟩
theorem InitAt.ic (D : InitAt K C qual st ps) (S : FnScope N ps (defScope st)) (len : ∀ vs H Q E, sp vs H Q E → vs.length = ps.length)
    (hbody : ∀ (f : Addr) (cdv : Value) (A : Around) (outer : List Env) (s : Shared) (H : Hp) (vs : List V) (Q : VK) (E : XK), Room k (A.deeper (envOfC qual (defScope st) s.heap.objs.size f cdv)) → sp vs H Q E →
      ∃ t, PSs (cxOf CX0 P w K mg base N qual (defScope st) f cdv A outer s H E).nox (defBody st) t ∧ t { nx := fun _ H' => Q .non H', rt := Q } (start N vs) H) : Ic P w K mg base (k + 1) C ps sp := by
  obtain ⟨f, fd, F, b, mm⟩ := D.ex
  exact ⟨f, fd, F.ok S len fun cdv A outer s H vs Q E hr h => hbody f cdv A outer s H vs Q E hr h, b, mm⟩
theorem Mc.imp {sp' : Sp} (F : Mc P w K mg base k C m ps sp) (h : ∀ vs H Q E, sp' vs H Q E → sp vs H Q E) : Mc P w K mg base k C m ps sp' := by
  obtain ⟨f, fd, G, b, mm⟩ := F.ex
  exact ⟨f, fd, G.imp h, b, mm⟩
theorem meth_mk {f : Addr} {oc : Value} {od an : Option Addr} {osl : Array (Option Value)} {kV doc pm cdv ct : Value} (a : PySem.W.findIn K (.ref C) m = some (some (.ref f))) (i : PySem.W.isFn K (.ref f) = true)
    (l : K.lookup f = some ⟨oc, od, .func (PySem.W.fnOf m qual (defArgs st) (defBody st) (defScope st) .none kV doc pm an cdv ct), osl⟩) (c : PySem.W.codeIn K cdv qual = true) (kp : PySem.W.keepIn K (.ref f) = true)
    (hb : ∀ (kV doc pm : Value) (an : Option Addr) (cdv ct : Value) (us : List Value), us.length = ps.length → bindArgs (PySem.W.fnOf m qual (defArgs st) (defBody st) (defScope st) .none kV doc pm an cdv ct) ⟨us, []⟩ = pure (ps.zip us)) : MethAt K C m qual st ps :=
  ⟨f, _, fun_mk l c kp, (fun_mk l c kp).binds hb, ⟨a, i, kp⟩⟩
theorem init_mk {f : Addr} {oc : Value} {od an : Option Addr} {osl : Array (Option Value)} {kV doc pm cdv ct : Value} (a : PySem.W.findIn K (.ref C) "__init__" = some (some (.ref f))) (i : PySem.W.isFn K (.ref f) = true)
    (l : K.lookup f = some ⟨oc, od, .func (PySem.W.fnOf "__init__" qual (defArgs st) (defBody st) (defScope st) .none kV doc pm an cdv ct), osl⟩) (c : PySem.W.codeIn K cdv qual = true) (kp : PySem.W.keepIn K (.ref f) = true)
    (mk : PySem.W.makesIn K C = true) (kc : PySem.W.keepIn K (.ref C) = true)
    (hb : ∀ (kV doc pm : Value) (an : Option Addr) (cdv ct : Value) (us : List Value), us.length = ps.length → bindArgs (PySem.W.fnOf "__init__" qual (defArgs st) (defBody st) (defScope st) .none kV doc pm an cdv ct) ⟨us, []⟩ = pure (ps.zip us)) : InitAt K C qual st ps :=
  ⟨f, _, fun_mk l c kp, (fun_mk l c kp).binds hb, ⟨mk, a, i, kc⟩⟩
end
section
variable {X : Cx} {k : Nat} {ps : List Str} {sp : Sp} {x m : Str} {p pos apos : Pos} {o e : Expr} {es : List Expr} {ta : TE} {t : TA} {C : Addr}
theorem pe_m {pl : Sem Bool} (c : Cls X.K C) (F : Mc X.prog X.w X.K X.mg X.base k C m ps sp) (hr : Room k X.A) (ho : PE X o ta) (ha : PA X (e :: es) t)
    (hst : starEach (e :: es) X.env = (false, eval e X.env) :: starEach es X.env := by rfl) (hpl : (backTo pos (starEach es X.env)).any (·.1) = false := by rfl)
    (ht : eval (.Call (.Attribute o m apos) (e :: es) [] pos) X.env = (do
      let ov ← eval o X.env
      standAt apos.atName
      let (f, first) ← holding [ov] (getMethod ov m pl)
      callWith pos f first (backTo pos (starEach (e :: es) X.env)) (backToKw pos (keywordEach [] X.env))) := by rfl) :
    PE X (.Call (.Attribute o m apos) (e :: es) [] pos) (tMeth C m sp [] E0 ta t) := by
  obtain ⟨f, fd, G, b, mm⟩ := F.ex
  exact pe_meth (pl := pl) ho c mm G hr b .nil pass0 ha hst hpl ht
theorem pe_m0 {pl : Sem Bool} (c : Cls X.K C) (F : Mc X.prog X.w X.K X.mg X.base k C m ps sp) (hr : Room k X.A) (ho : PE X o ta)
    (ht : eval (.Call (.Attribute o m apos) [] [] pos) X.env = (do
      let ov ← eval o X.env
      standAt apos.atName
      let (f, first) ← holding [ov] (getMethod ov m pl)
      callWith pos f first (backTo pos (starEach [] X.env)) (backToKw pos (keywordEach [] X.env))) := by rfl) :
    PE X (.Call (.Attribute o m apos) [] [] pos) (tMeth C m sp [] E0 ta tNil) := by
  obtain ⟨f, fd, G, b, mm⟩ := F.ex
  exact pe_meth0 (pl := pl) ho c mm G hr b .nil pass0 ht
theorem pe_mk (hm : X.mg x = some (.ref C)) (F : Ic X.prog X.w X.K X.mg X.base k C ps sp) (hr : Room (k + 1) X.A) (ha : PA X (e :: es) t) (hg : Gl X x := by rfl) (hdb : (x == ("__debug__" : Str)) = false := by decide)
    (he : starEach (e :: es) X.env = (false, eval e X.env) :: starEach es X.env := by rfl) (hpl : (backTo pos (starEach es X.env)).any (·.1) = false := by rfl) :
    PE X (.Call (.Name x p) (e :: es) [] pos) (tMake C sp [] E0 t) := by
  obtain ⟨f, fd, G, b, mm⟩ := F.ex
  exact pe_make mm G hr hg hm b .nil pass0 ha hdb he hpl
end
section
variable {X : Cx} {K : PySem.W.Frag}
theorem ix_tupB (e : X.K = K) : IxR X (rIxT K) := by subst e; exact ix_tup
theorem ix_listB (e : X.K = K) : IxR X (rIxL K) := by subst e; exact ix_list
theorem sl_tupB (e : X.K = K) : SlR X (rSlT K) := by subst e; exact sl_tup
theorem sl_listB (e : X.K = K) : SlR X (rSlL K) := by subst e; exact sl_list
theorem op_catTB (e : X.K = K) : OpR X (binaryOp .Add) (rCatT K) := by subst e; exact op_catT
theorem op_in_seqB (e : X.K = K) : OpR X (compareOp .In) (rIn K false) := by subst e; exact op_in_seq
theorem call_len_seqB (e : X.K = K) : CallR X (.builtin "len") (fun xs H Q => ∃ p ys, xs = [.ref p] ∧ (SqL K H p ys ∨ SqT K H p ys) ∧ Q (.int ys.length) H) := by subst e; exact call_len_seq
theorem call_isinstB (e : X.K = K) : CallR X (.builtin "isinstance") (fun xs H Q => ∃ x y c t b, xs = [x, y] ∧ clsV y = some c ∧ TyOf K H x t ∧ PySem.W.kitOne K t c = some b ∧ Q (.bl b) H) := by subst e; exact call_isinst
theorem call_list_ofB (e : X.K = K) : CallR X (.type "list") (fun xs H Q => ∃ p ys, xs = [.ref p] ∧ (SqL K H p ys ∨ SqT K H p ys) ∧ ∀ l, H l = none → Q (.ref l) (upd H l (.lst ys))) := by subst e; exact call_list_of
end
theorem posI {j : Int} (h : decide (0 < j) = true) : 0 < j := of_decide_eq_true h
end L2

namespace L2
open PySem PySem.Spec PyProof.Rows
theorem ps_setComp {X : Cx} {i : Nat} {x : Str} {elt iter tg : Expr} {ifs : List Expr} {scope : Scope} {pos pos' cpos : Pos} {wi : TI} {g : TG} {tt : TT} {te : TE} (hXN : X.N.Nodup) (hix : X.N[i]? = some x) (N' : List Str) (nt : Nat) (cap : List Nat)
    (hc : X.calm = true) (hi : PI X tg iter wi) (hg : ∀ R, PG (blk X scope N' R) tg g) (hgk : GKeep nt g) (ht : ∀ R, PIfs (blk X scope N' R) ifs tt) (he : ∀ R, PE (blk X scope N' R) elt te)
    (hx : Loc X.env.scope x := by exact Or.inl rfl) (hfn : X.fn x = true ∨ X.env.scope.names.lookup x = some .local := by first | exact .inl rfl | exact .inr rfl | assumption)
    (hsw : swapsWith (.ListComp elt [⟨tg, iter, ifs, 0⟩] scope cpos) (some (.Name x pos')) pos.line X.env = pure true := by rfl)
    (hcell : (scope.names.all fun y => !(y.2 == .cell)) = true := by rfl) (hkind : scope.kind = .function := by rfl)
    (hnames : (scope.names.all fun y => !(y.2 == .local) || (scope.names.lookup y.1 == some .local)) = true := by rfl)
    (hfr : (scope.names.all fun y => !(y.2 == .free) || (X.env.kindOf y.1 == some .cell || X.env.kindOf y.1 == some .free)) = true := by rfl)
    (hN : N'.length = nt + cap.length := by rfl) (hcapN : (cap.map fun j => X.N[j]?) = (N'.drop nt).map some := by rfl) (hcapF : ((N'.drop nt).all fun x => scope.names.lookup x == some .free) = true := by rfl)
    (hs : ∀ x, foldedSetIterable iter X.env x = pure x := by intro _; rfl) :
    PS X (.Assign [.Name x pos'] (.ListComp elt [⟨tg, iter, ifs, 0⟩] scope cpos) pos) (tAsg (tComp nt cap wi g tt te) (gName i)) := by
  intro pins s σ H Ds I h
  have hfr' : ∀ y ∈ scope.names, y.2 = .free → (X.env.kindOf y.1 = some .cell ∨ X.env.kindOf y.1 = some .free) := fun y hy e => by
    have z := all_mem hfr y hy
    rw [e] at z
    have z' : (X.env.kindOf y.1 == some .cell || X.env.kindOf y.1 == some .free) = true := z
    rcases Bool.or_eq_true_iff.mp z' with q | q
    · exact .inl (beq_iff_eq.mp q)
    · exact .inr (beq_iff_eq.mp q)
  have hcell' : ∀ y ∈ scope.names, y.2 ≠ .cell := fun y hy e => by
    have z := all_mem hcell y hy
    rw [e] at z
    cases z
  obtain ⟨cl, hcl, hclk, hclh⟩ := closure_ok (scope := scope) (env := X.env) fun y hy e => I.ok.has y.1 (hfr' y hy e)
  have hnames' : ∀ y ∈ scope.names, y.2 = .local → scope.names.lookup y.1 = some .local := fun y hy e => by
    have z := all_mem hnames y hy
    rw [e] at z
    exact beq_iff_eq.mp z
  have hcapN' : ∀ (k j : Nat), cap[k]? = some j → N'[nt + k]? = X.N[j]? := fun k j e => by
    have z := congrArg (fun l : List (Option Str) => l[k]?) hcapN
    simp only [List.getElem?_map, e, Option.map_some, List.getElem?_drop] at z
    cases q : N'[nt + k]? with
    | none => rw [q] at z; cases z
    | some x => rw [q] at z; exact (Option.some.inj z).symm
  rw [exec_Assign_Name_used _ _ _ _ hsw]
  refine wpAny_bind (wpAny_standAt (wpAny_bind ?_))
  show wpAny _ X.A (do let _ ← comprehension (.ListComp elt [⟨tg, iter, ifs, 0⟩] scope cpos) scope X.env _ (newList []) false (eval iter X.env) (some (assign (.Name x pos') X.env))) _ _ s
  refine wpAny_bind (wpAny_mono (wpAny_comprehension_free (use := some (assign (.Name x pos') X.env)) (Q := fun _ s' => SP X pins Ds .next s') rfl hs hcl hkind hnames'
    (thn (hi pins s σ H _ I h) fun v s1 h1 => thn h1 fun itv s2 h2 => ?_)) (fun _ s' hq => wpAny_pure (wpAny_pure hq)) fun _ _ e => e)
  obtain ⟨it, fp, tn, J, H2, e, I2, T, st2, f2, hw⟩ := h2
  subst e
  refine comp_block (RR := fun acc C => compPost (model X.prog X.w) X.A X.xe (some (assign (.Name x pos') X.env)) (fun _ s' => SP X pins Ds .next s') acc C) hc I2 T st2 f2 hclk hclh hcell' hkind hfr' hN hcapN' (fun x hx => beq_iff_eq.mp (all_mem hcapF x hx)) hg hgk ht he hw ?_
  intro D C s' H' ys hD q I' B
  obtain ⟨m, hn⟩ := B.ns
  obtain ⟨oC, es, ep, hoC, hdC, hrest⟩ := id hn
  have nofs : C ∉ X.fs := fun hb => by
    obtain ⟨_, o, ho, _⟩ := I'.ok.funs.mem hb
    exact absurd (Nat.lt_of_lt_of_le (Heap.lt_size ho) B.ab) (Nat.lt_irrefl _)
  have IC : Inv X ((C, oC) :: pins) σ (upd H' D (.lst ys)) s' := I'.pins_of fun p hp => by
    rcases List.mem_cons.mp hp with rfl | hp
    · exact ⟨hoC, B.fr, B.ne, nofs, fun v z => by rw [hdC] at z; cases z⟩
    · exact I'.pin p (List.mem_append_right _ hp)
  show wpAny _ X.A (assign (.Name x pos') X.env (.ref D)) _ _ _
  refine thn (pg_name hXN hix hx hfn ((C, oC) :: pins) s' σ (upd H' D (.lst ys)) (.ref D) (.ref D) Ds.nx IC rfl (q D hD)) fun _ s'' h'' => ?_
  obtain ⟨σ2, H3, I3, q3⟩ := h''
  have pC := I3.pin (C, oC) (List.mem_append_right _ List.mem_cons_self)
  refine ⟨m, hn.at' (fun o e => ?_), fun h4 hs4 => ⟨σ2, H3, ?_, q3⟩⟩
  · rw [hoC] at e
    cases e
    exact pC.1
  · have I4 : Inv X pins σ2 H3 s'' := I3.pins_of fun p hp => I3.pin p (List.mem_append_right _ (List.mem_cons_of_mem _ hp))
    exact I4.turned (it := C) (t' := s''.toks) (fun b o hb e => hs4.extBut b o hb e) pC.2.1 B.ne (.inr B.ab) B.cl B.pn
end L2

namespace L2
open PySem PySem.Spec PyProof.Rows
section
variable {X : Cx}
end
structure InstC (K : PySem.W.Frag) (C : Addr) : Prop where
  ha : PySem.W.findIn K (.ref C) "__class__" = some (some (.builtin "object.__class__"))
  hn : PySem.W.specialIn K (.builtin "object.__class__") "__get__" = some (some (.builtin "getset_descriptor.__get__"))
  htk : PySem.W.takesIn K (.builtin "object.__class__") = some true
  hm : PySem.W.mroIn K C (.type "object") = some true
theorem InstC.ty {K : PySem.W.Frag} {C : Addr} (h : InstC K C) (cl : Cls K C) {H : Hp} {a dx : Addr} {fs : List (Str × V)} (e : H a = some (.ins C dx fs)) : TyOf K H (.ref a) (.ref C) := .ins e cl h.ha h.hn h.htk h.hm
theorem kit_ref (K : PySem.W.Frag) (C : Addr) : PySem.W.kitOne K (.ref C) (.ref C) = some true := by
  unfold PySem.W.kitOne
  rw [if_pos (by simp)]
theorem MethAt.mcD {P : Program} {w : World} {K : PySem.W.Frag} {mg : Str → Option Value} {base : Heap} {C : Addr} {m qual : Str} {st : Stmt} {N ps : List Str} {k : Nat} {sp : Sp} (D : MethAt K C m qual st ps) (S : FnScope N ps (defScope st)) (len : ∀ vs H Q E, sp vs H Q E → vs.length = ps.length)
    (hbody : ∀ (f : Addr) (cdv : Value) (A : Around) (outer : List Env) (s : Shared) (H : Hp) (vs : List V) (Q : VK) (E : XK), Room k (A.deeper (envOfC qual (defScope st) s.heap.objs.size f cdv)) → sp vs H Q E →
      ∃ t, PSs (cxOf CX0 P w K mg base N qual (defScope st) f cdv A outer s H E).nox (defBody st) t ∧ t { nx := fun _ H' => dropQ Q .non H', rt := dropQ Q } (start N vs) H) : Mc P w K mg base (k + 1) C m ps sp := by
  obtain ⟨f, fd, F, b, mm⟩ := D.ex
  refine ⟨f, fd, FnOk.drop len (F.ok S (fun vs H Q E ⟨Q', h, _⟩ => len vs H Q' E h) fun cdv A outer s H vs Q E hr ⟨Q', h, e⟩ => ?_), b, mm⟩
  subst e
  exact hbody f cdv A outer s H vs Q' E hr h
theorem Drop.under {H : Hp} {p q : Addr} {o u : HO} (hp : H p = none) (d : droppable o = true) (hq : L2.upd H p o q = none) : Drop (L2.upd (L2.upd H p o) q u) (L2.upd H q u) := fun b => by
  by_cases hb : b = q
  · subst hb
    left
    rw [upd_same, upd_same]
  · rw [upd_ne hb, upd_ne hb]
    by_cases hc : b = p
    · subst hc
      right
      exact ⟨hp, o, upd_same, d⟩
    · left
      rw [upd_ne hc]
end L2

namespace L2
open PySem PySem.Spec PyProof.Rows
def CX2 (P : Program) (w : World) : CXT := fun outer H s E e s' => ∃ (ea : Addr) (cls a0 : Value) (B : Heap) (H' : Hp), e = .ref ea ∧ s'.os = s.os ∧ AllBare s'.gens ∧ Un (frs outer) [] H H' s.heap s'.heap ∧ HOk P w H' s'.heap ∧
  Heap.FlyingW B outer ea cls a0 s'.heap ∧ (∀ b o o', s.heap.get? b = some o → s'.heap.get? b = some o' → b ∉ frs outer → B.get? b = some o') ∧ (∀ b o', H' b ≠ none → s'.heap.get? b = some o' → B.get? b = some o') ∧ E cls none H'

section
variable {X : Cx} {pins : List (Addr × Obj)} {σ : St} {H H' : Hp} {s s' : Shared} {B h2 : Heap} {ea : Addr} {cls a0 : Value}
theorem fly_un (I : Inv X pins σ H s) (u : Un (frs X.stack) [] H H' s.heap s'.heap) (hB : ∀ b o o', s.heap.get? b = some o → s'.heap.get? b = some o' → b ∉ frs X.stack → B.get? b = some o')
    (k : B.StaysIn h2) (us : s'.heap.UpToSlots h2) : Un (frs X.stack) [] H H' s.heap h2 where
  keep := fun b o e n hb hx => k b o (hB b o o e (u.keep b o e n hb hx) hb)
  slot := fun b o e n hb hx => by
    obtain ⟨sl, e1⟩ := u.slot b o e n hb hx
    obtain ⟨_, o1, e2, hd⟩ := I.stack.mem hb
    rw [e] at e2
    cases e2
    obtain ⟨sl', e3⟩ := us b _ e1 hd
    exact ⟨sl', e3⟩
  free := u.free
  there := fun b o e hx => by
    obtain ⟨o', e1⟩ := u.there b o e hx
    by_cases hb : b ∈ frs X.stack
    · obtain ⟨_, o1, e2, hd⟩ := I.stack.mem hb
      rw [e] at e2
      cases e2
      obtain ⟨sl, e3⟩ := u.slot b o e (I.stkFree b hb) hb hx
      obtain ⟨sl', e4⟩ := us b _ e3 hd
      exact ⟨_, e4⟩
    · exact ⟨o', k b o' (hB b o o' e e1 hb)⟩
  tups := u.tups
  frzs := u.frzs
  tbls := u.tbls
theorem fly_hok {P : Program} {w : World} (ok : HOk P w H' s'.heap) (hT : ∀ b o', H' b ≠ none → s'.heap.get? b = some o' → B.get? b = some o') (k : B.StaysIn h2) : HOk P w H' h2 := fun a o e =>
  (ok a o e).stay (fun b v hb q => k b v (hT b v (by
    rcases hb with rfl | hb
    · rw [e]; simp
    · rw [hb]; simp) q)) (fun _ q => q) fun _ _ q => q
theorem fly_inv (I : Inv X pins σ H s) (os : s'.os = s.os) (bare : AllBare s'.gens) (u : Un (frs X.stack) [] H H' s.heap s'.heap) (ok : HOk X.prog X.w H' s'.heap) (hB : ∀ b o o', s.heap.get? b = some o → s'.heap.get? b = some o' → b ∉ frs X.stack → B.get? b = some o')
    (hT : ∀ b o', H' b ≠ none → s'.heap.get? b = some o' → B.get? b = some o') (k : B.StaysIn h2) (us : s'.heap.UpToSlots h2) : Inv X pins σ H' { s' with heap := h2 } :=
  I.call' (s' := { s' with heap := h2 }) (ch := []) os (fly_un I u hB k us) (fly_hok ok hT k) bare fun b z => absurd z (by simp)
end
section
variable {P : Program} {w : World} {K : PySem.W.Frag} {mg : Str → Option Value} {base : Heap} {N : List Str} {qual : Str} {scope : Scope} {f : Addr} {cd : Value} {A : Around} {outer : List Env} {s : Shared} {H : Hp} {E : XK}
end
end L2

namespace L2
open PySem PySem.Spec PyProof.Rows
abbrev veMro : List Value := [.type "ValueError", .type "Exception", .type "BaseException", .type "object"]
structure ExcC (K : PySem.W.Frag) (C : Addr) : Prop where
  q : PySem.W.excIn K C veMro "ValueError.__new__" = true
section
variable {X : Cx} {C : Addr} {x : Str} {E : XK} {np cpos pos : Pos} {e : Expr} {es : List Expr} {t : TA}
end

def CAt (X : Cx) (pins : List (Addr × Obj)) (σ : St) (E : XK) (e : Value) (s' : Shared) : Prop := ∃ s1 H1, Inv X pins σ H1 s1 ∧ CX2 X.prog X.w X.stack H1 s1 E e s'
abbrev TX := XK → TE
def PX (X : Cx) (e : Expr) (t : TX) : Prop :=
  ∀ (pins : List (Addr × Obj)) (s : Shared) (σ : St) (H : Hp) (Q : VK) (E : XK), Inv X pins σ H s → t E σ H Q → wpAny (model X.prog X.w) X.A (eval e X.env) (EP X pins σ Q) (CAt X pins σ E) s
section
variable {X : Cx} {k : Nat} {f C : Addr} {fd : FuncData} {ps : List Str} {sp : Sp} {E : XK} {x m : Str} {p pos apos : Pos} {e o : Expr} {es : List Expr} {ta : TE} {t : TA}
theorem run_makeE {pins : List (Addr × Obj)} {σ : St} {H : Hp} {s : Shared} {Q : VK} {us : List Value} {vs : List V} (M : Mk X.K C f) (F : FnOk X.prog X.w X.K X.mg X.base (CX2 X.prog X.w) k f fd ps sp) (hr : Room (k + 1) X.A) (hb : Binds X.K fd ps [])
    (I : Inv X pins σ H s) (r : Vals vs us) (h : ∀ x dx, H x = none → H dx = none → dx ≠ x → sp (.ref x :: vs) (upd (upd H dx (.own x)) x (.ins C dx [])) (fun v H2 => v = .non ∧ Q (.ref x) H2) E) :
    wpAny (model X.prog X.w) X.A (call (.ref C) us) (EP X pins σ Q) (CAt X pins σ E) s := by
  have hq := h (s.heap.objs.size + 1) s.heap.objs.size (I.hok.fresh (Nat.le_succ _)) (I.hok.fresh (Nat.le_refl _)) (Nat.ne_of_lt (Nat.lt_succ_self _))
  have I2 := Inv.made (C := C) I
  have r2 : Vals (V.ref (s.heap.objs.size + 1) :: vs) (Value.ref (s.heap.objs.size + 1) :: us) := .cons rfl r
  have hl : (Value.ref (s.heap.objs.size + 1) :: us ++ []).length = ps.length := by
    rw [List.append_nil, ← r2.length]
    exact F.len _ _ _ _ hq
  have hb' := hb _ (Value.ref (s.heap.objs.size + 1) :: us) I2.kIn hl
  rw [List.append_nil] at hb'
  refine wpAny_call (make_map (f := f) I.kIn M.makes M.init (beq_iff_eq.mp M.fn) (codeAny_mono (F.run _ X.stack _ _ ⟨Value.ref (s.heap.objs.size + 1) :: us, []⟩ (Value.ref (s.heap.objs.size + 1) :: us) _ _ E (hr.make C us [])
    (I2.env0.make C us []) hb' r2 hq) fun z s' hq' => ?_))
  cases z with
  | error e => exact ⟨_, _, I2, hq'⟩
  | ok fl =>
    cases fl with
    | ret u =>
      obtain ⟨v, H', I3, rv, ev, q3⟩ := I2.after hq'
      subst ev
      exact ⟨rv, ⟨V.ref (s.heap.objs.size + 1), H', I3, rfl, q3⟩⟩
    | next => exact False.elim hq'
    | brk => exact False.elim hq'
    | cont => exact False.elim hq'
end
end L2

namespace L2
open PySem PySem.Spec PyProof.Rows
theorem FnOk.up {P : Program} {w : World} {K : PySem.W.Frag} {mg : Str → Option Value} {base : Heap} {CX : CXT} {k : Nat} {f : Addr} {fd : FuncData} {ps : List Str} {sp : Sp} (F : FnOk P w K mg base CX0 k f fd ps sp) : FnOk P w K mg base CX k f fd ps sp :=
  ⟨F.len, fun A outer s H args us vs Q E hr he hb hv hs => codeAny_mono (F.run A outer s H args us vs Q E hr he hb hv hs) fun r s' h => by
    cases r with
    | error e => exact False.elim h
    | ok fl => cases fl <;> exact h⟩
structure FcX (P : Program) (w : World) (K : PySem.W.Frag) (mg : Str → Option Value) (base : Heap) (k : Nat) (x : Str) (ps : List Str) (sp : Sp) : Prop where
  ex : ∃ (f : Addr) (fd : FuncData), FnOk P w K mg base (CX2 P w) k f fd ps sp ∧ Binds K fd ps [] ∧ mg x = some (.ref f) ∧ PySem.W.keepIn K (.ref f) = true
structure McX (P : Program) (w : World) (K : PySem.W.Frag) (mg : Str → Option Value) (base : Heap) (k : Nat) (C : Addr) (m : Str) (ps : List Str) (sp : Sp) : Prop where
  ex : ∃ (f : Addr) (fd : FuncData), FnOk P w K mg base (CX2 P w) k f fd ps sp ∧ Binds K fd ps [] ∧ Meth K C m f
structure IcX (P : Program) (w : World) (K : PySem.W.Frag) (mg : Str → Option Value) (base : Heap) (k : Nat) (C : Addr) (ps : List Str) (sp : Sp) : Prop where
  ex : ∃ (f : Addr) (fd : FuncData), FnOk P w K mg base (CX2 P w) k f fd ps sp ∧ Binds K fd ps [] ∧ Mk K C f
section
variable {P : Program} {w : World} {K : PySem.W.Frag} {mg : Str → Option Value} {base : Heap} {C : Addr} {x m qual : Str} {st : Stmt} {N ps : List Str} {k : Nat} {sp sp' : Sp}
theorem Ic.up (F : Ic P w K mg base k C ps sp) : IcX P w K mg base k C ps sp := by
  obtain ⟨f, fd, G, b, mm⟩ := F.ex
  exact ⟨f, fd, G.up, b, mm⟩
end
section
variable {X : Cx} {k : Nat} {C : Addr} {ps : List Str} {sp : Sp} {E : XK} {x m : Str} {p pos apos : Pos} {e o : Expr} {es : List Expr} {ta : TE} {t : TA}
theorem PA.cat {pins : List (Addr × Obj)} {σ : St} {H : Hp} {s : Shared} {Q : List V → Hp → Prop} {F : Value → Shared → Prop} (ha : PA X.nox es t) (I : Inv X pins σ H s) (h : t σ H Q) : wpAny (model X.prog X.w) X.A (spliced (backTo pos (starEach es X.env))) (AP X pins σ Q) F s :=
  wpAny_mono (ha pos pins s σ H Q (I.wish _) h) (fun _ _ ⟨vs, H', I', r, q⟩ => ⟨vs, H', I'.unwish, r, q⟩) fun _ _ z => False.elim z
theorem px_mk (hm : X.mg x = some (.ref C)) (F : IcX X.prog X.w X.K X.mg X.base k C ps sp) (hr : Room (k + 1) X.A) (ha : PA X.nox (e :: es) t) (hg : Gl X x := by rfl) (hdb : (x == ("__debug__" : Str)) = false := by decide)
    (he : starEach (e :: es) X.env = (false, eval e X.env) :: starEach es X.env := by rfl) (hpl : (backTo pos (starEach es X.env)).any (·.1) = false := by rfl) :
    PX X (.Call (.Name x p) (e :: es) [] pos) (fun E => tMake C sp [] E t) := by
  intro pins s σ H Q E I h
  obtain ⟨f, fd, G, b, mm⟩ := F.ex
  refine wpAny_Call_Name_kw (ld_glob I hg hm ?_ hdb)
  refine PySem.W.callWith_K (h₀ := X.base) I.ok.mod.kin mm.kp (thn (ha.cat I h) fun us s1 ⟨vs, H1, I1, r, q⟩ => ⟨I1.kIn, ?_⟩) he hpl
  simp only [List.append_nil] at q
  exact run_makeE mm G hr b I1 r q
abbrev TB := XK → TS
def PB (X : Cx) (body : List Stmt) (t : TB) : Prop :=
  ∀ (pins : List (Addr × Obj)) (s : Shared) (σ : St) (H : Hp) (D : Ends) (E : XK), Inv X pins σ H s → t E D σ H → wpAny (model X.prog X.w) X.A (execs body X.env) (SP X pins D) (CAt X pins σ E) s
theorem pb_ret {t : TX} (he : PX X e t) : PB X [.Return (some e) pos] (fun E => tRet (t E)) := by
  intro pins s σ H D E I h
  exact wpAny_execs_cons (wpAny_Return_some (thn (he pins s σ H _ E I h) fun v s1 ⟨y, H1, I1, r1, q1⟩ => ⟨y, σ, H1, I1, r1, q1⟩))
end
end L2

namespace L2
open PySem PySem.Spec PyProof.Rows
abbrev Cx.held (X : Cx) (ea : Addr) : Cx := { X with A := X.A.mark (some (.ref ea)), calm := false, xe := fun _ _ => False }
section
variable {X : Cx} {pins : List (Addr × Obj)} {σ : St} {H H' : Hp} {s s' : Shared} {ea : Addr}
theorem Cx.Ok.held (ok : X.Ok) (ea : Addr) : (X.held ea).Ok :=
  ⟨ok.mod, ok.kind, ok.glob, ok.blt, ok.above, ok.inj, ok.has, ok.cab, fun z => absurd z (by simp), ok.frames, ok.stk, ok.exf, ok.bs, ok.bsz, ok.noex, ok.exfs, ok.funs, ok.frf⟩
theorem Inv.held (I : Inv X pins σ H s) (ea : Addr) : Inv (X.held ea) pins σ H s := ⟨I.ok.held ea, I.os, I.bare, I.base, I.loc, I.cell, I.free, I.freeC, I.pin, I.hok, I.len⟩
theorem Inv.unheld (ok : X.Ok) (I : Inv (X.held ea) pins σ H s) : Inv X pins σ H s := ⟨ok, I.os, I.bare, I.base, I.loc, I.cell, I.free, I.freeC, I.pin, I.hok, I.len⟩
theorem SP.unheld (ok : X.Ok) {D : Ends} {f : Flow} (h : SP (X.held ea) pins D f s') : SP X pins D f s' := by
  cases f with
  | next => obtain ⟨σ', H', I, q⟩ := h; exact ⟨σ', H', I.unheld ok, q⟩
  | brk => obtain ⟨σ', H', I, q⟩ := h; exact ⟨σ', H', I.unheld ok, q⟩
  | cont => obtain ⟨σ', H', I, q⟩ := h; exact ⟨σ', H', I.unheld ok, q⟩
  | ret u => obtain ⟨v, σ', H', I, r, q⟩ := h; exact ⟨v, σ', H', I.unheld ok, r, q⟩
end
theorem looks_cls {M : Model} {B h : Heap} {l : List Env} {ea : Addr} {cls a0 : Value} (fl : Heap.FlyingW B l ea cls a0 h) : PySem.W.Looks M h (typeOf (.ref ea)) cls := by
  obtain ⟨ob, hob, hc⟩ := fl.there
  subst hc
  exact (PySem.W.Looks.ld hob).andThen .now
section
variable {X : Cx} {C : Addr} {x : Str} {np hpos pos : Pos} {body suite : List Stmt} {b₀ : Stmt} {tb : TB} {ts : TS}
def tTry0 (K : PySem.W.Frag) (C : Addr) (tb : TB) (ts : TS) : TS := fun D σ H => tb (fun cls _ H1 => PySem.W.exmOne K cls (.ref C) = some true ∧ ts D σ H1) D σ H
theorem ps_try0 (hm : X.mg x = some (.ref C)) (hb : PB X body tb) (hs : ∀ ea, PSs (X.held ea) (b₀ :: suite) ts) (hg : Gl X x := by rfl) (hdb : (x == ("__debug__" : Str)) = false := by decide)
    (hst : X.stack = X.env :: X.outer := by rfl) (hf : X.env.frame = some X.env.locals := by rfl) :
    PS X (.Try body [.ExceptHandler (some (.Name x np)) none (b₀ :: suite) hpos] [] [] pos) (tTry0 X.K C tb ts) := by
  intro pins s σ H D I h
  refine wpAny_Try_except (wpAny_mono (hb pins s σ H D _ I h) (fun f s1 q => ?_) fun e s1 q => ?_)
  · cases f with
    | next => exact wpAny_execs_nil q
    | ret v => exact q
    | brk => exact q
    | cont => exact q
  · obtain ⟨s0, H0, I0, ea, cls, a0, B, H', rfl, os, bare, u, ok, fl, hB, hT, em, q⟩ := q
    have hfr : X.A.frames = some (X.env :: X.outer) := hst ▸ I.ok.frames
    have fl' : Heap.FlyingW B (X.env :: X.outer) ea cls a0 s1.heap := hst ▸ fl
    refine wpAny_looks_onW hfr hf fl' fun h4 held us4 => ?_
    refine wpAny_landsW held fun h5 fl5 us5 => ?_
    have J5 := fly_inv I0 os bare u ok hB hT fl5.1 (us4.trans us5)
    refine wpAny_handleBy_cons (codeAny_handlers_test (ld_glob (X := X.held ea) (J5.held ea) hg hm ?_ hdb)) (by intro z; cases z)
    refine (PySem.W.exm_one J5.kIn (looks_cls fl5) em).here ?_
    refine codeAny_handlers_suite ?_
    refine lands_againW fl5 fun h6 fl6 us6 => ?_
    have J6 := fly_inv I0 os bare u ok hB hT fl6.1 ((us4.trans us5).trans us6)
    exact wpAny_mono (hs ea pins _ σ H' D (J6.held ea) q) (fun f s7 z => z.unheld I.ok) fun _ _ z => False.elim z
end
end L2

namespace L2
open PySem PySem.Spec PyProof.Rows
def excH (a : Addr) (cls : Value) (h : Heap) : Prop := ∃ o vs, h.get? a = some o ∧ o.cls = cls ∧ o.data = .fields vs
def excO (a : Addr) (cls : Value) : HO := .ext (excH a cls)
section
variable {X : Cx} {pins : List (Addr × Obj)} {σ : St} {H H' : Hp} {s s' : Shared} {B h2 : Heap} {ea : Addr} {cls a0 : Value}
end
section
variable {X : Cx} {C : Addr} {x n : Str} {np hpos pos : Pos} {body suite : List Stmt} {b₀ : Stmt} {tb : TB} {ts : TS} {i : Nat}
def Ends.gone (D : Ends) (i : Nat) : Ends := { nx := fun σ H => D.nx (σ.set i none) H, rt := D.rt, bk := fun σ H => D.bk (σ.set i none) H, ct := fun σ H => D.ct (σ.set i none) H }
end
end L2

namespace L2
open PySem PySem.Spec PyProof.Rows
section
open PySem.W PySem.Calls PySem.Builtin PySem.Builtin.ObjectAttr PySem.Builtin.Getset_descriptor
variable {prog : Program} {w : World} {A : Around} {E : Value → Shared → Prop} {s : Shared} {K : PySem.W.Frag} {x C : Addr}
end
structure ExA (K : PySem.W.Frag) (C : Addr) : Prop where
  ex : ExcC K C
  em : PySem.W.exmOne K (.ref C) (.ref C) = some true
structure ExI (K : PySem.W.Frag) (C : Addr) : Prop extends ExA K C where
  pg : PySem.W.plainGet K C "__class__" = true
  ic : InstC K C
end L2

namespace L2
open PySem PySem.Spec PyProof.Rows
section
open PySem.W PySem.Calls PySem.Builtin PySem.Builtin.ObjectAttr PySem.Builtin.Getset_descriptor
variable {prog : Program} {w : World} {A : Around} {E : Value → Shared → Prop} {s : Shared} {K : PySem.W.Frag} {x C : Addr}
end
structure ExJ (K : PySem.W.Frag) (C : Addr) : Prop extends ExA K C where
  ga : PySem.W.findIn K (.ref C) "__getattribute__" = some (some (.builtin "BaseException.__getattribute__"))
  gt : PySem.W.findIn K (.ref C) "__getattr__" = some none
  mb : PySem.W.mroIn K C (.type "BaseException") = some true
  ic : InstC K C
end L2

namespace L2
open PySem PySem.Spec PyProof.Rows
def Itd (d : Addr) (o : Obj) (kvs : List (Key × V)) : It :=
  ⟨fun i H => H d = some (.frz o (.dK kvs)) ∧ i < kvs.length, fun i H x H' => H' = H ∧ ∃ kv, kvs[i]? = some kv ∧ x = kV kv.1, fun i H => H d = some (.frz o (.dK kvs)) ∧ kvs.length ≤ i⟩
section
variable {X : Cx} {tg : Expr}
end
end L2

namespace L2
open PySem PySem.Spec PyProof.Rows
section
variable {X : Cx}
end
end L2

namespace L2
open PySem PySem.Spec PyProof.Rows
section
variable {X : Cx}
end
end L2

namespace L2
open PySem PySem.Spec PyProof.Rows
section
variable {X : Cx} {e : Expr} {t : TA} {p1 p2 : Pos} {pos1 pos2 : Pos}
end
end L2

namespace L2
open PySem PySem.Spec PyProof.Rows
theorem strsAre_of : ∀ {ys : List Str} {us : List Value}, Vals (ys.map V.str) us → StrsAre us ys
  | [], us, r => by
    rw [List.map_nil] at r
    cases r
    exact .nil
  | b :: bs, us, r => by
    rw [List.map_cons] at r
    cases r with
    | cons r1 r2 =>
      obtain ⟨t, rfl⟩ := r1
      exact .cons b t (strsAre_of r2)
section
variable {X : Cx}
theorem mt_join : MtR X "str.join" (fun x vs H Q => ∃ z p ys, x = .str z ∧ vs = [.ref p] ∧ SqL X.K H p (ys.map V.str) ∧ (ys.map fun y => y.length).sum + ys.length * z.length ≤ 16777216 ∧ Q (.str (Txt.join z ys)) H) := by
  intro pins s σ H x xs v us Q I rx r h
  obtain ⟨z, p, ys, rfl, rfl, hq, hz, q⟩ := h
  obtain ⟨t, rfl⟩ := rx
  obtain ⟨u, rfl, ru⟩ := Vals.one r
  cases ru
  obtain ⟨its, rv, pl, hl⟩ := I.list hq
  exact join_list pl.isList (strsAre_of rv) hz fun t' k => ⟨.str _, H, I.tok k, ⟨_, rfl⟩, q⟩
end
end L2

namespace L2
open PySem PySem.Spec PyProof.Rows
section
variable {X : Cx}
end
end L2

namespace L2
open PySem PySem.Spec PyProof.Rows
section
variable {prog : Program} {w : World} {A : Around} {R : Result → Shared → Prop} {I S : Addr} {fp wr : List Addr} {n : Nat} {P : Nat → Value → Prop} {St : Nat → Heap → Prop}
end
section
variable {prog : Program} {w : World} {A : Around} {E : Value → Shared → Prop} {s : Shared}
end
section
variable {X : Cx}
end
end L2

namespace L2
open PySem PySem.Spec PyProof.Rows
section
variable {X : Cx}
end
end L2

namespace L2
open PySem PySem.Spec PyProof.Rows
section
variable {X : Cx} {k : Nat} {ps : List Str} {sp : Sp} {x : Str} {p pos : Pos} {e : Expr} {es : List Expr} {t : TA} {E : XK}
end
end L2

namespace L2
open PySem PySem.Spec PyProof.Rows PySem.Builtin.Str
theorem vals_from : ∀ (tk : Nat) (xs : List Str), Vals (xs.map V.str) (strsFrom tk xs)
  | _, [] => .nil
  | tk, x :: r => .cons ⟨tk, rfl⟩ (vals_from (tk + 1) r)
section
variable {X : Cx}
theorem mt_split : MtR X "str.split" (fun x vs H Q => ∃ z y, x = .str z ∧ vs = [.str y] ∧ (y.length == 0) = false ∧ z.length ≤ sizeLine ∧ (Txt.split z y).length ≤ sizeLine ∧ ∀ l, H l = none → Q (.ref l) (upd H l (.lst ((Txt.split z y).map V.str)))) := by
  intro pins s σ H x xs v us Q I rx r h
  obtain ⟨z, y, rfl, rfl, hy, hz, hn, q⟩ := h
  obtain ⟨t, rfl⟩ := rx
  obtain ⟨u, rfl, ru⟩ := Vals.one r
  obtain ⟨t', rfl⟩ := ru
  have fin : ∀ (ps : List Str) (vs : List Value) (tk : Nat), Txt.split z y = ps → ps.length ≤ sizeLine → Vals (ps.map V.str) vs → EP X pins σ Q (.ref s.heap.objs.size) { s with toks := tk, heap := s.heap.push { cls := .type "list", data := .seq vs.toArray } } := fun ps vs tk e hl rv => by
    subst e
    exact ⟨.ref s.heap.objs.size, _, I.laid (t' := tk) (fun b ob e => Heap.get?_push_of_some _ e) (Nat.le_refl _) (show ObjOk X.prog X.w _ _ _ (.lst ((Txt.split z y).map V.str)) from ⟨by rw [List.length_map]; exact hl, vs, 0, rv, Heap.get?_push_size _ rfl⟩), rfl, q _ (I.hok.fresh (Nat.le_refl _))⟩
  cases h1 : (decide (z.length < y.length) || decide (strKind z < strKind y)) with
  | false =>
    cases hf : (occurrences z y 0 z.length (z.length + 1)).isEmpty with
    | false =>
      have es : Txt.split z y = partsBetween z (occurrences z y 0 z.length (z.length + 1)) y.length := (if_neg (ne_true_of_eq_false h1)).trans (if_neg (ne_true_of_eq_false hf))
      rw [es] at hn
      refine call_meets F.slot_str_split (typeIs_str s z t) F.entry_str_split (F.args_str_split_2 _ _) (meets_str_split_sep z y t t' h1 hy hf hz hn) ?_
      exact fin _ _ _ es hn (vals_from _ _)
    | true =>
      refine call_meets F.slot_str_split (typeIs_str s z t) F.entry_str_split (F.args_str_split_2 _ _) (meets_str_split_not_found z y t t' h1 hy hf) ?_
      exact fin [z] [.str z t] s.toks ((if_neg (ne_true_of_eq_false h1)).trans (if_pos hf)) (by show 1 ≤ sizeLine; decide) (.cons ⟨t, rfl⟩ .nil)
  | true =>
    refine call_meets F.slot_str_split (typeIs_str s z t) F.entry_str_split (F.args_str_split_2 _ _) (meets_str_split_cannot_occur z y t t' h1) ?_
    exact fin [z] [.str z t] s.toks (if_pos h1) (by show 1 ≤ sizeLine; decide) (.cons ⟨t, rfl⟩ .nil)
end
end L2

namespace L2
open PySem PySem.Spec PyProof.Rows
theorem comp_tup {F : PySem.W.Frag} {a : Addr} {xs : List V} {σb : St} {g : TG} {tt : TT} {te : TE} {fin : List V → Hp → Prop} {H : Hp} (hz : xs.length ≤ sizeLine) (Pv : Nat → List V → Hp → Prop) (h0 : Pv 0 [] H)
    (hl : ∀ i ys H, i ≤ xs.length → Pv i ys H → SqT F H a xs ∧ ys.length ≤ i)
    (hs : ∀ i x ys H (K : VK) (K' : Hp → Prop), xs[i]? = some x → Pv i ys H → (∀ y H4, Pv (i + 1) (ys ++ [y]) H4 → K y H4) → (∀ H3, Pv (i + 1) ys H3 → K' H3) →
      g x σb H fun σ2 H2 => tt σ2 H2 fun b H3 => if b = true then te σ2 H3 K else K' H3)
    (hd : ∀ ys H, Pv xs.length ys H → fin ys H) : ∃ W : CW, (∃ m, W 0 m [] H) ∧ ∀ i m ys H, W i m ys H → tTurn σb (Itt F a) g tt te W fin i m ys H := by
  refine ⟨fun i m ys H => m = xs.length - i ∧ i ≤ xs.length ∧ Pv i ys H, ⟨xs.length, by simp, Nat.zero_le _, h0⟩, ?_⟩
  rintro i m ys H ⟨rfl, hi, p⟩
  obtain ⟨q, ql⟩ := hl i ys H hi p
  by_cases hlt : i < xs.length
  · refine .inr ⟨⟨xs, xs[i], q, by simp [hlt]⟩, by omega, fun x H' y => ?_⟩
    obtain ⟨e, y⟩ := y
    subst e
    exact hs i x ys _ _ _ (y xs q) p (fun y H4 q => ⟨xs.length - (i + 1), by omega, rfl, hlt, q⟩) fun H3 q => ⟨xs.length - (i + 1), by omega, rfl, hlt, q⟩
  · have e : i = xs.length := by omega
    subst e
    exact .inl ⟨⟨xs, q, Nat.le_refl _⟩, hd ys H p⟩
end L2

namespace Ld
open PySem L2
def letter (c : Nat) : Bool := decide (97 ≤ c) && decide (c ≤ 122)
def nameS (z : Str) : Bool := decide (1 ≤ z.length) && decide (z.length ≤ 8) && !decide (z = "sea") && z.cps.toList.all letter
def isInt : Dv → Bool
  | .int _ => true
  | _ => false
def isBl : Dv → Bool
  | .bl _ => true
  | _ => false
def isStr : Dv → Bool
  | .str _ => true
  | _ => false
def isLst : Dv → Bool
  | .lst _ => true
  | _ => false
def isTup : Dv → Bool
  | .tup _ => true
  | _ => false
def tupIs (n : Int) : Dv → Bool
  | .tup ds => decide ((ds.length : Int) = n)
  | _ => false
def lstIn (n : Int) : Dv → Bool
  | .lst ds => decide (1 ≤ ds.length) && decide ((ds.length : Int) ≤ n)
  | _ => false
def isName : Dv → Bool
  | .str z => nameS z
  | _ => false
def hgt (i : Int) : Bool := decide (-1000000 ≤ i) && decide (i ≤ 1000000)
def amt (i : Int) : Bool := decide (0 ≤ i) && decide (i ≤ 1000000)
def isHeight : Dv → Bool
  | .int i => hgt i
  | _ => false
def isAmount : Dv → Bool
  | .int i => amt i
  | _ => false
def oneOf (zs : List Str) : Dv → Bool
  | .str z => decide (z ∈ zs)
  | _ => false
def firstS : Dv → Option Str
  | .tup (.str z :: _) => some z
  | _ => none
def isField : Dv → Bool
  | .tup [a, b, c] => isName a && (isHeight b && isAmount c)
  | _ => false
def areFields : Dv → Bool
  | .lst ds => (decide (1 ≤ ds.length) && decide (ds.length ≤ 12)) && (ds.all isField && decide ((ds.map firstS).Nodup))
  | _ => false
def areSides (zs : List Str) (a b : Dv) : Bool := oneOf zs a && (oneOf zs b && !deq a b)
def isSill (c : Dv) : Dv → Bool
  | .non => true
  | .int i => hgt i && (match c with | .int j => decide (i < j) | _ => false)
  | _ => false
def isDyke (zs : List Str) : Dv → Bool
  | .tup [n, a, b, c, r, s] => isName n && areSides zs a b && (isHeight c && (isAmount r && isSill c s))
  | _ => false
def areDykes (zs : List Str) : Dv → Bool
  | .lst ds => (decide (1 ≤ ds.length) && decide (ds.length ≤ 40)) && (ds.all (isDyke zs) && decide ((ds.map firstS).Nodup))
  | _ => false
mutual
def small : Dv → Bool
  | .str z => decide (z.length ≤ 1000)
  | .lst ds => decide (ds.length ≤ 1000) && smallL ds
  | .tup ds => decide (ds.length ≤ 1000) && smallL ds
  | _ => true
def smallL : List Dv → Bool
  | [] => true
  | d :: ds => small d && smallL ds
end
theorem smallL_mem : ∀ {ds : List Dv} {d : Dv}, smallL ds = true → d ∈ ds → small d = true
  | [], _, _, m => by cases m
  | e :: ds, d, f, m => by
    rw [smallL, Bool.and_eq_true] at f
    rcases List.mem_cons.mp m with rfl | m
    · exact f.1
    · exact smallL_mem f.2 m
theorem small_tup {ds : List Dv} (h : small (.tup ds) = true) : smallL ds = true := (Bool.and_eq_true_iff.mp (show (decide (ds.length ≤ 1000) && smallL ds) = true from h)).2
theorem Is_kit (K : PySem.W.Frag) {H : Hp} {d : Dv} {x : V} (h : Is H d x) : ∃ t, TyOf K H x t ∧ PySem.W.kitOne K t (.type "int") = some (isInt d || isBl d) ∧ PySem.W.kitOne K t (.type "bool") = some (isBl d) ∧
    PySem.W.kitOne K t (.type "str") = some (isStr d) ∧ PySem.W.kitOne K t (.type "list") = some (isLst d) ∧ PySem.W.kitOne K t (.type "tuple") = some (isTup d) := by
  cases d with
  | non => cases (show x = .non from h); exact ⟨_, .non, rfl, rfl, rfl, rfl, rfl⟩
  | bl b => cases (show x = .bl b from h); exact ⟨_, .bl b, rfl, kit_self _ _, rfl, rfl, rfl⟩
  | int i => cases (show x = .int i from h); exact ⟨_, .int i, kit_self _ _, rfl, rfl, rfl, rfl⟩
  | str z => cases (show x = .str z from h); exact ⟨_, .str z, rfl, rfl, kit_self _ _, rfl, rfl⟩
  | lst ds => obtain ⟨a, vs, rfl, e, _⟩ := h; exact ⟨_, .lst e, rfl, rfl, rfl, kit_self _ _, rfl⟩
  | tup ds => obtain ⟨a, vs, rfl, e, _⟩ := h; exact ⟨_, .tup e, rfl, rfl, rfl, rfl, kit_self _ _⟩
  | dct ks ds => obtain ⟨a, vs, rfl, e, _⟩ := h; exact ⟨_, .dK e, rfl, rfl, rfl, rfl, rfl⟩
theorem letters_list : ("abcdefghijklmnopqrstuvwxyz" : Str).cps.toList = [97, 98, 99, 100, 101, 102, 103, 104, 105, 106, 107, 108, 109, 110, 111, 112, 113, 114, 115, 116, 117, 118, 119, 120, 121, 122] := by decide +kernel
theorem in_letters (c : Nat) : (!(Builtin.Str.occurrences ("abcdefghijklmnopqrstuvwxyz" : Str) ⟨#[c]⟩ 0 ("abcdefghijklmnopqrstuvwxyz" : Str).length 1).isEmpty) = letter c := by
  rw [PySem.StrLaws.found_one, letters_list]
  have h1 : ∀ d, d ∈ ([97, 98, 99, 100, 101, 102, 103, 104, 105, 106, 107, 108, 109, 110, 111, 112, 113, 114, 115, 116, 117, 118, 119, 120, 121, 122] : List Nat) → 97 ≤ d ∧ d ≤ 122 := by decide
  have h2 : ∀ k, k < 26 → (97 + k) ∈ ([97, 98, 99, 100, 101, 102, 103, 104, 105, 106, 107, 108, 109, 110, 111, 112, 113, 114, 115, 116, 117, 118, 119, 120, 121, 122] : List Nat) := by decide
  unfold letter
  by_cases h : 97 ≤ c ∧ c ≤ 122
  · have e := h2 (c - 97) (by omega)
    rw [show 97 + (c - 97) = c by omega] at e
    rw [decide_eq_true e, decide_eq_true h.1, decide_eq_true h.2]
    rfl
  · have e : ¬ c ∈ ([97, 98, 99, 100, 101, 102, 103, 104, 105, 106, 107, 108, 109, 110, 111, 112, 113, 114, 115, 116, 117, 118, 119, 120, 121, 122] : List Nat) := fun m => h (h1 c m)
    rw [decide_eq_false e]
    by_cases h' : 97 ≤ c
    · rw [decide_eq_true h', decide_eq_false (fun z => h ⟨h', z⟩)]
      rfl
    · rw [decide_eq_false h']
      rfl
def nmOf (d : Dv) : Str := (firstS d).getD ""
def keyOf (d : Dv) : Key := .inr (nmOf d)
theorem first_nm {d : Dv} {z : Str} (h : firstS d = some z) : nmOf d = z := by unfold nmOf; rw [h]; rfl
def landF (d1 d2 : Addr) : List (Str × V) := putF "dyke_rows" (.ref d2) (putF "field_rows" (.ref d1) [])
theorem fd_ne : ¬ (("field_rows" : Str) = "dyke_rows") := by decide +kernel
theorem landF_f (d1 d2 : Addr) : (landF d1 d2).lookup ("field_rows" : Str) = some (.ref d1) := by
  unfold landF
  rw [lookup_putF, if_neg fd_ne, lookup_putF, if_pos rfl]
theorem landF_d (d1 d2 : Addr) : (landF d1 d2).lookup ("dyke_rows" : Str) = some (.ref d2) := by
  unfold landF
  rw [lookup_putF, if_pos rfl]
theorem landF_no (d1 d2 : Addr) {m : Str} (h1 : ¬ m = "dyke_rows") (h2 : ¬ m = "field_rows") : (landF d1 d2).lookup m = none := by
  unfold landF
  rw [lookup_putF, if_neg h1, lookup_putF, if_neg h2]
  all_goals rfl
def Table (H : Hp) (a : Addr) (ds : List Dv) : Prop := ∃ kvs, H a = some (.dK kvs) ∧ kvs.map (·.1) = ds.map keyOf ∧ IsL H ds (kvs.map (·.2))
theorem Table.same {H H' : Hp} (S : Same H H') {a : Addr} {ds : List Dv} (h : Table H a ds) : Table H' a ds := by
  obtain ⟨kvs, e, k, i⟩ := h
  exact ⟨kvs, S _ _ e, k, IsL.same S _ _ i⟩
structure LandAt (C : Addr) (H : Hp) (x : Addr) (fs ds : List Dv) : Prop where
  ex : ∃ dx d1 d2, H x = some (.ins C dx (landF d1 d2)) ∧ Table H d1 fs ∧ Table H d2 ds
  okf : areFields (.lst fs) = true
  okd : areDykes ("sea" :: fs.map nmOf) (.lst ds) = true
theorem LandAt.same {C : Addr} {H H' : Hp} (S : Same H H') {x : Addr} {fs ds : List Dv} (h : LandAt C H x fs ds) : LandAt C H' x fs ds := by
  obtain ⟨⟨dx, d1, d2, e, t1, t2⟩, a, b⟩ := h
  exact ⟨⟨dx, d1, d2, S _ _ e, t1.same S, t2.same S⟩, a, b⟩
theorem valV_at : ∀ {kvs : List (Key × V)} {H : Hp} {ds : List Dv} {d : Dv}, kvs.map (·.1) = ds.map keyOf → IsL H ds (kvs.map (·.2)) → (ds.map nmOf).Nodup → d ∈ ds → ∃ v, valV kvs (.inr (nmOf d)) = some v ∧ Is H d v
  | [], _, [], _, _, _, _, m => by cases m
  | [], _, _ :: _, _, e, _, _, _ => by simp at e
  | _ :: _, _, [], _, _, _, _, m => by cases m
  | (k, v) :: kvs, H, d0 :: ds, d, e, i, n, m => by
    obtain ⟨v', r, e1, h0, t⟩ := i
    rw [List.map_cons] at e1
    cases e1
    rw [List.map_cons, List.map_cons, List.cons.injEq] at e
    have ek : k = keyOf d0 := e.1
    rw [List.map_cons, List.nodup_cons] at n
    by_cases q : nmOf d = nmOf d0
    · have : d = d0 := by
        rcases List.mem_cons.mp m with rfl | m
        · rfl
        · exact absurd (List.mem_map.mpr ⟨d, m, q⟩) n.1
      subst this
      refine ⟨v, ?_, h0⟩
      unfold valV
      rw [List.find?_cons, ek]
      simp [keyOf]
    · have m' : d ∈ ds := by
        rcases List.mem_cons.mp m with rfl | m
        · exact absurd rfl q
        · exact m
      obtain ⟨u, e2, h2⟩ := valV_at (kvs := kvs) e.2 t n.2 m'
      refine ⟨u, ?_, h2⟩
      unfold valV at e2 ⊢
      have hk : ¬ k = Sum.inr (nmOf d) := by
        rw [ek]
        intro z
        exact q (Sum.inr.inj z).symm
      rw [List.find?_cons, decide_eq_false (show ¬ (k, v).1 = Sum.inr (nmOf d) from hk)]
      exact e2
theorem firsts_nm : ∀ {ds : List Dv} {p : Dv → Bool}, (∀ d, p d = true → ∃ z, firstS d = some z) → ds.all p = true → ds.map firstS = (ds.map nmOf).map some
  | [], _, _, _ => rfl
  | d :: ds, p, hp, h => by
    rw [List.all_cons, Bool.and_eq_true] at h
    obtain ⟨z, e⟩ := hp d h.1
    rw [List.map_cons, List.map_cons, List.map_cons, firsts_nm hp h.2, first_nm e, e]
theorem nodup_some (zs : List Str) : (zs.map some).Nodup ↔ zs.Nodup := by
  induction zs with
  | nil => simp
  | cons z zs ih =>
    rw [List.map_cons, List.nodup_cons, List.nodup_cons, ih]
    simp
theorem field_shape {d : Dv} (h : isField d = true) : ∃ z g e, d = .tup [.str z, .int g, .int e] ∧ nameS z = true ∧ hgt g = true ∧ amt e = true := by
  unfold isField at h
  split at h
  · rename_i a b c
    rw [Bool.and_eq_true, Bool.and_eq_true] at h
    obtain ⟨h1, h2, h3⟩ := h
    cases a with
    | str z =>
      cases b with
      | int g =>
        cases c with
        | int e => exact ⟨z, g, e, rfl, h1, h2, h3⟩
        | _ => cases h3
      | _ => cases h2
    | _ => cases h1
  · cases h
theorem field_first (d : Dv) (h : isField d = true) : ∃ z, firstS d = some z := by
  obtain ⟨z, _, _, rfl, _⟩ := field_shape h
  exact ⟨z, rfl⟩
theorem dyke_shape {zs : List Str} {d : Dv} (h : isDyke zs d = true) : ∃ n a b c r s, d = .tup [.str n, .str a, .str b, .int c, .int r, s] ∧ nameS n = true ∧ a ∈ zs ∧ b ∈ zs ∧ a ≠ b ∧ hgt c = true ∧ amt r = true ∧ isSill (.int c) s = true := by
  unfold isDyke at h
  split at h
  · rename_i n a b c r s
    rw [Bool.and_eq_true, Bool.and_eq_true, Bool.and_eq_true, Bool.and_eq_true] at h
    obtain ⟨⟨h1, h2⟩, h3, h4, h5⟩ := h
    unfold areSides at h2
    rw [Bool.and_eq_true, Bool.and_eq_true] at h2
    obtain ⟨h6, h7, h8⟩ := h2
    cases n with
    | str n =>
      cases a with
      | str a =>
        cases b with
        | str b =>
          cases c with
          | int c =>
            cases r with
            | int r =>
              refine ⟨n, a, b, c, r, s, rfl, h1, of_decide_eq_true h6, of_decide_eq_true h7, ?_, h3, h4, h5⟩
              intro z
              subst z
              have : (!(a == a)) = true := h8
              rw [beq_self_eq_true] at this
              cases this
            | _ => cases h4
          | _ => cases h3
        | _ => cases h7
      | _ => cases h6
    | _ => cases h1
  · cases h
theorem dyke_first {zs : List Str} (d : Dv) (h : isDyke zs d = true) : ∃ z, firstS d = some z := by
  obtain ⟨z, _, _, _, _, _, rfl, _⟩ := dyke_shape h
  exact ⟨z, rfl⟩
structure GoodF (fs : List Dv) : Prop where
  l1 : 1 ≤ fs.length
  l2 : fs.length ≤ 12
  all : ∀ d ∈ fs, isField d = true
  nd : (fs.map nmOf).Nodup
structure GoodD (zs : List Str) (ds : List Dv) : Prop where
  l1 : 1 ≤ ds.length
  l2 : ds.length ≤ 40
  all : ∀ d ∈ ds, isDyke zs d = true
  nd : (ds.map nmOf).Nodup
theorem goodF_iff (fs : List Dv) : areFields (.lst fs) = true ↔ GoodF fs := by
  show ((decide (1 ≤ fs.length) && decide (fs.length ≤ 12)) && (fs.all isField && decide ((fs.map firstS).Nodup))) = true ↔ _
  rw [Bool.and_eq_true, Bool.and_eq_true, Bool.and_eq_true, decide_eq_true_iff, decide_eq_true_iff, decide_eq_true_iff]
  constructor
  · rintro ⟨⟨a, b⟩, c, d⟩
    rw [firsts_nm field_first c, nodup_some] at d
    exact ⟨a, b, List.all_eq_true.mp c, d⟩
  · rintro ⟨a, b, c, d⟩
    have c' := List.all_eq_true.mpr c
    refine ⟨⟨a, b⟩, c', ?_⟩
    rw [firsts_nm field_first c', nodup_some]
    exact d
theorem goodD_iff (zs : List Str) (ds : List Dv) : areDykes zs (.lst ds) = true ↔ GoodD zs ds := by
  show ((decide (1 ≤ ds.length) && decide (ds.length ≤ 40)) && (ds.all (isDyke zs) && decide ((ds.map firstS).Nodup))) = true ↔ _
  rw [Bool.and_eq_true, Bool.and_eq_true, Bool.and_eq_true, decide_eq_true_iff, decide_eq_true_iff, decide_eq_true_iff]
  constructor
  · rintro ⟨⟨a, b⟩, c, d⟩
    rw [firsts_nm dyke_first c, nodup_some] at d
    exact ⟨a, b, List.all_eq_true.mp c, d⟩
  · rintro ⟨a, b, c, d⟩
    have c' := List.all_eq_true.mpr c
    refine ⟨⟨a, b⟩, c', ?_⟩
    rw [firsts_nm dyke_first c', nodup_some]
    exact d
def isNon : Dv → Bool
  | .non => true
  | _ => false
def hasSill : Dv → Bool
  | .tup [_, _, _, _, _, s] => !isNon s
  | _ => false
theorem smallL_of : ∀ {ds : List Dv}, (∀ d ∈ ds, small d = true) → smallL ds = true
  | [], _ => rfl
  | d :: ds, h => by
    rw [smallL, h d List.mem_cons_self, smallL_of fun e m => h e (List.mem_cons_of_mem _ m)]
    rfl
end Ld

namespace Mt02
open PySem L2 Ld
def alph (i : Nat) : Nat := if i < 18 then 97 + i else 98 + i
def rst (c : Int) : Nat → Int
  | 0 => c / 3
  | j + 1 => rst c j / 25
def num (o : Nat → Int) (c p b : Int) (k j : Nat) : Int := if (j : Int) = b then c / 17 + ((k : Int) / 25) else if (j : Int) = p then c / 11 + (k : Int) else o j
def code (o : Nat → Int) (c p b : Int) (k j : Nat) : Nat := alph (num o c p b k j % 25).toNat
def nm (o : Nat → Int) (c p b : Int) (n k : Nat) : Str := ⟨((List.range n).map (code o c p b k)).toArray⟩
theorem str_ext {x y : Str} (h : x.cps.toList = y.cps.toList) : x = y := by
  cases x; cases y
  simp only [Str.mk.injEq]
  exact Array.toList_inj.mp h
structure Names (zs : List Str) (n : Nat) : Prop where
  len : zs.length = n
  nd : zs.Nodup
  good : ∀ z ∈ zs, nameS z = true
end Mt02

namespace Mt04
open PySem L2 Ld
def crownD : Dv → Int
  | .tup [_, _, _, .int c, _, _] => c
  | _ => 0
def hOf : Dv → Int
  | .tup [_, .int h] => h
  | _ => 0
def crownOf (ds : List Dv) (z : Str) : Int := (ds.find? fun d => decide (nmOf d = z)).elim 0 crownD
def isWork (ds : List Dv) : Dv → Bool
  | .tup [.str z, .int h] => decide (z ∈ ds.map nmOf) && (hgt h && decide (crownOf ds z ≤ h))
  | _ => false
def areWorks (ds : List Dv) : Dv → Bool
  | .lst ws => ws.all (isWork ds) && decide ((ws.map firstS).Nodup)
  | _ => false
theorem find_at {ds : List Dv} (nd : (ds.map nmOf).Nodup) {d : Dv} (m : d ∈ ds) : (ds.find? fun e => decide (nmOf e = nmOf d)) = some d := by
  induction ds with
  | nil => cases m
  | cons e ds ih =>
    rw [List.map_cons, List.nodup_cons] at nd
    rw [List.find?_cons]
    by_cases q : nmOf e = nmOf d
    · rw [decide_eq_true q]
      rcases List.mem_cons.mp m with rfl | m
      · rfl
      · exact absurd (List.mem_map.mpr ⟨d, m, q.symm⟩) nd.1
    · rw [decide_eq_false q]
      rcases List.mem_cons.mp m with rfl | m
      · exact absurd rfl q
      · exact ih nd.2 m
theorem crown_at {ds : List Dv} (nd : (ds.map nmOf).Nodup) {d : Dv} (m : d ∈ ds) : crownOf ds (nmOf d) = crownD d := by
  unfold crownOf
  rw [find_at nd m]
  rfl
theorem work_shape {ds : List Dv} {d : Dv} (h : isWork ds d = true) : ∃ z v, d = .tup [.str z, .int v] ∧ z ∈ ds.map nmOf ∧ hgt v = true ∧ crownOf ds z ≤ v := by
  unfold isWork at h
  split at h
  · rename_i z v
    rw [Bool.and_eq_true, Bool.and_eq_true] at h
    exact ⟨z, v, rfl, of_decide_eq_true h.1, h.2.1, of_decide_eq_true h.2.2⟩
  · cases h
theorem work_first {ds : List Dv} (d : Dv) (h : isWork ds d = true) : ∃ z, firstS d = some z := by
  obtain ⟨z, _, rfl, _⟩ := work_shape h
  exact ⟨z, rfl⟩
structure GoodW (ds ws : List Dv) : Prop where
  all : ∀ d ∈ ws, isWork ds d = true
  nd : (ws.map nmOf).Nodup
theorem goodW_iff (ds ws : List Dv) : areWorks ds (.lst ws) = true ↔ GoodW ds ws := by
  show (ws.all (isWork ds) && decide ((ws.map firstS).Nodup)) = true ↔ _
  rw [Bool.and_eq_true, decide_eq_true_iff]
  constructor
  · rintro ⟨c, d⟩
    rw [firsts_nm work_first c, nodup_some] at d
    exact ⟨List.all_eq_true.mp c, d⟩
  · rintro ⟨c, d⟩
    have c' := List.all_eq_true.mpr c
    refine ⟨c', ?_⟩
    rw [firsts_nm work_first c', nodup_some]
    exact d
def wAt (ws : List Dv) (z : Str) : Option Int := (ws.find? fun d => decide (nmOf d = z)).map hOf
def newD (ws : List Dv) : Dv → Dv
  | .tup [.str n, a, b, .int c, r, s] => .tup [.str n, a, b, .int ((wAt ws n).getD c), r, s]
  | d => d
def raisedD (ds ws : List Dv) : List Dv := ds.map (newD ws)
theorem newD_nm (ws : List Dv) (d : Dv) : nmOf (newD ws d) = nmOf d := by
  unfold newD
  split <;> rfl
theorem raised_nm (ds ws : List Dv) : (raisedD ds ws).map nmOf = ds.map nmOf := by
  unfold raisedD
  rw [List.map_map]
  exact List.map_congr_left fun d _ => newD_nm ws d
def kvOf (d : Dv) : Key × V := (keyOf d, .int (hOf d))
theorem valV_works (ws : List Dv) (z : Str) : valV (ws.map kvOf) (.inr z) = (wAt ws z).map V.int := by
  induction ws with
  | nil => rfl
  | cons d ws ih =>
    unfold valV wAt at ih ⊢
    rw [List.map_cons, List.find?_cons, List.find?_cons]
    have e : decide ((kvOf d).1 = Sum.inr z) = decide (nmOf d = z) := by
      rw [Bool.eq_iff_iff, decide_eq_true_iff, decide_eq_true_iff]
      exact ⟨fun h => Sum.inr.inj h, fun h => congrArg Sum.inr h⟩
    rw [e]
    cases decide (nmOf d = z) with
    | true => rfl
    | false => exact ih
theorem wAt_some {ds ws : List Dv} (g : GoodW ds ws) {z : Str} {v : Int} (h : wAt ws z = some v) : hgt v = true ∧ crownOf ds z ≤ v := by
  unfold wAt at h
  cases e : ws.find? (fun d => decide (nmOf d = z)) with
  | none => rw [e] at h; cases h
  | some d =>
    rw [e] at h
    have m := List.mem_of_find?_eq_some e
    have q : nmOf d = z := by
      have := List.find?_some e
      exact of_decide_eq_true this
    obtain ⟨z', v', rfl, _, h1, h2⟩ := work_shape (g.all d m)
    have ev : v' = v := Option.some.inj h
    have ez : z' = z := q
    subst ev ez
    exact ⟨h1, h2⟩
theorem newD_ok {zs : List Str} {ds ws : List Dv} (gd : GoodD zs ds) (g : GoodW ds ws) {d : Dv} (m : d ∈ ds) : isDyke zs (newD ws d) = true := by
  obtain ⟨n, a, b, c, r, s, rfl, hn, ha, hb, hab, hc, hr, hs⟩ := dyke_shape (gd.all d m)
  have ec : crownOf ds n = c := crown_at gd.nd m
  show isDyke zs (.tup [.str n, .str a, .str b, .int ((wAt ws n).getD c), .int r, s]) = true
  have key : hgt ((wAt ws n).getD c) = true ∧ c ≤ (wAt ws n).getD c := by
    cases e : wAt ws n with
    | none => exact ⟨hc, Int.le_refl _⟩
    | some v =>
      have := wAt_some g e
      rw [ec] at this
      exact this
  have ks : isSill (.int ((wAt ws n).getD c)) s = true := by
    cases s with
    | non => rfl
    | int i =>
      have h1 : (hgt i && decide (i < c)) = true := hs
      rw [Bool.and_eq_true] at h1
      show (hgt i && decide (i < (wAt ws n).getD c)) = true
      rw [h1.1, decide_eq_true (Int.lt_of_lt_of_le (of_decide_eq_true h1.2) key.2)]
      rfl
    | _ => cases hs
  show (nameS n && (decide (a ∈ zs) && (decide (b ∈ zs) && !(a == b))) && (hgt _ && (amt r && isSill _ s))) = true
  rw [hn, decide_eq_true ha, decide_eq_true hb, key.1, hr, ks, beq_eq_false_iff_ne.mpr hab]
  rfl
theorem raised_good {zs : List Str} {ds ws : List Dv} (gd : GoodD zs ds) (g : GoodW ds ws) : GoodD zs (raisedD ds ws) where
  l1 := by unfold raisedD; rw [List.length_map]; exact gd.l1
  l2 := by unfold raisedD; rw [List.length_map]; exact gd.l2
  all := fun d m => by
    obtain ⟨e, me, rfl⟩ := List.mem_map.mp m
    exact newD_ok gd g me
  nd := by rw [raised_nm]; exact gd.nd
end Mt04

namespace Mt13
open PySem L2 PySem.NumText
def dig (c : Nat) : Bool := decide (48 ≤ c) && decide (c ≤ 57)
def neg (z : Str) : Bool := z.cps.toList.head? == some 45
def figs (z : Str) : List Nat := if neg z then z.cps.toList.tail else z.cps.toList
def dueN (z : Str) : Option Int :=
  if (figs z).length < 1 then none else if 7 < (figs z).length then none
  else if ((figs z).head? == some 48) = true ∧ ¬ z = "0" then none
  else if (figs z).all dig then some (if neg z then -((digitsVal (figs z) : Nat) : Int) else ((digitsVal (figs z) : Nat) : Int)) else none
def dueV : V → V
  | .str z => match dueN z with | some n => .int n | none => .non
  | _ => .non
theorem dec_strs (a b : Str) : decide (V.str a = V.str b) = decide (a = b) := by
  by_cases h : a = b
  · rw [decide_eq_true h, decide_eq_true (by rw [h])]
  · rw [decide_eq_false h, decide_eq_false (fun q => h (V.str.inj q))]
theorem tail_codes (z : Str) : (Txt.slice z (some 1) none).cps.toList = z.cps.toList.tail := by
  rw [Tx.slice_codes, show (some (1 : Int)) = some ((1 : Nat) : Int) from rfl, Tx.cl_nat]
  show (z.cps.toList.drop (min 1 z.length)).take (z.length - min 1 z.length) = _
  have hl : z.length = z.cps.toList.length := by simp [Str.length]
  rw [hl]
  cases z.cps.toList with
  | nil => rfl
  | cons a r =>
    have e : min 1 (a :: r).length = 1 := by simp
    rw [e]
    show r.take ((a :: r).length - 1) = r
    simp
theorem starts_one (x : Str) (c : Nat) : (decide (0 + (⟨#[c]⟩ : Str).length ≤ x.length) && Builtin.Str.subAt x ⟨#[c]⟩ 0) = (x.cps.toList.head? == some c) := by
  have h := PySem.StrLaws.subAt_one x c 0
  rw [← List.head?_eq_getElem?] at h
  by_cases hh : x.cps.toList.head? = some c
  · obtain ⟨h1, h2⟩ := h.mpr hh
    rw [decide_eq_true h1, h2, hh]
    simp
  · have e : (x.cps.toList.head? == some c) = false := by simpa using hh
    rw [e]
    cases h3 : (decide (0 + (⟨#[c]⟩ : Str).length ≤ x.length) && Builtin.Str.subAt x ⟨#[c]⟩ 0) with
    | false => rfl
    | true =>
      obtain ⟨a, b⟩ := Bool.and_eq_true_iff.mp h3
      exact absurd (h.mp ⟨of_decide_eq_true a, b⟩) hh
theorem dash_is : ("-" : Str) = ⟨#[45]⟩ := by decide +kernel
theorem zero_is : ("0" : Str) = ⟨#[48]⟩ := by decide +kernel
theorem digits_list : ("0123456789" : Str).cps.toList = [48, 49, 50, 51, 52, 53, 54, 55, 56, 57] := by decide +kernel
theorem in_digits (c : Nat) : (!(Builtin.Str.occurrences ("0123456789" : Str) ⟨#[c]⟩ 0 ("0123456789" : Str).length 1).isEmpty) = dig c := by
  rw [PySem.StrLaws.found_one, digits_list]
  have h1 : ∀ d, d ∈ ([48, 49, 50, 51, 52, 53, 54, 55, 56, 57] : List Nat) → 48 ≤ d ∧ d ≤ 57 := by decide
  have h2 : ∀ k, k < 10 → (48 + k) ∈ ([48, 49, 50, 51, 52, 53, 54, 55, 56, 57] : List Nat) := by decide
  unfold dig
  by_cases h : 48 ≤ c ∧ c ≤ 57
  · have e : c ∈ ([48, 49, 50, 51, 52, 53, 54, 55, 56, 57] : List Nat) := by
      have := h2 (c - 48) (by omega)
      rwa [show 48 + (c - 48) = c by omega] at this
    rw [decide_eq_true e, decide_eq_true h.1, decide_eq_true h.2]
    rfl
  · have e : ¬ c ∈ ([48, 49, 50, 51, 52, 53, 54, 55, 56, 57] : List Nat) := fun m => h (h1 c m)
    rw [decide_eq_false e]
    by_cases h' : 48 ≤ c
    · rw [decide_eq_true h', decide_eq_false (fun z => h ⟨h', z⟩)]
      rfl
    · rw [decide_eq_false h']
      rfl
theorem dig_iff {c : Nat} : dig c = true ↔ 48 ≤ c ∧ c ≤ 57 := by
  unfold dig
  rw [Bool.and_eq_true_iff, decide_eq_true_iff, decide_eq_true_iff]
theorem all_digits {cs : List Nat} (h : cs.all dig = true) : AllDigits cs := fun c hc => dig_iff.mp (List.all_eq_true.mp h c hc)
theorem whole_text {z : Str} (h1 : figs z ≠ []) (h2 : z.length ≤ 100) (h3 : (figs z).all dig = true) : intText? z = some (if neg z then -((digitsVal (figs z) : Nat) : Int) else ((digitsVal (figs z) : Nat) : Int)) := by
  by_cases hn : neg z = true
  · rw [if_pos hn]
    have hf : figs z = z.cps.toList.tail := by unfold figs; rw [if_pos hn]
    have hz : z.cps.toList = 45 :: figs z := by
      rw [hf]
      unfold neg at hn
      cases e : z.cps.toList with
      | nil => rw [e] at hn; cases hn
      | cons a r =>
        rw [e] at hn
        have : a = 45 := by simpa using hn
        rw [this]
        rfl
    exact intText_neg hz (all_digits h3) h1 (by omega)
  · rw [if_neg hn]
    have hf : figs z = z.cps.toList := by unfold figs; rw [if_neg hn]
    have := intText_digits (x := z) (by rw [← hf]; exact all_digits h3) (by rw [← hf]; exact h1) (by omega)
    rw [this, hf]
theorem val_snoc (cs : List Nat) (c : Nat) : digitsVal (cs ++ [c]) = digitsVal cs * 10 + (c - 48) := by
  unfold digitsVal
  rw [List.foldl_append]
  rfl
theorem size_len {z sz : Str} (h : sz.cps.toList = figs z) : sz.length = (figs z).length := by
  rw [← h]
  simp [Str.length]
theorem figs_le (z : Str) : (figs z).length ≤ z.length := by
  have hl : z.length = z.cps.toList.length := by simp [Str.length]
  unfold figs
  split
  · rw [hl, List.length_tail]; omega
  · omega
end Mt13

namespace Mt11
open PySem L2
def cj (c : Nat) : List (List Nat) → List Nat
  | [] => []
  | [x] => x
  | x :: y :: r => x ++ c :: cj c (y :: r)
theorem cut_inj {c : Nat} : ∀ {x y t t' : List Nat}, c ∉ x → c ∉ y → x ++ c :: t = y ++ c :: t' → x = y ∧ t = t'
  | [], [], _, _, _, _, e => ⟨rfl, (List.cons.inj e).2⟩
  | [], b :: y, _, _, _, h2, e => absurd (by rw [(List.cons.inj e).1]; exact List.mem_cons_self) h2
  | a :: x, [], _, _, h1, _, e => absurd (by rw [← (List.cons.inj e).1]; exact List.mem_cons_self) h1
  | a :: x, b :: y, _, _, h1, h2, e => by
    obtain ⟨e1, e2⟩ := List.cons.inj e
    obtain ⟨r1, r2⟩ := cut_inj (fun m => h1 (List.mem_cons_of_mem _ m)) (fun m => h2 (List.mem_cons_of_mem _ m)) e2
    exact ⟨by rw [e1, r1], r2⟩
theorem cj_inj {c : Nat} : ∀ {xs ys : List (List Nat)}, xs ≠ [] → ys ≠ [] → (∀ x ∈ xs, c ∉ x) → (∀ y ∈ ys, c ∉ y) → cj c xs = cj c ys → xs = ys
  | [], _, h, _, _, _, _ => absurd rfl h
  | _, [], _, h, _, _, _ => absurd rfl h
  | [x], [y], _, _, _, _, e => by rw [show x = y from e]
  | [x], y :: z :: r, _, _, h1, _, e => by
    have e' : x = y ++ c :: cj c (z :: r) := e
    exact absurd (by rw [e']; exact List.mem_append_right _ List.mem_cons_self) (h1 x List.mem_cons_self)
  | x :: z :: r, [y], _, _, _, h2, e => by
    have e' : x ++ c :: cj c (z :: r) = y := e
    exact absurd (by rw [← e']; exact List.mem_append_right _ List.mem_cons_self) (h2 y List.mem_cons_self)
  | x :: a :: r, y :: b :: t, _, _, h1, h2, e => by
    have e' : x ++ c :: cj c (a :: r) = y ++ c :: cj c (b :: t) := e
    obtain ⟨e1, e2⟩ := cut_inj (h1 x List.mem_cons_self) (h2 y List.mem_cons_self) e'
    rw [e1, cj_inj (xs := a :: r) (ys := b :: t) (by simp) (by simp) (fun u m => h1 u (List.mem_cons_of_mem _ m)) (fun u m => h2 u (List.mem_cons_of_mem _ m)) e2]
theorem join_cj (c : Nat) : ∀ ps : List Str, (Str.join ⟨#[c]⟩ ps).cps.toList = cj c (ps.map fun p => p.cps.toList)
  | [] => rfl
  | [p] => rfl
  | p :: q :: r => by
    show (p ++ (⟨#[c]⟩ : Str) ++ Str.join ⟨#[c]⟩ (q :: r)).cps.toList = p.cps.toList ++ c :: cj c ((q :: r).map fun p => p.cps.toList)
    rw [Tx.app_codes, Tx.app_codes, join_cj c (q :: r), List.append_assoc]
    rfl
theorem split_ne {x y : Str} : Txt.split x y ≠ [] := by
  unfold Txt.split
  split
  · simp
  · split
    · simp
    · rw [StrLaws.partsBetween_eq]
      intro h
      have : ∀ (k : Nat) (cs : List Nat), StrLaws.partsFrom x y.length k cs ≠ [] := fun k cs => by
        cases cs with
        | nil => simp [StrLaws.partsFrom]
        | cons a b => simp [StrLaws.partsFrom]
      exact this _ _ h
theorem split_join {c : Nat} {ps : List Str} (hne : ps ≠ []) (free : ∀ p ∈ ps, c ∉ p.cps.toList) : Txt.split (Str.join ⟨#[c]⟩ ps) ⟨#[c]⟩ = ps := by
  have h1 := StrLaws.join_split (Str.join ⟨#[c]⟩ ps) ⟨#[c]⟩
  have h2 := congrArg (fun z : Str => z.cps.toList) h1
  simp only [join_cj] at h2
  have h3 := cj_inj (by simpa using split_ne) (by simpa using hne) (fun x m => by
    obtain ⟨p, mp, rfl⟩ := List.mem_map.mp m
    exact StrLaws.split_free _ c p mp) (fun x m => by
    obtain ⟨p, mp, rfl⟩ := List.mem_map.mp m
    exact free p mp) h2
  have inj : ∀ {as bs : List Str}, (as.map fun p => p.cps.toList) = (bs.map fun p => p.cps.toList) → as = bs := fun {as} => by
    induction as with
    | nil => intro bs h; cases bs with
      | nil => rfl
      | cons b t => cases h
    | cons a r ih =>
      intro bs h
      cases bs with
      | nil => cases h
      | cons b t =>
        obtain ⟨e1, e2⟩ := List.cons.inj h
        rw [Mt02.str_ext e1, ih e2]
  exact inj h3
end Mt11

namespace Mt11
open PySem PySem.NumText L2 Mt13
def dg (n : Nat) : List Nat := (Nat.toDigits 10 n).map Char.toNat
theorem dg_lt {n : Nat} (h : n < 10) : dg n = [48 + n] := by
  unfold dg
  rw [Nat.toDigits_of_lt_base h]
  have : ∀ d : Nat, d < 10 → [Nat.digitChar d].map Char.toNat = [48 + d] := by decide
  exact this n h
theorem dg_ge {n : Nat} (h : 10 ≤ n) : dg n = dg (n / 10) ++ [48 + n % 10] := by
  have e : 10 * (n / 10) + n % 10 = n := Nat.div_add_mod n 10
  have := Nat.toDigits_append_toDigits (b := 10) (n := n / 10) (d := n % 10) (by decide) (by omega) (Nat.mod_lt _ (by decide))
  rw [e] at this
  rw [← dg_lt (Nat.mod_lt n (by decide : 0 < 10))]
  unfold dg
  rw [← this, List.map_append]
theorem dg_all (n : Nat) : ∀ c ∈ dg n, 48 ≤ c ∧ c ≤ 57 := by
  induction n using Nat.strongRecOn with
  | ind n ih =>
    intro c mc
    by_cases h : n < 10
    · rw [dg_lt h, List.mem_singleton] at mc
      omega
    · rw [dg_ge (by omega)] at mc
      rcases List.mem_append.mp mc with m | m
      · exact ih (n / 10) (by omega) c m
      · rw [List.mem_singleton] at m
        have := Nat.mod_lt n (by decide : 0 < 10)
        omega
theorem dg_val (n : Nat) : digitsVal (dg n) = n := by
  induction n using Nat.strongRecOn with
  | ind n ih =>
    by_cases h : n < 10
    · rw [dg_lt h]
      show 0 * 10 + (48 + n - 48) = n
      omega
    · rw [dg_ge (by omega), val_snoc, ih (n / 10) (by omega)]
      omega
theorem dg_len : ∀ (k n : Nat), n < 10 ^ (k + 1) → 1 ≤ (dg n).length ∧ (dg n).length ≤ k + 1
  | 0, n, h => by
    rw [dg_lt (by simpa using h)]
    exact ⟨Nat.le_refl _, Nat.le_refl _⟩
  | k + 1, n, h => by
    by_cases h10 : n < 10
    · rw [dg_lt h10]
      exact ⟨Nat.le_refl _, by show 1 ≤ _; omega⟩
    · have := dg_len k (n / 10) (by rw [Nat.pow_succ] at h; exact Nat.div_lt_of_lt_mul (by rw [Nat.mul_comm]; exact h))
      rw [dg_ge (by omega), List.length_append]
      exact ⟨by show 1 ≤ _ + 1; omega, by show _ + 1 ≤ _; omega⟩
theorem dg_head (n : Nat) (h : 0 < n) : (dg n).head? ≠ some 48 := by
  induction n using Nat.strongRecOn with
  | ind n ih =>
    by_cases h10 : n < 10
    · rw [dg_lt h10]
      intro e
      have : 48 + n = 48 := Option.some.inj e
      omega
    · have hne : dg (n / 10) ≠ [] := fun e => by
        have := dg_val (n / 10)
        rw [e] at this
        have : 0 = n / 10 := this
        omega
      rw [dg_ge (by omega)]
      have := ih (n / 10) (by omega) (by omega)
      cases hd : dg (n / 10) with
      | nil => exact absurd hd hne
      | cons a b => rw [hd] at this; exact this
theorem int_codes (i : Int) : (Str.ofString (toString i)).cps.toList = if i < 0 then 45 :: dg i.natAbs else dg i.natAbs := by
  rw [Str.ofString_eq_toList]
  show (((toString i).toList.map Char.toNat).toArray).toList = _
  rw [List.toList_toArray]
  cases i with
  | ofNat n =>
    rw [if_neg (by simp)]
    show (Nat.repr n).toList.map Char.toNat = dg n
    unfold dg Nat.repr
    rw [String.toList_ofList]
  | negSucc n =>
    rw [if_pos (Int.negSucc_lt_zero n)]
    show ("-" ++ Nat.repr (n + 1)).toList.map Char.toNat = 45 :: dg (n + 1)
    rw [String.toList_append, List.map_append]
    unfold dg Nat.repr
    simp only [String.toList_ofList]
    rfl
theorem int_signs (i : Int) : ∀ c ∈ (Str.ofString (toString i)).cps.toList, c = 45 ∨ (48 ≤ c ∧ c ≤ 57) := by
  intro c mc
  rw [int_codes] at mc
  split at mc
  · rcases List.mem_cons.mp mc with rfl | m
    · exact .inl rfl
    · exact .inr (dg_all _ c m)
  · exact .inr (dg_all _ c mc)
theorem neg_int (i : Int) : neg (Str.ofString (toString i)) = decide (i < 0) := by
  unfold neg
  rw [int_codes]
  by_cases h : i < 0
  · rw [if_pos h, decide_eq_true h]
    rfl
  · rw [if_neg h, decide_eq_false h]
    cases hd : dg i.natAbs with
    | nil => rfl
    | cons a b =>
      have := dg_all i.natAbs a (by rw [hd]; exact List.mem_cons_self)
      show (some a == some 45) = false
      have ne : a ≠ 45 := by omega
      simp [ne]
theorem figs_int (i : Int) : figs (Str.ofString (toString i)) = dg i.natAbs := by
  unfold figs
  rw [neg_int, int_codes]
  by_cases h : i < 0
  · rw [decide_eq_true h, if_pos rfl, if_pos h]
    rfl
  · rw [decide_eq_false h, if_neg (by simp), if_neg h]
theorem due_int {i : Int} (h : i.natAbs < 10000000) : dueN (Str.ofString (toString i)) = some i := by
  obtain ⟨l1, l2⟩ := dg_len 6 i.natAbs h
  have all : (dg i.natAbs).all dig = true := List.all_eq_true.mpr fun c mc => by
    have := dg_all _ c mc
    exact dig_iff.mpr this
  unfold dueN
  rw [figs_int, neg_int, if_neg (by omega), if_neg (by omega), if_pos all, dg_val]
  have z : ¬ (((dg i.natAbs).head? == some 48) = true ∧ ¬ Str.ofString (toString i) = "0") := fun ⟨a, b⟩ => by
    by_cases h0 : i = 0
    · rw [h0] at b
      exact b rfl
    · exact dg_head i.natAbs (by omega) (by simpa using a)
  rw [if_neg z]
  by_cases hn : i < 0
  · rw [decide_eq_true hn, if_pos rfl]
    congr 1
    omega
  · rw [decide_eq_false hn, if_neg (by simp)]
    congr 1
    omega
end Mt11

namespace K11
open PySem L2
def top (i : Nat) : Stmt := PySem.Challenge.pw_dykemoot_k11_lands_written_and_read.main.body.getD i (.Pass ⟨0, 0, 0, 0⟩)
abbrev s_p_wall : Stmt := top 0
abbrev s_p_is_whole : Stmt := top 14
theorem sc_p_is_whole : FnScope ["thing"] ["thing"] (defScope s_p_is_whole) := ⟨rfl, rfl, rfl, by decide +kernel, rfl, by decide +kernel, by decide +kernel⟩
abbrev s_p_is_name : Stmt := top 15
theorem sc_p_is_name : FnScope ["thing"] ["thing"] (defScope s_p_is_name) := ⟨rfl, rfl, rfl, by decide +kernel, rfl, by decide +kernel, by decide +kernel⟩
abbrev s_p_is_height : Stmt := top 16
theorem sc_p_is_height : FnScope ["thing"] ["thing"] (defScope s_p_is_height) := ⟨rfl, rfl, rfl, by decide +kernel, rfl, by decide +kernel, by decide +kernel⟩
abbrev s_p_is_amount : Stmt := top 17
theorem sc_p_is_amount : FnScope ["thing"] ["thing"] (defScope s_p_is_amount) := ⟨rfl, rfl, rfl, by decide +kernel, rfl, by decide +kernel, by decide +kernel⟩
abbrev s_p_is_one_of : Stmt := top 18
theorem sc_p_is_one_of : FnScope ["thing", "names"] ["thing", "names"] (defScope s_p_is_one_of) := ⟨rfl, rfl, rfl, by decide +kernel, rfl, by decide +kernel, by decide +kernel⟩
abbrev s_p_is_list_of : Stmt := top 19
theorem sc_p_is_list_of : FnScope ["thing", "most"] ["thing", "most"] (defScope s_p_is_list_of) := ⟨rfl, rfl, rfl, by decide +kernel, rfl, by decide +kernel, by decide +kernel⟩
abbrev s_p_is_tuple_of : Stmt := top 20
theorem sc_p_is_tuple_of : FnScope ["thing", "length"] ["thing", "length"] (defScope s_p_is_tuple_of) := ⟨rfl, rfl, rfl, by decide +kernel, rfl, by decide +kernel, by decide +kernel⟩
abbrev s_p_none_twice : Stmt := top 21
theorem sc_p_none_twice : FnScope ["rows"] ["rows"] (defScope s_p_none_twice) := ⟨rfl, rfl, rfl, by decide +kernel, rfl, by decide +kernel, by decide +kernel⟩
abbrev s_p_is_field : Stmt := top 22
theorem sc_p_is_field : FnScope ["thing"] ["thing"] (defScope s_p_is_field) := ⟨rfl, rfl, rfl, by decide +kernel, rfl, by decide +kernel, by decide +kernel⟩
abbrev s_p_are_fields : Stmt := top 23
theorem sc_p_are_fields : FnScope ["thing"] ["thing"] (defScope s_p_are_fields) := ⟨rfl, rfl, rfl, by decide +kernel, rfl, by decide +kernel, by decide +kernel⟩
abbrev s_p_are_sides : Stmt := top 24
theorem sc_p_are_sides : FnScope ["one", "other", "sides"] ["one", "other", "sides"] (defScope s_p_are_sides) := ⟨rfl, rfl, rfl, by decide +kernel, rfl, by decide +kernel, by decide +kernel⟩
abbrev s_p_is_sill : Stmt := top 25
theorem sc_p_is_sill : FnScope ["thing", "crown"] ["thing", "crown"] (defScope s_p_is_sill) := ⟨rfl, rfl, rfl, by decide +kernel, rfl, by decide +kernel, by decide +kernel⟩
abbrev s_p_is_dyke : Stmt := top 26
theorem sc_p_is_dyke : FnScope ["thing", "sides"] ["thing", "sides"] (defScope s_p_is_dyke) := ⟨rfl, rfl, rfl, by decide +kernel, rfl, by decide +kernel, by decide +kernel⟩
abbrev s_p_are_dykes : Stmt := top 27
theorem sc_p_are_dykes : FnScope ["thing", "sides"] ["thing", "sides"] (defScope s_p_are_dykes) := ⟨rfl, rfl, rfl, by decide +kernel, rfl, by decide +kernel, by decide +kernel⟩
abbrev s_p_is_work : Stmt := top 28
theorem sc_p_is_work : FnScope ["land", "thing"] ["land", "thing"] (defScope s_p_is_work) := ⟨rfl, rfl, rfl, by decide +kernel, rfl, by decide +kernel, by decide +kernel⟩
abbrev s_p_are_works : Stmt := top 29
theorem sc_p_are_works : FnScope ["land", "thing"] ["land", "thing"] (defScope s_p_are_works) := ⟨rfl, rfl, rfl, by decide +kernel, rfl, by decide +kernel, by decide +kernel⟩
abbrev s_p_with_crown : Stmt := top 30
theorem sc_p_with_crown : FnScope ["dyke", "crown"] ["dyke", "crown"] (defScope s_p_with_crown) := ⟨rfl, rfl, rfl, by decide +kernel, rfl, by decide +kernel, by decide +kernel⟩
abbrev s_land_pinit : Stmt := inClass (top 31) 0
theorem sc_land_pinit : FnScope ["self", "fields", "dykes"] ["self", "fields", "dykes"] (defScope s_land_pinit) := ⟨rfl, rfl, rfl, by decide +kernel, rfl, by decide +kernel, by decide +kernel⟩
abbrev s_land_p_fields : Stmt := inClass (top 31) 1
theorem sc_land_p_fields : FnScope ["self"] ["self"] (defScope s_land_p_fields) := ⟨rfl, rfl, rfl, by decide +kernel, rfl, by decide +kernel, by decide +kernel⟩
abbrev s_land_p_dykes : Stmt := inClass (top 31) 2
theorem sc_land_p_dykes : FnScope ["self"] ["self"] (defScope s_land_p_dykes) := ⟨rfl, rfl, rfl, by decide +kernel, rfl, by decide +kernel, by decide +kernel⟩
abbrev s_land_p_field_names : Stmt := inClass (top 31) 3
abbrev s_land_p_dyke_names : Stmt := inClass (top 31) 4
theorem sc_land_p_dyke_names : FnScope ["self"] ["self"] (defScope s_land_p_dyke_names) := ⟨rfl, rfl, rfl, by decide +kernel, rfl, by decide +kernel, by decide +kernel⟩
abbrev s_land_p_sluices : Stmt := inClass (top 31) 5
abbrev s_land_p_ground : Stmt := inClass (top 31) 6
abbrev s_land_p_dues : Stmt := inClass (top 31) 7
abbrev s_land_p_dyke : Stmt := inClass (top 31) 8
theorem sc_land_p_dyke : FnScope ["self", "name"] ["self", "name"] (defScope s_land_p_dyke) := ⟨rfl, rfl, rfl, by decide +kernel, rfl, by decide +kernel, by decide +kernel⟩
abbrev s_land_p_raised : Stmt := inClass (top 31) 9
theorem sc_land_p_raised : FnScope ["self", "works", "crowns", "dykes"] ["self", "works"] (defScope s_land_p_raised) := ⟨rfl, rfl, rfl, by decide +kernel, rfl, by decide +kernel, by decide +kernel⟩
abbrev s_p_number_within : Stmt := top 35
theorem sc_p_number_within : FnScope ["word", "most", "figures"] ["word", "most"] (defScope s_p_number_within) := ⟨rfl, rfl, rfl, by decide +kernel, rfl, by decide +kernel, by decide +kernel⟩
abbrev s_p_number_of : Stmt := top 36
theorem sc_p_number_of : FnScope ["word"] ["word"] (defScope s_p_number_of) := ⟨rfl, rfl, rfl, by decide +kernel, rfl, by decide +kernel, by decide +kernel⟩
abbrev s_p_field_row : Stmt := top 37
theorem sc_p_field_row : FnScope ["field"] ["field"] (defScope s_p_field_row) := ⟨rfl, rfl, rfl, by decide +kernel, rfl, by decide +kernel, by decide +kernel⟩
abbrev s_p_dyke_row : Stmt := top 38
theorem sc_p_dyke_row : FnScope ["dyke", "numbers"] ["dyke"] (defScope s_p_dyke_row) := ⟨rfl, rfl, rfl, by decide +kernel, rfl, by decide +kernel, by decide +kernel⟩
abbrev s_p_show_land : Stmt := top 39
theorem sc_p_show_land : FnScope ["land", "rows"] ["land"] (defScope s_p_show_land) := ⟨rfl, rfl, rfl, by decide +kernel, rfl, by decide +kernel, by decide +kernel⟩
abbrev s_p_field_in : Stmt := top 40
theorem sc_p_field_in : FnScope ["words"] ["words"] (defScope s_p_field_in) := ⟨rfl, rfl, rfl, by decide +kernel, rfl, by decide +kernel, by decide +kernel⟩
abbrev s_p_dyke_in : Stmt := top 41
theorem sc_p_dyke_in : FnScope ["words", "parts"] ["words"] (defScope s_p_dyke_in) := ⟨rfl, rfl, rfl, by decide +kernel, rfl, by decide +kernel, by decide +kernel⟩
abbrev s_p_land_in : Stmt := top 42
theorem sc_p_land_in : FnScope ["text", "rows", "fields", "dykes"] ["text"] (defScope s_p_land_in) := ⟨rfl, rfl, rfl, by decide +kernel, rfl, by decide +kernel, by decide +kernel⟩
abbrev s_p_read_land : Stmt := top 43
theorem sc_p_read_land : FnScope ["text", "land"] ["text"] (defScope s_p_read_land) := ⟨rfl, rfl, rfl, by decide +kernel, rfl, by decide +kernel, by decide +kernel⟩
abbrev s_l_cell_at : Stmt := top 45
theorem sc_l_cell_at : FnScope ["_law_script", "_law_k"] ["_law_script", "_law_k"] (defScope s_l_cell_at) := ⟨rfl, rfl, rfl, by decide +kernel, rfl, by decide +kernel, by decide +kernel⟩
abbrev s_l_mixed : Stmt := top 46
theorem sc_l_mixed : FnScope ["_law_cell", "_law_k", "_law_number", "_law_j"] ["_law_cell", "_law_k"] (defScope s_l_mixed) := ⟨rfl, rfl, rfl, by decide +kernel, rfl, by decide +kernel, by decide +kernel⟩
abbrev s_l_name : Stmt := top 47
theorem sc_l_name : FnScope ["_law_cell", "_law_k", "_law_letters", "_law_word"] ["_law_cell", "_law_k"] (defScope s_l_name) := ⟨rfl, rfl, rfl, by decide +kernel, rfl, by decide +kernel, by decide +kernel⟩
abbrev s_l_height : Stmt := top 48
theorem sc_l_height : FnScope ["_law_number"] ["_law_number"] (defScope s_l_height) := ⟨rfl, rfl, rfl, by decide +kernel, rfl, by decide +kernel, by decide +kernel⟩
abbrev s_l_count : Stmt := top 49
theorem sc_l_count : FnScope ["_law_number"] ["_law_number"] (defScope s_l_count) := ⟨rfl, rfl, rfl, by decide +kernel, rfl, by decide +kernel, by decide +kernel⟩
abbrev s_l_fields : Stmt := top 50
theorem sc_l_fields : FnScope ["_law_script", "_law_cell", "_law_found", "_law_k", "_law_number"] ["_law_script"] (defScope s_l_fields) := ⟨rfl, rfl, rfl, by decide +kernel, rfl, by decide +kernel, by decide +kernel⟩
abbrev s_l_dyke : Stmt := top 51
theorem sc_l_dyke : FnScope ["_law_script", "_law_k", "_law_sides", "_law_number", "_law_more", "_law_one", "_law_other", "_law_crown", "_law_sill"] ["_law_script", "_law_k", "_law_sides"] (defScope s_l_dyke) := ⟨rfl, rfl, rfl, by decide +kernel, rfl, by decide +kernel, by decide +kernel⟩
abbrev s_l_dykes : Stmt := top 52
theorem sc_l_dykes : FnScope ["_law_script", "_law_fields_here", "_law_most", "_law_sides", "_law_many"] ["_law_script", "_law_fields_here", "_law_most"] (defScope s_l_dykes) := ⟨rfl, rfl, rfl, by decide +kernel, rfl, by decide +kernel, by decide +kernel⟩
abbrev s_l_text : Stmt := top 53
theorem sc_l_text : FnScope ["_law_fields_here", "_law_dykes_here", "_law_lines", "_law_name_here", "_law_ground", "_law_dues", "_law_one", "_law_other", "_law_crown", "_law_rate", "_law_sill", "_law_line"] ["_law_fields_here", "_law_dykes_here"] (defScope s_l_text) := ⟨rfl, rfl, rfl, by decide +kernel, rfl, by decide +kernel, by decide +kernel⟩
abbrev s_l_alike : Stmt := top 54
theorem sc_l_alike : FnScope ["_law_found", "_law_due", "_law_k", "_law_part"] ["_law_found", "_law_due"] (defScope s_l_alike) := ⟨rfl, rfl, rfl, by decide +kernel, rfl, by decide +kernel, by decide +kernel⟩
abbrev s_l_stands : Stmt := top 55
theorem sc_l_stands : FnScope ["_law_fields_here", "_law_dykes_here", "_law_due", "_law_found", "_law_land", "_law_name_here", "_law_one", "_law_other", "_law_crown", "_law_rate", "_law_sill", "_law_high", "_law_again"] ["_law_fields_here", "_law_dykes_here"] (defScope s_l_stands) := ⟨rfl, rfl, rfl, by decide +kernel, rfl, by decide +kernel, by decide +kernel⟩
abbrev s_p_law : Stmt := top 56
theorem sc_p_law : FnScope ["_law_script", "_law_fields_here", "_law_dykes_here", "_law_edge", "_law_plots", "_law_fences"] ["_law_script"] (defScope s_p_law) := ⟨rfl, rfl, rfl, by decide +kernel, rfl, by decide +kernel, by decide +kernel⟩
structure Txt (K : PySem.W.Frag) (mg : Str → Option Value) (C : Addr) : Prop where
  cl_Land : Cls K C
  mg_Land : mg "Land" = some (.ref C)
  a_field_rows : NoAttr K C "field_rows"
  a_dyke_rows : NoAttr K C "dyke_rows"
  ci_Land : InstC K C
  i_Land : InitAt K C "Land.__init__" s_land_pinit ["self", "fields", "dykes"]
  m_land_p_fields : MethAt K C "fields" "Land.fields" s_land_p_fields ["self"]
  m_land_p_dykes : MethAt K C "dykes" "Land.dykes" s_land_p_dykes ["self"]
  m_land_p_field_names : MethAt K C "field_names" "Land.field_names" s_land_p_field_names ["self"]
  m_land_p_dyke_names : MethAt K C "dyke_names" "Land.dyke_names" s_land_p_dyke_names ["self"]
  m_land_p_sluices : MethAt K C "sluices" "Land.sluices" s_land_p_sluices ["self"]
  m_land_p_ground : MethAt K C "ground" "Land.ground" s_land_p_ground ["self", "field"]
  m_land_p_dues : MethAt K C "dues" "Land.dues" s_land_p_dues ["self", "field"]
  m_land_p_dyke : MethAt K C "dyke" "Land.dyke" s_land_p_dyke ["self", "name"]
  m_land_p_raised : MethAt K C "raised" "Land.raised" s_land_p_raised ["self", "works"]
  xs : ∃ c_NoLand : Addr, (ExA K c_NoLand) ∧ mg "NoLand" = some (.ref c_NoLand)
  d_p_wall : DefAt K mg "_wall" s_p_wall ["k"]
  d_p_is_whole : DefAt K mg "is_whole" s_p_is_whole ["thing"]
  d_p_is_name : DefAt K mg "is_name" s_p_is_name ["thing"]
  d_p_is_height : DefAt K mg "is_height" s_p_is_height ["thing"]
  d_p_is_amount : DefAt K mg "is_amount" s_p_is_amount ["thing"]
  d_p_is_one_of : DefAt K mg "is_one_of" s_p_is_one_of ["thing", "names"]
  d_p_is_list_of : DefAt K mg "is_list_of" s_p_is_list_of ["thing", "most"]
  d_p_is_tuple_of : DefAt K mg "is_tuple_of" s_p_is_tuple_of ["thing", "length"]
  d_p_none_twice : DefAt K mg "none_twice" s_p_none_twice ["rows"]
  d_p_is_field : DefAt K mg "is_field" s_p_is_field ["thing"]
  d_p_are_fields : DefAt K mg "are_fields" s_p_are_fields ["thing"]
  d_p_are_sides : DefAt K mg "are_sides" s_p_are_sides ["one", "other", "sides"]
  d_p_is_sill : DefAt K mg "is_sill" s_p_is_sill ["thing", "crown"]
  d_p_is_dyke : DefAt K mg "is_dyke" s_p_is_dyke ["thing", "sides"]
  d_p_are_dykes : DefAt K mg "are_dykes" s_p_are_dykes ["thing", "sides"]
  d_p_is_work : DefAt K mg "is_work" s_p_is_work ["land", "thing"]
  d_p_are_works : DefAt K mg "are_works" s_p_are_works ["land", "thing"]
  d_p_with_crown : DefAt K mg "with_crown" s_p_with_crown ["dyke", "crown"]
  d_p_number_within : DefAt K mg "number_within" s_p_number_within ["word", "most"]
  d_p_number_of : DefAt K mg "number_of" s_p_number_of ["word"]
  d_p_field_row : DefAt K mg "field_row" s_p_field_row ["field"]
  d_p_dyke_row : DefAt K mg "dyke_row" s_p_dyke_row ["dyke"]
  d_p_show_land : DefAt K mg "show_land" s_p_show_land ["land"]
  d_p_field_in : DefAt K mg "field_in" s_p_field_in ["words"]
  d_p_dyke_in : DefAt K mg "dyke_in" s_p_dyke_in ["words"]
  d_p_land_in : DefAt K mg "land_in" s_p_land_in ["text"]
  d_p_read_land : DefAt K mg "read_land" s_p_read_land ["text"]
  d_l_cell_at : DefAt K mg "_law_cell_at" s_l_cell_at ["_law_script", "_law_k"]
  d_l_mixed : DefAt K mg "_law_mixed" s_l_mixed ["_law_cell", "_law_k"]
  d_l_name : DefAt K mg "_law_name" s_l_name ["_law_cell", "_law_k"]
  d_l_height : DefAt K mg "_law_height" s_l_height ["_law_number"]
  d_l_count : DefAt K mg "_law_count" s_l_count ["_law_number"]
  d_l_fields : DefAt K mg "_law_fields" s_l_fields ["_law_script"]
  d_l_dyke : DefAt K mg "_law_dyke" s_l_dyke ["_law_script", "_law_k", "_law_sides"]
  d_l_dykes : DefAt K mg "_law_dykes" s_l_dykes ["_law_script", "_law_fields_here", "_law_most"]
  d_l_text : DefAt K mg "_law_text" s_l_text ["_law_fields_here", "_law_dykes_here"]
  d_l_alike : DefAt K mg "_law_alike" s_l_alike ["_law_found", "_law_due"]
  d_l_stands : DefAt K mg "_law_stands" s_l_stands ["_law_fields_here", "_law_dykes_here"]
  d_p_law : DefAt K mg "law" s_p_law ["_law_script"]
  g_SEA : GlobAt mg "SEA" (.str "sea")
  g_LETTERS : GlobAt mg "LETTERS" (.str "abcdefghijklmnopqrstuvwxyz")
  g_MOST_LETTERS : GlobAt mg "MOST_LETTERS" (.int 8)
  g_MOST_HEIGHT : GlobAt mg "MOST_HEIGHT" (.int 1000000)
  g_MOST_AMOUNT : GlobAt mg "MOST_AMOUNT" (.int 1000000)
  g_MOST_FIELDS : GlobAt mg "MOST_FIELDS" (.int 12)
  g_MOST_DYKES : GlobAt mg "MOST_DYKES" (.int 40)
  g_FIGURES : GlobAt mg "FIGURES" (.str "0123456789")
  g_MOST_FIGURES : GlobAt mg "MOST_FIGURES" (.int 7)
  n_all : mg "all" = none
  n_bool : mg "bool" = none
  n_dict : mg "dict" = none
  n_int : mg "int" = none
  n_isinstance : mg "isinstance" = none
  n_len : mg "len" = none
  n_list : mg "list" = none
  n_max : mg "max" = none
  n_min : mg "min" = none
  n_range : mg "range" = none
  n_set : mg "set" = none
  n_str : mg "str" = none
  n_tuple : mg "tuple" = none

section
variable {P : Program} {w : World} {K : PySem.W.Frag} {mg : Str → Option Value} {base : Heap} {C : Addr}
open Ld
theorem big1000 : (1000 : Nat) ≤ sizeLine := by decide
def spWhole : Sp := sp1 fun x H Q => ∃ d, Is H d x ∧ Q (.bl (isInt d)) H
theorem ok_p_is_whole (T : Txt K mg C) : Fc P w K mg base 1 "is_whole" ["thing"] spWhole := by
  refine T.d_p_is_whole.fc sc_p_is_whole len1 (fun f cdv A outer s H vs Q E hr h => ?_)
  obtain ⟨x, rfl, d, hd, q⟩ := h
  obtain ⟨t, ty, e1, e2, _⟩ := Is_kit K hd
  refine ⟨_, (@pss_one _ _ _ (@ps_ret _ _ _ _ (@pe_and _ _ _ _ _ _ _ (@pe_callB _ _ _ _ _ _ _ _ _ (@call_isinstB _ (K) rfl) rfl T.n_isinstance boot_isinstance (@pa_cons _ _ _ _ _ (pv 0) (@pa_cons _ _ _ _ _ (@pe_ty _ _ _ _ T.n_int boot_int' (by rfl) (by decide) (by decide)) pa_nil (by rfl)) (by rfl)) (by decide) (by decide) (by rfl) (by rfl)) (@pe_one _ _ _ _ _ (@pe_not _ _ _ _ (@pe_callB _ _ _ _ _ _ _ _ _ (@call_isinstB _ (K) rfl) rfl T.n_isinstance boot_isinstance (@pa_cons _ _ _ _ _ (pv 0) (@pa_cons _ _ _ _ _ (@pe_ty _ _ _ _ T.n_bool boot_bool' (by rfl) (by decide) (by decide)) pa_nil (by rfl)) (by rfl)) (by decide) (by decide) (by rfl) (by rfl))))))), ?_⟩
  refine ⟨_, rfl, _, _, _, t, _, rfl, rfl, ty, e1, _, rfl, ?_⟩
  refine ite2 (fun h => ?_) (fun h => ?_)
  · refine ⟨_, rfl, _, _, _, t, _, rfl, rfl, ty, e2, _, rfl, ?_⟩
    have e : (!isBl d) = isInt d := by cases d <;> simp_all [isInt, isBl]
    rw [e]
    exact q
  · have e : isInt d = false := by cases d <;> simp_all [isInt, isBl]
    rw [e] at q
    exact q

def spName : Sp := sp1 fun x H Q => ∃ d, Is H d x ∧ small d = true ∧ Q (.bl (isName d)) H
theorem ok_p_is_name (T : Txt K mg C) : Fc P w K mg base 1 "is_name" ["thing"] spName := by
  refine T.d_p_is_name.fcD sc_p_is_name len1 (fun f cdv A outer s H vs Q E hr h => ?_)
  obtain ⟨x, rfl, d, hd, hz, q⟩ := h
  obtain ⟨t, ty, e1, e2, e3, _⟩ := Is_kit K hd
  have big := big1000
  refine ⟨_, (@pss_cons _ _ _ _ _ (@ps_if _ _ _ _ _ _ _ _ (@PW.pt _ _ _ (@pw_or _ _ _ _ _ _ _ (@pt_not _ _ _ _ (@pt_val _ _ _ (@pe_callB _ _ _ _ _ _ _ _ _ (@call_isinstB _ (K) rfl) rfl T.n_isinstance boot_isinstance (@pa_cons _ _ _ _ _ (pv 0) (@pa_cons _ _ _ _ _ (@pe_ty _ _ _ _ T.n_str boot_str' (by rfl) (by decide) (by decide)) pa_nil (by rfl)) (by rfl)) (by decide) (by decide) (by rfl) (by rfl)) (by intro _; rfl))) (@pw_or1 _ _ _ _ (@pt_not _ _ _ _ (@pt_chain _ _ _ _ _ _ _ _ _ _ _ _ op_le op_le pe_int (@pe_callB _ _ _ _ _ _ _ _ _ call_len_str rfl T.n_len boot_len' (@pa_cons _ _ _ _ _ (pv 0) pa_nil (by rfl)) (by decide) (by decide) (by rfl) (by rfl)) (@pe_g _ _ _ _ T.g_MOST_LETTERS (by rfl) (by decide)) (by with_unfolding_all rfl)))))) (@pss_one _ _ _ (@ps_ret _ _ _ _ pe_bl)) pss_nil) (@pss_one _ _ _ (@ps_ret _ _ _ _ (@pe_and _ _ _ _ _ _ _ (@pe_cmpR _ _ _ _ _ _ _ _ op_ne (pv 0) (@pe_g _ _ _ _ T.g_SEA (by rfl) (by decide)) (@nomark _ _ (by decide) (by decide))) (@pe_one _ _ _ _ _ (@pe_callB _ _ _ _ _ _ _ _ _ (@call_all _ rfl) rfl T.n_all boot_all' (@pa_cons _ _ _ _ _ (@pe_comp _ _ _ _ _ _ _ _ _ _ _ ["sign"] 1 [] rfl (@pi_str _ _ _ _ (pv 0)) (fun R => @pg_name _ _ (0) _ (show List.Nodup (["sign"] : List Str) by decide +kernel) rfl (Or.inl rfl) (by first | exact .inl rfl | exact .inr rfl | assumption)) (@gkeep_name _ _ (by decide)) (fun R => pifs_nil) (fun R => (@pe_cmpR _ _ _ _ _ _ _ _ op_in_str (pv 0) (@pe_g _ _ _ _ T.g_LETTERS (by rfl) (by decide)) (by with_unfolding_all rfl))) (by rfl) (by rfl) (by rfl) (by rfl) (by rfl) (by rfl) (by rfl) (by intro _; rfl)) pa_nil (by rfl)) (by decide) (by decide) (by rfl) (by rfl))))))), ?_⟩
  refine ⟨_, rfl, _, _, _, t, _, rfl, rfl, ty, e3, _, rfl, ?_⟩
  cases d with
  | str z =>
    cases (show x = .str z from hd)
    have hz : z.length ≤ 1000 := of_decide_eq_true hz
    have q : Q (.bl (nameS z)) H := q
    have hzs : z.length ≤ sizeLine := by omega
    refine iteF ?_
    refine ⟨_, rfl, z, rfl, hzs, _, _, rfl, rfl, _, rfl, ?_⟩
    refine ite2 (fun h1 => ?_) (fun h1 => ?_)
    · refine ⟨_, _, rfl, rfl, _, rfl, ?_⟩
      have h1' : 1 ≤ z.length := by
        have := of_decide_eq_true h1
        omega
      refine ite2 (fun h2 => ?_) (fun h2 => ?_)
      · have e : nameS z = false := by
          have h2' : ¬ z.length ≤ 8 := by
            intro h3
            have : ((z.length : Nat) : Int) ≤ 8 := by omega
            simp [this] at h2
          simp [nameS, h2']
        rw [e] at q
        exact dropQ.of (.refl _) q
      · have h2' : z.length ≤ 8 := by
          have h3 : decide (((z.length : Nat) : Int) ≤ 8) = true := by
            cases h4 : decide (((z.length : Nat) : Int) ≤ 8) with
            | true => rfl
            | false => exact absurd (by rw [h4]; rfl) h2
          have := of_decide_eq_true h3
          omega
        refine ⟨_, rfl, rfl, _, rfl, ?_⟩
        refine ite2 (fun h3 => ?_) (fun h3 => ?_)
        · have h3' : ¬ z = "sea" := by
            intro h4
            subst h4
            simp at h3
          refine ⟨_, rfl, z, rfl, ?_⟩
          refine comp_str (Nat.le_trans hz (by decide)) (fun i ys H' => H' = H ∧ ys = (z.cps.toList.take i).map fun c => V.bl (letter c)) ⟨rfl, rfl⟩ ?_ ?_ ?_
          · rintro i ys H' ⟨_, rfl⟩
            rw [List.length_map, List.length_take]
            omega
          · rintro i c ys H' K1 K2 hc ⟨rfl, rfl⟩ k1 k2
            refine ⟨_, rfl, _, _, rfl, rfl, k1 _ _ ⟨rfl, ?_⟩⟩
            have hc' : z.cps.toList[i]? = some c := by simpa using hc
            rw [List.take_add_one, hc', in_letters]
            simp
          · rintro ys H' ⟨rfl, rfl⟩
            intro p hp'
            refine ⟨p, z.cps.toList.map letter, rfl, SqL.of ?_, ?_⟩
            · rw [upd_same, List.take_of_length_le (by simp), List.map_map]
              rfl
            · refine ⟨H', Drop.lst hp', ?_⟩
              have e : nameS z = (z.cps.toList.map letter).all id := by
                rw [List.all_map]
                simp [nameS, h1', h2', h3']
              rw [← e]
              exact q
        · have e : nameS z = false := by
            have h4 : z = "sea" := by
              apply Classical.byContradiction
              intro h5
              exact h3 (by simp [h5])
            subst h4
            simp [nameS]
          rw [e] at q
          exact dropQ.of (.refl _) q
    · have e : nameS z = false := by
        have h1' : ¬ 1 ≤ z.length := by
          intro h3
          exact h1 (decide_eq_true (by omega))
        simp [nameS, h1']
      rw [e] at q
      exact ⟨_, rfl, dropQ.of (.refl _) q⟩
  | non => exact dropQ.of (.refl _) q
  | bl b => exact dropQ.of (.refl _) q
  | int i => exact dropQ.of (.refl _) q
  | lst a => exact dropQ.of (.refl _) q
  | tup a => exact dropQ.of (.refl _) q
  | dct a b => exact dropQ.of (.refl _) q

def spHeight : Sp := sp1 fun x H Q => ∃ d, Is H d x ∧ Q (.bl (isHeight d)) H
theorem ok_p_is_height (T : Txt K mg C) : Fc P w K mg base 2 "is_height" ["thing"] spHeight := by
  have G_p_is_whole : Fc P w K mg base 1 "is_whole" ["thing"] spWhole := ok_p_is_whole T
  refine T.d_p_is_height.fc sc_p_is_height len1 (fun f cdv A outer s H vs Q E hr h => ?_)
  obtain ⟨x, rfl, d, hd, q⟩ := h
  refine ⟨_, (@pss_one _ _ _ (@ps_ret _ _ _ _ (@pe_and _ _ _ _ _ _ _ (@pe_c _ _ _ _ _ _ _ _ _ _ G_p_is_whole (hr.mono (by decide)) (@pa_cons _ _ _ _ _ (pv 0) pa_nil (by rfl)) (by rfl) (by decide) (by rfl) (by rfl)) (@pe_one _ _ _ _ _ (@pe_chain _ _ _ _ _ _ _ _ _ _ _ _ op_le op_le (@pe_un _ _ _ _ _ _ un_neg (@pe_g _ _ _ _ T.g_MOST_HEIGHT (by rfl) (by decide))) (pv 0) (@pe_g _ _ _ _ T.g_MOST_HEIGHT (by rfl) (by decide)) (by with_unfolding_all rfl)))))), ?_⟩
  refine ⟨_, rfl, _, rfl, d, hd, _, rfl, ?_⟩
  cases d with
  | int i =>
    cases (show x = .int i from hd)
    refine iteT ?_
    have q : Q (.bl (decide (-1000000 ≤ i) && decide (i ≤ 1000000))) H := q
    refine ⟨_, rfl, _, rfl, _, _, rfl, rfl, _, rfl, ?_⟩
    refine ite2 (fun h1 => ?_) (fun h1 => ?_)
    · refine ⟨_, _, rfl, rfl, ?_⟩
      rw [decide_eq_true (show -1000000 ≤ i from of_decide_eq_true h1), Bool.true_and] at q
      exact q
    · rw [show decide (-1000000 ≤ i) = false from by simpa using h1, Bool.false_and] at q
      exact q
  | _ => exact iteF q
def spAmount : Sp := sp1 fun x H Q => ∃ d, Is H d x ∧ Q (.bl (isAmount d)) H
theorem ok_p_is_amount (T : Txt K mg C) : Fc P w K mg base 2 "is_amount" ["thing"] spAmount := by
  have G_p_is_whole : Fc P w K mg base 1 "is_whole" ["thing"] spWhole := ok_p_is_whole T
  refine T.d_p_is_amount.fc sc_p_is_amount len1 (fun f cdv A outer s H vs Q E hr h => ?_)
  obtain ⟨x, rfl, d, hd, q⟩ := h
  refine ⟨_, (@pss_one _ _ _ (@ps_ret _ _ _ _ (@pe_and _ _ _ _ _ _ _ (@pe_c _ _ _ _ _ _ _ _ _ _ G_p_is_whole (hr.mono (by decide)) (@pa_cons _ _ _ _ _ (pv 0) pa_nil (by rfl)) (by rfl) (by decide) (by rfl) (by rfl)) (@pe_one _ _ _ _ _ (@pe_chain _ _ _ _ _ _ _ _ _ _ _ _ op_le op_le pe_int (pv 0) (@pe_g _ _ _ _ T.g_MOST_AMOUNT (by rfl) (by decide)) (by with_unfolding_all rfl)))))), ?_⟩
  refine ⟨_, rfl, _, rfl, d, hd, _, rfl, ?_⟩
  cases d with
  | int i =>
    cases (show x = .int i from hd)
    refine iteT ?_
    have q : Q (.bl (decide (0 ≤ i) && decide (i ≤ 1000000))) H := q
    refine ⟨_, rfl, _, _, rfl, rfl, _, rfl, ?_⟩
    refine ite2 (fun h1 => ?_) (fun h1 => ?_)
    · refine ⟨_, _, rfl, rfl, ?_⟩
      rw [decide_eq_true (show 0 ≤ i from of_decide_eq_true h1), Bool.true_and] at q
      exact q
    · rw [show decide (0 ≤ i) = false from by simpa using h1, Bool.false_and] at q
      exact q
  | _ => exact iteF q

def spOneOf (K : PySem.W.Frag) : Sp := sp2 fun x y H Q => ∃ (d : Dv) (p : Addr) (zs : List Str), Is H d x ∧ y = .ref p ∧ SqL K H p (zs.map V.str) ∧ Q (.bl (oneOf zs d)) H
theorem inV_str (z : Str) (zs : List Str) : inV (.str z) (zs.map V.str) = decide (z ∈ zs) := by
  unfold inV
  rw [Bool.eq_iff_iff, List.any_eq_true, decide_eq_true_iff]
  constructor
  · rintro ⟨y, hy, e⟩
    obtain ⟨u, hu, rfl⟩ := List.mem_map.mp hy
    have e' : (u == z) = true := e
    rw [← beq_iff_eq.mp e']
    exact hu
  · intro h
    exact ⟨_, List.mem_map.mpr ⟨z, h, rfl⟩, beq_self_eq_true z⟩
theorem flat_strs (zs : List Str) : (zs.map V.str).all flatV = true := by
  rw [List.all_eq_true]
  intro y hy
  obtain ⟨u, _, rfl⟩ := List.mem_map.mp hy
  rfl
theorem ok_p_is_one_of (T : Txt K mg C) : Fc P w K mg base 1 "is_one_of" ["thing", "names"] (spOneOf K) := by
  refine T.d_p_is_one_of.fc sc_p_is_one_of len2 (fun f cdv A outer s H vs Q E hr h => ?_)
  obtain ⟨x, y, rfl, d, p, zs, hd, rfl, hp, q⟩ := h
  obtain ⟨t, ty, e1, e2, e3, _⟩ := Is_kit K hd
  refine ⟨_, (@pss_one _ _ _ (@ps_ret _ _ _ _ (@pe_and _ _ _ _ _ _ _ (@pe_callB _ _ _ _ _ _ _ _ _ (@call_isinstB _ (K) rfl) rfl T.n_isinstance boot_isinstance (@pa_cons _ _ _ _ _ (pv 0) (@pa_cons _ _ _ _ _ (@pe_ty _ _ _ _ T.n_str boot_str' (by rfl) (by decide) (by decide)) pa_nil (by rfl)) (by rfl)) (by decide) (by decide) (by rfl) (by rfl)) (@pe_one _ _ _ _ _ (@pe_cmpR _ _ _ _ _ _ _ _ (@op_in_seqB _ (K) rfl) (pv 0) (pv 1) (by with_unfolding_all rfl)))))), ?_⟩
  refine ⟨_, rfl, _, _, _, t, _, rfl, rfl, ty, e3, _, rfl, ?_⟩
  cases d with
  | str z =>
    cases (show x = .str z from hd)
    refine iteT ⟨_, rfl, _, rfl, p, _, rfl, .inl hp, rfl, flat_strs zs, ?_⟩
    show Q (.bl (inV (.str z) (zs.map V.str))) H
    rw [inV_str]
    exact q
  | _ => exact iteF q

def spListOf : Sp := sp2 fun x y H Q => ∃ (d : Dv) (n : Int), Is H d x ∧ y = .int n ∧ Q (.bl (lstIn n d)) H
theorem ok_p_is_list_of (T : Txt K mg C) : Fc P w K mg base 1 "is_list_of" ["thing", "most"] spListOf := by
  refine T.d_p_is_list_of.fc sc_p_is_list_of len2 (fun f cdv A outer s H vs Q E hr h => ?_)
  obtain ⟨x, y, rfl, d, n, hd, rfl, q⟩ := h
  obtain ⟨t, ty, e1, e2, e3, e4, _⟩ := Is_kit K hd
  refine ⟨_, (@pss_one _ _ _ (@ps_ret _ _ _ _ (@pe_and _ _ _ _ _ _ _ (@pe_callB _ _ _ _ _ _ _ _ _ (@call_isinstB _ (K) rfl) rfl T.n_isinstance boot_isinstance (@pa_cons _ _ _ _ _ (pv 0) (@pa_cons _ _ _ _ _ (@pe_ty _ _ _ _ T.n_list boot_list' (by rfl) (by decide) (by decide)) pa_nil (by rfl)) (by rfl)) (by decide) (by decide) (by rfl) (by rfl)) (@pe_one _ _ _ _ _ (@pe_chain _ _ _ _ _ _ _ _ _ _ _ _ op_le op_le pe_int (@pe_callB _ _ _ _ _ _ _ _ _ (@call_len_seqB _ (K) rfl) rfl T.n_len boot_len' (@pa_cons _ _ _ _ _ (pv 0) pa_nil (by rfl)) (by decide) (by decide) (by rfl) (by rfl)) (pv 1) (by with_unfolding_all rfl)))))), ?_⟩
  refine ⟨_, rfl, _, _, _, t, _, rfl, rfl, ty, e4, _, rfl, ?_⟩
  cases d with
  | lst ds =>
    obtain ⟨a, vs, rfl, o, hl⟩ := hd
    have hlen := hl.length
    have q : Q (.bl (decide (1 ≤ ds.length) && decide ((ds.length : Int) ≤ n))) H := q
    refine iteT ⟨_, rfl, a, vs, rfl, .inl (SqL.of o), _, _, rfl, rfl, _, rfl, ?_⟩
    rw [hlen]
    refine ite2 (fun h1 => ?_) (fun h1 => ?_)
    · refine ⟨_, rfl, _, _, rfl, rfl, ?_⟩
      have h1' : 1 ≤ ds.length := by have := of_decide_eq_true h1; omega
      rw [decide_eq_true h1', Bool.true_and] at q
      exact q
    · have h1' : ¬ 1 ≤ ds.length := fun c => h1 (decide_eq_true (by omega))
      rw [decide_eq_false h1', Bool.false_and] at q
      exact q
  | _ => exact iteF q
def spTupOf : Sp := sp2 fun x y H Q => ∃ (d : Dv) (n : Int), Is H d x ∧ y = .int n ∧ Q (.bl (tupIs n d)) H
theorem ok_p_is_tuple_of (T : Txt K mg C) : Fc P w K mg base 1 "is_tuple_of" ["thing", "length"] spTupOf := by
  refine T.d_p_is_tuple_of.fc sc_p_is_tuple_of len2 (fun f cdv A outer s H vs Q E hr h => ?_)
  obtain ⟨x, y, rfl, d, n, hd, rfl, q⟩ := h
  obtain ⟨t, ty, e1, e2, e3, e4, e5⟩ := Is_kit K hd
  refine ⟨_, (@pss_one _ _ _ (@ps_ret _ _ _ _ (@pe_and _ _ _ _ _ _ _ (@pe_callB _ _ _ _ _ _ _ _ _ (@call_isinstB _ (K) rfl) rfl T.n_isinstance boot_isinstance (@pa_cons _ _ _ _ _ (pv 0) (@pa_cons _ _ _ _ _ (@pe_ty _ _ _ _ T.n_tuple boot_tuple' (by rfl) (by decide) (by decide)) pa_nil (by rfl)) (by rfl)) (by decide) (by decide) (by rfl) (by rfl)) (@pe_one _ _ _ _ _ (@pe_cmpR _ _ _ _ _ _ _ _ op_eq (@pe_callB _ _ _ _ _ _ _ _ _ (@call_len_seqB _ (K) rfl) rfl T.n_len boot_len' (@pa_cons _ _ _ _ _ (pv 0) pa_nil (by rfl)) (by decide) (by decide) (by rfl) (by rfl)) (pv 1) (@nomark _ _ (by decide) (by decide))))))), ?_⟩
  refine ⟨_, rfl, _, _, _, t, _, rfl, rfl, ty, e5, _, rfl, ?_⟩
  cases d with
  | tup ds =>
    obtain ⟨a, vs, rfl, o, hl⟩ := hd
    have hlen := hl.length
    have q : Q (.bl (decide ((ds.length : Int) = n))) H := q
    refine iteT ⟨_, rfl, a, vs, rfl, .inr (SqT.of o), _, rfl, rfl, ?_⟩
    rw [hlen]
    have e : decide (V.int (ds.length : Int) = V.int n) = decide ((ds.length : Int) = n) := by rw [dec_int, Bool.eq_iff_iff]; simp
    rw [e]
    exact q
  | _ => exact iteF q

def spTwice : Sp := sp1 fun x H Q => ∃ (p : Addr) (vs : List V) (ds : List Dv) (zs : List Str), x = .ref p ∧ H p = some (.lst vs) ∧ IsL H ds vs ∧ ds.map firstS = zs.map some ∧ zs.length ≤ 1000 ∧ Q (.bl (decide zs.Nodup)) H
theorem first_row {H : Hp} {d : Dv} {v : V} {z : Str} (h : Is H d v) (e : firstS d = some z) : ∃ a r, v = .ref a ∧ H a = some (.tup (.str z :: r)) := by
  cases d with
  | tup ds =>
    cases ds with
    | nil => cases e
    | cons d0 ds =>
      cases d0 with
      | str y =>
        cases e
        obtain ⟨a, vs, rfl, o, v0, r, rfl, h0, _⟩ := h
        cases (show v0 = .str z from h0)
        exact ⟨a, r, rfl, o⟩
      | _ => cases e
  | _ => cases e
theorem nodup_inr (zs : List Str) : (zs.map (Sum.inr : Str → Key)).Nodup ↔ zs.Nodup := by
  induction zs with
  | nil => simp
  | cons z zs ih =>
    rw [List.map_cons, List.nodup_cons, List.nodup_cons, ih]
    simp
theorem map_key (zs : List Str) : (zs.map (Sum.inr : Str → Key)).map kV = zs.map V.str := by
  rw [List.map_map]; rfl
theorem ok_p_none_twice (T : Txt K mg C) : Fc P w K mg base 1 "none_twice" ["rows"] spTwice := by
  refine T.d_p_none_twice.fcD sc_p_none_twice len1 (fun f cdv A outer s H vs Q E hr h => ?_)
  obtain ⟨x, rfl, p, us, ds, zs, rfl, hp, hi, hz, hn, q⟩ := h
  have big := big1000
  have l1 := hi.length
  have l2 : ds.length = zs.length := by have := congrArg List.length hz; simpa using this
  refine ⟨_, (@pss_one _ _ _ (@ps_ret _ _ _ _ (@pe_cmpR _ _ _ _ _ _ _ _ op_eq (@pe_callB _ _ _ _ _ _ _ _ _ call_len_set rfl T.n_len boot_len' (@pa_cons _ _ _ _ _ (@pe_callTy _ _ _ _ _ _ _ _ _ (@call_set_list _ rfl) rfl T.n_set boot_set' (@pa_cons _ _ _ _ _ (@pe_comp _ _ _ _ _ _ _ _ _ _ _ ["row"] 1 [] rfl (@pi_list _ _ _ _ (pv 0)) (fun R => @pg_name _ _ (0) _ (show List.Nodup (["row"] : List Str) by decide +kernel) rfl (Or.inl rfl) (by first | exact .inl rfl | exact .inr rfl | assumption)) (@gkeep_name _ _ (by decide)) (fun R => pifs_nil) (fun R => (@pe_ix _ _ _ _ _ _ _ (@ix_tupB _ (K) rfl) (pv 0) pe_int (fun _ _ => rfl))) (by rfl) (by rfl) (by rfl) (by rfl) (by rfl) (by rfl) (by rfl) (by intro _; rfl)) pa_nil (by rfl)) (by decide) (by decide) (by rfl) (by rfl)) pa_nil (by rfl)) (by decide) (by decide) (by rfl) (by rfl)) (@pe_callB _ _ _ _ _ _ _ _ _ (@call_len_seqB _ (K) rfl) rfl T.n_len boot_len' (@pa_cons _ _ _ _ _ (pv 0) pa_nil (by rfl)) (by decide) (by decide) (by rfl) (by rfl)) (@nomark _ _ (by decide) (by decide))))), ?_⟩
  refine ⟨_, rfl, p, rfl, ⟨_, SqL.of hp⟩, ?_⟩
  refine comp_list (F := K) (xs := us) (by omega) (fun i ys H' => H' = H ∧ ys = (zs.take i).map V.str) ⟨rfl, rfl⟩ ?_ ?_ ?_
  · rintro i ys H' hi' ⟨rfl, rfl⟩
    exact ⟨SqL.of hp, by rw [List.length_map, List.length_take]; omega⟩
  · rintro i x ys H' K1 K2 hx ⟨rfl, rfl⟩ k1 k2
    have hil : i < us.length := (List.getElem?_eq_some_iff.mp hx).1
    obtain ⟨d, ed⟩ : ∃ d, ds[i]? = some d := ⟨_, List.getElem?_eq_getElem (by omega)⟩
    obtain ⟨z, ez⟩ : ∃ z, zs[i]? = some z := ⟨_, List.getElem?_eq_getElem (by omega)⟩
    obtain ⟨v, ev, iv⟩ := hi.get ed
    rw [hx] at ev
    cases ev
    have ef : firstS d = some z := by
      have := congrArg (fun l => l[i]?) hz
      simpa [ed, ez] using this
    obtain ⟨a, r, rfl, o⟩ := first_row iv ef
    refine ⟨_, rfl, a, _, 0, .str z, rfl, rfl, SqT.of o, atI_nat (j := 0) rfl, k1 _ _ ⟨rfl, ?_⟩⟩
    rw [List.take_add_one, ez]
    simp
  · rintro ys H' ⟨rfl, rfl⟩
    intro p1 hp1
    have hys : (zs.take us.length).map V.str = (zs.map (Sum.inr : Str → Key)).map kV := by
      rw [List.take_of_length_le (by omega), map_key]
    refine ⟨p1, zs.map Sum.inr, rfl, SqL.of (by rw [upd_same, hys]), by rw [List.length_map]; exact hn, fun p2 hp2 => ?_⟩
    have hle := dedK_le (zs.map (Sum.inr : Str → Key))
    rw [List.length_map] at hle
    have np : p ≠ p1 := ne_of_none hp hp1
    have np2 : p ≠ p2 := ne_of_none (show upd H' p1 _ p = _ from (upd_ne np).trans hp) hp2
    refine ⟨p2, _, _, rfl, upd_same, by omega, _, rfl, p, us, rfl, .inl (SqL.of (by rw [upd_ne np2, upd_ne np]; exact hp)), rfl, ?_⟩
    have e : decide (V.int ((dedK (zs.map (Sum.inr : Str → Key))).length : Int) = V.int (us.length : Int)) = decide zs.Nodup := by
      rw [dec_int, Bool.eq_iff_iff, decide_eq_true_iff, ← nodup_inr, ← dedK_full, List.length_map, beq_iff_eq]
      omega
    rw [e]
    exact dropQ.of ((Drop.new hp2 rfl).trans (Drop.lst hp1)) q

def spField : Sp := sp1 fun x H Q => ∃ d, Is H d x ∧ small d = true ∧ Q (.bl (isField d)) H
theorem ok_p_is_field (T : Txt K mg C) : Fc P w K mg base 3 "is_field" ["thing"] spField := by
  have G_p_is_tuple_of : Fc P w K mg base 1 "is_tuple_of" ["thing", "length"] spTupOf := ok_p_is_tuple_of T
  have G_p_is_name : Fc P w K mg base 1 "is_name" ["thing"] spName := ok_p_is_name T
  have G_p_is_height : Fc P w K mg base 2 "is_height" ["thing"] spHeight := ok_p_is_height T
  have G_p_is_amount : Fc P w K mg base 2 "is_amount" ["thing"] spAmount := ok_p_is_amount T
  refine T.d_p_is_field.fc sc_p_is_field len1 (fun f cdv A outer s H vs Q E hr h => ?_)
  obtain ⟨x, rfl, d, hd, hs, q⟩ := h
  refine ⟨_, (@pss_cons _ _ _ _ _ (@ps_if _ _ _ _ _ _ _ _ (@pt_not _ _ _ _ (@pt_val _ _ _ (@pe_c _ _ _ _ _ _ _ _ _ _ G_p_is_tuple_of (hr.mono (by decide)) (@pa_cons _ _ _ _ _ (pv 0) (@pa_cons _ _ _ _ _ pe_int pa_nil (by rfl)) (by rfl)) (by rfl) (by decide) (by rfl) (by rfl)) (by intro _; rfl))) (@pss_one _ _ _ (@ps_ret _ _ _ _ pe_bl)) pss_nil) (@pss_one _ _ _ (@ps_ret _ _ _ _ (@pe_and _ _ _ _ _ _ _ (@pe_c _ _ _ _ _ _ _ _ _ _ G_p_is_name (hr.mono (by decide)) (@pa_cons _ _ _ _ _ (@pe_ix _ _ _ _ _ _ _ (@ix_tupB _ (K) rfl) (pv 0) pe_int (fun _ _ => rfl)) pa_nil (by rfl)) (by rfl) (by decide) (by rfl) (by rfl)) (@pe_and _ _ _ _ _ _ _ (@pe_c _ _ _ _ _ _ _ _ _ _ G_p_is_height (hr.mono (by decide)) (@pa_cons _ _ _ _ _ (@pe_ix _ _ _ _ _ _ _ (@ix_tupB _ (K) rfl) (pv 0) pe_int (fun _ _ => rfl)) pa_nil (by rfl)) (by rfl) (by decide) (by rfl) (by rfl)) (@pe_one _ _ _ _ _ (@pe_c _ _ _ _ _ _ _ _ _ _ G_p_is_amount (hr.mono (by decide)) (@pa_cons _ _ _ _ _ (@pe_ix _ _ _ _ _ _ _ (@ix_tupB _ (K) rfl) (pv 0) pe_int (fun _ _ => rfl)) pa_nil (by rfl)) (by rfl) (by decide) (by rfl) (by rfl)))))))), ?_⟩
  refine ⟨_, rfl, _, _, rfl, d, 3, hd, rfl, _, rfl, ?_⟩
  by_cases h3 : ∃ a b c, d = .tup [a, b, c]
  · obtain ⟨a, b, c, rfl⟩ := h3
    obtain ⟨t, us, rfl, o, va, r1, rfl, ha, vb, r2, rfl, hb, vc, r3, rfl, hc, h0⟩ := hd
    cases (show r3 = [] from h0)
    have sa : small a = true := by
      exact smallL_mem (small_tup hs) List.mem_cons_self
    have q : Q (.bl (isName a && (isHeight b && isAmount c))) H := q
    refine iteF ⟨_, rfl, t, _, 0, va, rfl, rfl, SqT.of o, atI_nat (j := 0) rfl, _, rfl, a, ha, sa, _, rfl, ?_⟩
    cases ea : isName a with
    | false => rw [ea] at q; exact iteF q
    | true =>
      rw [ea, Bool.true_and] at q
      refine iteT ⟨_, rfl, t, _, 1, vb, rfl, rfl, SqT.of o, atI_nat (j := 1) rfl, _, rfl, b, hb, _, rfl, ?_⟩
      cases eb : isHeight b with
      | false => rw [eb] at q; exact iteF q
      | true =>
        rw [eb, Bool.true_and] at q
        exact iteT ⟨_, rfl, t, _, 2, vc, rfl, rfl, SqT.of o, atI_nat (j := 2) rfl, _, rfl, c, hc, q⟩
  · have e1 : isField d = false := by
      unfold isField
      split
      · rename_i a b c
        exact absurd ⟨a, b, c, rfl⟩ h3
      · rfl
    have e2 : tupIs 3 d = false := by
      cases d with
      | tup ds =>
        refine decide_eq_false (fun e => ?_)
        have e' : ds.length = 3 := by omega
        match ds, e', h3 with
        | [a, b, c], _, h3 => exact h3 ⟨a, b, c, rfl⟩
      | _ => rfl
    dsimp only
    rw [e2]
    rw [e1] at q
    exact iteT q

theorem firsts_of {p : Dv → Bool} (hp : ∀ d, p d = true → ∃ z, firstS d = some z) : ∀ {ds : List Dv}, ds.all p = true → ∃ zs : List Str, ds.map firstS = zs.map some
  | [], _ => ⟨[], rfl⟩
  | d :: ds, h => by
    rw [List.all_cons, Bool.and_eq_true] at h
    obtain ⟨z, e⟩ := hp d h.1
    obtain ⟨zs, e2⟩ := firsts_of hp h.2
    exact ⟨z :: zs, by rw [List.map_cons, List.map_cons, e, e2]⟩
theorem isField_first (d : Dv) (h : isField d = true) : ∃ z, firstS d = some z := by
  unfold isField at h
  split at h
  · rename_i a b c
    rw [Bool.and_eq_true] at h
    cases a with
    | str z => exact ⟨z, rfl⟩
    | _ => cases h.1
  · cases h
def spFields : Sp := sp1 fun x H Q => ∃ d, Is H d x ∧ small d = true ∧ Q (.bl (areFields d)) H
theorem ok_p_are_fields (T : Txt K mg C) : Fc P w K mg base 4 "are_fields" ["thing"] spFields := by
  have G_p_is_list_of : Fc P w K mg base 1 "is_list_of" ["thing", "most"] spListOf := ok_p_is_list_of T
  have G_p_is_field : Fc P w K mg base 3 "is_field" ["thing"] spField := ok_p_is_field T
  have G_p_none_twice : Fc P w K mg base 1 "none_twice" ["rows"] spTwice := ok_p_none_twice T
  refine T.d_p_are_fields.fcD sc_p_are_fields len1 (fun f cdv A outer s H vs Q E hr h => ?_)
  obtain ⟨x, rfl, d, hd, hs, q⟩ := h
  have big := big1000
  refine ⟨_, (@pss_one _ _ _ (@ps_ret _ _ _ _ (@pe_and _ _ _ _ _ _ _ (@pe_c _ _ _ _ _ _ _ _ _ _ G_p_is_list_of (hr.mono (by decide)) (@pa_cons _ _ _ _ _ (pv 0) (@pa_cons _ _ _ _ _ (@pe_g _ _ _ _ T.g_MOST_FIELDS (by rfl) (by decide)) pa_nil (by rfl)) (by rfl)) (by rfl) (by decide) (by rfl) (by rfl)) (@pe_and _ _ _ _ _ _ _ (@pe_callB _ _ _ _ _ _ _ _ _ (@call_all _ rfl) rfl T.n_all boot_all' (@pa_cons _ _ _ _ _ (@pe_comp _ _ _ _ _ _ _ _ _ _ _ ["row"] 1 [] rfl (@pi_list _ _ _ _ (pv 0)) (fun R => @pg_name _ _ (0) _ (show List.Nodup (["row"] : List Str) by decide +kernel) rfl (Or.inl rfl) (by first | exact .inl rfl | exact .inr rfl | assumption)) (@gkeep_name _ _ (by decide)) (fun R => pifs_nil) (fun R => (@pe_c _ _ _ _ _ _ _ _ _ _ G_p_is_field (hr.mono (by decide)) (@pa_cons _ _ _ _ _ (pv 0) pa_nil (by rfl)) (by rfl) (by decide) (by rfl) (by rfl))) (by rfl) (by rfl) (by rfl) (by rfl) (by rfl) (by rfl) (by rfl) (by intro _; rfl)) pa_nil (by rfl)) (by decide) (by decide) (by rfl) (by rfl)) (@pe_one _ _ _ _ _ (@pe_c _ _ _ _ _ _ _ _ _ _ G_p_none_twice (hr.mono (by decide)) (@pa_cons _ _ _ _ _ (pv 0) pa_nil (by rfl)) (by rfl) (by decide) (by rfl) (by rfl))))))), ?_⟩
  refine ⟨_, rfl, _, _, rfl, d, 12, hd, rfl, _, rfl, ?_⟩
  cases d with
  | lst ds =>
    obtain ⟨p, us, rfl, o, hi⟩ := hd
    have l1 := hi.length
    have hs' := Bool.and_eq_true_iff.mp (show (decide (ds.length ≤ 1000) && smallL ds) = true from hs)
    have l2 : ds.length ≤ 1000 := of_decide_eq_true hs'.1
    have q : Q (.bl ((decide (1 ≤ ds.length) && decide (ds.length ≤ 12)) && (ds.all isField && decide ((ds.map firstS).Nodup)))) H := q
    have e0 : (decide (1 ≤ ds.length) && decide ((ds.length : Int) ≤ 12)) = (decide (1 ≤ ds.length) && decide (ds.length ≤ 12)) := by
      congr 1
      rw [Bool.eq_iff_iff, decide_eq_true_iff, decide_eq_true_iff]
      omega
    show if (decide (1 ≤ ds.length) && decide ((ds.length : Int) ≤ 12)) = true then _ else _
    rw [e0]
    refine ite2 (fun h1 => ?_) (fun h1 => ?_)
    · rw [h1, Bool.true_and] at q
      refine ⟨_, rfl, p, rfl, ⟨_, SqL.of o⟩, ?_⟩
      refine comp_list (F := K) (xs := us) (by omega) (fun i ys H' => H' = H ∧ ys = (ds.take i).map fun d => V.bl (isField d)) ⟨rfl, rfl⟩ ?_ ?_ ?_
      · rintro i ys H' hi' ⟨rfl, rfl⟩
        exact ⟨SqL.of o, by rw [List.length_map, List.length_take]; omega⟩
      · rintro i x ys H' K1 K2 hx ⟨rfl, rfl⟩ k1 k2
        have hil : i < us.length := (List.getElem?_eq_some_iff.mp hx).1
        obtain ⟨d, ed⟩ : ∃ d, ds[i]? = some d := ⟨_, List.getElem?_eq_getElem (by omega)⟩
        obtain ⟨v, ev, iv⟩ := hi.get ed
        rw [hx] at ev
        cases ev
        refine ⟨_, rfl, _, rfl, d, iv, smallL_mem hs'.2 (List.mem_of_getElem? ed), k1 _ _ ⟨rfl, ?_⟩⟩
        rw [List.take_add_one, ed]
        simp
      · rintro ys H' ⟨rfl, rfl⟩
        intro p1 hp1
        have np : p ≠ p1 := ne_of_none o hp1
        refine ⟨p1, ds.map isField, rfl, SqL.of ?_, _, rfl, ?_⟩
        · rw [upd_same, List.take_of_length_le (by omega), List.map_map]
          rfl
        have e1 : (ds.map isField).all id = ds.all isField := by rw [List.all_map]; rfl
        rw [e1]
        refine ite2 (fun h2 => ?_) (fun h2 => ?_)
        · rw [h2, Bool.true_and] at q
          obtain ⟨zs, ez⟩ := firsts_of isField_first h2
          have l3 : zs.length = ds.length := by have := congrArg List.length ez; simpa using this.symm
          refine ⟨_, rfl, _, rfl, p, us, ds, zs, rfl, by rw [upd_ne np]; exact o, IsL.same (Same.upd hp1) _ _ hi, ez, by omega, ?_⟩
          have e2 : decide zs.Nodup = decide (ds.map firstS).Nodup := by rw [ez, Bool.eq_iff_iff, decide_eq_true_iff, decide_eq_true_iff, nodup_some]
          rw [e2]
          exact dropQ.of (Drop.lst hp1) q
        · have h2' : ds.all isField = false := by simpa using h2
          rw [h2'] at q
          exact dropQ.of (Drop.lst hp1) q
    · have h1' : (decide (1 ≤ ds.length) && decide (ds.length ≤ 12)) = false := by simpa using h1
      rw [h1'] at q
      exact dropQ.of (.refl _) q
  | _ => exact iteF (dropQ.of (.refl _) q)

def spSides (K : PySem.W.Frag) : Sp := sp3 fun x y u H Q => ∃ (a b : Dv) (p : Addr) (zs : List Str), Is H a x ∧ Is H b y ∧ u = .ref p ∧ SqL K H p (zs.map V.str) ∧ Q (.bl (areSides zs a b)) H
theorem ok_p_are_sides (T : Txt K mg C) : Fc P w K mg base 2 "are_sides" ["one", "other", "sides"] (spSides K) := by
  have G_p_is_one_of : Fc P w K mg base 1 "is_one_of" ["thing", "names"] (spOneOf K) := ok_p_is_one_of T
  refine T.d_p_are_sides.fc sc_p_are_sides len3 (fun f cdv A outer s H vs Q E hr h => ?_)
  obtain ⟨x, y, u, rfl, a, b, p, zs, ha, hb, rfl, hp, q⟩ := h
  refine ⟨_, (@pss_one _ _ _ (@ps_ret _ _ _ _ (@pe_and _ _ _ _ _ _ _ (@pe_c _ _ _ _ _ _ _ _ _ _ G_p_is_one_of (hr.mono (by decide)) (@pa_cons _ _ _ _ _ (pv 0) (@pa_cons _ _ _ _ _ (pv 2) pa_nil (by rfl)) (by rfl)) (by rfl) (by decide) (by rfl) (by rfl)) (@pe_and _ _ _ _ _ _ _ (@pe_c _ _ _ _ _ _ _ _ _ _ G_p_is_one_of (hr.mono (by decide)) (@pa_cons _ _ _ _ _ (pv 1) (@pa_cons _ _ _ _ _ (pv 2) pa_nil (by rfl)) (by rfl)) (by rfl) (by decide) (by rfl) (by rfl)) (@pe_one _ _ _ _ _ (@pe_cmpR _ _ _ _ _ _ _ _ op_ne (pv 0) (pv 1) (@nomark _ _ (by decide) (by decide)))))))), ?_⟩
  have q : Q (.bl (oneOf zs a && (oneOf zs b && !deq a b))) H := q
  refine ⟨_, rfl, _, rfl, _, _, rfl, a, p, zs, ha, rfl, hp, _, rfl, ?_⟩
  cases ea : oneOf zs a with
  | false => rw [ea] at q; exact iteF q
  | true =>
    rw [ea, Bool.true_and] at q
    refine iteT ⟨_, rfl, _, rfl, _, _, rfl, b, p, zs, hb, rfl, hp, _, rfl, ?_⟩
    cases eb : oneOf zs b with
    | false => rw [eb] at q; exact iteF q
    | true =>
      rw [eb, Bool.true_and] at q
      cases a with
      | str z =>
        cases b with
        | str z' =>
          cases (show x = .str z from ha)
          cases (show y = .str z' from hb)
          refine iteT ⟨_, rfl, _, rfl, rfl, ?_⟩
          have e : (!decide (V.str z = V.str z')) = !deq (.str z) (.str z') := by rw [dec_str]; rfl
          rw [e]
          exact q
        | _ => cases eb
      | _ => cases ea

def spSill : Sp := sp2 fun x y H Q => ∃ (d : Dv) (j : Int), Is H d x ∧ y = .int j ∧ Q (.bl (isSill (.int j) d)) H
theorem ok_p_is_sill (T : Txt K mg C) : Fc P w K mg base 3 "is_sill" ["thing", "crown"] spSill := by
  have G_p_is_height : Fc P w K mg base 2 "is_height" ["thing"] spHeight := ok_p_is_height T
  refine T.d_p_is_sill.fc sc_p_is_sill len2 (fun f cdv A outer s H vs Q E hr h => ?_)
  obtain ⟨x, y, rfl, d, j, hd, rfl, q⟩ := h
  refine ⟨_, (@pss_one _ _ _ (@ps_ret _ _ _ _ (@pe_or _ _ _ _ _ _ _ (@pe_cmpR _ _ _ _ _ _ _ _ op_isN (pv 0) pe_non (@nomark _ _ (by decide) (by decide))) (@pe_one _ _ _ _ _ (@pe_and _ _ _ _ _ _ _ (@pe_c _ _ _ _ _ _ _ _ _ _ G_p_is_height (hr.mono (by decide)) (@pa_cons _ _ _ _ _ (pv 0) pa_nil (by rfl)) (by rfl) (by decide) (by rfl) (by rfl)) (@pe_one _ _ _ _ _ (@pe_cmpR _ _ _ _ _ _ _ _ op_lt (pv 0) (pv 1) (@nomark _ _ (by decide) (by decide))))))))), ?_⟩
  refine ⟨_, rfl, rfl, _, rfl, ?_⟩
  cases d with
  | non =>
    cases (show x = .non from hd)
    rw [decide_eq_true rfl]
    exact iteT q
  | int i =>
    cases (show x = .int i from hd)
    rw [decide_eq_false (show ¬ V.int i = V.non by intro z; cases z)]
    refine iteF ⟨_, rfl, _, rfl, .int i, rfl, _, rfl, ?_⟩
    have q : Q (.bl (hgt i && decide (i < j))) H := q
    show if hgt i = true then _ else _
    cases e : hgt i with
    | false => rw [e] at q; exact iteF q
    | true => rw [e, Bool.true_and] at q; exact iteT ⟨_, rfl, _, rfl, _, _, rfl, rfl, q⟩
  | bl b =>
    cases (show x = .bl b from hd)
    rw [decide_eq_false (show ¬ V.bl b = V.non by intro z; cases z)]
    exact iteF ⟨_, rfl, _, rfl, .bl b, rfl, _, rfl, iteF q⟩
  | str b =>
    cases (show x = .str b from hd)
    rw [decide_eq_false (show ¬ V.str b = V.non by intro z; cases z)]
    exact iteF ⟨_, rfl, _, rfl, .str b, rfl, _, rfl, iteF q⟩
  | lst b =>
    obtain ⟨a, us, rfl, o⟩ := id hd
    rw [decide_eq_false (show ¬ V.ref a = V.non by intro z; cases z)]
    exact iteF ⟨_, rfl, _, rfl, .lst b, hd, _, rfl, iteF q⟩
  | tup b =>
    obtain ⟨a, us, rfl, o⟩ := id hd
    rw [decide_eq_false (show ¬ V.ref a = V.non by intro z; cases z)]
    exact iteF ⟨_, rfl, _, rfl, .tup b, hd, _, rfl, iteF q⟩
  | dct b c =>
    obtain ⟨a, us, rfl, o⟩ := id hd
    rw [decide_eq_false (show ¬ V.ref a = V.non by intro z; cases z)]
    exact iteF ⟨_, rfl, _, rfl, .dct b c, hd, _, rfl, iteF q⟩

def spDyke (K : PySem.W.Frag) : Sp := sp2 fun x y H Q => ∃ (d : Dv) (p : Addr) (zs : List Str), Is H d x ∧ small d = true ∧ y = .ref p ∧ SqL K H p (zs.map V.str) ∧ Q (.bl (isDyke zs d)) H
theorem ok_p_is_dyke (T : Txt K mg C) : Fc P w K mg base 4 "is_dyke" ["thing", "sides"] (spDyke K) := by
  have G_p_is_tuple_of : Fc P w K mg base 1 "is_tuple_of" ["thing", "length"] spTupOf := ok_p_is_tuple_of T
  have G_p_is_name : Fc P w K mg base 1 "is_name" ["thing"] spName := ok_p_is_name T
  have G_p_are_sides : Fc P w K mg base 2 "are_sides" ["one", "other", "sides"] (spSides K) := ok_p_are_sides T
  have G_p_is_height : Fc P w K mg base 2 "is_height" ["thing"] spHeight := ok_p_is_height T
  have G_p_is_amount : Fc P w K mg base 2 "is_amount" ["thing"] spAmount := ok_p_is_amount T
  have G_p_is_sill : Fc P w K mg base 3 "is_sill" ["thing", "crown"] spSill := ok_p_is_sill T
  refine T.d_p_is_dyke.fc sc_p_is_dyke len2 (fun f cdv A outer s H vs Q E hr h => ?_)
  obtain ⟨x, y, rfl, d, p, zs, hd, hs, rfl, hp, q⟩ := h
  refine ⟨_, (@pss_cons _ _ _ _ _ (@ps_if _ _ _ _ _ _ _ _ (@PW.pt _ _ _ (@pw_or _ _ _ _ _ _ _ (@pt_not _ _ _ _ (@pt_val _ _ _ (@pe_c _ _ _ _ _ _ _ _ _ _ G_p_is_tuple_of (hr.mono (by decide)) (@pa_cons _ _ _ _ _ (pv 0) (@pa_cons _ _ _ _ _ pe_int pa_nil (by rfl)) (by rfl)) (by rfl) (by decide) (by rfl) (by rfl)) (by intro _; rfl))) (@pw_or _ _ _ _ _ _ _ (@pt_not _ _ _ _ (@pt_val _ _ _ (@pe_c _ _ _ _ _ _ _ _ _ _ G_p_is_name (hr.mono (by decide)) (@pa_cons _ _ _ _ _ (@pe_ix _ _ _ _ _ _ _ (@ix_tupB _ (K) rfl) (pv 0) pe_int (fun _ _ => rfl)) pa_nil (by rfl)) (by rfl) (by decide) (by rfl) (by rfl)) (by intro _; rfl))) (@pw_or1 _ _ _ _ (@pt_not _ _ _ _ (@pt_val _ _ _ (@pe_c _ _ _ _ _ _ _ _ _ _ G_p_are_sides (hr.mono (by decide)) (@pa_cons _ _ _ _ _ (@pe_ix _ _ _ _ _ _ _ (@ix_tupB _ (K) rfl) (pv 0) pe_int (fun _ _ => rfl)) (@pa_cons _ _ _ _ _ (@pe_ix _ _ _ _ _ _ _ (@ix_tupB _ (K) rfl) (pv 0) pe_int (fun _ _ => rfl)) (@pa_cons _ _ _ _ _ (pv 1) pa_nil (by rfl)) (by rfl)) (by rfl)) (by rfl) (by decide) (by rfl) (by rfl)) (by intro _; rfl))))))) (@pss_one _ _ _ (@ps_ret _ _ _ _ pe_bl)) pss_nil) (@pss_one _ _ _ (@ps_ret _ _ _ _ (@pe_and _ _ _ _ _ _ _ (@pe_c _ _ _ _ _ _ _ _ _ _ G_p_is_height (hr.mono (by decide)) (@pa_cons _ _ _ _ _ (@pe_ix _ _ _ _ _ _ _ (@ix_tupB _ (K) rfl) (pv 0) pe_int (fun _ _ => rfl)) pa_nil (by rfl)) (by rfl) (by decide) (by rfl) (by rfl)) (@pe_and _ _ _ _ _ _ _ (@pe_c _ _ _ _ _ _ _ _ _ _ G_p_is_amount (hr.mono (by decide)) (@pa_cons _ _ _ _ _ (@pe_ix _ _ _ _ _ _ _ (@ix_tupB _ (K) rfl) (pv 0) pe_int (fun _ _ => rfl)) pa_nil (by rfl)) (by rfl) (by decide) (by rfl) (by rfl)) (@pe_one _ _ _ _ _ (@pe_c _ _ _ _ _ _ _ _ _ _ G_p_is_sill (hr.mono (by decide)) (@pa_cons _ _ _ _ _ (@pe_ix _ _ _ _ _ _ _ (@ix_tupB _ (K) rfl) (pv 0) pe_int (fun _ _ => rfl)) (@pa_cons _ _ _ _ _ (@pe_ix _ _ _ _ _ _ _ (@ix_tupB _ (K) rfl) (pv 0) pe_int (fun _ _ => rfl)) pa_nil (by rfl)) (by rfl)) (by rfl) (by decide) (by rfl) (by rfl)))))))), ?_⟩
  refine ⟨_, rfl, _, _, rfl, d, 6, hd, rfl, _, rfl, ?_⟩
  by_cases h6 : ∃ n a b c r l, d = .tup [n, a, b, c, r, l]
  · obtain ⟨n, a, b, c, r, l, rfl⟩ := h6
    obtain ⟨t, us, rfl, o, v0, r0, rfl, i0, v1, r1, rfl, i1, v2, r2, rfl, i2, v3, r3, rfl, i3, v4, r4, rfl, i4, v5, r5, rfl, i5, h0⟩ := hd
    cases (show r5 = [] from h0)
    have sn : small n = true := by
      exact smallL_mem (small_tup hs) List.mem_cons_self
    have q : Q (.bl (isName n && areSides zs a b && (isHeight c && (isAmount r && isSill c l)))) H := q
    have at_ : ∀ (j : Nat) (v : V), ([v0, v1, v2, v3, v4, v5] : List V)[j]? = some v → atI [v0, v1, v2, v3, v4, v5] (j : Int) = some v := fun j v e => atI_nat e
    refine iteF ⟨_, rfl, t, _, 0, v0, rfl, rfl, SqT.of o, at_ 0 _ rfl, _, rfl, n, i0, sn, _, rfl, ?_⟩
    cases en : isName n with
    | false => rw [en] at q; exact iteT q
    | true =>
      rw [en, Bool.true_and] at q
      refine iteF ⟨_, rfl, t, _, 1, v1, rfl, rfl, SqT.of o, at_ 1 _ rfl, _, rfl, t, _, 2, v2, rfl, rfl, SqT.of o, at_ 2 _ rfl, _, rfl, _, _, _, rfl, a, b, p, zs, i1, i2, rfl, hp, _, rfl, ?_⟩
      cases es : areSides zs a b with
      | false => rw [es] at q; exact iteT q
      | true =>
        rw [es, Bool.true_and] at q
        refine iteF ⟨_, rfl, t, _, 3, v3, rfl, rfl, SqT.of o, at_ 3 _ rfl, _, rfl, c, i3, _, rfl, ?_⟩
        cases ec : isHeight c with
        | false => rw [ec] at q; exact iteF q
        | true =>
          rw [ec, Bool.true_and] at q
          refine iteT ⟨_, rfl, t, _, 4, v4, rfl, rfl, SqT.of o, at_ 4 _ rfl, _, rfl, r, i4, _, rfl, ?_⟩
          cases er : isAmount r with
          | false => rw [er] at q; exact iteF q
          | true =>
            rw [er, Bool.true_and] at q
            cases c with
            | int j =>
              cases (show v3 = .int j from i3)
              exact iteT ⟨_, rfl, t, _, 5, v5, rfl, rfl, SqT.of o, at_ 5 _ rfl, _, rfl, t, _, 3, _, rfl, rfl, SqT.of o, at_ 3 _ rfl, _, _, rfl, l, j, i5, rfl, q⟩
            | _ => cases ec
  · have e1 : isDyke zs d = false := by
      unfold isDyke
      split
      · rename_i n a b c r l
        exact absurd ⟨n, a, b, c, r, l, rfl⟩ h6
      · rfl
    have e2 : tupIs 6 d = false := by
      cases d with
      | tup ds =>
        refine decide_eq_false (fun e => ?_)
        have e' : ds.length = 6 := by omega
        match ds, e', h6 with
        | [n, a, b, c, r, l], _, h6 => exact h6 ⟨n, a, b, c, r, l, rfl⟩
      | _ => rfl
    dsimp only
    rw [e2]
    rw [e1] at q
    exact iteT q
theorem isDyke_first {zs : List Str} (d : Dv) (h : isDyke zs d = true) : ∃ z, firstS d = some z := by
  unfold isDyke at h
  split at h
  · rename_i n a b c r l
    rw [Bool.and_eq_true, Bool.and_eq_true] at h
    cases n with
    | str z => exact ⟨z, rfl⟩
    | _ => cases h.1.1
  · cases h
def spDykes (K : PySem.W.Frag) : Sp := sp2 fun x y H Q => ∃ (d : Dv) (p : Addr) (zs : List Str), Is H d x ∧ small d = true ∧ y = .ref p ∧ H p = some (.lst (zs.map V.str)) ∧ Q (.bl (areDykes zs d)) H
theorem ok_p_are_dykes (T : Txt K mg C) : Fc P w K mg base 5 "are_dykes" ["thing", "sides"] (spDykes K) := by
  have G_p_is_list_of : Fc P w K mg base 1 "is_list_of" ["thing", "most"] spListOf := ok_p_is_list_of T
  have G_p_is_dyke : Fc P w K mg base 4 "is_dyke" ["thing", "sides"] (spDyke K) := ok_p_is_dyke T
  have G_p_none_twice : Fc P w K mg base 1 "none_twice" ["rows"] spTwice := ok_p_none_twice T
  refine T.d_p_are_dykes.fcD sc_p_are_dykes len2 (fun f cdv A outer s H vs Q E hr h => ?_)
  obtain ⟨x, y, rfl, d, p0, zs0, hd, hs, rfl, hp0, q⟩ := h
  have big := big1000
  refine ⟨_, (@pss_one _ _ _ (@ps_ret _ _ _ _ (@pe_and _ _ _ _ _ _ _ (@pe_c _ _ _ _ _ _ _ _ _ _ G_p_is_list_of (hr.mono (by decide)) (@pa_cons _ _ _ _ _ (pv 0) (@pa_cons _ _ _ _ _ (@pe_g _ _ _ _ T.g_MOST_DYKES (by rfl) (by decide)) pa_nil (by rfl)) (by rfl)) (by rfl) (by decide) (by rfl) (by rfl)) (@pe_and _ _ _ _ _ _ _ (@pe_callB _ _ _ _ _ _ _ _ _ (@call_all _ rfl) rfl T.n_all boot_all' (@pa_cons _ _ _ _ _ (@pe_comp _ _ _ _ _ _ _ _ _ _ _ ["row", "sides"] 1 [1] rfl (@pi_list _ _ _ _ (pv 0)) (fun R => @pg_name _ _ (0) _ (show List.Nodup (["row", "sides"] : List Str) by decide +kernel) rfl (Or.inl rfl) (by first | exact .inl rfl | exact .inr rfl | assumption)) (@gkeep_name _ _ (by decide)) (fun R => pifs_nil) (fun R => (@pe_c _ _ _ _ _ _ _ _ _ _ G_p_is_dyke (hr.mono (by decide)) (@pa_cons _ _ _ _ _ (pv 0) (@pa_cons _ _ _ _ _ (pv 1) pa_nil (by rfl)) (by rfl)) (by rfl) (by decide) (by rfl) (by rfl))) (by rfl) (by rfl) (by rfl) (by rfl) (by rfl) (by rfl) (by rfl) (by intro _; rfl)) pa_nil (by rfl)) (by decide) (by decide) (by rfl) (by rfl)) (@pe_one _ _ _ _ _ (@pe_c _ _ _ _ _ _ _ _ _ _ G_p_none_twice (hr.mono (by decide)) (@pa_cons _ _ _ _ _ (pv 0) pa_nil (by rfl)) (by rfl) (by decide) (by rfl) (by rfl))))))), ?_⟩
  refine ⟨_, rfl, _, _, rfl, d, 40, hd, rfl, _, rfl, ?_⟩
  cases d with
  | lst ds =>
    obtain ⟨p, us, rfl, o, hi⟩ := hd
    have l1 := hi.length
    have hs' := Bool.and_eq_true_iff.mp (show (decide (ds.length ≤ 1000) && smallL ds) = true from hs)
    have l2 : ds.length ≤ 1000 := of_decide_eq_true hs'.1
    have q : Q (.bl ((decide (1 ≤ ds.length) && decide (ds.length ≤ 40)) && (ds.all (isDyke zs0) && decide ((ds.map firstS).Nodup)))) H := q
    have e0 : (decide (1 ≤ ds.length) && decide ((ds.length : Int) ≤ 40)) = (decide (1 ≤ ds.length) && decide (ds.length ≤ 40)) := by
      congr 1
      rw [Bool.eq_iff_iff, decide_eq_true_iff, decide_eq_true_iff]
      omega
    show if (decide (1 ≤ ds.length) && decide ((ds.length : Int) ≤ 40)) = true then _ else _
    rw [e0]
    refine ite2 (fun h1 => ?_) (fun h1 => ?_)
    · rw [h1, Bool.true_and] at q
      refine ⟨_, rfl, p, rfl, ⟨_, SqL.of o⟩, ?_⟩
      refine comp_list (F := K) (xs := us) (by omega) (fun i ys H' => H' = H ∧ ys = (ds.take i).map fun d => V.bl (isDyke zs0 d)) ⟨rfl, rfl⟩ ?_ ?_ ?_
      · rintro i ys H' hi' ⟨rfl, rfl⟩
        exact ⟨SqL.of o, by rw [List.length_map, List.length_take]; omega⟩
      · rintro i x ys H' K1 K2 hx ⟨rfl, rfl⟩ k1 k2
        have hil : i < us.length := (List.getElem?_eq_some_iff.mp hx).1
        obtain ⟨d, ed⟩ : ∃ d, ds[i]? = some d := ⟨_, List.getElem?_eq_getElem (by omega)⟩
        obtain ⟨v, ev, iv⟩ := hi.get ed
        rw [hx] at ev
        cases ev
        refine ⟨_, rfl, _, rfl, _, _, rfl, d, p0, zs0, iv, smallL_mem hs'.2 (List.mem_of_getElem? ed), rfl, SqL.of hp0, k1 _ _ ⟨rfl, ?_⟩⟩
        rw [List.take_add_one, ed]
        simp
      · rintro ys H' ⟨rfl, rfl⟩
        intro p1 hp1
        have np : p ≠ p1 := ne_of_none o hp1
        refine ⟨p1, ds.map (isDyke zs0), rfl, SqL.of ?_, _, rfl, ?_⟩
        · rw [upd_same, List.take_of_length_le (by omega), List.map_map]
          rfl
        have e1 : (ds.map (isDyke zs0)).all id = ds.all (isDyke zs0) := by rw [List.all_map]; rfl
        rw [e1]
        refine ite2 (fun h2 => ?_) (fun h2 => ?_)
        · rw [h2, Bool.true_and] at q
          obtain ⟨zs, ez⟩ := firsts_of isDyke_first h2
          have l3 : zs.length = ds.length := by have := congrArg List.length ez; simpa using this.symm
          refine ⟨_, rfl, _, rfl, p, us, ds, zs, rfl, by rw [upd_ne np]; exact o, IsL.same (Same.upd hp1) _ _ hi, ez, by omega, ?_⟩
          have e2 : decide zs.Nodup = decide (ds.map firstS).Nodup := by rw [ez, Bool.eq_iff_iff, decide_eq_true_iff, decide_eq_true_iff, nodup_some]
          rw [e2]
          exact dropQ.of (Drop.lst hp1) q
        · have h2' : ds.all (isDyke zs0) = false := by simpa using h2
          rw [h2'] at q
          exact dropQ.of (Drop.lst hp1) q
    · have h1' : (decide (1 ≤ ds.length) && decide (ds.length ≤ 40)) = false := by simpa using h1
      rw [h1'] at q
      exact dropQ.of (.refl _) q
  | _ => exact iteF (dropQ.of (.refl _) q)


def spInit (C : Addr) : Sp := sp3 fun x v1 v2 H Q => ∃ (p dx : Addr) (fs ds : List Dv), x = .ref p ∧ H p = some (.ins C dx []) ∧ Is H (.lst fs) v1 ∧ Is H (.lst ds) v2 ∧ small (.lst fs) = true ∧ small (.lst ds) = true ∧
  areFields (.lst fs) = true ∧ areDykes ("sea" :: fs.map nmOf) (.lst ds) = true ∧ ∀ H', LandAt C H' p fs ds → (∀ b o, H b = some o → b ≠ p → H' b = some o) → Q .non H'
def spRows (C : Addr) (sel : List Dv → List Dv → List Dv) : Sp := sp1 fun x H Q => ∃ (p : Addr) (fs ds : List Dv), x = .ref p ∧ LandAt C H p fs ds ∧ ∀ (l : Addr) (vs : List V) (H' : Hp), Same H H' → H l = none → H' l = some (.lst vs) → IsL H' (sel fs ds) vs → Q (.ref l) H'
def spRowsX (C : Addr) (sel : List Dv → List Dv → List Dv) : Sp := sp1 fun x H Q => ∃ (p : Addr) (fs ds : List Dv), x = .ref p ∧ LandAt C H p fs ds ∧ ∀ (l : Addr) (vs : List V), H l = none → IsL H (sel fs ds) vs → Q (.ref l) (upd H l (.lst vs))
def spStrsX (C : Addr) (sel : List Dv → List Dv → List Str) : Sp := sp1 fun x H Q => ∃ (p : Addr) (fs ds : List Dv), x = .ref p ∧ LandAt C H p fs ds ∧ ∀ (l : Addr), H l = none → Q (.ref l) (upd H l (.lst ((sel fs ds).map V.str)))
theorem rows_imp {C : Addr} {sel : List Dv → List Dv → List Dv} : ∀ vs H Q E, spRows C sel vs H Q E → spRowsX C sel vs H Q E := by
  rintro vs H Q E ⟨x, rfl, p, fs, ds, rfl, L, q⟩
  exact ⟨_, rfl, p, fs, ds, rfl, L, fun l us hl hi => q l us _ (Same.upd hl) hl upd_same (IsL.same (Same.upd hl) _ _ hi)⟩
theorem ok_land_p_fieldsX (T : Txt K mg C) : Mc P w K mg base 1 C "fields" ["self"] (spRowsX C fun fs _ => fs) := by
  refine T.m_land_p_fields.mcD sc_land_p_fields len1 (fun f cdv A outer s H vs Q E hr h => ?_)
  obtain ⟨x, rfl, p, fs, ds, rfl, L, q⟩ := h
  obtain ⟨dx, d1, d2, hx, ⟨k1, h1, e1, i1⟩, t2⟩ := L.ex
  refine ⟨_, (@pss_one _ _ _ (@ps_ret _ _ _ _ (@pe_callTy _ _ _ _ _ _ _ _ _ (@call_list_values _ rfl) rfl T.n_list boot_list' (@pa_cons _ _ _ _ _ (@pe_bm0 _ _ _ _ _ _ _ _ _ PySem.F.plainAttrs_dict PySem.F.slot_dict_values PySem.F.type_dict_values mt_values (@pe_fld _ _ _ _ _ (pv 0) rfl) (by rfl) (by rfl)) pa_nil (by rfl)) (by decide) (by decide) (by rfl) (by rfl)))), ?_⟩
  refine ⟨_, rfl, p, C, dx, _, _, rfl, hx, T.cl_Land, T.a_field_rows, landF_f _ _, .inr (.inr (.inl ⟨rfl, .inl ⟨_, h1⟩⟩)), d1, k1, rfl, rfl, .inl h1, fun v hv => ?_⟩
  have nv : d1 ≠ v := ne_of_none h1 hv
  refine ⟨v, d1, k1, rfl, upd_same, .inl (by rw [upd_ne nv]; exact h1), fun l hl => ?_⟩
  exact dropQ.of (Drop.under hv rfl hl) (q l _ ((Same.upd hv).free hl) i1)
theorem ok_land_p_dykesX (T : Txt K mg C) : Mc P w K mg base 1 C "dykes" ["self"] (spRowsX C fun _ ds => ds) := by
  refine T.m_land_p_dykes.mcD sc_land_p_dykes len1 (fun f cdv A outer s H vs Q E hr h => ?_)
  obtain ⟨x, rfl, p, fs, ds, rfl, L, q⟩ := h
  obtain ⟨dx, d1, d2, hx, t1, ⟨k1, h1, e1, i1⟩⟩ := L.ex
  refine ⟨_, (@pss_one _ _ _ (@ps_ret _ _ _ _ (@pe_callTy _ _ _ _ _ _ _ _ _ (@call_list_values _ rfl) rfl T.n_list boot_list' (@pa_cons _ _ _ _ _ (@pe_bm0 _ _ _ _ _ _ _ _ _ PySem.F.plainAttrs_dict PySem.F.slot_dict_values PySem.F.type_dict_values mt_values (@pe_fld _ _ _ _ _ (pv 0) rfl) (by rfl) (by rfl)) pa_nil (by rfl)) (by decide) (by decide) (by rfl) (by rfl)))), ?_⟩
  refine ⟨_, rfl, p, C, dx, _, _, rfl, hx, T.cl_Land, T.a_dyke_rows, landF_d _ _, .inr (.inr (.inl ⟨rfl, .inl ⟨_, h1⟩⟩)), d2, k1, rfl, rfl, .inl h1, fun v hv => ?_⟩
  have nv : d2 ≠ v := ne_of_none h1 hv
  refine ⟨v, d2, k1, rfl, upd_same, .inl (by rw [upd_ne nv]; exact h1), fun l hl => ?_⟩
  exact dropQ.of (Drop.under hv rfl hl) (q l _ ((Same.upd hv).free hl) i1)
theorem ok_land_p_fields (T : Txt K mg C) : Mc P w K mg base 1 C "fields" ["self"] (spRows C fun fs _ => fs) := (ok_land_p_fieldsX T).imp rows_imp
theorem ok_land_p_dykes (T : Txt K mg C) : Mc P w K mg base 1 C "dykes" ["self"] (spRows C fun _ ds => ds) := (ok_land_p_dykesX T).imp rows_imp
theorem keys_names {kvs : List (Key × V)} {ds : List Dv} (e : kvs.map (·.1) = ds.map keyOf) : (kvs.map fun kv => kV kv.1) = (ds.map nmOf).map V.str := by
  have h : (kvs.map fun kv => kV kv.1) = (kvs.map (·.1)).map kV := by rw [List.map_map]; rfl
  rw [h, e, List.map_map, List.map_map]
  rfl
theorem ok_land_p_dyke_namesX (T : Txt K mg C) : Mc P w K mg base 1 C "dyke_names" ["self"] (spStrsX C fun _ ds => ds.map nmOf) := by
  refine T.m_land_p_dyke_names.mc sc_land_p_dyke_names len1 (fun f cdv A outer s H vs Q E hr h => ?_)
  obtain ⟨x, rfl, p, fs, ds, rfl, L, q⟩ := h
  obtain ⟨dx, d1, d2, hx, t1, ⟨k1, h1, e1, i1⟩⟩ := L.ex
  refine ⟨_, (@pss_one _ _ _ (@ps_ret _ _ _ _ (@pe_callTy _ _ _ _ _ _ _ _ _ (@call_list_dict _ rfl) rfl T.n_list boot_list' (@pa_cons _ _ _ _ _ (@pe_fld _ _ _ _ _ (pv 0) rfl) pa_nil (by rfl)) (by decide) (by decide) (by rfl) (by rfl)))), ?_⟩
  refine ⟨_, rfl, p, C, dx, _, _, rfl, hx, T.cl_Land, T.a_dyke_rows, landF_d _ _, d2, k1, rfl, .inl h1, fun l hl => ?_⟩
  have := q l hl
  rw [keys_names e1]
  exact this
theorem dyke_row {H : Hp} {n a b : Str} {c r : Int} {s : Dv} {v : V} (h : Is H (.tup [.str n, .str a, .str b, .int c, .int r, s]) v) : ∃ t vs, v = .ref t ∧ H t = some (.tup [.str n, .str a, .str b, .int c, .int r, vs]) ∧ Is H s vs := by
  obtain ⟨t, us, rfl, o, v0, r0, rfl, i0, v1, r1, rfl, i1, v2, r2, rfl, i2, v3, r3, rfl, i3, v4, r4, rfl, i4, v5, r5, rfl, i5, h0⟩ := h
  cases (show r5 = [] from h0)
  cases (show v0 = _ from i0)
  cases (show v1 = _ from i1)
  cases (show v2 = _ from i2)
  cases (show v3 = _ from i3)
  cases (show v4 = _ from i4)
  exact ⟨t, v5, rfl, o, i5⟩
theorem field_row {H : Hp} {n : Str} {g e : Int} {v : V} (h : Is H (.tup [.str n, .int g, .int e]) v) : ∃ t, v = .ref t ∧ H t = some (.tup [.str n, .int g, .int e]) := by
  obtain ⟨t, us, rfl, o, v0, r0, rfl, i0, v1, r1, rfl, i1, v2, r2, rfl, i2, h0⟩ := h
  cases (show r2 = [] from h0)
  cases (show v0 = _ from i0)
  cases (show v1 = _ from i1)
  cases (show v2 = _ from i2)
  exact ⟨t, rfl, o⟩
theorem nd_names {C : Addr} {H : Hp} {p : Addr} {fs ds : List Dv} (L : LandAt C H p fs ds) : GoodF fs ∧ GoodD ("sea" :: fs.map nmOf) ds := ⟨(goodF_iff _).mp L.okf, (goodD_iff _ _).mp L.okd⟩
def spDykeM (C : Addr) : Sp := sp2 fun x y H Q => ∃ (p : Addr) (fs ds : List Dv) (d : Dv), x = .ref p ∧ y = .str (nmOf d) ∧ LandAt C H p fs ds ∧ d ∈ ds ∧ ∀ v, Is H d v → Q v H
theorem ok_land_p_dyke (T : Txt K mg C) : Mc P w K mg base 1 C "dyke" ["self", "name"] (spDykeM C) := by
  refine T.m_land_p_dyke.mc sc_land_p_dyke len2 (fun f cdv A outer s H vs Q E hr h => ?_)
  obtain ⟨x, y, rfl, p, fs, ds, d, rfl, rfl, L, m, q⟩ := h
  have hu := hu_of hr
  obtain ⟨dx, d1, d2, hx, t1, ⟨k1, h1, e1, i1⟩⟩ := L.ex
  obtain ⟨v, ev, iv⟩ := valV_at e1 i1 (nd_names L).2.nd m
  refine ⟨_, (@pss_one _ _ _ (@ps_ret _ _ _ _ (@pe_dget _ _ _ _ _ _ hu (@pe_fld _ _ _ _ _ (pv 0) rfl) (pv 1) (fun _ _ => rfl)))), ?_⟩
  refine ⟨_, rfl, p, C, dx, _, _, rfl, hx, T.cl_Land, T.a_dyke_rows, landF_d _ _, _, rfl, d2, v, rfl, ?_, q v iv⟩
  rw [← ev]
  exact DGet.k (k := Sum.inr (nmOf d)) h1
theorem zip_fst {α β : Type} : ∀ {xs : List α} {ys : List β}, xs.length = ys.length → (xs.zip ys).map (·.1) = xs
  | [], [], _ => rfl
  | x :: xs, y :: ys, h => by rw [List.zip_cons_cons, List.map_cons, zip_fst (by simpa using h)]
  | [], _ :: _, h => by simp at h
  | _ :: _, [], h => by simp at h
theorem zip_snd {α β : Type} : ∀ {xs : List α} {ys : List β}, xs.length = ys.length → (xs.zip ys).map (·.2) = ys
  | [], [], _ => rfl
  | x :: xs, y :: ys, h => by rw [List.zip_cons_cons, List.map_cons, zip_snd (by simpa using h)]
  | [], _ :: _, h => by simp at h
  | _ :: _, [], h => by simp at h
def pairsOf (ds : List Dv) (us : List V) : List (Key × V) := (ds.map keyOf).zip us
theorem pairs_keys {ds : List Dv} {us : List V} (h : us.length = ds.length) : (pairsOf ds us).map (·.1) = ds.map keyOf := zip_fst (by rw [List.length_map]; exact h.symm)
theorem pairs_vals {ds : List Dv} {us : List V} (h : us.length = ds.length) : (pairsOf ds us).map (·.2) = us := zip_snd (by rw [List.length_map]; exact h.symm)
theorem pairs_len {ds : List Dv} {us : List V} (h : us.length = ds.length) : (pairsOf ds us).length = us.length := by
  unfold pairsOf
  rw [List.length_zip, List.length_map]
  omega
theorem pairs_at {ds : List Dv} {us : List V} {i : Nat} {d : Dv} {v : V} (e1 : ds[i]? = some d) (e2 : us[i]? = some v) : (pairsOf ds us)[i]? = some (keyOf d, v) := by
  unfold pairsOf
  rw [List.getElem?_zip_eq_some]
  exact ⟨by rw [List.getElem?_map, e1]; rfl, e2⟩
theorem key_nodup {ds : List Dv} (h : (ds.map nmOf).Nodup) : (ds.map keyOf).Nodup := by
  have e : ds.map keyOf = (ds.map nmOf).map Sum.inr := by rw [List.map_map]; rfl
  rw [e, nodup_inr]
  exact h
theorem ok_land_pinit (T : Txt K mg C) : Ic P w K mg base 6 C ["self", "fields", "dykes"] (spInit C) := by
  have G_p_are_fields : Fc P w K mg base 4 "are_fields" ["thing"] spFields := ok_p_are_fields T
  have G_p_are_dykes : Fc P w K mg base 5 "are_dykes" ["thing", "sides"] (spDykes K) := ok_p_are_dykes T
  refine T.i_Land.ic sc_land_pinit len3 (fun f cdv A outer s H vs Q E hr h => ?_)
  obtain ⟨x, v1, v2, rfl, p, dx, fs, ds, rfl, hx, hf, hd, sf, sd, okf, okd, q⟩ := h
  have big := big1000
  have gf := (goodF_iff _).mp okf
  have gd := (goodD_iff _ _).mp okd
  have lf := gf.l2
  have ld := gd.l2
  obtain ⟨a1, us, rfl, o1, i1⟩ := id hf
  obtain ⟨a2, ws, rfl, o2, i2⟩ := id hd
  have l1 := i1.length
  have l2 := i2.length
  refine ⟨_, (@pss_cons _ _ _ _ _ (@ps_if _ _ _ _ _ _ _ _ (@pt_not _ _ _ _ (@pt_val _ _ _ (@pe_c _ _ _ _ _ _ _ _ _ _ G_p_are_fields (hr.mono (by decide)) (@pa_cons _ _ _ _ _ (pv 1) pa_nil (by rfl)) (by rfl) (by decide) (by rfl) (by rfl)) (by intro _; rfl))) (@pss_one _ _ _ ps_never) pss_nil) (@pss_cons _ _ _ _ _ (@ps_if _ _ _ _ _ _ _ _ (@pt_not _ _ _ _ (@pt_val _ _ _ (@pe_c _ _ _ _ _ _ _ _ _ _ G_p_are_dykes (hr.mono (by decide)) (@pa_cons _ _ _ _ _ (pv 2) (@pa_cons _ _ _ _ _ (@pe_op _ _ _ _ _ _ _ _ op_cat (@pe_lst _ _ _ _ (@pa_cons _ _ _ _ _ (@pe_g _ _ _ _ T.g_SEA (by rfl) (by decide)) pa_nil (by rfl))) (@pe_comp _ _ _ _ _ _ _ _ _ _ _ ["field"] 1 [] rfl (@pi_list _ _ _ _ (pv 1)) (fun R => @pg_name _ _ (0) _ (show List.Nodup (["field"] : List Str) by decide +kernel) rfl (Or.inl rfl) (by first | exact .inl rfl | exact .inr rfl | assumption)) (@gkeep_name _ _ (by decide)) (fun R => pifs_nil) (fun R => (@pe_ix _ _ _ _ _ _ _ (@ix_tupB _ (K) rfl) (pv 0) pe_int (fun _ _ => rfl))) (by rfl) (by rfl) (by rfl) (by rfl) (by rfl) (by rfl) (by rfl) (by intro _; rfl))) pa_nil (by rfl)) (by rfl)) (by rfl) (by decide) (by rfl) (by rfl)) (by intro _; rfl))) (@pss_one _ _ _ ps_never) pss_nil) (@pss_cons _ _ _ _ _ (@ps_fld _ _ _ _ _ _ _ _ (pv 0) (@pe_callTy _ _ _ _ _ _ _ _ _ (@call_dict_pairs _ rfl) rfl T.n_dict boot_dict' (@pa_cons _ _ _ _ _ (@pe_comp _ _ _ _ _ _ _ _ _ _ _ ["field"] 1 [] rfl (@pi_list _ _ _ _ (pv 1)) (fun R => @pg_name _ _ (0) _ (show List.Nodup (["field"] : List Str) by decide +kernel) rfl (Or.inl rfl) (by first | exact .inl rfl | exact .inr rfl | assumption)) (@gkeep_name _ _ (by decide)) (fun R => pifs_nil) (fun R => (@pe_tup _ _ _ _ _ (@pa_cons _ _ _ _ _ (@pe_ix _ _ _ _ _ _ _ (@ix_tupB _ (K) rfl) (pv 0) pe_int (fun _ _ => rfl)) (@pa_cons _ _ _ _ _ (pv 0) pa_nil (by rfl)) (by rfl)))) (by rfl) (by rfl) (by rfl) (by rfl) (by rfl) (by rfl) (by rfl) (by intro _; rfl)) pa_nil (by rfl)) (by decide) (by decide) (by rfl) (by rfl)) rfl) (@pss_one _ _ _ (@ps_fld _ _ _ _ _ _ _ _ (pv 0) (@pe_callTy _ _ _ _ _ _ _ _ _ (@call_dict_pairs _ rfl) rfl T.n_dict boot_dict' (@pa_cons _ _ _ _ _ (@pe_comp _ _ _ _ _ _ _ _ _ _ _ ["dyke"] 1 [] rfl (@pi_list _ _ _ _ (pv 2)) (fun R => @pg_name _ _ (0) _ (show List.Nodup (["dyke"] : List Str) by decide +kernel) rfl (Or.inl rfl) (by first | exact .inl rfl | exact .inr rfl | assumption)) (@gkeep_name _ _ (by decide)) (fun R => pifs_nil) (fun R => (@pe_tup _ _ _ _ _ (@pa_cons _ _ _ _ _ (@pe_ix _ _ _ _ _ _ _ (@ix_tupB _ (K) rfl) (pv 0) pe_int (fun _ _ => rfl)) (@pa_cons _ _ _ _ _ (pv 0) pa_nil (by rfl)) (by rfl)))) (by rfl) (by rfl) (by rfl) (by rfl) (by rfl) (by rfl) (by rfl) (by intro _; rfl)) pa_nil (by rfl)) (by decide) (by decide) (by rfl) (by rfl)) rfl))))), ?_⟩
  refine ⟨_, rfl, _, rfl, .lst fs, hf, sf, _, rfl, ?_⟩
  rw [okf]
  refine iteF ?_
  refine ⟨_, rfl, small_le rfl, fun p1 hp1 => ?_⟩
  have S1 := Same.upd (o := .lst [.str "sea"]) hp1
  refine ⟨_, rfl, a1, rfl, ⟨_, SqL.of (S1 _ _ o1)⟩, ?_⟩
  refine comp_list (F := K) (xs := us) (by omega) (fun i ys H' => H' = upd H p1 (.lst [.str "sea"]) ∧ ys = ((fs.take i).map nmOf).map V.str) ⟨rfl, rfl⟩ ?_ ?_ ?_
  · rintro i ys H' hi' ⟨rfl, rfl⟩
    exact ⟨SqL.of (S1 _ _ o1), by rw [List.length_map, List.length_map, List.length_take]; omega⟩
  · rintro i x ys H' K1 K2 hx' ⟨rfl, rfl⟩ k1 k2
    have hil : i < us.length := (List.getElem?_eq_some_iff.mp hx').1
    obtain ⟨d, ed⟩ : ∃ d, fs[i]? = some d := ⟨_, List.getElem?_eq_getElem (by omega)⟩
    obtain ⟨v, ev, iv⟩ := i1.get ed
    rw [hx'] at ev
    cases ev
    obtain ⟨z, g, e, rfl, _⟩ := field_shape (gf.all d (List.mem_of_getElem? ed))
    obtain ⟨t, rfl, o⟩ := field_row iv
    refine ⟨_, rfl, t, _, 0, .str z, rfl, rfl, SqT.of (S1 _ _ o), atI_nat (j := 0) rfl, k1 _ _ ⟨rfl, ?_⟩⟩
    rw [List.take_add_one, ed]
    simp [nmOf, firstS]
  · rintro ys H' ⟨rfl, rfl⟩
    intro p2 hp2
    rw [List.take_of_length_le (by omega)]
    have S2 := Same.upd (o := .lst ((fs.map nmOf).map V.str)) hp2
    refine ⟨p1, p2, _, _, rfl, rfl, S2 _ _ upd_same, upd_same, by simp only [List.length_map, List.length_cons, List.length_nil]; omega, fun p3 hp3 => ?_⟩
    have S3 := Same.upd (o := .lst ([.str "sea"] ++ (fs.map nmOf).map V.str)) hp3
    have S := S1.trans (S2.trans S3)
    generalize hH3 : upd (upd (upd H p1 (.lst [.str "sea"])) p2 (.lst ((fs.map nmOf).map V.str))) p3 (.lst ([.str "sea"] ++ (fs.map nmOf).map V.str)) = H3 at S
    have hp3' : H3 p3 = some (.lst ((("sea" : Str) :: fs.map nmOf).map V.str)) := by rw [← hH3, upd_same]; rfl
    refine ⟨_, _, rfl, .lst ds, p3, _, Is.same S _ _ hd, sd, rfl, hp3', _, rfl, ?_⟩
    rw [okd]
    refine iteF ?_
    refine ⟨_, rfl, a1, rfl, ⟨_, SqL.of (S _ _ o1)⟩, ?_⟩
    refine comp_list (F := K) (xs := us) (by omega) (fun i ys H' => Same H3 H' ∧ PairsAt H' ys ((pairsOf fs us).take i)) ⟨Same.refl _, PairsAt.nil _⟩ ?_ ?_ ?_
    · rintro i ys H' hi' ⟨S4, pr⟩
      exact ⟨SqL.of (S4 _ _ (S _ _ o1)), by have := pr.len; rw [List.length_take] at this; omega⟩
    · rintro i x ys H' K1 K2 hx' ⟨S4, pr⟩ k1 k2
      have hil : i < us.length := (List.getElem?_eq_some_iff.mp hx').1
      obtain ⟨d, ed⟩ : ∃ d, fs[i]? = some d := ⟨_, List.getElem?_eq_getElem (by omega)⟩
      obtain ⟨v, ev, iv⟩ := i1.get ed
      rw [hx'] at ev
      cases ev
      obtain ⟨z, g, e, rfl, _⟩ := field_shape (gf.all d (List.mem_of_getElem? ed))
      obtain ⟨t, rfl, o⟩ := field_row iv
      have ot := S4 _ _ (S _ _ o)
      refine ⟨_, rfl, t, _, 0, .str z, rfl, rfl, SqT.of ot, atI_nat (j := 0) rfl, _, rfl, small_le rfl, fun pt hpt => k1 _ _ ⟨S4.trans (Same.upd hpt), ?_⟩⟩
      rw [List.take_add_one, pairs_at ed hx']
      exact pr.snoc (k := Sum.inr z) hpt
    · rintro ys H4 ⟨S4, pr⟩
      rw [List.take_of_length_le (by rw [pairs_len l1]; omega)] at pr
      intro p4 hp4
      have S5 := Same.upd (o := .lst ys) hp4
      refine ⟨p4, ys, pairsOf fs us, rfl, SqL.of upd_same, pr.same S5, by rw [pairs_len l1]; omega, by rw [pairs_keys l1]; exact key_nodup gf.nd, fun d1 hd1 => ?_⟩
      have S6 := Same.upd (o := .dK (pairsOf fs us)) hd1
      have SA := S.trans (S4.trans (S5.trans S6))
      have hd1' : upd (upd H4 p4 (.lst ys)) d1 (.dK (pairsOf fs us)) d1 = some (.dK (pairsOf fs us)) := upd_same
      generalize upd (upd H4 p4 (.lst ys)) d1 (.dK (pairsOf fs us)) = H6 at SA hd1'
      refine ⟨_, rfl, p, C, dx, [], rfl, SA _ _ hx, T.cl_Land, T.a_field_rows, (by show 0 < 1000; decide), ?_⟩
      have SB : ∀ b o, H b = some o → b ≠ p → upd H6 p (.ins C dx (putF "field_rows" (.ref d1) [])) b = some o := fun b o e hb => by rw [upd_ne hb]; exact SA _ _ e
      have nd1 : d1 ≠ p := ne_of hd1' (SA _ _ hx) (by intro z; cases z)
      have SD : SameD H (upd H6 p (.ins C dx (putF "field_rows" (.ref d1) []))) := fun b o e dt => SB b o e (fun z => by subst z; rw [hx] at e; cases e; cases dt)
      have hp7 : upd H6 p (.ins C dx (putF "field_rows" (.ref d1) [])) p = some (.ins C dx (putF "field_rows" (.ref d1) [])) := upd_same
      have hd7 : upd H6 p (.ins C dx (putF "field_rows" (.ref d1) [])) d1 = some (.dK (pairsOf fs us)) := by rw [upd_ne nd1]; exact hd1'
      generalize upd H6 p (.ins C dx (putF "field_rows" (.ref d1) [])) = H7 at SB SD hp7 hd7
      refine ⟨_, rfl, a2, rfl, ⟨_, SqL.of (SD _ _ o2 rfl)⟩, ?_⟩
      refine comp_list (F := K) (xs := ws) (by omega) (fun i ys H' => Same H7 H' ∧ PairsAt H' ys ((pairsOf ds ws).take i)) ⟨Same.refl _, PairsAt.nil _⟩ ?_ ?_ ?_
      · rintro i ys H' hi' ⟨S8, pr⟩
        exact ⟨SqL.of (S8 _ _ (SD _ _ o2 rfl)), by have := pr.len; rw [List.length_take] at this; omega⟩
      · rintro i x ys H' K1 K2 hx' ⟨S8, pr⟩ k1 k2
        have hil : i < ws.length := (List.getElem?_eq_some_iff.mp hx').1
        obtain ⟨d, ed⟩ : ∃ d, ds[i]? = some d := ⟨_, List.getElem?_eq_getElem (by omega)⟩
        obtain ⟨v, ev, iv⟩ := i2.get ed
        rw [hx'] at ev
        cases ev
        obtain ⟨n, a, b, c, r, sl, rfl, _⟩ := dyke_shape (gd.all d (List.mem_of_getElem? ed))
        obtain ⟨t, vs, rfl, o, _⟩ := dyke_row iv
        have ot := S8 _ _ (SD _ _ o rfl)
        refine ⟨_, rfl, t, _, 0, .str n, rfl, rfl, SqT.of ot, atI_nat (j := 0) rfl, _, rfl, small_le rfl, fun pt hpt => k1 _ _ ⟨S8.trans (Same.upd hpt), ?_⟩⟩
        rw [List.take_add_one, pairs_at ed hx']
        exact pr.snoc (k := Sum.inr n) hpt
      · rintro ys H8 ⟨S8, pr⟩
        rw [List.take_of_length_le (by rw [pairs_len l2]; omega)] at pr
        intro p9 hp9
        have S9 := Same.upd (o := .lst ys) hp9
        refine ⟨p9, ys, pairsOf ds ws, rfl, SqL.of upd_same, pr.same S9, by rw [pairs_len l2]; omega, by rw [pairs_keys l2]; exact key_nodup gd.nd, fun d2 hd2 => ?_⟩
        have S10 := Same.upd (o := .dK (pairsOf ds ws)) hd2
        have SC := S8.trans (S9.trans S10)
        have hd2' : upd (upd H8 p9 (.lst ys)) d2 (.dK (pairsOf ds ws)) d2 = some (.dK (pairsOf ds ws)) := upd_same
        generalize upd (upd H8 p9 (.lst ys)) d2 (.dK (pairsOf ds ws)) = H10 at SC hd2'
        refine ⟨_, rfl, p, C, dx, _, rfl, SC _ _ hp7, T.cl_Land, T.a_dyke_rows, (by show 1 < 1000; decide), ?_⟩
        have nd2 : d2 ≠ p := ne_of hd2' (SC _ _ hp7) (by intro z; cases z)
        have SE : SameD H (upd H10 p (.ins C dx (landF d1 d2))) := fun b o e dt => by
          have hb : b ≠ p := fun z => by subst z; rw [hx] at e; cases e; cases dt
          rw [upd_ne hb]
          exact SC _ _ (SB _ _ e hb)
        refine q _ ⟨⟨dx, d1, d2, upd_same, ⟨_, (upd_ne nd1).trans (SC _ _ hd7), pairs_keys l1, ?_⟩, ⟨_, (upd_ne nd2).trans hd2', pairs_keys l2, ?_⟩⟩, okf, okd⟩ fun b o e hb => ?_
        · rw [pairs_vals l1]
          exact IsL.sameD SE _ _ i1
        · rw [pairs_vals l2]
          exact IsL.sameD SE _ _ i2
        · show upd H10 p (.ins C dx (landF d1 d2)) b = some o
          rw [upd_ne hb]
          exact SC _ _ (SB _ _ e hb)


open Mt02
def spCell (K : PySem.W.Frag) : Sp := sp2 fun x y H Q => ∃ (a : Addr) (ns : List Int) (k : Int), x = .ref a ∧ y = .int k ∧ SqL K H a (ns.map V.int) ∧ ns.length ≤ 63 ∧ 0 ≤ k ∧ Q (.int (ns.getD k.toNat 0)) H
theorem ok_l_cell_at (T : Txt K mg C) : Fc P w K mg base 1 "_law_cell_at" ["_law_script", "_law_k"] (spCell K) := by
  refine T.d_l_cell_at.fc sc_l_cell_at len2 (fun f cdv A outer s H vs Q E hr h => ?_)
  obtain ⟨x, y, rfl, a, ns, k, rfl, rfl, hS, hl, hk, q⟩ := h
  refine ⟨_, (@pss_cons _ _ _ _ _ (@ps_if _ _ _ _ _ _ _ _ (@pt_cmpR _ _ _ _ _ _ _ _ op_lt (pv 1) (@pe_callB _ _ _ _ _ _ _ _ _ (@call_len_seqB _ (K) rfl) rfl T.n_len boot_len' (@pa_cons _ _ _ _ _ (pv 0) pa_nil (by rfl)) (by decide) (by decide) (by rfl) (by rfl)) (@nomark _ _ (by decide) (by decide))) (@pss_one _ _ _ (@ps_ret _ _ _ _ (@pe_ix _ _ _ _ _ _ _ (@ix_listB _ (K) rfl) (pv 0) (pv 1) (fun _ _ => rfl)))) pss_nil) (@pss_one _ _ _ (@ps_ret _ _ _ _ pe_int))), ?_⟩
  refine ⟨_, rfl, _, rfl, a, _, rfl, .inl hS, _, _, rfl, rfl, _, rfl, ?_⟩
  obtain ⟨j, rfl⟩ := Int.eq_ofNat_of_zero_le hk
  rw [List.length_map]
  refine ite2 (fun h1 => ?_) (fun h1 => ?_)
  · have h1' : j < ns.length := by
      have := of_decide_eq_true h1
      omega
    refine ⟨_, rfl, _, rfl, a, _, _, .int (ns.getD j 0), rfl, rfl, hS, atI_nat ?_, ?_⟩
    · rw [List.getElem?_map, List.getElem?_eq_getElem h1', List.getD_eq_getElem?_getD, List.getElem?_eq_getElem h1']
      rfl
    · simpa using q
  · have h1' : ¬ j < ns.length := by
      intro h2
      exact h1 (decide_eq_true (by omega))
    have e : ns.getD j 0 = 0 := by
      rw [List.getD_eq_getElem?_getD, List.getElem?_eq_none (by omega)]
      rfl
    have q' : Q (.int (ns.getD j 0)) H := by simpa using q
    rw [e] at q'
    exact q'
def Scr (K : PySem.W.Frag) (H : Hp) (x : V) : Prop := ∃ (a : Addr) (ns : List Int), x = .ref a ∧ SqL K H a (ns.map V.int) ∧ ns.length ≤ 63
theorem Scr.same {K : PySem.W.Frag} {H H' : Hp} {x : V} (S : Same H H') (h : Scr K H x) : Scr K H' x := by
  obtain ⟨a, ns, e, q, l⟩ := h
  exact ⟨a, ns, e, S.seq q, l⟩
theorem p6 : (10 : Int) ^ (6 : Int).toNat = 1000000 := by decide

structure Fds (fs : List Dv) (n : Nat) : Prop where
  l1 : 1 ≤ fs.length
  l2 : fs.length ≤ n
  all : ∀ d ∈ fs, isField d = true
  nd : (fs.map nmOf).Nodup
theorem field_hard {d : Dv} (h : isField d = true) : hard d = true := by
  obtain ⟨z, g, e, rfl, _⟩ := field_shape h
  rfl
theorem field_mk {z : Str} {g e : Int} (hz : nameS z = true) (g0 : -1000000 ≤ g) (g1 : g ≤ 1000000) (e0 : 0 ≤ e) (e1 : e ≤ 1000000) : isField (.tup [.str z, .int g, .int e]) = true := by
  show (nameS z && (hgt g && amt e)) = true
  unfold hgt amt
  rw [hz, decide_eq_true g0, decide_eq_true g1, decide_eq_true e0, decide_eq_true e1]
  rfl

structure Dks (zs : List Str) (ds : List Dv) (n : Nat) : Prop where
  l1 : 1 ≤ ds.length
  l2 : ds.length ≤ n
  all : ∀ d ∈ ds, isDyke zs d = true
  nd : (ds.map nmOf).Nodup
theorem dyke_mk {zs : List Str} {n a b : Str} {c r : Int} {s : Dv} (hn : nameS n = true) (ha : a ∈ zs) (hb : b ∈ zs) (hab : a ≠ b) (hc : hgt c = true) (hr : amt r = true) (hs : isSill (.int c) s = true) : isDyke zs (.tup [.str n, .str a, .str b, .int c, .int r, s]) = true := by
  show (nameS n && (decide (a ∈ zs) && (decide (b ∈ zs) && !(a == b))) && (hgt c && (amt r && isSill (.int c) s))) = true
  rw [hn, decide_eq_true ha, decide_eq_true hb, hc, hr, hs, beq_eq_false_iff_ne.mpr hab]
  rfl
theorem hgt_of {i : Int} (h0 : -1000000 ≤ i) (h1 : i ≤ 1000000) : hgt i = true := by
  unfold hgt
  rw [decide_eq_true h0, decide_eq_true h1]
  rfl
theorem amt_of {i : Int} (h0 : 0 ≤ i) (h1 : i ≤ 1000000) : amt i = true := by
  unfold amt
  rw [decide_eq_true h0, decide_eq_true h1]
  rfl
theorem sea_not {z : Str} (h : nameS z = true) : z ≠ "sea" := by
  intro e
  subst e
  simp [nameS] at h
theorem sides_nd {fs : List Dv} {n : Nat} (h : Fds fs n) : ("sea" :: fs.map nmOf : List Str).Nodup := by
  rw [List.nodup_cons]
  refine ⟨fun m => ?_, h.nd⟩
  obtain ⟨d, md, e⟩ := List.mem_map.mp m
  obtain ⟨z, g, e', rfl, hz, _⟩ := field_shape (h.all d md)
  exact sea_not hz e
theorem nd_at {zs : List Str} (h : zs.Nodup) {i j : Nat} {a b : Str} (ha : zs[i]? = some a) (hb : zs[j]? = some b) (hij : i ≠ j) : a ≠ b := by
  intro e
  subst e
  obtain ⟨h1, e1⟩ := List.getElem?_eq_some_iff.mp ha
  obtain ⟨h2, e2⟩ := List.getElem?_eq_some_iff.mp hb
  exact hij ((List.getElem_inj h).mp (e1.trans e2.symm))
theorem second_ne {c f L s r : Int} (hL : 2 ≤ L) (hf0 : 0 ≤ f) (hf1 : f < L) (hr : r = c % (L - 1)) (hs : s = (f + 1 + r) % L) : 0 ≤ s ∧ s < L ∧ f ≠ s := by
  have r0 : 0 ≤ r := by rw [hr]; exact Int.emod_nonneg _ (by omega)
  have r1 : r < L - 1 := by rw [hr]; exact Int.emod_lt_of_pos _ (by omega)
  have s0 : 0 ≤ s := by rw [hs]; exact Int.emod_nonneg _ (by omega)
  have s1 : s < L := by rw [hs]; exact Int.emod_lt_of_pos _ (by omega)
  refine ⟨s0, s1, ?_⟩
  intro e
  by_cases hlt : f + 1 + r < L
  · rw [Int.emod_eq_of_lt (by omega) hlt] at hs
    omega
  · have e2 : (f + 1 + r) % L = f + 1 + r - L := by
      rw [← Int.sub_emod_right, Int.emod_eq_of_lt (by omega) (by omega)]
    omega
theorem name_small {z : Str} (h : nameS z = true) : z.length ≤ 1000 := by
  unfold nameS at h
  rw [Bool.and_eq_true, Bool.and_eq_true, Bool.and_eq_true] at h
  have := of_decide_eq_true h.1.1.2
  omega
theorem field_small {d : Dv} (h : isField d = true) : small d = true := by
  obtain ⟨z, g, e, rfl, hz, _⟩ := field_shape h
  show (decide (3 ≤ 1000) && (decide (z.length ≤ 1000) && (true && (true && true)))) = true
  rw [decide_eq_true (name_small hz)]
  rfl
theorem side_small {fs : List Dv} (hf : ∀ d ∈ fs, isField d = true) {a : Str} (h : a ∈ ("sea" :: fs.map nmOf : List Str)) : a.length ≤ 1000 := by
  rcases List.mem_cons.mp h with rfl | h
  · decide +kernel
  · obtain ⟨d, m, rfl⟩ := List.mem_map.mp h
    obtain ⟨z, g, e, rfl, hz, _⟩ := field_shape (hf d m)
    exact name_small hz
theorem dyke_small {fs : List Dv} (hf : ∀ d ∈ fs, isField d = true) {d : Dv} (h : isDyke ("sea" :: fs.map nmOf) d = true) : small d = true := by
  obtain ⟨n, a, b, c, r, s, rfl, hn, ha, hb, _, _, _, hs⟩ := dyke_shape h
  have e : small s = true := by
    cases s with
    | non => rfl
    | int i => rfl
    | _ => cases hs
  show (decide (6 ≤ 1000) && (decide (n.length ≤ 1000) && (decide (a.length ≤ 1000) && (decide (b.length ≤ 1000) && (true && (true && (small s && true))))))) = true
  rw [decide_eq_true (name_small hn), decide_eq_true (side_small hf ha), decide_eq_true (side_small hf hb), e]
  rfl
theorem lst_small {ds : List Dv} (h : ∀ d ∈ ds, small d = true) (hl : ds.length ≤ 1000) : small (.lst ds) = true := by
  show (decide (ds.length ≤ 1000) && smallL ds) = true
  rw [decide_eq_true hl, smallL_of h]
  rfl


open Mt04
def spWork (C : Addr) : Sp := sp2 fun x y H Q => ∃ (p : Addr) (fs ds : List Dv) (d : Dv), x = .ref p ∧ LandAt C H p fs ds ∧ Is H d y ∧ Q (.bl (isWork ds d)) H
theorem ok_p_is_work (T : Txt K mg C) : Fc P w K mg base 3 "is_work" ["land", "thing"] (spWork C) := by
  have G_p_is_tuple_of : Fc P w K mg base 1 "is_tuple_of" ["thing", "length"] spTupOf := ok_p_is_tuple_of T
  have G_p_is_one_of : Fc P w K mg base 1 "is_one_of" ["thing", "names"] (spOneOf K) := ok_p_is_one_of T
  have G_p_is_height : Fc P w K mg base 2 "is_height" ["thing"] spHeight := ok_p_is_height T
  have G_land_p_dyke_names : Mc P w K mg base 1 C "dyke_names" ["self"] (spStrsX C fun _ ds => ds.map nmOf) := ok_land_p_dyke_namesX T
  have G_land_p_dyke : Mc P w K mg base 1 C "dyke" ["self", "name"] (spDykeM C) := ok_land_p_dyke T
  refine T.d_p_is_work.fcD sc_p_is_work len2 (fun f cdv A outer s H vs Q E hr h => ?_)
  obtain ⟨x, y, rfl, p, fs, ds, d, rfl, L, hd, q⟩ := h
  obtain ⟨dx, e1, e2, hx, _⟩ := L.ex
  have no : ∀ m : Str, ¬ m = "dyke_rows" → ¬ m = "field_rows" → (landF e1 e2).lookup m = none := fun m h1 h2 => landF_no _ _ h1 h2
  refine ⟨_, (@pss_cons _ _ _ _ _ (@ps_if _ _ _ _ _ _ _ _ (@PW.pt _ _ _ (@pw_or _ _ _ _ _ _ _ (@pt_not _ _ _ _ (@pt_val _ _ _ (@pe_c _ _ _ _ _ _ _ _ _ _ G_p_is_tuple_of (hr.mono (by decide)) (@pa_cons _ _ _ _ _ (pv 1) (@pa_cons _ _ _ _ _ pe_int pa_nil (by rfl)) (by rfl)) (by rfl) (by decide) (by rfl) (by rfl)) (by intro _; rfl))) (@pw_or1 _ _ _ _ (@pt_not _ _ _ _ (@pt_val _ _ _ (@pe_c _ _ _ _ _ _ _ _ _ _ G_p_is_one_of (hr.mono (by decide)) (@pa_cons _ _ _ _ _ (@pe_ix _ _ _ _ _ _ _ (@ix_tupB _ (K) rfl) (pv 1) pe_int (fun _ _ => rfl)) (@pa_cons _ _ _ _ _ (@pe_m0 _ _ _ _ _ _ _ _ _ _ _ T.cl_Land G_land_p_dyke_names (hr.mono (by decide)) (pv 0) (by rfl)) pa_nil (by rfl)) (by rfl)) (by rfl) (by decide) (by rfl) (by rfl)) (by intro _; rfl)))))) (@pss_one _ _ _ (@ps_ret _ _ _ _ pe_bl)) pss_nil) (@pss_one _ _ _ (@ps_ret _ _ _ _ (@pe_and _ _ _ _ _ _ _ (@pe_c _ _ _ _ _ _ _ _ _ _ G_p_is_height (hr.mono (by decide)) (@pa_cons _ _ _ _ _ (@pe_ix _ _ _ _ _ _ _ (@ix_tupB _ (K) rfl) (pv 1) pe_int (fun _ _ => rfl)) pa_nil (by rfl)) (by rfl) (by decide) (by rfl) (by rfl)) (@pe_one _ _ _ _ _ (@pe_cmpR _ _ _ _ _ _ _ _ op_ge (@pe_ix _ _ _ _ _ _ _ (@ix_tupB _ (K) rfl) (pv 1) pe_int (fun _ _ => rfl)) (@pe_ix _ _ _ _ _ _ _ (@ix_tupB _ (K) rfl) (@pe_m _ _ _ _ _ _ _ _ _ _ _ _ _ _ T.cl_Land G_land_p_dyke (hr.mono (by decide)) (pv 0) (@pa_cons _ _ _ _ _ (@pe_ix _ _ _ _ _ _ _ (@ix_tupB _ (K) rfl) (pv 1) pe_int (fun _ _ => rfl)) pa_nil (by rfl)) (by rfl) (by rfl) (by rfl)) pe_int (fun _ _ => rfl)) (@nomark _ _ (by decide) (by decide)))))))), ?_⟩
  refine ⟨_, rfl, _, _, rfl, d, 2, hd, rfl, _, rfl, ?_⟩
  by_cases h2 : ∃ a b, d = .tup [a, b]
  · obtain ⟨a, b, rfl⟩ := h2
    obtain ⟨t, us, rfl, o, va, r1, rfl, ha, vb, r2, rfl, hb, h0⟩ := hd
    cases (show r2 = [] from h0)
    refine iteF ⟨_, rfl, t, _, 0, va, rfl, rfl, SqT.of o, atI_nat (j := 0) rfl, _, rfl, p, dx, _, rfl, hx, no _ (by decide +kernel) (by decide +kernel), _, rfl, p, fs, ds, rfl, L, fun l hl => ?_⟩
    have S := Same.upd (o := .lst ((ds.map nmOf).map V.str)) hl
    refine ⟨_, _, rfl, a, l, ds.map nmOf, Is.same S _ _ ha, rfl, SqL.of upd_same, _, rfl, ?_⟩
    have dr := Drop.lst (xs := (ds.map nmOf).map V.str) hl
    cases ea : oneOf (ds.map nmOf) a with
    | false =>
      have e : isWork ds (.tup [a, b]) = false := by
        unfold isWork
        split
        · rename_i z v hq
          cases hq
          have : decide (z ∈ ds.map nmOf) = false := ea
          rw [this]
          rfl
        · rfl
      rw [e] at q
      exact iteT (dropQ.of dr q)
    | true =>
      refine iteF ⟨_, rfl, t, _, 1, vb, rfl, rfl, SqT.of (S _ _ o), atI_nat (j := 1) rfl, _, rfl, b, Is.same S _ _ hb, _, rfl, ?_⟩
      cases eb : isHeight b with
      | false =>
        have e : isWork ds (.tup [a, b]) = false := by
          unfold isWork
          split
          · rename_i z v hq
            cases hq
            have : hgt v = false := eb
            rw [this]
            simp
          · rfl
        rw [e] at q
        exact iteF (dropQ.of dr q)
      | true =>
        cases a with
        | str z =>
          cases b with
          | int v =>
            have mz : z ∈ ds.map nmOf := of_decide_eq_true ea
            obtain ⟨d', md, rfl⟩ := List.mem_map.mp mz
            cases (show va = .str (nmOf d') from ha)
            cases (show vb = .int v from hb)
            have gd := (nd_names L).2
            refine iteT ⟨_, rfl, t, _, 1, _, rfl, rfl, SqT.of (S _ _ o), atI_nat (j := 1) rfl, _, rfl, p, dx, _, rfl, S _ _ hx, no _ (by decide +kernel) (by decide +kernel), _, rfl, t, _, 0, _, rfl, rfl, SqT.of (S _ _ o), atI_nat (j := 0) rfl, _, _, rfl, p, fs, ds, d', rfl, rfl, L.same S, md, fun v1 iv1 => ?_⟩
            have ec := crown_at gd.nd md
            obtain ⟨n, a', b', c, r, sl, rfl, _⟩ := dyke_shape (gd.all d' md)
            obtain ⟨t', sv, rfl, o', _⟩ := dyke_row iv1
            refine ⟨t', _, 3, .int c, rfl, rfl, SqT.of o', atI_nat (j := 3) rfl, _, _, rfl, rfl, dropQ.of dr ?_⟩
            have e : isWork ds (.tup [.str (nmOf (.tup [.str n, .str a', .str b', .int c, .int r, sl])), .int v]) = decide (c ≤ v) := by
              show (decide (_ ∈ ds.map nmOf) && (hgt v && decide (crownOf ds _ ≤ v))) = _
              rw [decide_eq_true mz, show hgt v = true from eb, ec]
              rfl
            rw [e] at q
            exact q
          | _ => cases eb
        | _ => cases ea
  · have e1' : isWork ds d = false := by
      unfold isWork
      split
      · rename_i z v
        exact absurd ⟨_, _, rfl⟩ h2
      · rfl
    have e2' : tupIs 2 d = false := by
      cases d with
      | tup ds' =>
        refine decide_eq_false (fun e => ?_)
        have e' : ds'.length = 2 := by omega
        match ds', e', h2 with
        | [a, b], _, h2 => exact h2 ⟨a, b, rfl⟩
      | _ => rfl
    dsimp only
    rw [e2']
    rw [e1'] at q
    exact iteT (dropQ.of (.refl _) q)
def spWorks (C : Addr) : Sp := sp2 fun x y H Q => ∃ (p : Addr) (fs ds : List Dv) (d : Dv), x = .ref p ∧ LandAt C H p fs ds ∧ Is H d y ∧ small d = true ∧ Q (.bl (areWorks ds d)) H
theorem ok_p_are_works (T : Txt K mg C) : Fc P w K mg base 4 "are_works" ["land", "thing"] (spWorks C) := by
  have G_p_is_work : Fc P w K mg base 3 "is_work" ["land", "thing"] (spWork C) := ok_p_is_work T
  have G_p_none_twice : Fc P w K mg base 1 "none_twice" ["rows"] spTwice := ok_p_none_twice T
  refine T.d_p_are_works.fcD sc_p_are_works len2 (fun f cdv A outer s H vs Q E hr h => ?_)
  obtain ⟨x, y, rfl, p0, fs, ds0, d, rfl, L, hd, hs, q⟩ := h
  have big := big1000
  obtain ⟨t, ty, e1, e2, e3, e4, _⟩ := Is_kit K hd
  refine ⟨_, (@pss_one _ _ _ (@ps_ret _ _ _ _ (@pe_and _ _ _ _ _ _ _ (@pe_callB _ _ _ _ _ _ _ _ _ (@call_isinstB _ (K) rfl) rfl T.n_isinstance boot_isinstance (@pa_cons _ _ _ _ _ (pv 1) (@pa_cons _ _ _ _ _ (@pe_ty _ _ _ _ T.n_list boot_list' (by rfl) (by decide) (by decide)) pa_nil (by rfl)) (by rfl)) (by decide) (by decide) (by rfl) (by rfl)) (@pe_and _ _ _ _ _ _ _ (@pe_callB _ _ _ _ _ _ _ _ _ (@call_all _ rfl) rfl T.n_all boot_all' (@pa_cons _ _ _ _ _ (@pe_comp _ _ _ _ _ _ _ _ _ _ _ ["row", "land"] 1 [0] rfl (@pi_list _ _ _ _ (pv 1)) (fun R => @pg_name _ _ (0) _ (show List.Nodup (["row", "land"] : List Str) by decide +kernel) rfl (Or.inl rfl) (by first | exact .inl rfl | exact .inr rfl | assumption)) (@gkeep_name _ _ (by decide)) (fun R => pifs_nil) (fun R => (@pe_c _ _ _ _ _ _ _ _ _ _ G_p_is_work (hr.mono (by decide)) (@pa_cons _ _ _ _ _ (pv 1) (@pa_cons _ _ _ _ _ (pv 0) pa_nil (by rfl)) (by rfl)) (by rfl) (by decide) (by rfl) (by rfl))) (by rfl) (by rfl) (by rfl) (by rfl) (by rfl) (by rfl) (by rfl) (by intro _; rfl)) pa_nil (by rfl)) (by decide) (by decide) (by rfl) (by rfl)) (@pe_one _ _ _ _ _ (@pe_c _ _ _ _ _ _ _ _ _ _ G_p_none_twice (hr.mono (by decide)) (@pa_cons _ _ _ _ _ (pv 1) pa_nil (by rfl)) (by rfl) (by decide) (by rfl) (by rfl))))))), ?_⟩
  refine ⟨_, rfl, _, _, _, t, _, rfl, rfl, ty, e4, _, rfl, ?_⟩
  cases d with
  | lst ds =>
    obtain ⟨p, us, rfl, o, hi⟩ := hd
    have l1 := hi.length
    have hs' := Bool.and_eq_true_iff.mp (show (decide (ds.length ≤ 1000) && smallL ds) = true from hs)
    have l2 : ds.length ≤ 1000 := of_decide_eq_true hs'.1
    have q : Q (.bl (ds.all (isWork ds0) && decide ((ds.map firstS).Nodup))) H := q
    refine iteT ⟨_, rfl, p, rfl, ⟨_, SqL.of o⟩, ?_⟩
    refine comp_list (F := K) (xs := us) (by omega) (fun i ys H' => H' = H ∧ ys = (ds.take i).map fun d => V.bl (isWork ds0 d)) ⟨rfl, rfl⟩ ?_ ?_ ?_
    · rintro i ys H' hi' ⟨rfl, rfl⟩
      exact ⟨SqL.of o, by rw [List.length_map, List.length_take]; omega⟩
    · rintro i x ys H' K1 K2 hx ⟨rfl, rfl⟩ k1 k2
      have hil : i < us.length := (List.getElem?_eq_some_iff.mp hx).1
      obtain ⟨d, ed⟩ : ∃ d, ds[i]? = some d := ⟨_, List.getElem?_eq_getElem (by omega)⟩
      obtain ⟨v, ev, iv⟩ := hi.get ed
      rw [hx] at ev
      cases ev
      refine ⟨_, rfl, _, rfl, _, _, rfl, p0, fs, ds0, d, rfl, L, iv, k1 _ _ ⟨rfl, ?_⟩⟩
      rw [List.take_add_one, ed]
      simp
    · rintro ys H' ⟨rfl, rfl⟩
      intro p1 hp1
      have np : p ≠ p1 := ne_of_none o hp1
      refine ⟨p1, ds.map (isWork ds0), rfl, SqL.of ?_, _, rfl, ?_⟩
      · rw [upd_same, List.take_of_length_le (by omega), List.map_map]
        rfl
      have e1 : (ds.map (isWork ds0)).all id = ds.all (isWork ds0) := by rw [List.all_map]; rfl
      rw [e1]
      refine ite2 (fun h2 => ?_) (fun h2 => ?_)
      · rw [h2, Bool.true_and] at q
        obtain ⟨zs, ez⟩ := firsts_of work_first h2
        have l3 : zs.length = ds.length := by have := congrArg List.length ez; simpa using this.symm
        refine ⟨_, rfl, _, rfl, p, us, ds, zs, rfl, by rw [upd_ne np]; exact o, IsL.same (Same.upd hp1) _ _ hi, ez, by omega, ?_⟩
        have e2 : decide zs.Nodup = decide (ds.map firstS).Nodup := by rw [ez, Bool.eq_iff_iff, decide_eq_true_iff, decide_eq_true_iff, nodup_some]
        rw [e2]
        exact dropQ.of (Drop.lst hp1) q
      · have h2' : ds.all (isWork ds0) = false := by simpa using h2
        rw [h2'] at q
        exact dropQ.of (Drop.lst hp1) q
  | _ => exact iteF (dropQ.of (.refl _) q)
def spCrown : Sp := sp2 fun x y H Q => ∃ (t : Addr) (n a b : Str) (c r h : Int) (sv : V), x = .ref t ∧ y = .int h ∧ H t = some (.tup [.str n, .str a, .str b, .int c, .int r, sv]) ∧
  ∀ (p : Addr) (H' : Hp), Same H H' → H' p = some (.tup [.str n, .str a, .str b, .int h, .int r, sv]) → Q (.ref p) H'
theorem ok_p_with_crown (T : Txt K mg C) : Fc P w K mg base 1 "with_crown" ["dyke", "crown"] spCrown := by
  refine T.d_p_with_crown.fc sc_p_with_crown len2 (fun f cdv A outer s H vs Q E hr h => ?_)
  obtain ⟨x, y, rfl, t, n, a, b, c, r, h, sv, rfl, rfl, o, q⟩ := h
  refine ⟨_, (@pss_one _ _ _ (@ps_ret _ _ _ _ (@pe_op _ _ _ _ _ _ _ _ (@op_catTB _ (K) rfl) (@pe_op _ _ _ _ _ _ _ _ (@op_catTB _ (K) rfl) (@pe_slice _ _ _ _ _ _ _ _ _ _ (@sl_tupB _ (K) rfl) (pv 0) po_none (@po_some _ _ _ pe_int)) (@pe_tup _ _ _ _ _ (@pa_cons _ _ _ _ _ (pv 1) pa_nil (by rfl)))) (@pe_slice _ _ _ _ _ _ _ _ _ _ (@sl_tupB _ (K) rfl) (pv 0) (@po_some _ _ _ pe_int) po_none)))), ?_⟩
  refine ⟨_, rfl, _, rfl, t, _, rfl, SqT.of o, (fun w => absurd (show HT.sIx 6 6 (some 3) = 6 from w.2) (by decide)), fun p1 hp1 => ?_⟩
  have S1 := Same.upd (o := .tup [.str n, .str a, .str b]) hp1
  refine ⟨_, rfl, small_le rfl, fun p2 hp2 => ?_⟩
  have S2 := Same.upd (o := .tup [.int h]) hp2
  refine ⟨p1, p2, [.str n, .str a, .str b], [.int h], rfl, rfl, SqT.of (S2 _ _ upd_same), SqT.of upd_same, (by intro w; cases w), small_le rfl, (fun w => by cases w), fun _ p3 hp3 => ?_⟩
  have S3 := Same.upd (o := .tup ([.str n, .str a, .str b] ++ [.int h])) hp3
  have T3 := S1.trans (S2.trans S3)
  refine ⟨_, rfl, _, rfl, t, _, rfl, SqT.of (T3 _ _ o), (fun w => absurd (show HT.sIx 6 0 (some 4) = 0 from w.1) (by decide)), fun p4 hp4 => ?_⟩
  have S4 := Same.upd (o := .tup [.int r, sv]) hp4
  refine ⟨p3, p4, [.str n, .str a, .str b] ++ [.int h], [.int r, sv], rfl, rfl, SqT.of (S4 _ _ upd_same), SqT.of upd_same, (by intro w; cases w), small_le rfl, (fun w => by cases w), fun _ p5 hp5 => ?_⟩
  have S5 := Same.upd (o := .tup (([.str n, .str a, .str b] ++ [.int h]) ++ [.int r, sv])) hp5
  exact q p5 _ (T3.trans (S4.trans S5)) upd_same
theorem work_row {H : Hp} {z : Str} {v : Int} {x : V} (h : Is H (.tup [.str z, .int v]) x) : ∃ t, x = .ref t ∧ H t = some (.tup [.str z, .int v]) := by
  obtain ⟨t, us, rfl, o, v0, r0, rfl, i0, v1, r1, rfl, i1, h0⟩ := h
  cases (show r1 = [] from h0)
  cases (show v0 = _ from i0)
  cases (show v1 = _ from i1)
  exact ⟨t, rfl, o⟩
theorem works_pairs {ds : List Dv} {H : Hp} : ∀ {ws : List Dv} {us : List V}, (∀ d ∈ ws, isWork ds d = true) → IsL H ws us → PairsAt H us (ws.map kvOf)
  | [], _, _, e => by rw [show _ = [] from e]; exact PairsAt.nil _
  | d :: ws, _, g, ⟨v, r, e, h, t⟩ => by
    subst e
    obtain ⟨z, n, rfl, _⟩ := work_shape (g d List.mem_cons_self)
    obtain ⟨a, rfl, o⟩ := work_row h
    exact .cons ⟨a, rfl, o⟩ (works_pairs (fun e m => g e (List.mem_cons_of_mem _ m)) t)
theorem works_keys (ws : List Dv) : (ws.map kvOf).map (·.1) = ws.map keyOf := by
  rw [List.map_map]
  rfl
def spRaised (C : Addr) : Sp := sp2 fun x y H Q => ∃ (p : Addr) (fs ds ws : List Dv), x = .ref p ∧ LandAt C H p fs ds ∧ Is H (.lst ws) y ∧ ws.length ≤ 1000 ∧ GoodW ds ws ∧ ∀ (p' : Addr) (H' : Hp), Same H H' → H p' = none → LandAt C H' p' fs (raisedD ds ws) → Q (.ref p') H'
theorem getD_int {o : Option Int} {c : Int} : (o.map V.int).getD (.int c) = .int (o.getD c) := by cases o <;> rfl
theorem ok_land_p_raised (T : Txt K mg C) : Mc P w K mg base 8 C "raised" ["self", "works"] (spRaised C) := by
  have G_p_are_works : Fc P w K mg base 4 "are_works" ["land", "thing"] (spWorks C) := ok_p_are_works T
  have G_land_p_dykes : Mc P w K mg base 1 C "dykes" ["self"] (spRowsX C fun _ ds => ds) := ok_land_p_dykesX T
  have G_land_p_fields : Mc P w K mg base 1 C "fields" ["self"] (spRowsX C fun fs _ => fs) := ok_land_p_fieldsX T
  have G_p_with_crown : Fc P w K mg base 1 "with_crown" ["dyke", "crown"] spCrown := ok_p_with_crown T
  have G_land_pinit : Ic P w K mg base 6 C ["self", "fields", "dykes"] (spInit C) := ok_land_pinit T
  refine T.m_land_p_raised.mc sc_land_p_raised len2 (fun f cdv A outer s H vs Q E hr h => ?_)
  obtain ⟨x, y, rfl, p, fs, ds, ws, rfl, L, hw, lw, gw, q⟩ := h
  have big := big1000
  have hu := hu_of hr
  obtain ⟨dx, e1, e2, hx, _⟩ := L.ex
  have no : ∀ m : Str, ¬ m = "dyke_rows" → ¬ m = "field_rows" → (landF e1 e2).lookup m = none := fun m h1 h2 => landF_no _ _ h1 h2
  have gf := (nd_names L).1
  have gd := (nd_names L).2
  have d2 := gd.l2
  have f2 := gf.l2
  have fa : ∀ d ∈ fs, isField d = true := gf.all
  have sw : small (.lst ws) = true := lst_small (fun d m => by
    obtain ⟨z, v, rfl, hz, _⟩ := work_shape (gw.all d m)
    obtain ⟨d', md, rfl⟩ := List.mem_map.mp hz
    obtain ⟨n, a, b, c, r, sl, rfl, hn, _⟩ := dyke_shape (gd.all d' md)
    have e := name_small hn
    show (decide (2 ≤ 1000) && (decide (n.length ≤ 1000) && (true && true))) = true
    rw [decide_eq_true e]
    rfl) lw
  refine ⟨_, (@pss_cons _ _ _ _ _ (@ps_if _ _ _ _ _ _ _ _ (@pt_not _ _ _ _ (@pt_val _ _ _ (@pe_c _ _ _ _ _ _ _ _ _ _ G_p_are_works (hr.mono (by decide)) (@pa_cons _ _ _ _ _ (pv 0) (@pa_cons _ _ _ _ _ (pv 1) pa_nil (by rfl)) (by rfl)) (by rfl) (by decide) (by rfl) (by rfl)) (by intro _; rfl))) (@pss_one _ _ _ ps_never) pss_nil) (@pss_cons _ _ _ _ _ (@ps_set _ _ (2) _ _ _ _ sc_land_p_raised.nd rfl (Or.inr rfl) (@pe_callTy _ _ _ _ _ _ _ _ _ (@call_dict_pairs _ rfl) rfl T.n_dict boot_dict' (@pa_cons _ _ _ _ _ (pv 1) pa_nil (by rfl)) (by decide) (by decide) (by rfl) (by rfl)) (by rfl) (by first | exact .inl rfl | exact .inr rfl | assumption)) (@pss_cons _ _ _ _ _ (@ps_setComp _ (3) _ _ _ _ _ _ _ _ _ _ _ _ _ sc_land_p_raised.nd rfl ["dyke", "crowns"] 1 [2] rfl (@pi_list _ _ _ _ (@pe_m0 _ _ _ _ _ _ _ _ _ _ _ T.cl_Land G_land_p_dykes (hr.mono (by decide)) (pv 0) (by rfl))) (fun R => @pg_name _ _ (0) _ (show List.Nodup (["dyke", "crowns"] : List Str) by decide +kernel) rfl (Or.inl rfl) (by first | exact .inl rfl | exact .inr rfl | assumption)) (@gkeep_name _ _ (by decide)) (fun R => pifs_nil) (fun R => (@pe_c _ _ _ _ _ _ _ _ _ _ G_p_with_crown (hr.mono (by decide)) (@pa_cons _ _ _ _ _ (pv 0) (@pa_cons _ _ _ _ _ (@pe_dget2 _ _ _ _ _ _ _ _ _ hu (pv 1) (@pe_ix _ _ _ _ _ _ _ (@ix_tupB _ (K) rfl) (pv 0) pe_int (fun _ _ => rfl)) (@pe_ix _ _ _ _ _ _ _ (@ix_tupB _ (K) rfl) (pv 0) pe_int (fun _ _ => rfl)) ⟨rfl, rfl, rfl, rfl⟩) pa_nil (by rfl)) (by rfl)) (by rfl) (by decide) (by rfl) (by rfl))) (by exact Or.inl rfl) (by first | exact .inl rfl | exact .inr rfl | assumption) (by rfl) (by rfl) (by rfl) (by rfl) (by rfl) (by rfl) (by rfl) (by rfl) (by intro _; rfl)) (@pss_one _ _ _ (@ps_ret _ _ _ _ (@pe_mk _ _ _ _ _ _ _ _ _ _ _ T.mg_Land G_land_pinit (hr.mono (by decide)) (@pa_cons _ _ _ _ _ (@pe_m0 _ _ _ _ _ _ _ _ _ _ _ T.cl_Land G_land_p_fields (hr.mono (by decide)) (pv 0) (by rfl)) (@pa_cons _ _ _ _ _ (pv 3) pa_nil (by rfl)) (by rfl)) (by rfl) (by decide) (by rfl) (by rfl))))))), ?_⟩
  refine ⟨_, rfl, _, rfl, _, _, rfl, p, fs, ds, .lst ws, rfl, L, hw, sw, _, rfl, ?_⟩
  rw [(goodW_iff ds ws).mpr gw]
  refine iteF ?_
  obtain ⟨a, us, rfl, ho, hi⟩ := hw
  refine ⟨_, rfl, a, us, ws.map kvOf, rfl, SqL.of ho, works_pairs gw.all hi, by rw [List.length_map]; exact lw, by rw [works_keys]; exact key_nodup gw.nd, fun cd hcd => ?_⟩
  have S1 := Same.upd (o := .dK (ws.map kvOf)) hcd
  refine ⟨_, rfl, p, dx, _, rfl, S1 _ _ hx, no _ (by decide +kernel) (by decide +kernel), _, rfl, p, fs, ds, rfl, L.same S1, fun l vs hl hv => ?_⟩
  have S2 := Same.upd (o := .lst vs) hl
  have hcd2 : upd (upd H cd (.dK (ws.map kvOf))) l (.lst vs) cd = some (.dK (ws.map kvOf)) := S2 _ _ upd_same
  have hl2 : upd (upd H cd (.dK (ws.map kvOf))) l (.lst vs) l = some (.lst vs) := upd_same
  have hv2 := IsL.same S2 _ _ hv
  have T2 := S1.trans S2
  generalize upd (upd H cd (.dK (ws.map kvOf))) l (.lst vs) = H2 at hcd2 hl2 hv2 T2
  have lv : vs.length = ds.length := hv2.length
  refine ⟨l, rfl, ⟨_, SqL.of hl2⟩, ?_⟩
  refine comp_list (F := K) (xs := vs) (by omega) (fun i ys H' => Same H2 H' ∧ IsL H' ((ds.take i).map (newD ws)) ys) ⟨Same.refl _, rfl⟩ ?_ ?_ ?_
  · rintro i ys H' hi' ⟨S, ie⟩
    have := ie.length
    rw [List.length_map, List.length_take] at this
    exact ⟨SqL.of (S _ _ hl2), by omega⟩
  · rintro i xv ys H' K1 K2 hx' ⟨S, ie⟩ k1 k2
    have hil : i < vs.length := (List.getElem?_eq_some_iff.mp hx').1
    obtain ⟨d, ed⟩ : ∃ d, ds[i]? = some d := ⟨_, List.getElem?_eq_getElem (by omega)⟩
    obtain ⟨v, ev, iv⟩ := (show IsL H2 ds vs from hv2).get ed
    rw [hx'] at ev
    cases ev
    obtain ⟨n, a', b', c, r, sl, rfl, _⟩ := dyke_shape (gd.all d (List.mem_of_getElem? ed))
    obtain ⟨t, sv, rfl, o, isv⟩ := dyke_row iv
    refine ⟨_, rfl, _, rfl, cd, rfl, .inl ⟨_, .inl (S _ _ hcd2)⟩, _, rfl, t, _, 0, .str n, rfl, rfl, SqT.of (S _ _ o), atI_nat (j := 0) rfl, _, rfl, t, _, 3, .int c, rfl, rfl, SqT.of (S _ _ o), atI_nat (j := 3) rfl, _, DGet.k (k := Sum.inr n) (S _ _ hcd2), ?_⟩
    refine ⟨_, _, rfl, t, n, a', b', c, r, (wAt ws n).getD c, sv, rfl, by rw [valV_works, getD_int], S _ _ o, fun p3 H3 S3 hp3 => k1 _ _ ⟨S.trans S3, ?_⟩⟩
    rw [List.take_add_one, ed, List.map_append]
    refine IsL.snoc ?_ (IsL.same S3 _ _ ie)
    exact ⟨p3, _, rfl, hp3, .str n, _, rfl, rfl, .str a', _, rfl, rfl, .str b', _, rfl, rfl, .int _, _, rfl, rfl, .int r, _, rfl, rfl, sv, _, rfl, Is.same (S.trans S3) _ _ isv, rfl⟩
  rintro ys H3 ⟨S3, ie⟩
  rw [List.take_of_length_le (by omega)] at ie
  intro p4 hp4
  have S4 := Same.upd (o := .lst ys) hp4
  have hp4' : upd H3 p4 (.lst ys) p4 = some (.lst ys) := upd_same
  have ie4 := IsL.same S4 _ _ ie
  have T4 := T2.trans (S3.trans S4)
  generalize upd H3 p4 (.lst ys) = H4 at hp4' ie4 T4
  refine ⟨_, rfl, p, dx, _, rfl, T4 _ _ hx, no _ (by decide +kernel) (by decide +kernel), _, rfl, p, fs, ds, rfl, L.same T4, fun l5 v5 hl5 hv5 => ?_⟩
  have S5 := Same.upd (o := .lst v5) hl5
  refine ⟨_, rfl, fun p' dx' np' ndx' nex' => ?_⟩
  have S6 : Same (upd H4 l5 (.lst v5)) (upd (upd (upd H4 l5 (.lst v5)) dx' (.own p')) p' (.ins C dx' [])) := fun b o e => by
    rw [upd_ne (ne_of_none e np'), upd_ne (ne_of_none e ndx')]
    exact e
  have gd' := raised_good gd gw
  have d2' := gd'.l2
  refine ⟨_, _, _, rfl, p', dx', fs, raisedD ds ws, rfl, upd_same, ⟨l5, v5, rfl, S6 _ _ upd_same, IsL.same (S5.trans S6) _ _ hv5⟩, ⟨p4, ys, rfl, S6 _ _ (S5 _ _ hp4'), IsL.same (S5.trans S6) _ _ ie4⟩, lst_small (fun d m => field_small (fa d m)) (by omega), lst_small (fun d m => dyke_small fa (gd'.all d m)) (by omega), L.okf, (goodD_iff _ _).mpr gd', fun H' L' fr => ⟨rfl, ?_⟩⟩
  refine q p' H' (fun b o e => ?_) (T4.free (S5.free np')) L'
  have e' := S5 _ _ (T4 _ _ e)
  exact fr b o (S6 _ _ e') (ne_of_none e' np')

open Mt13
def spDue (K : PySem.W.Frag) : Sp := sp1 fun x H Q => Pl K H x ∧ (∀ z, x = .str z → z.length ≤ 100) ∧ Q (dueV x) H
theorem starts_zero (x : Str) : (decide (0 + ("0" : Str).length ≤ x.length) && Builtin.Str.subAt x "0" 0) = (x.cps.toList.head? == some 48) := by
  rw [zero_is]; exact starts_one x 48
theorem starts_dash (x : Str) : (decide (0 + ("-" : Str).length ≤ x.length) && Builtin.Str.subAt x "-" 0) = neg x := by
  rw [dash_is]; exact starts_one x 45
def spDue2 (K : PySem.W.Frag) : Sp := sp2 fun x y H Q => y = .int 7 ∧ Pl K H x ∧ (∀ z, x = .str z → z.length ≤ 100) ∧ Q (dueV x) H
theorem ok_p_number_within (T : Txt K mg C) : Fc P w K mg base 1 "number_within" ["word", "most"] (spDue2 K) := by
  refine T.d_p_number_within.fcD sc_p_number_within len2 (fun f cdv A outer s H vs Q E hr h => ?_)
  obtain ⟨x, y, rfl, rfl, hp, hz, q⟩ := h
  obtain ⟨t, ty, e1, e2, e3⟩ := hp.ty
  have big := big1000
  obtain ⟨u2, pu2, hu2⟩ : ∃ u, PSs (cxOf CX0 P w K mg base ["word", "most", "figures"] "number_within" (defScope s_p_number_within) f cdv A outer s H E).nox ((defBody s_p_number_within).drop 2) u ∧
      ∀ (z sz : Str), x = .str z → sz.cps.toList = figs z → u { nx := fun _ H' => dropQ Q .non H', rt := dropQ Q } [some (.str z), some (.int 7), some (.str sz)] H := by
    refine ⟨_, (@pss_cons _ _ _ _ _ (@ps_if _ _ _ _ _ _ _ _ (@PW.pt _ _ _ (@pw_or _ _ _ _ _ _ _ (@pt_not _ _ _ _ (@pt_chain _ _ _ _ _ _ _ _ _ _ _ _ op_le op_le pe_int (@pe_callB _ _ _ _ _ _ _ _ _ call_len_str rfl T.n_len boot_len' (@pa_cons _ _ _ _ _ (pv 2) pa_nil (by rfl)) (by decide) (by decide) (by rfl) (by rfl)) (pv 1) (by with_unfolding_all rfl))) (@pw_or1 _ _ _ _ (@pt_not _ _ _ _ (@pt_val _ _ _ (@pe_callB _ _ _ _ _ _ _ _ _ (@call_all _ rfl) rfl T.n_all boot_all' (@pa_cons _ _ _ _ _ (@pe_comp _ _ _ _ _ _ _ _ _ _ _ ["sign"] 1 [] rfl (@pi_str _ _ _ _ (pv 2)) (fun R => @pg_name _ _ (0) _ (show List.Nodup (["sign"] : List Str) by decide +kernel) rfl (Or.inl rfl) (by first | exact .inl rfl | exact .inr rfl | assumption)) (@gkeep_name _ _ (by decide)) (fun R => pifs_nil) (fun R => (@pe_cmpR _ _ _ _ _ _ _ _ op_in_str (pv 0) (@pe_g _ _ _ _ T.g_FIGURES (by rfl) (by decide)) (by with_unfolding_all rfl))) (by rfl) (by rfl) (by rfl) (by rfl) (by rfl) (by rfl) (by rfl) (by intro _; rfl)) pa_nil (by rfl)) (by decide) (by decide) (by rfl) (by rfl)) (by intro _; rfl)))))) (@pss_one _ _ _ (@ps_ret _ _ _ _ pe_non)) pss_nil) (@pss_cons _ _ _ _ _ (@ps_if _ _ _ _ _ _ _ _ (@PW.pt _ _ _ (@pw_and _ _ _ _ _ _ _ (@pt_val _ _ _ (@pe_bm _ _ _ _ _ _ _ _ _ _ _ _ PySem.F.plainAttrs_str PySem.F.slot_str_startswith PySem.F.type_str_startswith mt_startswith (pv 2) (@pa_cons _ _ _ _ _ pe_str pa_nil (by rfl)) (by rfl) (by rfl) (by rfl) (by rfl) (by rfl)) (by intro _; rfl)) (@pw_and1 _ _ _ _ (@pt_cmpR _ _ _ _ _ _ _ _ op_ne (pv 0) pe_str (@nomark _ _ (by decide) (by decide)))))) (@pss_one _ _ _ (@ps_ret _ _ _ _ pe_non)) pss_nil) (@pss_one _ _ _ (@ps_ret _ _ _ _ (@pe_callTy _ _ _ _ _ _ _ _ _ call_int_text rfl T.n_int boot_int' (@pa_cons _ _ _ _ _ (pv 0) pa_nil (by rfl)) (by decide) (by decide) (by rfl) (by rfl)))))), ?_⟩
    rintro z sz rfl hsz
    have hz := hz z rfl
    have hl := size_len hsz
    have hl2 := figs_le z
    have hss : sz.length ≤ sizeLine := by omega
    have q : Q (match dueN z with | some n => .int n | none => .non) H := q
    refine ⟨_, rfl, sz, rfl, hss, _, _, rfl, rfl, _, rfl, ?_⟩
    refine ite2 (fun h1 => ?_) (fun h1 => ?_)
    · have h1' : ¬ (figs z).length < 1 := by have := of_decide_eq_true h1; omega
      refine ⟨_, rfl, _, _, rfl, rfl, _, rfl, ?_⟩
      cases h2 : decide ((sz.length : Int) ≤ 7) with
      | false =>
        have h2' : 7 < (figs z).length := by
          have := of_decide_eq_false h2
          omega
        have e : dueN z = none := by unfold dueN; rw [if_neg h1', if_pos h2']
        rw [e] at q
        exact iteT (dropQ.of (.refl _) q)
      | true =>
        have h2' : ¬ 7 < (figs z).length := by
          have := of_decide_eq_true h2
          omega
        refine iteF ?_
        refine ⟨_, rfl, sz, rfl, ?_⟩
        refine comp_str (Nat.le_trans (show sz.length ≤ sizeLine from hss) (Nat.le_refl _)) (fun i ys H' => H' = H ∧ ys = (sz.cps.toList.take i).map fun c => V.bl (dig c)) ⟨rfl, rfl⟩ ?_ ?_ ?_
        · rintro i ys H' ⟨_, rfl⟩
          rw [List.length_map, List.length_take]
          omega
        · rintro i c ys H' K1 K2 hc ⟨rfl, rfl⟩ k1 k2
          refine ⟨_, rfl, _, _, rfl, rfl, k1 _ _ ⟨rfl, ?_⟩⟩
          have hc' : sz.cps.toList[i]? = some c := by simpa using hc
          rw [List.take_add_one, hc', in_digits]
          simp
        · rintro ys H' ⟨rfl, rfl⟩
          intro p hp'
          refine ⟨p, (figs z).map dig, rfl, SqL.of ?_, _, rfl, ?_⟩
          · rw [upd_same, List.take_of_length_le (by simp), List.map_map, hsz]
            rfl
          rw [List.all_map]
          show if (!(figs z).all dig) = true then _ else _
          cases h3 : (figs z).all dig with
          | false =>
            have e : dueN z = none := by
              unfold dueN
              rw [if_neg h1', if_neg h2', h3]
              split <;> rfl
            rw [e] at q
            exact iteT (dropQ.of (Drop.lst hp') q)
          | true =>
            refine iteF ?_
            refine ⟨_, rfl, rfl, _, _, rfl, rfl, _, rfl, ?_⟩
            rw [starts_zero, hsz]
            have fin : ¬ (((figs z).head? == some 48) = true ∧ ¬ z = "0") → ∀ Hx, Drop Hx H' → ∃ v, ([some (V.str z), some (V.int 7), some (V.str sz)] : St)[0]? = some (some v) ∧ ∃ x n, [v] = [V.str x] ∧ PySem.intText? x = some n ∧ x.length ≤ 640 ∧ dropQ Q (.int n) Hx := fun h4 Hx dx => by
              have e : dueN z = some (if neg z then -((PySem.NumText.digitsVal (figs z) : Nat) : Int) else ((PySem.NumText.digitsVal (figs z) : Nat) : Int)) := by
                unfold dueN
                rw [if_neg h1', if_neg h2', if_neg h4, if_pos h3]
              rw [e] at q
              refine ⟨_, rfl, z, _, rfl, whole_text (fun c => by rw [c] at h1'; exact h1' (by decide)) hz h3, by omega, dropQ.of dx q⟩
            refine ite2 (fun h4 => ?_) (fun h4 => ?_)
            · refine ⟨_, rfl, rfl, _, rfl, ?_⟩
              rw [dec_strs]
              refine ite2 (fun h5 => ?_) (fun h5 => ?_)
              · have e : dueN z = none := by
                  unfold dueN
                  rw [if_neg h1', if_neg h2', if_pos]
                  refine ⟨h4, fun c => ?_⟩
                  rw [decide_eq_true c] at h5
                  cases h5
                rw [e] at q
                exact dropQ.of (Drop.lst hp') q
              · refine fin (fun c => ?_) _ (Drop.lst hp')
                rw [decide_eq_false c.2] at h5
                exact h5 rfl
            · exact iteF (fin (fun c => h4 c.1) _ (Drop.lst hp'))
    · have h1' : (figs z).length < 1 := Nat.lt_of_not_le fun c => h1 (decide_eq_true (by omega))
      have e : dueN z = none := by unfold dueN; rw [if_pos h1']
      rw [e] at q
      exact ⟨_, rfl, iteT (dropQ.of (.refl _) q)⟩
  refine ⟨_, (@pss_cons _ _ _ _ _ (@ps_if _ _ _ _ _ _ _ _ (@pt_not _ _ _ _ (@pt_val _ _ _ (@pe_callB _ _ _ _ _ _ _ _ _ (@call_isinstB _ (K) rfl) rfl T.n_isinstance boot_isinstance (@pa_cons _ _ _ _ _ (pv 0) (@pa_cons _ _ _ _ _ (@pe_ty _ _ _ _ T.n_str boot_str' (by rfl) (by decide) (by decide)) pa_nil (by rfl)) (by rfl)) (by decide) (by decide) (by rfl) (by rfl)) (by intro _; rfl))) (@pss_one _ _ _ (@ps_ret _ _ _ _ pe_non)) pss_nil) (@pss_cons _ _ _ _ _ (@ps_set _ _ (2) _ _ _ _ sc_p_number_within.nd rfl (Or.inl rfl) (@pe_ifExp _ _ _ _ _ _ _ _ (@pt_val _ _ _ (@pe_bm _ _ _ _ _ _ _ _ _ _ _ _ PySem.F.plainAttrs_str PySem.F.slot_str_startswith PySem.F.type_str_startswith mt_startswith (pv 0) (@pa_cons _ _ _ _ _ pe_str pa_nil (by rfl)) (by rfl) (by rfl) (by rfl) (by rfl) (by rfl)) (by intro _; rfl)) (@pe_slice _ _ _ _ _ _ _ _ _ _ sl_str (pv 0) (@po_some _ _ _ pe_int) po_none) (pv 0)) (by rfl) (by first | exact .inl rfl | exact .inr rfl | assumption)) pu2)), ?_⟩
  refine ⟨_, rfl, _, _, _, t, _, rfl, rfl, ty, e3, _, rfl, ?_⟩
  cases x with
  | str z =>
    have hz := hz z rfl
    refine iteF ?_
    refine ⟨_, rfl, rfl, _, _, rfl, rfl, _, rfl, ?_⟩
    rw [starts_dash]
    cases hn : neg z with
    | true => exact iteT ⟨_, rfl, _, rfl, z, rfl, by omega, hu2 z _ rfl (by rw [tail_codes]; unfold figs; rw [if_pos hn])⟩
    | false => exact iteF ⟨_, rfl, hu2 z z rfl (by unfold figs; rw [if_neg (by rw [hn]; exact Bool.false_ne_true)])⟩
  | non => exact iteT (dropQ.of (.refl _) q)
  | bl b => exact iteT (dropQ.of (.refl _) q)
  | int i => exact iteT (dropQ.of (.refl _) q)
  | ref a => exact iteT (dropQ.of (.refl _) q)
  | byt b => cases hp
  | flt b => cases hp
  | ty n => cases hp

theorem ok_p_number_of (T : Txt K mg C) : Fc P w K mg base 2 "number_of" ["word"] (spDue K) := by
  have G_p_number_within : Fc P w K mg base 1 "number_within" ["word", "most"] (spDue2 K) := ok_p_number_within T
  refine T.d_p_number_of.fcD sc_p_number_of len1 (fun f cdv A outer s H vs Q E hr h => ?_)
  obtain ⟨x, rfl, hp, hz, q⟩ := h
  refine ⟨_, (@pss_one _ _ _ (@ps_ret _ _ _ _ (@pe_c _ _ _ _ _ _ _ _ _ _ G_p_number_within (hr.mono (by decide)) (@pa_cons _ _ _ _ _ (pv 0) (@pa_cons _ _ _ _ _ (@pe_g _ _ _ _ T.g_MOST_FIGURES (by rfl) (by decide)) pa_nil (by rfl)) (by rfl)) (by rfl) (by decide) (by rfl) (by rfl)))), ?_⟩
  exact ⟨_, rfl, _, _, rfl, rfl, hp, hz, dropQ.of (.refl _) q⟩


open Mt13 Mt11
def toS (i : Int) : Str := Str.ofString (toString i)
def wordsF : Dv → List Str
  | .tup [.str z, .int g, .int u] => [("field" : Str), z, toS g, toS u]
  | _ => []
def sillW : Dv → List Str
  | .int s => [toS s]
  | _ => []
def wordsD : Dv → List Str
  | .tup [.str n, .str a, .str b, .int c, .int r, s] => ([("dyke" : Str), n, a, b, toS c, toS r] : List Str) ++ sillW s
  | _ => []
def rowOf (ws : List Str) : Str := Txt.join " " ws
theorem log_small {i : Int} (h : i.natAbs ≤ 1000000) : i.natAbs.log2 < 1920 := by
  have : i.natAbs < 2 ^ 60 := by omega
  by_cases h0 : i.natAbs = 0
  · rw [h0]; decide
  · exact Nat.lt_trans ((Nat.log2_lt h0).mpr this) (by decide)
theorem toS_len {i : Int} (h : i.natAbs ≤ 1000000) : (toS i).length ≤ 8 := by
  have e : (toS i).length = (toS i).cps.toList.length := by simp [Str.length]
  rw [e]
  unfold toS
  rw [int_codes]
  have := dg_len 6 i.natAbs (by omega)
  split
  · show _ + 1 ≤ _; omega
  · omega
theorem sum_le {k : Nat} : ∀ {zs : List Str}, (∀ z ∈ zs, z.length ≤ k) → (zs.map fun y => y.length).sum ≤ zs.length * k
  | [], _ => Nat.zero_le _
  | x :: l, h => by
    have h1 := h x List.mem_cons_self
    have h2 := sum_le fun z m => h z (List.mem_cons_of_mem _ m)
    show x.length + (l.map fun y => y.length).sum ≤ (l.length + 1) * k
    rw [Nat.add_mul, Nat.one_mul]
    omega
def spFRow : Sp := sp1 fun x H Q => ∃ (t : Addr) (z : Str) (g u : Int), x = .ref t ∧ H t = some (.tup [.str z, .int g, .int u]) ∧ z.length ≤ 8 ∧ g.natAbs ≤ 1000000 ∧ u.natAbs ≤ 1000000 ∧ ∀ H', Same H H' → Q (.str (rowOf ["field", z, toS g, toS u])) H'
theorem ok_p_field_row (T : Txt K mg C) : Fc P w K mg base 1 "field_row" ["field"] spFRow := by
  refine T.d_p_field_row.fc sc_p_field_row len1 (fun f cdv A outer s H vs Q E hr h => ?_)
  obtain ⟨x, rfl, t, z, g, u, rfl, o, hz, hg, hu', q⟩ := h
  have big := big1000
  have lg := toS_len hg
  have lu := toS_len hu'
  refine ⟨_, (@pss_one _ _ _ (@ps_ret _ _ _ _ (@pe_bm _ _ _ _ _ _ _ _ _ _ _ _ PySem.F.plainAttrs_str PySem.F.slot_str_join PySem.F.type_str_join mt_join pe_str (@pa_cons _ _ _ _ _ (@pe_op _ _ _ _ _ _ _ _ op_cat (@pe_lst _ _ _ _ (@pa_cons _ _ _ _ _ pe_str (@pa_cons _ _ _ _ _ (@pe_ix _ _ _ _ _ _ _ (@ix_tupB _ (K) rfl) (pv 0) pe_int (fun _ _ => rfl)) pa_nil (by rfl)) (by rfl))) (@pe_comp _ _ _ _ _ _ _ _ _ _ _ ["number"] 1 [] rfl (@pi_tup _ _ _ _ (@pe_slice _ _ _ _ _ _ _ _ _ _ (@sl_tupB _ (K) rfl) (pv 0) (@po_some _ _ _ pe_int) po_none)) (fun R => @pg_name _ _ (0) _ (show List.Nodup (["number"] : List Str) by decide +kernel) rfl (Or.inl rfl) (by first | exact .inl rfl | exact .inr rfl | assumption)) (@gkeep_name _ _ (by decide)) (fun R => pifs_nil) (fun R => (@pe_callTy _ _ _ _ _ _ _ _ _ call_str_int rfl T.n_str boot_str' (@pa_cons _ _ _ _ _ (pv 0) pa_nil (by rfl)) (by decide) (by decide) (by rfl) (by rfl))) (by rfl) (by rfl) (by rfl) (by rfl) (by rfl) (by rfl) (by rfl) (by intro _; rfl))) pa_nil (by rfl)) (by rfl) (by rfl) (by rfl) (by rfl) (by rfl)))), ?_⟩
  refine ⟨rfl, _, rfl, t, _, 0, .str z, rfl, rfl, SqT.of o, atI_nat (j := 0) rfl, small_le rfl, fun l1 h1 => ?_⟩
  have S1 := Same.upd (o := .lst [.str "field", .str z]) h1
  have r1 : upd H l1 (.lst [.str "field", .str z]) l1 = some (.lst [.str "field", .str z]) := upd_same
  generalize upd H l1 (.lst [.str "field", .str z]) = H1 at S1 r1
  refine ⟨_, rfl, _, rfl, t, _, rfl, SqT.of (S1 _ _ o), (fun w => absurd (show HT.sIx 3 0 (some 1) = 0 from w.1) (by decide)), fun q1 hq1 => ?_⟩
  have S2 := Same.upd (o := .tup (cutV [V.str z, V.int g, V.int u] (some 1) none)) hq1
  have r2 : upd H1 q1 (.tup (cutV [V.str z, V.int g, V.int u] (some 1) none)) q1 = some (.tup ([g, u].map V.int)) := upd_same
  generalize upd H1 q1 (.tup (cutV [V.str z, V.int g, V.int u] (some 1) none)) = H2 at S2 r2
  refine ⟨q1, rfl, ⟨_, SqT.of r2⟩, ?_⟩
  refine comp_tup (F := K) (xs := [g, u].map V.int) (by show 2 ≤ sizeLine; omega) (fun k ys H' => H2 = H' ∧ ys = (([g, u].take k).map toS).map V.str) ⟨rfl, rfl⟩ ?_ ?_ ?_
  · rintro k ys H' hk ⟨rfl, rfl⟩
    exact ⟨SqT.of r2, by rw [List.length_map, List.length_map, List.length_take]; omega⟩
  · rintro k xv ys H' K1 K2 hx ⟨rfl, rfl⟩ k1 k2
    obtain ⟨i, ei⟩ : ∃ i, [g, u][k]? = some i := by
      have := (List.getElem?_eq_some_iff.mp hx).1
      rw [List.length_map] at this
      exact ⟨_, List.getElem?_eq_getElem this⟩
    rw [List.getElem?_map, ei] at hx
    cases hx
    have hi : i.natAbs ≤ 1000000 := by
      have m := List.mem_of_getElem? ei
      simp only [List.mem_cons, List.mem_nil_iff, or_false] at m
      rcases m with rfl | rfl
      · exact hg
      · exact hu'
    refine ⟨_, rfl, i, rfl, log_small hi, k1 _ _ ⟨rfl, ?_⟩⟩
    rw [List.take_add_one, ei, List.map_append, List.map_append]
    rfl
  rintro ys H' ⟨rfl, rfl⟩
  intro l2 h2
  have S3 := Same.upd (o := .lst (([g, u].map toS).map V.str)) h2
  refine ⟨l1, l2, _, _, rfl, rfl, (S2.trans S3) _ _ r1, upd_same, by show 2 + 2 ≤ sizeLine; omega, fun l3 h3 => ?_⟩
  have S4 := Same.upd (o := .lst ([V.str "field", V.str z] ++ ([g, u].map toS).map V.str)) h3
  refine ⟨" ", l3, [("field" : Str), z, toS g, toS u], rfl, rfl, SqL.of upd_same, ?_, q _ (S1.trans (S2.trans (S3.trans S4)))⟩
  show (("field" : Str).length + (z.length + ((toS g).length + ((toS u).length + 0)))) + 4 * (" " : Str).length ≤ 16777216
  rw [show ("field" : Str).length = 5 by decide +kernel, show (" " : Str).length = 1 by decide +kernel]
  omega
def oV : Option Int → V
  | some i => .int i
  | none => .non
def spDRow : Sp := sp1 fun x H Q => ∃ (t : Addr) (n a b : Str) (c r : Int) (os : Option Int), x = .ref t ∧ H t = some (.tup [.str n, .str a, .str b, .int c, .int r, oV os]) ∧ n.length ≤ 8 ∧ a.length ≤ 8 ∧ b.length ≤ 8 ∧ c.natAbs ≤ 1000000 ∧ r.natAbs ≤ 1000000 ∧ (∀ s, os = some s → s.natAbs ≤ 1000000) ∧ ∀ H', Same H H' → Q (.str (rowOf ([("dyke" : Str), n, a, b] ++ ([some c, some r, os].filterMap id).map toS))) H'
theorem ok_p_dyke_row (T : Txt K mg C) : Fc P w K mg base 1 "dyke_row" ["dyke"] spDRow := by
  refine T.d_p_dyke_row.fc sc_p_dyke_row len1 (fun f cdv A outer s H vs Q E hr h => ?_)
  obtain ⟨x, rfl, t, n, a, b, c, r, os, rfl, o, hn, ha, hb, hc, hr', ho, q⟩ := h
  have big := big1000
  have all : ∀ i, some i ∈ [some c, some r, os] → i.natAbs ≤ 1000000 := fun i m => by
    simp only [List.mem_cons, List.mem_nil_iff, or_false] at m
    rcases m with m | m | m
    · cases m; exact hc
    · cases m; exact hr'
    · exact ho i m.symm
  refine ⟨_, (@pss_cons _ _ _ _ _ (@ps_setComp _ (1) _ _ _ _ _ _ _ _ _ _ _ _ _ sc_p_dyke_row.nd rfl ["number"] 1 [] rfl (@pi_tup _ _ _ _ (@pe_slice _ _ _ _ _ _ _ _ _ _ (@sl_tupB _ (K) rfl) (pv 0) (@po_some _ _ _ pe_int) po_none)) (fun R => @pg_name _ _ (0) _ (show List.Nodup (["number"] : List Str) by decide +kernel) rfl (Or.inl rfl) (by first | exact .inl rfl | exact .inr rfl | assumption)) (@gkeep_name _ _ (by decide)) (fun R => @pifs_one _ _ _ (@pt_cmpR _ _ _ _ _ _ _ _ op_notN (pv 0) pe_non (@nomark _ _ (by decide) (by decide)))) (fun R => (@pe_callTy _ _ _ _ _ _ _ _ _ call_str_int rfl T.n_str boot_str' (@pa_cons _ _ _ _ _ (pv 0) pa_nil (by rfl)) (by decide) (by decide) (by rfl) (by rfl))) (by exact Or.inl rfl) (by first | exact .inl rfl | exact .inr rfl | assumption) (by rfl) (by rfl) (by rfl) (by rfl) (by rfl) (by rfl) (by rfl) (by rfl) (by intro _; rfl)) (@pss_one _ _ _ (@ps_ret _ _ _ _ (@pe_bm _ _ _ _ _ _ _ _ _ _ _ _ PySem.F.plainAttrs_str PySem.F.slot_str_join PySem.F.type_str_join mt_join pe_str (@pa_cons _ _ _ _ _ (@pe_op _ _ _ _ _ _ _ _ op_cat (@pe_op _ _ _ _ _ _ _ _ op_cat (@pe_lst _ _ _ _ (@pa_cons _ _ _ _ _ pe_str pa_nil (by rfl))) (@pe_callTy _ _ _ _ _ _ _ _ _ (@call_list_ofB _ (K) rfl) rfl T.n_list boot_list' (@pa_cons _ _ _ _ _ (@pe_slice _ _ _ _ _ _ _ _ _ _ (@sl_tupB _ (K) rfl) (pv 0) po_none (@po_some _ _ _ pe_int)) pa_nil (by rfl)) (by decide) (by decide) (by rfl) (by rfl))) (pv 1)) pa_nil (by rfl)) (by rfl) (by rfl) (by rfl) (by rfl) (by rfl))))), ?_⟩
  refine ⟨_, rfl, _, rfl, t, _, rfl, SqT.of o, (fun w => absurd (show HT.sIx 6 0 (some 3) = 0 from w.1) (by decide)), fun q1 hq1 => ?_⟩
  have S1 := Same.upd (o := .tup (cutV [V.str n, V.str a, V.str b, V.int c, V.int r, oV os] (some 3) none)) hq1
  have r1 : upd H q1 (.tup (cutV [V.str n, V.str a, V.str b, V.int c, V.int r, oV os] (some 3) none)) q1 = some (.tup ([some c, some r, os].map oV)) := upd_same
  generalize upd H q1 (.tup (cutV [V.str n, V.str a, V.str b, V.int c, V.int r, oV os] (some 3) none)) = H1 at S1 r1
  refine ⟨q1, rfl, ⟨_, SqT.of r1⟩, ?_⟩
  refine comp_tup (F := K) (xs := [some c, some r, os].map oV) (by show 3 ≤ sizeLine; omega) (fun k ys H' => H1 = H' ∧ ys = ((([some c, some r, os].take k).filterMap id).map toS).map V.str ∧ ys.length ≤ k) ⟨rfl, rfl, Nat.le_refl _⟩ ?_ ?_ ?_
  · rintro k ys H' hk ⟨rfl, rfl, ll⟩
    exact ⟨SqT.of r1, ll⟩
  · rintro k xv ys H' K1 K2 hx ⟨rfl, rfl, ll⟩ k1 k2
    obtain ⟨e, ee⟩ : ∃ e, [some c, some r, os][k]? = some e := by
      have := (List.getElem?_eq_some_iff.mp hx).1
      rw [List.length_map] at this
      exact ⟨_, List.getElem?_eq_getElem this⟩
    rw [List.getElem?_map, ee] at hx
    cases hx
    have et : [some c, some r, os].take (k + 1) = [some c, some r, os].take k ++ [e] := by rw [List.take_add_one, ee]; rfl
    cases e with
    | none =>
      refine ⟨_, rfl, rfl, _, rfl, iteF (k2 _ ⟨rfl, ?_, by omega⟩)⟩
      rw [et, List.filterMap_append]
      show _ = ((_ ++ []).map toS).map V.str
      rw [List.append_nil]
    | some i =>
      refine ⟨_, rfl, rfl, _, rfl, iteT ⟨_, rfl, i, rfl, log_small (all i (List.mem_of_getElem? ee)), k1 _ _ ⟨rfl, ?_, by rw [List.length_append]; show _ + 1 ≤ _; omega⟩⟩⟩
      rw [et, List.filterMap_append, List.map_append, List.map_append]
      rfl
  rintro ys H' ⟨rfl, rfl, ll⟩
  intro l2 h2
  rw [List.take_of_length_le (by show 3 ≤ 3; decide)] at *
  generalize hns : ([some c, some r, os].filterMap id).map toS = nsx at *
  have nl : ∀ z ∈ nsx, z.length ≤ 8 := fun z m => by
    rw [← hns] at m
    obtain ⟨i, mi, rfl⟩ := List.mem_map.mp m
    obtain ⟨e, me, he⟩ := List.mem_filterMap.mp mi
    cases (show e = some i from he)
    exact toS_len (all i me)
  have nl3 : nsx.length ≤ 3 := by
    rw [← hns, List.length_map]
    exact List.length_filterMap_le _ _
  have S2 := Same.upd (o := .lst (nsx.map V.str)) h2
  have r2 : upd H1 l2 (.lst (nsx.map V.str)) l2 = some (.lst (nsx.map V.str)) := upd_same
  generalize upd H1 l2 (.lst (nsx.map V.str)) = H2 at S2 r2
  have T2 := S1.trans S2
  refine ⟨rfl, small_le rfl, fun l3 h3 => ?_⟩
  have S3 := Same.upd (o := .lst [.str "dyke"]) h3
  have r3 : upd H2 l3 (.lst [.str "dyke"]) l3 = some (.lst [.str "dyke"]) := upd_same
  generalize upd H2 l3 (.lst [.str "dyke"]) = H3 at S3 r3
  have T3 := T2.trans S3
  refine ⟨_, rfl, _, rfl, t, _, rfl, SqT.of (T3 _ _ o), (fun w => absurd (show HT.sIx 6 6 (some 3) = 6 from w.2) (by decide)), fun q2 hq2 => ?_⟩
  have S4 := Same.upd (o := .tup (cutV [V.str n, V.str a, V.str b, V.int c, V.int r, oV os] none (some 3))) hq2
  have r4 : upd H3 q2 (.tup (cutV [V.str n, V.str a, V.str b, V.int c, V.int r, oV os] none (some 3))) q2 = some (.tup ([n, a, b].map V.str)) := upd_same
  generalize upd H3 q2 (.tup (cutV [V.str n, V.str a, V.str b, V.int c, V.int r, oV os] none (some 3))) = H4 at S4 r4
  refine ⟨q2, _, rfl, .inr (SqT.of r4), fun l4 h4 => ?_⟩
  have S5 := Same.upd (o := .lst ([n, a, b].map V.str)) h4
  have r5 : upd H4 l4 (.lst ([n, a, b].map V.str)) l4 = some (.lst ([n, a, b].map V.str)) := upd_same
  generalize upd H4 l4 (.lst ([n, a, b].map V.str)) = H5 at S5 r5
  refine ⟨l3, l4, _, _, rfl, rfl, (S4.trans S5) _ _ r3, r5, by show 1 + 3 ≤ sizeLine; omega, fun l5 h5 => ?_⟩
  have S6 := Same.upd (o := .lst ([V.str "dyke"] ++ [n, a, b].map V.str)) h5
  have r6 : upd H5 l5 (.lst ([V.str "dyke"] ++ [n, a, b].map V.str)) l5 = some (.lst ([("dyke" : Str), n, a, b].map V.str)) := upd_same
  generalize upd H5 l5 (.lst ([V.str "dyke"] ++ [n, a, b].map V.str)) = H6 at S6 r6
  have T6 := S3.trans (S4.trans (S5.trans S6))
  refine ⟨_, rfl, l5, l2, _, _, rfl, rfl, r6, T6 _ _ r2, by rw [List.length_map, List.length_map]; show 4 + _ ≤ _; omega, fun l6 h6 => ?_⟩
  have S7 := Same.upd (o := .lst ([("dyke" : Str), n, a, b].map V.str ++ nsx.map V.str)) h6
  refine ⟨" ", l6, [("dyke" : Str), n, a, b] ++ nsx, rfl, rfl, SqL.of (by rw [upd_same, List.map_append]), ?_, q _ (T2.trans (T6.trans S7))⟩
  have hs := sum_le nl
  rw [List.map_append, List.sum_append, List.length_append]
  show (("dyke" : Str).length + (n.length + (a.length + (b.length + 0)))) + (nsx.map fun y => y.length).sum + (4 + nsx.length) * (" " : Str).length ≤ 16777216
  rw [show ("dyke" : Str).length = 4 by decide +kernel, show (" " : Str).length = 1 by decide +kernel]
  omega

open Mt13 Mt11
def osOf : Dv → Option Int
  | .int i => some i
  | _ => none
def rowF (d : Dv) : Str := rowOf (wordsF d)
def rowD (d : Dv) : Str := rowOf (wordsD d)
def showL (fs ds : List Dv) : Str := Txt.join "\n" (fs.map rowF ++ ds.map rowD)
theorem row_len {ws : List Str} {k : Nat} (h : ∀ z ∈ ws, z.length ≤ k) : (rowOf ws).length ≤ ws.length * k + ws.length := by
  unfold rowOf Txt.join
  rw [StrLaws.glued_eq_join]
  have h1 := StrLaws.join_length_le " " ws
  have h2 := sum_le h
  rw [show (" " : Str).length = 1 by decide +kernel] at h1
  have h3 : (ws.map (·.length)).sum = (ws.map fun y => y.length).sum := rfl
  omega
theorem name8 {z : Str} (h : nameS z = true) : z.length ≤ 8 := by
  unfold nameS at h
  simp only [Bool.and_eq_true, decide_eq_true_eq] at h
  exact h.1.1.2
theorem hgt_abs {i : Int} (h : hgt i = true) : i.natAbs ≤ 1000000 := by
  have h1 := of_decide_eq_true (Bool.and_eq_true_iff.mp h).1
  have h2 := of_decide_eq_true (Bool.and_eq_true_iff.mp h).2
  omega
theorem amt_abs {i : Int} (h : amt i = true) : i.natAbs ≤ 1000000 := by
  have h1 := of_decide_eq_true (Bool.and_eq_true_iff.mp h).1
  have h2 := of_decide_eq_true (Bool.and_eq_true_iff.mp h).2
  omega
def spShow (C : Addr) : Sp := sp1 fun x H Q => ∃ (p : Addr) (fs ds : List Dv), x = .ref p ∧ LandAt C H p fs ds ∧ ∀ H', Same H H' → Q (.str (showL fs ds)) H'
theorem ok_p_show_land (T : Txt K mg C) : Fc P w K mg base 2 "show_land" ["land"] (spShow C) := by
  have G_p_field_row : Fc P w K mg base 1 "field_row" ["field"] spFRow := ok_p_field_row T
  have G_p_dyke_row : Fc P w K mg base 1 "dyke_row" ["dyke"] spDRow := ok_p_dyke_row T
  have G_land_p_fields : Mc P w K mg base 1 C "fields" ["self"] (spRows C fun fs _ => fs) := ok_land_p_fields T
  have G_land_p_dykes : Mc P w K mg base 1 C "dykes" ["self"] (spRows C fun _ ds => ds) := ok_land_p_dykes T
  refine T.d_p_show_land.fc sc_p_show_land len1 (fun f cdv A outer s H vs Q E hr h => ?_)
  obtain ⟨x, rfl, p, fs, ds, rfl, L, q⟩ := h
  have big := big1000
  have gf := (nd_names L).1
  have gd := (nd_names L).2
  have f2 := gf.l2
  have d2 := gd.l2
  obtain ⟨dx, d1, d2', hx, _⟩ := L.ex
  refine ⟨_, (@pss_cons _ _ _ _ _ (@ps_set _ _ (1) _ _ _ _ sc_p_show_land.nd rfl (Or.inl rfl) (@pe_op _ _ _ _ _ _ _ _ op_cat (@pe_comp _ _ _ _ _ _ _ _ _ _ _ ["field"] 1 [] rfl (@pi_list _ _ _ _ (@pe_m0 _ _ _ _ _ _ _ _ _ _ _ T.cl_Land G_land_p_fields (hr.mono (by decide)) (pv 0) (by rfl))) (fun R => @pg_name _ _ (0) _ (show List.Nodup (["field"] : List Str) by decide +kernel) rfl (Or.inl rfl) (by first | exact .inl rfl | exact .inr rfl | assumption)) (@gkeep_name _ _ (by decide)) (fun R => pifs_nil) (fun R => (@pe_c _ _ _ _ _ _ _ _ _ _ G_p_field_row (hr.mono (by decide)) (@pa_cons _ _ _ _ _ (pv 0) pa_nil (by rfl)) (by rfl) (by decide) (by rfl) (by rfl))) (by rfl) (by rfl) (by rfl) (by rfl) (by rfl) (by rfl) (by rfl) (by intro _; rfl)) (@pe_comp _ _ _ _ _ _ _ _ _ _ _ ["dyke"] 1 [] rfl (@pi_list _ _ _ _ (@pe_m0 _ _ _ _ _ _ _ _ _ _ _ T.cl_Land G_land_p_dykes (hr.mono (by decide)) (pv 0) (by rfl))) (fun R => @pg_name _ _ (0) _ (show List.Nodup (["dyke"] : List Str) by decide +kernel) rfl (Or.inl rfl) (by first | exact .inl rfl | exact .inr rfl | assumption)) (@gkeep_name _ _ (by decide)) (fun R => pifs_nil) (fun R => (@pe_c _ _ _ _ _ _ _ _ _ _ G_p_dyke_row (hr.mono (by decide)) (@pa_cons _ _ _ _ _ (pv 0) pa_nil (by rfl)) (by rfl) (by decide) (by rfl) (by rfl))) (by rfl) (by rfl) (by rfl) (by rfl) (by rfl) (by rfl) (by rfl) (by intro _; rfl))) (by rfl) (by first | exact .inl rfl | exact .inr rfl | assumption)) (@pss_one _ _ _ (@ps_ret _ _ _ _ (@pe_bm _ _ _ _ _ _ _ _ _ _ _ _ PySem.F.plainAttrs_str PySem.F.slot_str_join PySem.F.type_str_join mt_join pe_str (@pa_cons _ _ _ _ _ (pv 1) pa_nil (by rfl)) (by rfl) (by rfl) (by rfl) (by rfl) (by rfl))))), ?_⟩
  refine ⟨_, rfl, p, dx, _, rfl, hx, landF_no _ _ (by decide +kernel) (by decide +kernel), _, rfl, p, fs, ds, rfl, L, fun lf vf H1 S1 nlf hlf hif => ?_⟩
  have hif : IsL H1 fs vf := hif
  have lvf : fs.length = vf.length := by have := hif.length; omega
  refine ⟨lf, rfl, ⟨_, SqL.of hlf⟩, ?_⟩
  refine comp_list (F := K) (xs := vf) (by omega) (fun i ys H' => Same H1 H' ∧ ys = ((fs.take i).map rowF).map V.str) ⟨Same.refl _, rfl⟩ ?_ ?_ ?_
  · rintro i ys H' hi ⟨S', rfl⟩
    exact ⟨SqL.of (S' _ _ hlf), by rw [List.length_map, List.length_map, List.length_take]; omega⟩
  · rintro i xv ys H' K1 K2 hx' ⟨S', rfl⟩ k1 k2
    have hil : i < vf.length := (List.getElem?_eq_some_iff.mp hx').1
    obtain ⟨d, ed⟩ : ∃ d, fs[i]? = some d := ⟨_, List.getElem?_eq_getElem (by omega)⟩
    obtain ⟨v, ev, iv⟩ := hif.get ed
    rw [hx'] at ev
    cases ev
    have et : (fs.take (i + 1)).map rowF = (fs.take i).map rowF ++ [rowF d] := by rw [List.take_add_one, ed, List.map_append]; rfl
    obtain ⟨z, g, u, rfl, hz, hg, hu'⟩ := field_shape (gf.all d (List.mem_of_getElem? ed))
    obtain ⟨t, rfl, o⟩ := field_row iv
    refine ⟨_, rfl, _, rfl, t, z, g, u, rfl, S' _ _ o, name8 hz, hgt_abs hg, amt_abs hu', fun H2 S2 => k1 _ _ ⟨S'.trans S2, ?_⟩⟩
    rw [et, List.map_append]
    rfl
  rintro ys H2 ⟨S2, rfl⟩
  rw [List.take_of_length_le (by omega)]
  intro l1 h1
  have S3 := Same.upd (o := .lst ((fs.map rowF).map V.str)) h1
  have r3 : upd H2 l1 (.lst ((fs.map rowF).map V.str)) l1 = some (.lst ((fs.map rowF).map V.str)) := upd_same
  have T3 := S1.trans (S2.trans S3)
  generalize upd H2 l1 (.lst ((fs.map rowF).map V.str)) = H3 at S3 r3 T3
  have L3 := L.same T3
  obtain ⟨dx3, y1, y2, hx3, _⟩ := L3.ex
  refine ⟨_, rfl, p, dx3, _, rfl, hx3, landF_no _ _ (by decide +kernel) (by decide +kernel), _, rfl, p, fs, ds, rfl, L3, fun ld vd H4 S4 nld hld hid => ?_⟩
  have hid : IsL H4 ds vd := hid
  have lvd : ds.length = vd.length := by have := hid.length; omega
  refine ⟨ld, rfl, ⟨_, SqL.of hld⟩, ?_⟩
  refine comp_list (F := K) (xs := vd) (by omega) (fun i ys H' => Same H4 H' ∧ ys = ((ds.take i).map rowD).map V.str) ⟨Same.refl _, rfl⟩ ?_ ?_ ?_
  · rintro i ys H' hi ⟨S', rfl⟩
    exact ⟨SqL.of (S' _ _ hld), by rw [List.length_map, List.length_map, List.length_take]; omega⟩
  · rintro i xv ys H' K1 K2 hx' ⟨S', rfl⟩ k1 k2
    have hil : i < vd.length := (List.getElem?_eq_some_iff.mp hx').1
    obtain ⟨d, ed⟩ : ∃ d, ds[i]? = some d := ⟨_, List.getElem?_eq_getElem (by omega)⟩
    obtain ⟨v, ev, iv⟩ := hid.get ed
    rw [hx'] at ev
    cases ev
    have et : (ds.take (i + 1)).map rowD = (ds.take i).map rowD ++ [rowD d] := by rw [List.take_add_one, ed, List.map_append]; rfl
    obtain ⟨n, a, b, c, r, sl, rfl, hn, ha, hb, hab, hc, hr', hs⟩ := dyke_shape (gd.all d (List.mem_of_getElem? ed))
    obtain ⟨t, sv, rfl, o, isv⟩ := dyke_row iv
    have side : ∀ y ∈ ("sea" :: fs.map nmOf : List Str), y.length ≤ 8 := fun y my => by
      rcases List.mem_cons.mp my with rfl | my
      · decide +kernel
      · obtain ⟨d, md, rfl⟩ := List.mem_map.mp my
        obtain ⟨z, g, u, rfl, hz, _⟩ := field_shape (gf.all d md)
        exact name8 hz
    obtain ⟨esv, hos⟩ : sv = oV (osOf sl) ∧ ∀ s, osOf sl = some s → s.natAbs ≤ 1000000 := by
      cases sl with
      | non => exact ⟨isv, fun s e => by cases e⟩
      | int i =>
        refine ⟨isv, fun s e => ?_⟩
        cases e
        exact hgt_abs (Bool.and_eq_true_iff.mp (show (hgt i && decide (i < c)) = true from hs)).1
      | _ => cases hs
    rw [esv] at o
    refine ⟨_, rfl, _, rfl, t, n, a, b, c, r, osOf sl, rfl, S' _ _ o, name8 hn, side a ha, side b hb, hgt_abs hc, amt_abs hr', hos, fun H5 S5 => k1 _ _ ⟨S'.trans S5, ?_⟩⟩
    rw [et, List.map_append]
    congr 1
    show [V.str (rowOf _)] = [V.str (rowOf (([("dyke" : Str), n, a, b, toS c, toS r] : List Str) ++ sillW sl))]
    cases sl with
    | non => rfl
    | int i => rfl
    | _ => cases hs
  rintro ys H5 ⟨S5, rfl⟩
  rw [List.take_of_length_le (by omega)]
  intro l2 h2
  have S6 := Same.upd (o := .lst ((ds.map rowD).map V.str)) h2
  have T6 := S4.trans (S5.trans S6)
  have lF : ((fs.map rowF).map V.str).length = fs.length := by rw [List.length_map, List.length_map]
  have lD : ((ds.map rowD).map V.str).length = ds.length := by rw [List.length_map, List.length_map]
  refine ⟨l1, l2, _, _, rfl, rfl, T6 _ _ r3, upd_same, by omega, fun l3 h3 => ?_⟩
  have S7 := Same.upd (o := .lst ((fs.map rowF).map V.str ++ (ds.map rowD).map V.str)) h3
  refine ⟨rfl, _, rfl, "\n", l3, fs.map rowF ++ ds.map rowD, rfl, rfl, SqL.of (by rw [upd_same, List.map_append]), ?_, q _ (T3.trans (T6.trans S7))⟩
  have hall : ∀ z ∈ fs.map rowF ++ ds.map rowD, z.length ≤ 70 := fun z mz => by
    have side : ∀ y ∈ ("sea" :: fs.map nmOf : List Str), y.length ≤ 8 := fun y my => by
      rcases List.mem_cons.mp my with rfl | my
      · decide +kernel
      · obtain ⟨d, md, rfl⟩ := List.mem_map.mp my
        obtain ⟨z, g, u, rfl, hz, _⟩ := field_shape (gf.all d md)
        exact name8 hz
    rcases List.mem_append.mp mz with mz | mz
    · obtain ⟨d, md, rfl⟩ := List.mem_map.mp mz
      obtain ⟨z, g, u, rfl, hz, hg, hu'⟩ := field_shape (gf.all d md)
      have := row_len (ws := [("field" : Str), z, toS g, toS u]) (k := 8) (fun y my => by
        simp only [List.mem_cons, List.mem_nil_iff, or_false] at my
        rcases my with rfl | rfl | rfl | rfl
        · decide +kernel
        · exact name8 hz
        · exact toS_len (hgt_abs hg)
        · exact toS_len (amt_abs hu'))
      exact Nat.le_trans this (by show 4 * 8 + 4 ≤ 70; decide)
    · obtain ⟨d, md, rfl⟩ := List.mem_map.mp mz
      obtain ⟨n, a, b, c, r, sl, rfl, hn, ha, hb, hab, hc, hr', hs⟩ := dyke_shape (gd.all d md)
      have hsl : ∀ y ∈ sillW sl, y.length ≤ 8 := fun y my => by
        cases sl with
        | int i =>
          rw [List.mem_singleton.mp (show y ∈ [toS i] from my)]
          exact toS_len (hgt_abs (Bool.and_eq_true_iff.mp (show (hgt i && decide (i < c)) = true from hs)).1)
        | _ => cases my
      have lsl : (sillW sl).length ≤ 1 := by
        cases sl with
        | int i => exact Nat.le_refl _
        | _ => exact Nat.zero_le _
      have := row_len (ws := ([("dyke" : Str), n, a, b, toS c, toS r] : List Str) ++ sillW sl) (k := 8) (fun y my => by
        rcases List.mem_append.mp my with my | my
        · simp only [List.mem_cons, List.mem_nil_iff, or_false] at my
          rcases my with rfl | rfl | rfl | rfl | rfl | rfl
          · decide +kernel
          · exact name8 hn
          · exact side _ ha
          · exact side _ hb
          · exact toS_len (hgt_abs hc)
          · exact toS_len (amt_abs hr')
        · exact hsl y my)
      rw [List.length_append] at this
      exact Nat.le_trans this (by show (6 + _) * 8 + (6 + _) ≤ 70; omega)
  have h1 := sum_le hall
  have h2 : (fs.map rowF ++ ds.map rowD).length = fs.length + ds.length := by rw [List.length_append, List.length_map, List.length_map]
  rw [show ("\n" : Str).length = 1 by decide +kernel]
  omega

open Mt13 Mt11
def spFIn : Sp := sp1 fun x H Q => ∃ (l : Addr) (z : Str) (g u : Int), x = .ref l ∧ H l = some (.lst ([("field" : Str), z, toS g, toS u].map V.str)) ∧ g.natAbs ≤ 1000000 ∧ u.natAbs ≤ 1000000 ∧ ∀ (t : Addr) (H' : Hp), Same H H' → H t = none → H' t = some (.tup [.str z, .int g, .int u]) → Q (.ref t) H'
theorem ok_p_field_in (T : Txt K mg C) : Fc P w K mg base 3 "field_in" ["words"] spFIn := by
  have G_p_number_of : Fc P w K mg base 2 "number_of" ["word"] (spDue K) := ok_p_number_of T
  refine T.d_p_field_in.fc sc_p_field_in len1 (fun f cdv A outer s H vs Q E hr h => ?_)
  obtain ⟨x, rfl, l, z, g, u, rfl, o, hg, hu', q⟩ := h
  have big := big1000
  refine ⟨_, (@pss_one _ _ _ (@ps_ret _ _ _ _ (@pe_callTy _ _ _ _ _ _ _ _ _ call_tuple_of rfl T.n_tuple boot_tuple' (@pa_cons _ _ _ _ _ (@pe_op _ _ _ _ _ _ _ _ op_cat (@pe_slice _ _ _ _ _ _ _ _ _ _ (@sl_listB _ (K) rfl) (pv 0) (@po_some _ _ _ pe_int) (@po_some _ _ _ pe_int)) (@pe_comp _ _ _ _ _ _ _ _ _ _ _ ["word"] 1 [] rfl (@pi_list _ _ _ _ (@pe_slice _ _ _ _ _ _ _ _ _ _ (@sl_listB _ (K) rfl) (pv 0) (@po_some _ _ _ pe_int) po_none)) (fun R => @pg_name _ _ (0) _ (show List.Nodup (["word"] : List Str) by decide +kernel) rfl (Or.inl rfl) (by first | exact .inl rfl | exact .inr rfl | assumption)) (@gkeep_name _ _ (by decide)) (fun R => pifs_nil) (fun R => (@pe_c _ _ _ _ _ _ _ _ _ _ G_p_number_of (hr.mono (by decide)) (@pa_cons _ _ _ _ _ (pv 0) pa_nil (by rfl)) (by rfl) (by decide) (by rfl) (by rfl))) (by rfl) (by rfl) (by rfl) (by rfl) (by rfl) (by rfl) (by rfl) (by intro _; rfl))) pa_nil (by rfl)) (by decide) (by decide) (by rfl) (by rfl)))), ?_⟩
  refine ⟨_, rfl, _, rfl, _, rfl, l, _, rfl, SqL.of o, fun l1 h1 => ?_⟩
  have S1 := Same.upd (o := .lst (cutV ([("field" : Str), z, toS g, toS u].map V.str) (some 1) (some 2))) h1
  have r1 : upd H l1 (.lst (cutV ([("field" : Str), z, toS g, toS u].map V.str) (some 1) (some 2))) l1 = some (.lst [.str z]) := upd_same
  generalize upd H l1 (.lst (cutV ([("field" : Str), z, toS g, toS u].map V.str) (some 1) (some 2))) = H1 at S1 r1
  refine ⟨_, rfl, _, rfl, l, _, rfl, SqL.of (S1 _ _ o), fun l2 h2 => ?_⟩
  have S2 := Same.upd (o := .lst (cutV ([("field" : Str), z, toS g, toS u].map V.str) (some 2) none)) h2
  have r2 : upd H1 l2 (.lst (cutV ([("field" : Str), z, toS g, toS u].map V.str) (some 2) none)) l2 = some (.lst (([g, u].map toS).map V.str)) := upd_same
  generalize upd H1 l2 (.lst (cutV ([("field" : Str), z, toS g, toS u].map V.str) (some 2) none)) = H2 at S2 r2
  refine ⟨l2, rfl, ⟨_, SqL.of r2⟩, ?_⟩
  refine comp_list (F := K) (xs := ([g, u].map toS).map V.str) (by show 2 ≤ sizeLine; omega) (fun k ys H' => H2 = H' ∧ ys = ([g, u].take k).map V.int) ⟨rfl, rfl⟩ ?_ ?_ ?_
  · rintro k ys H' hk ⟨rfl, rfl⟩
    exact ⟨SqL.of r2, by rw [List.length_map, List.length_take]; omega⟩
  · rintro k xv ys H' K1 K2 hx ⟨rfl, rfl⟩ k1 k2
    obtain ⟨i, ei⟩ : ∃ i, [g, u][k]? = some i := by
      have := (List.getElem?_eq_some_iff.mp hx).1
      rw [List.length_map, List.length_map] at this
      exact ⟨_, List.getElem?_eq_getElem this⟩
    rw [List.getElem?_map, List.getElem?_map, ei] at hx
    cases hx
    have hi : i.natAbs ≤ 1000000 := by
      have m := List.mem_of_getElem? ei
      simp only [List.mem_cons, List.mem_nil_iff, or_false] at m
      rcases m with rfl | rfl
      · exact hg
      · exact hu'
    refine ⟨_, rfl, _, rfl, .str _, (fun z e => by cases e; have := toS_len hi; omega), ?_⟩
    rw [show dueV (.str (toS i)) = .int i by show (match dueN (Str.ofString (toString i)) with | some n => V.int n | none => V.non) = _; rw [due_int (by omega)]]
    refine k1 _ _ ⟨rfl, ?_⟩
    rw [List.take_add_one, ei, List.map_append]
    rfl
  rintro ys H' ⟨rfl, rfl⟩
  intro l3 h3
  have S3 := Same.upd (o := .lst ([g, u].map V.int)) h3
  refine ⟨l1, l3, _, _, rfl, rfl, (S2.trans S3) _ _ r1, upd_same, by show 1 + 2 ≤ sizeLine; omega, fun l4 h4 => ?_⟩
  have S4 := Same.upd (o := .lst ([V.str z] ++ [g, u].map V.int)) h4
  have T4 := S1.trans (S2.trans (S3.trans S4))
  refine ⟨l4, _, rfl, .inl ⟨SqL.of upd_same, fun t ht => ?_⟩⟩
  exact q t _ (T4.trans (Same.upd ht)) (T4.free ht) upd_same
def spDIn : Sp := sp1 fun x H Q => ∃ (l : Addr) (n a b : Str) (c r : Int) (os : Option Int), x = .ref l ∧ H l = some (.lst (([("dyke" : Str), n, a, b] ++ ([some c, some r, os].filterMap id).map toS).map V.str)) ∧ c.natAbs ≤ 1000000 ∧ r.natAbs ≤ 1000000 ∧ (∀ s, os = some s → s.natAbs ≤ 1000000) ∧ ∀ (t : Addr) (H' : Hp), Same H H' → H t = none → H' t = some (.tup [.str n, .str a, .str b, .int c, .int r, oV os]) → Q (.ref t) H'
theorem ok_p_dyke_in (T : Txt K mg C) : Fc P w K mg base 3 "dyke_in" ["words"] spDIn := by
  have G_p_number_of : Fc P w K mg base 2 "number_of" ["word"] (spDue K) := ok_p_number_of T
  refine T.d_p_dyke_in.fc sc_p_dyke_in len1 (fun f cdv A outer s H vs Q E hr h => ?_)
  obtain ⟨x, rfl, l, n, a, b, c, r, os, rfl, o, hc, hr', ho, q⟩ := h
  have big := big1000
  obtain ⟨is, eis, all, l23⟩ : ∃ is : List Int, [some c, some r, os].filterMap id = is ∧ (∀ i ∈ is, i.natAbs ≤ 1000000) ∧ ((os = none ∧ is = [c, r]) ∨ ∃ s, os = some s ∧ is = [c, r, s]) := by
    cases os with
    | none => exact ⟨[c, r], rfl, (fun i m => by simp only [List.mem_cons, List.mem_nil_iff, or_false] at m; rcases m with rfl | rfl; exact hc; exact hr'), .inl ⟨rfl, rfl⟩⟩
    | some s => exact ⟨[c, r, s], rfl, (fun i m => by simp only [List.mem_cons, List.mem_nil_iff, or_false] at m; rcases m with rfl | rfl | rfl; exact hc; exact hr'; exact ho _ rfl), .inr ⟨s, rfl, rfl⟩⟩
  rw [eis] at o
  have lis : is.length ≤ 3 ∧ 2 ≤ is.length := by rcases l23 with ⟨_, rfl⟩ | ⟨s, _, rfl⟩ <;> exact ⟨by simp, by simp⟩
  refine ⟨_, (@pss_cons _ _ _ _ _ (@ps_set _ _ (1) _ _ _ _ sc_p_dyke_in.nd rfl (Or.inl rfl) (@pe_op _ _ _ _ _ _ _ _ op_cat (@pe_slice _ _ _ _ _ _ _ _ _ _ (@sl_listB _ (K) rfl) (pv 0) (@po_some _ _ _ pe_int) (@po_some _ _ _ pe_int)) (@pe_comp _ _ _ _ _ _ _ _ _ _ _ ["word"] 1 [] rfl (@pi_list _ _ _ _ (@pe_slice _ _ _ _ _ _ _ _ _ _ (@sl_listB _ (K) rfl) (pv 0) (@po_some _ _ _ pe_int) po_none)) (fun R => @pg_name _ _ (0) _ (show List.Nodup (["word"] : List Str) by decide +kernel) rfl (Or.inl rfl) (by first | exact .inl rfl | exact .inr rfl | assumption)) (@gkeep_name _ _ (by decide)) (fun R => pifs_nil) (fun R => (@pe_c _ _ _ _ _ _ _ _ _ _ G_p_number_of (hr.mono (by decide)) (@pa_cons _ _ _ _ _ (pv 0) pa_nil (by rfl)) (by rfl) (by decide) (by rfl) (by rfl))) (by rfl) (by rfl) (by rfl) (by rfl) (by rfl) (by rfl) (by rfl) (by intro _; rfl))) (by rfl) (by first | exact .inl rfl | exact .inr rfl | assumption)) (@pss_one _ _ _ (@ps_ret _ _ _ _ (@pe_callTy _ _ _ _ _ _ _ _ _ call_tuple_of rfl T.n_tuple boot_tuple' (@pa_cons _ _ _ _ _ (@pe_ifExp _ _ _ _ _ _ _ _ (@pt_cmpR _ _ _ _ _ _ _ _ op_eq (@pe_callB _ _ _ _ _ _ _ _ _ (@call_len_seqB _ (K) rfl) rfl T.n_len boot_len' (@pa_cons _ _ _ _ _ (pv 0) pa_nil (by rfl)) (by decide) (by decide) (by rfl) (by rfl)) pe_int (@nomark _ _ (by decide) (by decide))) (pv 1) (@pe_op _ _ _ _ _ _ _ _ op_cat (pv 1) (@pe_lst _ _ _ _ (@pa_cons _ _ _ _ _ pe_non pa_nil (by rfl))))) pa_nil (by rfl)) (by decide) (by decide) (by rfl) (by rfl))))), ?_⟩
  have ecut1 : cutV (([("dyke" : Str), n, a, b] ++ is.map toS).map V.str) (some 1) (some 4) = [.str n, .str a, .str b] := by
    rcases l23 with ⟨_, rfl⟩ | ⟨s, _, rfl⟩ <;> rfl
  have ecut2 : cutV (([("dyke" : Str), n, a, b] ++ is.map toS).map V.str) (some 4) none = (is.map toS).map V.str := by
    rcases l23 with ⟨_, rfl⟩ | ⟨s, _, rfl⟩ <;> rfl
  refine ⟨_, rfl, _, rfl, _, rfl, l, _, rfl, SqL.of o, fun l1 h1 => ?_⟩
  rw [ecut1] at *
  have S1 := Same.upd (o := .lst [.str n, .str a, .str b]) h1
  have r1 : upd H l1 (.lst [.str n, .str a, .str b]) l1 = some (.lst [.str n, .str a, .str b]) := upd_same
  generalize upd H l1 (.lst [.str n, .str a, .str b]) = H1 at S1 r1
  refine ⟨_, rfl, _, rfl, l, _, rfl, SqL.of (S1 _ _ o), fun l2 h2 => ?_⟩
  rw [ecut2] at *
  have S2 := Same.upd (o := .lst ((is.map toS).map V.str)) h2
  have r2 : upd H1 l2 (.lst ((is.map toS).map V.str)) l2 = some (.lst ((is.map toS).map V.str)) := upd_same
  generalize upd H1 l2 (.lst ((is.map toS).map V.str)) = H2 at S2 r2
  refine ⟨l2, rfl, ⟨_, SqL.of r2⟩, ?_⟩
  refine comp_list (F := K) (xs := (is.map toS).map V.str) (by rw [List.length_map, List.length_map]; omega) (fun k ys H' => H2 = H' ∧ ys = (is.take k).map V.int) ⟨rfl, rfl⟩ ?_ ?_ ?_
  · rintro k ys H' hk ⟨rfl, rfl⟩
    exact ⟨SqL.of r2, by rw [List.length_map, List.length_take]; omega⟩
  · rintro k xv ys H' K1 K2 hx ⟨rfl, rfl⟩ k1 k2
    obtain ⟨i, ei⟩ : ∃ i, is[k]? = some i := by
      have := (List.getElem?_eq_some_iff.mp hx).1
      rw [List.length_map, List.length_map] at this
      exact ⟨_, List.getElem?_eq_getElem this⟩
    rw [List.getElem?_map, List.getElem?_map, ei] at hx
    cases hx
    have hi := all i (List.mem_of_getElem? ei)
    refine ⟨_, rfl, _, rfl, .str _, (fun z e => by cases e; have := toS_len hi; omega), ?_⟩
    rw [show dueV (.str (toS i)) = .int i by show (match dueN (Str.ofString (toString i)) with | some n => V.int n | none => V.non) = _; rw [due_int (by omega)]]
    refine k1 _ _ ⟨rfl, ?_⟩
    rw [List.take_add_one, ei, List.map_append]
    rfl
  rintro ys H' ⟨rfl, rfl⟩
  rw [List.length_map, List.length_map, List.take_of_length_le (Nat.le_refl _)]
  intro l3 h3
  have S3 := Same.upd (o := .lst (is.map V.int)) h3
  refine ⟨l1, l3, _, _, rfl, rfl, (S2.trans S3) _ _ r1, upd_same, by rw [List.length_map]; show 3 + _ ≤ _; omega, fun l4 h4 => ?_⟩
  have S4 := Same.upd (o := .lst ([V.str n, V.str a, V.str b] ++ is.map V.int)) h4
  have T4 := S1.trans (S2.trans (S3.trans S4))
  have r4 : upd (upd H2 l3 (.lst (is.map V.int))) l4 (.lst ([V.str n, V.str a, V.str b] ++ is.map V.int)) l4 = some (.lst ([V.str n, V.str a, V.str b] ++ is.map V.int)) := upd_same
  generalize upd (upd H2 l3 (.lst (is.map V.int))) l4 (.lst ([V.str n, V.str a, V.str b] ++ is.map V.int)) = H4 at r4 T4
  refine ⟨_, rfl, l, _, rfl, .inl (SqL.of (T4 _ _ o)), ?_⟩
  refine ⟨rfl, _, rfl, ?_⟩
  rcases l23 with ⟨e1, rfl⟩ | ⟨s, e1, rfl⟩
  · subst e1
    rw [decide_eq_false (show ¬ V.int ((([("dyke" : Str), n, a, b] ++ [c, r].map toS).map V.str).length : Nat) = V.int 7 by intro h; have := V.int.inj h; exact absurd this (by show ¬ ((6 : Nat) : Int) = 7; decide))]
    refine iteF ⟨_, rfl, small_le rfl, fun l5 h5 => ?_⟩
    have S5 := Same.upd (o := .lst [.non]) h5
    refine ⟨l4, l5, _, _, rfl, rfl, S5 _ _ r4, upd_same, by show 5 + 1 ≤ sizeLine; omega, fun l6 h6 => ?_⟩
    have S6 := Same.upd (o := .lst (([V.str n, V.str a, V.str b] ++ [c, r].map V.int) ++ [.non])) h6
    have T6 := T4.trans (S5.trans S6)
    exact ⟨l6, _, rfl, .inl ⟨SqL.of upd_same, fun t ht => q t _ (T6.trans (Same.upd ht)) (T6.free ht) upd_same⟩⟩
  · subst e1
    rw [decide_eq_true (show V.int ((([("dyke" : Str), n, a, b] ++ [c, r, s].map toS).map V.str).length : Nat) = V.int 7 from rfl)]
    exact iteT ⟨_, rfl, l4, _, rfl, .inl ⟨SqL.of r4, fun t ht => q t _ (T4.trans (Same.upd ht)) (T4.free ht) upd_same⟩⟩

open Mt13 Mt11
theorem cj_mem {k c : Nat} : ∀ {xs : List (List Nat)}, c ∈ cj k xs → c = k ∨ ∃ x ∈ xs, c ∈ x
  | [], m => by cases m
  | [x], m => .inr ⟨x, List.mem_cons_self, m⟩
  | x :: y :: r, m => by
    have m' : c ∈ x ++ k :: cj k (y :: r) := m
    rcases List.mem_append.mp m' with m | m
    · exact .inr ⟨x, List.mem_cons_self, m⟩
    · rcases List.mem_cons.mp m with rfl | m
      · exact .inl rfl
      · rcases cj_mem m with h | ⟨z, mz, hz⟩
        · exact .inl h
        · exact .inr ⟨z, List.mem_cons_of_mem _ mz, hz⟩
def word (z : Str) : Prop := ∀ c ∈ z.cps.toList, c ≠ 32 ∧ c ≠ 10
theorem word_name {z : Str} (h : nameS z = true) : word z := fun c mc => by
  have h1 : z.cps.toList.all letter = true := (Bool.and_eq_true_iff.mp h).2
  have h2 := List.all_eq_true.mp h1 c mc
  unfold letter at h2
  simp only [Bool.and_eq_true, decide_eq_true_eq] at h2
  omega
theorem word_int (i : Int) : word (toS i) := fun c mc => by
  have := int_signs i c mc
  omega
theorem word_sea : word "sea" := by
  intro c mc
  have e : ("sea" : Str).cps.toList = [115, 101, 97] := by decide +kernel
  rw [e] at mc
  simp only [List.mem_cons, List.mem_nil_iff, or_false] at mc
  omega
theorem word_field : word "field" := by
  intro c mc
  have e : ("field" : Str).cps.toList = [102, 105, 101, 108, 100] := by decide +kernel
  rw [e] at mc
  simp only [List.mem_cons, List.mem_nil_iff, or_false] at mc
  omega
theorem word_dyke : word "dyke" := by
  intro c mc
  have e : ("dyke" : Str).cps.toList = [100, 121, 107, 101] := by decide +kernel
  rw [e] at mc
  simp only [List.mem_cons, List.mem_nil_iff, or_false] at mc
  omega
theorem blank_is : (" " : Str) = ⟨#[32]⟩ := by decide +kernel
theorem row_is : ("\n" : Str) = ⟨#[10]⟩ := by decide +kernel
theorem split_row {ws : List Str} (hne : ws ≠ []) (h : ∀ z ∈ ws, word z) : Txt.split (rowOf ws) " " = ws := by
  unfold rowOf Txt.join
  rw [StrLaws.glued_eq_join, blank_is]
  exact split_join hne fun p mp m => (h p mp 32 m).1 rfl
theorem row_free {ws : List Str} (h : ∀ z ∈ ws, word z) : 10 ∉ (rowOf ws).cps.toList := fun m => by
  unfold rowOf Txt.join at m
  rw [StrLaws.glued_eq_join, blank_is, join_cj] at m
  rcases cj_mem m with e | ⟨x, mx, hx⟩
  · cases e
  · obtain ⟨p, mp, rfl⟩ := List.mem_map.mp mx
    exact (h p mp 10 hx).2 rfl
theorem words_field {d : Dv} (h : isField d = true) : wordsF d ≠ [] ∧ ∀ z ∈ wordsF d, word z := by
  obtain ⟨z, g, u, rfl, hz, _⟩ := field_shape h
  refine ⟨by simp [wordsF], fun y my => ?_⟩
  have my' : y ∈ [("field" : Str), z, toS g, toS u] := my
  simp only [List.mem_cons, List.mem_nil_iff, or_false] at my'
  rcases my' with rfl | rfl | rfl | rfl
  · exact word_field
  · exact word_name hz
  · exact word_int _
  · exact word_int _
theorem words_dyke {zs : List Str} {d : Dv} (hzs : ∀ z ∈ zs, word z) (h : isDyke zs d = true) : wordsD d ≠ [] ∧ ∀ z ∈ wordsD d, word z := by
  obtain ⟨n, a, b, c, r, sl, rfl, hn, ha, hb, _⟩ := dyke_shape h
  refine ⟨by simp [wordsD], fun y my => ?_⟩
  have my' : y ∈ ([("dyke" : Str), n, a, b, toS c, toS r] : List Str) ++ sillW sl := my
  rcases List.mem_append.mp my' with my | my
  · simp only [List.mem_cons, List.mem_nil_iff, or_false] at my
    rcases my with rfl | rfl | rfl | rfl | rfl | rfl
    · exact word_dyke
    · exact word_name hn
    · exact hzs _ ha
    · exact hzs _ hb
    · exact word_int _
    · exact word_int _
  · cases sl with
    | int i =>
      rw [List.mem_singleton.mp (show y ∈ [toS i] from my)]
      exact word_int _
    | _ => cases my
theorem split_land {fs ds : List Dv} (gf : GoodF fs) (gd : GoodD ("sea" :: fs.map nmOf) ds) : Txt.split (showL fs ds) "\n" = fs.map rowF ++ ds.map rowD := by
  have hz : ∀ z ∈ ("sea" :: fs.map nmOf : List Str), word z := fun z mz => by
    rcases List.mem_cons.mp mz with rfl | mz
    · exact word_sea
    · obtain ⟨d, md, rfl⟩ := List.mem_map.mp mz
      obtain ⟨n, g, u, rfl, hn, _⟩ := field_shape (gf.all d md)
      exact word_name hn
  unfold showL Txt.join
  rw [StrLaws.glued_eq_join, row_is]
  refine split_join (fun e => ?_) fun p mp => ?_
  · have := congrArg List.length e
    rw [List.length_append, List.length_map] at this
    have h1 := gf.l1
    have h0 : ([] : List Str).length = 0 := rfl
    omega
  · rcases List.mem_append.mp mp with m | m
    · obtain ⟨d, md, rfl⟩ := List.mem_map.mp m
      exact row_free (words_field (gf.all d md)).2
    · obtain ⟨d, md, rfl⟩ := List.mem_map.mp m
      exact row_free (words_dyke hz (gd.all d md)).2

open Mt13 Mt11
theorem pe_bmB {X : Cx} {c : Expr} {K : PySem.W.Frag} {t0 : String} {r : V → List V → Hp → VK → Prop} {to : TE} {t : TA} (e : X.K = K) (h : PE X c (tBM X.K t0 r to t)) : PE X c (tBM K t0 r to t) := by subst e; exact h
def lstS (ws : List Str) : Dv := .lst (ws.map Dv.str)
theorem sv_of {c : Int} {sl : Dv} (hs : isSill (.int c) sl = true) {H : Hp} : Is H sl (oV (osOf sl)) := by
  cases sl with
  | non => rfl
  | int i => rfl
  | _ => cases hs
theorem strs_eq {H : Hp} : ∀ {ws : List Str} {us : List V}, IsL H (ws.map Dv.str) us → us = ws.map V.str
  | [], us, h => h
  | w :: ws, us, h => by
    obtain ⟨v, r, rfl, i, h⟩ := h
    cases (show v = _ from i)
    rw [strs_eq h]
    rfl
theorem Is.lstS {H : Hp} {p : Addr} {ws : List Str} (h : H p = some (.lst (ws.map V.str))) : Is H (lstS ws) (.ref p) := ⟨p, _, rfl, h, IsL.strs H ws⟩
theorem lstS_is {H : Hp} {v : V} {ws : List Str} (h : Is H (lstS ws) v) : ∃ p, v = .ref p ∧ H p = some (.lst (ws.map V.str)) := by
  obtain ⟨p, us, rfl, o, i⟩ := h
  refine ⟨p, rfl, ?_⟩
  rw [o, strs_eq i]
theorem rows_small {fs ds : List Dv} (gf : GoodF fs) (gd : GoodD ("sea" :: fs.map nmOf) ds) : ∀ z ∈ fs.map rowF ++ ds.map rowD, z.length ≤ 70 := fun z mz => by
  have side : ∀ y ∈ ("sea" :: fs.map nmOf : List Str), y.length ≤ 8 := fun y my => by
    rcases List.mem_cons.mp my with rfl | my
    · decide +kernel
    · obtain ⟨d, md, rfl⟩ := List.mem_map.mp my
      obtain ⟨z, g, u, rfl, hz, _⟩ := field_shape (gf.all d md)
      exact name8 hz
  rcases List.mem_append.mp mz with mz | mz
  · obtain ⟨d, md, rfl⟩ := List.mem_map.mp mz
    obtain ⟨z, g, u, rfl, hz, hg, hu'⟩ := field_shape (gf.all d md)
    have := row_len (ws := [("field" : Str), z, toS g, toS u]) (k := 8) (fun y my => by
      simp only [List.mem_cons, List.mem_nil_iff, or_false] at my
      rcases my with rfl | rfl | rfl | rfl
      · decide +kernel
      · exact name8 hz
      · exact toS_len (hgt_abs hg)
      · exact toS_len (amt_abs hu'))
    exact Nat.le_trans this (by show 4 * 8 + 4 ≤ 70; decide)
  · obtain ⟨d, md, rfl⟩ := List.mem_map.mp mz
    obtain ⟨n, a, b, c, r, sl, rfl, hn, ha, hb, hab, hc, hr', hs⟩ := dyke_shape (gd.all d md)
    have hsl : ∀ y ∈ sillW sl, y.length ≤ 8 := fun y my => by
      cases sl with
      | int i =>
        rw [List.mem_singleton.mp (show y ∈ [toS i] from my)]
        exact toS_len (hgt_abs (Bool.and_eq_true_iff.mp (show (hgt i && decide (i < c)) = true from hs)).1)
      | _ => cases my
    have lsl : (sillW sl).length ≤ 1 := by
      cases sl with
      | int i => exact Nat.le_refl _
      | _ => exact Nat.zero_le _
    have := row_len (ws := ([("dyke" : Str), n, a, b, toS c, toS r] : List Str) ++ sillW sl) (k := 8) (fun y my => by
      rcases List.mem_append.mp my with my | my
      · simp only [List.mem_cons, List.mem_nil_iff, or_false] at my
        rcases my with rfl | rfl | rfl | rfl | rfl | rfl
        · decide +kernel
        · exact name8 hn
        · exact side _ ha
        · exact side _ hb
        · exact toS_len (hgt_abs hc)
        · exact toS_len (amt_abs hr')
      · exact hsl y my)
    rw [List.length_append] at this
    exact Nat.le_trans this (by show (6 + _) * 8 + (6 + _) ≤ 70; omega)
theorem show_small {fs ds : List Dv} (gf : GoodF fs) (gd : GoodD ("sea" :: fs.map nmOf) ds) : (showL fs ds).length ≤ 71 * (fs.length + ds.length) := by
  unfold showL Txt.join
  rw [StrLaws.glued_eq_join]
  have h1 := StrLaws.join_length_le "\n" (fs.map rowF ++ ds.map rowD)
  have h2 := sum_le (rows_small gf gd)
  rw [show ("\n" : Str).length = 1 by decide +kernel] at h1
  have h3 : ((fs.map rowF ++ ds.map rowD).map (·.length)).sum = ((fs.map rowF ++ ds.map rowD).map fun y => y.length).sum := rfl
  have h4 : (fs.map rowF ++ ds.map rowD).length = fs.length + ds.length := by rw [List.length_append, List.length_map, List.length_map]
  omega
def wordsL (fs ds : List Dv) : List (List Str) := fs.map wordsF ++ ds.map wordsD
def spLandIn (C : Addr) : Sp := sp1 fun x H Q => ∃ (fs ds : List Dv), x = .str (showL fs ds) ∧ areFields (.lst fs) = true ∧ areDykes ("sea" :: fs.map nmOf) (.lst ds) = true ∧ ∀ (p : Addr) (H' : Hp), Same H H' → H p = none → LandAt C H' p fs ds → Q (.ref p) H'
theorem ok_p_land_in (T : Txt K mg C) : Fc P w K mg base 8 "land_in" ["text"] (spLandIn C) := by
  obtain ⟨c_NoLand, ex_NoLand, hm_NoLand⟩ := T.xs
  have G_p_field_in : Fc P w K mg base 3 "field_in" ["words"] spFIn := ok_p_field_in T
  have G_p_dyke_in : Fc P w K mg base 3 "dyke_in" ["words"] spDIn := ok_p_dyke_in T
  have G_land_pinit : IcX P w K mg base 6 C ["self", "fields", "dykes"] (spInit C) := (ok_land_pinit T).up
  refine T.d_p_land_in.fc sc_p_land_in len1 (fun f cdv A outer s H vs Q E hr h => ?_)
  obtain ⟨x, rfl, fs, ds, rfl, okf, okd, q⟩ := h
  have big : 4000 ≤ sizeLine := by decide
  have gf := (goodF_iff _).mp okf
  have gd := (goodD_iff _ _).mp okd
  have f1 := gf.l1
  have f2 := gf.l2
  have d2 := gd.l2
  have spl := split_land gf gd
  have side : ∀ z ∈ ("sea" :: fs.map nmOf : List Str), word z := fun z m => by
    rcases List.mem_cons.mp m with rfl | m
    · exact word_sea
    · obtain ⟨d, md, rfl⟩ := List.mem_map.mp m
      obtain ⟨z, g, u, rfl, hz, _⟩ := field_shape (gf.all d md)
      exact word_name hz
  have sml := show_small gf gd
  have rsm := rows_small gf gd
  have lW : (wordsL fs ds).length = fs.length + ds.length := by unfold wordsL; rw [List.length_append, List.length_map, List.length_map]
  have rows : ∀ i x, (fs.map rowF ++ ds.map rowD)[i]? = some x → ∃ ws, (wordsL fs ds)[i]? = some ws ∧ Txt.split x " " = ws ∧ ws.length ≤ 7 := fun i x e => by
    by_cases hi : i < fs.length
    · rw [List.getElem?_append_left (by rw [List.length_map]; exact hi), List.getElem?_map] at e
      obtain ⟨d, ed, rfl⟩ := Option.map_eq_some_iff.mp e
      have fd := gf.all d (List.mem_of_getElem? ed)
      refine ⟨wordsF d, ?_, split_row (words_field fd).1 (words_field fd).2, ?_⟩
      · unfold wordsL
        rw [List.getElem?_append_left (by rw [List.length_map]; exact hi), List.getElem?_map, ed]
        rfl
      · obtain ⟨z, g, u, rfl, _⟩ := field_shape fd
        show 4 ≤ 7
        decide
    · rw [List.getElem?_append_right (by rw [List.length_map]; omega), List.length_map, List.getElem?_map] at e
      obtain ⟨d, ed, rfl⟩ := Option.map_eq_some_iff.mp e
      have fd := gd.all d (List.mem_of_getElem? ed)
      refine ⟨wordsD d, ?_, split_row (words_dyke side fd).1 (words_dyke side fd).2, ?_⟩
      · unfold wordsL
        rw [List.getElem?_append_right (by rw [List.length_map]; omega), List.length_map, List.getElem?_map, ed]
        rfl
      · obtain ⟨n, a, b, c, r, sl, rfl, hn, ha, hb, hab, hc, hr', hs⟩ := dyke_shape fd
        show ((([("dyke" : Str), n, a, b, toS c, toS r] : List Str)) ++ sillW sl).length ≤ 7
        rw [List.length_append]
        have : (sillW sl).length ≤ 1 := by
          cases sl with
          | int i => exact Nat.le_refl _
          | _ => exact Nat.zero_le _
        show 6 + _ ≤ 7
        omega
  refine ⟨_, (@pss_cons _ _ _ _ _ (@ps_setComp _ (1) _ _ _ _ _ _ _ _ _ _ _ _ _ sc_p_land_in.nd rfl ["row"] 1 [] rfl (@pi_list _ _ _ _ (pe_bmB (K := K) rfl (@pe_bm _ _ _ _ _ _ _ _ _ _ _ _ PySem.F.plainAttrs_str PySem.F.slot_str_split PySem.F.type_str_split mt_split (pv 0) (@pa_cons _ _ _ _ _ pe_str pa_nil (by rfl)) (by rfl) (by rfl) (by rfl) (by rfl) (by rfl)))) (fun R => @pg_name _ _ (0) _ (show List.Nodup (["row"] : List Str) by decide +kernel) rfl (Or.inl rfl) (by first | exact .inl rfl | exact .inr rfl | assumption)) (@gkeep_name _ _ (by decide)) (fun R => pifs_nil) (fun R => (pe_bmB (K := K) rfl (@pe_bm _ _ _ _ _ _ _ _ _ _ _ _ PySem.F.plainAttrs_str PySem.F.slot_str_split PySem.F.type_str_split mt_split (pv 0) (@pa_cons _ _ _ _ _ pe_str pa_nil (by rfl)) (by rfl) (by rfl) (by rfl) (by rfl) (by rfl)))) (by exact Or.inl rfl) (by first | exact .inl rfl | exact .inr rfl | assumption) (by rfl) (by rfl) (by rfl) (by rfl) (by rfl) (by rfl) (by rfl) (by rfl) (by intro _; rfl)) (@pss_cons _ _ _ _ _ (@ps_setComp _ (2) _ _ _ _ _ _ _ _ _ _ _ _ _ sc_p_land_in.nd rfl ["words"] 1 [] rfl (@pi_list _ _ _ _ (pv 1)) (fun R => @pg_name _ _ (0) _ (show List.Nodup (["words"] : List Str) by decide +kernel) rfl (Or.inl rfl) (by first | exact .inl rfl | exact .inr rfl | assumption)) (@gkeep_name _ _ (by decide)) (fun R => @pifs_one _ _ _ (@pt_cmpR _ _ _ _ _ _ _ _ op_eq (@pe_ix _ _ _ _ _ _ _ (@ix_listB _ (K) rfl) (pv 0) pe_int (fun _ _ => rfl)) pe_str (@nomark _ _ (by decide) (by decide)))) (fun R => (@pe_c _ _ _ _ _ _ _ _ _ _ G_p_field_in (hr.mono (by decide)) (@pa_cons _ _ _ _ _ (pv 0) pa_nil (by rfl)) (by rfl) (by decide) (by rfl) (by rfl))) (by exact Or.inl rfl) (by first | exact .inl rfl | exact .inr rfl | assumption) (by rfl) (by rfl) (by rfl) (by rfl) (by rfl) (by rfl) (by rfl) (by rfl) (by intro _; rfl)) (@pss_cons _ _ _ _ _ (@ps_setComp _ (3) _ _ _ _ _ _ _ _ _ _ _ _ _ sc_p_land_in.nd rfl ["words"] 1 [] rfl (@pi_list _ _ _ _ (pv 1)) (fun R => @pg_name _ _ (0) _ (show List.Nodup (["words"] : List Str) by decide +kernel) rfl (Or.inl rfl) (by first | exact .inl rfl | exact .inr rfl | assumption)) (@gkeep_name _ _ (by decide)) (fun R => @pifs_one _ _ _ (@pt_cmpR _ _ _ _ _ _ _ _ op_eq (@pe_ix _ _ _ _ _ _ _ (@ix_listB _ (K) rfl) (pv 0) pe_int (fun _ _ => rfl)) pe_str (@nomark _ _ (by decide) (by decide)))) (fun R => (@pe_c _ _ _ _ _ _ _ _ _ _ G_p_dyke_in (hr.mono (by decide)) (@pa_cons _ _ _ _ _ (pv 0) pa_nil (by rfl)) (by rfl) (by decide) (by rfl) (by rfl))) (by exact Or.inl rfl) (by first | exact .inl rfl | exact .inr rfl | assumption) (by rfl) (by rfl) (by rfl) (by rfl) (by rfl) (by rfl) (by rfl) (by rfl) (by intro _; rfl)) (@pss_one _ _ _ (@ps_try0 _ _ _ _ _ _ _ _ _ _ _ hm_NoLand (@pb_ret _ _ _ _ (@px_mk _ _ _ _ _ _ _ _ _ _ _ T.mg_Land G_land_pinit (hr.mono (by decide)) (@pa_cons _ _ _ _ _ (pv 2) (@pa_cons _ _ _ _ _ (pv 3) pa_nil (by rfl)) (by rfl)) (by rfl) (by decide) (by rfl) (by rfl))) (fun ea => (@pss_one _ _ _ ps_never)) (by rfl) (by decide) (by rfl) (by rfl)))))), ?_⟩
  have lR : ((fs.map rowF ++ ds.map rowD).map V.str).length = fs.length + ds.length := by rw [List.length_map, List.length_append, List.length_map, List.length_map]
  refine ⟨_, rfl, rfl, _, _, rfl, rfl, by decide +kernel, by omega, by rw [spl, List.length_append, List.length_map, List.length_map]; omega, fun l0 h0 => ?_⟩
  rw [spl]
  have S0 := Same.upd (o := .lst ((fs.map rowF ++ ds.map rowD).map V.str)) h0
  have r0 : upd H l0 (.lst ((fs.map rowF ++ ds.map rowD).map V.str)) l0 = _ := upd_same
  generalize upd H l0 (.lst ((fs.map rowF ++ ds.map rowD).map V.str)) = H1 at S0 r0
  refine ⟨l0, rfl, ⟨_, SqL.of r0⟩, ?_⟩
  refine comp_list (F := K) (xs := (fs.map rowF ++ ds.map rowD).map V.str) (by omega) (fun i ys H' => Same H1 H' ∧ IsL H' (((wordsL fs ds).take i).map lstS) ys) ⟨Same.refl _, rfl⟩ ?_ ?_ ?_
  · rintro i ys H' hi ⟨S', iy⟩
    refine ⟨SqL.of (S' _ _ r0), ?_⟩
    rw [iy.length, List.length_map, List.length_take]
    omega
  · rintro i xv ys H' K1 K2 hx' ⟨S', iy⟩ k1 k2
    rw [List.getElem?_map] at hx'
    obtain ⟨x, ex, rfl⟩ := Option.map_eq_some_iff.mp hx'
    obtain ⟨ws, ew, es, el⟩ := rows i x ex
    have hx70 := rsm x (List.mem_of_getElem? ex)
    refine ⟨_, rfl, rfl, _, _, rfl, rfl, by decide +kernel, by omega, by rw [es]; omega, fun l hl => k1 _ _ ?_⟩
    rw [es]
    have S2 := Same.upd (o := .lst (ws.map V.str)) hl
    refine ⟨S'.trans S2, ?_⟩
    rw [List.take_add_one, ew, List.map_append]
    exact IsL.snoc (Is.lstS upd_same) (IsL.same S2 _ _ iy)
  rintro ys H2 ⟨S2, iw⟩
  rw [lR, List.take_of_length_le (by omega)] at iw
  intro l1 h1
  have S3 := Same.upd (o := .lst ys) h1
  have r3 : upd H2 l1 (.lst ys) l1 = _ := upd_same
  have iw := IsL.same S3 _ _ iw
  have T3 := S0.trans (S2.trans S3)
  generalize upd H2 l1 (.lst ys) = H3 at S3 r3 T3 iw
  have lY : ys.length = fs.length + ds.length := by rw [iw.length, List.length_map, lW]
  refine ⟨_, rfl, l1, rfl, ⟨_, SqL.of r3⟩, ?_⟩
  refine comp_list (F := K) (xs := ys) (by omega) (fun i zs H' => Same H3 H' ∧ IsL H' (fs.take i) zs) ⟨Same.refl _, rfl⟩ ?_ ?_ ?_
  · rintro i zs H' hi ⟨S', iy⟩
    refine ⟨SqL.of (S' _ _ r3), ?_⟩
    rw [iy.length, List.length_take]
    omega
  · rintro i xv zs H' K1 K2 hx' ⟨S', iy⟩ k1 k2
    have hil : i < ys.length := (List.getElem?_eq_some_iff.mp hx').1
    by_cases hi : i < fs.length
    · obtain ⟨d, ed⟩ : ∃ d, fs[i]? = some d := ⟨_, List.getElem?_eq_getElem hi⟩
      have ew : ((wordsL fs ds).map lstS)[i]? = some (lstS (wordsF d)) := by
        unfold wordsL
        rw [List.getElem?_map, List.getElem?_append_left (by rw [List.length_map]; exact hi), List.getElem?_map, ed]
        rfl
      obtain ⟨v, ev, iv⟩ := iw.get ew
      rw [hx'] at ev
      cases ev
      obtain ⟨t, rfl, o⟩ := lstS_is iv
      obtain ⟨z, g, u, rfl, hz, hg, hu'⟩ := field_shape (gf.all d (List.mem_of_getElem? ed))
      have o' := S' _ _ o
      refine ⟨_, rfl, t, _, 0, .str "field", rfl, rfl, SqL.of o', rfl, rfl, _, rfl, ?_⟩
      show (if decide (V.str ("field" : Str) = V.str ("field" : Str)) = true then _ else _)
      rw [if_pos (show decide (V.str ("field" : Str) = V.str ("field" : Str)) = true from decide_eq_true rfl)]
      refine ⟨_, rfl, _, rfl, t, z, g, u, rfl, o', hgt_abs hg, amt_abs hu', fun t2 H4 S4 n4 o4 => k1 _ _ ⟨S'.trans S4, ?_⟩⟩
      rw [List.take_add_one, ed]
      exact IsL.snoc (show Is H4 (.tup [.str z, .int g, .int u]) (.ref t2) from ⟨t2, _, rfl, o4, _, _, rfl, rfl, _, _, rfl, rfl, _, _, rfl, rfl, rfl⟩) (IsL.same S4 _ _ iy)
    · obtain ⟨d, ed⟩ : ∃ d, ds[i - fs.length]? = some d := ⟨_, List.getElem?_eq_getElem (by omega)⟩
      have ew : ((wordsL fs ds).map lstS)[i]? = some (lstS (wordsD d)) := by
        unfold wordsL
        rw [List.getElem?_map, List.getElem?_append_right (by rw [List.length_map]; omega), List.length_map, List.getElem?_map, ed]
        rfl
      obtain ⟨v, ev, iv⟩ := iw.get ew
      rw [hx'] at ev
      cases ev
      obtain ⟨t, rfl, o⟩ := lstS_is iv
      obtain ⟨n, a, b, c, r, sl, rfl, hn, ha, hb, hab, hc, hr', hs⟩ := dyke_shape (gd.all d (List.mem_of_getElem? ed))
      have o' := S' _ _ o
      have ea : atI ((wordsD (.tup [.str n, .str a, .str b, .int c, .int r, sl])).map V.str) 0 = some (.str "dyke") := by
        cases sl with
        | non => rfl
        | int i => rfl
        | _ => cases hs
      refine ⟨_, rfl, t, _, 0, .str "dyke", rfl, rfl, SqL.of o', ea, rfl, _, rfl, ?_⟩
      show (if decide (V.str ("dyke" : Str) = V.str ("field" : Str)) = true then _ else _)
      rw [if_neg (show ¬ decide (V.str ("dyke" : Str) = V.str ("field" : Str)) = true from by decide +kernel)]
      refine k2 _ ⟨S', ?_⟩
      rw [List.take_of_length_le (by omega)] at iy ⊢
      exact iy
  rintro zf H4 ⟨S4, if4⟩
  rw [List.take_of_length_le (by omega)] at if4
  intro lf hf
  have S5 := Same.upd (o := .lst zf) hf
  have r5 : upd H4 lf (.lst zf) lf = _ := upd_same
  have if5 := IsL.same S5 _ _ if4
  have T5 := S4.trans S5
  generalize upd H4 lf (.lst zf) = H5 at S5 r5 T5 if5
  have iw5 := IsL.same T5 _ _ iw
  have rw5 := T5 _ _ r3
  refine ⟨_, rfl, l1, rfl, ⟨_, SqL.of rw5⟩, ?_⟩
  refine comp_list (F := K) (xs := ys) (by omega) (fun i zs H' => Same H5 H' ∧ IsL H' (ds.take (i - fs.length)) zs) ⟨Same.refl _, by rw [Nat.zero_sub]; rfl⟩ ?_ ?_ ?_
  · rintro i zs H' hi ⟨S', iy⟩
    refine ⟨SqL.of (S' _ _ rw5), ?_⟩
    rw [iy.length, List.length_take]
    omega
  · rintro i xv zs H' K1 K2 hx' ⟨S', iy⟩ k1 k2
    have hil : i < ys.length := (List.getElem?_eq_some_iff.mp hx').1
    by_cases hi : i < fs.length
    · obtain ⟨d, ed⟩ : ∃ d, fs[i]? = some d := ⟨_, List.getElem?_eq_getElem hi⟩
      have ew : ((wordsL fs ds).map lstS)[i]? = some (lstS (wordsF d)) := by
        unfold wordsL
        rw [List.getElem?_map, List.getElem?_append_left (by rw [List.length_map]; exact hi), List.getElem?_map, ed]
        rfl
      obtain ⟨v, ev, iv⟩ := iw5.get ew
      rw [hx'] at ev
      cases ev
      obtain ⟨t, rfl, o⟩ := lstS_is iv
      obtain ⟨z, g, u, rfl, hz, hg, hu'⟩ := field_shape (gf.all d (List.mem_of_getElem? ed))
      have o' := S' _ _ o
      refine ⟨_, rfl, t, _, 0, .str "field", rfl, rfl, SqL.of o', rfl, rfl, _, rfl, ?_⟩
      show (if decide (V.str ("field" : Str) = V.str ("dyke" : Str)) = true then _ else _)
      rw [if_neg (show ¬ decide (V.str ("field" : Str) = V.str ("dyke" : Str)) = true from by decide +kernel)]
      refine k2 _ ⟨S', ?_⟩
      rw [show i + 1 - fs.length = i - fs.length by omega]
      exact iy
    · obtain ⟨d, ed⟩ : ∃ d, ds[i - fs.length]? = some d := ⟨_, List.getElem?_eq_getElem (by omega)⟩
      have ew : ((wordsL fs ds).map lstS)[i]? = some (lstS (wordsD d)) := by
        unfold wordsL
        rw [List.getElem?_map, List.getElem?_append_right (by rw [List.length_map]; omega), List.length_map, List.getElem?_map, ed]
        rfl
      obtain ⟨v, ev, iv⟩ := iw5.get ew
      rw [hx'] at ev
      cases ev
      obtain ⟨t, rfl, o⟩ := lstS_is iv
      obtain ⟨n, a, b, c, r, sl, rfl, hn, ha, hb, hab, hc, hr', hs⟩ := dyke_shape (gd.all d (List.mem_of_getElem? ed))
      have o' := S' _ _ o
      have ea : atI ((wordsD (.tup [.str n, .str a, .str b, .int c, .int r, sl])).map V.str) 0 = some (.str "dyke") := by
        cases sl with
        | non => rfl
        | int i => rfl
        | _ => cases hs
      refine ⟨_, rfl, t, _, 0, .str "dyke", rfl, rfl, SqL.of o', ea, rfl, _, rfl, ?_⟩
      show (if decide (V.str ("dyke" : Str) = V.str ("dyke" : Str)) = true then _ else _)
      rw [if_pos (show decide (V.str ("dyke" : Str) = V.str ("dyke" : Str)) = true from decide_eq_true rfl)]
      obtain ⟨hws, hos⟩ : wordsD (.tup [.str n, .str a, .str b, .int c, .int r, sl]) = [("dyke" : Str), n, a, b] ++ ([some c, some r, osOf sl].filterMap id).map toS ∧ ∀ s, osOf sl = some s → s.natAbs ≤ 1000000 := by
        cases sl with
        | non => exact ⟨rfl, fun s e => by cases e⟩
        | int i =>
          refine ⟨rfl, fun s e => ?_⟩
          cases e
          exact hgt_abs (Bool.and_eq_true_iff.mp (show (hgt i && decide (i < c)) = true from hs)).1
        | _ => cases hs
      rw [hws] at o'
      refine ⟨_, rfl, _, rfl, t, n, a, b, c, r, osOf sl, rfl, o', hgt_abs hc, amt_abs hr', hos, fun t2 H6 S6 n6 o6 => k1 _ _ ⟨S'.trans S6, ?_⟩⟩
      rw [show i + 1 - fs.length = i - fs.length + 1 by omega, List.take_add_one, ed]
      exact IsL.snoc (show Is H6 (.tup [.str n, .str a, .str b, .int c, .int r, sl]) (.ref t2) from ⟨t2, _, rfl, o6, _, _, rfl, rfl, _, _, rfl, rfl, _, _, rfl, rfl, _, _, rfl, rfl, _, _, rfl, rfl, _, _, rfl, sv_of hs, rfl⟩) (IsL.same S6 _ _ iy)
  rintro zd H6 ⟨S6, id6⟩
  rw [List.take_of_length_le (by omega)] at id6
  intro ld hd
  have S7 := Same.upd (o := .lst zd) hd
  have r7 : upd H6 ld (.lst zd) ld = _ := upd_same
  have id7 := IsL.same S7 _ _ id6
  have T7 := S6.trans S7
  generalize upd H6 ld (.lst zd) = H7 at S7 r7 T7 id7
  have if7 := IsL.same T7 _ _ if5
  have rf7 := T7 _ _ r5
  have TT := T3.trans (T5.trans T7)
  have fr : ∀ x : Addr, H7 x = none → H x = none := fun x hx => by
    cases e : H x with
    | none => rfl
    | some o => rw [TT _ _ e] at hx; cases hx
  refine ⟨_, rfl, _, rfl, fun x dx hx hdx ne => ?_⟩
  have S8 : Same H7 (upd (upd H7 dx (.own x)) x (.ins C dx [])) := fun b o e => by
    rw [upd_ne (fun w => by subst w; rw [hx] at e; cases e), upd_ne (fun w => by subst w; rw [hdx] at e; cases e)]
    exact e
  refine ⟨_, _, _, rfl, x, dx, fs, ds, rfl, upd_same, ⟨lf, zf, rfl, S8 _ _ rf7, IsL.same S8 _ _ if7⟩, ⟨ld, zd, rfl, S8 _ _ r7, IsL.same S8 _ _ id7⟩, lst_small (fun d m => field_small (gf.all d m)) (by omega), lst_small (fun d m => dyke_small gf.all (gd.all d m)) (by omega), okf, okd, fun H9 L9 s9 => ⟨rfl, q _ _ (fun b o e => s9 _ _ (S8 _ _ (TT _ _ e)) (fun w => by subst w; rw [fr _ hx] at e; cases e)) (fr _ hx) L9⟩⟩
def spRead (C : Addr) : Sp := sp1 fun x H Q => ∃ (fs ds : List Dv), x = .str (showL fs ds) ∧ areFields (.lst fs) = true ∧ areDykes ("sea" :: fs.map nmOf) (.lst ds) = true ∧ ∀ (p : Addr) (H' : Hp), Same H H' → H p = none → LandAt C H' p fs ds → Q (.ref p) H'
theorem ok_p_read_land (T : Txt K mg C) : Fc P w K mg base 9 "read_land" ["text"] (spRead C) := by
  have G_p_land_in : Fc P w K mg base 8 "land_in" ["text"] (spLandIn C) := ok_p_land_in T
  have G_p_show_land : Fc P w K mg base 2 "show_land" ["land"] (spShow C) := ok_p_show_land T
  refine T.d_p_read_land.fc sc_p_read_land len1 (fun f cdv A outer s H vs Q E hr h => ?_)
  obtain ⟨x, rfl, fs, ds, rfl, okf, okd, q⟩ := h
  refine ⟨_, (@pss_cons _ _ _ _ _ (@ps_if _ _ _ _ _ _ _ _ (@pt_not _ _ _ _ (@pt_val _ _ _ (@pe_callB _ _ _ _ _ _ _ _ _ (@call_isinstB _ (K) rfl) rfl T.n_isinstance boot_isinstance (@pa_cons _ _ _ _ _ (pv 0) (@pa_cons _ _ _ _ _ (@pe_ty _ _ _ _ T.n_str boot_str' (by rfl) (by decide) (by decide)) pa_nil (by rfl)) (by rfl)) (by decide) (by decide) (by rfl) (by rfl)) (by intro _; rfl))) (@pss_one _ _ _ ps_never) pss_nil) (@pss_cons _ _ _ _ _ (@ps_set _ _ (1) _ _ _ _ sc_p_read_land.nd rfl (Or.inl rfl) (@pe_c _ _ _ _ _ _ _ _ _ _ G_p_land_in (hr.mono (by decide)) (@pa_cons _ _ _ _ _ (pv 0) pa_nil (by rfl)) (by rfl) (by decide) (by rfl) (by rfl)) (by rfl) (by first | exact .inl rfl | exact .inr rfl | assumption)) (@pss_cons _ _ _ _ _ (@ps_if _ _ _ _ _ _ _ _ (@pt_cmpR _ _ _ _ _ _ _ _ op_ne (@pe_c _ _ _ _ _ _ _ _ _ _ G_p_show_land (hr.mono (by decide)) (@pa_cons _ _ _ _ _ (pv 1) pa_nil (by rfl)) (by rfl) (by decide) (by rfl) (by rfl)) (pv 0) (@nomark _ _ (by decide) (by decide))) (@pss_one _ _ _ ps_never) pss_nil) (@pss_one _ _ _ (@ps_ret _ _ _ _ (pv 1)))))), ?_⟩
  refine ⟨_, rfl, _, _, _, _, _, rfl, rfl, TyOf.str _, kit_self _ _, _, rfl, ?_⟩
  refine ⟨_, rfl, _, rfl, fs, ds, rfl, okf, okd, fun p H1 S1 n1 L1 => ?_⟩
  refine ⟨_, rfl, _, rfl, p, fs, ds, rfl, L1, fun H2 S2 => ?_⟩
  refine ⟨_, rfl, rfl, _, rfl, ?_⟩
  rw [decide_eq_true (rfl : V.str (showL fs ds) = V.str (showL fs ds))]
  exact ⟨_, rfl, q _ _ (S1.trans S2) n1 (L1.same S2)⟩

open Mt13 Mt11 Mt02
def spMixedC : Sp := sp2 fun x y H Q => ∃ n k : Int, x = .int n ∧ y = .int k ∧ 0 ≤ k ∧ k ≤ 2000 ∧ ∀ m : Int, 0 ≤ m → m < 1000000000000000000000000 → Q (.int m) H
theorem ok_l_mixed (T : Txt K mg C) : Fc P w K mg base 1 "_law_mixed" ["_law_cell", "_law_k"] spMixedC := by
  refine T.d_l_mixed.fc sc_l_mixed len2 (fun f cdv A outer s H vs Q E hr h => ?_)
  obtain ⟨x, y, rfl, n, k, rfl, rfl, hk0, hk1, q⟩ := h
  have e24 : (10 : Int) ^ (24 : Int).toNat = 1000000000000000000000000 := by decide
  refine ⟨_, (@pss_cons _ _ _ _ _ (@ps_if _ _ _ _ _ _ _ _ (@pt_cmpR _ _ _ _ _ _ _ _ op_eq (@pe_op _ _ _ _ _ _ _ _ op_mod (pv 0) pe_int) pe_int (@nomark _ _ (by decide) (by decide))) (@pss_cons _ _ _ _ _ (@ps_set _ _ (2) _ _ _ _ sc_l_mixed.nd rfl (Or.inl rfl) (@pe_op _ _ _ _ _ _ _ _ op_fdivB (pv 0) pe_int) (by rfl) (by first | exact .inl rfl | exact .inr rfl | assumption)) (@pss_cons _ _ _ _ _ (@ps_for _ _ _ _ _ _ _ _ PassesOwn.never rfl (@pi_range1 _ _ _ _ _ _ rfl T.n_range (@pa_cons _ _ _ _ _ (@pe_op _ _ _ _ _ _ _ _ op_mod (pv 1) pe_int) pa_nil (by rfl)) (by rfl)) (@pg_name _ _ (3) _ sc_l_mixed.nd rfl (Or.inl rfl) (by first | exact .inl rfl | exact .inr rfl | assumption)) (@pss_one _ _ _ (@ps_set _ _ (2) _ _ _ _ sc_l_mixed.nd rfl (Or.inl rfl) (@pe_op _ _ _ _ _ _ _ _ op_fdivB (pv 2) (@pe_op _ _ _ _ _ _ _ _ op_pow pe_int pe_int)) (by rfl) (by first | exact .inl rfl | exact .inr rfl | assumption))) (by intro _; rfl)) (@pss_one _ _ _ (@ps_ret _ _ _ _ (@pe_op _ _ _ _ _ _ _ _ op_mod (pv 2) (@pe_op _ _ _ _ _ _ _ _ op_pow pe_int pe_int)))))) pss_nil) (@pss_cons _ _ _ _ _ (@ps_set _ _ (2) _ _ _ _ sc_l_mixed.nd rfl (Or.inl rfl) (@pe_op _ _ _ _ _ _ _ _ op_mod (@pe_op _ _ _ _ _ _ _ _ op_mul (@pe_op _ _ _ _ _ _ _ _ op_add (@pe_op _ _ _ _ _ _ _ _ op_add (pv 0) (@pe_op _ _ _ _ _ _ _ _ op_mul (@pe_op _ _ _ _ _ _ _ _ op_mul pe_int (pv 1)) (pv 1))) pe_int) pe_int) pe_int) (by rfl) (by first | exact .inl rfl | exact .inr rfl | assumption)) (@pss_one _ _ _ (@ps_ret _ _ _ _ (@pe_op _ _ _ _ _ _ _ _ op_mod (@pe_op _ _ _ _ _ _ _ _ op_mul (pv 2) (pv 2)) pe_int))))), ?_⟩
  refine ⟨_, rfl, _, _, rfl, rfl, (by show (0 : Int) < 2; decide), rfl, _, rfl, ?_⟩
  refine ite2 (fun h1 => ?_) (fun h1 => ?_)
  · refine ⟨_, rfl, _, _, rfl, rfl, ⟨by decide, by decide⟩, ?_⟩
    have m0 : 0 ≤ k % 16 := Int.emod_nonneg _ (by decide)
    have m1 : k % 16 < 16 := Int.emod_lt_of_pos _ (by decide)
    refine ⟨_, rfl, _, _, rfl, rfl, (by show (0 : Int) < 16; decide), _, rfl, by omega, by omega, ?_⟩
    refine for_range (lo := 0) (n := (k % 16).toNat) (fun i σ H' => ∃ (m : Int) (v : Option V), σ = [some (.int n), some (.int k), some (.int m), v] ∧ H' = H) ⟨_, _, rfl, rfl⟩ ?_ ?_
    · rintro i σ H' hi ⟨m, v, rfl, rfl⟩
      exact ⟨_, rfl, _, _, rfl, rfl, ⟨by decide, by decide, by decide⟩, _, _, rfl, rfl, ⟨by decide, by decide⟩, _, _, rfl, rfl⟩
    · rintro σ H' ⟨m, v, rfl, rfl⟩
      refine ⟨_, rfl, _, _, rfl, rfl, ⟨by decide, by decide, by decide⟩, _, _, rfl, rfl, (by show (0 : Int) < 10 ^ (24 : Int).toNat; decide), ?_⟩
      refine q _ (Int.emod_nonneg _ (by decide)) ?_
      rw [← e24]
      exact Int.emod_lt_of_pos _ (by decide)
  · have hb : ∀ a : Int, -(2 ^ 64) < a % 2147483647 ∧ a % 2147483647 < 2 ^ 64 := fun a => by
      have := Int.emod_nonneg a (show (2147483647 : Int) ≠ 0 by decide)
      have := Int.emod_lt_of_pos a (show (0 : Int) < 2147483647 by decide)
      omega
    refine ⟨_, rfl, _, rfl, _, _, rfl, rfl, .inl ⟨by decide, by decide⟩, _, rfl, _, _, rfl, rfl, .inr ⟨by omega, by omega⟩, _, _, rfl, rfl, _, _, rfl, rfl, _, _, rfl, rfl, .inr ⟨by decide, by decide⟩, _, _, rfl, rfl, (by show (0 : Int) < 2147483647; decide), ?_⟩
    refine ⟨_, rfl, _, rfl, _, _, rfl, rfl, .inl (hb _), _, _, rfl, rfl, (by show (0 : Int) < 2147483629; decide), ?_⟩
    exact q _ (Int.emod_nonneg _ (by decide)) (Int.lt_trans (Int.emod_lt_of_pos _ (by decide)) (by decide))

def spBound (lo hi : Int) : Sp := sp1 fun x H Q => ∃ c : Int, x = .int c ∧ ∀ m : Int, lo ≤ m → m ≤ hi → Q (.int m) H
theorem ok_l_height (T : Txt K mg C) : Fc P w K mg base 1 "_law_height" ["_law_number"] (spBound (-1000000) 1000000) := by
  refine T.d_l_height.fc sc_l_height len1 (fun f cdv A outer s H vs Q E hr h => ?_)
  obtain ⟨x, rfl, c, rfl, q⟩ := h
  refine ⟨_, (@pss_cons _ _ _ _ _ (@ps_if _ _ _ _ _ _ _ _ (@pt_cmpR _ _ _ _ _ _ _ _ op_eq (@pe_op _ _ _ _ _ _ _ _ op_mod (pv 0) pe_int) pe_int (@nomark _ _ (by decide) (by decide))) (@pss_one _ _ _ (@ps_ret _ _ _ _ (@pe_op _ _ _ _ _ _ _ _ op_sub (@pe_op _ _ _ _ _ _ _ _ op_mod (@pe_op _ _ _ _ _ _ _ _ op_mul (@pe_op _ _ _ _ _ _ _ _ op_fdivB (pv 0) pe_int) pe_int) pe_int) (@pe_op _ _ _ _ _ _ _ _ op_pow pe_int pe_int)))) pss_nil) (@pss_one _ _ _ (@ps_ret _ _ _ _ (@pe_op _ _ _ _ _ _ _ _ op_sub (@pe_op _ _ _ _ _ _ _ _ op_mod (@pe_op _ _ _ _ _ _ _ _ op_fdivB (pv 0) pe_int) pe_int) pe_int)))), ?_⟩
  refine ⟨_, rfl, _, _, rfl, rfl, (posI rfl), rfl, _, rfl, ?_⟩
  refine ite2 (fun h1 => ?_) (fun h1 => ?_)
  · refine ⟨_, rfl, _, _, rfl, rfl, ⟨by decide, by decide⟩, _, _, rfl, rfl, .inr ⟨by decide, by decide⟩, _, _, rfl, rfl, (posI rfl), _, _, rfl, rfl, ⟨by decide, by decide, by decide⟩, _, _, rfl, rfl, ?_⟩
    have b0 := Int.emod_nonneg (c / 4 * 7919) (show (2000001 : Int) ≠ 0 by decide)
    have b1 := Int.emod_lt_of_pos (c / 4 * 7919) (show (0 : Int) < 2000001 by decide)
    exact q _ (by rw [p6]; omega) (by rw [p6]; omega)
  · refine ⟨_, rfl, _, _, rfl, rfl, ⟨by decide, by decide⟩, _, _, rfl, rfl, (posI rfl), _, _, rfl, rfl, ?_⟩
    exact q _ (by omega) (by omega)
theorem ok_l_count (T : Txt K mg C) : Fc P w K mg base 1 "_law_count" ["_law_number"] (spBound 0 1000000) := by
  refine T.d_l_count.fc sc_l_count len1 (fun f cdv A outer s H vs Q E hr h => ?_)
  obtain ⟨x, rfl, c, rfl, q⟩ := h
  refine ⟨_, (@pss_cons _ _ _ _ _ (@ps_if _ _ _ _ _ _ _ _ (@pt_cmpR _ _ _ _ _ _ _ _ op_eq (@pe_op _ _ _ _ _ _ _ _ op_mod (pv 0) pe_int) pe_int (@nomark _ _ (by decide) (by decide))) (@pss_one _ _ _ (@ps_ret _ _ _ _ (@pe_op _ _ _ _ _ _ _ _ op_mod (@pe_op _ _ _ _ _ _ _ _ op_mul (@pe_op _ _ _ _ _ _ _ _ op_fdivB (pv 0) pe_int) pe_int) (@pe_op _ _ _ _ _ _ _ _ op_add (@pe_op _ _ _ _ _ _ _ _ op_pow pe_int pe_int) pe_int)))) pss_nil) (@pss_one _ _ _ (@ps_ret _ _ _ _ (@pe_op _ _ _ _ _ _ _ _ op_mod (@pe_op _ _ _ _ _ _ _ _ op_fdivB (pv 0) pe_int) pe_int)))), ?_⟩
  refine ⟨_, rfl, _, _, rfl, rfl, (posI rfl), rfl, _, rfl, ?_⟩
  refine ite2 (fun h1 => ?_) (fun h1 => ?_)
  · refine ⟨_, rfl, _, _, rfl, rfl, ⟨by decide, by decide⟩, _, _, rfl, rfl, .inr ⟨by decide, by decide⟩, _, _, rfl, rfl, ⟨by decide, by decide, by decide⟩, _, _, rfl, rfl, _, _, rfl, rfl, (posI rfl), ?_⟩
    have b0 := Int.emod_nonneg (c / 4 * 7919) (show (1000001 : Int) ≠ 0 by decide)
    have b1 := Int.emod_lt_of_pos (c / 4 * 7919) (show (0 : Int) < 1000001 by decide)
    refine q _ ?_ ?_
    · rw [p6]; omega
    · rw [p6]; omega
  · refine ⟨_, rfl, _, _, rfl, rfl, ⟨by decide, by decide⟩, _, _, rfl, rfl, (posI rfl), ?_⟩
    exact q _ (by omega) (by omega)
theorem al26 : ("abcdefghijklmnopqrstuvwxyz" : Str).cps.toList = (List.range 26).map (97 + ·) := by decide +kernel
theorem al26_at {i : Int} (h0 : 0 ≤ i) (h1 : i < 26) : atI ("abcdefghijklmnopqrstuvwxyz" : Str).cps.toList i = some (97 + i.toNat) := by
  obtain ⟨k, rfl⟩ := Int.eq_ofNat_of_zero_le h0
  rw [al26]
  refine atI_nat ?_
  rw [List.getElem?_map, List.getElem?_range (by omega)]
  simp
theorem mul_x {n : Int} (h0 : 0 ≤ n) (h1 : n < 6) : Txt.mul ("x" : Str) n = ⟨(List.replicate n.toNat 120).toArray⟩ := by
  obtain ⟨k, rfl⟩ := Int.eq_ofNat_of_zero_le h0
  have hk : k < 6 := by omega
  match k, hk with
  | 0, _ => decide +kernel
  | 1, _ => decide +kernel
  | 2, _ => decide +kernel
  | 3, _ => decide +kernel
  | 4, _ => decide +kernel
  | 5, _ => decide +kernel
def lw (c : Int) (k : Nat) : List Nat := List.replicate (c % 6).toNat 120 ++ [97 + (((k : Int) + c / 24) % 26).toNat, 97 + (((k : Int) / 26 + c / 624) % 26).toNat]
def fixW : List Str := ["and", "dyke", "when", "wet", "field"]
def nm11 (c : Int) (k : Nat) : Str := if c % 4 = 1 ∧ k < 5 then fixW.getD k "" else ⟨(lw c k).toArray⟩
def spNm : Sp := sp2 fun x y H Q => ∃ (c : Int) (k : Nat), x = .int c ∧ y = .int k ∧ k < 40 ∧ ∀ H', Same H H' → Q (.str (nm11 c k)) H'
theorem ok_l_name (T : Txt K mg C) : Fc P w K mg base 1 "_law_name" ["_law_cell", "_law_k"] spNm := by
  refine T.d_l_name.fc sc_l_name len2 (fun f cdv A outer s H vs Q E hr h => ?_)
  obtain ⟨x, y, rfl, c, k, rfl, rfl, hk, q⟩ := h
  refine ⟨_, (@pss_cons _ _ _ _ _ (@ps_set _ _ (2) _ _ _ _ sc_l_name.nd rfl (Or.inl rfl) pe_str (by rfl) (by first | exact .inl rfl | exact .inr rfl | assumption)) (@pss_cons _ _ _ _ _ (@ps_if _ _ _ _ _ _ _ _ (@PW.pt _ _ _ (@pw_and _ _ _ _ _ _ _ (@pt_cmpR _ _ _ _ _ _ _ _ op_eq (@pe_op _ _ _ _ _ _ _ _ op_mod (pv 0) pe_int) pe_int (@nomark _ _ (by decide) (by decide))) (@pw_and1 _ _ _ _ (@pt_cmpR _ _ _ _ _ _ _ _ op_lt (pv 1) pe_int (@nomark _ _ (by decide) (by decide)))))) (@pss_one _ _ _ (@ps_ret _ _ _ _ (@pe_ix _ _ _ _ _ _ _ (@ix_listB _ (K) rfl) (@pe_lst _ _ _ _ (@pa_cons _ _ _ _ _ pe_str (@pa_cons _ _ _ _ _ pe_str (@pa_cons _ _ _ _ _ pe_str (@pa_cons _ _ _ _ _ pe_str (@pa_cons _ _ _ _ _ pe_str pa_nil (by rfl)) (by rfl)) (by rfl)) (by rfl)) (by rfl))) (pv 1) (fun _ _ => rfl)))) pss_nil) (@pss_cons _ _ _ _ _ (@ps_set _ _ (3) _ _ _ _ sc_l_name.nd rfl (Or.inl rfl) (@pe_op _ _ _ _ _ _ _ _ op_add_str (@pe_ix _ _ _ _ _ _ _ ix_str (pv 2) (@pe_op _ _ _ _ _ _ _ _ op_mod (@pe_op _ _ _ _ _ _ _ _ op_add (pv 1) (@pe_op _ _ _ _ _ _ _ _ op_fdivB (pv 0) pe_int)) pe_int) (fun _ _ => rfl)) (@pe_ix _ _ _ _ _ _ _ ix_str (pv 2) (@pe_op _ _ _ _ _ _ _ _ op_mod (@pe_op _ _ _ _ _ _ _ _ op_add (@pe_op _ _ _ _ _ _ _ _ op_fdivB (pv 1) pe_int) (@pe_op _ _ _ _ _ _ _ _ op_fdivB (pv 0) pe_int)) pe_int) (fun _ _ => rfl))) (by rfl) (by first | exact .inl rfl | exact .inr rfl | assumption)) (@pss_one _ _ _ (@ps_ret _ _ _ _ (@pe_op _ _ _ _ _ _ _ _ op_add_str (@pe_op _ _ _ _ _ _ _ _ op_mul_str pe_str (@pe_op _ _ _ _ _ _ _ _ op_mod (pv 0) pe_int)) (pv 3))))))), ?_⟩
  have big := big1000
  refine ⟨_, rfl, _, _, rfl, rfl, (posI rfl), rfl, _, rfl, ?_⟩
  have e4 : decide (V.int (c % 4) = V.int 1) = decide (c % 4 = 1) := by rw [dec_int, Bool.eq_iff_iff]; simp
  have m0 : 0 ≤ c % 6 := Int.emod_nonneg _ (by decide)
  have m1 : c % 6 < 6 := Int.emod_lt_of_pos _ (by decide)
  have a0 : 0 ≤ ((k : Int) + c / 24) % 26 := Int.emod_nonneg _ (by decide)
  have a1 : ((k : Int) + c / 24) % 26 < 26 := Int.emod_lt_of_pos _ (by decide)
  have b0 : 0 ≤ ((k : Int) / 26 + c / 624) % 26 := Int.emod_nonneg _ (by decide)
  have b1 : ((k : Int) / 26 + c / 624) % 26 < 26 := Int.emod_lt_of_pos _ (by decide)
  have cat : (⟨(lw c k).toArray⟩ : Str) = (⟨(List.replicate (c % 6).toNat 120).toArray⟩ : Str) ++ ((⟨#[97 + (((k : Int) + c / 24) % 26).toNat]⟩ : Str) ++ (⟨#[97 + (((k : Int) / 26 + c / 624) % 26).toNat]⟩ : Str)) := by
    show (⟨(lw c k).toArray⟩ : Str) = ⟨_ ++ (_ ++ _)⟩
    congr 1
    unfold lw
    simp
  show (if decide (V.int (c % 4) = V.int 1) = true then _ else _)
  rw [e4]
  refine ite2 (fun h1 => ?_) (fun h1 => ?_)
  · have h1 := of_decide_eq_true h1
    refine ⟨_, rfl, _, _, rfl, rfl, _, rfl, ?_⟩
    refine ite2 (fun h2 => ?_) (fun h2 => ?_)
    · have h2 := of_decide_eq_true h2
      have hk5 : k < 5 := by omega
      rw [nm11, if_pos ⟨h1, hk5⟩] at q
      refine ⟨small_le rfl, fun p hp => ?_⟩
      refine ⟨_, rfl, p, _, k, .str (fixW.getD k ""), rfl, rfl, SqL.of upd_same, ?_, q _ (Same.upd hp)⟩
      refine atI_nat ?_
      match k, hk5 with
      | 0, _ => rfl
      | 1, _ => rfl
      | 2, _ => rfl
      | 3, _ => rfl
      | 4, _ => rfl
    · have h2 : ¬ (k : Int) < 5 := fun w => h2 (decide_eq_true w)
      rw [nm11, if_neg (by omega)] at q
      refine ⟨_, rfl, _, rfl, _, rfl, _, _, rfl, rfl, ⟨by decide, by decide⟩, _, _, rfl, rfl, _, _, rfl, rfl, (posI rfl), _, _, _, rfl, rfl, (by decide +kernel), al26_at a0 a1, ?_⟩
      refine ⟨_, rfl, _, rfl, _, _, rfl, rfl, ⟨by decide, by decide⟩, _, rfl, _, _, rfl, rfl, ⟨by decide, by decide⟩, _, _, rfl, rfl, _, _, rfl, rfl, (posI rfl), _, _, _, rfl, rfl, (by decide +kernel), al26_at b0 b1, ?_⟩
      refine ⟨_, _, rfl, rfl, (by show 1 + 1 ≤ sizeLine; omega), ?_⟩
      refine ⟨_, rfl, _, _, rfl, rfl, (posI rfl), _, _, rfl, rfl, (by decide +kernel), (by omega), (by omega), _, rfl, ?_⟩
      refine ⟨_, _, rfl, rfl, ?_, ?_⟩
      · rw [mul_x m0 m1]
        show (List.replicate (c % 6).toNat 120).toArray.size + (1 + 1) ≤ sizeLine
        rw [List.size_toArray, List.length_replicate]
        omega
      · rw [mul_x m0 m1]
        exact cat ▸ q H (Same.refl _)
  · have h1 : ¬ c % 4 = 1 := fun w => h1 (decide_eq_true w)
    refine iteF ?_
    rw [nm11, if_neg (by exact fun w => h1 w.1)] at q
    refine ⟨_, rfl, _, rfl, _, rfl, _, _, rfl, rfl, ⟨by decide, by decide⟩, _, _, rfl, rfl, _, _, rfl, rfl, (posI rfl), _, _, _, rfl, rfl, (by decide +kernel), al26_at a0 a1, ?_⟩
    refine ⟨_, rfl, _, rfl, _, _, rfl, rfl, ⟨by decide, by decide⟩, _, rfl, _, _, rfl, rfl, ⟨by decide, by decide⟩, _, _, rfl, rfl, _, _, rfl, rfl, (posI rfl), _, _, _, rfl, rfl, (by decide +kernel), al26_at b0 b1, ?_⟩
    refine ⟨_, _, rfl, rfl, (by show 1 + 1 ≤ sizeLine; omega), ?_⟩
    refine ⟨_, rfl, _, _, rfl, rfl, (posI rfl), _, _, rfl, rfl, (by decide +kernel), (by omega), (by omega), _, rfl, ?_⟩
    refine ⟨_, _, rfl, rfl, ?_, ?_⟩
    · rw [mul_x m0 m1]
      show (List.replicate (c % 6).toNat 120).toArray.size + (1 + 1) ≤ sizeLine
      rw [List.size_toArray, List.length_replicate]
      omega
    · rw [mul_x m0 m1]
      exact cat ▸ q H (Same.refl _)

open Mt13 Mt11 Mt02
theorem fixW_name : ∀ z ∈ fixW, nameS z = true := by decide +kernel
theorem fixW_x : ∀ z ∈ fixW, z.cps.toList.head? ≠ some 120 := by decide +kernel
theorem fixW_nd : fixW.Nodup := by decide +kernel
theorem fixW_mem {k : Nat} (h : k < 5) : fixW.getD k "" ∈ fixW := by
  match k, h with
  | 0, _ => decide +kernel
  | 1, _ => decide +kernel
  | 2, _ => decide +kernel
  | 3, _ => decide +kernel
  | 4, _ => decide +kernel
theorem fixW_inj {i j : Nat} (hi : i < 5) (hj : j < 5) (h : fixW.getD i "" = fixW.getD j "") : i = j := by
  have l : fixW.length = 5 := rfl
  rw [List.getD_eq_getElem?_getD, List.getD_eq_getElem?_getD, List.getElem?_eq_getElem (by omega), List.getElem?_eq_getElem (by omega)] at h
  exact (List.getElem_inj fixW_nd).mp h
theorem lw_len (c : Int) (k : Nat) : (lw c k).length = (c % 6).toNat + 2 := by
  unfold lw
  rw [List.length_append, List.length_replicate]
  rfl
theorem lw_letter (c : Int) (k : Nat) : ∀ x ∈ lw c k, letter x = true := fun x m => by
  have a0 : 0 ≤ ((k : Int) + c / 24) % 26 := Int.emod_nonneg _ (by decide)
  have a1 : ((k : Int) + c / 24) % 26 < 26 := Int.emod_lt_of_pos _ (by decide)
  have b0 : 0 ≤ ((k : Int) / 26 + c / 624) % 26 := Int.emod_nonneg _ (by decide)
  have b1 : ((k : Int) / 26 + c / 624) % 26 < 26 := Int.emod_lt_of_pos _ (by decide)
  have hx : 97 ≤ x ∧ x ≤ 122 := by
    unfold lw at m
    rcases List.mem_append.mp m with m | m
    · rw [List.eq_of_mem_replicate m]
      decide
    · simp only [List.mem_cons, List.mem_nil_iff, or_false] at m
      omega
  show (decide (97 ≤ x) && decide (x ≤ 122)) = true
  rw [decide_eq_true hx.1, decide_eq_true hx.2]
  rfl
theorem lw_x {c : Int} {k : Nat} (h : 0 < c % 6) : (lw c k).head? = some 120 := by
  unfold lw
  obtain ⟨n, e⟩ : ∃ n, (c % 6).toNat = n + 1 := ⟨(c % 6).toNat - 1, by omega⟩
  rw [e]
  rfl
theorem sea_list : ("sea" : Str).cps.toList = [115, 101, 97] := by decide +kernel
theorem nm11_name (c : Int) (k : Nat) : nameS (nm11 c k) = true := by
  unfold nm11
  split
  · rename_i h
    exact fixW_name _ (fixW_mem h.2)
  · have l := lw_len c k
    have m0 : 0 ≤ c % 6 := Int.emod_nonneg _ (by decide)
    have m1 : c % 6 < 6 := Int.emod_lt_of_pos _ (by decide)
    have ns : (⟨(lw c k).toArray⟩ : Str) ≠ "sea" := fun e => by
      have e2 := congrArg (fun z : Str => z.cps.toList) e
      rw [sea_list] at e2
      have e2 : lw c k = [115, 101, 97] := e2
      have e3 : c % 6 = 1 := by
        rw [e2] at l
        have l : 3 = (c % 6).toNat + 2 := l
        omega
      have := lw_x (c := c) (k := k) (by omega)
      rw [e2] at this
      cases this
    unfold nameS
    have hl : (⟨(lw c k).toArray⟩ : Str).length = (c % 6).toNat + 2 := by
      show (lw c k).toArray.size = _
      rw [List.size_toArray, l]
    rw [hl, decide_eq_true (by omega), decide_eq_true (by omega), decide_eq_false ns]
    show (true && true && true && (lw c k).all letter) = true
    rw [List.all_eq_true.mpr (lw_letter c k)]
    rfl
theorem lw_inj {c : Int} {i j : Nat} (hi : i < 40) (hj : j < 40) (h : lw c i = lw c j) : i = j := by
  have h := List.append_cancel_left h
  have h1 := (List.cons.inj h).1
  have h2 := (List.cons.inj (List.cons.inj h).2).1
  omega
theorem nm11_inj {c : Int} {i j : Nat} (hi : i < 40) (hj : j < 40) (h : nm11 c i = nm11 c j) : i = j := by
  have mix : ∀ {i j : Nat}, c % 4 = 1 → i < 5 → fixW.getD i "" ≠ (⟨(lw c j).toArray⟩ : Str) := fun h4 hi e => by
    have := fixW_x _ (fixW_mem hi)
    rw [e] at this
    exact this (lw_x (by omega))
  unfold nm11 at h
  by_cases h1 : c % 4 = 1 ∧ i < 5
  · by_cases h2 : c % 4 = 1 ∧ j < 5
    · rw [if_pos h1, if_pos h2] at h
      exact fixW_inj h1.2 h2.2 h
    · rw [if_pos h1, if_neg h2] at h
      exact absurd h (mix h1.1 h1.2)
  · by_cases h2 : c % 4 = 1 ∧ j < 5
    · rw [if_neg h1, if_pos h2] at h
      exact absurd h.symm (mix h2.1 h2.2)
    · rw [if_neg h1, if_neg h2] at h
      exact lw_inj hi hj (congrArg (fun z : Str => z.cps.toList) h)
theorem names11 (c : Int) {n : Nat} (hn : n ≤ 40) : ((List.range n).map (nm11 c)).Nodup := by
  rw [List.nodup_iff_pairwise_ne, List.pairwise_map]
  refine List.Pairwise.imp_of_mem (fun {i j} hi hj hlt e => ?_) List.pairwise_lt_range
  have := nm11_inj (by have := List.mem_range.mp hi; omega) (by have := List.mem_range.mp hj; omega) e
  omega
def spFld (K : PySem.W.Frag) : Sp := sp1 fun x H Q => Scr K H x ∧ ∀ (fs : List Dv) (vs : List V) (l : Addr) (H' : Hp), Fds fs 12 → Same H H' → H l = none → H' l = some (.lst vs) → IsL H' fs vs → Q (.ref l) H'
theorem ok_l_fields (T : Txt K mg C) : Fc P w K mg base 2 "_law_fields" ["_law_script"] (spFld K) := by
  have G_l_cell_at : Fc P w K mg base 1 "_law_cell_at" ["_law_script", "_law_k"] (spCell K) := ok_l_cell_at T
  have G_l_mixed : Fc P w K mg base 1 "_law_mixed" ["_law_cell", "_law_k"] spMixedC := ok_l_mixed T
  have G_l_name : Fc P w K mg base 1 "_law_name" ["_law_cell", "_law_k"] spNm := ok_l_name T
  have G_l_height : Fc P w K mg base 1 "_law_height" ["_law_number"] (spBound (-1000000) 1000000) := ok_l_height T
  have G_l_count : Fc P w K mg base 1 "_law_count" ["_law_number"] (spBound 0 1000000) := ok_l_count T
  refine T.d_l_fields.fc sc_l_fields len1 (fun f cdv A outer s H vs Q E hr h => ?_)
  obtain ⟨x, rfl, ⟨a, ns, rfl, hS, hl⟩, q⟩ := h
  refine ⟨_, (@pss_cons _ _ _ _ _ (@ps_set _ _ (1) _ _ _ _ sc_l_fields.nd rfl (Or.inl rfl) (@pe_c _ _ _ _ _ _ _ _ _ _ G_l_cell_at (hr.mono (by decide)) (@pa_cons _ _ _ _ _ (pv 0) (@pa_cons _ _ _ _ _ pe_int pa_nil (by rfl)) (by rfl)) (by rfl) (by decide) (by rfl) (by rfl)) (by rfl) (by first | exact .inl rfl | exact .inr rfl | assumption)) (@pss_cons _ _ _ _ _ (@ps_set _ _ (2) _ _ _ _ sc_l_fields.nd rfl (Or.inl rfl) (@pe_lst _ _ _ _ pa_nil) (by rfl) (by first | exact .inl rfl | exact .inr rfl | assumption)) (@pss_cons _ _ _ _ _ (@ps_for _ _ _ _ _ _ _ _ PassesOwn.never rfl (@pi_range1 _ _ _ _ _ _ rfl T.n_range (@pa_cons _ _ _ _ _ (@pe_op _ _ _ _ _ _ _ _ op_add pe_int (@pe_op _ _ _ _ _ _ _ _ op_mod (@pe_c _ _ _ _ _ _ _ _ _ _ G_l_cell_at (hr.mono (by decide)) (@pa_cons _ _ _ _ _ (pv 0) (@pa_cons _ _ _ _ _ pe_int pa_nil (by rfl)) (by rfl)) (by rfl) (by decide) (by rfl) (by rfl)) pe_int)) pa_nil (by rfl)) (by rfl)) (@pg_name _ _ (3) _ sc_l_fields.nd rfl (Or.inl rfl) (by first | exact .inl rfl | exact .inr rfl | assumption)) (@pss_cons _ _ _ _ _ (@ps_set _ _ (4) _ _ _ _ sc_l_fields.nd rfl (Or.inl rfl) (@pe_c _ _ _ _ _ _ _ _ _ _ G_l_mixed (hr.mono (by decide)) (@pa_cons _ _ _ _ _ (pv 1) (@pa_cons _ _ _ _ _ (@pe_op _ _ _ _ _ _ _ _ op_add pe_int (pv 3)) pa_nil (by rfl)) (by rfl)) (by rfl) (by decide) (by rfl) (by rfl)) (by rfl) (by first | exact .inl rfl | exact .inr rfl | assumption)) (@pss_one _ _ _ (@ps_expr _ _ _ _ (@pe_bm _ _ _ _ _ _ _ _ _ _ _ _ PySem.F.plainAttrs_list PySem.F.slot_list_append PySem.F.type_list_append mt_append (pv 2) (@pa_cons _ _ _ _ _ (@pe_tup _ _ _ _ _ (@pa_cons _ _ _ _ _ (@pe_c _ _ _ _ _ _ _ _ _ _ G_l_name (hr.mono (by decide)) (@pa_cons _ _ _ _ _ (pv 1) (@pa_cons _ _ _ _ _ (pv 3) pa_nil (by rfl)) (by rfl)) (by rfl) (by decide) (by rfl) (by rfl)) (@pa_cons _ _ _ _ _ (@pe_c _ _ _ _ _ _ _ _ _ _ G_l_height (hr.mono (by decide)) (@pa_cons _ _ _ _ _ (pv 4) pa_nil (by rfl)) (by rfl) (by decide) (by rfl) (by rfl)) (@pa_cons _ _ _ _ _ (@pe_c _ _ _ _ _ _ _ _ _ _ G_l_count (hr.mono (by decide)) (@pa_cons _ _ _ _ _ (@pe_op _ _ _ _ _ _ _ _ op_fdivB (pv 4) pe_int) pa_nil (by rfl)) (by rfl) (by decide) (by rfl) (by rfl)) pa_nil (by rfl)) (by rfl)) (by rfl))) pa_nil (by rfl)) (by rfl) (by rfl) (by rfl) (by rfl) (by rfl)) (by rfl)))) (by intro _; rfl)) (@pss_one _ _ _ (@ps_ret _ _ _ _ (pv 2)))))), ?_⟩
  have big := big1000
  generalize hc : ns.getD (0 : Int).toNat 0 = c
  generalize hm0 : ns.getD (1 : Int).toNat 0 = c1
  have r0 : 0 ≤ c1 % 12 := Int.emod_nonneg _ (by decide)
  have r1 : c1 % 12 < 12 := Int.emod_lt_of_pos _ (by decide)
  obtain ⟨m, hm⟩ := Int.eq_ofNat_of_zero_le (show 0 ≤ 1 + c1 % 12 by omega)
  refine ⟨_, rfl, _, _, rfl, a, ns, 0, rfl, rfl, hS, hl, by decide, ?_⟩
  rw [hc]
  refine ⟨small_le rfl, fun l hl0 => ?_⟩
  have S2 := Same.upd (o := .lst []) hl0
  refine ⟨_, rfl, _, _, rfl, a, ns, 1, rfl, rfl, S2.seq hS, hl, by decide, ?_⟩
  rw [hm0]
  refine ⟨_, _, rfl, rfl, (posI rfl), _, _, rfl, rfl, _, rfl, by omega, by omega, ?_⟩
  rw [hm, Int.toNat_natCast]
  refine for_range (lo := 0) (n := m) (fun i σ H' => ∃ (v3 v4 : Option V) (us : List V) (fs : List Dv), σ = [some (.ref a), some (.int c), some (.ref l), v3, v4] ∧ Same H H' ∧ H' l = some (.lst us) ∧ IsL H' fs us ∧ fs.map nmOf = (List.range i).map (nm11 c) ∧ (∀ d ∈ fs, isField d = true))
    ⟨_, _, [], [], rfl, S2, upd_same, rfl, rfl, fun d m => by cases m⟩ ?_ ?_
  · rintro i σ H' hi ⟨v3, v4, us, fs, rfl, S, hl', hi', en, af⟩
    have lf : fs.length = i := by
      have := congrArg List.length en
      rw [List.length_map, List.length_map, List.length_range] at this
      omega
    have lu := hi'.length
    refine ⟨_, rfl, _, rfl, _, _, rfl, rfl, _, _, rfl, c, 17 + (0 + (i : Int)), rfl, rfl, by omega, by omega, fun c2 c20 c21 => ?_⟩
    refine ⟨_, rfl, .inl ⟨rfl, _, SqL.of hl'⟩, _, rfl, _, rfl, _, _, rfl, c, i, rfl, by rw [Int.zero_add], by omega, fun H3 S3 => ?_⟩
    refine ⟨_, rfl, _, rfl, c2, rfl, fun g g0 g1 => ?_⟩
    refine ⟨_, rfl, _, _, rfl, rfl, ⟨by decide, by decide⟩, _, rfl, _, rfl, fun e e0 e1 => ?_⟩
    refine ⟨small_le rfl, fun t ht => ?_⟩
    have S4 := S3.trans (Same.upd (o := .tup [.str (nm11 c i), .int g, .int e]) ht)
    have hl4 := S4 _ _ hl'
    have ok : isField (.tup [.str (nm11 c i), .int g, .int e]) = true := field_mk (nm11_name c i) g0 g1 e0 e1
    refine ⟨l, us, .ref t, rfl, rfl, hl4, by omega, ?_⟩
    refine ⟨_, _, us ++ [.ref t], fs ++ [.tup [.str (nm11 c i), .int g, .int e]], rfl, (S.trans S4).over hl0, upd_same, ?_, ?_, ?_⟩
    · refine IsL.keep (KeepT.lst hl4) _ _ (hardL_of fun d m => field_hard ?_) (IsL.snoc ?_ (IsL.same S4 _ _ hi'))
      · rcases List.mem_append.mp m with m | m
        · exact af d m
        · rw [List.mem_singleton.mp m]
          exact ok
      · exact ⟨t, _, rfl, upd_same, .str _, _, rfl, rfl, .int g, _, rfl, rfl, .int e, _, rfl, rfl, rfl⟩
    · rw [List.map_append, en, List.range_succ, List.map_append]
      rfl
    · intro d m
      rcases List.mem_append.mp m with m | m
      · exact af d m
      · rw [List.mem_singleton.mp m]
        exact ok
  · rintro σ H' ⟨v3, v4, us, fs, rfl, S, hl', hi', en, af⟩
    have lf : fs.length = m := by
      have := congrArg List.length en
      rw [List.length_map, List.length_map, List.length_range] at this
      omega
    exact ⟨_, rfl, q fs us l H' ⟨by omega, by omega, af, by rw [en]; exact names11 c (by omega)⟩ S hl0 hl' hi'⟩

open Mt13 Mt11 Mt02
def spDk (K : PySem.W.Frag) : Sp := sp3 fun x y z H Q => ∃ (a l : Addr) (ns : List Int) (k : Nat) (zs : List Str), x = .ref a ∧ y = .int k ∧ z = .ref l ∧ SqL K H a (ns.map V.int) ∧ ns.length ≤ 63 ∧ k < 40 ∧ H l = some (.lst (zs.map V.str)) ∧ 2 ≤ zs.length ∧ zs.length ≤ 20 ∧ zs.Nodup ∧
  ∀ (d : Dv) (v : V) (H' : Hp), Same H H' → Is H' d v → isDyke zs d = true → nmOf d = nm11 (ns.getD 2 0) k → Q v H'
theorem ok_l_dyke (T : Txt K mg C) : Fc P w K mg base 2 "_law_dyke" ["_law_script", "_law_k", "_law_sides"] (spDk K) := by
  have G_l_cell_at : Fc P w K mg base 1 "_law_cell_at" ["_law_script", "_law_k"] (spCell K) := ok_l_cell_at T
  have G_l_mixed : Fc P w K mg base 1 "_law_mixed" ["_law_cell", "_law_k"] spMixedC := ok_l_mixed T
  have G_l_name : Fc P w K mg base 1 "_law_name" ["_law_cell", "_law_k"] spNm := ok_l_name T
  have G_l_height : Fc P w K mg base 1 "_law_height" ["_law_number"] (spBound (-1000000) 1000000) := ok_l_height T
  have G_l_count : Fc P w K mg base 1 "_law_count" ["_law_number"] (spBound 0 1000000) := ok_l_count T
  refine T.d_l_dyke.fc sc_l_dyke len3 (fun f cdv A outer s H vs Q E hr h => ?_)
  obtain ⟨x, y, z, rfl, a, l, ns, k, zs, rfl, rfl, rfl, hS, hl, hk, hz, z0, z1, zn, q⟩ := h
  have big := big1000
  refine ⟨_, (@pss_cons _ _ _ _ _ (@ps_set _ _ (3) _ _ _ _ sc_l_dyke.nd rfl (Or.inl rfl) (@pe_c _ _ _ _ _ _ _ _ _ _ G_l_mixed (hr.mono (by decide)) (@pa_cons _ _ _ _ _ (@pe_c _ _ _ _ _ _ _ _ _ _ G_l_cell_at (hr.mono (by decide)) (@pa_cons _ _ _ _ _ (pv 0) (@pa_cons _ _ _ _ _ (@pe_op _ _ _ _ _ _ _ _ op_add pe_int (pv 1)) pa_nil (by rfl)) (by rfl)) (by rfl) (by decide) (by rfl) (by rfl)) (@pa_cons _ _ _ _ _ (@pe_op _ _ _ _ _ _ _ _ op_mul pe_int (pv 1)) pa_nil (by rfl)) (by rfl)) (by rfl) (by decide) (by rfl) (by rfl)) (by rfl) (by first | exact .inl rfl | exact .inr rfl | assumption)) (@pss_cons _ _ _ _ _ (@ps_set _ _ (4) _ _ _ _ sc_l_dyke.nd rfl (Or.inl rfl) (@pe_c _ _ _ _ _ _ _ _ _ _ G_l_mixed (hr.mono (by decide)) (@pa_cons _ _ _ _ _ (@pe_c _ _ _ _ _ _ _ _ _ _ G_l_cell_at (hr.mono (by decide)) (@pa_cons _ _ _ _ _ (pv 0) (@pa_cons _ _ _ _ _ (@pe_op _ _ _ _ _ _ _ _ op_add pe_int (pv 1)) pa_nil (by rfl)) (by rfl)) (by rfl) (by decide) (by rfl) (by rfl)) (@pa_cons _ _ _ _ _ (@pe_op _ _ _ _ _ _ _ _ op_add (@pe_op _ _ _ _ _ _ _ _ op_mul pe_int (pv 1)) pe_int) pa_nil (by rfl)) (by rfl)) (by rfl) (by decide) (by rfl) (by rfl)) (by rfl) (by first | exact .inl rfl | exact .inr rfl | assumption)) (@pss_cons _ _ _ _ _ (@ps_set _ _ (5) _ _ _ _ sc_l_dyke.nd rfl (Or.inl rfl) (@pe_op _ _ _ _ _ _ _ _ op_mod (pv 3) (@pe_callB _ _ _ _ _ _ _ _ _ (@call_len_seqB _ (K) rfl) rfl T.n_len boot_len' (@pa_cons _ _ _ _ _ (pv 2) pa_nil (by rfl)) (by decide) (by decide) (by rfl) (by rfl))) (by rfl) (by first | exact .inl rfl | exact .inr rfl | assumption)) (@pss_cons _ _ _ _ _ (@ps_set _ _ (6) _ _ _ _ sc_l_dyke.nd rfl (Or.inl rfl) (@pe_op _ _ _ _ _ _ _ _ op_mod (@pe_op _ _ _ _ _ _ _ _ op_add (@pe_op _ _ _ _ _ _ _ _ op_add (pv 5) pe_int) (@pe_op _ _ _ _ _ _ _ _ op_mod (@pe_op _ _ _ _ _ _ _ _ op_fdivB (pv 3) pe_int) (@pe_op _ _ _ _ _ _ _ _ op_sub (@pe_callB _ _ _ _ _ _ _ _ _ (@call_len_seqB _ (K) rfl) rfl T.n_len boot_len' (@pa_cons _ _ _ _ _ (pv 2) pa_nil (by rfl)) (by decide) (by decide) (by rfl) (by rfl)) pe_int))) (@pe_callB _ _ _ _ _ _ _ _ _ (@call_len_seqB _ (K) rfl) rfl T.n_len boot_len' (@pa_cons _ _ _ _ _ (pv 2) pa_nil (by rfl)) (by decide) (by decide) (by rfl) (by rfl))) (by rfl) (by first | exact .inl rfl | exact .inr rfl | assumption)) (@pss_cons _ _ _ _ _ (@ps_set _ _ (7) _ _ _ _ sc_l_dyke.nd rfl (Or.inl rfl) (@pe_c _ _ _ _ _ _ _ _ _ _ G_l_height (hr.mono (by decide)) (@pa_cons _ _ _ _ _ (@pe_op _ _ _ _ _ _ _ _ op_fdivB (pv 3) pe_int) pa_nil (by rfl)) (by rfl) (by decide) (by rfl) (by rfl)) (by rfl) (by first | exact .inl rfl | exact .inr rfl | assumption)) (@pss_cons _ _ _ _ _ (@ps_set _ _ (8) _ _ _ _ sc_l_dyke.nd rfl (Or.inl rfl) pe_non (by rfl) (by first | exact .inl rfl | exact .inr rfl | assumption)) (@pss_cons _ _ _ _ _ (@ps_if _ _ _ _ _ _ _ _ (@PW.pt _ _ _ (@pw_and _ _ _ _ _ _ _ (@pt_cmpR _ _ _ _ _ _ _ _ op_eq (@pe_op _ _ _ _ _ _ _ _ op_mod (pv 4) pe_int) pe_int (@nomark _ _ (by decide) (by decide))) (@pw_and1 _ _ _ _ (@pt_cmpR _ _ _ _ _ _ _ _ op_gt (pv 7) (@pe_op _ _ _ _ _ _ _ _ op_sub pe_int (@pe_op _ _ _ _ _ _ _ _ op_pow pe_int pe_int)) (@nomark _ _ (by decide) (by decide)))))) (@pss_one _ _ _ (@ps_set _ _ (8) _ _ _ _ sc_l_dyke.nd rfl (Or.inl rfl) (@pe_callB _ _ _ _ _ _ _ _ _ (@call_max2 _ rfl) rfl T.n_max boot_max' (@pa_cons _ _ _ _ _ (@pe_op _ _ _ _ _ _ _ _ op_sub pe_int (@pe_op _ _ _ _ _ _ _ _ op_pow pe_int pe_int)) (@pa_cons _ _ _ _ _ (@pe_op _ _ _ _ _ _ _ _ op_sub (@pe_op _ _ _ _ _ _ _ _ op_sub (pv 7) pe_int) (@pe_c _ _ _ _ _ _ _ _ _ _ G_l_count (hr.mono (by decide)) (@pa_cons _ _ _ _ _ (@pe_op _ _ _ _ _ _ _ _ op_fdivB (pv 4) pe_int) pa_nil (by rfl)) (by rfl) (by decide) (by rfl) (by rfl))) pa_nil (by rfl)) (by rfl)) (by decide) (by decide) (by rfl) (by rfl)) (by rfl) (by first | exact .inl rfl | exact .inr rfl | assumption))) pss_nil) (@pss_one _ _ _ (@ps_ret _ _ _ _ (@pe_tup _ _ _ _ _ (@pa_cons _ _ _ _ _ (@pe_c _ _ _ _ _ _ _ _ _ _ G_l_name (hr.mono (by decide)) (@pa_cons _ _ _ _ _ (@pe_c _ _ _ _ _ _ _ _ _ _ G_l_cell_at (hr.mono (by decide)) (@pa_cons _ _ _ _ _ (pv 0) (@pa_cons _ _ _ _ _ pe_int pa_nil (by rfl)) (by rfl)) (by rfl) (by decide) (by rfl) (by rfl)) (@pa_cons _ _ _ _ _ (pv 1) pa_nil (by rfl)) (by rfl)) (by rfl) (by decide) (by rfl) (by rfl)) (@pa_cons _ _ _ _ _ (@pe_ix _ _ _ _ _ _ _ (@ix_listB _ (K) rfl) (pv 2) (pv 5) (fun _ _ => rfl)) (@pa_cons _ _ _ _ _ (@pe_ix _ _ _ _ _ _ _ (@ix_listB _ (K) rfl) (pv 2) (pv 6) (fun _ _ => rfl)) (@pa_cons _ _ _ _ _ (pv 7) (@pa_cons _ _ _ _ _ (@pe_c _ _ _ _ _ _ _ _ _ _ G_l_count (hr.mono (by decide)) (@pa_cons _ _ _ _ _ (@pe_op _ _ _ _ _ _ _ _ op_fdivB (pv 4) pe_int) pa_nil (by rfl)) (by rfl) (by decide) (by rfl) (by rfl)) (@pa_cons _ _ _ _ _ (pv 8) pa_nil (by rfl)) (by rfl)) (by rfl)) (by rfl)) (by rfl)) (by rfl)))))))))))), ?_⟩
  have hL : ((zs.map V.str).length : Int) = (zs.length : Int) := by rw [List.length_map]
  refine ⟨_, rfl, _, rfl, _, _, rfl, rfl, _, _, rfl, a, ns, 3 + (k : Int), rfl, rfl, hS, hl, by omega, _, rfl, _, _, rfl, rfl, .inl ⟨by omega, by omega⟩, ?_⟩
  refine ⟨_, _, rfl, _, 16 * (k : Int), rfl, rfl, by omega, by omega, fun n n0 n1 => ?_⟩
  refine ⟨_, rfl, _, rfl, _, _, rfl, rfl, _, _, rfl, a, ns, 3 + (k : Int), rfl, rfl, hS, hl, by omega, _, rfl, _, _, rfl, rfl, .inl ⟨by omega, by omega⟩, _, _, rfl, rfl, ?_⟩
  refine ⟨_, _, rfl, _, 16 * (k : Int) + 1, rfl, rfl, by omega, by omega, fun m m0 m1 => ?_⟩
  generalize hone : n % (zs.length : Int) = one
  generalize hoth : (one + 1 + n / 13 % ((zs.length : Int) - 1)) % (zs.length : Int) = oth
  have one0 : 0 ≤ one := by rw [← hone]; exact Int.emod_nonneg _ (by omega)
  have one1 : one < zs.length := by rw [← hone]; exact Int.emod_lt_of_pos _ (by omega)
  obtain ⟨oth0, oth1, hne⟩ := second_ne (by omega) one0 one1 rfl hoth.symm
  refine ⟨_, rfl, _, rfl, l, _, rfl, .inl (SqL.of hz), _, _, rfl, rfl, (by rw [hL]; omega), ?_⟩
  dsimp only
  rw [hL, hone]
  refine ⟨_, rfl, _, _, rfl, rfl, _, rfl, _, _, rfl, rfl, ⟨by decide, by decide⟩, _, rfl, l, _, rfl, .inl (SqL.of hz), _, _, rfl, rfl, _, _, rfl, rfl, (by rw [hL]; omega), _, _, rfl, rfl, _, rfl, l, _, rfl, .inl (SqL.of hz), _, _, rfl, rfl, (by rw [hL]; omega), ?_⟩
  dsimp only
  rw [hL, hoth]
  refine ⟨_, rfl, _, _, rfl, rfl, ⟨by decide, by decide⟩, _, rfl, _, rfl, fun cr cr0 cr1 => ?_⟩
  obtain ⟨zo, ezo⟩ : ∃ z, zs[one.toNat]? = some z := ⟨_, List.getElem?_eq_getElem (by omega)⟩
  obtain ⟨zt, ezt⟩ : ∃ z, zs[oth.toNat]? = some z := ⟨_, List.getElem?_eq_getElem (by omega)⟩
  have nzz : zo ≠ zt := nd_at zn ezo ezt (by omega)
  have aO : atI (zs.map V.str) one = some (.str zo) := by
    obtain ⟨j, rfl⟩ := Int.eq_ofNat_of_zero_le one0
    exact atI_nat (by rw [List.getElem?_map, show zs[j]? = some zo from ezo]; rfl)
  have aT : atI (zs.map V.str) oth = some (.str zt) := by
    obtain ⟨j, rfl⟩ := Int.eq_ofNat_of_zero_le oth0
    exact atI_nat (by rw [List.getElem?_map, show zs[j]? = some zt from ezt]; rfl)
  have p6' : (0 : Int) - 10 ^ (6 : Int).toNat = -1000000 := by decide
  refine ⟨_, rfl, _, _, rfl, rfl, (posI rfl), rfl, _, rfl, ?_⟩
  show (if decide (V.int (m % 2) = V.int 0) = true then _ else _)
  refine ite2 (fun h1 => ?_) (fun h1 => ?_)
  · refine ⟨_, rfl, _, _, rfl, rfl, ⟨by decide, by decide, by decide⟩, _, _, rfl, rfl, _, _, rfl, rfl, _, rfl, ?_⟩
    refine ite2 (fun h2 => ?_) (fun h2 => ?_)
    · have h2 := of_decide_eq_true h2
      rw [p6'] at h2
      refine ⟨_, _, rfl, rfl, ⟨by decide, by decide, by decide⟩, _, _, rfl, rfl, _, rfl, _, _, rfl, rfl, _, rfl, _, _, rfl, rfl, ⟨by decide, by decide⟩, _, rfl, _, rfl, fun u u0 u1 => ?_⟩
      refine ⟨_, _, rfl, rfl, _, _, rfl, ?_⟩
      dsimp only
      rw [p6']
      generalize hsv : (if cr - 1 - u > -1000000 then cr - 1 - u else -1000000) = sv
      have sv0 : -1000000 ≤ sv ∧ sv < cr := by rw [← hsv]; split <;> omega
      refine ⟨_, rfl, _, _, rfl, a, ns, 2, rfl, rfl, hS, hl, by decide, _, rfl, _, _, rfl, _, k, rfl, rfl, hk, fun H3 S3 => ?_⟩
      refine ⟨_, rfl, _, rfl, l, _, _, _, rfl, rfl, SqL.of (S3 _ _ hz), aO, _, rfl, _, rfl, l, _, _, _, rfl, rfl, SqL.of (S3 _ _ hz), aT, ?_⟩
      refine ⟨_, rfl, _, rfl, _, _, rfl, rfl, ⟨by decide, by decide⟩, _, rfl, _, rfl, fun r r0 r1 => ?_⟩
      refine ⟨_, rfl, small_le rfl, fun t ht => ?_⟩
      exact q (.tup [.str (nm11 (ns.getD 2 0) k), .str zo, .str zt, .int cr, .int r, .int sv]) (.ref t) _ (S3.trans (Same.upd ht)) ⟨t, _, rfl, upd_same, _, _, rfl, rfl, _, _, rfl, rfl, _, _, rfl, rfl, _, _, rfl, rfl, _, _, rfl, rfl, _, _, rfl, rfl, rfl⟩ (dyke_mk (nm11_name _ _) (List.mem_of_getElem? ezo) (List.mem_of_getElem? ezt) nzz (hgt_of cr0 cr1) (amt_of r0 r1) ((by show (hgt sv && decide (sv < cr)) = true; rw [hgt_of sv0.1 (by omega), decide_eq_true sv0.2]; rfl))) rfl
    · refine ⟨_, rfl, _, _, rfl, a, ns, 2, rfl, rfl, hS, hl, by decide, _, rfl, _, _, rfl, _, k, rfl, rfl, hk, fun H3 S3 => ?_⟩
      refine ⟨_, rfl, _, rfl, l, _, _, _, rfl, rfl, SqL.of (S3 _ _ hz), aO, _, rfl, _, rfl, l, _, _, _, rfl, rfl, SqL.of (S3 _ _ hz), aT, ?_⟩
      refine ⟨_, rfl, _, rfl, _, _, rfl, rfl, ⟨by decide, by decide⟩, _, rfl, _, rfl, fun r r0 r1 => ?_⟩
      refine ⟨_, rfl, small_le rfl, fun t ht => ?_⟩
      exact q (.tup [.str (nm11 (ns.getD 2 0) k), .str zo, .str zt, .int cr, .int r, .non]) (.ref t) _ (S3.trans (Same.upd ht)) ⟨t, _, rfl, upd_same, _, _, rfl, rfl, _, _, rfl, rfl, _, _, rfl, rfl, _, _, rfl, rfl, _, _, rfl, rfl, _, _, rfl, rfl, rfl⟩ (dyke_mk (nm11_name _ _) (List.mem_of_getElem? ezo) (List.mem_of_getElem? ezt) nzz (hgt_of cr0 cr1) (amt_of r0 r1) (rfl)) rfl
  · refine iteF ?_
    refine ⟨_, rfl, _, _, rfl, a, ns, 2, rfl, rfl, hS, hl, by decide, _, rfl, _, _, rfl, _, k, rfl, rfl, hk, fun H3 S3 => ?_⟩
    refine ⟨_, rfl, _, rfl, l, _, _, _, rfl, rfl, SqL.of (S3 _ _ hz), aO, _, rfl, _, rfl, l, _, _, _, rfl, rfl, SqL.of (S3 _ _ hz), aT, ?_⟩
    refine ⟨_, rfl, _, rfl, _, _, rfl, rfl, ⟨by decide, by decide⟩, _, rfl, _, rfl, fun r r0 r1 => ?_⟩
    refine ⟨_, rfl, small_le rfl, fun t ht => ?_⟩
    exact q (.tup [.str (nm11 (ns.getD 2 0) k), .str zo, .str zt, .int cr, .int r, .non]) (.ref t) _ (S3.trans (Same.upd ht)) ⟨t, _, rfl, upd_same, _, _, rfl, rfl, _, _, rfl, rfl, _, _, rfl, rfl, _, _, rfl, rfl, _, _, rfl, rfl, _, _, rfl, rfl, rfl⟩ (dyke_mk (nm11_name _ _) (List.mem_of_getElem? ezo) (List.mem_of_getElem? ezt) nzz (hgt_of cr0 cr1) (amt_of r0 r1) (rfl)) rfl
def spDks (K : PySem.W.Frag) : Sp := sp3 fun x y z H Q => ∃ (fs : List Dv) (vs : List V) (lf : Addr), Scr K H x ∧ y = .ref lf ∧ z = .int 40 ∧ H lf = some (.lst vs) ∧ IsL H fs vs ∧ Fds fs 12 ∧
  ∀ (ds : List Dv) (us : List V) (l : Addr) (H' : Hp), Dks ("sea" :: fs.map nmOf) ds 40 → Same H H' → H l = none → H' l = some (.lst us) → IsL H' ds us → Q (.ref l) H'
theorem ok_l_dykes (T : Txt K mg C) : Fc P w K mg base 3 "_law_dykes" ["_law_script", "_law_fields_here", "_law_most"] (spDks K) := by
  have G_l_dyke : Fc P w K mg base 2 "_law_dyke" ["_law_script", "_law_k", "_law_sides"] (spDk K) := ok_l_dyke T
  refine T.d_l_dykes.fc sc_l_dykes len3 (fun f cdv A outer s H vs Q E hr h => ?_)
  obtain ⟨x, y, z, rfl, fs, us, lf, hS, rfl, rfl, hlf, hif, F, q⟩ := h
  have big := big1000
  refine ⟨_, (@pss_cons _ _ _ _ _ (@ps_set _ _ (3) _ _ _ _ sc_l_dykes.nd rfl (Or.inr rfl) (@pe_op _ _ _ _ _ _ _ _ op_cat (@pe_lst _ _ _ _ (@pa_cons _ _ _ _ _ pe_str pa_nil (by rfl))) (@pe_comp _ _ _ _ _ _ _ _ _ _ _ ["_law_field"] 1 [] rfl (@pi_list _ _ _ _ (pv 1)) (fun R => @pg_name _ _ (0) _ (show List.Nodup (["_law_field"] : List Str) by decide +kernel) rfl (Or.inl rfl) (by first | exact .inl rfl | exact .inr rfl | assumption)) (@gkeep_name _ _ (by decide)) (fun R => pifs_nil) (fun R => (@pe_ix _ _ _ _ _ _ _ (@ix_tupB _ (K) rfl) (pv 0) pe_int (fun _ _ => rfl))) (by rfl) (by rfl) (by rfl) (by rfl) (by rfl) (by rfl) (by rfl) (by intro _; rfl))) (by rfl) (by first | exact .inl rfl | exact .inr rfl | assumption)) (@pss_cons _ _ _ _ _ (@ps_set _ _ (4) _ _ _ _ sc_l_dykes.nd rfl (Or.inl rfl) (@pe_callB _ _ _ _ _ _ _ _ _ (@call_max2 _ rfl) rfl T.n_max boot_max' (@pa_cons _ _ _ _ _ pe_int (@pa_cons _ _ _ _ _ (@pe_callB _ _ _ _ _ _ _ _ _ (@call_min2 _ rfl) rfl T.n_min boot_min' (@pa_cons _ _ _ _ _ (pv 2) (@pa_cons _ _ _ _ _ (@pe_op _ _ _ _ _ _ _ _ op_sub (@pe_callB _ _ _ _ _ _ _ _ _ (@call_len_seqB _ (K) rfl) rfl T.n_len boot_len' (@pa_cons _ _ _ _ _ (pv 0) pa_nil (by rfl)) (by decide) (by decide) (by rfl) (by rfl)) pe_int) pa_nil (by rfl)) (by rfl)) (by decide) (by decide) (by rfl) (by rfl)) pa_nil (by rfl)) (by rfl)) (by decide) (by decide) (by rfl) (by rfl)) (by rfl) (by first | exact .inl rfl | exact .inr rfl | assumption)) (@pss_one _ _ _ (@ps_ret _ _ _ _ (@pe_comp _ _ _ _ _ _ _ _ _ _ _ ["_law_k", "_law_script", "_law_sides"] 1 [0, 3] rfl (@pi_range1 _ _ _ _ _ _ rfl T.n_range (@pa_cons _ _ _ _ _ (pv 4) pa_nil (by rfl)) (by rfl)) (fun R => @pg_name _ _ (0) _ (show List.Nodup (["_law_k", "_law_script", "_law_sides"] : List Str) by decide +kernel) rfl (Or.inl rfl) (by first | exact .inl rfl | exact .inr rfl | assumption)) (@gkeep_name _ _ (by decide)) (fun R => pifs_nil) (fun R => (@pe_c _ _ _ _ _ _ _ _ _ _ G_l_dyke (hr.mono (by decide)) (@pa_cons _ _ _ _ _ (pv 1) (@pa_cons _ _ _ _ _ (pv 0) (@pa_cons _ _ _ _ _ (pv 2) pa_nil (by rfl)) (by rfl)) (by rfl)) (by rfl) (by decide) (by rfl) (by rfl))) (by rfl) (by rfl) (by rfl) (by rfl) (by rfl) (by rfl) (by rfl) (by intro _; rfl)))))), ?_⟩
  obtain ⟨a, ns, rfl, hSc, hl⟩ := hS
  have lu := hif.length
  have f2 := F.l2
  have f1 := F.l1
  refine ⟨small_le rfl, fun p0 hp0 => ?_⟩
  have S0 := Same.upd (o := .lst [.str "sea"]) hp0
  have r0 : upd H p0 (.lst [.str "sea"]) p0 = _ := upd_same
  generalize upd H p0 (.lst [.str "sea"]) = H1 at S0 r0
  refine ⟨_, rfl, lf, rfl, ⟨_, SqL.of (S0 _ _ hlf)⟩, ?_⟩
  refine comp_list (F := K) (xs := us) (by omega) (fun i ys H' => H' = H1 ∧ ys = ((fs.take i).map nmOf).map V.str) ⟨rfl, rfl⟩ ?_ ?_ ?_
  · rintro i ys H' hi ⟨rfl, rfl⟩
    exact ⟨SqL.of (S0 _ _ hlf), by rw [List.length_map, List.length_map, List.length_take]; omega⟩
  · rintro i xv ys H' K1 K2 hx' ⟨rfl, rfl⟩ k1 k2
    have hil : i < us.length := (List.getElem?_eq_some_iff.mp hx').1
    obtain ⟨d, ed⟩ : ∃ d, fs[i]? = some d := ⟨_, List.getElem?_eq_getElem (by omega)⟩
    obtain ⟨v, ev, iv⟩ := hif.get ed
    rw [hx'] at ev
    cases ev
    obtain ⟨z, g, u, rfl, hz, hg, hu'⟩ := field_shape (F.all d (List.mem_of_getElem? ed))
    obtain ⟨t, rfl, o⟩ := field_row iv
    refine ⟨_, rfl, t, _, 0, .str z, rfl, rfl, SqT.of (S0 _ _ o), rfl, k1 _ _ ⟨rfl, ?_⟩⟩
    rw [List.take_add_one, ed, List.map_append, List.map_append]
    rfl
  rintro ys H2 ⟨rfl, rfl⟩
  rw [List.take_of_length_le (by omega)]
  intro p1 hp1
  have S1 := Same.upd (o := .lst ((fs.map nmOf).map V.str)) hp1
  have r1 : upd H2 p1 (.lst ((fs.map nmOf).map V.str)) p1 = _ := upd_same
  generalize upd H2 p1 (.lst ((fs.map nmOf).map V.str)) = H3 at S1 r1
  refine ⟨p0, p1, _, _, rfl, rfl, S1 _ _ r0, r1, by rw [List.length_map, List.length_map]; show 1 + _ ≤ _; omega, fun p2 hp2 => ?_⟩
  have S2 := Same.upd (o := .lst ([.str "sea"] ++ (fs.map nmOf).map V.str)) hp2
  have r2 : upd H3 p2 (.lst ([.str "sea"] ++ (fs.map nmOf).map V.str)) p2 = some (.lst (("sea" :: fs.map nmOf : List Str).map V.str)) := upd_same
  generalize upd H3 p2 (.lst ([.str "sea"] ++ (fs.map nmOf).map V.str)) = H4 at S2 r2
  have T4 := S0.trans (S1.trans S2)
  have zl : ("sea" :: fs.map nmOf : List Str).length = fs.length + 1 := by rw [List.length_cons, List.length_map]
  refine ⟨_, rfl, _, rfl, a, _, rfl, .inl (T4.seq hSc), _, _, rfl, rfl, _, _, rfl, _, _, rfl, ?_⟩
  dsimp only
  rw [List.length_map]
  generalize hM : (if (if (ns.length : Int) - 3 < 40 then (ns.length : Int) - 3 else 40) > 1 then (if (ns.length : Int) - 3 < 40 then (ns.length : Int) - 3 else 40) else 1) = M
  have m0 : 1 ≤ M ∧ M ≤ 40 := by
    rw [← hM]
    split <;> split <;> omega
  obtain ⟨m, rfl⟩ := Int.eq_ofNat_of_zero_le (show 0 ≤ M by omega)
  refine ⟨_, rfl, _, rfl, by omega, by omega, ?_⟩
  rw [Int.toNat_natCast]
  refine comp_range (lo := 0) (n := m) (by omega) (fun i ys H' => Same H4 H' ∧ ∃ ds : List Dv, IsL H' ds ys ∧ ds.map nmOf = (List.range i).map (nm11 (ns.getD 2 0)) ∧ ∀ d ∈ ds, isDyke ("sea" :: fs.map nmOf) d = true) ⟨Same.refl _, [], rfl, rfl, fun d m => by cases m⟩ ?_ ?_ ?_
  · rintro i ys H' ⟨S', ds, id, en, ad⟩
    have := congrArg List.length en
    rw [List.length_map, List.length_map, List.length_range] at this
    have := id.length
    omega
  · rintro i ys H' K1 K2 hi ⟨S', ds, id, en, ad⟩ k1 k2
    refine ⟨_, rfl, _, rfl, _, rfl, _, _, _, rfl, a, p2, ns, i, ("sea" :: fs.map nmOf), rfl, by rw [Int.zero_add], rfl, (T4.trans S').seq hSc, hl, by omega, S' _ _ r2, by omega, by omega, sides_nd F, fun d v H5 S5 iv okd nd => k1 _ _ ⟨S'.trans S5, ds ++ [d], IsL.snoc iv (IsL.same S5 _ _ id), ?_, ?_⟩⟩
    · rw [List.map_append, en, List.range_succ, List.map_append]
      show _ ++ [nmOf d] = _ ++ [nm11 _ i]
      rw [nd]
    · intro e m
      rcases List.mem_append.mp m with m | m
      · exact ad e m
      · rw [List.mem_singleton.mp m]
        exact okd
  rintro ys H5 ⟨S5, ds, id, en, ad⟩
  have ld := congrArg List.length en
  rw [List.length_map, List.length_map, List.length_range] at ld
  intro p5 hp5
  have S6 := Same.upd (o := .lst ys) hp5
  exact q ds ys p5 _ ⟨by omega, by omega, ad, by rw [en]; exact names11 _ (by omega)⟩ (T4.trans (S5.trans S6)) ((T4.trans S5).free hp5) upd_same (IsL.same S6 _ _ id)

open Mt13 Mt11 Mt02
theorem str_ext {a b : Str} (h : a.cps.toList = b.cps.toList) : a = b := by
  cases a; cases b
  congr 1
  exact Array.toList_inj.mp h
theorem cat_list (a b : Str) : (a ++ b).cps.toList = a.cps.toList ++ b.cps.toList := by
  show (a.cps ++ b.cps).toList = _
  rw [Array.toList_append]
theorem row_list (ws : List Str) : (rowOf ws).cps.toList = cj 32 (ws.map fun p => p.cps.toList) := by
  unfold rowOf Txt.join
  rw [StrLaws.glued_eq_join, blank_is]
  exact join_cj 32 ws
theorem l_field : ("field " : Str).cps.toList = ("field" : Str).cps.toList ++ [32] := by decide +kernel
theorem l_dyke : ("dyke " : Str).cps.toList = ("dyke" : Str).cps.toList ++ [32] := by decide +kernel
theorem l_blank : (" " : Str).cps.toList = [32] := by decide +kernel
theorem row_f (z g u : Str) : ("field " : Str) ++ z ++ " " ++ g ++ " " ++ u = rowOf ["field", z, g, u] := by
  refine str_ext ?_
  simp only [row_list, cat_list, l_field, l_blank, List.map_cons, List.map_nil, cj, List.append_assoc, List.cons_append, List.nil_append]
theorem row_d0 (n a b c r : Str) : ("dyke " : Str) ++ n ++ " " ++ a ++ " " ++ b ++ " " ++ c ++ " " ++ r = rowOf ["dyke", n, a, b, c, r] := by
  refine str_ext ?_
  simp only [row_list, cat_list, l_dyke, l_blank, List.map_cons, List.map_nil, cj, List.append_assoc, List.cons_append, List.nil_append]
theorem row_d1 (n a b c r s : Str) : ("dyke " : Str) ++ n ++ " " ++ a ++ " " ++ b ++ " " ++ c ++ " " ++ r ++ " " ++ s = rowOf ["dyke", n, a, b, c, r, s] := by
  refine str_ext ?_
  simp only [row_list, cat_list, l_dyke, l_blank, List.map_cons, List.map_nil, cj, List.append_assoc, List.cons_append, List.nil_append]
theorem n_field : ("field " : Str).length = 6 := by decide +kernel
theorem n_dyke : ("dyke " : Str).length = 5 := by decide +kernel
theorem n_blank : (" " : Str).length = 1 := by decide +kernel
def spText : Sp := sp2 fun x y H Q => ∃ (fs ds : List Dv) (us vs : List V) (lf ld : Addr), x = .ref lf ∧ y = .ref ld ∧ H lf = some (.lst us) ∧ H ld = some (.lst vs) ∧ IsL H fs us ∧ IsL H ds vs ∧ areFields (.lst fs) = true ∧ areDykes ("sea" :: fs.map nmOf) (.lst ds) = true ∧ ∀ H', Same H H' → Q (.str (showL fs ds)) H'
theorem ok_l_text (T : Txt K mg C) : Fc P w K mg base 1 "_law_text" ["_law_fields_here", "_law_dykes_here"] spText := by
  refine T.d_l_text.fc sc_l_text len2 (fun f cdv A outer s H vs Q E hr h => ?_)
  obtain ⟨x, y, rfl, fs, ds, us, vs, lf, ld, rfl, rfl, hlf, hld, hif, hid, okf, okd, q⟩ := h
  have big : 4000 ≤ sizeLine := by decide
  have gf := (goodF_iff _).mp okf
  have gd := (goodD_iff _ _).mp okd
  have f2 := gf.l2
  have d2 := gd.l2
  refine ⟨_, (@pss_cons _ _ _ _ _ (@ps_set _ _ (2) _ _ _ _ sc_l_text.nd rfl (Or.inl rfl) (@pe_lst _ _ _ _ pa_nil) (by rfl) (by first | exact .inl rfl | exact .inr rfl | assumption)) (@pss_cons _ _ _ _ _ (@ps_for _ _ _ _ _ _ _ _ PassesOwn.never rfl (@pi_list _ _ _ _ (pv 0)) (@pg_tup _ _ _ _ _ _ rfl (@pgs_cons _ _ _ _ _ (@pg_name _ _ (3) _ sc_l_text.nd rfl (Or.inl rfl) (by first | exact .inl rfl | exact .inr rfl | assumption)) (@pgs_cons _ _ _ _ _ (@pg_name _ _ (4) _ sc_l_text.nd rfl (Or.inl rfl) (by first | exact .inl rfl | exact .inr rfl | assumption)) (@pgs_cons _ _ _ _ _ (@pg_name _ _ (5) _ sc_l_text.nd rfl (Or.inl rfl) (by first | exact .inl rfl | exact .inr rfl | assumption)) pgs_nil (by rfl)) (by rfl)) (by rfl)) (by rfl) (by rfl)) (@pss_one _ _ _ (@ps_expr _ _ _ _ (@pe_bm _ _ _ _ _ _ _ _ _ _ _ _ PySem.F.plainAttrs_list PySem.F.slot_list_append PySem.F.type_list_append mt_append (pv 2) (@pa_cons _ _ _ _ _ (@pe_op _ _ _ _ _ _ _ _ op_add_str (@pe_op _ _ _ _ _ _ _ _ op_add_str (@pe_op _ _ _ _ _ _ _ _ op_add_str (@pe_op _ _ _ _ _ _ _ _ op_add_str (@pe_op _ _ _ _ _ _ _ _ op_add_str pe_str (pv 3)) pe_str) (@pe_callTy _ _ _ _ _ _ _ _ _ call_str_int rfl T.n_str boot_str' (@pa_cons _ _ _ _ _ (pv 4) pa_nil (by rfl)) (by decide) (by decide) (by rfl) (by rfl))) pe_str) (@pe_callTy _ _ _ _ _ _ _ _ _ call_str_int rfl T.n_str boot_str' (@pa_cons _ _ _ _ _ (pv 5) pa_nil (by rfl)) (by decide) (by decide) (by rfl) (by rfl))) pa_nil (by rfl)) (by rfl) (by rfl) (by rfl) (by rfl) (by rfl)) (by rfl))) (by intro _; rfl)) (@pss_cons _ _ _ _ _ (@ps_for _ _ _ _ _ _ _ _ PassesOwn.never rfl (@pi_list _ _ _ _ (pv 1)) (@pg_tup _ _ _ _ _ _ rfl (@pgs_cons _ _ _ _ _ (@pg_name _ _ (3) _ sc_l_text.nd rfl (Or.inl rfl) (by first | exact .inl rfl | exact .inr rfl | assumption)) (@pgs_cons _ _ _ _ _ (@pg_name _ _ (6) _ sc_l_text.nd rfl (Or.inl rfl) (by first | exact .inl rfl | exact .inr rfl | assumption)) (@pgs_cons _ _ _ _ _ (@pg_name _ _ (7) _ sc_l_text.nd rfl (Or.inl rfl) (by first | exact .inl rfl | exact .inr rfl | assumption)) (@pgs_cons _ _ _ _ _ (@pg_name _ _ (8) _ sc_l_text.nd rfl (Or.inl rfl) (by first | exact .inl rfl | exact .inr rfl | assumption)) (@pgs_cons _ _ _ _ _ (@pg_name _ _ (9) _ sc_l_text.nd rfl (Or.inl rfl) (by first | exact .inl rfl | exact .inr rfl | assumption)) (@pgs_cons _ _ _ _ _ (@pg_name _ _ (10) _ sc_l_text.nd rfl (Or.inl rfl) (by first | exact .inl rfl | exact .inr rfl | assumption)) pgs_nil (by rfl)) (by rfl)) (by rfl)) (by rfl)) (by rfl)) (by rfl)) (by rfl) (by rfl)) (@pss_cons _ _ _ _ _ (@ps_set _ _ (11) _ _ _ _ sc_l_text.nd rfl (Or.inl rfl) (@pe_op _ _ _ _ _ _ _ _ op_add_str (@pe_op _ _ _ _ _ _ _ _ op_add_str (@pe_op _ _ _ _ _ _ _ _ op_add_str (@pe_op _ _ _ _ _ _ _ _ op_add_str (@pe_op _ _ _ _ _ _ _ _ op_add_str pe_str (pv 3)) pe_str) (pv 6)) pe_str) (pv 7)) (by rfl) (by first | exact .inl rfl | exact .inr rfl | assumption)) (@pss_cons _ _ _ _ _ (@ps_set _ _ (11) _ _ _ _ sc_l_text.nd rfl (Or.inl rfl) (@pe_op _ _ _ _ _ _ _ _ op_add_str (@pe_op _ _ _ _ _ _ _ _ op_add_str (@pe_op _ _ _ _ _ _ _ _ op_add_str (@pe_op _ _ _ _ _ _ _ _ op_add_str (pv 11) pe_str) (@pe_callTy _ _ _ _ _ _ _ _ _ call_str_int rfl T.n_str boot_str' (@pa_cons _ _ _ _ _ (pv 8) pa_nil (by rfl)) (by decide) (by decide) (by rfl) (by rfl))) pe_str) (@pe_callTy _ _ _ _ _ _ _ _ _ call_str_int rfl T.n_str boot_str' (@pa_cons _ _ _ _ _ (pv 9) pa_nil (by rfl)) (by decide) (by decide) (by rfl) (by rfl))) (by rfl) (by first | exact .inl rfl | exact .inr rfl | assumption)) (@pss_cons _ _ _ _ _ (@ps_if _ _ _ _ _ _ _ _ (@pt_cmpR _ _ _ _ _ _ _ _ op_notN (pv 10) pe_non (@nomark _ _ (by decide) (by decide))) (@pss_one _ _ _ (@ps_set _ _ (11) _ _ _ _ sc_l_text.nd rfl (Or.inl rfl) (@pe_op _ _ _ _ _ _ _ _ op_add_str (@pe_op _ _ _ _ _ _ _ _ op_add_str (pv 11) pe_str) (@pe_callTy _ _ _ _ _ _ _ _ _ call_str_int rfl T.n_str boot_str' (@pa_cons _ _ _ _ _ (pv 10) pa_nil (by rfl)) (by decide) (by decide) (by rfl) (by rfl))) (by rfl) (by first | exact .inl rfl | exact .inr rfl | assumption))) pss_nil) (@pss_one _ _ _ (@ps_expr _ _ _ _ (@pe_bm _ _ _ _ _ _ _ _ _ _ _ _ PySem.F.plainAttrs_list PySem.F.slot_list_append PySem.F.type_list_append mt_append (pv 2) (@pa_cons _ _ _ _ _ (pv 11) pa_nil (by rfl)) (by rfl) (by rfl) (by rfl) (by rfl) (by rfl)) (by rfl)))))) (by intro _; rfl)) (@pss_one _ _ _ (@ps_ret _ _ _ _ (@pe_bm _ _ _ _ _ _ _ _ _ _ _ _ PySem.F.plainAttrs_str PySem.F.slot_str_join PySem.F.type_str_join mt_join pe_str (@pa_cons _ _ _ _ _ (pv 2) pa_nil (by rfl)) (by rfl) (by rfl) (by rfl) (by rfl) (by rfl))))))), ?_⟩
  have lu := hif.length
  have lv := hid.length
  refine ⟨small_le rfl, fun l hl => ?_⟩
  have nlf : lf ≠ l := ne_of_none hlf hl
  have nld : ld ≠ l := ne_of_none hld hl
  refine ⟨_, rfl, lf, rfl, ⟨_, SqL.of (by rw [upd_ne nlf]; exact hlf)⟩, for_list (K := K) (a := lf) (xs := us) (fun i σ H' => ∃ v3 v4 v5, σ = [some (.ref lf), some (.ref ld), some (.ref l), v3, v4, v5, none, none, none, none, none, none] ∧ H' = upd H l (.lst (((fs.take i).map rowF).map V.str)))
    ⟨_, _, _, rfl, rfl⟩ ?_ ?_ ?_⟩
  · rintro i σ H' hi ⟨v3, v4, v5, rfl, rfl⟩
    exact SqL.of (by rw [upd_ne nlf]; exact hlf)
  · rintro i xv σ H' hx ⟨v3, v4, v5, rfl, rfl⟩
    have hil : i < us.length := (List.getElem?_eq_some_iff.mp hx).1
    obtain ⟨d, ed⟩ : ∃ d, fs[i]? = some d := ⟨_, List.getElem?_eq_getElem (by omega)⟩
    obtain ⟨v, ev, iv⟩ := hif.get ed
    rw [hx] at ev
    cases ev
    obtain ⟨z, g, u, rfl, hz, hg, hu'⟩ := field_shape (gf.all d (List.mem_of_getElem? ed))
    obtain ⟨t, rfl, o⟩ := field_row iv
    have nt : t ≠ l := ne_of_none o hl
    have z8 := name8 hz
    have g8 := toS_len (hgt_abs hg)
    have u8 := toS_len (amt_abs hu')
    unfold toS at g8 u8
    have et : (fs.take (i + 1)).map rowF = (fs.take i).map rowF ++ [rowF (.tup [.str z, .int g, .int u])] := by rw [List.take_add_one, ed, List.map_append]; rfl
    have er : rowF (.tup [.str z, .int g, .int u]) = ("field " : Str) ++ z ++ " " ++ toS g ++ " " ++ toS u := (row_f _ _ _).symm
    refine ⟨t, _, rfl, SqT.of (by rw [upd_ne nt]; exact o), rfl, _, _, rfl, _, _, rfl, _, _, rfl, rfl, ?_⟩
    refine ⟨_, rfl, .inl ⟨rfl, _, SqL.of upd_same⟩, ?_⟩
    refine ⟨_, rfl, _, _, rfl, rfl, (by simp only [Str.length_append, n_field, n_blank]; omega), _, _, rfl, rfl, (by simp only [Str.length_append, n_field, n_blank]; omega), ?_⟩
    refine ⟨_, rfl, _, rfl, log_small (hgt_abs hg), _, _, rfl, rfl, (by simp only [Str.length_append, n_field, n_blank]; omega), _, _, rfl, rfl, (by simp only [Str.length_append, n_field, n_blank]; omega), ?_⟩
    refine ⟨_, rfl, _, rfl, log_small (amt_abs hu'), _, _, rfl, rfl, (by simp only [Str.length_append, n_field, n_blank]; omega), ?_⟩
    refine ⟨l, _, _, rfl, rfl, upd_same, by rw [List.length_map, List.length_map, List.length_take]; omega, ?_⟩
    refine ⟨_, _, _, rfl, ?_⟩
    rw [et, er, List.map_append, upd_upd]
    rfl
  rintro σ H' ⟨v3, v4, v5, rfl, rfl⟩
  rw [lu, List.take_length]
  have side : ∀ y ∈ ("sea" :: fs.map nmOf : List Str), y.length ≤ 8 := fun y my => by
    rcases List.mem_cons.mp my with rfl | my
    · decide +kernel
    · obtain ⟨d, md, rfl⟩ := List.mem_map.mp my
      obtain ⟨z, g, u, rfl, hz, _⟩ := field_shape (gf.all d md)
      exact name8 hz
  refine ⟨_, rfl, ld, rfl, ⟨_, SqL.of (by rw [upd_ne nld]; exact hld)⟩, for_list (K := K) (a := ld) (xs := vs) (fun i σ H' => ∃ v3 v6 v7 v8 v9 v10 v11, σ = [some (.ref lf), some (.ref ld), some (.ref l), v3, v4, v5, v6, v7, v8, v9, v10, v11] ∧ H' = upd H l (.lst ((fs.map rowF).map V.str ++ ((ds.take i).map rowD).map V.str)))
    ⟨_, _, _, _, _, _, _, rfl, by rw [List.take_zero, List.map_nil, List.map_nil, List.append_nil]⟩ ?_ ?_ ?_⟩
  · rintro i σ H' hi ⟨w3, v6, v7, v8, v9, v10, v11, rfl, rfl⟩
    exact SqL.of (by rw [upd_ne nld]; exact hld)
  · rintro i xv σ H' hx ⟨w3, v6, v7, v8, v9, v10, v11, rfl, rfl⟩
    have hil : i < vs.length := (List.getElem?_eq_some_iff.mp hx).1
    obtain ⟨d, ed⟩ : ∃ d, ds[i]? = some d := ⟨_, List.getElem?_eq_getElem (by omega)⟩
    obtain ⟨v, ev, iv⟩ := hid.get ed
    rw [hx] at ev
    cases ev
    obtain ⟨n, a, b, c, r, sl, rfl, hn, ha, hb, hab, hc, hr', hs⟩ := dyke_shape (gd.all d (List.mem_of_getElem? ed))
    obtain ⟨t, sv, rfl, o, isv⟩ := dyke_row iv
    have nt : t ≠ l := ne_of_none o hl
    have n8 := name8 hn
    have a8 := side a ha
    have b8 := side b hb
    have c8 := toS_len (hgt_abs hc)
    have r8 := toS_len (amt_abs hr')
    unfold toS at c8 r8
    have et : (ds.take (i + 1)).map rowD = (ds.take i).map rowD ++ [rowD (.tup [.str n, .str a, .str b, .int c, .int r, sl])] := by rw [List.take_add_one, ed, List.map_append]; rfl
    refine ⟨t, _, rfl, SqT.of (by rw [upd_ne nt]; exact o), rfl, _, _, rfl, _, _, rfl, _, _, rfl, _, _, rfl, _, _, rfl, _, _, rfl, rfl, ?_⟩
    refine ⟨_, rfl, _, _, rfl, rfl, (by simp only [Str.length_append, n_dyke, n_blank]; omega), _, _, rfl, rfl, (by simp only [Str.length_append, n_dyke, n_blank]; omega), _, rfl, _, _, rfl, rfl, (by simp only [Str.length_append, n_dyke, n_blank]; omega), _, _, rfl, rfl, (by simp only [Str.length_append, n_dyke, n_blank]; omega), _, rfl, _, _, rfl, rfl, (by simp only [Str.length_append, n_dyke, n_blank]; omega), ?_⟩
    refine ⟨_, rfl, _, _, rfl, rfl, (by simp only [Str.length_append, n_dyke, n_blank]; omega), _, rfl, _, rfl, log_small (hgt_abs hc), _, _, rfl, rfl, (by simp only [Str.length_append, n_dyke, n_blank]; omega), _, _, rfl, rfl, (by simp only [Str.length_append, n_dyke, n_blank]; omega), _, rfl, _, rfl, log_small (amt_abs hr'), _, _, rfl, rfl, (by simp only [Str.length_append, n_dyke, n_blank]; omega), ?_⟩
    cases sl with
    | non =>
      cases (show sv = .non from isv)
      have er : rowD (.tup [.str n, .str a, .str b, .int c, .int r, .non]) = ("dyke " : Str) ++ n ++ " " ++ a ++ " " ++ b ++ " " ++ toS c ++ " " ++ toS r := (row_d0 _ _ _ _ _).symm
      refine ⟨_, rfl, rfl, _, rfl, ?_⟩
      refine iteF ?_
      refine ⟨_, rfl, .inl ⟨rfl, _, SqL.of upd_same⟩, _, rfl, l, _, _, rfl, rfl, upd_same, by rw [List.length_append, List.length_map, List.length_map, List.length_map, List.length_map, List.length_take]; omega, ?_⟩
      refine ⟨_, _, _, _, _, _, _, rfl, ?_⟩
      rw [et, er, List.map_append, upd_upd]
      rw [← List.append_assoc]
      rfl
    | int s =>
      cases (show sv = .int s from isv)
      have er : rowD (.tup [.str n, .str a, .str b, .int c, .int r, .int s]) = ("dyke " : Str) ++ n ++ " " ++ a ++ " " ++ b ++ " " ++ toS c ++ " " ++ toS r ++ " " ++ toS s := (row_d1 _ _ _ _ _ _).symm
      have hsg := (Bool.and_eq_true_iff.mp (show (hgt s && decide (s < c)) = true from hs)).1
      have s8 := toS_len (hgt_abs hsg)
      unfold toS at s8
      refine ⟨_, rfl, rfl, _, rfl, ?_⟩
      refine iteT ?_
      refine ⟨_, rfl, _, _, rfl, rfl, (by simp only [Str.length_append, n_dyke, n_blank]; omega), _, rfl, _, rfl, log_small (hgt_abs hsg), _, _, rfl, rfl, (by simp only [Str.length_append, n_dyke, n_blank]; omega), ?_⟩
      refine ⟨_, rfl, .inl ⟨rfl, _, SqL.of upd_same⟩, _, rfl, l, _, _, rfl, rfl, upd_same, by rw [List.length_append, List.length_map, List.length_map, List.length_map, List.length_map, List.length_take]; omega, ?_⟩
      refine ⟨_, _, _, _, _, _, _, rfl, ?_⟩
      rw [et, er, List.map_append, upd_upd]
      rw [← List.append_assoc]
      rfl
    | _ => cases hs
  rintro σ H' ⟨w3, v6, v7, v8, v9, v10, v11, rfl, rfl⟩
  rw [lv, List.take_length, ← List.map_append]
  refine ⟨rfl, _, rfl, "\n", l, fs.map rowF ++ ds.map rowD, rfl, rfl, SqL.of upd_same, ?_, q _ (Same.upd hl)⟩
  have h1 := sum_le (rows_small gf gd)
  have h2 : (fs.map rowF ++ ds.map rowD).length = fs.length + ds.length := by rw [List.length_append, List.length_map, List.length_map]
  rw [show ("\n" : Str).length = 1 by decide +kernel]
  omega

open Mt13 Mt11 Mt02
def spAlike : Sp := sp2 fun x y H Q => ∃ (fs : List Dv) (us vs : List V) (p q : Addr), x = .ref p ∧ y = .ref q ∧ H p = some (.lst us) ∧ H q = some (.lst vs) ∧ IsL H fs us ∧ IsL H fs vs ∧ fs.length ≤ 1000 ∧ (∀ d ∈ fs, flatTo 30 d = true ∧ ∃ es, d = .tup es ∧ ∀ e ∈ es, isBl e = false) ∧ Q (.bl true) H
theorem ok_l_alike (T : Txt K mg C) : Fc P w K mg base 1 "_law_alike" ["_law_found", "_law_due"] spAlike := by
  refine T.d_l_alike.fc sc_l_alike len2 (fun f cdv A outer s H vs Q E hr h => ?_)
  obtain ⟨x, y, rfl, fs, us, vs, p, q, rfl, rfl, hp, hq, hip, hiq, hl, ok, qq⟩ := h
  have big := big1000
  refine ⟨_, (@pss_cons _ _ _ _ _ (@ps_if _ _ _ _ _ _ _ _ (@PW.pt _ _ _ (@pw_or _ _ _ _ _ _ _ (@pt_not _ _ _ _ (@pt_val _ _ _ (@pe_callB _ _ _ _ _ _ _ _ _ (@call_isinstB _ (K) rfl) rfl T.n_isinstance boot_isinstance (@pa_cons _ _ _ _ _ (pv 0) (@pa_cons _ _ _ _ _ (@pe_ty _ _ _ _ T.n_list boot_list' (by rfl) (by decide) (by decide)) pa_nil (by rfl)) (by rfl)) (by decide) (by decide) (by rfl) (by rfl)) (by intro _; rfl))) (@pw_or1 _ _ _ _ (@pt_cmpR _ _ _ _ _ _ _ _ op_ne (@pe_callB _ _ _ _ _ _ _ _ _ (@call_len_seqB _ (K) rfl) rfl T.n_len boot_len' (@pa_cons _ _ _ _ _ (pv 0) pa_nil (by rfl)) (by decide) (by decide) (by rfl) (by rfl)) (@pe_callB _ _ _ _ _ _ _ _ _ (@call_len_seqB _ (K) rfl) rfl T.n_len boot_len' (@pa_cons _ _ _ _ _ (pv 1) pa_nil (by rfl)) (by decide) (by decide) (by rfl) (by rfl)) (@nomark _ _ (by decide) (by decide)))))) (@pss_one _ _ _ (@ps_ret _ _ _ _ pe_bl)) pss_nil) (@pss_cons _ _ _ _ _ (@ps_for _ _ _ _ _ _ _ _ PassesOwn.never rfl (@pi_range1 _ _ _ _ _ _ rfl T.n_range (@pa_cons _ _ _ _ _ (@pe_callB _ _ _ _ _ _ _ _ _ (@call_len_seqB _ (K) rfl) rfl T.n_len boot_len' (@pa_cons _ _ _ _ _ (pv 1) pa_nil (by rfl)) (by decide) (by decide) (by rfl) (by rfl)) pa_nil (by rfl)) (by rfl)) (@pg_name _ _ (2) _ sc_l_alike.nd rfl (Or.inl rfl) (by first | exact .inl rfl | exact .inr rfl | assumption)) (@pss_cons _ _ _ _ _ (@ps_if _ _ _ _ _ _ _ _ (@PW.pt _ _ _ (@pw_or _ _ _ _ _ _ _ (@pt_not _ _ _ _ (@pt_val _ _ _ (@pe_callB _ _ _ _ _ _ _ _ _ (@call_isinstB _ (K) rfl) rfl T.n_isinstance boot_isinstance (@pa_cons _ _ _ _ _ (@pe_ix _ _ _ _ _ _ _ (@ix_listB _ (K) rfl) (pv 0) (pv 2) (fun _ _ => rfl)) (@pa_cons _ _ _ _ _ (@pe_ty _ _ _ _ T.n_tuple boot_tuple' (by rfl) (by decide) (by decide)) pa_nil (by rfl)) (by rfl)) (by decide) (by decide) (by rfl) (by rfl)) (by intro _; rfl))) (@pw_or1 _ _ _ _ (@pt_cmpR _ _ _ _ _ _ _ _ (@op_neD _ hr.units) (@pe_ix _ _ _ _ _ _ _ (@ix_listB _ (K) rfl) (pv 0) (pv 2) (fun _ _ => rfl)) (@pe_ix _ _ _ _ _ _ _ (@ix_listB _ (K) rfl) (pv 1) (pv 2) (fun _ _ => rfl)) (@nomark _ _ (by decide) (by decide)))))) (@pss_one _ _ _ (@ps_ret _ _ _ _ pe_bl)) pss_nil) (@pss_one _ _ _ (@ps_for _ _ _ _ _ _ _ _ PassesOwn.never rfl (@pi_tup _ _ _ _ (@pe_ix _ _ _ _ _ _ _ (@ix_listB _ (K) rfl) (pv 0) (pv 2) (fun _ _ => rfl))) (@pg_name _ _ (3) _ sc_l_alike.nd rfl (Or.inl rfl) (by first | exact .inl rfl | exact .inr rfl | assumption)) (@pss_one _ _ _ (@ps_if _ _ _ _ _ _ _ _ (@pt_val _ _ _ (@pe_callB _ _ _ _ _ _ _ _ _ (@call_isinstB _ (K) rfl) rfl T.n_isinstance boot_isinstance (@pa_cons _ _ _ _ _ (pv 3) (@pa_cons _ _ _ _ _ (@pe_ty _ _ _ _ T.n_bool boot_bool' (by rfl) (by decide) (by decide)) pa_nil (by rfl)) (by rfl)) (by decide) (by decide) (by rfl) (by rfl)) (by intro _; rfl)) (@pss_one _ _ _ (@ps_ret _ _ _ _ pe_bl)) pss_nil)) (by intro _; rfl)))) (by intro _; rfl)) (@pss_one _ _ _ (@ps_ret _ _ _ _ pe_bl)))), ?_⟩
  have lu := hip.length
  have lv := hiq.length
  refine ⟨_, rfl, _, _, _, _, _, rfl, rfl, TyOf.lst hp, kit_self _ _, _, rfl, ?_⟩
  refine iteF ?_
  refine ⟨_, rfl, p, us, rfl, .inl (SqL.of hp), _, rfl, q, vs, rfl, .inl (SqL.of hq), rfl, _, rfl, ?_⟩
  rw [lu, lv, decide_eq_true (rfl : V.int (fs.length : Int) = _)]
  refine iteF ?_
  refine ⟨_, rfl, q, vs, rfl, .inl (SqL.of hq), _, rfl, by omega, by omega, ?_⟩
  rw [lv, Int.toNat_natCast]
  refine for_range (lo := 0) (n := fs.length) (fun i σ H' => ∃ v2 v3, σ = [some (.ref p), some (.ref q), v2, v3] ∧ H' = H) ⟨_, _, rfl, rfl⟩ ?_ ?_
  · rintro i σ H' hi ⟨v2, v3, rfl, rfl⟩
    obtain ⟨d, ed⟩ : ∃ d, fs[i]? = some d := ⟨_, List.getElem?_eq_getElem hi⟩
    obtain ⟨u, eu, iu⟩ := hip.get ed
    obtain ⟨v, ev, iv⟩ := hiq.get ed
    obtain ⟨fl, es, rfl, nb⟩ := ok d (List.mem_of_getElem? ed)
    have au : atI us (0 + (i : Int)) = some u := by rw [Int.zero_add]; exact atI_nat eu
    have av : atI vs (0 + (i : Int)) = some v := by rw [Int.zero_add]; exact atI_nat ev
    have iu' := iu
    obtain ⟨t, xs, rfl, ot, ix⟩ := iu'
    refine ⟨_, rfl, _, rfl, p, us, _, _, rfl, rfl, SqL.of hp, au, _, _, _, _, _, rfl, rfl, TyOf.tup ot, kit_self _ _, _, rfl, ?_⟩
    refine iteF ?_
    refine ⟨_, rfl, _, rfl, p, us, _, _, rfl, rfl, SqL.of hp, au, _, rfl, _, rfl, q, vs, _, _, rfl, rfl, SqL.of hq, av, _, _, iu, iv, fl, fl, _, rfl, ?_⟩
    rw [deq_refl 30 _ fl]
    refine iteF ?_
    refine ⟨_, rfl, _, rfl, p, us, _, _, rfl, rfl, SqL.of hp, au, t, rfl, ⟨_, SqT.of ot⟩, for_tup (K := K) (a := t) (xs := xs) (fun j σ H2 => ∃ v3, σ = [some (.ref p), some (.ref q), some (.int (0 + (i : Int))), v3] ∧ H2 = H') ⟨_, rfl, rfl⟩ ?_ ?_ ?_⟩
    · rintro j σ H2 hj ⟨v3, rfl, rfl⟩
      exact SqT.of ot
    · rintro j xv σ H2 hx ⟨v3, rfl, rfl⟩
      have hjl : j < xs.length := (List.getElem?_eq_some_iff.mp hx).1
      have lx := ix.length
      obtain ⟨e, ee⟩ : ∃ e, es[j]? = some e := ⟨_, List.getElem?_eq_getElem (by omega)⟩
      obtain ⟨w, ew, iw⟩ := IsL.get ix ee
      rw [hx] at ew
      cases ew
      obtain ⟨ty, t1, e1, e2, _⟩ := Is_kit K iw
      rw [nb e (List.mem_of_getElem? ee)] at e2
      refine ⟨_, rfl, _, _, _, _, _, rfl, rfl, t1, e2, _, rfl, ?_⟩
      exact iteF ⟨_, rfl, rfl⟩
    · rintro σ H2 ⟨v3, rfl, rfl⟩
      exact ⟨_, _, rfl, rfl⟩
  · rintro σ H' ⟨v2, v3, rfl, rfl⟩
    exact qq

open Mt13 Mt11 Mt02
theorem cut_tail (x : V) (xs : List V) : cutV (x :: xs) (some 1) none = xs := by
  unfold cutV
  have e : HT.sIx (x :: xs).length 0 (some 1) = 1 := by
    simp [HT.sIx]
  have e2 : HT.sIx (x :: xs).length (x :: xs).length none = (x :: xs).length := rfl
  rw [e, e2]
  simp
theorem raised_first {zs : List Str} {n a b : Str} {c r h : Int} {sl : Dv} {dr : List Dv} (gd : GoodD zs (.tup [.str n, .str a, .str b, .int c, .int r, sl] :: dr)) (hh : hgt h = true) (hc : c ≤ h) :
    GoodW (.tup [.str n, .str a, .str b, .int c, .int r, sl] :: dr) [.tup [.str n, .int h]] ∧ raisedD (.tup [.str n, .str a, .str b, .int c, .int r, sl] :: dr) [.tup [.str n, .int h]] = .tup [.str n, .str a, .str b, .int h, .int r, sl] :: dr := by
  have ec : crownOf (.tup [.str n, .str a, .str b, .int c, .int r, sl] :: dr) n = c := crown_at gd.nd (List.mem_cons_self ..)
  have nd : (n :: dr.map nmOf).Nodup := gd.nd
  rw [List.nodup_cons] at nd
  refine ⟨⟨fun d m => ?_, by simp⟩, ?_⟩
  · rw [List.mem_singleton.mp m]
    show (decide (n ∈ n :: dr.map nmOf) && (hgt h && decide (crownOf _ n ≤ h))) = true
    rw [ec, hh, decide_eq_true hc, decide_eq_true (List.mem_cons_self ..)]
    rfl
  · have own : wAt [.tup [.str n, .int h]] n = some h := by
      unfold wAt
      rw [List.find?_cons, decide_eq_true (show nmOf (.tup [.str n, .int h]) = n from rfl)]
      rfl
    show newD _ _ :: dr.map (newD _) = _
    congr 1
    · show Dv.tup [.str n, .str a, .str b, .int ((wAt _ n).getD c), .int r, sl] = _
      rw [own]
      rfl
    · conv => rhs; rw [← List.map_id dr]
      refine List.map_congr_left fun d m => ?_
      obtain ⟨n', a', b', c', r', s', rfl, _⟩ := dyke_shape (gd.all d (List.mem_cons_of_mem _ m))
      have ne : n ≠ n' := fun e => nd.1 (List.mem_map.mpr ⟨_, m, e ▸ rfl⟩)
      show Dv.tup [.str n', .str a', .str b', .int ((wAt _ n').getD c'), .int r', s'] = _
      have : wAt [.tup [.str n, .int h]] n' = none := by
        unfold wAt
        rw [List.find?_cons, decide_eq_false (show ¬ nmOf (.tup [.str n, .int h]) = n' from ne)]
        rfl
      rw [this]
      rfl
theorem nobool_f {d : Dv} (h : isField d = true) : flatTo 30 d = true ∧ ∃ es, d = .tup es ∧ ∀ e ∈ es, isBl e = false := by
  obtain ⟨z, g, u, rfl, hz, hg, hu'⟩ := field_shape h
  refine ⟨rfl, _, rfl, fun e m => ?_⟩
  simp only [List.mem_cons, List.mem_nil_iff, or_false] at m
  rcases m with rfl | rfl | rfl <;> rfl
theorem nobool_d {zs : List Str} {d : Dv} (h : isDyke zs d = true) : flatTo 30 d = true ∧ ∃ es, d = .tup es ∧ ∀ e ∈ es, isBl e = false := by
  obtain ⟨n, a, b, c, r, sl, rfl, hn, ha, hb, hab, hc, hr', hs⟩ := dyke_shape h
  cases sl with
  | non =>
    refine ⟨rfl, _, rfl, fun e m => ?_⟩
    simp only [List.mem_cons, List.mem_nil_iff, or_false] at m
    rcases m with rfl | rfl | rfl | rfl | rfl | rfl <;> rfl
  | int s =>
    refine ⟨rfl, _, rfl, fun e m => ?_⟩
    simp only [List.mem_cons, List.mem_nil_iff, or_false] at m
    rcases m with rfl | rfl | rfl | rfl | rfl | rfl <;> rfl
  | _ => cases hs
def spStands (C : Addr) : Sp := sp2 fun x y H Q => ∃ (fs ds : List Dv) (us vs : List V) (lf ld : Addr), x = .ref lf ∧ y = .ref ld ∧ H lf = some (.lst us) ∧ H ld = some (.lst vs) ∧ IsL H fs us ∧ IsL H ds vs ∧ areFields (.lst fs) = true ∧ areDykes ("sea" :: fs.map nmOf) (.lst ds) = true ∧ ∀ H', Same H H' → Q (.bl true) H'
theorem ok_l_stands (T : Txt K mg C) : Fc P w K mg base 11 "_law_stands" ["_law_fields_here", "_law_dykes_here"] (spStands C) := by
  have G_l_text : Fc P w K mg base 1 "_law_text" ["_law_fields_here", "_law_dykes_here"] spText := ok_l_text T
  have G_l_alike : Fc P w K mg base 1 "_law_alike" ["_law_found", "_law_due"] spAlike := ok_l_alike T
  have G_p_show_land : Fc P w K mg base 2 "show_land" ["land"] (spShow C) := ok_p_show_land T
  have G_p_read_land : Fc P w K mg base 9 "read_land" ["text"] (spRead C) := ok_p_read_land T
  have G_land_pinit : Ic P w K mg base 6 C ["self", "fields", "dykes"] (spInit C) := ok_land_pinit T
  have G_land_p_fields : Mc P w K mg base 1 C "fields" ["self"] (spRows C fun fs _ => fs) := ok_land_p_fields T
  have G_land_p_dykes : Mc P w K mg base 1 C "dykes" ["self"] (spRows C fun _ ds => ds) := ok_land_p_dykes T
  have G_land_p_raised : Mc P w K mg base 8 C "raised" ["self", "works"] (spRaised C) := ok_land_p_raised T
  refine T.d_l_stands.fc sc_l_stands len2 (fun f cdv A outer s H vs Q E hr h => ?_)
  obtain ⟨x, y, rfl, fs, ds, us, vs, lf, ld, rfl, rfl, hlf, hld, hif, hid, okf, okd, q⟩ := h
  have big : 4000 ≤ sizeLine := by decide
  have gf := (goodF_iff _).mp okf
  have gd := (goodD_iff _ _).mp okd
  have f2 := gf.l2
  have d2 := gd.l2
  have d1 := gd.l1
  refine ⟨_, (@pss_cons _ _ _ _ _ (@ps_set _ _ (2) _ _ _ _ sc_l_stands.nd rfl (Or.inl rfl) (@pe_c _ _ _ _ _ _ _ _ _ _ G_l_text (hr.mono (by decide)) (@pa_cons _ _ _ _ _ (pv 0) (@pa_cons _ _ _ _ _ (pv 1) pa_nil (by rfl)) (by rfl)) (by rfl) (by decide) (by rfl) (by rfl)) (by rfl) (by first | exact .inl rfl | exact .inr rfl | assumption)) (@pss_cons _ _ _ _ _ (@ps_set _ _ (3) _ _ _ _ sc_l_stands.nd rfl (Or.inl rfl) (@pe_c _ _ _ _ _ _ _ _ _ _ G_p_show_land (hr.mono (by decide)) (@pa_cons _ _ _ _ _ (@pe_mk _ _ _ _ _ _ _ _ _ _ _ T.mg_Land G_land_pinit (hr.mono (by decide)) (@pa_cons _ _ _ _ _ (@pe_callTy _ _ _ _ _ _ _ _ _ (@call_list_ofB _ (K) rfl) rfl T.n_list boot_list' (@pa_cons _ _ _ _ _ (pv 0) pa_nil (by rfl)) (by decide) (by decide) (by rfl) (by rfl)) (@pa_cons _ _ _ _ _ (@pe_callTy _ _ _ _ _ _ _ _ _ (@call_list_ofB _ (K) rfl) rfl T.n_list boot_list' (@pa_cons _ _ _ _ _ (pv 1) pa_nil (by rfl)) (by decide) (by decide) (by rfl) (by rfl)) pa_nil (by rfl)) (by rfl)) (by rfl) (by decide) (by rfl) (by rfl)) pa_nil (by rfl)) (by rfl) (by decide) (by rfl) (by rfl)) (by rfl) (by first | exact .inl rfl | exact .inr rfl | assumption)) (@pss_cons _ _ _ _ _ (@ps_if _ _ _ _ _ _ _ _ (@PW.pt _ _ _ (@pw_or _ _ _ _ _ _ _ (@pt_not _ _ _ _ (@pt_val _ _ _ (@pe_callB _ _ _ _ _ _ _ _ _ (@call_isinstB _ (K) rfl) rfl T.n_isinstance boot_isinstance (@pa_cons _ _ _ _ _ (pv 3) (@pa_cons _ _ _ _ _ (@pe_ty _ _ _ _ T.n_str boot_str' (by rfl) (by decide) (by decide)) pa_nil (by rfl)) (by rfl)) (by decide) (by decide) (by rfl) (by rfl)) (by intro _; rfl))) (@pw_or1 _ _ _ _ (@pt_cmpR _ _ _ _ _ _ _ _ op_ne (pv 3) (pv 2) (@nomark _ _ (by decide) (by decide)))))) (@pss_one _ _ _ (@ps_ret _ _ _ _ pe_bl)) pss_nil) (@pss_cons _ _ _ _ _ (@ps_set _ _ (4) _ _ _ _ sc_l_stands.nd rfl (Or.inl rfl) (@pe_c _ _ _ _ _ _ _ _ _ _ G_p_read_land (hr.mono (by decide)) (@pa_cons _ _ _ _ _ (pv 2) pa_nil (by rfl)) (by rfl) (by decide) (by rfl) (by rfl)) (by rfl) (by first | exact .inl rfl | exact .inr rfl | assumption)) (@pss_cons _ _ _ _ _ (@ps_if _ _ _ _ _ _ _ _ (@PW.pt _ _ _ (@pw_or _ _ _ _ _ _ _ (@pt_not _ _ _ _ (@pt_val _ _ _ (@pe_callB _ _ _ _ _ _ _ _ _ (@call_isinstB _ (K) rfl) rfl T.n_isinstance boot_isinstance (@pa_cons _ _ _ _ _ (pv 4) (@pa_cons _ _ _ _ _ (@pe_glob _ _ (.ref C) _ _ rfl T.mg_Land rfl (by decide)) pa_nil (by rfl)) (by rfl)) (by decide) (by decide) (by rfl) (by rfl)) (by intro _; rfl))) (@pw_or _ _ _ _ _ _ _ (@pt_not _ _ _ _ (@pt_val _ _ _ (@pe_c _ _ _ _ _ _ _ _ _ _ G_l_alike (hr.mono (by decide)) (@pa_cons _ _ _ _ _ (@pe_m0 _ _ _ _ _ _ _ _ _ _ _ T.cl_Land G_land_p_fields (hr.mono (by decide)) (pv 4) (by rfl)) (@pa_cons _ _ _ _ _ (pv 0) pa_nil (by rfl)) (by rfl)) (by rfl) (by decide) (by rfl) (by rfl)) (by intro _; rfl))) (@pw_or1 _ _ _ _ (@pt_not _ _ _ _ (@pt_val _ _ _ (@pe_c _ _ _ _ _ _ _ _ _ _ G_l_alike (hr.mono (by decide)) (@pa_cons _ _ _ _ _ (@pe_m0 _ _ _ _ _ _ _ _ _ _ _ T.cl_Land G_land_p_dykes (hr.mono (by decide)) (pv 4) (by rfl)) (@pa_cons _ _ _ _ _ (pv 1) pa_nil (by rfl)) (by rfl)) (by rfl) (by decide) (by rfl) (by rfl)) (by intro _; rfl))))))) (@pss_one _ _ _ (@ps_ret _ _ _ _ pe_bl)) pss_nil) (@pss_cons _ _ _ _ _ (@ps_asg _ _ _ _ _ _ (@pe_ix _ _ _ _ _ _ _ (@ix_listB _ (K) rfl) (pv 1) pe_int (fun _ _ => rfl)) (@pg_tup _ _ _ _ _ _ rfl (@pgs_cons _ _ _ _ _ (@pg_name _ _ (5) _ sc_l_stands.nd rfl (Or.inl rfl) (by first | exact .inl rfl | exact .inr rfl | assumption)) (@pgs_cons _ _ _ _ _ (@pg_name _ _ (6) _ sc_l_stands.nd rfl (Or.inl rfl) (by first | exact .inl rfl | exact .inr rfl | assumption)) (@pgs_cons _ _ _ _ _ (@pg_name _ _ (7) _ sc_l_stands.nd rfl (Or.inl rfl) (by first | exact .inl rfl | exact .inr rfl | assumption)) (@pgs_cons _ _ _ _ _ (@pg_name _ _ (8) _ sc_l_stands.nd rfl (Or.inl rfl) (by first | exact .inl rfl | exact .inr rfl | assumption)) (@pgs_cons _ _ _ _ _ (@pg_name _ _ (9) _ sc_l_stands.nd rfl (Or.inl rfl) (by first | exact .inl rfl | exact .inr rfl | assumption)) (@pgs_cons _ _ _ _ _ (@pg_name _ _ (10) _ sc_l_stands.nd rfl (Or.inl rfl) (by first | exact .inl rfl | exact .inr rfl | assumption)) pgs_nil (by rfl)) (by rfl)) (by rfl)) (by rfl)) (by rfl)) (by rfl)) (by rfl) (by rfl)) (by rfl) (by rfl) (by rfl)) (@pss_cons _ _ _ _ _ (@ps_set _ _ (11) _ _ _ _ sc_l_stands.nd rfl (Or.inl rfl) (@pe_callB _ _ _ _ _ _ _ _ _ (@call_min2 _ rfl) rfl T.n_min boot_min' (@pa_cons _ _ _ _ _ (@pe_op _ _ _ _ _ _ _ _ op_pow pe_int pe_int) (@pa_cons _ _ _ _ _ (@pe_op _ _ _ _ _ _ _ _ op_add (@pe_op _ _ _ _ _ _ _ _ op_add (pv 8) pe_int) (@pe_op _ _ _ _ _ _ _ _ op_mod (pv 9) pe_int)) pa_nil (by rfl)) (by rfl)) (by decide) (by decide) (by rfl) (by rfl)) (by rfl) (by first | exact .inl rfl | exact .inr rfl | assumption)) (@pss_cons _ _ _ _ _ (@ps_set _ _ (12) _ _ _ _ sc_l_stands.nd rfl (Or.inl rfl) (@pe_op _ _ _ _ _ _ _ _ op_cat (@pe_lst _ _ _ _ (@pa_cons _ _ _ _ _ (@pe_tup _ _ _ _ _ (@pa_cons _ _ _ _ _ (pv 5) (@pa_cons _ _ _ _ _ (pv 6) (@pa_cons _ _ _ _ _ (pv 7) (@pa_cons _ _ _ _ _ (pv 11) (@pa_cons _ _ _ _ _ (pv 9) (@pa_cons _ _ _ _ _ (pv 10) pa_nil (by rfl)) (by rfl)) (by rfl)) (by rfl)) (by rfl)) (by rfl))) pa_nil (by rfl))) (@pe_slice _ _ _ _ _ _ _ _ _ _ (@sl_listB _ (K) rfl) (pv 1) (@po_some _ _ _ pe_int) po_none)) (by rfl) (by first | exact .inl rfl | exact .inr rfl | assumption)) (@pss_cons _ _ _ _ _ (@ps_if _ _ _ _ _ _ _ _ (@pt_cmpR _ _ _ _ _ _ _ _ op_ne (@pe_c _ _ _ _ _ _ _ _ _ _ G_p_show_land (hr.mono (by decide)) (@pa_cons _ _ _ _ _ (@pe_m _ _ _ _ _ _ _ _ _ _ _ _ _ _ T.cl_Land G_land_p_raised (hr.mono (by decide)) (pv 4) (@pa_cons _ _ _ _ _ (@pe_lst _ _ _ _ (@pa_cons _ _ _ _ _ (@pe_tup _ _ _ _ _ (@pa_cons _ _ _ _ _ (pv 5) (@pa_cons _ _ _ _ _ (pv 11) pa_nil (by rfl)) (by rfl))) pa_nil (by rfl))) pa_nil (by rfl)) (by rfl) (by rfl) (by rfl)) pa_nil (by rfl)) (by rfl) (by decide) (by rfl) (by rfl)) (@pe_c _ _ _ _ _ _ _ _ _ _ G_l_text (hr.mono (by decide)) (@pa_cons _ _ _ _ _ (pv 0) (@pa_cons _ _ _ _ _ (pv 12) pa_nil (by rfl)) (by rfl)) (by rfl) (by decide) (by rfl) (by rfl)) (@nomark _ _ (by decide) (by decide))) (@pss_one _ _ _ (@ps_ret _ _ _ _ pe_bl)) pss_nil) (@pss_one _ _ _ (@ps_ret _ _ _ _ (@pe_cmpR _ _ _ _ _ _ _ _ op_eq (@pe_c _ _ _ _ _ _ _ _ _ _ G_p_show_land (hr.mono (by decide)) (@pa_cons _ _ _ _ _ (pv 4) pa_nil (by rfl)) (by rfl) (by decide) (by rfl) (by rfl)) (pv 2) (@nomark _ _ (by decide) (by decide)))))))))))))), ?_⟩
  have sf : small (.lst fs) = true := lst_small (fun d m => field_small (gf.all d m)) (by omega)
  have sd : small (.lst ds) = true := lst_small (fun d m => dyke_small gf.all (gd.all d m)) (by omega)
  refine ⟨_, rfl, _, rfl, _, _, rfl, fs, ds, us, vs, lf, ld, rfl, rfl, hlf, hld, hif, hid, okf, okd, fun H1 S1 => ?_⟩
  refine ⟨_, rfl, lf, us, rfl, .inl (SqL.of (S1 _ _ hlf)), fun l1 h1 => ?_⟩
  have S2 := Same.upd (o := .lst us) h1
  have r2 : upd H1 l1 (.lst us) l1 = _ := upd_same
  generalize upd H1 l1 (.lst us) = H2 at S2 r2
  have T2 := S1.trans S2
  refine ⟨_, rfl, ld, vs, rfl, .inl (SqL.of (T2 _ _ hld)), fun l2 h2 => ?_⟩
  have S3 := Same.upd (o := .lst vs) h2
  have r3 : upd H2 l2 (.lst vs) l2 = _ := upd_same
  generalize upd H2 l2 (.lst vs) = H3 at S3 r3
  have T3 := T2.trans S3
  intro px dx hx hdx ne
  have S4 : Same H3 (upd (upd H3 dx (.own px)) px (.ins C dx [])) := fun b o e => by
    rw [upd_ne (fun w => by subst w; rw [hx] at e; cases e), upd_ne (fun w => by subst w; rw [hdx] at e; cases e)]
    exact e
  have T4 := T3.trans S4
  refine ⟨_, _, _, rfl, px, dx, fs, ds, rfl, upd_same, ⟨l1, us, rfl, S4 _ _ (S3 _ _ r2), IsL.same T4 _ _ hif⟩, ⟨l2, vs, rfl, S4 _ _ r3, IsL.same T4 _ _ hid⟩, sf, sd, okf, okd, fun H5 L5 s5 => ⟨rfl, ?_⟩⟩
  have fx : H px = none := T3.free hx
  have T5 : Same H H5 := fun b o e => s5 _ _ (T4 _ _ e) (fun w => by subst w; rw [fx] at e; cases e)
  refine ⟨_, rfl, px, fs, ds, rfl, L5, fun H6 S6 => ?_⟩
  have T6 := T5.trans S6
  refine ⟨_, rfl, _, _, _, _, _, rfl, rfl, TyOf.str _, kit_self _ _, _, rfl, ?_⟩
  refine iteF ?_
  refine ⟨_, rfl, _, rfl, rfl, _, rfl, ?_⟩
  rw [decide_eq_true (rfl : V.str (showL fs ds) = V.str (showL fs ds))]
  refine iteF ?_
  refine ⟨_, rfl, _, rfl, fs, ds, rfl, okf, okd, fun p H7 S7 n7 L7 => ?_⟩
  have T7 := T6.trans S7
  obtain ⟨dx7, y1, y2, hx7, _⟩ := L7.ex
  refine ⟨_, rfl, _, _, _, _, _, rfl, rfl, T.ci_Land.ty T.cl_Land hx7, kit_ref _ _, _, rfl, iteF ?_⟩
  refine ⟨_, rfl, _, dx7, _, rfl, hx7, landF_no _ _ (by decide +kernel) (by decide +kernel), _, rfl, p, fs, ds, rfl, L7, fun l8 v8 H8 S8 n8 hl8 hi8 => ?_⟩
  have hi8 : IsL H8 fs v8 := hi8
  have T8 := T7.trans S8
  have L8 := L7.same S8
  obtain ⟨dx8, y3, y4, hx8, _⟩ := L8.ex
  refine ⟨_, rfl, _, _, rfl, fs, v8, us, l8, lf, rfl, rfl, hl8, T8 _ _ hlf, hi8, IsL.same T8 _ _ hif, by omega, fun d m => nobool_f (gf.all d m), _, rfl, ?_⟩
  refine iteF ?_
  refine ⟨_, rfl, _, dx8, _, rfl, hx8, landF_no _ _ (by decide +kernel) (by decide +kernel), _, rfl, p, fs, ds, rfl, L8, fun l9 v9 H9 S9 n9 hl9 hi9 => ?_⟩
  have hi9 : IsL H9 ds v9 := hi9
  have T9 := T8.trans S9
  have L9 := L8.same S9
  obtain ⟨dx9, y5, y6, hx9, _⟩ := L9.ex
  refine ⟨_, rfl, _, _, rfl, ds, v9, vs, l9, ld, rfl, rfl, hl9, T9 _ _ hld, hi9, IsL.same T9 _ _ hid, by omega, fun d m => nobool_d (gd.all d m), _, rfl, ?_⟩
  refine iteF ?_
  obtain ⟨d0, dr, rfl⟩ : ∃ d0 dr, ds = d0 :: dr := by
    cases ds with
    | nil => exact absurd d1 (by decide)
    | cons d0 dr => exact ⟨_, _, rfl⟩
  obtain ⟨v0, vr, rfl, i0, ir⟩ := hid
  obtain ⟨n, a, b, c, r, sl, rfl, hn, ha, hb, hab, hc, hr', hs⟩ := dyke_shape (gd.all d0 (List.mem_cons_self ..))
  obtain ⟨t, sv, rfl, o, isv⟩ := dyke_row i0
  refine ⟨_, rfl, ld, _, 0, _, rfl, rfl, SqL.of (T9 _ _ hld), atI_nat (j := 0) rfl, ?_⟩
  refine ⟨t, _, rfl, SqT.of (T9 _ _ o), rfl, _, _, rfl, _, _, rfl, _, _, rfl, _, _, rfl, _, _, rfl, _, _, rfl, rfl, ?_⟩
  generalize hhi : (if c + 1 + r % 9 < 1000000 then c + 1 + r % 9 else 1000000) = hi
  have hc1 := of_decide_eq_true (Bool.and_eq_true_iff.mp hc).1
  have hc2 := of_decide_eq_true (Bool.and_eq_true_iff.mp hc).2
  have hi0 : c ≤ hi ∧ hi ≤ 1000000 := by
    rw [← hhi]
    split <;> omega
  obtain ⟨gw, er⟩ := raised_first gd (hgt_of (i := hi) (by omega) hi0.2) hi0.1
  refine ⟨_, _, rfl, rfl, ⟨by decide, by decide, by decide⟩, _, rfl, _, _, rfl, rfl, _, rfl, _, _, rfl, rfl, (posI rfl), _, _, rfl, rfl, _, _, rfl, ?_⟩
  dsimp only
  rw [p6, hhi]
  refine ⟨_, rfl, _, rfl, _, rfl, _, rfl, _, rfl, _, rfl, small_le rfl, fun t2 ht2 => ?_⟩
  have S10 := Same.upd (o := .tup [.str n, .str a, .str b, .int hi, .int r, sv]) ht2
  have r10 : upd H9 t2 (.tup [.str n, .str a, .str b, .int hi, .int r, sv]) t2 = _ := upd_same
  generalize upd H9 t2 (.tup [.str n, .str a, .str b, .int hi, .int r, sv]) = H10 at S10 r10
  refine ⟨small_le rfl, fun l3 h3 => ?_⟩
  have S11 := Same.upd (o := .lst [.ref t2]) h3
  have r11 : upd H10 l3 (.lst [.ref t2]) l3 = _ := upd_same
  generalize upd H10 l3 (.lst [.ref t2]) = H11 at S11 r11
  have T11 := T9.trans (S10.trans S11)
  refine ⟨_, rfl, _, rfl, ld, _, rfl, SqL.of (T11 _ _ hld), fun l4 h4 => ?_⟩
  rw [cut_tail]
  have S12 := Same.upd (o := .lst vr) h4
  have r12 : upd H11 l4 (.lst vr) l4 = _ := upd_same
  generalize upd H11 l4 (.lst vr) = H12 at S12 r12
  have lr := ir.length
  have d2' : dr.length + 1 ≤ 40 := d2
  refine ⟨l3, l4, _, _, rfl, rfl, S12 _ _ r11, r12, by rw [lr]; show 1 + _ ≤ _; omega, fun l5 h5 => ?_⟩
  have S13 := Same.upd (o := .lst ([.ref t2] ++ vr)) h5
  have r13 : upd H12 l5 (.lst ([.ref t2] ++ vr)) l5 = _ := upd_same
  generalize upd H12 l5 (.lst ([.ref t2] ++ vr)) = H13 at S13 r13
  have U13 := S10.trans (S11.trans (S12.trans S13))
  have T13 := T9.trans U13
  have L13 := L9.same U13
  have r10' := S13 _ _ (S12 _ _ (S11 _ _ r10))
  obtain ⟨dx13, y7, y8, hx13, _⟩ := L13.ex
  refine ⟨_, rfl, p, dx13, _, rfl, hx13, landF_no _ _ (by decide +kernel) (by decide +kernel), _, rfl, _, rfl, small_le rfl, fun t3 ht3 => ?_⟩
  have S14 := Same.upd (o := .tup [.str n, .int hi]) ht3
  have r14 : upd H13 t3 (.tup [.str n, .int hi]) t3 = _ := upd_same
  generalize upd H13 t3 (.tup [.str n, .int hi]) = H14 at S14 r14
  refine ⟨small_le rfl, fun l6 h6 => ?_⟩
  have S15 := Same.upd (o := .lst [.ref t3]) h6
  have r15 : upd H14 l6 (.lst [.ref t3]) l6 = _ := upd_same
  generalize upd H14 l6 (.lst [.ref t3]) = H15 at S15 r15
  have U15 := S14.trans S15
  refine ⟨_, _, rfl, p, fs, _, [.tup [.str n, .int hi]], rfl, L13.same U15, ⟨l6, _, rfl, r15, _, _, rfl, ⟨t3, _, rfl, S15 _ _ r14, _, _, rfl, rfl, _, _, rfl, rfl, rfl⟩, rfl⟩, by show 1 ≤ 1000; decide, gw, fun p2 H16 S16 n16 L16 => ?_⟩
  rw [er] at L16
  have V16 := U15.trans S16
  have T16 := T13.trans V16
  refine ⟨_, rfl, p2, fs, _, rfl, L16, fun H17 S17 => ?_⟩
  have V17 := V16.trans S17
  have T17 := T16.trans S17
  have g16 := nd_names L16
  refine ⟨_, rfl, _, rfl, _, _, rfl, fs, (.tup [.str n, .str a, .str b, .int hi, .int r, sl] :: dr), us, _, lf, l5, rfl, rfl, T17 _ _ hlf, V17 _ _ r13, IsL.same T17 _ _ hif, ⟨_, _, rfl, ⟨t2, _, rfl, V17 _ _ r10', _, _, rfl, rfl, _, _, rfl, rfl, _, _, rfl, rfl, _, _, rfl, rfl, _, _, rfl, rfl, _, _, rfl, Is.same T17 _ _ isv, rfl⟩, IsL.same T17 _ _ ir⟩, okf, L16.okd, fun H18 S18 => ?_⟩
  refine ⟨rfl, _, rfl, ?_⟩
  rw [decide_eq_true (rfl : V.str (showL fs (.tup [.str n, .str a, .str b, .int hi, .int r, sl] :: dr)) = _)]
  refine iteF ?_
  have L18 := (L13.same V17).same S18
  refine ⟨_, rfl, _, rfl, p, fs, _, rfl, L18, fun H19 S19 => ?_⟩
  refine ⟨_, rfl, rfl, ?_⟩
  rw [decide_eq_true (rfl : V.str (showL fs _) = V.str (showL fs _))]
  exact q _ (T17.trans (S18.trans S19))

open Mt13 Mt11 Mt02
theorem ok_law {f : Addr} {fd : FuncData} (T : Txt K mg C) (F : Fun K "law" "law" s_p_law f fd) : FnOk P w K mg base CX0 12 f fd ["_law_script"] (spLaw K) := by
  have G_l_fields : Fc P w K mg base 2 "_law_fields" ["_law_script"] (spFld K) := ok_l_fields T
  have G_l_dykes : Fc P w K mg base 3 "_law_dykes" ["_law_script", "_law_fields_here", "_law_most"] (spDks K) := ok_l_dykes T
  have G_l_stands : Fc P w K mg base 11 "_law_stands" ["_law_fields_here", "_law_dykes_here"] (spStands C) := ok_l_stands T
  refine F.ok sc_p_law len1 (fun cdv A outer s H vs Q E hr h => ?_)
  obtain ⟨x, rfl, a, ns, rfl, hS, hl, q⟩ := h
  have scr : Scr K H (.ref a) := ⟨a, ns, rfl, hS, hl⟩
  refine ⟨_, (@pss_cons _ _ _ _ _ (@ps_set _ _ (1) _ _ _ _ sc_p_law.nd rfl (Or.inl rfl) (@pe_c _ _ _ _ _ _ _ _ _ _ G_l_fields (hr.mono (by decide)) (@pa_cons _ _ _ _ _ (pv 0) pa_nil (by rfl)) (by rfl) (by decide) (by rfl) (by rfl)) (by rfl) (by first | exact .inl rfl | exact .inr rfl | assumption)) (@pss_cons _ _ _ _ _ (@ps_set _ _ (2) _ _ _ _ sc_p_law.nd rfl (Or.inl rfl) (@pe_c _ _ _ _ _ _ _ _ _ _ G_l_dykes (hr.mono (by decide)) (@pa_cons _ _ _ _ _ (pv 0) (@pa_cons _ _ _ _ _ (pv 1) (@pa_cons _ _ _ _ _ pe_int pa_nil (by rfl)) (by rfl)) (by rfl)) (by rfl) (by decide) (by rfl) (by rfl)) (by rfl) (by first | exact .inl rfl | exact .inr rfl | assumption)) (@pss_cons _ _ _ _ _ (@ps_if _ _ _ _ _ _ _ _ (@pt_not _ _ _ _ (@pt_val _ _ _ (@pe_c _ _ _ _ _ _ _ _ _ _ G_l_stands (hr.mono (by decide)) (@pa_cons _ _ _ _ _ (pv 1) (@pa_cons _ _ _ _ _ (pv 2) pa_nil (by rfl)) (by rfl)) (by rfl) (by decide) (by rfl) (by rfl)) (by intro _; rfl))) (@pss_one _ _ _ (@ps_ret _ _ _ _ pe_bl)) pss_nil) (@pss_cons _ _ _ _ _ (@ps_set _ _ (3) _ _ _ _ sc_p_law.nd rfl (Or.inl rfl) (@pe_op _ _ _ _ _ _ _ _ op_pow pe_int pe_int) (by rfl) (by first | exact .inl rfl | exact .inr rfl | assumption)) (@pss_cons _ _ _ _ _ (@ps_set _ _ (4) _ _ _ _ sc_p_law.nd rfl (Or.inl rfl) (@pe_lst _ _ _ _ (@pa_cons _ _ _ _ _ (@pe_tup _ _ _ _ _ (@pa_cons _ _ _ _ _ pe_str (@pa_cons _ _ _ _ _ (@pe_op _ _ _ _ _ _ _ _ op_sub pe_int (pv 3)) (@pa_cons _ _ _ _ _ pe_int pa_nil (by rfl)) (by rfl)) (by rfl))) (@pa_cons _ _ _ _ _ (@pe_tup _ _ _ _ _ (@pa_cons _ _ _ _ _ pe_str (@pa_cons _ _ _ _ _ (pv 3) (@pa_cons _ _ _ _ _ (pv 3) pa_nil (by rfl)) (by rfl)) (by rfl))) pa_nil (by rfl)) (by rfl))) (by rfl) (by first | exact .inl rfl | exact .inr rfl | assumption)) (@pss_cons _ _ _ _ _ (@ps_set _ _ (5) _ _ _ _ sc_p_law.nd rfl (Or.inl rfl) (@pe_lst _ _ _ _ (@pa_cons _ _ _ _ _ (@pe_tup _ _ _ _ _ (@pa_cons _ _ _ _ _ pe_str (@pa_cons _ _ _ _ _ pe_str (@pa_cons _ _ _ _ _ pe_str (@pa_cons _ _ _ _ _ (pv 3) (@pa_cons _ _ _ _ _ (pv 3) (@pa_cons _ _ _ _ _ (@pe_op _ _ _ _ _ _ _ _ op_sub pe_int (pv 3)) pa_nil (by rfl)) (by rfl)) (by rfl)) (by rfl)) (by rfl)) (by rfl))) (@pa_cons _ _ _ _ _ (@pe_tup _ _ _ _ _ (@pa_cons _ _ _ _ _ pe_str (@pa_cons _ _ _ _ _ pe_str (@pa_cons _ _ _ _ _ pe_str (@pa_cons _ _ _ _ _ (@pe_op _ _ _ _ _ _ _ _ op_sub pe_int (pv 3)) (@pa_cons _ _ _ _ _ pe_int (@pa_cons _ _ _ _ _ pe_non pa_nil (by rfl)) (by rfl)) (by rfl)) (by rfl)) (by rfl)) (by rfl))) pa_nil (by rfl)) (by rfl))) (by rfl) (by first | exact .inl rfl | exact .inr rfl | assumption)) (@pss_one _ _ _ (@ps_ret _ _ _ _ (@pe_and _ _ _ _ _ _ _ (@pe_c _ _ _ _ _ _ _ _ _ _ G_l_stands (hr.mono (by decide)) (@pa_cons _ _ _ _ _ (pv 4) (@pa_cons _ _ _ _ _ (pv 5) pa_nil (by rfl)) (by rfl)) (by rfl) (by decide) (by rfl) (by rfl)) (@pe_one _ _ _ _ _ (@pe_c _ _ _ _ _ _ _ _ _ _ G_l_stands (hr.mono (by decide)) (@pa_cons _ _ _ _ _ (pv 1) (@pa_cons _ _ _ _ _ (pv 2) pa_nil (by rfl)) (by rfl)) (by rfl) (by decide) (by rfl) (by rfl)))))))))))), ?_⟩
  have p60 : (10 : Int) ^ (6 : Int).toNat = 1000000 := by decide
  have m60 : (0 : Int) - 10 ^ (6 : Int).toNat = -1000000 := by decide
  refine ⟨_, rfl, _, rfl, scr, fun fs us lf H1 F1 S1 n1 hlf hif => ?_⟩
  refine ⟨_, rfl, _, rfl, _, _, _, rfl, fs, us, lf, scr.same S1, rfl, rfl, hlf, hif, F1, fun ds vs ld H2 D2 S2 n2 hld hid => ?_⟩
  have okf : areFields (.lst fs) = true := (goodF_iff _).mpr ⟨F1.l1, by have := F1.l2; omega, F1.all, F1.nd⟩
  have okd : areDykes ("sea" :: fs.map nmOf) (.lst ds) = true := (goodD_iff _ _).mpr ⟨D2.l1, by have := D2.l2; omega, D2.all, D2.nd⟩
  refine ⟨_, rfl, _, rfl, _, _, rfl, fs, ds, us, vs, lf, ld, rfl, rfl, S2 _ _ hlf, hld, IsL.same S2 _ _ hif, hid, okf, okd, fun H3 S3 => ⟨_, rfl, ?_⟩⟩
  refine iteF ?_
  refine ⟨_, _, rfl, rfl, ⟨by decide, by decide, by decide⟩, ?_⟩
  refine ⟨_, rfl, _, _, rfl, rfl, small_le rfl, fun t1 h1 => ?_⟩
  have S4 := Same.upd (o := .tup [.str "dyke", .int (0 - 10 ^ (6 : Int).toNat), .int 0]) h1
  have r4 : upd H3 t1 (.tup [.str "dyke", .int (0 - 10 ^ (6 : Int).toNat), .int 0]) t1 = _ := upd_same
  generalize upd H3 t1 (.tup [.str "dyke", .int (0 - 10 ^ (6 : Int).toNat), .int 0]) = H4 at S4 r4
  refine ⟨_, rfl, _, rfl, small_le rfl, fun t2 h2 => ?_⟩
  have S5 := Same.upd (o := .tup [.str "field", .int (10 ^ (6 : Int).toNat), .int (10 ^ (6 : Int).toNat)]) h2
  have r5 : upd H4 t2 (.tup [.str "field", .int (10 ^ (6 : Int).toNat), .int (10 ^ (6 : Int).toNat)]) t2 = _ := upd_same
  generalize upd H4 t2 (.tup [.str "field", .int (10 ^ (6 : Int).toNat), .int (10 ^ (6 : Int).toNat)]) = H5 at S5 r5
  refine ⟨small_le rfl, fun lp hlp => ?_⟩
  have S6 := Same.upd (o := .lst [.ref t1, .ref t2]) hlp
  have r6 : upd H5 lp (.lst [.ref t1, .ref t2]) lp = _ := upd_same
  generalize upd H5 lp (.lst [.ref t1, .ref t2]) = H6 at S6 r6
  refine ⟨_, rfl, _, rfl, _, rfl, _, _, rfl, rfl, small_le rfl, fun t3 h3 => ?_⟩
  have S7 := Same.upd (o := .tup [.str "dyke", .str "sea", .str "dyke", .int (10 ^ (6 : Int).toNat), .int (10 ^ (6 : Int).toNat), .int (0 - 10 ^ (6 : Int).toNat)]) h3
  have r7 : upd H6 t3 (.tup [.str "dyke", .str "sea", .str "dyke", .int (10 ^ (6 : Int).toNat), .int (10 ^ (6 : Int).toNat), .int (0 - 10 ^ (6 : Int).toNat)]) t3 = _ := upd_same
  generalize upd H6 t3 (.tup [.str "dyke", .str "sea", .str "dyke", .int (10 ^ (6 : Int).toNat), .int (10 ^ (6 : Int).toNat), .int (0 - 10 ^ (6 : Int).toNat)]) = H7 at S7 r7
  refine ⟨_, rfl, _, _, rfl, rfl, small_le rfl, fun t4 h4 => ?_⟩
  have S8 := Same.upd (o := .tup [.str "field", .str "field", .str "dyke", .int (0 - 10 ^ (6 : Int).toNat), .int 0, .non]) h4
  have r8 : upd H7 t4 (.tup [.str "field", .str "field", .str "dyke", .int (0 - 10 ^ (6 : Int).toNat), .int 0, .non]) t4 = _ := upd_same
  generalize upd H7 t4 (.tup [.str "field", .str "field", .str "dyke", .int (0 - 10 ^ (6 : Int).toNat), .int 0, .non]) = H8 at S8 r8
  refine ⟨small_le rfl, fun lq hlq => ?_⟩
  have S9 := Same.upd (o := .lst [.ref t3, .ref t4]) hlq
  have r9 : upd H8 lq (.lst [.ref t3, .ref t4]) lq = _ := upd_same
  generalize upd H8 lq (.lst [.ref t3, .ref t4]) = H9 at S9 r9
  rw [p60, m60] at *
  have U6 := S7.trans (S8.trans S9)
  have U5 := S6.trans U6
  have okp : areFields (.lst [.tup [.str "dyke", .int (-1000000), .int 0], .tup [.str "field", .int 1000000, .int 1000000]]) = true := by decide +kernel
  have okq : areDykes ("sea" :: [Dv.tup [.str "dyke", .int (-1000000), .int 0], .tup [.str "field", .int 1000000, .int 1000000]].map nmOf) (.lst [.tup [.str "dyke", .str "sea", .str "dyke", .int 1000000, .int 1000000, .int (-1000000)], .tup [.str "field", .str "field", .str "dyke", .int (-1000000), .int 0, .non]]) = true := by decide +kernel
  refine ⟨_, rfl, _, rfl, _, _, rfl, [Dv.tup [.str "dyke", .int (-1000000), .int 0], .tup [.str "field", .int 1000000, .int 1000000]], [.tup [.str "dyke", .str "sea", .str "dyke", .int 1000000, .int 1000000, .int (-1000000)], .tup [.str "field", .str "field", .str "dyke", .int (-1000000), .int 0, .non]], _, _, lp, lq, rfl, rfl, U6 _ _ r6, r9, ⟨_, _, rfl, ⟨t1, _, rfl, U5 _ _ (S5 _ _ r4), _, _, rfl, rfl, _, _, rfl, rfl, _, _, rfl, rfl, rfl⟩, _, _, rfl, ⟨t2, _, rfl, U5 _ _ r5, _, _, rfl, rfl, _, _, rfl, rfl, _, _, rfl, rfl, rfl⟩, rfl⟩,
    ⟨_, _, rfl, ⟨t3, _, rfl, S9 _ _ (S8 _ _ r7), _, _, rfl, rfl, _, _, rfl, rfl, _, _, rfl, rfl, _, _, rfl, rfl, _, _, rfl, rfl, _, _, rfl, rfl, rfl⟩, _, _, rfl, ⟨t4, _, rfl, S9 _ _ r8, _, _, rfl, rfl, _, _, rfl, rfl, _, _, rfl, rfl, _, _, rfl, rfl, _, _, rfl, rfl, _, _, rfl, rfl, rfl⟩, rfl⟩, okp, okq, fun H10 S10 => ⟨_, rfl, ?_⟩⟩
  refine iteT ?_
  have T10 := S3.trans (S4.trans (S5.trans (U5.trans S10)))
  exact ⟨_, rfl, _, rfl, _, _, rfl, fs, ds, us, vs, lf, ld, rfl, rfl, T10 _ _ (S2 _ _ hlf), T10 _ _ hld, IsL.same (S2.trans T10) _ _ hif, IsL.same T10 _ _ hid, okf, okd, fun H11 S11 => q _⟩
theorem law_mk {fa : Addr} (hmg : mg "law" = some (.ref fa)) (T : Txt K mg C) :
    ∃ fd : FuncData, (∀ (s : Shared) (u : Value), BindsTo s fd ⟨[u], []⟩ [("_law_script", u)]) ∧ ∀ base : Heap, K.In base → base.Ns mainGlobals mg → FnOk P w K mg base CX0 12 fa fd ["_law_script"] (spLaw K) := by
  obtain ⟨f, fd, F, b, m⟩ := T.d_p_law.ex
  rw [hmg] at m
  cases m
  refine ⟨fd, fun s u => ?_, fun base _ _ => ok_law T F⟩
  obtain ⟨oc, od, kV, doc, pm, an, cdv, ct, osl, rfl, lk, hcd⟩ := F.ex
  exact .of_eq rfl

end
theorem txt_mk {K : PySem.W.Frag} {h : Heap} {mg : Str → Option Value} (X : K.In h) (G : h.Ns mainGlobals mg)
    {C : Addr}
    {fm18 : Addr} {ocm18 kVm18 docm18 pmm18 cdm18 ctm18 : Value} {odm18 anm18 : Option Addr} {slm18 : Array (Option Value)}
    {fm19 : Addr} {ocm19 kVm19 docm19 pmm19 cdm19 ctm19 : Value} {odm19 anm19 : Option Addr} {slm19 : Array (Option Value)}
    {fm20 : Addr} {ocm20 kVm20 docm20 pmm20 cdm20 ctm20 : Value} {odm20 anm20 : Option Addr} {slm20 : Array (Option Value)}
    {fm21 : Addr} {ocm21 kVm21 docm21 pmm21 cdm21 ctm21 : Value} {odm21 anm21 : Option Addr} {slm21 : Array (Option Value)}
    {fm22 : Addr} {ocm22 kVm22 docm22 pmm22 cdm22 ctm22 : Value} {odm22 anm22 : Option Addr} {slm22 : Array (Option Value)}
    {fm23 : Addr} {ocm23 kVm23 docm23 pmm23 cdm23 ctm23 : Value} {odm23 anm23 : Option Addr} {slm23 : Array (Option Value)}
    {fm24 : Addr} {ocm24 kVm24 docm24 pmm24 cdm24 ctm24 : Value} {odm24 anm24 : Option Addr} {slm24 : Array (Option Value)}
    {fm25 : Addr} {ocm25 kVm25 docm25 pmm25 cdm25 ctm25 : Value} {odm25 anm25 : Option Addr} {slm25 : Array (Option Value)}
    {fm26 : Addr} {ocm26 kVm26 docm26 pmm26 cdm26 ctm26 : Value} {odm26 anm26 : Option Addr} {slm26 : Array (Option Value)}
    {fm27 : Addr} {ocm27 kVm27 docm27 pmm27 cdm27 ctm27 : Value} {odm27 anm27 : Option Addr} {slm27 : Array (Option Value)}
    {c_NoLand : Addr}
    {f0 : Addr} {oc0 kV0 doc0 pm0 cd0 ct0 : Value} {od0 an0 : Option Addr} {sl0 : Array (Option Value)}
    {f1 : Addr} {oc1 kV1 doc1 pm1 cd1 ct1 : Value} {od1 an1 : Option Addr} {sl1 : Array (Option Value)}
    {f2 : Addr} {oc2 kV2 doc2 pm2 cd2 ct2 : Value} {od2 an2 : Option Addr} {sl2 : Array (Option Value)}
    {f3 : Addr} {oc3 kV3 doc3 pm3 cd3 ct3 : Value} {od3 an3 : Option Addr} {sl3 : Array (Option Value)}
    {f4 : Addr} {oc4 kV4 doc4 pm4 cd4 ct4 : Value} {od4 an4 : Option Addr} {sl4 : Array (Option Value)}
    {f5 : Addr} {oc5 kV5 doc5 pm5 cd5 ct5 : Value} {od5 an5 : Option Addr} {sl5 : Array (Option Value)}
    {f6 : Addr} {oc6 kV6 doc6 pm6 cd6 ct6 : Value} {od6 an6 : Option Addr} {sl6 : Array (Option Value)}
    {f7 : Addr} {oc7 kV7 doc7 pm7 cd7 ct7 : Value} {od7 an7 : Option Addr} {sl7 : Array (Option Value)}
    {f8 : Addr} {oc8 kV8 doc8 pm8 cd8 ct8 : Value} {od8 an8 : Option Addr} {sl8 : Array (Option Value)}
    {f9 : Addr} {oc9 kV9 doc9 pm9 cd9 ct9 : Value} {od9 an9 : Option Addr} {sl9 : Array (Option Value)}
    {f10 : Addr} {oc10 kV10 doc10 pm10 cd10 ct10 : Value} {od10 an10 : Option Addr} {sl10 : Array (Option Value)}
    {f11 : Addr} {oc11 kV11 doc11 pm11 cd11 ct11 : Value} {od11 an11 : Option Addr} {sl11 : Array (Option Value)}
    {f12 : Addr} {oc12 kV12 doc12 pm12 cd12 ct12 : Value} {od12 an12 : Option Addr} {sl12 : Array (Option Value)}
    {f13 : Addr} {oc13 kV13 doc13 pm13 cd13 ct13 : Value} {od13 an13 : Option Addr} {sl13 : Array (Option Value)}
    {f14 : Addr} {oc14 kV14 doc14 pm14 cd14 ct14 : Value} {od14 an14 : Option Addr} {sl14 : Array (Option Value)}
    {f15 : Addr} {oc15 kV15 doc15 pm15 cd15 ct15 : Value} {od15 an15 : Option Addr} {sl15 : Array (Option Value)}
    {f16 : Addr} {oc16 kV16 doc16 pm16 cd16 ct16 : Value} {od16 an16 : Option Addr} {sl16 : Array (Option Value)}
    {f17 : Addr} {oc17 kV17 doc17 pm17 cd17 ct17 : Value} {od17 an17 : Option Addr} {sl17 : Array (Option Value)}
    {f18 : Addr} {oc18 kV18 doc18 pm18 cd18 ct18 : Value} {od18 an18 : Option Addr} {sl18 : Array (Option Value)}
    {f19 : Addr} {oc19 kV19 doc19 pm19 cd19 ct19 : Value} {od19 an19 : Option Addr} {sl19 : Array (Option Value)}
    {f20 : Addr} {oc20 kV20 doc20 pm20 cd20 ct20 : Value} {od20 an20 : Option Addr} {sl20 : Array (Option Value)}
    {f21 : Addr} {oc21 kV21 doc21 pm21 cd21 ct21 : Value} {od21 an21 : Option Addr} {sl21 : Array (Option Value)}
    {f22 : Addr} {oc22 kV22 doc22 pm22 cd22 ct22 : Value} {od22 an22 : Option Addr} {sl22 : Array (Option Value)}
    {f23 : Addr} {oc23 kV23 doc23 pm23 cd23 ct23 : Value} {od23 an23 : Option Addr} {sl23 : Array (Option Value)}
    {f24 : Addr} {oc24 kV24 doc24 pm24 cd24 ct24 : Value} {od24 an24 : Option Addr} {sl24 : Array (Option Value)}
    {f25 : Addr} {oc25 kV25 doc25 pm25 cd25 ct25 : Value} {od25 an25 : Option Addr} {sl25 : Array (Option Value)}
    {f26 : Addr} {oc26 kV26 doc26 pm26 cd26 ct26 : Value} {od26 an26 : Option Addr} {sl26 : Array (Option Value)}
    {f27 : Addr} {oc27 kV27 doc27 pm27 cd27 ct27 : Value} {od27 an27 : Option Addr} {sl27 : Array (Option Value)}
    {f28 : Addr} {oc28 kV28 doc28 pm28 cd28 ct28 : Value} {od28 an28 : Option Addr} {sl28 : Array (Option Value)}
    {f29 : Addr} {oc29 kV29 doc29 pm29 cd29 ct29 : Value} {od29 an29 : Option Addr} {sl29 : Array (Option Value)}
    {f30 : Addr} {oc30 kV30 doc30 pm30 cd30 ct30 : Value} {od30 an30 : Option Addr} {sl30 : Array (Option Value)}
    {f31 : Addr} {oc31 kV31 doc31 pm31 cd31 ct31 : Value} {od31 an31 : Option Addr} {sl31 : Array (Option Value)}
    {f32 : Addr} {oc32 kV32 doc32 pm32 cd32 ct32 : Value} {od32 an32 : Option Addr} {sl32 : Array (Option Value)}
    {f33 : Addr} {oc33 kV33 doc33 pm33 cd33 ct33 : Value} {od33 an33 : Option Addr} {sl33 : Array (Option Value)}
    {f34 : Addr} {oc34 kV34 doc34 pm34 cd34 ct34 : Value} {od34 an34 : Option Addr} {sl34 : Array (Option Value)}
    {f35 : Addr} {oc35 kV35 doc35 pm35 cd35 ct35 : Value} {od35 an35 : Option Addr} {sl35 : Array (Option Value)}
    {f36 : Addr} {oc36 kV36 doc36 pm36 cd36 ct36 : Value} {od36 an36 : Option Addr} {sl36 : Array (Option Value)}
    {f37 : Addr} {oc37 kV37 doc37 pm37 cd37 ct37 : Value} {od37 an37 : Option Addr} {sl37 : Array (Option Value)}
    {f38 : Addr} {oc38 kV38 doc38 pm38 cd38 ct38 : Value} {od38 an38 : Option Addr} {sl38 : Array (Option Value)}
    {u0 : Value}
    {u1 : Value}
    {u2 : Value}
    {u3 : Value}
    {u4 : Value}
    {u5 : Value}
    {u6 : Value}
    {u7 : Value}
    {u8 : Value}
    (aC : PySem.W.nsIn K mainGlobals "Land" = some (some (.ref C))) (pgC : PySem.W.plainGet K C Str.empty = true) (hdC : PySem.W.hasDictIn K C = true) (poC : PySem.W.plainOver K C = true) (saC : PySem.W.findIn K (.ref C) "__setattr__" = some (some (.builtin "object.__setattr__"))) (mkC : PySem.W.makesIn K C = true) (kpC : PySem.W.keepIn K (.ref C) = true)
    (n_field_rows : PySem.W.findIn K (.ref C) "field_rows" = some none)
    (n_dyke_rows : PySem.W.findIn K (.ref C) "dyke_rows" = some none)
    (iha : PySem.W.findIn K (.ref C) "__class__" = some (some (.builtin "object.__class__"))) (ihn : PySem.W.specialIn K (.builtin "object.__class__") "__get__" = some (some (.builtin "getset_descriptor.__get__"))) (iht : PySem.W.takesIn K (.builtin "object.__class__") = some true) (ihm : PySem.W.mroIn K C (.type "object") = some true)
    (ma18 : PySem.W.findIn K (.ref C) "__init__" = some (some (.ref fm18))) (mi18 : PySem.W.isFn K (.ref fm18) = true) (ml18 : K.lookup fm18 = some ⟨ocm18, odm18, .func (PySem.W.fnOf "__init__" "Land.__init__" (defArgs s_land_pinit) (defBody s_land_pinit) (defScope s_land_pinit) .none kVm18 docm18 pmm18 anm18 cdm18 ctm18), slm18⟩) (mc18 : PySem.W.codeIn K cdm18 "Land.__init__" = true) (mk18 : PySem.W.keepIn K (.ref fm18) = true)
    (ma19 : PySem.W.findIn K (.ref C) "fields" = some (some (.ref fm19))) (mi19 : PySem.W.isFn K (.ref fm19) = true) (ml19 : K.lookup fm19 = some ⟨ocm19, odm19, .func (PySem.W.fnOf "fields" "Land.fields" (defArgs s_land_p_fields) (defBody s_land_p_fields) (defScope s_land_p_fields) .none kVm19 docm19 pmm19 anm19 cdm19 ctm19), slm19⟩) (mc19 : PySem.W.codeIn K cdm19 "Land.fields" = true) (mk19 : PySem.W.keepIn K (.ref fm19) = true)
    (ma20 : PySem.W.findIn K (.ref C) "dykes" = some (some (.ref fm20))) (mi20 : PySem.W.isFn K (.ref fm20) = true) (ml20 : K.lookup fm20 = some ⟨ocm20, odm20, .func (PySem.W.fnOf "dykes" "Land.dykes" (defArgs s_land_p_dykes) (defBody s_land_p_dykes) (defScope s_land_p_dykes) .none kVm20 docm20 pmm20 anm20 cdm20 ctm20), slm20⟩) (mc20 : PySem.W.codeIn K cdm20 "Land.dykes" = true) (mk20 : PySem.W.keepIn K (.ref fm20) = true)
    (ma21 : PySem.W.findIn K (.ref C) "field_names" = some (some (.ref fm21))) (mi21 : PySem.W.isFn K (.ref fm21) = true) (ml21 : K.lookup fm21 = some ⟨ocm21, odm21, .func (PySem.W.fnOf "field_names" "Land.field_names" (defArgs s_land_p_field_names) (defBody s_land_p_field_names) (defScope s_land_p_field_names) .none kVm21 docm21 pmm21 anm21 cdm21 ctm21), slm21⟩) (mc21 : PySem.W.codeIn K cdm21 "Land.field_names" = true) (mk21 : PySem.W.keepIn K (.ref fm21) = true)
    (ma22 : PySem.W.findIn K (.ref C) "dyke_names" = some (some (.ref fm22))) (mi22 : PySem.W.isFn K (.ref fm22) = true) (ml22 : K.lookup fm22 = some ⟨ocm22, odm22, .func (PySem.W.fnOf "dyke_names" "Land.dyke_names" (defArgs s_land_p_dyke_names) (defBody s_land_p_dyke_names) (defScope s_land_p_dyke_names) .none kVm22 docm22 pmm22 anm22 cdm22 ctm22), slm22⟩) (mc22 : PySem.W.codeIn K cdm22 "Land.dyke_names" = true) (mk22 : PySem.W.keepIn K (.ref fm22) = true)
    (ma23 : PySem.W.findIn K (.ref C) "sluices" = some (some (.ref fm23))) (mi23 : PySem.W.isFn K (.ref fm23) = true) (ml23 : K.lookup fm23 = some ⟨ocm23, odm23, .func (PySem.W.fnOf "sluices" "Land.sluices" (defArgs s_land_p_sluices) (defBody s_land_p_sluices) (defScope s_land_p_sluices) .none kVm23 docm23 pmm23 anm23 cdm23 ctm23), slm23⟩) (mc23 : PySem.W.codeIn K cdm23 "Land.sluices" = true) (mk23 : PySem.W.keepIn K (.ref fm23) = true)
    (ma24 : PySem.W.findIn K (.ref C) "ground" = some (some (.ref fm24))) (mi24 : PySem.W.isFn K (.ref fm24) = true) (ml24 : K.lookup fm24 = some ⟨ocm24, odm24, .func (PySem.W.fnOf "ground" "Land.ground" (defArgs s_land_p_ground) (defBody s_land_p_ground) (defScope s_land_p_ground) .none kVm24 docm24 pmm24 anm24 cdm24 ctm24), slm24⟩) (mc24 : PySem.W.codeIn K cdm24 "Land.ground" = true) (mk24 : PySem.W.keepIn K (.ref fm24) = true)
    (ma25 : PySem.W.findIn K (.ref C) "dues" = some (some (.ref fm25))) (mi25 : PySem.W.isFn K (.ref fm25) = true) (ml25 : K.lookup fm25 = some ⟨ocm25, odm25, .func (PySem.W.fnOf "dues" "Land.dues" (defArgs s_land_p_dues) (defBody s_land_p_dues) (defScope s_land_p_dues) .none kVm25 docm25 pmm25 anm25 cdm25 ctm25), slm25⟩) (mc25 : PySem.W.codeIn K cdm25 "Land.dues" = true) (mk25 : PySem.W.keepIn K (.ref fm25) = true)
    (ma26 : PySem.W.findIn K (.ref C) "dyke" = some (some (.ref fm26))) (mi26 : PySem.W.isFn K (.ref fm26) = true) (ml26 : K.lookup fm26 = some ⟨ocm26, odm26, .func (PySem.W.fnOf "dyke" "Land.dyke" (defArgs s_land_p_dyke) (defBody s_land_p_dyke) (defScope s_land_p_dyke) .none kVm26 docm26 pmm26 anm26 cdm26 ctm26), slm26⟩) (mc26 : PySem.W.codeIn K cdm26 "Land.dyke" = true) (mk26 : PySem.W.keepIn K (.ref fm26) = true)
    (ma27 : PySem.W.findIn K (.ref C) "raised" = some (some (.ref fm27))) (mi27 : PySem.W.isFn K (.ref fm27) = true) (ml27 : K.lookup fm27 = some ⟨ocm27, odm27, .func (PySem.W.fnOf "raised" "Land.raised" (defArgs s_land_p_raised) (defBody s_land_p_raised) (defScope s_land_p_raised) .none kVm27 docm27 pmm27 anm27 cdm27 ctm27), slm27⟩) (mc27 : PySem.W.codeIn K cdm27 "Land.raised" = true) (mk27 : PySem.W.keepIn K (.ref fm27) = true)
    (xa_NoLand : PySem.W.nsIn K mainGlobals "NoLand" = some (some (.ref c_NoLand))) (xq_NoLand : PySem.W.excIn K c_NoLand [.type "ValueError", .type "Exception", .type "BaseException", .type "object"] "ValueError.__new__" = true) (xm_NoLand : PySem.W.exmOne K (.ref c_NoLand) (.ref c_NoLand) = some true)
    (a0 : PySem.W.nsIn K mainGlobals "_wall" = some (some (.ref f0))) (l0 : K.lookup f0 = some ⟨oc0, od0, .func (PySem.W.fnOf "_wall" "_wall" (defArgs s_p_wall) (defBody s_p_wall) (defScope s_p_wall) .none kV0 doc0 pm0 an0 cd0 ct0), sl0⟩) (c0 : PySem.W.codeIn K cd0 "_wall" = true) (k0 : PySem.W.keepIn K (.ref f0) = true)
    (a1 : PySem.W.nsIn K mainGlobals "is_whole" = some (some (.ref f1))) (l1 : K.lookup f1 = some ⟨oc1, od1, .func (PySem.W.fnOf "is_whole" "is_whole" (defArgs s_p_is_whole) (defBody s_p_is_whole) (defScope s_p_is_whole) .none kV1 doc1 pm1 an1 cd1 ct1), sl1⟩) (c1 : PySem.W.codeIn K cd1 "is_whole" = true) (k1 : PySem.W.keepIn K (.ref f1) = true)
    (a2 : PySem.W.nsIn K mainGlobals "is_name" = some (some (.ref f2))) (l2 : K.lookup f2 = some ⟨oc2, od2, .func (PySem.W.fnOf "is_name" "is_name" (defArgs s_p_is_name) (defBody s_p_is_name) (defScope s_p_is_name) .none kV2 doc2 pm2 an2 cd2 ct2), sl2⟩) (c2 : PySem.W.codeIn K cd2 "is_name" = true) (k2 : PySem.W.keepIn K (.ref f2) = true)
    (a3 : PySem.W.nsIn K mainGlobals "is_height" = some (some (.ref f3))) (l3 : K.lookup f3 = some ⟨oc3, od3, .func (PySem.W.fnOf "is_height" "is_height" (defArgs s_p_is_height) (defBody s_p_is_height) (defScope s_p_is_height) .none kV3 doc3 pm3 an3 cd3 ct3), sl3⟩) (c3 : PySem.W.codeIn K cd3 "is_height" = true) (k3 : PySem.W.keepIn K (.ref f3) = true)
    (a4 : PySem.W.nsIn K mainGlobals "is_amount" = some (some (.ref f4))) (l4 : K.lookup f4 = some ⟨oc4, od4, .func (PySem.W.fnOf "is_amount" "is_amount" (defArgs s_p_is_amount) (defBody s_p_is_amount) (defScope s_p_is_amount) .none kV4 doc4 pm4 an4 cd4 ct4), sl4⟩) (c4 : PySem.W.codeIn K cd4 "is_amount" = true) (k4 : PySem.W.keepIn K (.ref f4) = true)
    (a5 : PySem.W.nsIn K mainGlobals "is_one_of" = some (some (.ref f5))) (l5 : K.lookup f5 = some ⟨oc5, od5, .func (PySem.W.fnOf "is_one_of" "is_one_of" (defArgs s_p_is_one_of) (defBody s_p_is_one_of) (defScope s_p_is_one_of) .none kV5 doc5 pm5 an5 cd5 ct5), sl5⟩) (c5 : PySem.W.codeIn K cd5 "is_one_of" = true) (k5 : PySem.W.keepIn K (.ref f5) = true)
    (a6 : PySem.W.nsIn K mainGlobals "is_list_of" = some (some (.ref f6))) (l6 : K.lookup f6 = some ⟨oc6, od6, .func (PySem.W.fnOf "is_list_of" "is_list_of" (defArgs s_p_is_list_of) (defBody s_p_is_list_of) (defScope s_p_is_list_of) .none kV6 doc6 pm6 an6 cd6 ct6), sl6⟩) (c6 : PySem.W.codeIn K cd6 "is_list_of" = true) (k6 : PySem.W.keepIn K (.ref f6) = true)
    (a7 : PySem.W.nsIn K mainGlobals "is_tuple_of" = some (some (.ref f7))) (l7 : K.lookup f7 = some ⟨oc7, od7, .func (PySem.W.fnOf "is_tuple_of" "is_tuple_of" (defArgs s_p_is_tuple_of) (defBody s_p_is_tuple_of) (defScope s_p_is_tuple_of) .none kV7 doc7 pm7 an7 cd7 ct7), sl7⟩) (c7 : PySem.W.codeIn K cd7 "is_tuple_of" = true) (k7 : PySem.W.keepIn K (.ref f7) = true)
    (a8 : PySem.W.nsIn K mainGlobals "none_twice" = some (some (.ref f8))) (l8 : K.lookup f8 = some ⟨oc8, od8, .func (PySem.W.fnOf "none_twice" "none_twice" (defArgs s_p_none_twice) (defBody s_p_none_twice) (defScope s_p_none_twice) .none kV8 doc8 pm8 an8 cd8 ct8), sl8⟩) (c8 : PySem.W.codeIn K cd8 "none_twice" = true) (k8 : PySem.W.keepIn K (.ref f8) = true)
    (a9 : PySem.W.nsIn K mainGlobals "is_field" = some (some (.ref f9))) (l9 : K.lookup f9 = some ⟨oc9, od9, .func (PySem.W.fnOf "is_field" "is_field" (defArgs s_p_is_field) (defBody s_p_is_field) (defScope s_p_is_field) .none kV9 doc9 pm9 an9 cd9 ct9), sl9⟩) (c9 : PySem.W.codeIn K cd9 "is_field" = true) (k9 : PySem.W.keepIn K (.ref f9) = true)
    (a10 : PySem.W.nsIn K mainGlobals "are_fields" = some (some (.ref f10))) (l10 : K.lookup f10 = some ⟨oc10, od10, .func (PySem.W.fnOf "are_fields" "are_fields" (defArgs s_p_are_fields) (defBody s_p_are_fields) (defScope s_p_are_fields) .none kV10 doc10 pm10 an10 cd10 ct10), sl10⟩) (c10 : PySem.W.codeIn K cd10 "are_fields" = true) (k10 : PySem.W.keepIn K (.ref f10) = true)
    (a11 : PySem.W.nsIn K mainGlobals "are_sides" = some (some (.ref f11))) (l11 : K.lookup f11 = some ⟨oc11, od11, .func (PySem.W.fnOf "are_sides" "are_sides" (defArgs s_p_are_sides) (defBody s_p_are_sides) (defScope s_p_are_sides) .none kV11 doc11 pm11 an11 cd11 ct11), sl11⟩) (c11 : PySem.W.codeIn K cd11 "are_sides" = true) (k11 : PySem.W.keepIn K (.ref f11) = true)
    (a12 : PySem.W.nsIn K mainGlobals "is_sill" = some (some (.ref f12))) (l12 : K.lookup f12 = some ⟨oc12, od12, .func (PySem.W.fnOf "is_sill" "is_sill" (defArgs s_p_is_sill) (defBody s_p_is_sill) (defScope s_p_is_sill) .none kV12 doc12 pm12 an12 cd12 ct12), sl12⟩) (c12 : PySem.W.codeIn K cd12 "is_sill" = true) (k12 : PySem.W.keepIn K (.ref f12) = true)
    (a13 : PySem.W.nsIn K mainGlobals "is_dyke" = some (some (.ref f13))) (l13 : K.lookup f13 = some ⟨oc13, od13, .func (PySem.W.fnOf "is_dyke" "is_dyke" (defArgs s_p_is_dyke) (defBody s_p_is_dyke) (defScope s_p_is_dyke) .none kV13 doc13 pm13 an13 cd13 ct13), sl13⟩) (c13 : PySem.W.codeIn K cd13 "is_dyke" = true) (k13 : PySem.W.keepIn K (.ref f13) = true)
    (a14 : PySem.W.nsIn K mainGlobals "are_dykes" = some (some (.ref f14))) (l14 : K.lookup f14 = some ⟨oc14, od14, .func (PySem.W.fnOf "are_dykes" "are_dykes" (defArgs s_p_are_dykes) (defBody s_p_are_dykes) (defScope s_p_are_dykes) .none kV14 doc14 pm14 an14 cd14 ct14), sl14⟩) (c14 : PySem.W.codeIn K cd14 "are_dykes" = true) (k14 : PySem.W.keepIn K (.ref f14) = true)
    (a15 : PySem.W.nsIn K mainGlobals "is_work" = some (some (.ref f15))) (l15 : K.lookup f15 = some ⟨oc15, od15, .func (PySem.W.fnOf "is_work" "is_work" (defArgs s_p_is_work) (defBody s_p_is_work) (defScope s_p_is_work) .none kV15 doc15 pm15 an15 cd15 ct15), sl15⟩) (c15 : PySem.W.codeIn K cd15 "is_work" = true) (k15 : PySem.W.keepIn K (.ref f15) = true)
    (a16 : PySem.W.nsIn K mainGlobals "are_works" = some (some (.ref f16))) (l16 : K.lookup f16 = some ⟨oc16, od16, .func (PySem.W.fnOf "are_works" "are_works" (defArgs s_p_are_works) (defBody s_p_are_works) (defScope s_p_are_works) .none kV16 doc16 pm16 an16 cd16 ct16), sl16⟩) (c16 : PySem.W.codeIn K cd16 "are_works" = true) (k16 : PySem.W.keepIn K (.ref f16) = true)
    (a17 : PySem.W.nsIn K mainGlobals "with_crown" = some (some (.ref f17))) (l17 : K.lookup f17 = some ⟨oc17, od17, .func (PySem.W.fnOf "with_crown" "with_crown" (defArgs s_p_with_crown) (defBody s_p_with_crown) (defScope s_p_with_crown) .none kV17 doc17 pm17 an17 cd17 ct17), sl17⟩) (c17 : PySem.W.codeIn K cd17 "with_crown" = true) (k17 : PySem.W.keepIn K (.ref f17) = true)
    (a18 : PySem.W.nsIn K mainGlobals "number_within" = some (some (.ref f18))) (l18 : K.lookup f18 = some ⟨oc18, od18, .func (PySem.W.fnOf "number_within" "number_within" (defArgs s_p_number_within) (defBody s_p_number_within) (defScope s_p_number_within) .none kV18 doc18 pm18 an18 cd18 ct18), sl18⟩) (c18 : PySem.W.codeIn K cd18 "number_within" = true) (k18 : PySem.W.keepIn K (.ref f18) = true)
    (a19 : PySem.W.nsIn K mainGlobals "number_of" = some (some (.ref f19))) (l19 : K.lookup f19 = some ⟨oc19, od19, .func (PySem.W.fnOf "number_of" "number_of" (defArgs s_p_number_of) (defBody s_p_number_of) (defScope s_p_number_of) .none kV19 doc19 pm19 an19 cd19 ct19), sl19⟩) (c19 : PySem.W.codeIn K cd19 "number_of" = true) (k19 : PySem.W.keepIn K (.ref f19) = true)
    (a20 : PySem.W.nsIn K mainGlobals "field_row" = some (some (.ref f20))) (l20 : K.lookup f20 = some ⟨oc20, od20, .func (PySem.W.fnOf "field_row" "field_row" (defArgs s_p_field_row) (defBody s_p_field_row) (defScope s_p_field_row) .none kV20 doc20 pm20 an20 cd20 ct20), sl20⟩) (c20 : PySem.W.codeIn K cd20 "field_row" = true) (k20 : PySem.W.keepIn K (.ref f20) = true)
    (a21 : PySem.W.nsIn K mainGlobals "dyke_row" = some (some (.ref f21))) (l21 : K.lookup f21 = some ⟨oc21, od21, .func (PySem.W.fnOf "dyke_row" "dyke_row" (defArgs s_p_dyke_row) (defBody s_p_dyke_row) (defScope s_p_dyke_row) .none kV21 doc21 pm21 an21 cd21 ct21), sl21⟩) (c21 : PySem.W.codeIn K cd21 "dyke_row" = true) (k21 : PySem.W.keepIn K (.ref f21) = true)
    (a22 : PySem.W.nsIn K mainGlobals "show_land" = some (some (.ref f22))) (l22 : K.lookup f22 = some ⟨oc22, od22, .func (PySem.W.fnOf "show_land" "show_land" (defArgs s_p_show_land) (defBody s_p_show_land) (defScope s_p_show_land) .none kV22 doc22 pm22 an22 cd22 ct22), sl22⟩) (c22 : PySem.W.codeIn K cd22 "show_land" = true) (k22 : PySem.W.keepIn K (.ref f22) = true)
    (a23 : PySem.W.nsIn K mainGlobals "field_in" = some (some (.ref f23))) (l23 : K.lookup f23 = some ⟨oc23, od23, .func (PySem.W.fnOf "field_in" "field_in" (defArgs s_p_field_in) (defBody s_p_field_in) (defScope s_p_field_in) .none kV23 doc23 pm23 an23 cd23 ct23), sl23⟩) (c23 : PySem.W.codeIn K cd23 "field_in" = true) (k23 : PySem.W.keepIn K (.ref f23) = true)
    (a24 : PySem.W.nsIn K mainGlobals "dyke_in" = some (some (.ref f24))) (l24 : K.lookup f24 = some ⟨oc24, od24, .func (PySem.W.fnOf "dyke_in" "dyke_in" (defArgs s_p_dyke_in) (defBody s_p_dyke_in) (defScope s_p_dyke_in) .none kV24 doc24 pm24 an24 cd24 ct24), sl24⟩) (c24 : PySem.W.codeIn K cd24 "dyke_in" = true) (k24 : PySem.W.keepIn K (.ref f24) = true)
    (a25 : PySem.W.nsIn K mainGlobals "land_in" = some (some (.ref f25))) (l25 : K.lookup f25 = some ⟨oc25, od25, .func (PySem.W.fnOf "land_in" "land_in" (defArgs s_p_land_in) (defBody s_p_land_in) (defScope s_p_land_in) .none kV25 doc25 pm25 an25 cd25 ct25), sl25⟩) (c25 : PySem.W.codeIn K cd25 "land_in" = true) (k25 : PySem.W.keepIn K (.ref f25) = true)
    (a26 : PySem.W.nsIn K mainGlobals "read_land" = some (some (.ref f26))) (l26 : K.lookup f26 = some ⟨oc26, od26, .func (PySem.W.fnOf "read_land" "read_land" (defArgs s_p_read_land) (defBody s_p_read_land) (defScope s_p_read_land) .none kV26 doc26 pm26 an26 cd26 ct26), sl26⟩) (c26 : PySem.W.codeIn K cd26 "read_land" = true) (k26 : PySem.W.keepIn K (.ref f26) = true)
    (a27 : PySem.W.nsIn K mainGlobals "_law_cell_at" = some (some (.ref f27))) (l27 : K.lookup f27 = some ⟨oc27, od27, .func (PySem.W.fnOf "_law_cell_at" "_law_cell_at" (defArgs s_l_cell_at) (defBody s_l_cell_at) (defScope s_l_cell_at) .none kV27 doc27 pm27 an27 cd27 ct27), sl27⟩) (c27 : PySem.W.codeIn K cd27 "_law_cell_at" = true) (k27 : PySem.W.keepIn K (.ref f27) = true)
    (a28 : PySem.W.nsIn K mainGlobals "_law_mixed" = some (some (.ref f28))) (l28 : K.lookup f28 = some ⟨oc28, od28, .func (PySem.W.fnOf "_law_mixed" "_law_mixed" (defArgs s_l_mixed) (defBody s_l_mixed) (defScope s_l_mixed) .none kV28 doc28 pm28 an28 cd28 ct28), sl28⟩) (c28 : PySem.W.codeIn K cd28 "_law_mixed" = true) (k28 : PySem.W.keepIn K (.ref f28) = true)
    (a29 : PySem.W.nsIn K mainGlobals "_law_name" = some (some (.ref f29))) (l29 : K.lookup f29 = some ⟨oc29, od29, .func (PySem.W.fnOf "_law_name" "_law_name" (defArgs s_l_name) (defBody s_l_name) (defScope s_l_name) .none kV29 doc29 pm29 an29 cd29 ct29), sl29⟩) (c29 : PySem.W.codeIn K cd29 "_law_name" = true) (k29 : PySem.W.keepIn K (.ref f29) = true)
    (a30 : PySem.W.nsIn K mainGlobals "_law_height" = some (some (.ref f30))) (l30 : K.lookup f30 = some ⟨oc30, od30, .func (PySem.W.fnOf "_law_height" "_law_height" (defArgs s_l_height) (defBody s_l_height) (defScope s_l_height) .none kV30 doc30 pm30 an30 cd30 ct30), sl30⟩) (c30 : PySem.W.codeIn K cd30 "_law_height" = true) (k30 : PySem.W.keepIn K (.ref f30) = true)
    (a31 : PySem.W.nsIn K mainGlobals "_law_count" = some (some (.ref f31))) (l31 : K.lookup f31 = some ⟨oc31, od31, .func (PySem.W.fnOf "_law_count" "_law_count" (defArgs s_l_count) (defBody s_l_count) (defScope s_l_count) .none kV31 doc31 pm31 an31 cd31 ct31), sl31⟩) (c31 : PySem.W.codeIn K cd31 "_law_count" = true) (k31 : PySem.W.keepIn K (.ref f31) = true)
    (a32 : PySem.W.nsIn K mainGlobals "_law_fields" = some (some (.ref f32))) (l32 : K.lookup f32 = some ⟨oc32, od32, .func (PySem.W.fnOf "_law_fields" "_law_fields" (defArgs s_l_fields) (defBody s_l_fields) (defScope s_l_fields) .none kV32 doc32 pm32 an32 cd32 ct32), sl32⟩) (c32 : PySem.W.codeIn K cd32 "_law_fields" = true) (k32 : PySem.W.keepIn K (.ref f32) = true)
    (a33 : PySem.W.nsIn K mainGlobals "_law_dyke" = some (some (.ref f33))) (l33 : K.lookup f33 = some ⟨oc33, od33, .func (PySem.W.fnOf "_law_dyke" "_law_dyke" (defArgs s_l_dyke) (defBody s_l_dyke) (defScope s_l_dyke) .none kV33 doc33 pm33 an33 cd33 ct33), sl33⟩) (c33 : PySem.W.codeIn K cd33 "_law_dyke" = true) (k33 : PySem.W.keepIn K (.ref f33) = true)
    (a34 : PySem.W.nsIn K mainGlobals "_law_dykes" = some (some (.ref f34))) (l34 : K.lookup f34 = some ⟨oc34, od34, .func (PySem.W.fnOf "_law_dykes" "_law_dykes" (defArgs s_l_dykes) (defBody s_l_dykes) (defScope s_l_dykes) .none kV34 doc34 pm34 an34 cd34 ct34), sl34⟩) (c34 : PySem.W.codeIn K cd34 "_law_dykes" = true) (k34 : PySem.W.keepIn K (.ref f34) = true)
    (a35 : PySem.W.nsIn K mainGlobals "_law_text" = some (some (.ref f35))) (l35 : K.lookup f35 = some ⟨oc35, od35, .func (PySem.W.fnOf "_law_text" "_law_text" (defArgs s_l_text) (defBody s_l_text) (defScope s_l_text) .none kV35 doc35 pm35 an35 cd35 ct35), sl35⟩) (c35 : PySem.W.codeIn K cd35 "_law_text" = true) (k35 : PySem.W.keepIn K (.ref f35) = true)
    (a36 : PySem.W.nsIn K mainGlobals "_law_alike" = some (some (.ref f36))) (l36 : K.lookup f36 = some ⟨oc36, od36, .func (PySem.W.fnOf "_law_alike" "_law_alike" (defArgs s_l_alike) (defBody s_l_alike) (defScope s_l_alike) .none kV36 doc36 pm36 an36 cd36 ct36), sl36⟩) (c36 : PySem.W.codeIn K cd36 "_law_alike" = true) (k36 : PySem.W.keepIn K (.ref f36) = true)
    (a37 : PySem.W.nsIn K mainGlobals "_law_stands" = some (some (.ref f37))) (l37 : K.lookup f37 = some ⟨oc37, od37, .func (PySem.W.fnOf "_law_stands" "_law_stands" (defArgs s_l_stands) (defBody s_l_stands) (defScope s_l_stands) .none kV37 doc37 pm37 an37 cd37 ct37), sl37⟩) (c37 : PySem.W.codeIn K cd37 "_law_stands" = true) (k37 : PySem.W.keepIn K (.ref f37) = true)
    (a38 : PySem.W.nsIn K mainGlobals "law" = some (some (.ref f38))) (l38 : K.lookup f38 = some ⟨oc38, od38, .func (PySem.W.fnOf "law" "law" (defArgs s_p_law) (defBody s_p_law) (defScope s_p_law) .none kV38 doc38 pm38 an38 cd38 ct38), sl38⟩) (c38 : PySem.W.codeIn K cd38 "law" = true) (k38 : PySem.W.keepIn K (.ref f38) = true)
    (g0 : PySem.W.nsIn K mainGlobals "SEA" = some (some u0)) (r0 : RelV (.str "sea") u0)
    (g1 : PySem.W.nsIn K mainGlobals "LETTERS" = some (some u1)) (r1 : RelV (.str "abcdefghijklmnopqrstuvwxyz") u1)
    (g2 : PySem.W.nsIn K mainGlobals "MOST_LETTERS" = some (some u2)) (r2 : RelV (.int 8) u2)
    (g3 : PySem.W.nsIn K mainGlobals "MOST_HEIGHT" = some (some u3)) (r3 : RelV (.int 1000000) u3)
    (g4 : PySem.W.nsIn K mainGlobals "MOST_AMOUNT" = some (some u4)) (r4 : RelV (.int 1000000) u4)
    (g5 : PySem.W.nsIn K mainGlobals "MOST_FIELDS" = some (some u5)) (r5 : RelV (.int 12) u5)
    (g6 : PySem.W.nsIn K mainGlobals "MOST_DYKES" = some (some u6)) (r6 : RelV (.int 40) u6)
    (g7 : PySem.W.nsIn K mainGlobals "FIGURES" = some (some u7)) (r7 : RelV (.str "0123456789") u7)
    (g8 : PySem.W.nsIn K mainGlobals "MOST_FIGURES" = some (some u8)) (r8 : RelV (.int 7) u8)
    (z0 : PySem.W.nsIn K mainGlobals "all" = some none)
    (z1 : PySem.W.nsIn K mainGlobals "bool" = some none)
    (z2 : PySem.W.nsIn K mainGlobals "dict" = some none)
    (z3 : PySem.W.nsIn K mainGlobals "int" = some none)
    (z4 : PySem.W.nsIn K mainGlobals "isinstance" = some none)
    (z5 : PySem.W.nsIn K mainGlobals "len" = some none)
    (z6 : PySem.W.nsIn K mainGlobals "list" = some none)
    (z7 : PySem.W.nsIn K mainGlobals "max" = some none)
    (z8 : PySem.W.nsIn K mainGlobals "min" = some none)
    (z9 : PySem.W.nsIn K mainGlobals "range" = some none)
    (z10 : PySem.W.nsIn K mainGlobals "set" = some none)
    (z11 : PySem.W.nsIn K mainGlobals "str" = some none)
    (z12 : PySem.W.nsIn K mainGlobals "tuple" = some none) : Txt K mg C :=
  ⟨⟨pgC, hdC, poC, saC⟩,
   PySem.W.mg_of X G aC,
   n_field_rows,
   n_dyke_rows,
   ⟨iha, ihn, iht, ihm⟩,
   init_mk ma18 mi18 ml18 mc18 mk18 mkC kpC (fun _ _ _ _ _ _ us hl => match us, hl with | [_, _, _], _ => rfl),
   meth_mk ma19 mi19 ml19 mc19 mk19 (fun _ _ _ _ _ _ us hl => match us, hl with | [_], _ => rfl),
   meth_mk ma20 mi20 ml20 mc20 mk20 (fun _ _ _ _ _ _ us hl => match us, hl with | [_], _ => rfl),
   meth_mk ma21 mi21 ml21 mc21 mk21 (fun _ _ _ _ _ _ us hl => match us, hl with | [_], _ => rfl),
   meth_mk ma22 mi22 ml22 mc22 mk22 (fun _ _ _ _ _ _ us hl => match us, hl with | [_], _ => rfl),
   meth_mk ma23 mi23 ml23 mc23 mk23 (fun _ _ _ _ _ _ us hl => match us, hl with | [_], _ => rfl),
   meth_mk ma24 mi24 ml24 mc24 mk24 (fun _ _ _ _ _ _ us hl => match us, hl with | [_, _], _ => rfl),
   meth_mk ma25 mi25 ml25 mc25 mk25 (fun _ _ _ _ _ _ us hl => match us, hl with | [_, _], _ => rfl),
   meth_mk ma26 mi26 ml26 mc26 mk26 (fun _ _ _ _ _ _ us hl => match us, hl with | [_, _], _ => rfl),
   meth_mk ma27 mi27 ml27 mc27 mk27 (fun _ _ _ _ _ _ us hl => match us, hl with | [_, _], _ => rfl),
   ⟨c_NoLand, ⟨⟨xq_NoLand⟩, xm_NoLand⟩, PySem.W.mg_of X G xa_NoLand⟩,
   def_mk X G a0 l0 c0 k0 (fun _ _ _ _ _ _ us hl => match us, hl with | [_], _ => rfl),
   def_mk X G a1 l1 c1 k1 (fun _ _ _ _ _ _ us hl => match us, hl with | [_], _ => rfl),
   def_mk X G a2 l2 c2 k2 (fun _ _ _ _ _ _ us hl => match us, hl with | [_], _ => rfl),
   def_mk X G a3 l3 c3 k3 (fun _ _ _ _ _ _ us hl => match us, hl with | [_], _ => rfl),
   def_mk X G a4 l4 c4 k4 (fun _ _ _ _ _ _ us hl => match us, hl with | [_], _ => rfl),
   def_mk X G a5 l5 c5 k5 (fun _ _ _ _ _ _ us hl => match us, hl with | [_, _], _ => rfl),
   def_mk X G a6 l6 c6 k6 (fun _ _ _ _ _ _ us hl => match us, hl with | [_, _], _ => rfl),
   def_mk X G a7 l7 c7 k7 (fun _ _ _ _ _ _ us hl => match us, hl with | [_, _], _ => rfl),
   def_mk X G a8 l8 c8 k8 (fun _ _ _ _ _ _ us hl => match us, hl with | [_], _ => rfl),
   def_mk X G a9 l9 c9 k9 (fun _ _ _ _ _ _ us hl => match us, hl with | [_], _ => rfl),
   def_mk X G a10 l10 c10 k10 (fun _ _ _ _ _ _ us hl => match us, hl with | [_], _ => rfl),
   def_mk X G a11 l11 c11 k11 (fun _ _ _ _ _ _ us hl => match us, hl with | [_, _, _], _ => rfl),
   def_mk X G a12 l12 c12 k12 (fun _ _ _ _ _ _ us hl => match us, hl with | [_, _], _ => rfl),
   def_mk X G a13 l13 c13 k13 (fun _ _ _ _ _ _ us hl => match us, hl with | [_, _], _ => rfl),
   def_mk X G a14 l14 c14 k14 (fun _ _ _ _ _ _ us hl => match us, hl with | [_, _], _ => rfl),
   def_mk X G a15 l15 c15 k15 (fun _ _ _ _ _ _ us hl => match us, hl with | [_, _], _ => rfl),
   def_mk X G a16 l16 c16 k16 (fun _ _ _ _ _ _ us hl => match us, hl with | [_, _], _ => rfl),
   def_mk X G a17 l17 c17 k17 (fun _ _ _ _ _ _ us hl => match us, hl with | [_, _], _ => rfl),
   def_mk X G a18 l18 c18 k18 (fun _ _ _ _ _ _ us hl => match us, hl with | [_, _], _ => rfl),
   def_mk X G a19 l19 c19 k19 (fun _ _ _ _ _ _ us hl => match us, hl with | [_], _ => rfl),
   def_mk X G a20 l20 c20 k20 (fun _ _ _ _ _ _ us hl => match us, hl with | [_], _ => rfl),
   def_mk X G a21 l21 c21 k21 (fun _ _ _ _ _ _ us hl => match us, hl with | [_], _ => rfl),
   def_mk X G a22 l22 c22 k22 (fun _ _ _ _ _ _ us hl => match us, hl with | [_], _ => rfl),
   def_mk X G a23 l23 c23 k23 (fun _ _ _ _ _ _ us hl => match us, hl with | [_], _ => rfl),
   def_mk X G a24 l24 c24 k24 (fun _ _ _ _ _ _ us hl => match us, hl with | [_], _ => rfl),
   def_mk X G a25 l25 c25 k25 (fun _ _ _ _ _ _ us hl => match us, hl with | [_], _ => rfl),
   def_mk X G a26 l26 c26 k26 (fun _ _ _ _ _ _ us hl => match us, hl with | [_], _ => rfl),
   def_mk X G a27 l27 c27 k27 (fun _ _ _ _ _ _ us hl => match us, hl with | [_, _], _ => rfl),
   def_mk X G a28 l28 c28 k28 (fun _ _ _ _ _ _ us hl => match us, hl with | [_, _], _ => rfl),
   def_mk X G a29 l29 c29 k29 (fun _ _ _ _ _ _ us hl => match us, hl with | [_, _], _ => rfl),
   def_mk X G a30 l30 c30 k30 (fun _ _ _ _ _ _ us hl => match us, hl with | [_], _ => rfl),
   def_mk X G a31 l31 c31 k31 (fun _ _ _ _ _ _ us hl => match us, hl with | [_], _ => rfl),
   def_mk X G a32 l32 c32 k32 (fun _ _ _ _ _ _ us hl => match us, hl with | [_], _ => rfl),
   def_mk X G a33 l33 c33 k33 (fun _ _ _ _ _ _ us hl => match us, hl with | [_, _, _], _ => rfl),
   def_mk X G a34 l34 c34 k34 (fun _ _ _ _ _ _ us hl => match us, hl with | [_, _, _], _ => rfl),
   def_mk X G a35 l35 c35 k35 (fun _ _ _ _ _ _ us hl => match us, hl with | [_, _], _ => rfl),
   def_mk X G a36 l36 c36 k36 (fun _ _ _ _ _ _ us hl => match us, hl with | [_, _], _ => rfl),
   def_mk X G a37 l37 c37 k37 (fun _ _ _ _ _ _ us hl => match us, hl with | [_, _], _ => rfl),
   def_mk X G a38 l38 c38 k38 (fun _ _ _ _ _ _ us hl => match us, hl with | [_], _ => rfl),
   glob_mk X G g0 r0,
   glob_mk X G g1 r1,
   glob_mk X G g2 r2,
   glob_mk X G g3 r3,
   glob_mk X G g4 r4,
   glob_mk X G g5 r5,
   glob_mk X G g6 r6,
   glob_mk X G g7 r7,
   glob_mk X G g8 r8,
   PySem.W.mg_none_of X G z0,
   PySem.W.mg_none_of X G z1,
   PySem.W.mg_none_of X G z2,
   PySem.W.mg_none_of X G z3,
   PySem.W.mg_none_of X G z4,
   PySem.W.mg_none_of X G z5,
   PySem.W.mg_none_of X G z6,
   PySem.W.mg_none_of X G z7,
   PySem.W.mg_none_of X G z8,
   PySem.W.mg_none_of X G z9,
   PySem.W.mg_none_of X G z10,
   PySem.W.mg_none_of X G z11,
   PySem.W.mg_none_of X G z12⟩
end K11
namespace PySem.W.Fast
def tw3754545619442355214 := 0
def tw5765906433141982407 := 0
def tw3047124507055219426 := 0
def tw16940041717149351415 := 0
def tw124878403884016206 := 0
def tw17744044624170423149 := 0
def tw15546830644506329332 := 0
def tw10480837452026215565 := 0
def tw14751672461937456919 := 0
def tw11632116786117198839 := 0
def tw1048804557983493634 := 0
def tw13898468604669538140 := 0
def tw4406886585555219248 := 0
def tw3714491170834771550 := 0
def tw1104884712684016483 := 0
def tw15177355924383654742 := 0
def tw2936375620418976932 := 0
def tw13139674500148554463 := 0
def tw12895607532223368497 := 0
def tw3821743129103087136 := 0
def tw4463041077815863986 := 0
def tw5921202223479438898 := 0
def tw11417973532419647 := 0
def tw14381072417015202068 := 0
def tw13912703979026106506 := 0
def tw1276734390648746978 := 0
def tw10667784955790829380 := 0
def tw16431982664021093279 := 0
def tw11579882327344608716 := 0
def tw4114646482571436558 := 0
def tw5172293069432529916 := 0
def tw14766230725793367929 := 0
def tw4908652708022344038 := 0
def tw11284926924580080888 := 0
def tw5713242137490428324 := 0
def tw1896698333053030492 := 0
def tw6529181171657679512 := 0
def tw8429685408354431133 := 0
def tw16478987497778929385 := 0
def tw11778710853575234651 := 0
def tw5973723165839979133 := 0
def tw11573174930512397115 := 0
def tw6950969850381220323 := 0
def tw8437193732812443161 := 0
def tw8710760431303065269 := 0
def tw1230668445250415514 := 0
def tw6684069481891311587 := 0
def tw17323072922773351481 := 0
def tw2913373239674756820 := 0
def tw12784160303259871480 := 0
def tw3581793895578614398 := 0
def tw7778213343874886492 := 0
def tw17459911603879160997 := 0
def tw14241388879358117712 := 0
def tw8362999315774139101 := 0
def tw12068316551044158725 := 0
def tw6690560891443808576 := 0
def tw7970702187474588058 := 0
def tw2992827186425918427 := 0
def tw15739952621355210180 := 0
def tw10190460167753663281 := 0
def tw7244159934144951565 := 0
def tw2294944612110477739 := 0
def tw5933215299796181282 := 0
def tw3935438022852354739 := 0
def tw2225187315969822265 := 0
def tw5227494561957457899 := 0
def tw5540672290305202406 := 0
def tw9763484507317237943 := 0
def tw18366278062987771200 := 0
def tw13262356458183584196 := 0
def tw16395000980283295144 := 0
def tw9456358131148142796 := 0
def tw17964171697967696987 := 0
def tw349194887673581826 := 0
def tw6742937882317583366 := 0
def tw15142976328225093412 := 0
def tw2214907399489714078 := 0
def tw16654112875647422077 := 0
def tw4607278654146610238 := 0
def tw2009605049594499072 := 0
def tw11176613029447529865 := 0
def tw11877329359309660163 := 0
def tw10547359751001676019 := 0
def tw6547940713562200443 := 0
def tw5680065546242980852 := 0
def tw18330908552261677843 := 0
def tw10592608997156549946 := 0
def tw8889509537598927132 := 0
def tw10214865611835049526 := 0
def tw11648711526769588506 := 0
def tw18191039682153417490 := 0
def tw3993456718575166890 := 0
def tw11761522889720586771 := 0
def tw16646407310064754260 := 0
def tw12953094735590194341 := 0
def tw279764827510328638 := 0
def tw6698228965918095981 := 0
def tw447650036609674826 := 0
def tw18113687830041225273 := 0
def tw4161798938432149177 := 0
def tw10215757122211308391 := 0
def tw3767745133018586621 := 0
def tw2587380658202745468 := 0
def tw12737313081562113756 := 0
def tw10099384647555435782 := 0
def tw14089319529438629764 := 0
def tw6379066979987608330 := 0
def tw18263199263716003478 := 0
def tw6080834041870079670 := 0
def tw8433138387550604582 := 0
def tw11595849612156830484 := 0
def tw18199715467041115933 := 0
def tw10536201111264275044 := 0
def tw6311281098868294362 := 0
def tw6136255850752803595 := 0
def tw4104707422809103731 := 0
def tw6322968723624637226 := 0
def tw13836013682482740930 := 0
def tw5373961338418093049 := 0
def tw5813193134941037830 := 0
def tw13290583537703368089 := 0
def tw9982497934386380644 := 0
def tw6777476375569839102 := 0
def tw4040548111185809770 := 0
def tw10192803380017045674 := 0
def tw12034197021149952797 := 0
def tw2407100602071414188 := 0
def tw8510414221211175513 := 0
def tw3583489738644257186 := 0
def tw2514178744443656187 := 0
def tw3027034105586787580 := 0
def tw9370946622905407177 := 0
def tw10960800966123679397 := 0
def tw9260895130080834764 := 0
def tw10655231473335894881 := 0
def tw10596306233196499584 := 0
def tw7014779852174324653 := 0
def tw14416006993942887122 := 0
def tw16534517365210130401 := 0
def tw2262924809786050358 := 0
def tw15279034319355198515 := 0
def tw10060724796470262685 := 0
def tw16538333012883553036 := 0
def tw4001404129702523140 := 0
def tw277599631275367354 := 0
def tw16424014158594409911 := 0
def tw1012616181710229238 := 0
def tw5762287618450332696 := 0
def tw14319875573467733393 := 0
def tw14644449198744299389 := 0
def tw3213666271150788215 := 0
def tw5498755318784927754 := 0
def tw7891697849249265698 := 0
def tw96614411569223985 := 0
def tw4585908900507217118 := 0
def tw2447069616794653045 := 0
def tw2411280056069828962 := 0
def tw3262315274986985061 := 0
def tw15446369231420677635 := 0
def tw3233687503004235380 := 0
def tw2764898513829664576 := 0
def tw10199885792546066957 := 0
def tw189959343062295956 := 0
def tw6692546272361322103 := 0
def tw3178273872499855477 := 0
def tw8927951146645294743 := 0
def tw14840900605440888571 := 0
def tw18148914054751504749 := 0
def tw17234290809795254423 := 0
def tw7827364523156170445 := 0
def tw1662387834717207231 := 0
def tw6678438345992225094 := 0
def tw8786385798633186941 := 0
def tw18210170458831236710 := 0
def tw10112458029483047274 := 0
def tw3592401946307728251 := 0
def tw14800149362140051429 := 0
def tw5649571789515602387 := 0
def tw6465884553421545392 := 0
def tw4443996208103182616 := 0
def tw15061672398767135662 := 0
def tw712786660679148601 := 0
def tw4126189817827562175 := 0
def tw1021122303422346654 := 0
def tw1532832322189839007 := 0
def tw12625036792713144913 := 0
def tw781592327059897195 := 0
def tw4251129755255959413 := 0
def tw7105020637282065757 := 0
def tw15832845796939208992 := 0
def tw9766874784806345548 := 0
def tw9443131365353249963 := 0
def tw3015339988173721076 := 0
def tw17214474903015558378 := 0
def tw6406688603928338992 := 0
def tw15572646403959769102 := 0
def tw16051322968842401876 := 0
def tw4026236045880145166 := 0
def tw4929170318875804633 := 0
def tw11972206365023180853 := 0
def tw17252772412831385043 := 0
def tw929951073463812590 := 0
def tw4431387905089903417 := 0
def tw1812211650463689451 := 0
def tw380391205854045485 := 0
def tw15426198164547176433 := 0
def tw7048283985550870434 := 0
def tw10726989745443862652 := 0
def tw14573137415508684028 := 0
def tw16485925228114362624 := 0
def tw7525356685166278290 := 0
def tw14739453834966139132 := 0
def tw17679592566515637075 := 0
def tw17470950512848541885 := 0
def tw13402648021060274390 := 0
def tw7366292542575366013 := 0
def tw11579009796929169843 := 0
def tw12553966752896246506 := 0
def tw18436263044788871014 := 0
def tw16277960881690546952 := 0
def tw10650778836216124321 := 0
def tw13819374397904745824 := 0
def tw3168188590587641673 := 0
def tw1274685904275046206 := 0
def tw3844787447147480250 := 0
def tw9682482785250394352 := 0
def tw9978488649007502301 := 0
def tw13086467613740595687 := 0
def tw3974733686564750642 := 0
def tw5250452393929425904 := 0
def tw13708926390725273763 := 0
def tw6023980021733300939 := 0
def tw6153654240883115427 := 0
def tw17088131789916517174 := 0
def tw9586941924655940991 := 0
def tw16192995588541191535 := 0
def tw7534882519381852359 := 0
def tw4856850190064036977 := 0
def tw10377652846095754393 := 0
def tw16843900248221204352 := 0
def tw6079455318537616117 := 0
def tw6180873403835591056 := 0
def tw6786941541117183815 := 0
def tw8636695006886016694 := 0
def tw10734854262866574136 := 0
def tw3163713209197389238 := 0
def tw13373007025316003313 := 0
def tw6408656855980095841 := 0
def tw2243149361435148450 := 0
def tw12481114515442996303 := 0
def tw2153583578738983978 := 0
def tw4868262286611023064 := 0
def tw7765666765477102157 := 0
def tw3609427607722593629 := 0
def tw3343935739948541469 := 0
def tw10895936393014908289 := 0
def tw2286985012039441459 := 0
def tw6997600561212860369 := 0
def tw5041082901625100870 := 0
def tw2344085391765452448 := 0
def tw2868532123754433192 := 0
def tw14459458300075624896 := 0
def tw2451485657426153937 := 0
def tw8806133388921776466 := 0
def tw1497165263192141339 := 0
def tw7191192753001723541 := 0
def tw14219720025192022190 := 0
def tw16969864607791086431 := 0
def tw10291831677347307789 := 0
def tw11060945086808921792 := 0
def tw2145387274871886231 := 0
def tw8353109142672474456 := 0
def tw6634656601548412139 := 0
def tw12642021523444202473 := 0
def tw15045625583644457614 := 0
def tw13546159850720860508 := 0
def tw4350494843774195328 := 0
def tw16883172227339787193 := 0
def tw8992264727909361319 := 0
def tw13987509101646671702 := 0
def tw16828631201087533282 := 0
def tw18406950777641230550 := 0
def tw13866127574623922605 := 0
def tw6776211899384615455 := 0
def tw2634314645947052832 := 0
def tw2780139027222818806 := 0
def tw13032908812618226742 := 0
def tw15332345934399762504 := 0
def tw17057286098613351661 := 0
def tw13166921931561316060 := 0
def tw1106247974529814675 := 0
def tw8554262100227667922 := 0
def tw317213370061730723 := 0
def tw18092786476050476431 := 0
def tw16248132166294956668 := 0
def tw5848417671896504461 := 0
def tw14099850495345876525 := 0
def tw5048477310845508480 := 0
def tw15342601820256597473 := 0
def tw8484033734071665797 := 0
def tw17981128677062832193 := 0
def tw16312842918355041657 := 0
def tw11195407492486831740 := 0
def tw12750301980510257353 := 0
def tw16715527372683840561 := 0
def tw5361343310174017927 := 0
def tw997610482968858139 := 0
def tw2117598946320098055 := 0
def tw12897663142726357934 := 0
def tw18031282625355033378 := 0
def tw7915682241164154883 := 0
def tw7101859886295875436 := 0
def tw4103662573953110660 := 0
def tw295801194641031229 := 0
def tw1566272369079482371 := 0
def tw1067836021700904101 := 0
def tw3353490084439195891 := 0
def tw6380438094968264906 := 0
def tw4120354143995092807 := 0
def tw12029305487721920527 := 0
def tw14869380255399449420 := 0
def tw2912339016785325481 := 0
def tw13813121744830267160 := 0
def tw2599652153426538322 := 0
def tw8238796841247764235 := 0
def tw4963554883010619210 := 0
def tw3731627851003144291 := 0
def tw15103158932245117543 := 0
def tw12300213153284988083 := 0
def tw10997382891728273027 := 0
def tw15697547821184378370 := 0
def tw6214927913416796444 := 0
def tw9054658081226432785 := 0
def tw85875627615695022 := 0
def tw14515709565118686606 := 0
def tw13668654254259061616 := 0
def tw16903439915282493640 := 0
def tw6419407185369812233 := 0
def tw306214389740729655 := 0
def tw1062045267679553910 := 0
def tw270619776799867761 := 0
def tw9507892560693342029 := 0
def tw6564930652541854092 := 0
def tw636634491817725666 := 0
def tw8964544833218920949 := 0
def tw5298808967392706543 := 0
def tw1421053294041167212 := 0
def tw6707214265529241497 := 0
def tw16536081457538037170 := 0
def tw10024891724969907135 := 0
def tw17801999902398091524 := 0
def tw7222014705276425198 := 0
def tw17898473683243496762 := 0
def tw625003094467453307 := 0
def tw14218583677348499347 := 0
def tw10682259081393767755 := 0
def tw9844191203689505893 := 0
def tw4465050156267764617 := 0
def tw1212605997948175892 := 0
def tw75319760479991130 := 0
def tw5884073616916277424 := 0
def tw3856019869746251832 := 0
def tw11948495968536025157 := 0
def tw13946146207952557434 := 0
def tw17862834271631178813 := 0
def tw7821398461820111021 := 0
def tw16508448580521919371 := 0
def tw11685878323987843644 := 0
def tw7440354705206001220 := 0
def tw4280296984229609589 := 0
def tw16373833847939791870 := 0
def tw11244565720251347281 := 0
def tw13650354901425212015 := 0
def tw16521423907867203364 := 0
def tw3772401483620456568 := 0
def tw309031646219395703 := 0
def tw15883611355179360281 := 0
def tw8914838953145040605 := 0
def tw13463374163703892158 := 0
def tw17902297107332915637 := 0
def tw10648288065023242190 := 0
def tw18234323478465161064 := 0
def tw12898893304498592761 := 0
def tw2974642641275650622 := 0
def tw1991260778953191431 := 0
def tw17114386174514228868 := 0
def tw8801232263066357148 := 0
def tw850597932943547920 := 0
def tw11212874968291399605 := 0
def tw9288319359672828690 := 0
def tw12111107000640865974 := 0
def tw11131389437182866792 := 0
def tw1941217300271304812 := 0
def tw6938606962545082496 := 0
def tw1724222189343837968 := 0
def tw10229814229425279668 := 0
def tw5657212904899338395 := 0
def tw6617059191738273183 := 0
def tw17622060769050099878 := 0
def tw9861287354107919165 := 0
def tw10150801092023150356 := 0
def tw1611912519272009208 := 0
def tw16620195387030373817 := 0
def tw2655668691534590118 := 0
def tw10804280283812155477 := 0
def tw2563529836261505900 := 0
def tw7156953090578412754 := 0
def tw10174612393041984081 := 0
def tw14195446393924254760 := 0
def tw2495936464150719316 := 0
def tw15082397980394406685 := 0
def tw13660116354841997111 := 0
def tw18057028235356403568 := 0
def tw14651536498860200226 := 0
def tw4735203579084309130 := 0
def tw4007963758428709314 := 0
def tw5398923288257396002 := 0
def tw7641481216797762025 := 0
def tw15052975640982780555 := 0
def tw7112087557214911589 := 0
def tw9363509866527881274 := 0
def tw14189386163587019856 := 0
def tw17054233503500190131 := 0
def tw9338773268341766801 := 0
def tw6608266313502788953 := 0
def tw14670514826310786832 := 0
def tw15095651500628653027 := 0
def tw8502638342852391595 := 0
def tw15897209578030812507 := 0
def tw4801039326855836548 := 0
def tw2393602645720049553 := 0
def tw10215598414995611993 := 0
def tw4930806989251371531 := 0
def tw3036218081630296823 := 0
def tw4005900291419979645 := 0
def tw12513670483502598754 := 0
def tw14197774518705751085 := 0
def tw3416541636707052142 := 0
def tw11416085755098944494 := 0
def tw9484411447107023426 := 0
def tw8288427732129577261 := 0
def tw12957576806076159555 := 0
def tw1782224333728772743 := 0
def tw9559671312902563657 := 0
def tw14368191867595189109 := 0
def tw7211085206638157578 := 0
def tw13907916552088711488 := 0
def tw908879818961541216 := 0
def tw9120531166944720342 := 0
def tw8410490324172079160 := 0
def tw7839688647247316380 := 0
def tw6285192566320263727 := 0
def tw549999429185065880 := 0
def tw14592705423134677225 := 0
def tw12795468650508209009 := 0
def tw7536185487111758133 := 0
def tw13948015543278958360 := 0
def tw11490015132432391177 := 0
def tw7313558082301313609 := 0
def tw16581295996813951461 := 0
def tw13574503243484488033 := 0
def tw4772304038451606231 := 0
def tw13890508097456693113 := 0
def tw15647731740720551771 := 0
def tw17052974897696394796 := 0
def tw17397858927974269326 := 0
def tw6920997661160941818 := 0
def tw9284783969524520873 := 0
def tw8512885379822995245 := 0
def tw5144419236865574869 := 0
def tw5438915179147056764 := 0
def tw4944271772924711127 := 0
def tw10960146924635791465 := 0
def tw15639244628650671825 := 0
def tw4949906520197149216 := 0
def tw15385023035231191955 := 0
def tw8746542656975229251 := 0
def tw13395260243795869488 := 0
def tw17196746167740083521 := 0
def tw3341729289265584643 := 0
def tw14108971113363369328 := 0
def tw8617854327172299151 := 0
def tw13984115041765748059 := 0
def tw12744000391369079988 := 0
def tw11198842126532920538 := 0
def tw694337253435711624 := 0
def tw11967564394707060448 := 0
def tw13634171608405854749 := 0
def tw9818262505691534559 := 0
def tw389095075940240045 := 0
def tw6142351689760094222 := 0
def tw7478382247603975358 := 0
def tw8610421385300816616 := 0
def tw14693318831277968638 := 0
def tw688760722109029567 := 0
def tw13405499432290725155 := 0
def tw12343089727953419925 := 0
def tw3229236448315443542 := 0
def tw65803702435618718 := 0
def tw3216046248375188615 := 0
def tw6059263159811291120 := 0
def tw9076106043099228524 := 0
def tw6901357115696863674 := 0
def tw6094797259964589134 := 0
def tw9118052402640172697 := 0
def tw3154124138394343969 := 0
def tw15089500768446739660 := 0
def tw17060019520421983857 := 0
def tw8168281283047951539 := 0
def tw18159999768243130846 := 0
def tw2307710981535102690 := 0
def tw2765867032795546731 := 0
def tw11963217544360405683 := 0
def tw8303168070294529750 := 0
def tw1540485892858744239 := 0
def tw5031565371519038368 := 0
def tw11431248128138014186 := 0
def tw8777205858885143915 := 0
def tw3529396290759189533 := 0
def tw802264920505501358 := 0
def tw7890084554102103290 := 0
def tw17308543625504729221 := 0
def tw13213798496750149779 := 0
def tw10241532501179433288 := 0
def tw15639211005969567784 := 0
def tw10489586045547665566 := 0
def tw5361485187181442349 := 0
def tw2241566440419130224 := 0
def tw8184168281717096180 := 0
def tw8925308363933511886 := 0
def tw14228607082283720240 := 0
def tw11754025900760827139 := 0
def tw15987571880732969729 := 0
def tw2743919711690758113 := 0
def tw5797497025517161510 := 0
def tw4979347198486802531 := 0
def tw13548933931208399991 := 0
def tw5397678374017820942 := 0
def tw10037819962426686456 := 0
def tw5044258352363133976 := 0
def tw7948512523530878730 := 0
def tw13469652202916391048 := 0
def tw7906817475643190933 := 0
def tw8733342634865569530 := 0
def tw2754994358174436463 := 0
def tw3687139550100858499 := 0
def tw14678320449336856071 := 0
def tw8366713365333626605 := 0
def tw8603287227495349038 := 0
def tw17651332659449854697 := 0
def tw15748644417099109057 := 0
def tw6777634940076319508 := 0
def tw2693614867732922074 := 0
def tw11958254987726061330 := 0
def tw888644245422874877 := 0
def tw13696886283874866111 := 0
def tw2515848322888895238 := 0
def tw4951753373795422501 := 0
def tw17315693965173125541 := 0
def tw11297923611307396010 := 0
def tw1389899152337194677 := 0
def tw10011801061977082767 := 0
def tw17993484987591597822 := 0
def tw6038970098549881081 := 0
def tw8989250972417647034 := 0
def tw4483154605328106098 := 0
def tw7966654477418894866 := 0
def tw17186219831000542598 := 0
def tw14407459904972137505 := 0
def tw5088705525021365015 := 0
def tw16824345442360083019 := 0
def tw16365617255133250814 := 0
def tw6787502218101816050 := 0
def tw9416450564184441318 := 0
def tw2189175801463318598 := 0
def tw12061497032017079207 := 0
def tw4873941553079614827 := 0
def tw16328243717204205751 := 0
def tw149308032293763941 := 0
def tw1016602835891420867 := 0
def tw11617732911902736278 := 0
def tw12388906855505001625 := 0
def tw9655204527755009700 := 0
def tw2699105302342621977 := 0
def tw9102146053023702536 := 0
def tw18349419942196545495 := 0
def tw10452998374102257363 := 0
def tw5164465966661092541 := 0
def tw10375494787909173934 := 0
def tw3691374909653227555 := 0
def tw2580749206897954038 := 0
def tw9306016619844993445 := 0
def tw1708104144049544678 := 0
def tw10158238640919744911 := 0
def tw1711161976770654150 := 0
def tw11748451142691436181 := 0
def tw16646524954094600316 := 0
def tw3337312589454384683 := 0
def tw13041133120458323486 := 0
def tw7643389493642879697 := 0
def tw8054715670151000103 := 0
def tw10323807295692777643 := 0
def tw14907439668076089655 := 0
def tw3410417957190457175 := 0
def tw11037820439189373174 := 0
def tw16037413148255226100 := 0
def tw2050647855908454481 := 0
def tw17894238228200016534 := 0
def tw480574561127712021 := 0
def tw14286481542436778732 := 0
def tw11481112661571406137 := 0
def tw18221896415154024039 := 0
def tw16197133571822935599 := 0
def tw17893725835967879097 := 0
def tw12646402681282314711 := 0
def tw15072634874799209262 := 0
def tw6940274390112498206 := 0
def tw2624595021529801851 := 0
def tw1914070226321239404 := 0
def tw17810794410706199309 := 0
def tw3525809084712442438 := 0
def tw2806543627899498915 := 0
def tw2226478904175867185 := 0
def tw6831518327976720846 := 0
def tw3776167606589768300 := 0
def tw403662922863435304 := 0
def tw11998557147182618688 := 0
def tw8388423071114843565 := 0
def tw10602233044114755517 := 0
def tw18247369769957137610 := 0
def tw277652625419209932 := 0
def tw10027494712117806014 := 0
def tw12635793902258894116 := 0
def tw13225484653365289908 := 0
def tw17422555304028089029 := 0
def tw10368395638050830424 := 0
def tw16526146159975567599 := 0
def tw7439017482384551601 := 0
def tw9633068697935772224 := 0
def tw13825873083101989154 := 0
def tw6096567637048632267 := 0
def tw17300645558787530785 := 0
def tw10005015075658959006 := 0
def tw12257728686402130440 := 0
def tw15619555394259293131 := 0
def tw11266753205764217396 := 0
def tw5646339096623003255 := 0
def tw295346281564285459 := 0
def tw8064557619463460749 := 0
def tw5075996736598976392 := 0
def tw12588038101636927719 := 0
def tw16452289709639696150 := 0
def tw11060416475543183526 := 0
def tw9720679238332789964 := 0
def tw16621958600464739062 := 0
def tw5025668903644149660 := 0
def tw6910668945428860620 := 0
def tw3418237028928028043 := 0
def tw2999281628225783230 := 0
def tw13465071488489260038 := 0
def tw11822533044837554992 := 0
def tw1579669019545462481 := 0
def tw8177467374104309117 := 0
def tw2108385501091091460 := 0
def tw1381362763908167645 := 0
def tw3370951723290394877 := 0
def tw6408934526918433015 := 0
def tw15276236619838144701 := 0
def tw2228031168404337651 := 0
def tw5920713585855715491 := 0
def tw7853541842017776938 := 0
def tw10844428126556092072 := 0
def tw11416088273584448847 := 0
def tw3450838855708220385 := 0
def tw13536996890183650300 := 0
def tw1408944250710918070 := 0
def tw6624738312792417904 := 0
def tw3241066419349737055 := 0
def tw9270643450886907844 := 0
def tw18201686849660049474 := 0
def tw6941980203906025867 := 0
def tw8385779810987289083 := 0
def tw6121135750957400471 := 0
def tw11335379837411653278 := 0
def tw12204627296276085087 := 0
def tw2708654119524277418 := 0
def tw10278629591319874666 := 0
def tw8181674417417458232 := 0
def tw12897756023593483091 := 0
def tw2138875661522790957 := 0
def tw6775529162701378845 := 0
def tw13854672615042056098 := 0
def tw2192633612503374012 := 0
def tw12487226881203120314 := 0
def tw12803902821344735885 := 0
def tw14868509360819173848 := 0
def tw4208888477346446913 := 0
def tw2957862974034875738 := 0
def tw14657481160057882062 := 0
def tw11764873096902592924 := 0
def tw3015378385682210427 := 0
def tw1469277113409925234 := 0
def tw3115073247507911724 := 0
def tw929454939508145303 := 0
def tw17654100458474277094 := 0
def tw7345436900958117882 := 0
def tw17100036144774197358 := 0
def tw16947975099223156543 := 0
def tw7365067116744399447 := 0
def tw13041697521603871612 := 0
def tw8064839504300127329 := 0
def tw13893841737620978639 := 0
def tw18063747468305209318 := 0
def tw10268169741024941816 := 0
def tw12202798599032883902 := 0
def tw11878799139722223330 := 0
def tw5575312847750613131 := 0
def tw10862969897256593770 := 0
def tw8660462140715848403 := 0
def tw16021522703185710957 := 0
def tw15218334610090995540 := 0
def tw4766466267671894535 := 0
def tw563463776445658070 := 0
def tw16699850193912552125 := 0
def tw8027445424333827196 := 0
def tw7909954361621649731 := 0
def tw14422405683105176268 := 0
def tw2537400109085715179 := 0
def tw13764774736179405235 := 0
def tw7709531151337556851 := 0
def tw16460823063544668801 := 0
def tw4709075137199463439 := 0
def tw580754872032782380 := 0
def tw15237928001761214359 := 0
def tw5687437069304692588 := 0
def tw4709995454062656031 := 0
def tw5556054760171937705 := 0
def tw13850002205907351164 := 0
def tw1321841968842997854 := 0
def tw9369011999311798516 := 0
def tw13529667978390147094 := 0
def tw5348184144305321437 := 0
def tw10294329841031845262 := 0
def tw12517875155037564328 := 0
def tw8112934079908888359 := 0
def tw1978390093207444009 := 0
def tw11214928757208660318 := 0
def tw6306810620010591465 := 0
def tw9780927513249888660 := 0
def tw4172475547029474863 := 0
def tw14667110632840396933 := 0
def tw4114666026241797516 := 0
def tw15980760475324095523 := 0
def tw1567648636107088901 := 0
def tw15942769495272884126 := 0
def tw8657065546420932638 := 0
def tw17390782128958813120 := 0
def tw17590953346776854915 := 0
def tw11354343426546121631 := 0
def tw6946794452649021439 := 0
def tw5485161365591344246 := 0
def tw7532069109531203255 := 0
def tw7149065272296326703 := 0
def tw7307013352734780102 := 0
def tw4281464416414609202 := 0
def tw3619263872488556409 := 0
def tw8272407240371133677 := 0
def tw14355298980787969700 := 0
def tw18360325479593536750 := 0
def tw14552275818468686829 := 0
def tw38023976929034946 := 0
def tw16476960236946615257 := 0
def tw2683332992937181377 := 0
def tw7609085759845156167 := 0
def tw10939689556823301168 := 0
def tw7855702916619068630 := 0
def tw15586511129251784145 := 0
def tw13193721412503827853 := 0
def tw4226688325045399452 := 0
def tw11075016285605671034 := 0
def tw3518309314731736295 := 0
def tw6640239535436426545 := 0
def tw14868281985525598997 := 0
def tw9372195707715932460 := 0
def tw7728368979673491956 := 0
def tw8989607814642151013 := 0
def tw11743322374032025947 := 0
def tw4456625315334637460 := 0
def tw483565926274258666 := 0
def tw11268092847530215865 := 0
def tw5525695639926804928 := 0
def tw11261537721297345497 := 0
def tw13040837458688741788 := 0
def tw11326577532803360133 := 0
def tw10329414789926611565 := 0
def tw8910706760662732720 := 0
def tw2698699886675613953 := 0
def tw14078675176019656750 := 0
def tw16566809718196855029 := 0
def tw3548768326418447537 := 0
def tw11080709763469171664 := 0
def tw6518379093153565302 := 0
def tw8183331083602393382 := 0
def tw10307375437562635496 := 0
def tw1293693519058185893 := 0
def tw13951311754443058017 := 0
def tw9332375777766308274 := 0
def tw12947004485757109318 := 0
def tw2517340762625558292 := 0
def tw2623709131602381543 := 0
def tw5546136042832133899 := 0
def tw7273993152158816739 := 0
def tw5767955106905377593 := 0
def tw12664115284763617392 := 0
end PySem.W.Fast
open PySem PySem.W PyProof.Rows
set_option maxRecDepth 100000 in
set_option maxHeartbeats 0 in
theorem PySem.Challenge.cw_dykemoot_k11_lands_written_and_read_holds : PySem.Challenge.rw_dykemoot_k11_lands_written_and_read.Holds := by
  w_on; o_law; k_head; (case hw => w_witness2)
  k_fill
  refine L2.walk_law (l := PySem.Challenge.rw_dykemoot_k11_lands_written_and_read) 12 ⟨rfl, by decide, by decide⟩ rfl rfl (fun w h Y => PySem.W.kIn_of Y) ?F
  case F =>
    intro w mg fa h KX G hmg
    refine' K11.law_mk hmg (K11.txt_mk KX G ?xaC ?xpgC ?xhdC ?xpoC ?xsaC ?xmkC ?xkpC ?xn_field_rows ?xn_dyke_rows ?xiha ?xihn ?xiht ?xihm ?xma18 ?xmi18 ?xml18 ?xmc18 ?xmk18 ?xma19 ?xmi19 ?xml19 ?xmc19 ?xmk19 ?xma20 ?xmi20 ?xml20 ?xmc20 ?xmk20 ?xma21 ?xmi21 ?xml21 ?xmc21 ?xmk21 ?xma22 ?xmi22 ?xml22 ?xmc22 ?xmk22 ?xma23 ?xmi23 ?xml23 ?xmc23 ?xmk23 ?xma24 ?xmi24 ?xml24 ?xmc24 ?xmk24 ?xma25 ?xmi25 ?xml25 ?xmc25 ?xmk25 ?xma26 ?xmi26 ?xml26 ?xmc26 ?xmk26 ?xma27 ?xmi27 ?xml27 ?xmc27 ?xmk27 ?xxa_NoLand ?xxq_NoLand ?xxm_NoLand ?xa0 ?xl0 ?xc0 ?xk0 ?xa1 ?xl1 ?xc1 ?xk1 ?xa2 ?xl2 ?xc2 ?xk2 ?xa3 ?xl3 ?xc3 ?xk3 ?xa4 ?xl4 ?xc4 ?xk4 ?xa5 ?xl5 ?xc5 ?xk5 ?xa6 ?xl6 ?xc6 ?xk6 ?xa7 ?xl7 ?xc7 ?xk7 ?xa8 ?xl8 ?xc8 ?xk8 ?xa9 ?xl9 ?xc9 ?xk9 ?xa10 ?xl10 ?xc10 ?xk10 ?xa11 ?xl11 ?xc11 ?xk11 ?xa12 ?xl12 ?xc12 ?xk12 ?xa13 ?xl13 ?xc13 ?xk13 ?xa14 ?xl14 ?xc14 ?xk14 ?xa15 ?xl15 ?xc15 ?xk15 ?xa16 ?xl16 ?xc16 ?xk16 ?xa17 ?xl17 ?xc17 ?xk17 ?xa18 ?xl18 ?xc18 ?xk18 ?xa19 ?xl19 ?xc19 ?xk19 ?xa20 ?xl20 ?xc20 ?xk20 ?xa21 ?xl21 ?xc21 ?xk21 ?xa22 ?xl22 ?xc22 ?xk22 ?xa23 ?xl23 ?xc23 ?xk23 ?xa24 ?xl24 ?xc24 ?xk24 ?xa25 ?xl25 ?xc25 ?xk25 ?xa26 ?xl26 ?xc26 ?xk26 ?xa27 ?xl27 ?xc27 ?xk27 ?xa28 ?xl28 ?xc28 ?xk28 ?xa29 ?xl29 ?xc29 ?xk29 ?xa30 ?xl30 ?xc30 ?xk30 ?xa31 ?xl31 ?xc31 ?xk31 ?xa32 ?xl32 ?xc32 ?xk32 ?xa33 ?xl33 ?xc33 ?xk33 ?xa34 ?xl34 ?xc34 ?xk34 ?xa35 ?xl35 ?xc35 ?xk35 ?xa36 ?xl36 ?xc36 ?xk36 ?xa37 ?xl37 ?xc37 ?xk37 ?xa38 ?xl38 ?xc38 ?xk38 ?xg0 ?xr0 ?xg1 ?xr1 ?xg2 ?xr2 ?xg3 ?xr3 ?xg4 ?xr4 ?xg5 ?xr5 ?xg6 ?xr6 ?xg7 ?xr7 ?xg8 ?xr8 ?xz0 ?xz1 ?xz2 ?xz3 ?xz4 ?xz5 ?xz6 ?xz7 ?xz8 ?xz9 ?xz10 ?xz11 ?xz12)
    (case xaC => k_is)
    (case xpgC => k_is)
    (case xhdC => k_is)
    (case xpoC => k_is)
    (case xsaC => k_is)
    (case xmkC => k_is)
    (case xkpC => k_is)
    (case xn_field_rows => k_is)
    (case xn_dyke_rows => k_is)
    (case xiha => k_is)
    (case xihn => k_is)
    (case xiht => k_is)
    (case xihm => k_is)
    (case xma18 => k_is)
    (case xmi18 => k_is)
    (case xml18 => k_is)
    (case xmc18 => k_is)
    (case xmk18 => k_is)
    (case xma19 => k_is)
    (case xmi19 => k_is)
    (case xml19 => k_is)
    (case xmc19 => k_is)
    (case xmk19 => k_is)
    (case xma20 => k_is)
    (case xmi20 => k_is)
    (case xml20 => k_is)
    (case xmc20 => k_is)
    (case xmk20 => k_is)
    (case xma21 => k_is)
    (case xmi21 => k_is)
    (case xml21 => k_is)
    (case xmc21 => k_is)
    (case xmk21 => k_is)
    (case xma22 => k_is)
    (case xmi22 => k_is)
    (case xml22 => k_is)
    (case xmc22 => k_is)
    (case xmk22 => k_is)
    (case xma23 => k_is)
    (case xmi23 => k_is)
    (case xml23 => k_is)
    (case xmc23 => k_is)
    (case xmk23 => k_is)
    (case xma24 => k_is)
    (case xmi24 => k_is)
    (case xml24 => k_is)
    (case xmc24 => k_is)
    (case xmk24 => k_is)
    (case xma25 => k_is)
    (case xmi25 => k_is)
    (case xml25 => k_is)
    (case xmc25 => k_is)
    (case xmk25 => k_is)
    (case xma26 => k_is)
    (case xmi26 => k_is)
    (case xml26 => k_is)
    (case xmc26 => k_is)
    (case xmk26 => k_is)
    (case xma27 => k_is)
    (case xmi27 => k_is)
    (case xml27 => k_is)
    (case xmc27 => k_is)
    (case xmk27 => k_is)
    (case xxa_NoLand => k_is)
    (case xxq_NoLand => k_exc)
    (case xxm_NoLand => kts_exm)
    (case xa0 => k_is)
    (case xl0 => k_is)
    (case xc0 => k_is)
    (case xk0 => k_is)
    (case xa1 => k_is)
    (case xl1 => k_is)
    (case xc1 => k_is)
    (case xk1 => k_is)
    (case xa2 => k_is)
    (case xl2 => k_is)
    (case xc2 => k_is)
    (case xk2 => k_is)
    (case xa3 => k_is)
    (case xl3 => k_is)
    (case xc3 => k_is)
    (case xk3 => k_is)
    (case xa4 => k_is)
    (case xl4 => k_is)
    (case xc4 => k_is)
    (case xk4 => k_is)
    (case xa5 => k_is)
    (case xl5 => k_is)
    (case xc5 => k_is)
    (case xk5 => k_is)
    (case xa6 => k_is)
    (case xl6 => k_is)
    (case xc6 => k_is)
    (case xk6 => k_is)
    (case xa7 => k_is)
    (case xl7 => k_is)
    (case xc7 => k_is)
    (case xk7 => k_is)
    (case xa8 => k_is)
    (case xl8 => k_is)
    (case xc8 => k_is)
    (case xk8 => k_is)
    (case xa9 => k_is)
    (case xl9 => k_is)
    (case xc9 => k_is)
    (case xk9 => k_is)
    (case xa10 => k_is)
    (case xl10 => k_is)
    (case xc10 => k_is)
    (case xk10 => k_is)
    (case xa11 => k_is)
    (case xl11 => k_is)
    (case xc11 => k_is)
    (case xk11 => k_is)
    (case xa12 => k_is)
    (case xl12 => k_is)
    (case xc12 => k_is)
    (case xk12 => k_is)
    (case xa13 => k_is)
    (case xl13 => k_is)
    (case xc13 => k_is)
    (case xk13 => k_is)
    (case xa14 => k_is)
    (case xl14 => k_is)
    (case xc14 => k_is)
    (case xk14 => k_is)
    (case xa15 => k_is)
    (case xl15 => k_is)
    (case xc15 => k_is)
    (case xk15 => k_is)
    (case xa16 => k_is)
    (case xl16 => k_is)
    (case xc16 => k_is)
    (case xk16 => k_is)
    (case xa17 => k_is)
    (case xl17 => k_is)
    (case xc17 => k_is)
    (case xk17 => k_is)
    (case xa18 => k_is)
    (case xl18 => k_is)
    (case xc18 => k_is)
    (case xk18 => k_is)
    (case xa19 => k_is)
    (case xl19 => k_is)
    (case xc19 => k_is)
    (case xk19 => k_is)
    (case xa20 => k_is)
    (case xl20 => k_is)
    (case xc20 => k_is)
    (case xk20 => k_is)
    (case xa21 => k_is)
    (case xl21 => k_is)
    (case xc21 => k_is)
    (case xk21 => k_is)
    (case xa22 => k_is)
    (case xl22 => k_is)
    (case xc22 => k_is)
    (case xk22 => k_is)
    (case xa23 => k_is)
    (case xl23 => k_is)
    (case xc23 => k_is)
    (case xk23 => k_is)
    (case xa24 => k_is)
    (case xl24 => k_is)
    (case xc24 => k_is)
    (case xk24 => k_is)
    (case xa25 => k_is)
    (case xl25 => k_is)
    (case xc25 => k_is)
    (case xk25 => k_is)
    (case xa26 => k_is)
    (case xl26 => k_is)
    (case xc26 => k_is)
    (case xk26 => k_is)
    (case xa27 => k_is)
    (case xl27 => k_is)
    (case xc27 => k_is)
    (case xk27 => k_is)
    (case xa28 => k_is)
    (case xl28 => k_is)
    (case xc28 => k_is)
    (case xk28 => k_is)
    (case xa29 => k_is)
    (case xl29 => k_is)
    (case xc29 => k_is)
    (case xk29 => k_is)
    (case xa30 => k_is)
    (case xl30 => k_is)
    (case xc30 => k_is)
    (case xk30 => k_is)
    (case xa31 => k_is)
    (case xl31 => k_is)
    (case xc31 => k_is)
    (case xk31 => k_is)
    (case xa32 => k_is)
    (case xl32 => k_is)
    (case xc32 => k_is)
    (case xk32 => k_is)
    (case xa33 => k_is)
    (case xl33 => k_is)
    (case xc33 => k_is)
    (case xk33 => k_is)
    (case xa34 => k_is)
    (case xl34 => k_is)
    (case xc34 => k_is)
    (case xk34 => k_is)
    (case xa35 => k_is)
    (case xl35 => k_is)
    (case xc35 => k_is)
    (case xk35 => k_is)
    (case xa36 => k_is)
    (case xl36 => k_is)
    (case xc36 => k_is)
    (case xk36 => k_is)
    (case xa37 => k_is)
    (case xl37 => k_is)
    (case xc37 => k_is)
    (case xk37 => k_is)
    (case xa38 => k_is)
    (case xl38 => k_is)
    (case xc38 => k_is)
    (case xk38 => k_is)
    (case xg0 => k_is)
    (case xr0 => exact ⟨_, rfl⟩)
    (case xg1 => k_is)
    (case xr1 => exact ⟨_, rfl⟩)
    (case xg2 => k_is)
    (case xr2 => exact ⟨_, rfl⟩)
    (case xg3 => k_is)
    (case xr3 => exact ⟨_, rfl⟩)
    (case xg4 => k_is)
    (case xr4 => exact ⟨_, rfl⟩)
    (case xg5 => k_is)
    (case xr5 => exact ⟨_, rfl⟩)
    (case xg6 => k_is)
    (case xr6 => exact ⟨_, rfl⟩)
    (case xg7 => k_is)
    (case xr7 => exact ⟨_, rfl⟩)
    (case xg8 => k_is)
    (case xr8 => exact ⟨_, rfl⟩)
    (case xz0 => k_is)
    (case xz1 => k_is)
    (case xz2 => k_is)
    (case xz3 => k_is)
    (case xz4 => k_is)
    (case xz5 => k_is)
    (case xz6 => k_is)
    (case xz7 => k_is)
    (case xz8 => k_is)
    (case xz9 => k_is)
    (case xz10 => k_is)
    (case xz11 => k_is)
    (case xz12 => k_is)
