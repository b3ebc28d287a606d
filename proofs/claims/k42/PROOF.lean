import PyProof.Rows.All
import Wide.All
import OpenK.AllK
import Wide.FinOn
import Lean
import PyProof.EqAt
import PyProof.EqKinds
import PyProof.TupleCall
import PyProof.StrBlockI
import PyProof.SliceList
import PyProof.StrLawsIn
import PyProof.StrLaws
import PyProof.StrBlockG
import PyProof.StrLawsTight
import PyProof.StrLawsChain
import PySem.Challenge.RW_dykemoot_k42_decrees_written_and_read
set_option Elab.async false
set_option linter.all false
set_option maxRecDepth 100000
namespace L2
open PySem PySem.Spec PyProof.Rows

abbrev Key := Sum Int Str
def keyIs : Key → Value → Bool
  | .inl k, v => Value.isInt k v
  | .inr x, v => Value.isStrOf x v
def keyH (w : World) : Key → Int
  | .inl k => hashInt k
  | .inr x => hashStr w x
theorem keyIs_shape : ∀ {k : Key} {v : Value}, keyIs k v = true → (∃ i t, k = Sum.inl i ∧ v = Value.int i t) ∨ (∃ x t, k = Sum.inr x ∧ v = Value.str x t)
  | .inl i, v, h => by
    obtain ⟨t, e⟩ := Value.isInt_shape (k := i) (v := v) h
    exact .inl ⟨i, t, rfl, e⟩
  | .inr x, v, h => by
    obtain ⟨t, e⟩ := Value.isStrOf_shape (x := x) (v := v) h
    exact .inr ⟨x, t, rfl, e⟩
theorem keyIs_int (i : Int) (t : Tok) : keyIs (.inl i) (.int i t) = true := by simp [keyIs, Value.isInt]
theorem keyIs_str (x : Str) (t : Tok) : keyIs (.inr x) (.str x t) = true := by simp [keyIs, Value.isStrOf]
theorem key_ll (a b : Int) : decide ((Sum.inl a : Key) = Sum.inl b) = (a == b) := by
  by_cases e : a = b
  · subst e; simp
  · have h : ¬ (Sum.inl a : Key) = Sum.inl b := fun q => e (Sum.inl.inj q)
    rw [decide_eq_false h]
    exact (beq_eq_false_iff_ne.mpr e).symm
theorem key_rr (a b : Str) : decide ((Sum.inr a : Key) = Sum.inr b) = decide (a = b) := by
  by_cases e : a = b
  · subst e; simp
  · have h : ¬ (Sum.inr a : Key) = Sum.inr b := fun q => e (Sum.inr.inj q)
    rw [decide_eq_false h, decide_eq_false e]
theorem key_lr (a : Int) (b : Str) : decide ((Sum.inl a : Key) = Sum.inr b) = false := decide_eq_false (fun q => nomatch q)
theorem key_rl (a : Str) (b : Int) : decide ((Sum.inr a : Key) = Sum.inl b) = false := decide_eq_false (fun q => nomatch q)

def mixKind (prog : Program) (w : World) : PySem.KeyKind prog w Key where
  is := keyIs
  hash := keyH w
  inj := fun v a b ha hb => by
    rcases keyIs_shape ha with ⟨i, t, rfl, rfl⟩ | ⟨x, t, rfl, rfl⟩
    · rcases keyIs_shape hb with ⟨j, u, rfl, e⟩ | ⟨y, u, rfl, e⟩
      · injection e with e1 _; rw [e1]
      · exact nomatch e
    · rcases keyIs_shape hb with ⟨j, u, rfl, e⟩ | ⟨y, u, rfl, e⟩
      · exact nomatch e
      · injection e with e1 _; rw [e1]
  byValue := fun k v h => by
    rcases keyIs_shape h with ⟨i, t, rfl, rfl⟩ | ⟨x, t, rfl, rfl⟩ <;> rfl
  pyHash := fun hv h => by
    rcases keyIs_shape hv with ⟨i, t, rfl, rfl⟩ | ⟨x, t, rfl, rfl⟩
    · exact wpAny_pyHash_int h
    · exact wpAny_pyHash_str h
  eqBool := fun hu hv h => by
    rcases keyIs_shape hu with ⟨i, t, rfl, rfl⟩ | ⟨x, t, rfl, rfl⟩
    · rcases keyIs_shape hv with ⟨j, u, rfl, rfl⟩ | ⟨y, u, rfl, rfl⟩
      · rw [key_ll] at h; exact wpAny_eqBool_int h
      · rw [key_lr] at h; exact SeqAt.EqAt.int_str i t y u _ _ _ _ h
    · rcases keyIs_shape hv with ⟨j, u, rfl, rfl⟩ | ⟨y, u, rfl, rfl⟩
      · rw [key_rl] at h; exact SeqAt.EqAt.str_int x t j u _ _ _ _ h
      · rw [key_rr] at h; exact wpAny_eqBool_str h
  «strs» := fun k x t v h => by
    rcases keyIs_shape h with ⟨i, u, rfl, e⟩ | ⟨y, u, rfl, e⟩
    · exact nomatch e
    · injection e with e1 _
      subst e1
      cases v <;> rfl

theorem mixKind_int (prog : Program) (w : World) (i : Int) (t : Tok) : (mixKind prog w).is (.inl i) (.int i t) = true := keyIs_int i t
theorem mixKind_str (prog : Program) (w : World) (x : Str) (t : Tok) : (mixKind prog w).is (.inr x) (.str x t) = true := keyIs_str x t
end L2

namespace L2
open PySem PySem.Spec PyProof.Rows

inductive V where
  | non | bl (b : Bool) | int (i : Int) | str (x : Str) | byt (b : Array UInt8) | flt (b : UInt64) | ref (a : Addr) | ty (n : String)
  deriving DecidableEq

def RelV : V → Value → Prop
  | .non, u => u = Value.none
  | .bl b, u => u = Value.bool b
  | .int i, u => ∃ t, u = Value.int i t
  | .str x, u => ∃ t, u = Value.str x t
  | .byt b, u => ∃ t, u = Value.bytes b t
  | .flt b, u => ∃ t, u = Value.float b t
  | .ref a, u => u = Value.ref a
  | .ty n, u => u = Value.type n

abbrev Vals : List V → List Value → Prop := Paired RelV
theorem Vals.length {xs : List V} {us : List Value} (r : Vals xs us) : xs.length = us.length := Paired.length r
theorem Vals.get : ∀ {xs : List V} {us : List Value} {i : Nat} {x : V}, Vals xs us → xs[i]? = some x → ∃ u, us[i]? = some u ∧ RelV x u
  | _, _, _, _, .nil, e => by simp at e
  | _, _, 0, _, .cons r _, e => by simp at e; subst e; exact ⟨_, rfl, r⟩
  | _, _, i + 1, x, .cons _ t, e => by
    obtain ⟨u, h1, h2⟩ := Vals.get (i := i) (x := x) t (by simpa using e)
    exact ⟨u, by simpa using h1, h2⟩
theorem Vals.append : ∀ {xs ys : List V} {us ws : List Value}, Vals xs us → Vals ys ws → Vals (xs ++ ys) (us ++ ws)
  | _, _, _, _, .nil, s => s
  | _, _, _, _, .cons r t, s => .cons r (Vals.append t s)
theorem Vals.take : ∀ {xs : List V} {us : List Value} (n : Nat), Vals xs us → Vals (xs.take n) (us.take n)
  | _, _, 0, _ => .nil
  | _, _, _ + 1, .nil => .nil
  | _, _, n + 1, .cons r t => .cons r (Vals.take n t)
theorem Vals.drop : ∀ {xs : List V} {us : List Value} (n : Nat), Vals xs us → Vals (xs.drop n) (us.drop n)
  | _, _, 0, r => r
  | _, _, _ + 1, .nil => .nil
  | _, _, n + 1, .cons _ t => Vals.drop n t
def RelO : Option V → Option Value → Prop
  | some v, some u => RelV v u
  | none, none => True
  | _, _ => False
def KV {κ : Type} : List (κ × V) → List (κ × Value) → Prop := Paired fun (p : κ × V) (q : κ × Value) => p.1 = q.1 ∧ RelV p.2 q.2

def kV : Key → V
  | .inl i => .int i
  | .inr x => .str x

inductive HO where
  /-- a list -/
  | lst (xs : List V)
  /-- a tuple (never changes) -/
  | tup (xs : List V)
  /-- a dict whose keys are ints and texts; one whose keys are tuples of ints and texts (the empty one is both) -/
  | dK (kvs : List (Key × V)) | dT (kvs : List (List Key × V))
  /-- a set of ints: its members, its size -/
  | set (S : Int → Bool) (n : Nat)
  /-- an instance of the class at C, its dict at dx, its attributes -/
  | ins (C dx : Addr) (fs : List (Str × V))
  /-- the dict of the instance at x -/
  | own (x : Addr)
  /-- the dict of an exception -/
  | xd (fs : List (Str × V))
  /-- a bound method, f of x -/
  | met (f x : Addr)
  /-- a range object lo, lo + 1, .. below hi -/
  | rng (lo hi : Int)
  /-- a thing that is known to the object (the script; a dict while a loop walks it): read, never written while it is so -/
  | frz (o : Obj) (u : HO)
  /-- a code object's table -/
  | tbl (ps : Array Value)
  /-- any other thing, by what is true of its one object (a def of one's own: SetO a S n := HO.ext fun h => ..) -/
  | ext (φ : Heap → Prop)

abbrev Hp := Addr → Option HO
def upd (H : Hp) (a : Addr) (o : HO) : Hp := fun b => if b = a then some o else H b
theorem upd_same {H : Hp} {a : Addr} {o : HO} : upd H a o a = some o := by unfold upd; rw [if_pos rfl]
theorem upd_ne {H : Hp} {a b : Addr} {o : HO} (h : b ≠ a) : upd H a o b = H b := by unfold upd; rw [if_neg h]
theorem ne_of {H : Hp} {a b : Addr} {o u : HO} (h : H a = some o) (h' : H b = some u) (d : o ≠ u) : a ≠ b := by
  intro e; subst e; rw [h] at h'; exact d (Option.some.inj h')
theorem ne_of_none {H : Hp} {a b : Addr} {o : HO} (h : H a = some o) (h' : H b = none) : a ≠ b := by
  intro e; subst e; rw [h] at h'; cases h'

def IsTupD (h : Heap) (a : Addr) (its : Array Value) : Prop := ∃ o, h.get? a = some o ∧ o.cls = .type "tuple" ∧ ∃ n, o.data = .seq its n ∧ o.dict = none
theorem IsTupD.tup {h : Heap} {a : Addr} {its : Array Value} (x : IsTupD h a its) : IsTup h a its := by
  obtain ⟨o, e, c, n, d, _⟩ := x
  exact ⟨o, e, c, n, d⟩
theorem IsTupD.new (h : Heap) (its : Array Value) : IsTupD (h.push { cls := .type "tuple", data := .seq its }) h.objs.size its := ⟨_, Heap.get?_push_size _ rfl, rfl, _, rfl, rfl⟩
section
variable (P : Program) (w : World)
def ObjOk (H : Hp) (h : Heap) (a : Addr) : HO → Prop
  | .lst xs => xs.length ≤ sizeLine ∧ ∃ (its : List Value) (n : Nat), Vals xs its ∧ h.get? a = some { cls := .type "list", data := .seq its.toArray n }
  | .tup xs => xs.length ≤ sizeLine ∧ ∃ its : List Value, Vals xs its ∧ IsTupD h a its.toArray
  | .dK kvs => kvs.length ≤ sizeLine ∧ (a == sysModules) = false ∧ ∃ vs, KV kvs vs ∧ h.DictOf (mixKind P w) a vs
  | .dT kvs => kvs.length ≤ sizeLine ∧ (a == sysModules) = false ∧ ∃ xs : List (List Key × Addr × Value),
      Paired (fun (p : List Key × V) (q : List Key × Addr × Value) => p.1 = q.1 ∧ H q.2.1 = some (.tup (p.1.map kV)) ∧ RelV p.2 q.2.2) kvs xs ∧
      ∃ o es ep, h.get? a = some o ∧ o.ExactDict ∧ o.data = .dict es ep ∧ es.toList = xs.map (entryOfKey (tupleKind (mixKind P w))) ∧ (xs.map (·.1)).Nodup
  | .set S n => h.SetOf (intKind P w) a S n
  | .ins C dx fs => H dx = some (.own a) ∧ fs.length ≤ 1000 ∧ dx ≠ a ∧ h.get? a = some (PySem.W.instObj C dx) ∧
      ∃ mA, h.Ns1 dx mA ∧ (∀ f, RelO (fs.lookup f) (mA f)) ∧ PySem.Within mA (fs.map (·.1))
  | .own _ => ∃ o, h.get? a = some o
  | .xd fs => ∃ mA, h.Ns1 a mA ∧ ∀ f, RelO (fs.lookup f) (mA f)
  | .rng lo hi => ∃ t u v, h.get? a = some { cls := .type "range", data := .fields #[.int lo t, .int hi u, .int 1 v] }
  | .frz o u => h.get? a = some o ∧ ObjOk H h a u
  | .tbl ps => h.get? a = some { cls := .none, data := .fields ps }
  | .met f x => h.get? a = some (PySem.W.methodObj (.ref f) (.ref x))
  | .ext φ => φ h ∧ (∃ o, h.get? a = some o) ∧ ∀ h1 h2 : Heap, φ h1 → (∀ o, h1.get? a = some o → h2.get? a = some o) → φ h2
def HOk (H : Hp) (h : Heap) : Prop := ∀ a o, H a = some o → ObjOk P w H h a o
end

section
variable {P : Program} {w : World} {H H' : Hp} {h h' : Heap} {a : Addr} {o : HO}
theorem ObjOk.lt (x : ObjOk P w H h a o) : a < h.objs.size := by
  cases o with
  | lst xs => obtain ⟨_, _, _, _, e⟩ := x; exact Heap.lt_size e
  | tup xs => obtain ⟨_, _, _, _, e, _⟩ := x; exact Heap.lt_size e
  | dK kvs => obtain ⟨_, _, _, _, o, _, _, e, _⟩ := x; exact Heap.lt_size e
  | dT kvs => obtain ⟨_, _, _, _, o, _, _, e, _⟩ := x; exact Heap.lt_size e
  | set S n => obtain ⟨o, _, _, _, e, _⟩ := x; exact Heap.lt_size e
  | ins C dx fs => obtain ⟨_, _, _, e, _⟩ := x; exact Heap.lt_size e
  | own y => obtain ⟨_, e⟩ := x; exact Heap.lt_size e
  | xd fs => obtain ⟨_, ⟨_, _, _, e, _⟩, _⟩ := x; exact Heap.lt_size e
  | rng lo hi => obtain ⟨_, _, _, e⟩ := x; exact Heap.lt_size e
  | frz ob u => obtain ⟨e, _⟩ := x; exact Heap.lt_size e
  | tbl ps => exact Heap.lt_size (show h.get? a = some _ from x)
  | met f y => exact Heap.lt_size (show h.get? a = some _ from x)
  | ext φ => obtain ⟨_, ⟨_, e⟩, _⟩ := x; exact Heap.lt_size e
theorem Paired.mapP {α β : Type} {F G : α → β → Prop} : ∀ {l₁ : List α} {l₂ : List β}, Paired F l₁ l₂ → (∀ a b, F a b → G a b) → Paired G l₁ l₂
  | _, _, .nil, _ => .nil
  | _, _, .cons r t, f => .cons (f _ _ r) (Paired.mapP t f)
theorem ObjOk.stay (x : ObjOk P w H h a o) (k : ∀ b u, (b = a ∨ H b = some (.own a)) → h.get? b = some u → h'.get? b = some u)
    (ho : ∀ b, H b = some (.own a) → H' b = some (.own a)) (ht : ∀ b xs, H b = some (.tup xs) → H' b = some (.tup xs)) : ObjOk P w H' h' a o := by
  induction o with
  | lst xs => obtain ⟨z, its, n, r, e⟩ := x; exact ⟨z, its, n, r, k _ _ (.inl rfl) e⟩
  | tup xs => obtain ⟨z, its, r, ob, e, c⟩ := x; exact ⟨z, its, r, ob, k _ _ (.inl rfl) e, c⟩
  | dK kvs => obtain ⟨z, y, vs, r, ob, es, ep, e, c⟩ := x; exact ⟨z, y, vs, r, ob, es, ep, k _ _ (.inl rfl) e, c⟩
  | dT kvs =>
    obtain ⟨z, y, xs, r, ob, es, ep, e, c⟩ := x
    exact ⟨z, y, xs, Paired.mapP r fun p q z => ⟨z.1, ht _ _ z.2.1, z.2.2⟩, ob, es, ep, k _ _ (.inl rfl) e, c⟩
  | set S n => obtain ⟨ob, es, ep, t, e, c⟩ := x; exact ⟨ob, es, ep, t, k _ _ (.inl rfl) e, c⟩
  | ins C dx fs =>
    obtain ⟨d, z, ne, e, mA, ⟨od, es, ep, e2, c⟩, r⟩ := x
    exact ⟨ho _ d, z, ne, k _ _ (.inl rfl) e, mA, ⟨od, es, ep, k _ _ (.inr d) e2, c⟩, r⟩
  | own y => obtain ⟨ob, e⟩ := x; exact ⟨ob, k _ _ (.inl rfl) e⟩
  | xd fs => obtain ⟨mA, ⟨od, es, ep, e, c⟩, r⟩ := x; exact ⟨mA, ⟨od, es, ep, k _ _ (.inl rfl) e, c⟩, r⟩
  | rng lo hi => obtain ⟨t, u, v, e⟩ := x; exact ⟨t, u, v, k _ _ (.inl rfl) e⟩
  | frz ob u ih => obtain ⟨e, q⟩ := x; exact ⟨k _ _ (.inl rfl) e, ih q⟩
  | tbl ps =>
    have e : h.get? a = some { cls := .none, data := .fields ps } := x
    show h'.get? a = some { cls := .none, data := .fields ps }
    exact k a _ (.inl rfl) e
  | met f y =>
    have e : h.get? a = some (PySem.W.methodObj (.ref f) (.ref y)) := x
    show h'.get? a = some (PySem.W.methodObj (.ref f) (.ref y))
    exact k a _ (.inl rfl) e
  | ext φ => obtain ⟨p, ⟨o, e⟩, st⟩ := x; exact ⟨st _ _ p fun o q => k _ _ (.inl rfl) q, ⟨o, k _ _ (.inl rfl) e⟩, st⟩
theorem HOk.lt (x : HOk P w H h) (e : H a = some o) : a < h.objs.size := (x a o e).lt
theorem HOk.fresh (x : HOk P w H h) (e : h.objs.size ≤ a) : H a = none := by
  cases q : H a with
  | none => rfl
  | some u => exact absurd (Nat.lt_of_lt_of_le (x.lt q) e) (Nat.lt_irrefl _)
theorem HOk.kept (x : HOk P w H h) (k : ∀ b u, h.get? b = some u → h'.get? b = some u) : HOk P w H h' := fun a o e =>
  (x a o e).stay (fun b u _ q => k b u q) (fun _ q => q) fun _ _ q => q
theorem HOk.laid (x : HOk P w H h) (k : ∀ b u, h.get? b = some u → h'.get? b = some u) (hp : h.objs.size ≤ a) (new : ObjOk P w (upd H a o) h' a o) : HOk P w (upd H a o) h' := fun b u e => by
  have hn := x.fresh hp
  by_cases hb : b = a
  · subst hb; rw [upd_same] at e; cases e; exact new
  · rw [upd_ne hb] at e
    exact (x b u e).stay (fun c v _ q => k c v q) (fun c q => by rw [upd_ne (ne_of_none q hn)]; exact q) fun c xs q => by rw [upd_ne (ne_of_none q hn)]; exact q
end

def Rd (H : Hp) (a : Addr) (u : HO) : Prop := H a = some u ∨ ∃ o, H a = some (.frz o u)
theorem Rd.ok {P : Program} {w : World} {H : Hp} {h : Heap} {a : Addr} {u : HO} (r : Rd H a u) (x : HOk P w H h) : ObjOk P w H h a u := by
  rcases r with r | ⟨o, r⟩
  · exact x a u r
  · obtain ⟨_, q⟩ := x a _ r
    exact q
def Mut : Option HO → Prop
  | some (.lst _) => True
  | some (.dK _) => True
  | some (.dT _) => True
  | some (.set _ _) => True
  | some (.ins _ _ _) => True
  | some (.ext _) => True
  | _ => False
section
variable {P : Program} {w : World} {H : Hp} {h h' : Heap} {x e : Addr} {o' : HO}
theorem HOk.write (ok : HOk P w H h) (mu : Mut (H x)) (he : e = x ∨ H e = some (.own x)) (k : ∀ b u, b ≠ e → h.get? b = some u → h'.get? b = some u) (heo : ∃ u, h'.get? e = some u)
    (new : ObjOk P w (upd H x o') h' x o') : HOk P w (upd H x o') h' := fun b u q => by
  have nown : ∀ c y, H c = some (.own y) → c ≠ x := fun c y r z => by subst z; rw [r] at mu; exact mu
  have ntup : ∀ c xs, H c = some (.tup xs) → c ≠ x := fun c xs r z => by subst z; rw [r] at mu; exact mu
  by_cases hb : b = x
  · subst hb; rw [upd_same] at q; cases q; exact new
  · rw [upd_ne hb] at q
    by_cases hbe : b = e
    · have q' : H b = some (.own x) := by
        rcases he with z | z
        · exact absurd (hbe.trans z) hb
        · rw [hbe]; exact z
      rw [q] at q'; cases q'
      obtain ⟨v, hv⟩ := heo
      exact ⟨v, by rw [hbe]; exact hv⟩
    · refine (ok b u q).stay (fun c v hc r => k c v ?_ r) (fun c r => by rw [upd_ne (nown c b r)]; exact r) fun c xs r => by rw [upd_ne (ntup c xs r)]; exact r
      rcases hc with rfl | hc
      · exact hbe
      · rintro rfl
        rcases he with z | z
        · exact nown c b hc z
        · rw [hc] at z; cases z; exact hb rfl
end

structure Un (fs ex : List Addr) (H H' : Hp) (h h' : Heap) : Prop where
  keep : ∀ b o, h.get? b = some o → H b = none → b ∉ fs → b ∉ ex → h'.get? b = some o
  slot : ∀ b o, h.get? b = some o → H b = none → b ∈ fs → b ∉ ex → ∃ sl, h'.get? b = some { o with slots := sl }
  free : ∀ b o, h.get? b = some o → H b = none → b ∉ ex → H' b = none
  there : ∀ b o, h.get? b = some o → b ∉ ex → ∃ o', h'.get? b = some o'
  tups : ∀ b xs, H b = some (.tup xs) → H' b = some (.tup xs)
  frzs : ∀ b o u, H b = some (.frz o u) → H' b = some (.frz o u)
  tbls : ∀ b ps, H b = some (.tbl ps) → ∃ more, H' b = some (.tbl (ps ++ more))
section
variable {fs fs' ex ex' : List Addr} {H H1 H2 : Hp} {h h1 h2 h' : Heap} {a x e : Addr} {o : HO}
theorem Un.any (u : Un fs ex H H1 h h1) {b : Addr} {ob : Obj} (q : h.get? b = some ob) (n : H b = none) (hx : b ∉ ex) : ∃ sl, h1.get? b = some { ob with slots := sl } := by
  by_cases hb : b ∈ fs
  · exact u.slot b ob q n hb hx
  · exact ⟨ob.slots, u.keep b ob q n hb hx⟩
theorem Un.kept (k : ∀ b u, h.get? b = some u → h'.get? b = some u) : Un fs ex H H h h' :=
  ⟨fun b ob q _ _ _ => k b ob q, fun b ob q _ _ _ => ⟨ob.slots, k b ob q⟩, fun _ _ _ n _ => n, fun b ob q _ => ⟨ob, k b ob q⟩, fun _ _ q => q, fun _ _ _ q => q, fun _ ps q => ⟨#[], by rw [q]; simp⟩⟩
theorem Un.refl : Un fs ex H H h h := Un.kept fun _ _ q => q
theorem Un.laid (k : ∀ b u, h.get? b = some u → h'.get? b = some u) (hp : h.objs.size ≤ a) (hn : H a = none) : Un fs ex H (upd H a o) h h' where
  keep := fun b u q _ _ _ => k b u q
  slot := fun b u q _ _ _ => ⟨u.slots, k b u q⟩
  free := fun b u q n _ => by rw [upd_ne (Nat.ne_of_lt (Nat.lt_of_lt_of_le (Heap.lt_size q) hp))]; exact n
  there := fun b u q _ => ⟨u, k b u q⟩
  tups := fun b xs q => by rw [upd_ne (ne_of_none q hn)]; exact q
  frzs := fun b u xs q => by rw [upd_ne (ne_of_none q hn)]; exact q
  tbls := fun b ps q => ⟨#[], by rw [upd_ne (ne_of_none q hn), q]; simp⟩
theorem Un.write (mu : Mut (H x)) (he : e = x ∨ H e = some (.own x)) (k : ∀ b u, b ≠ e → h.get? b = some u → h'.get? b = some u) (heo : ∃ u, h'.get? e = some u) : Un fs ex H (upd H x o) h h' := by
  have hx : ∀ b, H b = none → b ≠ x := fun b n z => by subst z; rw [n] at mu; exact mu
  have hb : ∀ b, H b = none → b ≠ e := fun b n z => by
    subst z
    rcases he with r | r
    · exact hx b n r
    · rw [n] at r; cases r
  have hm : ∀ b u, H b = some u → ¬ Mut (some u) → b ≠ x := fun b u q nm z => by subst z; rw [q] at mu; exact nm mu
  refine ⟨fun b u q n _ _ => k b u (hb b n) q, fun b u q n _ _ => ⟨u.slots, k b u (hb b n) q⟩, fun b u q n _ => by rw [upd_ne (hx b n)]; exact n, fun b u q _ => ?_,
    fun b xs q => by rw [upd_ne (hm b _ q fun z => z)]; exact q, fun b u xs q => by rw [upd_ne (hm b _ q fun z => z)]; exact q, fun b ps q => ⟨#[], by rw [upd_ne (hm b _ q fun z => z), q]; simp⟩⟩
  by_cases hbe : b = e
  · subst hbe; exact heo
  · exact ⟨u, k b u hbe q⟩
end

def trk (h : Heap) (H : Hp) : List Addr := (List.range h.objs.size).filter fun a => (H a).isSome
def hidT (h : Heap) (H : Hp) : Heap := PySem.W.hideAll h (trk h H)
theorem hidT_size (h : Heap) (H : Hp) : (hidT h H).objs.size = h.objs.size := PySem.W.hideAll_size _ _
theorem hidT_get {h : Heap} {H : Hp} {b : Addr} {o : Obj} (e : h.get? b = some o) (n : H b = none) : (hidT h H).get? b = some o :=
  PySem.W.hideAll_get _ e fun hm => by
    have q : (H b).isSome = true := (List.mem_filter.mp hm).2
    rw [n] at q; simp at q
theorem of_hidT {h : Heap} {H : Hp} {b : Addr} {o : Obj} (e : (hidT h H).get? b = some o) : h.get? b = some o ∧ H b = none := by
  have e' : h.get? b = some o := PySem.W.of_hideAll (trk h H) e
  refine ⟨e', ?_⟩
  cases q : H b with
  | none => rfl
  | some x =>
    have hm : b ∈ trk h H := List.mem_filter.mpr ⟨List.mem_range.mpr (Heap.lt_size e'), by simp [q]⟩
    have z : (hidT h H).get? b = none := PySem.W.hideAll_none (trk h H) hm
    rw [z] at e; cases e

def allNews (g h : Heap) (L : Addr) : List (Addr × Obj) := (List.range h.objs.size).filterMap fun a => if a = L ∨ (g.get? a).isSome = true then none else (h.get? a).map fun o => (a, o)
def rest (g h : Heap) (L d : Addr) : List (Addr × Obj) := (allNews g h L).filter fun p => decide (p.1 ≠ d)
end L2

namespace L2
open PySem PySem.Spec PyProof.Rows

structure Mod (K : PySem.W.Frag) (mg : Str → Option Value) (base : Heap) : Prop where
  kin : K.In base
  glob : base.Ns mainGlobals mg
  blt : ∃ mb, base.Ns builtinsNs mb ∧ ∀ x : Str, x ≠ "__name__" → mb x = bootBuiltins x
  nolimit : base.NoLimit

structure Cx where
  prog : Program
  w : World
  K : PySem.W.Frag
  mg : Str → Option Value
  base : Heap
  A : Around
  N : List Str
  s₀ : Shared
  H₀ : Hp
  env : Env
  outer : List Env
  stack : List Env
  ex : List Addr
  fn : Str → Bool
  calm : Bool
  pn : List (Addr × Obj)
  xe : Value → Shared → Prop
def frs (l : List Env) : List Addr := l.filterMap (·.frame)
abbrev Cx.fs (X : Cx) : List Addr := frs X.outer

def Vis (sc : Scope) (x : Str) : Prop := sc.names.lookup x = some .local ∨ sc.names.lookup x = some .cell ∨ sc.names.lookup x = some .free
def Loc (sc : Scope) (x : Str) : Prop := sc.names.lookup x = some .local ∨ sc.names.lookup x = some .cell
def Look (env : Env) (h : Heap) (m : Str → Option Value) (x : Str) (u : Value) : Prop :=
  (env.kindOf x = some .local ∧ m x = some u) ∨ ((env.kindOf x = some .cell ∨ env.kindOf x = some .free) ∧ ∃ c, env.cells.lookup x = some c ∧ h.IsCell c (some u))

structure Cx.Ok (X : Cx) : Prop where
  mod : Mod X.K X.mg X.base
  kind : X.env.scope.kind = .function
  glob : X.env.globals = mainGlobals
  blt : X.env.builtins = builtinsNs
  above : X.s₀.heap.objs.size ≤ X.env.locals
  inj : ∀ x y c, X.env.cells.lookup x = some c → X.env.cells.lookup y = some c → x = y
  has : ∀ x, (X.env.kindOf x = some .cell ∨ X.env.kindOf x = some .free) → ∃ c, X.env.cells.lookup x = some c
  cab : ∀ x c, X.fn x = true → X.env.cells.lookup x = some c → X.s₀.heap.objs.size ≤ c
  hd : X.calm = true → X.A.handled = none
  frames : X.A.frames = some X.stack
  stk : X.stack = X.outer ∨ (X.stack = X.env :: X.outer ∧ X.env.frame = some X.env.locals)
  exf : ∀ b ∈ X.ex, b ≠ X.env.locals ∧ ∀ x c, X.env.cells.lookup x = some c → c ≠ b
  bs : ∀ b o, X.base.get? b = some o → X.s₀.heap.get? b = some o ∧ X.H₀ b = none
  bsz : X.base.objs.size ≤ X.s₀.heap.objs.size
  noex : ∀ b o, X.base.get? b = some o → b ∉ X.ex
  exfs : ∀ b ∈ X.ex, b ∉ X.fs
  funs : X.s₀.heap.FunFrames X.base X.outer
  frf : ∀ b ∈ X.fs, X.H₀ b = none

structure Inv (X : Cx) (pins : List (Addr × Obj)) (σ : List (Option V)) (H : Hp) (s : Shared) : Prop where
  ok : X.Ok
  os : s.os = X.s₀.os
  bare : AllBare s.gens
  base : Un X.fs X.ex X.H₀ H X.s₀.heap s.heap
  loc : ∃ m, s.heap.Ns X.env.locals m ∧ ∀ (i : Nat) (x : Str) (v : V), X.N[i]? = some x → σ[i]? = some (some v) → Vis X.env.scope x → ∃ u, RelV v u ∧ Look X.env s.heap m x u
  cell : ∀ x c, X.env.cells.lookup x = some c → ∃ v, s.heap.IsCell c v
  free : H X.env.locals = none
  freeC : ∀ x c, X.env.cells.lookup x = some c → H c = none
  pin : ∀ p ∈ X.pn ++ pins, s.heap.get? p.1 = some p.2 ∧ H p.1 = none ∧ p.1 ≠ X.env.locals ∧ p.1 ∉ X.fs ∧ ∀ v, p.2.data ≠ .cell v
  hok : HOk X.prog X.w H s.heap
  len : σ.length = X.N.length

section
variable {X : Cx} {pins : List (Addr × Obj)} {σ : List (Option V)} {H H' : Hp} {s : Shared} {h' : Heap}

theorem Cx.Ok.nofr (ok : X.Ok) {b : Addr} {o : Obj} (e : X.base.get? b = some o) : b ∉ X.fs := fun hb => by
  have := (ok.funs.mem hb).1
  rw [e] at this; cases this
theorem Inv.bs (I : Inv X pins σ H s) : ∀ b o, X.base.get? b = some o → s.heap.get? b = some o ∧ H b = none := fun b o e =>
  ⟨I.base.keep b o (I.ok.bs b o e).1 (I.ok.bs b o e).2 (I.ok.nofr e) (I.ok.noex b o e), I.base.free b o (I.ok.bs b o e).1 (I.ok.bs b o e).2 (I.ok.noex b o e)⟩
theorem Inv.bk (I : Inv X pins σ H s) : ∀ b o, X.base.get? b = some o → s.heap.get? b = some o := fun b o e => (I.bs b o e).1
theorem Inv.mod (I : Inv X pins σ H s) : Mod X.K X.mg X.base := I.ok.mod
theorem Inv.kIn (I : Inv X pins σ H s) : X.K.In s.heap := I.ok.mod.kin.keeps I.bk
theorem Inv.fr (I : Inv X pins σ H s) : ∃ m, Fr X.base X.env.locals s.heap m :=
  let ⟨m, hn, _⟩ := I.loc
  ⟨m, hn, I.bk, Nat.le_trans I.ok.bsz I.ok.above⟩
theorem Inv.lt (I : Inv X pins σ H s) : X.env.locals < s.heap.objs.size := let ⟨_, hn, _⟩ := I.loc; hn.lt
theorem Inv.sz (I : Inv X pins σ H s) : X.s₀.heap.objs.size ≤ s.heap.objs.size := Nat.le_trans I.ok.above (Nat.le_of_lt I.lt)
theorem Inv.nofs (I : Inv X pins σ H s) {a : Addr} (h : s.heap.objs.size ≤ a) : a ∉ X.fs := fun hb => by
  obtain ⟨_, o, ho, _⟩ := I.ok.funs.mem hb
  exact absurd (Nat.lt_of_lt_of_le (Heap.lt_size ho) (Nat.le_trans I.sz h)) (Nat.lt_irrefl _)
theorem Inv.cne (I : Inv X pins σ H s) : ∀ x c, X.env.cells.lookup x = some c → c ≠ X.env.locals := fun x c e z => by
  obtain ⟨v, o, ho, hd⟩ := I.cell x c e
  obtain ⟨m, ⟨o', es, ep, ho', hd', _⟩, _⟩ := I.loc
  rw [z, ho'] at ho; cases ho; rw [hd'] at hd; cases hd
theorem Inv.funs (I : Inv X pins σ H s) : s.heap.FunFrames X.base X.outer := by
  have all : ∀ (l : List Env), (∀ b ∈ frs l, b ∈ X.fs) → X.s₀.heap.FunFrames X.base l → s.heap.FunFrames X.base l := by
    intro l
    induction l with
    | nil => intro _ _; trivial
    | cons env r ih =>
      intro hs hl
      obtain ⟨hk, ⟨L, o, hf, hn, ho, hd⟩, hr⟩ := hl
      have hL : L ∈ X.fs := hs L (by unfold frs; rw [List.filterMap_cons, hf]; exact List.mem_cons_self)
      obtain ⟨sl, e⟩ := I.base.slot L o ho (I.ok.frf L hL) hL fun z => I.ok.exfs L z hL
      exact ⟨hk, ⟨L, _, hf, hn, e, hd⟩, ih (fun b hb => hs b (by unfold frs; rw [List.filterMap_cons, hf]; exact List.mem_cons_of_mem _ hb)) hr⟩
  exact all X.outer (fun _ hb => hb) I.ok.funs

theorem Inv.stack (I : Inv X pins σ H s) : s.heap.FunFrames X.base X.stack := by
  rcases I.ok.stk with e | ⟨e, hf⟩
  · rw [e]; exact I.funs
  · rw [e]
    obtain ⟨m, hn, _⟩ := I.loc
    refine .cons (by rw [I.ok.kind]; decide) hf hn ?_ I.funs
    exact Heap.get?_none_of_le (Nat.le_trans I.ok.bsz I.ok.above)
theorem Inv.stkSub (I : Inv X pins σ H s) : ∀ b ∈ frs X.stack, b ∈ X.env.locals :: X.fs := fun b hb => by
  rcases I.ok.stk with e | ⟨e, hf⟩
  · rw [e] at hb; exact List.mem_cons_of_mem _ hb
  · rw [e] at hb
    unfold frs at hb
    rw [List.filterMap_cons, hf] at hb
    exact hb
theorem Inv.stkFree (I : Inv X pins σ H s) : ∀ b ∈ frs X.stack, H b = none := fun b hb => by
  rcases List.mem_cons.mp (I.stkSub b hb) with e | hb
  · rw [e]; exact I.free
  · obtain ⟨_, o, ho, _⟩ := I.ok.funs.mem hb
    exact I.base.free b o ho (I.ok.frf b hb) fun z => I.ok.exfs b z hb

theorem Inv.step {g' : Array GenState} {t' : Nat} {d' : Drawn} {ch : List Addr} (I : Inv X pins σ H s)
    (hch : ∀ b ∈ ch, (b ∈ X.ex ∨ X.s₀.heap.objs.size ≤ b) ∧ b ≠ X.env.locals ∧ (∀ x c, X.env.cells.lookup x = some c → c ≠ b) ∧ ∀ p ∈ X.pn ++ pins, p.1 ≠ b)
    (keep : ∀ b o, b ≠ X.env.locals → b ∉ X.fs → b ∉ ch → s.heap.get? b = some o → H b = none → h'.get? b = some o)
    (slot : ∀ b o, b ≠ X.env.locals → b ∈ X.fs → b ∉ ch → s.heap.get? b = some o → H b = none → ∃ sl, h'.get? b = some { o with slots := sl }) (free : ∀ b o, b ∉ ch → s.heap.get? b = some o → H b = none → H' b = none)
    (there : ∀ b o, b ∉ ch → s.heap.get? b = some o → ∃ o', h'.get? b = some o')
    (tups : ∀ b xs, H b = some (.tup xs) → H' b = some (.tup xs)) (frzs : ∀ b o u, H b = some (.frz o u) → H' b = some (.frz o u)) (tbls : ∀ b ps, H b = some (.tbl ps) → ∃ more, H' b = some (.tbl (ps ++ more)))
    (ns : ∀ m, s.heap.Ns X.env.locals m → h'.Ns X.env.locals m) (hok : HOk X.prog X.w H' h') (hg : AllBare g') :
    Inv X pins σ H' { s with heap := h', gens := g', drawn := d', toks := t' } := by
  have neL : ∀ b o, X.s₀.heap.get? b = some o → b ≠ X.env.locals := fun b o e => Nat.ne_of_lt (Nat.lt_of_lt_of_le (Heap.lt_size e) I.ok.above)
  have neC : ∀ b o, X.s₀.heap.get? b = some o → b ∉ X.ex → b ∉ ch := fun b o e hx hb => by
    rcases (hch b hb).1 with z | z
    · exact hx z
    · exact absurd (Nat.lt_of_lt_of_le (Heap.lt_size e) z) (Nat.lt_irrefl _)
  have cellK : ∀ x c, X.env.cells.lookup x = some c → ∀ v, s.heap.IsCell c v → h'.IsCell c v := fun x c e v ⟨o, ho, hd⟩ => by
    have nch : c ∉ ch := fun z => (hch c z).2.2.1 x c e rfl
    by_cases hc : c ∈ X.fs
    · obtain ⟨sl, q⟩ := slot c o (I.cne x c e) hc nch ho (I.freeC x c e)
      exact ⟨_, q, hd⟩
    · exact ⟨o, keep c o (I.cne x c e) hc nch ho (I.freeC x c e), hd⟩
  refine ⟨I.ok, I.os, hg, ⟨fun b o e n hb hx => ?_, fun b o e n hb hx => ?_, fun b o e n hx => ?_, fun b o e hx => ?_, fun b xs e => tups b xs (I.base.tups b xs e), fun b o xs e => frzs b o xs (I.base.frzs b o xs e), fun b ps e => ?_⟩, ?_, fun x c e => ?_, ?_, fun x c e => ?_, fun p hp => ?_, hok, I.len⟩
  · exact keep b o (neL b o e) hb (neC b o e hx) (I.base.keep b o e n hb hx) (I.base.free b o e n hx)
  · obtain ⟨sl, e1⟩ := I.base.slot b o e n hb hx
    obtain ⟨sl', e2⟩ := slot b _ (neL b o e) hb (neC b o e hx) e1 (I.base.free b o e n hx)
    exact ⟨sl', e2⟩
  · obtain ⟨o', e1⟩ := I.base.there b o e hx
    exact free b o' (neC b o e hx) e1 (I.base.free b o e n hx)
  · obtain ⟨o', e1⟩ := I.base.there b o e hx
    exact there b o' (neC b o e hx) e1
  · obtain ⟨m1, e1⟩ := I.base.tbls b ps e
    obtain ⟨m2, e2⟩ := tbls b _ e1
    exact ⟨m1 ++ m2, by rw [e2, Array.append_assoc]⟩
  · obtain ⟨m, hn, hl⟩ := I.loc
    refine ⟨m, ns m hn, fun i x v e1 e2 e3 => ?_⟩
    obtain ⟨u, r, l⟩ := hl i x v e1 e2 e3
    refine ⟨u, r, ?_⟩
    rcases l with l | ⟨k, c, e, z⟩
    · exact .inl l
    · exact .inr ⟨k, c, e, cellK x c e _ z⟩
  · obtain ⟨v, z⟩ := I.cell x c e
    exact ⟨v, cellK x c e v z⟩
  · obtain ⟨m, ⟨o, _, _, ho, _⟩, _⟩ := I.loc
    exact free _ o (fun z => (hch _ z).2.1 rfl) ho I.free
  · obtain ⟨v, o, ho, hd⟩ := I.cell x c e
    exact free c o (fun z => (hch c z).2.2.1 x c e rfl) ho (I.freeC x c e)
  · obtain ⟨e, n, ne, nf, d⟩ := I.pin p hp
    have nch : p.1 ∉ ch := fun z => (hch p.1 z).2.2.2 p hp rfl
    exact ⟨keep p.1 p.2 ne nf nch e n, free p.1 p.2 nch e n, ne, nf, d⟩
theorem Inv.un {t' : Nat} (I : Inv X pins σ H s) (u : Un X.fs [] H H' s.heap h') (hok : HOk X.prog X.w H' h') : Inv X pins σ H' { s with heap := h', toks := t' } := by
  obtain ⟨m, ⟨o, es, ep, ho, r⟩, _⟩ := id I.loc
  obtain ⟨sl, hL⟩ := u.any ho I.free (by simp)
  exact I.step (g' := s.gens) (d' := s.drawn) (ch := []) (fun _ z => nomatch z) (fun b o _ hb _ e n => u.keep b o e n hb (by simp)) (fun b o _ hb _ e n => u.slot b o e n hb (by simp)) (fun b o _ e n => u.free b o e n (by simp)) (fun b o _ e => u.there b o e (by simp)) u.tups u.frzs u.tbls (fun m' hm => by
    obtain ⟨o', es', ep', ho', r'⟩ := hm
    rw [ho] at ho'; cases ho'
    exact ⟨_, es', ep', hL, r'⟩) hok I.bare
theorem Inv.call {g' : Array GenState} {t' : Nat} {d' : Drawn} {ch : List Addr} (I : Inv X pins σ H s) (u : Un (frs X.stack) ch H H' s.heap h') (hok : HOk X.prog X.w H' h') (hg : AllBare g')
    (hch : ∀ b ∈ ch, (b ∈ X.ex ∨ X.s₀.heap.objs.size ≤ b) ∧ b ≠ X.env.locals ∧ (∀ x c, X.env.cells.lookup x = some c → c ≠ b) ∧ ∀ p ∈ X.pn ++ pins, p.1 ≠ b) :
    Inv X pins σ H' { s with heap := h', gens := g', drawn := d', toks := t' } := by
  obtain ⟨m, ⟨o, es, ep, ho, r⟩, _⟩ := id I.loc
  obtain ⟨sl, hL⟩ := u.any ho I.free fun z => (hch _ z).2.1 rfl
  exact I.step (ch := ch) hch (fun b o hL hb hc e n => u.keep b o e n (fun z => (List.mem_cons.mp (I.stkSub b z)).elim hL hb) hc) (fun b o _ _ hc e n => u.any e n hc) (fun b o hc e n => u.free b o e n hc) (fun b o hc e => u.there b o e hc) u.tups u.frzs u.tbls (fun m' hm => by
    obtain ⟨o', es', ep', ho', r'⟩ := hm
    rw [ho] at ho'; cases ho'
    exact ⟨_, es', ep', hL, r'⟩) hok hg
theorem Inv.turned {t' : Nat} {it : Addr} (I : Inv X pins σ H s) (k : ∀ b o, b ≠ it → s.heap.get? b = some o → h'.get? b = some o) (hn : H it = none) (hL : it ≠ X.env.locals)
    (h1 : it ∈ X.ex ∨ X.s₀.heap.objs.size ≤ it) (h2 : ∀ x c, X.env.cells.lookup x = some c → c ≠ it) (h3 : ∀ p ∈ X.pn ++ pins, p.1 ≠ it) : Inv X pins σ H { s with heap := h', toks := t' } := by
  have nit : ∀ b u, H b = some u → b ≠ it := fun b u e z => by rw [z, hn] at e; cases e
  refine I.step (g' := s.gens) (d' := s.drawn) (ch := [it]) (fun b hb => ?_) (fun b o _ _ hc e _ => k b o (fun z => hc (by simp [z])) e) (fun b o _ _ hc e _ => ⟨o.slots, k b o (fun z => hc (by simp [z])) e⟩) (fun _ _ _ _ n => n)
    (fun b o hc e => ⟨o, k b o (fun z => hc (by simp [z])) e⟩) (fun _ _ e => e) (fun _ _ _ e => e) (fun b ps e => ⟨#[], by rw [e]; simp⟩) (fun m hm => ?_) (fun b u e => ?_) I.bare
  · have e : b = it := by simpa using hb
    subst e
    exact ⟨h1, hL, h2, h3⟩
  · obtain ⟨o, es, ep, ho, r⟩ := hm
    exact ⟨o, es, ep, k _ o (Ne.symm hL) ho, r⟩
  · refine (I.hok b u e).stay (fun c v hc q => k c v ?_ q) (fun _ q => q) fun _ _ q => q
    rcases hc with z | z
    · rw [z]; exact nit b u e
    · exact nit c _ z
theorem Inv.tok (I : Inv X pins σ H s) (t : Nat) : Inv X pins σ H { s with toks := t } := I.un (h' := s.heap) (t' := t) Un.refl I.hok
theorem Inv.kept {t' : Nat} (I : Inv X pins σ H s) (k : ∀ b u, s.heap.get? b = some u → h'.get? b = some u) : Inv X pins σ H { s with heap := h', toks := t' } := I.un (Un.kept k) (I.hok.kept k)
theorem Inv.laid {a : Addr} {o : HO} {t' : Nat} (I : Inv X pins σ H s) (k : ∀ b u, s.heap.get? b = some u → h'.get? b = some u) (hp : s.heap.objs.size ≤ a) (new : ObjOk X.prog X.w (upd H a o) h' a o) :
    Inv X pins σ (upd H a o) { s with heap := h', toks := t' } := I.un (Un.laid k hp (I.hok.fresh hp)) (I.hok.laid k hp new)
theorem Inv.write {x e : Addr} {o : HO} {t' : Nat} (I : Inv X pins σ H s) (mu : Mut (H x)) (he : e = x ∨ H e = some (.own x)) (k : ∀ b u, b ≠ e → s.heap.get? b = some u → h'.get? b = some u) (heo : ∃ u, h'.get? e = some u)
    (new : ObjOk X.prog X.w (upd H x o) h' x o) : Inv X pins σ (upd H x o) { s with heap := h', toks := t' } := I.un (Un.write mu he k heo) (I.hok.write mu he k heo new)
theorem Inv.weak {σ' : List (Option V)} (I : Inv X pins σ H s) (hl : σ'.length = σ.length) (w : ∀ (i : Nat) v, σ'[i]? = some (some v) → σ[i]? = some (some v)) : Inv X pins σ' H s :=
  ⟨I.ok, I.os, I.bare, I.base, let ⟨m, hn, hl'⟩ := I.loc; ⟨m, hn, fun i x v e1 e2 e3 => hl' i x v e1 (w i v e2) e3⟩, I.cell, I.free, I.freeC, I.pin, I.hok, hl.trans I.len⟩
theorem Inv.pins_of {pins' : List (Addr × Obj)} (I : Inv X pins σ H s) (h : ∀ p ∈ pins', s.heap.get? p.1 = some p.2 ∧ H p.1 = none ∧ p.1 ≠ X.env.locals ∧ p.1 ∉ X.fs ∧ ∀ v, p.2.data ≠ .cell v) : Inv X pins' σ H s :=
  ⟨I.ok, I.os, I.bare, I.base, I.loc, I.cell, I.free, I.freeC, fun p hp => (List.mem_append.mp hp).elim (fun z => I.pin p (List.mem_append_left _ z)) (h p), I.hok, I.len⟩

theorem nodup_ix {N : List Str} (hN : N.Nodup) {i j : Nat} {x : Str} (a : N[i]? = some x) (b : N[j]? = some x) : i = j := by
  obtain ⟨h1, e1⟩ := List.getElem?_eq_some_iff.mp a
  obtain ⟨h2, e2⟩ := List.getElem?_eq_some_iff.mp b
  exact (List.getElem_inj hN).mp (e1.trans e2.symm)

theorem store_ok2 {M : Model} {A : Around} {E : Value → Shared → Prop} {i : Nat} {x : Str} {v : V} {u : Value} {Q : Unit → Shared → Prop} (I : Inv X pins σ H s) (hN : X.N.Nodup) (hi : X.N[i]? = some x) (hx : Loc X.env.scope x) (r : RelV v u)
    (h : ∀ s', Inv X pins (σ.set i (some v)) H s' → (∃ a, Heap.SameBut a s.heap s'.heap ∧ (a = X.env.locals ∨ X.env.cells.lookup x = some a)) → Q () s') (hf : X.fn x = true ∨ X.env.scope.names.lookup x = some .local := by first | exact .inl rfl | exact .inr rfl | assumption) : wpAny M A (storeName X.env x u) Q E s := by
  obtain ⟨m, hn, hl⟩ := id I.loc
  have hcls : (X.env.scope.kind == .class || (X.env.scope.kind == .module && X.env.locals != X.env.globals)) = false := by rw [I.ok.kind]; rfl
  have hiσ : i < σ.length := by rw [I.len]; exact (List.getElem?_eq_some_iff.mp hi).1
  have cne := I.cne
  have tracked : ∀ {a : Addr} {h' : Heap}, (∃ o, s.heap.get? a = some o ∧ H a = none) → Heap.SameBut a s.heap h' → HOk X.prog X.w H h' := fun {a h'} ha hs b ob e => by
    obtain ⟨_, _, hfree⟩ := ha
    refine (I.hok b ob e).stay (fun c w' hc q => (hs.2 c ?_).trans q) (fun _ q => q) fun _ _ q => q
    rintro rfl
    rcases hc with rfl | hc
    · rw [hfree] at e; cases e
    · rw [hfree] at hc; cases hc
  rcases hx with hk | hk
  · refine wpAny_storeName_local hk hn (fun h' hn' hs => ?_) hcls
    obtain ⟨oL, _, _, hoL, _⟩ := id hn
    refine h _ ⟨I.ok, I.os, I.bare, ⟨fun b o e n hb hx => ?_, fun b o e n hb hx => ?_, I.base.free, fun b o e hx => ?_, I.base.tups, I.base.frzs, I.base.tbls⟩, ⟨_, hn', fun j y v' e1 e2 e3 => ?_⟩, fun y c e => ?_, I.free, I.freeC, fun p hp => ?_, tracked ⟨oL, hoL, I.free⟩ hs, by simpa using I.len⟩ ⟨_, hs, .inl rfl⟩
    · exact (hs.2 b (Nat.ne_of_lt (Nat.lt_of_lt_of_le (Heap.lt_size e) I.ok.above))).trans (I.base.keep b o e n hb hx)
    · obtain ⟨sl, e1⟩ := I.base.slot b o e n hb hx
      exact ⟨sl, (hs.2 b (Nat.ne_of_lt (Nat.lt_of_lt_of_le (Heap.lt_size e) I.ok.above))).trans e1⟩
    · obtain ⟨o', e1⟩ := I.base.there b o e hx
      exact ⟨o', (hs.2 b (Nat.ne_of_lt (Nat.lt_of_lt_of_le (Heap.lt_size e) I.ok.above))).trans e1⟩
    · by_cases hj : j = i
      · subst hj
        rw [hi] at e1; cases e1
        rw [List.getElem?_set_self hiσ] at e2
        cases e2
        exact ⟨u, r, .inl ⟨hk, by simp⟩⟩
      · rw [List.getElem?_set_ne (Ne.symm hj)] at e2
        obtain ⟨u', r', q⟩ := hl j y v' e1 e2 e3
        refine ⟨u', r', ?_⟩
        rcases q with ⟨k, e⟩ | ⟨k, c, e, z⟩
        · refine .inl ⟨k, ?_⟩
          have : y ≠ x := fun e => hj (nodup_ix hN e1 (e ▸ hi))
          simp [this, e]
        · exact .inr ⟨k, c, e, z.sameBut hs (cne y c e)⟩
    · obtain ⟨w', z⟩ := I.cell y c e
      exact ⟨w', z.sameBut hs (cne y c e)⟩
    · obtain ⟨e, n, ne, nf, d⟩ := I.pin p hp
      exact ⟨(hs.2 p.1 ne).trans e, n, ne, nf, d⟩
  · have hfn : X.fn x = true := by
      rcases hf with z | z
      · exact z
      · rw [z] at hk; cases hk
    obtain ⟨c, hc⟩ := I.ok.has x (.inl hk)
    obtain ⟨w', z⟩ := I.cell x c hc
    refine wpAny_storeName_cell I.ok.kind hk hc z (fun h' hc' hs => ?_)
    obtain ⟨oc, hoc, hocd⟩ := id z
    refine h { s with heap := h' } ⟨I.ok, I.os, I.bare, ⟨fun b o e n hb hx => ?_, fun b o e n hb hx => ?_, I.base.free, fun b o e hx => ?_, I.base.tups, I.base.frzs, I.base.tbls⟩, ⟨m, hn.sameBut hs (Ne.symm (cne x c hc)), fun j y v' e1 e2 e3 => ?_⟩, fun y c' e => ?_, I.free, I.freeC, fun p hp => ?_, tracked ⟨oc, hoc, I.freeC x c hc⟩ hs, by simpa using I.len⟩ ⟨c, hs, .inr hc⟩
    · exact (hs.2 b (Nat.ne_of_lt (Nat.lt_of_lt_of_le (Heap.lt_size e) (I.ok.cab x c hfn hc)))).trans (I.base.keep b o e n hb hx)
    · obtain ⟨sl, e1⟩ := I.base.slot b o e n hb hx
      exact ⟨sl, (hs.2 b (Nat.ne_of_lt (Nat.lt_of_lt_of_le (Heap.lt_size e) (I.ok.cab x c hfn hc)))).trans e1⟩
    · obtain ⟨o', e1⟩ := I.base.there b o e hx
      exact ⟨o', (hs.2 b (Nat.ne_of_lt (Nat.lt_of_lt_of_le (Heap.lt_size e) (I.ok.cab x c hfn hc)))).trans e1⟩
    · by_cases hj : j = i
      · subst hj
        rw [hi] at e1; cases e1
        rw [List.getElem?_set_self hiσ] at e2
        cases e2
        exact ⟨u, r, .inr ⟨.inl hk, c, hc, hc'⟩⟩
      · rw [List.getElem?_set_ne (Ne.symm hj)] at e2
        obtain ⟨u', r', q⟩ := hl j y v' e1 e2 e3
        refine ⟨u', r', ?_⟩
        rcases q with q | ⟨k, c', e, z'⟩
        · exact .inl q
        · refine .inr ⟨k, c', e, z'.sameBut hs ?_⟩
          rintro rfl
          exact hj (nodup_ix hN e1 (I.ok.inj _ _ _ e hc ▸ hi))
    · by_cases hcc : c' = c
      · subst hcc; exact ⟨_, hc'⟩
      · obtain ⟨w2, z2⟩ := I.cell y c' e
        exact ⟨w2, z2.sameBut hs hcc⟩
    · obtain ⟨e, n, ne, nf, d⟩ := I.pin p hp
      refine ⟨(hs.2 p.1 ?_).trans e, n, ne, nf, d⟩
      intro q
      rw [q, hoc] at e
      have q' : oc = p.2 := Option.some.inj e
      exact d w' (by rw [← q']; exact hocd)
theorem store_ok {M : Model} {A : Around} {E : Value → Shared → Prop} {i : Nat} {x : Str} {v : V} {u : Value} {Q : Unit → Shared → Prop} (I : Inv X pins σ H s) (hN : X.N.Nodup) (hi : X.N[i]? = some x) (hx : Loc X.env.scope x) (r : RelV v u)
    (h : ∀ s', Inv X pins (σ.set i (some v)) H s' → Q () s') (hf : X.fn x = true ∨ X.env.scope.names.lookup x = some .local := by first | exact .inl rfl | exact .inr rfl | assumption) : wpAny M A (storeName X.env x u) Q E s :=
  store_ok2 I hN hi hx r (fun s' I' _ => h s' I') hf
theorem Inv.call' {s' : Shared} {ch : List Addr} (I : Inv X pins σ H s) (ho : s'.os = s.os) (u : Un (frs X.stack) ch H H' s.heap s'.heap) (hok : HOk X.prog X.w H' s'.heap) (hg : AllBare s'.gens)
    (hch : ∀ b ∈ ch, (b ∈ X.ex ∨ X.s₀.heap.objs.size ≤ b) ∧ b ≠ X.env.locals ∧ (∀ x c, X.env.cells.lookup x = some c → c ≠ b) ∧ ∀ p ∈ X.pn ++ pins, p.1 ≠ b) : Inv X pins σ H' s' := by
  obtain ⟨h', g', d', t', o'⟩ := s'
  have e : o' = s.os := ho
  subst e
  exact I.call (g' := g') (t' := t') (d' := d') u hok hg hch
end

abbrev XK := Value → Option Addr → Hp → Prop
abbrev St := List (Option V)
abbrev VK := V → Hp → Prop
abbrev TE := St → Hp → VK → Prop
abbrev TT := St → Hp → (Bool → Hp → Prop) → Prop
abbrev TA := St → Hp → (List V → Hp → Prop) → Prop
structure Ends where
  nx : St → Hp → Prop
  rt : VK
  bk : St → Hp → Prop := fun _ _ => False
  ct : St → Hp → Prop := fun _ _ => False
abbrev TS := Ends → St → Hp → Prop

def EP (X : Cx) (pins : List (Addr × Obj)) (σ : St) (Q : VK) (u : Value) (s' : Shared) : Prop := ∃ v H', Inv X pins σ H' s' ∧ RelV v u ∧ Q v H'
def TP (X : Cx) (pins : List (Addr × Obj)) (σ : St) (Q : Bool → Hp → Prop) (b : Bool) (s' : Shared) : Prop := ∃ H', Inv X pins σ H' s' ∧ Q b H'
def AP (X : Cx) (pins : List (Addr × Obj)) (σ : St) (Q : List V → Hp → Prop) (us : List Value) (s' : Shared) : Prop := ∃ vs H', Inv X pins σ H' s' ∧ Vals vs us ∧ Q vs H'
def SP (X : Cx) (pins : List (Addr × Obj)) (D : Ends) (f : Flow) (s' : Shared) : Prop :=
  match f with
  | .next => ∃ σ' H', Inv X pins σ' H' s' ∧ D.nx σ' H'
  | .brk => ∃ σ' H', Inv X pins σ' H' s' ∧ D.bk σ' H'
  | .cont => ∃ σ' H', Inv X pins σ' H' s' ∧ D.ct σ' H'
  | .ret u => ∃ v σ' H', Inv X pins σ' H' s' ∧ RelV v u ∧ D.rt v H'

def PE (X : Cx) (e : Expr) (t : TE) : Prop :=
  ∀ (pins : List (Addr × Obj)) (s : Shared) (σ : St) (H : Hp) (Q : VK), Inv X pins σ H s → t σ H Q → wpAny (model X.prog X.w) X.A (eval e X.env) (EP X pins σ Q) X.xe s
def PT (X : Cx) (e : Expr) (t : TT) : Prop :=
  ∀ (pins : List (Addr × Obj)) (s : Shared) (σ : St) (H : Hp) (Q : Bool → Hp → Prop), Inv X pins σ H s → t σ H Q → wpAny (model X.prog X.w) X.A (isTrue e X.env (eval e X.env)) (TP X pins σ Q) X.xe s
def PW (X : Cx) (e : Expr) (t : TT) : Prop :=
  ∀ (whole : Sem Value) (pins : List (Addr × Obj)) (s : Shared) (σ : St) (H : Hp) (Q : Bool → Hp → Prop), Inv X pins σ H s → t σ H Q → wpAny (model X.prog X.w) X.A (isTrue e X.env whole) (TP X pins σ Q) X.xe s
theorem PW.pt {X : Cx} {e : Expr} {t : TT} (h : PW X e t) : PT X e t := h _
def PA (X : Cx) (es : List Expr) (t : TA) : Prop :=
  ∀ (pos : Pos) (pins : List (Addr × Obj)) (s : Shared) (σ : St) (H : Hp) (Q : List V → Hp → Prop), Inv X pins σ H s → t σ H Q → wpAny (model X.prog X.w) X.A (spliced (backTo pos (starEach es X.env))) (AP X pins σ Q) X.xe s
def PS (X : Cx) (st : Stmt) (t : TS) : Prop :=
  ∀ (pins : List (Addr × Obj)) (s : Shared) (σ : St) (H : Hp) (D : Ends), Inv X pins σ H s → t D σ H → wpAny (model X.prog X.w) X.A (exec st X.env) (SP X pins D) X.xe s
def PSs (X : Cx) (st : List Stmt) (t : TS) : Prop :=
  ∀ (pins : List (Addr × Obj)) (s : Shared) (σ : St) (H : Hp) (D : Ends), Inv X pins σ H s → t D σ H → wpAny (model X.prog X.w) X.A (execs st X.env) (SP X pins D) X.xe s
theorem thn {α : Type} {t : Sem α} {Q Q' : α → Shared → Prop} {M : Model} {A : Around} {E : Value → Shared → Prop} {s : Shared} (h : wpAny M A t Q E s) (hQ : ∀ a s, Q a s → Q' a s) : wpAny M A t Q' E s := wpAny_mono h hQ fun _ _ x => x
end L2

namespace L2
open PySem PySem.Spec PyProof.Rows
section
variable {X : Cx}

def tVar (i : Nat) : TE := fun σ H Q => ∃ v, σ[i]? = some (some v) ∧ Q v H
def tC (v : V) : TE := fun _ H Q => Q v H
theorem pe_var {i : Nat} {x : Str} {pos : Pos} (hN : X.N[i]? = some x) (hv : Vis X.env.scope x) (hd : (x == ("__debug__" : Str)) = false := by decide) (hcd : (x == ("__classdict__" : Str)) = false := by decide) : PE X (.Name x pos) (tVar i) := by
  intro pins s σ H Q I h
  obtain ⟨v, e, h⟩ := h
  obtain ⟨m, hn, hl⟩ := I.loc
  obtain ⟨u, r, l⟩ := hl i x v hN e hv
  have fin : EP X pins σ Q u s := ⟨v, H, I, r, h⟩
  rcases l with ⟨hk, hm⟩ | ⟨hk, c, hc, hcell⟩
  · exact wpAny_Name (wpAny_loadName_local I.ok.kind hk hn hm fin) hd
  · rcases hk with hk | hk
    · exact wpAny_Name (wpAny_loadName_cell I.ok.kind hk hc hcell fin) hd
    · exact wpAny_Name (wpAny_loadName_free I.ok.kind hk hc hcell fin hcd) hd
theorem pe_int {i j pos} : PE X (.Constant (.int i) j pos) (tC (.int i)) := fun _ _ _ H _ I h => wpAny_Constant_int ⟨.int i, H, I.tok _, ⟨_, rfl⟩, h⟩
theorem pe_bl {b j pos} : PE X (.Constant (.bool b) j pos) (tC (.bl b)) := fun _ _ _ H _ I h => Constant_bool ⟨.bl b, H, I, rfl, h⟩
theorem pe_non {j pos} : PE X (.Constant .none j pos) (tC .non) := fun _ _ _ H _ I h => Constant_none ⟨.non, H, I, rfl, h⟩
theorem pe_str {x j pos} : PE X (.Constant (.str x) j pos) (tC (.str x)) := fun _ _ _ H _ I h => Calls.Constant_str ⟨.str x, H, I.tok _, ⟨_, rfl⟩, h⟩

def Gl (X : Cx) (x : Str) : Prop := X.env.kindOf x = some .globalImplicit
theorem ld_glob {E : Value → Shared → Prop} {pins : List (Addr × Obj)} {s : Shared} {σ : St} {H : Hp} {x : Str} {u : Value} {pos : Pos} {Q : Value → Shared → Prop} (I : Inv X pins σ H s) (hg : Gl X x) (hm : X.mg x = some u) (h : Q u s)
    (hd : (x == ("__debug__" : Str)) = false := by decide) : wpAny (model X.prog X.w) X.A (eval (.Name x pos) X.env) Q E s :=
  Calls.Name_function_global I.ok.kind hg (Calls.loadGlobal_global (by rw [I.ok.glob]; exact I.mod.glob.keeps I.bk) hm h) hd
theorem ld_blt {E : Value → Shared → Prop} {pins : List (Addr × Obj)} {s : Shared} {σ : St} {H : Hp} {x : Str} {u : Value} {pos : Pos} {Q : Value → Shared → Prop} (I : Inv X pins σ H s) (hg : Gl X x) (hm : X.mg x = none) (hv : bootBuiltins x = some u) (h : Q u s)
    (hn : x ≠ "__name__" := by decide) (hd : (x == ("__debug__" : Str)) = false := by decide) : wpAny (model X.prog X.w) X.A (eval (.Name x pos) X.env) Q E s := by
  obtain ⟨mb, h1, h2⟩ := I.mod.blt
  exact Calls.Name_function_global I.ok.kind hg (Calls.loadGlobal_builtin (by rw [I.ok.glob]; exact I.mod.glob.keeps I.bk) hm (by rw [I.ok.blt]; exact h1.keeps I.bk) ((h2 x hn).trans hv) h) hd
theorem pe_glob {x : Str} {v : V} {u : Value} {pos : Pos} (hg : Gl X x) (hm : X.mg x = some u) (r : RelV v u) (hd : (x == ("__debug__" : Str)) = false := by decide) : PE X (.Name x pos) (tC v) :=
  fun _ _ _ H _ I h => ld_glob I hg hm ⟨v, H, I, r, h⟩ hd
theorem pe_bltn {x : Str} {v : V} {u : Value} {pos : Pos} (hg : Gl X x) (hm : X.mg x = none) (hv : bootBuiltins x = some u) (r : RelV v u) (hn : x ≠ "__name__" := by decide) (hd : (x == ("__debug__" : Str)) = false := by decide) : PE X (.Name x pos) (tC v) :=
  fun _ _ _ H _ I h => ld_blt I hg hm hv ⟨v, H, I, r, h⟩ hn hd

def t2I (ta tb : TE) (k : Int → Int → Hp → Prop) : St → Hp → Prop := fun σ H => ta σ H fun x H1 => tb σ H1 fun y H2 => ∃ i j, x = .int i ∧ y = .int j ∧ k i j H2
variable {a b : Expr} {ta tb : TE} {pos : Pos}
def tCmp (p : Int → Int → Bool) (ta tb : TE) : TE := fun σ H Q => t2I ta tb (fun i j H2 => Q (.bl (p i j)) H2) σ H
def tB (t : TE) : TT := fun σ H Q => t σ H fun x H1 => ∃ c, x = .bl c ∧ Q c H1
theorem pt_val {e : Expr} {t : TE} (h : PE X e t) (he : ∀ whole, isTrue e X.env whole = (do let v ← whole; standAt e.pos; holding [v] (truthy v)) := by intro _; rfl) : PT X e (tB t) := by
  intro pins s σ H Q I hw
  refine isTrue_plain (thn (h pins s σ H _ I hw) fun v s1 ⟨x, H1, I1, r1, q1⟩ => ?_) (he _)
  obtain ⟨d, rfl, q⟩ := q1
  cases r1
  exact wpAny_truthy_bool ⟨H1, I1, q⟩

variable {tA tB' : TT} {rest : List Expr}
def tAnd (t u : TT) : TT := fun σ H Q => t σ H fun c H1 => if c = true then u σ H1 Q else Q false H1
def tOr (t u : TT) : TT := fun σ H Q => t σ H fun c H1 => if c = true then Q true H1 else u σ H1 Q
def tNot (t : TT) : TT := fun σ H Q => t σ H fun c H1 => Q (!c) H1
theorem pw_and1 (ha : PT X a tA) : PW X (.BoolOp .And [a] pos) tA := by
  intro wh pins s σ H Q I h
  refine isTrue_and (thn (ha pins s σ H Q I h) fun c s1 e => ?_)
  cases c with
  | true => exact isTrue_and_nil e
  | false => exact e
theorem pw_or1 (ha : PT X a tA) : PW X (.BoolOp .Or [a] pos) tA := by
  intro wh pins s σ H Q I h
  refine isTrue_or (thn (ha pins s σ H Q I h) fun c s1 e => ?_)
  cases c with
  | false => exact isTrue_or_nil e
  | true => exact e
theorem pw_and (ha : PT X a tA) (hb : PW X (.BoolOp .And (b :: rest) pos) tB') : PW X (.BoolOp .And (a :: b :: rest) pos) (tAnd tA tB') := by
  intro wh pins s σ H Q I h
  refine isTrue_and (thn (ha pins s σ H _ I h) fun c s1 ⟨H1, I1, q1⟩ => ?_)
  cases c with
  | true => exact hb wh pins s1 σ H1 Q I1 q1
  | false => exact ⟨H1, I1, q1⟩
theorem pw_or (ha : PT X a tA) (hb : PW X (.BoolOp .Or (b :: rest) pos) tB') : PW X (.BoolOp .Or (a :: b :: rest) pos) (tOr tA tB') := by
  intro wh pins s σ H Q I h
  refine isTrue_or (thn (ha pins s σ H _ I h) fun c s1 ⟨H1, I1, q1⟩ => ?_)
  cases c with
  | true => exact ⟨H1, I1, q1⟩
  | false => exact hb wh pins s1 σ H1 Q I1 q1
theorem pt_not (ha : PT X a tA) : PT X (.UnaryOp .Not a pos) (tNot tA) := by
  intro pins s σ H Q I h
  exact isTrue_not (ha pins s σ H (fun c H1 => Q (!c) H1) I h)
def tAndV (ta tb : TE) : TE := fun σ H Q => ta σ H fun x H1 => ∃ c, x = .bl c ∧ if c = true then tb σ H1 Q else Q (.bl false) H1
def tOrV (ta tb : TE) : TE := fun σ H Q => ta σ H fun x H1 => ∃ c, x = .bl c ∧ if c = true then Q (.bl true) H1 else tb σ H1 Q
def tNotV (ta : TE) : TE := fun σ H Q => ta σ H fun x H1 => ∃ c, x = .bl c ∧ Q (.bl (!c)) H1
theorem pe_one {op} {t : TE} (h : PE X a t) : PE X (.BoolOp op [a] pos) t := fun pins s σ H Q I hw => BoolOp_one (h pins s σ H Q I hw)
theorem pe_and (ha : PE X a ta) (hb : PE X (.BoolOp .And (b :: rest) pos) tb) : PE X (.BoolOp .And (a :: b :: rest) pos) (tAndV ta tb) := by
  intro pins s σ H Q I h
  refine BoolOp_and (thn (ha pins s σ H _ I h) fun v s1 ⟨x, H1, I1, r1, q1⟩ => ?_)
  obtain ⟨c, rfl, q1⟩ := q1
  cases r1
  refine wpAny_truthy_bool ?_
  cases c with
  | true => exact hb pins s1 σ H1 Q I1 q1
  | false => exact ⟨.bl false, H1, I1, rfl, q1⟩
theorem pe_or (ha : PE X a ta) (hb : PE X (.BoolOp .Or (b :: rest) pos) tb) : PE X (.BoolOp .Or (a :: b :: rest) pos) (tOrV ta tb) := by
  intro pins s σ H Q I h
  refine BoolOp_or (thn (ha pins s σ H _ I h) fun v s1 ⟨x, H1, I1, r1, q1⟩ => ?_)
  obtain ⟨c, rfl, q1⟩ := q1
  cases r1
  refine wpAny_truthy_bool ?_
  cases c with
  | false => exact hb pins s1 σ H1 Q I1 q1
  | true => exact ⟨.bl true, H1, I1, rfl, q1⟩
theorem pe_not (ha : PE X a ta) : PE X (.UnaryOp .Not a pos) (tNotV ta) := by
  intro pins s σ H Q I h
  refine UnaryOp_ (thn (ha pins s σ H _ I h) fun v s1 ⟨x, H1, I1, r1, q1⟩ => ?_)
  obtain ⟨c, rfl, q1⟩ := q1
  cases r1
  exact not_of (wpAny_truthy_bool ⟨.bl (!c), H1, I1, rfl, q1⟩)
def tIf (t : TT) (ta tb : TE) : TE := fun σ H Q => t σ H fun c H1 => if c = true then ta σ H1 Q else tb σ H1 Q
theorem pe_ifExp {c : Expr} (hc : PT X c tA) (ha : PE X a ta) (hb : PE X b tb) : PE X (.IfExp c a b pos) (tIf tA ta tb) := by
  intro pins s σ H Q I h
  refine wpAny_IfExp (thn (hc pins s σ H _ I h) fun d s1 ⟨H1, I1, q1⟩ => ?_)
  cases d with
  | true => exact ha pins s1 σ H1 Q I1 q1
  | false => exact hb pins s1 σ H1 Q I1 q1
end
end L2

namespace L2
open PySem PySem.Spec PyProof.Rows

def SqL (K : PySem.W.Frag) (H : Hp) (a : Addr) (xs : List V) : Prop :=
  Rd H a (.lst xs) ∨
    ∃ (o : Obj) (its : Array Value) (n : Nat), K.lookup a = some o ∧ o.cls = .type "list" ∧ o.dict = none ∧ o.data = .seq its n ∧ its.size ≤ sizeLine ∧ Vals xs its.toList
def SqT (K : PySem.W.Frag) (H : Hp) (a : Addr) (xs : List V) : Prop :=
  Rd H a (.tup xs) ∨
    ∃ (o : Obj) (its : Array Value) (n : Nat), K.lookup a = some o ∧ o.cls = .type "tuple" ∧ o.data = .seq its n ∧ its.size ≤ sizeLine ∧ Vals xs its.toList
def absV : Value → Option V
  | .none => some .non
  | .bool b => some (.bl b)
  | .int i _ => some (.int i)
  | .str x _ => some (.str x)
  | .bytes b _ => some (.byt b)
  | .float b _ => some (.flt b)
  | .ref a => some (.ref a)
  | .type n => some (.ty n)
  | _ => none
theorem RelV.abs {x : V} {u : Value} (r : RelV x u) : absV u = some x := by
  cases x with
  | non => cases r; rfl
  | bl _ => cases r; rfl
  | int _ => obtain ⟨t, rfl⟩ := r; rfl
  | str _ => obtain ⟨t, rfl⟩ := r; rfl
  | byt _ => obtain ⟨t, rfl⟩ := r; rfl
  | flt _ => obtain ⟨t, rfl⟩ := r; rfl
  | ref _ => cases r; rfl
  | ty _ => cases r; rfl
theorem RelV.inj {x y : V} {u : Value} (r : RelV x u) (q : RelV y u) : x = y := Option.some.inj (r.abs.symm.trans q.abs)
theorem Vals.inj : ∀ {xs ys : List V} {us : List Value}, Vals xs us → Vals ys us → xs = ys
  | _, _, _, .nil, .nil => rfl
  | _, _, _, .cons r t, .cons r' t' => by rw [r.inj r', Vals.inj t t']
section
variable {X : Cx} {pins : List (Addr × Obj)} {σ : St} {H : Hp} {s : Shared} {a : Addr} {xs ys : List V}
theorem SqL.of {K : PySem.W.Frag} (h : H a = some (.lst xs)) : SqL K H a xs := .inl (.inl h)
theorem SqT.of {K : PySem.W.Frag} (h : H a = some (.tup xs)) : SqT K H a xs := .inl (.inl h)
theorem Inv.list (I : Inv X pins σ H s) (h : SqL X.K H a xs) : ∃ its : List Value, Vals xs its ∧ PlainL s.heap a its.toArray ∧ xs.length ≤ sizeLine := by
  rcases h with h | ⟨o, its, n, hk, hc, hd, hs, hz, r⟩
  · obtain ⟨z, its, n, r, e⟩ := h.ok I.hok
    exact ⟨its, r, ⟨_, n, e, rfl, rfl, rfl⟩, z⟩
  · refine ⟨its.toList, r, ⟨o, n, I.kIn a o hk, hc, hd, by simpa using hs⟩, ?_⟩
    have e := r.length
    simp only [Array.length_toList] at e
    omega
theorem Inv.tuple (I : Inv X pins σ H s) (h : SqT X.K H a xs) : ∃ its : List Value, Vals xs its ∧ IsTup s.heap a its.toArray ∧ xs.length ≤ sizeLine := by
  rcases h with h | ⟨o, its, n, hk, hc, hs, hz, r⟩
  · obtain ⟨z, its, r, p⟩ := h.ok I.hok
    exact ⟨its, r, p.tup, z⟩
  · refine ⟨its.toList, r, ⟨o, I.kIn a o hk, hc, n, by simpa using hs⟩, ?_⟩
    have e := r.length
    simp only [Array.length_toList] at e
    omega
theorem Inv.list_inj (I : Inv X pins σ H s) (h : SqL X.K H a xs) (h' : SqL X.K H a ys) : xs = ys := by
  obtain ⟨its, r, ⟨o, n, e, _, _, d⟩, _⟩ := I.list h
  obtain ⟨its', r', ⟨o', n', e', _, _, d'⟩, _⟩ := I.list h'
  rw [e] at e'; cases e'
  rw [d] at d'
  injection d' with d1 _
  have : its = its' := by simpa using congrArg Array.toList d1
  subst this
  exact r.inj r'
theorem Inv.tuple_inj (I : Inv X pins σ H s) (h : SqT X.K H a xs) (h' : SqT X.K H a ys) : xs = ys := by
  obtain ⟨its, r, ⟨o, e, _, n, d⟩, _⟩ := I.tuple h
  obtain ⟨its', r', ⟨o', e', _, n', d'⟩, _⟩ := I.tuple h'
  rw [e] at e'; cases e'
  rw [d] at d'
  injection d' with d1 _
  have : its = its' := by simpa using congrArg Array.toList d1
  subst this
  exact r.inj r'
end

abbrev Cx.wish (X : Cx) (E : Value → Shared → Prop) : Cx := { X with xe := E }
abbrev Cx.nox (X : Cx) : Cx := X.wish fun _ _ => False
theorem Cx.Ok.wish {X : Cx} (ok : X.Ok) (E : Value → Shared → Prop) : (X.wish E).Ok :=
  ⟨ok.mod, ok.kind, ok.glob, ok.blt, ok.above, ok.inj, ok.has, ok.cab, ok.hd, ok.frames, ok.stk, ok.exf, ok.bs, ok.bsz, ok.noex, ok.exfs, ok.funs, ok.frf⟩
theorem Cx.Ok.unwish {X : Cx} {E : Value → Shared → Prop} (ok : (X.wish E).Ok) : X.Ok :=
  ⟨ok.mod, ok.kind, ok.glob, ok.blt, ok.above, ok.inj, ok.has, ok.cab, ok.hd, ok.frames, ok.stk, ok.exf, ok.bs, ok.bsz, ok.noex, ok.exfs, ok.funs, ok.frf⟩
section
variable {X : Cx} {pins : List (Addr × Obj)} {σ : St} {H : Hp} {s : Shared} {E : Value → Shared → Prop}
theorem Inv.wish (I : Inv X pins σ H s) (E : Value → Shared → Prop) : Inv (X.wish E) pins σ H s := ⟨I.ok.wish E, I.os, I.bare, I.base, I.loc, I.cell, I.free, I.freeC, I.pin, I.hok, I.len⟩
theorem Inv.unwish (I : Inv (X.wish E) pins σ H s) : Inv X pins σ H s := ⟨I.ok.unwish, I.os, I.bare, I.base, I.loc, I.cell, I.free, I.freeC, I.pin, I.hok, I.len⟩
theorem SP.unwish {D : Ends} {f : Flow} {s' : Shared} (h : SP (X.wish E) pins D f s') : SP X pins D f s' := by
  cases f with
  | next => obtain ⟨σ', H', I, q⟩ := h; exact ⟨σ', H', I.unwish, q⟩
  | brk => obtain ⟨σ', H', I, q⟩ := h; exact ⟨σ', H', I.unwish, q⟩
  | cont => obtain ⟨σ', H', I, q⟩ := h; exact ⟨σ', H', I.unwish, q⟩
  | ret u => obtain ⟨v, σ', H', I, r, q⟩ := h; exact ⟨v, σ', H', I.unwish, r, q⟩
theorem PSs.nox {st : List Stmt} {t : TS} (h : PSs X.nox st t) : PSs X st t := fun pins s σ H D I hw =>
  wpAny_mono (h pins s σ H D (I.wish _) hw) (fun _ _ q => q.unwish) fun _ _ z => False.elim z
end

section
variable {X : Cx} {st : Stmt} {rest : List Stmt} {t u : TS} {e : Expr} {te : TE} {pos : Pos}
def tNext : TS := fun D σ H => D.nx σ H
def tSeq (t u : TS) : TS := fun D σ H => t { D with nx := u D } σ H
theorem pss_nil : PSs X [] tNext := fun _ _ σ H _ I h => wpAny_execs_nil ⟨σ, H, I, h⟩
theorem pss_cons (h1 : PS X st t) (h2 : PSs X rest u) : PSs X (st :: rest) (tSeq t u) := by
  intro pins s σ H D I h
  refine wpAny_execs_cons (thn (h1 pins s σ H { D with nx := u D } I h) fun f s1 q => ?_)
  cases f with
  | next =>
    obtain ⟨σ', H', I', q⟩ := q
    exact h2 pins s1 σ' H' D I' q
  | ret v => exact q
  | brk => exact q
  | cont => exact q
theorem pss_one (h1 : PS X st t) : PSs X [st] t := by
  intro pins s σ H D I h
  refine wpAny_execs_cons (thn (h1 pins s σ H D I h) fun f s1 q => ?_)
  cases f with
  | next => exact wpAny_execs_nil q
  | ret v => exact q
  | brk => exact q
  | cont => exact q
theorem Inv.quiet {pins : List (Addr × Obj)} {σ : St} {H : Hp} {s : Shared} (I : Inv X pins σ H s) : interactive X.env = false := by simp [interactive, I.ok.kind]
def tDrop (te : TE) : TS := fun D σ H => te σ H fun _ H1 => D.nx σ H1
theorem ps_expr (he : PE X e te) (hs : swapsWith e none pos.line X.env = pure false := by rfl) : PS X (.Expr e pos) (tDrop te) := by
  intro pins s σ H D I h
  exact wpAny_Expr_any (thn (he pins s σ H _ I h) fun v s1 ⟨x, H1, I1, r1, q1⟩ => ⟨σ, H1, I1, q1⟩) I.quiet hs
def tRet (te : TE) : TS := fun D σ H => te σ H D.rt
theorem ps_ret (he : PE X e te) : PS X (.Return (some e) pos) (tRet te) := by
  intro pins s σ H D I h
  exact wpAny_Return_some (thn (he pins s σ H _ I h) fun v s1 ⟨x, H1, I1, r1, q1⟩ => ⟨x, σ, H1, I1, r1, q1⟩)
def tIfS (c : TT) (t u : TS) : TS := fun D σ H => c σ H fun b H1 => if b = true then t D σ H1 else u D σ H1
theorem ps_if {c : Expr} {a b : List Stmt} {tc : TT} (hc : PT X c tc) (ha : PSs X a t) (hb : PSs X b u) : PS X (.If c a b pos) (tIfS tc t u) := by
  intro pins s σ H D I h
  refine wpAny_If (thn (hc pins s σ H _ I h) fun d s1 ⟨H1, I1, q1⟩ => ?_)
  cases d with
  | true => exact ha pins s1 σ H1 D I1 q1
  | false => exact hb pins s1 σ H1 D I1 q1
def tNever : TS := fun _ _ _ => False
theorem ps_never : PS X st tNever := fun _ _ _ _ _ _ h => h.elim
end

abbrev TG := V → St → Hp → (St → Hp → Prop) → Prop
abbrev TGs := List V → St → Hp → (St → Hp → Prop) → Prop
def PG (X : Cx) (target : Expr) (t : TG) : Prop :=
  ∀ (pins : List (Addr × Obj)) (s : Shared) (σ : St) (H : Hp) (v : V) (u : Value) (Q : St → Hp → Prop), Inv X pins σ H s → RelV v u → t v σ H Q →
    wpAny (model X.prog X.w) X.A (assign target X.env u) (fun _ s' => ∃ σ' H', Inv X pins σ' H' s' ∧ Q σ' H') X.xe s
def PGs (X : Cx) (ts : List Expr) (t : TGs) : Prop :=
  ∀ (pins : List (Addr × Obj)) (s : Shared) (σ : St) (H : Hp) (vs : List V) (us : List Value) (Q : St → Hp → Prop), Inv X pins σ H s → Vals vs us → t vs σ H Q →
    wpAny (model X.prog X.w) X.A (assignInOrder ((assignEach ts X.env).map (·.2)) us) (fun _ s' => ∃ σ' H', Inv X pins σ' H' s' ∧ Q σ' H') X.xe s
abbrev TSet := V → V → V → Hp → (Hp → Prop) → Prop
abbrev TIp := V → V → Hp → VK → Prop
def PIp (X : Cx) (op : Operator) (t : TIp) : Prop :=
  ∀ (pins : List (Addr × Obj)) (s : Shared) (σ : St) (H : Hp) (x y : V) (v u : Value) (Q : VK), Inv X pins σ H s → RelV x v → RelV y u → t x y H Q →
    wpAny (model X.prog X.w) X.A (inplaceOp op v u) (EP X pins σ Q) X.xe s
section
variable {X : Cx} {pos : Pos}
def gName (i : Nat) : TG := fun v σ H Q => Q (σ.set i (some v)) H
theorem pg_name {i : Nat} {x : Str} (hN : X.N.Nodup) (hi : X.N[i]? = some x) (hx : Loc X.env.scope x) (hf : X.fn x = true ∨ X.env.scope.names.lookup x = some .local := by first | exact .inl rfl | exact .inr rfl | assumption) : PG X (.Name x pos) (gName i) := by
  intro pins s σ H v u Q I r h
  exact wpAny_assign_Name (store_ok I hN hi hx r (fun s' I' => ⟨_, H, I', h⟩) hf)
def gNil : TGs := fun vs σ H Q => vs = [] ∧ Q σ H
def gCons (t : TG) (u : TGs) : TGs := fun vs σ H Q => ∃ v r, vs = v :: r ∧ t v σ H fun σ' H' => u r σ' H' Q
theorem pgs_nil : PGs X [] gNil := by
  intro pins s σ H vs us Q I r h
  obtain ⟨e, h⟩ := h
  subst e
  cases r
  exact assignInOrder_nil ⟨σ, H, I, h⟩
theorem pgs_cons {e : Expr} {es : List Expr} {t : TG} {u : TGs} (h1 : PG X e t) (h2 : PGs X es u)
    (hs : (assignEach (e :: es) X.env).map (·.2) = assign e X.env :: (assignEach es X.env).map (·.2) := by rfl) : PGs X (e :: es) (gCons t u) := by
  intro pins s σ H vs us Q I r h
  obtain ⟨v, vr, e1, h⟩ := h
  subst e1
  cases r with
  | cons r rr =>
    rw [hs]
    refine assignInOrder_cons (thn (h1 pins s σ H _ _ _ I r h) fun _ s1 ⟨σ1, H1, I1, q1⟩ => ?_)
    exact h2 pins s1 σ1 H1 _ _ Q I1 rr q1
def gTup (K : PySem.W.Frag) (n : Nat) (t : TGs) : TG := fun v σ H Q => ∃ a xs, v = .ref a ∧ SqT K H a xs ∧ xs.length = n ∧ t xs σ H Q
theorem pg_tup {es : List Expr} {k : Nat} {t : TGs} {n : Nat} (hc : X.calm = true) (h : PGs X es t)
    (hn : (assignEach es X.env).length = n := by rfl) (hst : (assignEach es X.env).findIdx? (·.1) = none := by rfl) : PG X (.Tuple es k pos) (gTup X.K n t) := by
  intro pins s σ H v u Q I r hw
  obtain ⟨a, xs, e1, hq, hl, hw⟩ := hw
  subst e1
  cases r
  obtain ⟨its, rv, ht, hz⟩ := I.tuple hq
  refine assign_Tuple_tuple (I.ok.hd hc) ht (by simp [hn, ← hl, rv.length]) hst fun h' hx => ?_
  have I1 : Inv X pins σ H { s with heap := h' } := I.kept (t' := s.toks) fun b o e => hx b o (Nat.ne_of_lt (Heap.lt_size e)) e
  exact h pins _ σ H xs _ Q I1 (by simpa using rv) hw
def tAsg (te : TE) (g : TG) : TS := fun D σ H => te σ H fun x H1 => g x σ H1 D.nx
theorem ps_asg {tg e : Expr} {te : TE} {g : TG} (he : PE X e te) (hg : PG X tg g) (hs : swapsWithSole [tg] e pos.line X.env = pure false := by rfl) (hw : swappedStores [tg] e X.env = pure none := by rfl)
    (h1 : (assignEach [tg] X.env).map (·.2) = [assign tg X.env] := by rfl) : PS X (.Assign [tg] e pos) (tAsg te g) := by
  intro pins s σ H D I h
  refine wpAny_Assign_stores (thn (he pins s σ H _ I h) fun v s1 ⟨x, H1, I1, r1, q1⟩ => ?_) hs hw
  rw [h1]
  exact thn (hg pins s1 σ H1 x v _ I1 r1 q1) fun _ s2 q => q
theorem ps_set {i : Nat} {x : Str} {e : Expr} {te : TE} {pos' : Pos} (hN : X.N.Nodup) (hi : X.N[i]? = some x) (hx : Loc X.env.scope x) (he : PE X e te) (hs : swapsWith e (some (.Name x pos')) pos.line X.env = pure false := by rfl) (hf : X.fn x = true ∨ X.env.scope.names.lookup x = some .local := by first | exact .inl rfl | exact .inr rfl | assumption) :
    PS X (.Assign [.Name x pos'] e pos) (tAsg te (gName i)) := by
  intro pins s σ H D I h
  refine wpAny_Assign_Name (thn (he pins s σ H _ I h) fun v s1 ⟨y, H1, I1, r1, q1⟩ => ?_) hs
  exact store_ok I1 hN hi hx r1 (fun s2 I2 => ⟨_, H1, I2, q1⟩) hf
def tAug (i : Nat) (te : TE) (ti : TIp) : TS := fun D σ H => ∃ x, σ[i]? = some (some x) ∧ te σ H fun y H1 => ti x y H1 fun z H2 => D.nx (σ.set i (some z)) H2
theorem ps_aug {i : Nat} {x : Str} {e : Expr} {te : TE} {op : Operator} {ti : TIp} {pos' : Pos} (hN : X.N.Nodup) (hi : X.N[i]? = some x) (hx : Loc X.env.scope x) (he : PE X e te) (ho : PIp X op ti) (hf : X.fn x = true ∨ X.env.scope.names.lookup x = some .local := by first | exact .inl rfl | exact .inr rfl | assumption) :
    PS X (.AugAssign (.Name x pos') op e pos) (tAug i te ti) := by
  intro pins s σ H D I h
  obtain ⟨v, e1, h⟩ := h
  obtain ⟨m, hn, hl⟩ := I.loc
  have vis : Vis X.env.scope x := by rcases hx with k | k; exact .inl k; exact .inr (.inl k)
  obtain ⟨u, r, l⟩ := hl i x v hi e1 vis
  refine wpAny_AugAssign_Name ?_
  have go : wpAny (model X.prog X.w) X.A (eval e X.env) (fun w s₂ => wpAny (model X.prog X.w) X.A (inplaceOp op u w) (fun r s₃ => wpAny (model X.prog X.w) X.A (storeName X.env x r) (fun _ => SP X pins D .next) X.xe s₃) X.xe s₂) X.xe s := by
    refine thn (he pins s σ H _ I h) fun w s1 ⟨y, H1, I1, r1, q1⟩ => ?_
    refine thn (ho pins s1 σ H1 v y u w _ I1 r r1 q1) fun z s2 ⟨zv, H2, I2, r2, q2⟩ => ?_
    exact store_ok I2 hN hi hx r2 (fun s3 I3 => ⟨_, H2, I3, q2⟩) hf
  rcases l with ⟨hk, hm⟩ | ⟨hk, c, hc, hcell⟩
  · exact wpAny_loadName_local I.ok.kind hk hn hm go
  · rcases hk with hk | hk
    · exact wpAny_loadName_cell I.ok.kind hk hc hcell go
    · rcases hx with k | k
      · have : X.env.scope.names.lookup x = some .free := hk
        rw [k] at this; cases this
      · have : X.env.scope.names.lookup x = some .free := hk
        rw [k] at this; cases this
def ipI (f : Int → Int → Int) : TIp := fun x y H Q => ∃ i j, x = .int i ∧ y = .int j ∧ Q (.int (f i j)) H
theorem ip_add : PIp X .Add (ipI fun i j => i + j) := by
  intro pins s σ H x y v u Q I r1 r2 h
  obtain ⟨i, j, e1, e2, q⟩ := h
  subst e1; subst e2
  obtain ⟨t, rfl⟩ := r1
  obtain ⟨t', rfl⟩ := r2
  exact iadd_int ⟨.int _, H, I.tok _, ⟨_, rfl⟩, q⟩
end

section
variable {X : Cx} {pos : Pos}
def tWhile (c : TT) (tb : TS) : TS := fun D σ H => ∃ W : Nat → St → Hp → Prop, (∃ m, W m σ H) ∧ ∀ m σ H, W m σ H →
  c σ H fun b H1 => if b = true then ∃ N : St → Hp → Prop, (∀ σ' H', N σ' H' → ∃ m', m' < m ∧ W m' σ' H') ∧ tb { D with nx := N, ct := N, bk := D.nx } σ H1 else D.nx σ H1
theorem ps_while {c : Expr} {body : List Stmt} {tc : TT} {tb : TS} (hp : PassesOwn (model X.prog X.w) X.A X.env X.xe) (hc : PT X c tc) (hb : PSs X body tb) : PS X (.While c body [] pos) (tWhile tc tb) := by
  intro pins s σ H D I h
  obtain ⟨W, ⟨m0, w0⟩, turn⟩ := h
  refine wpAny_While (codeAny_whileLoop (fun n s' => ∃ σ' H', Inv X pins σ' H' s' ∧ W n σ' H') ?_ m0 ⟨σ, H, I, w0⟩)
  rintro n s1 ⟨σ1, H1, I1, w1⟩
  refine wpAny_passesOwn hp (thn (hc pins s1 σ1 H1 _ I1 (turn n σ1 H1 w1)) fun b s2 ⟨H2, I2, q2⟩ => ?_)
  cases b with
  | true =>
    obtain ⟨N, hN, q2⟩ := q2
    rw [if_pos rfl]
    refine wpAny_passesOwn hp (thn (hb pins s2 σ1 H2 _ I2 q2) fun f s3 q3 => ?_)
    cases f with
    | next =>
      obtain ⟨σ3, H3, I3, n3⟩ := q3
      obtain ⟨m', hm, w3⟩ := hN σ3 H3 n3
      exact ⟨m', hm, σ3, H3, I3, w3⟩
    | cont =>
      obtain ⟨σ3, H3, I3, n3⟩ := q3
      obtain ⟨m', hm, w3⟩ := hN σ3 H3 n3
      exact ⟨m', hm, σ3, H3, I3, w3⟩
    | brk => exact q3
    | ret v => exact q3
  | false =>
    rw [if_neg Bool.false_ne_true]
    exact wpAny_execs_nil ⟨σ1, H2, I2, q2⟩
end

structure It where
  go : Nat → Hp → Prop
  yld : Nat → Hp → V → Hp → Prop
  stop : Nat → Hp → Prop
def FpOk (X : Cx) (pins : List (Addr × Obj)) (H : Hp) (b : Addr) : Prop :=
  H b = none ∧ b ≠ X.env.locals ∧ b ∉ X.fs ∧ (b ∈ X.ex ∨ X.s₀.heap.objs.size ≤ b) ∧ (∀ x c, X.env.cells.lookup x = some c → c ≠ b) ∧ ∀ p ∈ X.pn ++ pins, p.1 ≠ b
theorem Inv.fpOk {X : Cx} {pins : List (Addr × Obj)} {σ : St} {H H' : Hp} {s : Shared} {b : Addr} (I : Inv X pins σ H s) (hb : s.heap.objs.size ≤ b) (hn : H' b = none) : FpOk X pins H' b := by
  refine ⟨hn, Nat.ne_of_gt (Nat.lt_of_lt_of_le I.lt hb), I.nofs hb, .inr (Nat.le_trans I.sz hb), fun x c e z => ?_, fun p hp z => ?_⟩
  · obtain ⟨v, q⟩ := I.cell x c e
    exact absurd (Nat.lt_of_lt_of_le q.lt (by rw [z]; exact hb)) (Nat.lt_irrefl _)
  · exact absurd (Nat.lt_of_lt_of_le (Heap.lt_size (I.pin p hp).1) (by rw [z]; exact hb)) (Nat.lt_irrefl _)
structure Turn (P : Program) (w : World) (K : PySem.W.Frag) (tg : Expr) (J : It) (fp : List Addr) (it : Addr) (tn : Nat → Heap → Prop) : Prop where
  mem : it ∈ fp
  obj : ∀ i h, tn i h → ∀ b ∈ fp, ∃ o, h.get? b = some o ∧ ∀ v, o.data ≠ .cell v
  keep : ∀ i h h', tn i h → (∀ b ∈ fp, ∀ o, h.get? b = some o → h'.get? b = some o) → tn i h'
  item : ∀ (X : Cx), X.prog = P → X.w = w → X.K = K → X.calm = true → ∀ (i : Nat) (pins : List (Addr × Obj)) (s : Shared) (σ : St) (H : Hp) (E : Value → Shared → Prop), Inv X pins σ H s → (∀ b ∈ fp, FpOk X pins H b) → tn i s.heap → J.go i H →
    wpAny (model P w) X.A (pyNext (.ref it)) (fun r s1 => ∃ u, r = some u ∧
      wpAny (model P w) X.A (letOwnedTupleGo tg (.ref it) u) (fun _ s2 => ∃ x H', Inv X pins σ H' s2 ∧ RelV x u ∧ J.yld i H x H' ∧ tn (i + 1) s2.heap ∧ ∀ b ∈ fp, H' b = none) E s1) E s
  done : ∀ (X : Cx), X.prog = P → X.w = w → X.K = K → X.calm = true → ∀ (i : Nat) (pins : List (Addr × Obj)) (s : Shared) (σ : St) (H : Hp) (E : Value → Shared → Prop), Inv X pins σ H s → (∀ b ∈ fp, FpOk X pins H b) → tn i s.heap → J.stop i H →
    wpAny (model P w) X.A (pyNext (.ref it)) (fun r s1 => r = none ∧ Inv X pins σ H s1) E s
  self : ∀ (A : Around) (i : Nat) (s : Shared) (Q : Value → Shared → Prop) (E : Value → Shared → Prop), tn i s.heap → Q (.ref it) s → wpAny (model P w) A (pyIter (.ref it)) Q E s
abbrev TI := St → Hp → (It → Hp → Prop) → Prop
def PIE (X : Cx) (pins : List (Addr × Obj)) (σ : St) (tg : Expr) (R : It → Hp → Prop) (itv : Value) (s2 : Shared) : Prop :=
  ∃ (it : Addr) (fp : List Addr) (tn : Nat → Heap → Prop) (J : It) (H' : Hp), itv = .ref it ∧ Inv X pins σ H' s2 ∧ Turn X.prog X.w X.K tg J fp it tn ∧ tn 0 s2.heap ∧ (∀ b ∈ fp, FpOk X pins H' b) ∧ R J H'
def PI (X : Cx) (tg iter : Expr) (wi : TI) : Prop :=
  ∀ (pins : List (Addr × Obj)) (s : Shared) (σ : St) (H : Hp) (R : It → Hp → Prop), Inv X pins σ H s → wi σ H R →
    wpAny (model X.prog X.w) X.A (eval iter X.env) (fun v s1 => wpAny (model X.prog X.w) X.A (pyIter v) (PIE X pins σ tg R) X.xe s1) X.xe s

theorem go_of {M : Model} {A : Around} {E : Value → Shared → Prop} {s : Shared} {tg : Expr} {it : Addr} {u : Value} {o : Obj} {n : String} {vs : Array Value} {Q : Unit → Shared → Prop} (ho : s.heap.get? it = some o) (hc : o.cls = .type n) (hd : o.data = .fields vs)
    (hn : ["enumerate", "zip", "dict_itemiterator", "dict_reverseitemiterator", "odict_iterator", "itertools.zip_longest", "itertools.pairwise"].contains n = false) (hQ : Q () s) : wpAny M A (letOwnedTupleGo tg (.ref it) u) Q E s := by
  unfold letOwnedTupleGo
  cases tg <;> first
    | exact wpAny_pure hQ
    | (cases u <;> first
        | exact wpAny_pure hQ
        | (refine wpAny_bind (wpAny_load ho ?_)
           rw [hc, hd]
           show wpAny M A (if (["enumerate", "zip", "dict_itemiterator", "dict_reverseitemiterator", "odict_iterator", "itertools.zip_longest", "itertools.pairwise"].contains n && vs[0]? == some (rawInt _)) = true then _ else _) Q E s
           rw [if_neg (by intro h; rw [hn, Bool.false_and] at h; cases h)]
           exact wpAny_pure hQ))

def Itl (K : PySem.W.Frag) (a : Addr) : It :=
  ⟨fun i H => ∃ xs x, SqL K H a xs ∧ xs[i]? = some x, fun i H x H' => H' = H ∧ ∀ xs, SqL K H a xs → xs[i]? = some x, fun i H => ∃ xs, SqL K H a xs ∧ xs.length ≤ i⟩
def Itt (K : PySem.W.Frag) (a : Addr) : It :=
  ⟨fun i H => ∃ xs x, SqT K H a xs ∧ xs[i]? = some x, fun i H x H' => H' = H ∧ ∀ xs, SqT K H a xs → xs[i]? = some x, fun i H => ∃ xs, SqT K H a xs ∧ xs.length ≤ i⟩
def Itr (lo : Int) (n : Nat) : It := ⟨fun i _ => i < n, fun i H x H' => H' = H ∧ x = .int (lo + i), fun i _ => n ≤ i⟩
theorem turn_list {P : Program} {w : World} {K : PySem.W.Frag} {tg : Expr} (a it : Addr) : Turn P w K tg (Itl K a) [it] it (fun i h => h.IsListIter it a i) where
  mem := by simp
  obj := fun i h st b hb => by
    have e : b = it := by simpa using hb
    subst e
    obtain ⟨o, e, c, d⟩ := st
    exact ⟨o, e, fun v z => by rw [d] at z; cases z⟩
  keep := fun i h h' st k => st.at fun o e => k it (by simp) o e
  item := by
    intro X hP hw hK hc i pins s σ H E I hf st hg
    subst hP hw hK
    obtain ⟨xs, x, hq, hx⟩ := hg
    obtain ⟨its, rv, p, hz⟩ := I.list hq
    obtain ⟨u, hu, ru⟩ := rv.get hx
    obtain ⟨f0, f1, f2, f3, f4, f5⟩ := hf it (by simp)
    refine wpAny_pyNext_list_item st p.isList (x := u) (by simpa using hu) fun h' st' sb => ?_
    have I1 : Inv X pins σ H { s with heap := h' } := I.turned (t' := s.toks) (fun b o hb e => (sb.2 b hb).trans e) f0 f1 f3 f4 f5
    obtain ⟨o, e, c, d⟩ := id st'
    exact ⟨u, rfl, go_of (s := { s with heap := h' }) e c d (by decide) ⟨x, H, I1, ru, ⟨rfl, fun ys hy => by rw [I.list_inj hy hq]; exact hx⟩, st', fun b hb => (hf b hb).1⟩⟩
  done := by
    intro X hP hw hK hc i pins s σ H E I hf st hg
    subst hP hw hK
    obtain ⟨xs, hq, hx⟩ := hg
    obtain ⟨its, rv, p, hz⟩ := I.list hq
    obtain ⟨f0, f1, f2, f3, f4, f5⟩ := hf it (by simp)
    have hl := rv.length
    exact wpAny_pyNext_list_end (I.ok.hd hc) st p.isList (by simp; omega) fun h' eb => ⟨rfl, I.turned (t' := s.toks) (fun b o hb e => eb b o hb e) f0 f1 f3 f4 f5⟩
  self := fun _ _ _ _ _ st h => wpAny_pyIter_listiter st h
theorem turn_tuple {P : Program} {w : World} {K : PySem.W.Frag} {tg : Expr} (a it : Addr) : Turn P w K tg (Itt K a) [it] it (fun i h => h.IsTupleIter it a i) where
  mem := by simp
  obj := fun i h st b hb => by
    have e : b = it := by simpa using hb
    subst e
    obtain ⟨o, e, c, d⟩ := st
    exact ⟨o, e, fun v z => by rw [d] at z; cases z⟩
  keep := fun i h h' st k => st.at fun o e => k it (by simp) o e
  item := by
    intro X hP hw hK hc i pins s σ H E I hf st hg
    subst hP hw hK
    obtain ⟨xs, x, hq, hx⟩ := hg
    obtain ⟨its, rv, p, hz⟩ := I.tuple hq
    obtain ⟨u, hu, ru⟩ := rv.get hx
    obtain ⟨f0, f1, f2, f3, f4, f5⟩ := hf it (by simp)
    refine wpAny_pyNext_tuple_item st (show s.heap.IsTuple a its.toArray from p) (x := u) (by simpa using hu) fun h' st' sb => ?_
    have I1 : Inv X pins σ H { s with heap := h' } := I.turned (t' := s.toks) (fun b o hb e => (sb.2 b hb).trans e) f0 f1 f3 f4 f5
    obtain ⟨o, e, c, d⟩ := id st'
    exact ⟨u, rfl, go_of (s := { s with heap := h' }) e c d (by decide) ⟨x, H, I1, ru, ⟨rfl, fun ys hy => by rw [I.tuple_inj hy hq]; exact hx⟩, st', fun b hb => (hf b hb).1⟩⟩
  done := by
    intro X hP hw hK hc i pins s σ H E I hf st hg
    subst hP hw hK
    obtain ⟨xs, hq, hx⟩ := hg
    obtain ⟨its, rv, p, hz⟩ := I.tuple hq
    obtain ⟨f0, f1, f2, f3, f4, f5⟩ := hf it (by simp)
    have hl := rv.length
    exact wpAny_pyNext_tuple_end (I.ok.hd hc) st (show s.heap.IsTuple a its.toArray from p) (by simp; omega) fun h' eb => ⟨rfl, I.turned (t' := s.toks) (fun b o hb e => eb b o hb e) f0 f1 f3 f4 f5⟩
  self := fun _ _ _ _ _ st h => wpAny_pyIter_tupleiter st h
theorem turn_range {P : Program} {w : World} {K : PySem.W.Frag} {tg : Expr} (it : Addr) (lo : Int) (n : Nat) : Turn P w K tg (Itr lo n) [it] it (fun i h => IsRangeIter h it (lo + (i : Nat) * 1) ((n : Int) - (i : Nat)) 1) where
  mem := by simp
  obj := fun i h st b hb => by
    have e : b = it := by simpa using hb
    subst e
    exact ⟨_, st, fun v z => by
      have z' : Data.fields _ = Data.cell v := z
      cases z'⟩
  keep := fun i h h' st k => k it (by simp) _ st
  item := by
    intro X hP hw hK hc i pins s σ H E I hf st hg
    subst hP hw hK
    obtain ⟨f0, f1, f2, f3, f4, f5⟩ := hf it (by simp)
    have W := Walks.range (prog := X.prog) (w := X.w) (I.ok.hd hc) it lo 1 n
    refine W.item i s _ _ hg st fun v h' tk hv st' kk => ?_
    obtain ⟨t, rfl⟩ := hv
    have I1 : Inv X pins σ H { s with heap := h', toks := tk } := I.turned (fun b o hb e => kk b o (by simpa using hb) e) f0 f1 f3 f4 f5
    refine ⟨_, rfl, go_of (s := { s with heap := h', toks := tk }) (n := "range_iterator") st' rfl rfl (by decide) ⟨.int (lo + i), H, I1, ⟨t, ?_⟩, ⟨rfl, rfl⟩, st', fun b hb => (hf b hb).1⟩⟩
    rw [Int.mul_one]
  done := by
    intro X hP hw hK hc i pins s σ H E I hf st hg
    subst hP hw hK
    obtain ⟨f0, f1, f2, f3, f4, f5⟩ := hf it (by simp)
    exact wpAny_pyNext_range_end (I.ok.hd hc) st (by have : n ≤ i := hg; omega) fun h' eb => ⟨rfl, I.turned (t' := s.toks) (fun b o hb e => eb b o hb e) f0 f1 f3 f4 f5⟩
  self := fun _ _ _ _ _ st h => wpAny_pyIter_rangeiter st h
end L2

namespace L2
open PySem PySem.Spec PyProof.Rows
section
variable {X : Cx} {tg : Expr}
def iList (K : PySem.W.Frag) (tl : TE) : TI := fun σ H R => tl σ H fun x H1 => ∃ a, x = .ref a ∧ (∃ xs, SqL K H1 a xs) ∧ R (Itl K a) H1
def iTup (K : PySem.W.Frag) (tl : TE) : TI := fun σ H R => tl σ H fun x H1 => ∃ a, x = .ref a ∧ (∃ xs, SqT K H1 a xs) ∧ R (Itt K a) H1
theorem pi_list {l : Expr} {tl : TE} (hl : PE X l tl) : PI X tg l (iList X.K tl) := by
  intro pins s σ H R I h
  refine thn (hl pins s σ H _ I h) fun v s1 ⟨x, H1, I1, r1, q1⟩ => ?_
  obtain ⟨a, e, ⟨xs, hq⟩, q⟩ := q1
  subst e
  cases r1
  obtain ⟨its, rv, p, hz⟩ := I1.list hq
  refine wpAny_pyIter_list p.isList ?_
  refine ⟨s1.heap.objs.size, [s1.heap.objs.size], _, _, H1, rfl, I1.kept (t' := s1.toks) fun b o e => Heap.get?_push_of_some _ e, turn_list a _, ⟨_, Heap.get?_push_size _ rfl, rfl, rfl⟩, fun b hb => ?_, q⟩
  have e : b = s1.heap.objs.size := by simpa using hb
  subst e
  exact I1.fpOk (Nat.le_refl _) (I1.hok.fresh (Nat.le_refl _))
theorem pi_tup {l : Expr} {tl : TE} (hl : PE X l tl) : PI X tg l (iTup X.K tl) := by
  intro pins s σ H R I h
  refine thn (hl pins s σ H _ I h) fun v s1 ⟨x, H1, I1, r1, q1⟩ => ?_
  obtain ⟨a, e, ⟨xs, hq⟩, q⟩ := q1
  subst e
  cases r1
  obtain ⟨its, rv, p, hz⟩ := I1.tuple hq
  refine wpAny_pyIter_tuple (show s1.heap.IsTuple a its.toArray from p) ?_
  refine ⟨s1.heap.objs.size, [s1.heap.objs.size], _, _, H1, rfl, I1.kept (t' := s1.toks) fun b o e => Heap.get?_push_of_some _ e, turn_tuple a _, ⟨_, Heap.get?_push_size _ rfl, rfl, rfl⟩, fun b hb => ?_, q⟩
  have e : b = s1.heap.objs.size := by simpa using hb
  subst e
  exact I1.fpOk (Nat.le_refl _) (I1.hok.fresh (Nat.le_refl _))
theorem range_it {pins : List (Addr × Obj)} {σ : St} {H : Hp} {s : Shared} {R : It → Hp → Prop} {E : Value → Shared → Prop} {lo hi : Int} {t u v : Tok} {tk : Nat} (I : Inv X pins σ H s) (h1 : -(2 ^ 62) ≤ lo) (h2 : lo < 2 ^ 62) (h3 : -(2 ^ 62) ≤ hi) (h4 : hi < 2 ^ 62)
    (q : R (Itr lo (hi - lo).toNat) H) : wpAny (model X.prog X.w) X.A (pyIter (.ref s.heap.objs.size)) (PIE X pins σ tg R) E { s with heap := s.heap.push { cls := .type "range", data := .fields #[.int lo t, .int hi u, .int 1 v] }, toks := tk } := by
  refine wpAny_pyIter_range (IsRange.new ..) (small_one h1 h2 h3 h4) ?_
  have I1 : Inv X pins σ H { s with heap := s.heap.push { cls := .type "range", data := .fields #[.int lo t, .int hi u, .int 1 v] }, toks := tk } := I.kept fun b o e => Heap.get?_push_of_some _ e
  refine ⟨(s.heap.push { cls := .type "range", data := .fields #[.int lo t, .int hi u, .int 1 v] }).objs.size, [(s.heap.push { cls := .type "range", data := .fields #[.int lo t, .int hi u, .int 1 v] }).objs.size], _, _, H, rfl,
    I1.kept (t' := tk) fun b o e => Heap.get?_push_of_some _ e, turn_range _ lo (hi - lo).toNat, ?_, fun b hb => ?_, q⟩
  · have e1 : lo + ((0 : Nat) : Int) * 1 = lo := by simp
    have e2 : (((hi - lo).toNat : Nat) : Int) - ((0 : Nat) : Int) = Builtin.Range.rangeSize lo hi 1 := by rw [rangeSize_one]; split <;> omega
    show IsRangeIter _ _ (lo + ((0 : Nat) : Int) * 1) ((((hi - lo).toNat : Nat) : Int) - ((0 : Nat) : Int)) 1
    rw [e1, e2]
    exact Heap.get?_push_size _ rfl
  · have e : b = (s.heap.push { cls := .type "range", data := .fields #[.int lo t, .int hi u, .int 1 v] }).objs.size := by simpa using hb
    subst e
    exact I1.fpOk (Nat.le_refl _) (I1.hok.fresh (Nat.le_refl _))
def iRng1 (ta : TA) : TI := fun σ H R => ta σ H fun vs H1 => ∃ j : Int, vs = [.int j] ∧ -(2 ^ 62) ≤ j ∧ j < 2 ^ 62 ∧ R (Itr 0 j.toNat) H1
theorem pi_range1 {a : Expr} {ta : TA} {p pos : Pos} (hg : Gl X "range") (hm : X.mg "range" = none) (ha : PA X [a] ta) (hs : starEach [a] X.env = [(false, eval a X.env)] := by rfl) : PI X tg (.Call (.Name "range" p) [a] [] pos) (iRng1 ta) := by
  intro pins s σ H R I h
  refine Call_ (ld_blt I hg hm boot_range (PyProof.Rows.callWith_type1 (thn (ha pos pins s σ H _ I h) fun us s1 ⟨vs, H1, I1, r1, q1⟩ => ?_) hs rfl))
  obtain ⟨j, e, q1, q2, q⟩ := q1
  subst e
  cases r1 with
  | cons r rr =>
    cases rr
    obtain ⟨t, rfl⟩ := r
    exact call_range_1 (range_it I1 (by omega) (by omega) q1 q2 (by simpa using q))
def tFor (wi : TI) (g : TG) (tb : TS) : TS := fun D σ H => wi σ H fun J H1 => ∃ W : Nat → Nat → St → Hp → Prop, (∃ m, W 0 m σ H1) ∧ ∀ i m σ H, W i m σ H →
  (J.stop i H ∧ D.nx σ H) ∨ (J.go i H ∧ ∃ N : St → Hp → Prop, (∀ σ' H', N σ' H' → ∃ m', m' < m ∧ W (i + 1) m' σ' H') ∧ ∀ x H', J.yld i H x H' → g x σ H' fun σ2 H2 => tb { D with nx := N, ct := N, bk := D.nx } σ2 H2)
def pinsAt (fp : List Addr) (h : Heap) : List (Addr × Obj) := fp.filterMap fun b => (h.get? b).map fun o => (b, o)
theorem mem_pinsAt {fp : List Addr} {h : Heap} {b : Addr} {o : Obj} (hb : b ∈ fp) (e : h.get? b = some o) : (b, o) ∈ pinsAt fp h := List.mem_filterMap.mpr ⟨b, hb, by rw [e]; rfl⟩
theorem of_pinsAt {fp : List Addr} {h : Heap} {p : Addr × Obj} (hp : p ∈ pinsAt fp h) : p.1 ∈ fp ∧ h.get? p.1 = some p.2 := by
  obtain ⟨b, hb, e⟩ := List.mem_filterMap.mp hp
  cases q : h.get? b with
  | none => rw [q] at e; cases e
  | some o =>
    rw [q] at e
    have e' : (b, o) = p := Option.some.inj e
    subst e'
    exact ⟨hb, q⟩
theorem Inv.pinned {pins : List (Addr × Obj)} {σ : St} {H : Hp} {s : Shared} {fp : List Addr} (I : Inv X pins σ H s) (hf : ∀ b ∈ fp, FpOk X pins H b) (ho : ∀ b ∈ fp, ∃ o, s.heap.get? b = some o ∧ ∀ v, o.data ≠ .cell v) : Inv X (pins ++ pinsAt fp s.heap) σ H s :=
  I.pins_of fun p hp => (List.mem_append.mp hp).elim (fun z => I.pin p (List.mem_append_right _ z)) fun z => by
    obtain ⟨hb, e⟩ := of_pinsAt z
    obtain ⟨f0, f1, f2, _⟩ := hf p.1 hb
    obtain ⟨o, e', d⟩ := ho p.1 hb
    rw [e] at e'; cases e'
    exact ⟨e, f0, f1, f2, d⟩
theorem Inv.unpinned {pins pl : List (Addr × Obj)} {σ : St} {H : Hp} {s : Shared} (I : Inv X (pins ++ pl) σ H s) : Inv X pins σ H s := I.pins_of fun p hp => I.pin p (List.mem_append_right _ (List.mem_append_left _ hp))
theorem ps_for {iter : Expr} {body : List Stmt} {wi : TI} {g : TG} {tb : TS} {pos : Pos} (hp : PassesOwn (model X.prog X.w) X.A X.env X.xe) (hc : X.calm = true) (hi : PI X tg iter wi) (hg : PG X tg g) (hb : PSs X body tb)
    (hs : ∀ x, foldedSetIterable iter X.env x = pure x := by intro _; rfl) : PS X (.For tg iter body [] pos) (tFor wi g tb) := by
  intro pins s σ H D I h
  refine wpAny_For (thn (hi pins s σ H _ I h) fun v s1 h1 => thn h1 fun itv s2 h2 => ?_) hs
  obtain ⟨it, fp, tn, J, H2, e, I2, T, st2, f2, W, ⟨m0, w0⟩, turn⟩ := h2
  subst e
  have stat : ∀ {H' : Hp}, (∀ b ∈ fp, H' b = none) → ∀ b ∈ fp, FpOk X pins H' b := fun hn b hb => ⟨hn b hb, (f2 b hb).2⟩
  refine codeAny_forLoop_any (fun n s' => ∃ i σ' H', Inv X pins σ' H' s' ∧ tn i s'.heap ∧ (∀ b ∈ fp, H' b = none) ∧ W i n σ' H') ?_ m0 ⟨0, σ, H2, I2, st2, fun b hb => (f2 b hb).1, w0⟩
  rintro n s3 ⟨i, σ3, H3, I3, st3, fr3, w3⟩
  rcases turn i n σ3 H3 w3 with ⟨stop, qn⟩ | ⟨go, N, hN, step⟩
  · refine wpAny_passesOwn hp (thn (T.done X rfl rfl rfl hc i pins s3 σ3 H3 X.xe I3 (stat fr3) st3 stop) fun r s4 ⟨hr, I4⟩ => ?_)
    subst hr
    exact wpAny_execs_nil ⟨σ3, H3, I4, qn⟩
  · refine wpAny_passesOwn hp (thn (T.item X rfl rfl rfl hc i pins s3 σ3 H3 X.xe I3 (stat fr3) st3 go) fun r s4 ⟨u, hr, h4⟩ => ?_)
    subst hr
    refine wpAny_passesOwn hp (thn h4 fun _ s5 ⟨x, H5, I5, r5, y5, st5, fr5⟩ => ?_)
    have I5' := I5.pinned (stat fr5) (T.obj _ _ st5)
    refine wpAny_passesOwn hp (thn (hg _ s5 σ3 H5 x u _ I5' r5 (step x H5 y5)) fun _ s6 ⟨σ6, H6, I6, q6⟩ => ?_)
    refine wpAny_passesOwn hp (thn (hb _ s6 σ6 H6 _ I6 q6) fun f s7 q7 => ?_)
    have again : ∀ {σ7 : St} {H7 : Hp}, Inv X (pins ++ pinsAt fp s5.heap) σ7 H7 s7 → N σ7 H7 → ∃ m, m < n ∧ ∃ i σ' H', Inv X pins σ' H' s7 ∧ tn i s7.heap ∧ (∀ b ∈ fp, H' b = none) ∧ W i m σ' H' := fun {σ7 H7} I7 n7 => by
      obtain ⟨m', hm, w7⟩ := hN σ7 H7 n7
      refine ⟨m', hm, i + 1, σ7, H7, I7.unpinned, T.keep _ _ _ st5 fun b hb o e => (I7.pin (b, o) (List.mem_append_right _ (List.mem_append_right _ (mem_pinsAt hb e)))).1, fun b hb => ?_, w7⟩
      obtain ⟨o, e, d⟩ := T.obj _ _ st5 b hb
      exact (I7.pin (b, o) (List.mem_append_right _ (List.mem_append_right _ (mem_pinsAt hb e)))).2.1
    cases f with
    | next => obtain ⟨σ7, H7, I7, n7⟩ := q7; exact again I7 n7
    | cont => obtain ⟨σ7, H7, I7, n7⟩ := q7; exact again I7 n7
    | brk => obtain ⟨σ7, H7, I7, q7⟩ := q7; exact ⟨σ7, H7, I7.unpinned, q7⟩
    | ret v => obtain ⟨x7, σ7, H7, I7, r7, q7⟩ := q7; exact ⟨x7, σ7, H7, I7.unpinned, r7, q7⟩
end

theorem for_list {K : PySem.W.Frag} {a : Addr} {xs : List V} {g : TG} {tb : TS} {D : Ends} {σ : St} {H : Hp} (Pv : Nat → St → Hp → Prop) (h0 : Pv 0 σ H) (hl : ∀ i σ H, i ≤ xs.length → Pv i σ H → SqL K H a xs)
    (hs : ∀ i x σ H, xs[i]? = some x → Pv i σ H → g x σ H fun σ2 H2 => tb { D with nx := Pv (i + 1), ct := Pv (i + 1), bk := D.nx } σ2 H2) (hd : ∀ σ H, Pv xs.length σ H → D.nx σ H) :
    ∃ W : Nat → Nat → St → Hp → Prop, (∃ m, W 0 m σ H) ∧ ∀ i m σ H, W i m σ H →
      ((Itl K a).stop i H ∧ D.nx σ H) ∨ ((Itl K a).go i H ∧ ∃ N : St → Hp → Prop, (∀ σ' H', N σ' H' → ∃ m', m' < m ∧ W (i + 1) m' σ' H') ∧ ∀ x H', (Itl K a).yld i H x H' → g x σ H' fun σ2 H2 => tb { D with nx := N, ct := N, bk := D.nx } σ2 H2) := by
  refine ⟨fun i m σ H => m = xs.length - i ∧ i ≤ xs.length ∧ Pv i σ H, ⟨xs.length, by simp, Nat.zero_le _, h0⟩, ?_⟩
  rintro i m σ H ⟨rfl, hi, p⟩
  have q := hl i σ H hi p
  by_cases hlt : i < xs.length
  · refine .inr ⟨⟨xs, xs[i], q, by simp [hlt]⟩, Pv (i + 1), fun σ' H' p' => ⟨xs.length - (i + 1), by omega, rfl, hlt, p'⟩, fun x H' y => ?_⟩
    obtain ⟨e, y⟩ := y
    subst e
    exact hs i x σ _ (y xs q) p
  · have e : i = xs.length := by omega
    subst e
    exact .inl ⟨⟨xs, q, Nat.le_refl _⟩, hd σ H p⟩
theorem for_range {lo : Int} {n : Nat} {g : TG} {tb : TS} {D : Ends} {σ : St} {H : Hp} (Pv : Nat → St → Hp → Prop) (h0 : Pv 0 σ H)
    (hs : ∀ i σ H, i < n → Pv i σ H → g (.int (lo + i)) σ H fun σ2 H2 => tb { D with nx := Pv (i + 1), ct := Pv (i + 1), bk := D.nx } σ2 H2) (hd : ∀ σ H, Pv n σ H → D.nx σ H) :
    ∃ W : Nat → Nat → St → Hp → Prop, (∃ m, W 0 m σ H) ∧ ∀ i m σ H, W i m σ H →
      ((Itr lo n).stop i H ∧ D.nx σ H) ∨ ((Itr lo n).go i H ∧ ∃ N : St → Hp → Prop, (∀ σ' H', N σ' H' → ∃ m', m' < m ∧ W (i + 1) m' σ' H') ∧ ∀ x H', (Itr lo n).yld i H x H' → g x σ H' fun σ2 H2 => tb { D with nx := N, ct := N, bk := D.nx } σ2 H2) := by
  refine ⟨fun i m σ H => m = n - i ∧ i ≤ n ∧ Pv i σ H, ⟨n, by simp, Nat.zero_le _, h0⟩, ?_⟩
  rintro i m σ H ⟨rfl, hi, p⟩
  by_cases hlt : i < n
  · refine .inr ⟨hlt, Pv (i + 1), fun σ' H' p' => ⟨n - (i + 1), by omega, rfl, hlt, p'⟩, fun x H' y => ?_⟩
    obtain ⟨e, y⟩ := y
    subst e y
    exact hs i σ _ hlt p
  · have e : i = n := by omega
    subst e
    exact .inl ⟨Nat.le_refl _, hd σ H p⟩
theorem while_by {c : TT} {tb : TS} {D : Ends} {σ : St} {H : Hp} (Pv : St → Hp → Prop) (μ : St → Hp → Nat) (h0 : Pv σ H)
    (hs : ∀ σ H, Pv σ H → c σ H fun b H1 => if b = true then tb { D with nx := fun σ' H' => Pv σ' H' ∧ μ σ' H' < μ σ H, ct := fun σ' H' => Pv σ' H' ∧ μ σ' H' < μ σ H, bk := D.nx } σ H1 else D.nx σ H1)
    (mono : ∀ σ H Q Q', (∀ b H1, Q b H1 → Q' b H1) → c σ H Q → c σ H Q') : tWhile c tb D σ H := by
  refine ⟨fun m σ H => m = μ σ H ∧ Pv σ H, ⟨_, rfl, h0⟩, ?_⟩
  rintro m σ H ⟨rfl, p⟩
  refine mono σ H _ _ (fun b H1 q => ?_) (hs σ H p)
  cases b with
  | true => exact ⟨_, fun σ' H' ⟨p', l⟩ => ⟨_, l, rfl, p'⟩, q⟩
  | false => exact q
end L2

namespace L2
open PySem PySem.Spec PyProof.Rows

abbrev R2 := V → V → Hp → VK → Prop
def OpR (X : Cx) (f : Value → Value → Sem Value) (r : R2) : Prop :=
  ∀ (pins : List (Addr × Obj)) (s : Shared) (σ : St) (H : Hp) (x y : V) (v u : Value) (Q : VK), Inv X pins σ H s → RelV x v → RelV y u → r x y H Q →
    wpAny (model X.prog X.w) X.A (f v u) (EP X pins σ Q) X.xe s
def UnR (X : Cx) (f : Value → Sem Value) (r : V → Hp → VK → Prop) : Prop :=
  ∀ (pins : List (Addr × Obj)) (s : Shared) (σ : St) (H : Hp) (x : V) (v : Value) (Q : VK), Inv X pins σ H s → RelV x v → r x H Q →
    wpAny (model X.prog X.w) X.A (f v) (EP X pins σ Q) X.xe s
def CallR (X : Cx) (f : Value) (r : List V → Hp → VK → Prop) : Prop :=
  ∀ (pins : List (Addr × Obj)) (s : Shared) (σ : St) (H : Hp) (xs : List V) (us : List Value) (Q : VK), Inv X pins σ H s → Vals xs us → r xs H Q →
    wpAny (model X.prog X.w) X.A (call f us) (EP X pins σ Q) X.xe s
def tOp (r : R2) (ta tb : TE) : TE := fun σ H Q => ta σ H fun x H1 => tb σ H1 fun y H2 => r x y H2 Q
def tUn (r : V → Hp → VK → Prop) (ta : TE) : TE := fun σ H Q => ta σ H fun x H1 => r x H1 Q
def rI (C : Int → Int → Prop) (g : Int → Int → V) : R2 := fun x y H Q => ∃ i j, x = .int i ∧ y = .int j ∧ C i j ∧ Q (g i j) H
def rI0 (g : Int → Int → V) : R2 := fun x y H Q => ∃ i j, x = .int i ∧ y = .int j ∧ Q (g i j) H
def rU (g : Int → V) : V → Hp → VK → Prop := fun x H Q => ∃ i, x = .int i ∧ Q (g i) H

section
variable {X : Cx} {a b c : Expr} {ta tb tc : TE} {pos : Pos}

theorem binT (ha : PE X a ta) (hb : PE X b tb) {pins : List (Addr × Obj)} {s : Shared} {σ : St} {H : Hp} {R : V → V → Hp → Prop} (I : Inv X pins σ H s)
    (h : ta σ H fun x H1 => tb σ H1 fun y H2 => R x y H2) {Q : Value → Shared → Prop} {f : Value → Value → Sem Value}
    (hf : ∀ v u s2 x y H2, Inv X pins σ H2 s2 → RelV x v → RelV y u → R x y H2 → wpAny (model X.prog X.w) X.A (f v u) Q X.xe s2) :
    wpAny (model X.prog X.w) X.A (eval a X.env) (fun v s₁ => wpAny (model X.prog X.w) X.A (eval b X.env) (fun u s₂ => wpAny (model X.prog X.w) X.A (f v u) Q X.xe s₂) X.xe s₁) X.xe s := by
  refine thn (ha pins s σ H _ I h) fun v s1 ⟨x, H1, I1, r1, q1⟩ => ?_
  refine thn (hb pins s1 σ H1 _ I1 q1) fun u s2 ⟨y, H2, I2, r2, q2⟩ => ?_
  exact hf v u s2 x y H2 I2 r1 r2 q2

theorem pe_op {op : Operator} {r : R2} (ho : OpR X (binaryOp op) r) (ha : PE X a ta) (hb : PE X b tb) : PE X (.BinOp a op b pos) (tOp r ta tb) := by
  intro pins s σ H Q I h
  exact wpAny_BinOp (binT ha hb I h fun v u s2 x y H2 I2 rx ry q => ho pins s2 σ H2 x y v u Q I2 rx ry q)
theorem pe_un {op : UnaryOp} {r : V → Hp → VK → Prop} (ho : UnR X (unaryOp op) r) (ha : PE X a ta) : PE X (.UnaryOp op a pos) (tUn r ta) := by
  intro pins s σ H Q I h
  exact UnaryOp_ (thn (ha pins s σ H _ I h) fun v s1 ⟨x, H1, I1, r1, q1⟩ => ho pins s1 σ H1 x v Q I1 r1 q1)
theorem opI {f : Value → Value → Sem Value} {C : Int → Int → Prop} {g : Int → Int → Int}
    (rule : ∀ (i j : Int) (t u : Tok) (s : Shared) (Q : Value → Shared → Prop) (E : Value → Shared → Prop), C i j → Q (.int (g i j) s.toks) { s with toks := s.toks + 1 } → wpAny (model X.prog X.w) X.A (f (.int i t) (.int j u)) Q E s) :
    OpR X f (rI C fun i j => .int (g i j)) := by
  intro pins s σ H x y v u Q I rx ry h
  obtain ⟨i, j, rfl, rfl, hc, q⟩ := h
  obtain ⟨t, rfl⟩ := rx
  obtain ⟨t', rfl⟩ := ry
  exact rule i j t t' s _ _ hc ⟨.int (g i j), H, I.tok _, ⟨_, rfl⟩, q⟩
theorem opI0 {f : Value → Value → Sem Value} {g : Int → Int → Int}
    (rule : ∀ (i j : Int) (t u : Tok) (s : Shared) (Q : Value → Shared → Prop) (E : Value → Shared → Prop), Q (.int (g i j) s.toks) { s with toks := s.toks + 1 } → wpAny (model X.prog X.w) X.A (f (.int i t) (.int j u)) Q E s) :
    OpR X f (rI0 fun i j => .int (g i j)) := by
  intro pins s σ H x y v u Q I rx ry h
  obtain ⟨i, j, rfl, rfl, q⟩ := h
  obtain ⟨t, rfl⟩ := rx
  obtain ⟨t', rfl⟩ := ry
  exact rule i j t t' s _ _ ⟨.int (g i j), H, I.tok _, ⟨_, rfl⟩, q⟩
theorem opB0 {f : Value → Value → Sem Value} {g : Int → Int → Bool}
    (rule : ∀ (i j : Int) (t u : Tok) (s : Shared) (Q : Value → Shared → Prop) (E : Value → Shared → Prop), Q (.bool (g i j)) s → wpAny (model X.prog X.w) X.A (f (.int i t) (.int j u)) Q E s) :
    OpR X f (rI0 fun i j => .bl (g i j)) := by
  intro pins s σ H x y v u Q I rx ry h
  obtain ⟨i, j, rfl, rfl, q⟩ := h
  obtain ⟨t, rfl⟩ := rx
  obtain ⟨t', rfl⟩ := ry
  exact rule i j t t' s _ _ ⟨.bl (g i j), H, I, rfl, q⟩

def CPow (i j : Int) : Prop := 0 ≤ j ∧ j ≤ 1000000 ∧ i.natAbs < 2 ^ 64
def CMul (i j : Int) : Prop := (-(2 ^ 64) < i ∧ i < 2 ^ 64) ∨ (-(2 ^ 64) < j ∧ j < 2 ^ 64)
theorem CMul.ok {i j : Int} (h : CMul i j) : IntMulOk i j := by
  rcases h with ⟨h1, h2⟩ | ⟨h1, h2⟩
  · exact .of_left (intBits_le_64 h1 h2)
  · exact .of_right (intBits_le_64 h1 h2)
theorem op_add : OpR X (binaryOp .Add) (rI0 fun i j => .int (i + j)) := opI0 fun _ _ _ _ _ _ _ q => add_int q
theorem op_sub : OpR X (binaryOp .Sub) (rI0 fun i j => .int (i - j)) := opI0 fun _ _ _ _ _ _ _ q => sub_int q
theorem op_mul : OpR X (binaryOp .Mult) (rI CMul fun i j => .int (i * j)) := opI fun _ _ _ _ _ _ _ hc q => mul_int q hc.ok
theorem op_mod : OpR X (binaryOp .Mod) (rI (fun _ j => 0 < j) fun i j => .int (i % j)) := opI fun i j _ _ _ _ _ hc q => by
  have h1 : (0 : Int) < j := hc
  exact mod_int' (by omega) (by rw [Int.fmod_eq_emod_of_nonneg i (by omega)]; exact q)
theorem op_pow : OpR X (binaryOp .Pow) (rI CPow fun i j => .int (i ^ j.toNat)) := opI fun _ _ _ _ _ _ _ hc q => pow_int_small hc.1 hc.2.1 hc.2.2 q
theorem unI {f : Value → Sem Value} {g : Int → Int}
    (rule : ∀ (i : Int) (t : Tok) (s : Shared) (Q : Value → Shared → Prop) (E : Value → Shared → Prop), Q (.int (g i) s.toks) { s with toks := s.toks + 1 } → wpAny (model X.prog X.w) X.A (f (.int i t)) Q E s) :
    UnR X f (rU fun i => .int (g i)) := by
  intro pins s σ H x v Q I rx h
  obtain ⟨i, rfl, q⟩ := h
  obtain ⟨t, rfl⟩ := rx
  exact rule i t s _ _ ⟨.int (g i), H, I.tok _, ⟨_, rfl⟩, q⟩
theorem un_neg : UnR X (unaryOp .USub) (rU fun i => .int (-i)) := unI fun _ _ _ _ _ q => neg_int q
end

def scal : V → V → Bool
  | .non, .non => true | .non, .int _ => true | .int _, .non => true | .non, .bl _ => true | .bl _, .non => true | .non, .str _ => true | .str _, .non => true
  | .int _, .int _ => true | .bl _, .bl _ => true | .str _, .str _ => true | .byt _, .byt _ => true
  | .int _, .str _ => true | .str _, .int _ => true | .bl _, .str _ => true | .str _, .bl _ => true
  | _, _ => false
def rEq : R2 := fun x y H Q => scal x y = true ∧ Q (.bl (decide (x = y))) H
def rNe : R2 := fun x y H Q => scal x y = true ∧ Q (.bl (!decide (x = y))) H

theorem dec_int {i j : Int} : decide (V.int i = V.int j) = (i == j) := by
  rw [Bool.eq_iff_iff]
  simp
theorem dec_bl {i j : Bool} : decide (V.bl i = V.bl j) = (i == j) := by
  rw [Bool.eq_iff_iff]
  simp
theorem dec_str {i j : Str} : decide (V.str i = V.str j) = (i == j) := by
  rw [Bool.eq_iff_iff]
  simp
theorem dec_byt {i j : Array UInt8} : decide (V.byt i = V.byt j) = (i.toList == j.toList) := by
  rw [Bool.eq_iff_iff]
  cases i
  cases j
  simp

section
variable {X : Cx} {a b c : Expr} {ta tb tc : TE} {pos : Pos}
theorem fin_bl {pins : List (Addr × Obj)} {σ : St} {H : Hp} {s : Shared} {Q : VK} {k k' : Bool} (I : Inv X pins σ H s) (q : Q (.bl k) H) (e : k = k') : EP X pins σ Q (.bool k') s := by
  subst e
  exact ⟨.bl k, H, I, rfl, q⟩
theorem op_eq : OpR X (compareOp .Eq) rEq := by
  intro pins s σ H x y v u Q I rx ry h
  obtain ⟨hs, q⟩ := h
  cases x with
  | non =>
    cases rx
    cases y with
    | non => cases ry; exact PySem.EqNone.eq_none_none (fin_bl I q (by simp))
    | bl j => cases ry; exact PySem.EqNone.eq_none_bool (fin_bl I q (by simp))
    | int j => obtain ⟨t', rfl⟩ := ry; exact PySem.EqNone.eq_none_int (fin_bl I q (by simp))
    | str j => obtain ⟨t', rfl⟩ := ry; exact PySem.EqNone.eq_none_str (fin_bl I q (by simp))
    | _ => exact absurd (show false = true from hs) Bool.false_ne_true
  | bl i =>
    cases rx
    cases y with
    | non => cases ry; exact PySem.EqNone.eq_bool_none (fin_bl I q (by simp))
    | bl j => cases ry; exact eq_bool (fin_bl I q dec_bl)
    | str j => obtain ⟨t', rfl⟩ := ry; exact PySem.EqMixed.eq_bool_str (fin_bl I q (by simp))
    | _ => exact absurd (show false = true from hs) Bool.false_ne_true
  | int i =>
    obtain ⟨t, rfl⟩ := rx
    cases y with
    | non => cases ry; exact PySem.EqNone.eq_int_none (fin_bl I q (by simp))
    | int j => obtain ⟨t', rfl⟩ := ry; exact eq_int (fin_bl I q dec_int)
    | str j => obtain ⟨t', rfl⟩ := ry; exact PySem.EqMixed.eq_int_str (fin_bl I q (by simp))
    | _ => exact absurd (show false = true from hs) Bool.false_ne_true
  | str i =>
    obtain ⟨t, rfl⟩ := rx
    cases y with
    | non => cases ry; exact PySem.EqNone.eq_str_none (fin_bl I q (by simp))
    | bl j => cases ry; exact PySem.EqMixed.eq_str_bool (fin_bl I q (by simp))
    | int j => obtain ⟨t', rfl⟩ := ry; exact PySem.EqMixed.eq_str_int (fin_bl I q (by simp))
    | str j => obtain ⟨t', rfl⟩ := ry; exact eq_str (fin_bl I q dec_str)
    | _ => exact absurd (show false = true from hs) Bool.false_ne_true
  | byt i =>
    obtain ⟨t, rfl⟩ := rx
    cases y with
    | byt j => obtain ⟨t', rfl⟩ := ry; exact PySem.W.eq_bytes (fin_bl I q dec_byt)
    | _ => exact absurd (show false = true from hs) Bool.false_ne_true
  | _ => cases y <;> exact absurd (show false = true from hs) Bool.false_ne_true
theorem op_ne : OpR X (compareOp .NotEq) rNe := by
  intro pins s σ H x y v u Q I rx ry h
  obtain ⟨hs, q⟩ := h
  cases x with
  | non =>
    cases rx
    cases y with
    | non => cases ry; exact PySem.EqNone.ne_none_none (fin_bl I q (by simp))
    | bl j => cases ry; exact PySem.EqNone.ne_none_bool (fin_bl I q (by simp))
    | int j => obtain ⟨t', rfl⟩ := ry; exact PySem.EqNone.ne_none_int (fin_bl I q (by simp))
    | str j => obtain ⟨t', rfl⟩ := ry; exact PySem.EqNone.ne_none_str (fin_bl I q (by simp))
    | _ => exact absurd (show false = true from hs) Bool.false_ne_true
  | bl i =>
    cases rx
    cases y with
    | non => cases ry; exact PySem.EqNone.ne_bool_none (fin_bl I q (by simp))
    | bl j => cases ry; exact ne_bool (fin_bl I q (congrArg not dec_bl))
    | str j => obtain ⟨t', rfl⟩ := ry; exact PySem.EqMixed.ne_bool_str (fin_bl I q (by simp))
    | _ => exact absurd (show false = true from hs) Bool.false_ne_true
  | int i =>
    obtain ⟨t, rfl⟩ := rx
    cases y with
    | non => cases ry; exact PySem.EqNone.ne_int_none (fin_bl I q (by simp))
    | int j => obtain ⟨t', rfl⟩ := ry; exact ne_int (fin_bl I q (congrArg not dec_int))
    | str j => obtain ⟨t', rfl⟩ := ry; exact PySem.EqMixed.ne_int_str (fin_bl I q (by simp))
    | _ => exact absurd (show false = true from hs) Bool.false_ne_true
  | str i =>
    obtain ⟨t, rfl⟩ := rx
    cases y with
    | non => cases ry; exact PySem.EqNone.ne_str_none (fin_bl I q (by simp))
    | bl j => cases ry; exact PySem.EqMixed.ne_str_bool (fin_bl I q (by simp))
    | int j => obtain ⟨t', rfl⟩ := ry; exact PySem.EqMixed.ne_str_int (fin_bl I q (by simp))
    | str j => obtain ⟨t', rfl⟩ := ry; exact ne_str (fin_bl I q (congrArg not dec_str))
    | _ => exact absurd (show false = true from hs) Bool.false_ne_true
  | byt i =>
    obtain ⟨t, rfl⟩ := rx
    cases y with
    | byt j => obtain ⟨t', rfl⟩ := ry; exact PySem.W.ne_bytes (fin_bl I q (congrArg not dec_byt))
    | _ => exact absurd (show false = true from hs) Bool.false_ne_true
  | _ => cases y <;> exact absurd (show false = true from hs) Bool.false_ne_true

theorem op_lt : OpR X (compareOp .Lt) (rI0 fun i j => .bl (decide (i < j))) := opB0 fun _ _ _ _ _ _ _ q => lt_int q
theorem op_le : OpR X (compareOp .LtE) (rI0 fun i j => .bl (decide (i ≤ j))) := opB0 fun _ _ _ _ _ _ _ q => le_int q
theorem op_gt : OpR X (compareOp .Gt) (rI0 fun i j => .bl (decide (j < i))) := opB0 fun _ _ _ _ _ _ _ q => gt_int q
theorem op_in_str : OpR X (compareOp .In) (fun x y H Q => ∃ i j, x = .str i ∧ y = .str j ∧ Q (.bl (!(Builtin.Str.occurrences j i 0 j.length 1).isEmpty)) H) := by
  intro pins s σ H x y v u Q I rx ry h
  obtain ⟨i, j, rfl, rfl, q⟩ := h
  obtain ⟨t, rfl⟩ := rx
  obtain ⟨t', rfl⟩ := ry
  exact in_str (fin_bl I q rfl)

theorem op_isN : OpR X (compareOp .Is) (fun x y H Q => y = .non ∧ Q (.bl (decide (x = .non))) H) := by
  intro pins s σ H x y v u Q I rx ry h
  obtain ⟨rfl, q⟩ := h
  cases ry
  refine is_none_gen (fin_bl I q ?_)
  cases x <;> first
    | (cases rx; rfl)
    | (obtain ⟨t, rfl⟩ := rx; rfl)
theorem op_notN : OpR X (compareOp .IsNot) (fun x y H Q => y = .non ∧ Q (.bl (!decide (x = .non))) H) := by
  intro pins s σ H x y v u Q I rx ry h
  obtain ⟨rfl, q⟩ := h
  cases ry
  refine isnot_none_gen (fin_bl I q ?_)
  cases x <;> first
    | (cases rx; rfl)
    | (obtain ⟨t, rfl⟩ := rx; rfl)

theorem nomark (b : Expr) {op : CmpOp} (h : op ≠ .In := by decide) (h2 : op ≠ .NotIn := by decide) : behindInMarks op b = false := by
  have e1 : (op == CmpOp.In) = false := by cases op <;> first | rfl | exact absurd rfl h
  have e2 : (op == CmpOp.NotIn) = false := by cases op <;> first | rfl | exact absurd rfl h2
  cases b <;> simp [behindInMarks, e1, e2]
theorem pe_cmpR {op : CmpOp} {r : R2} (ho : OpR X (compareOp op) r) (ha : PE X a ta) (hb : PE X b tb) (hm : behindInMarks op b = false) : PE X (.Compare a [op] [b] pos) (tOp r ta tb) := by
  intro pins s σ H Q I h
  exact wpAny_Compare1 (binT ha hb I h fun v u s2 x y H2 I2 rx ry q => ho pins s2 σ H2 x y v u Q I2 rx ry q) hm
def tTest (t : TE) : TT := fun σ H Q => t σ H fun x H' => ∃ k, x = .bl k ∧ Q k H'
theorem pt_cmpR {op : CmpOp} {r : R2} (ho : OpR X (compareOp op) r) (ha : PE X a ta) (hb : PE X b tb) (hm : behindInMarks op b = false) : PT X (.Compare a [op] [b] pos) (tTest (tOp r ta tb)) := by
  intro pins s σ H Q I h
  refine wpAny_isTrue_Compare1 (thn (ha pins s σ H _ I h) fun v s1 ⟨x, H1, I1, r1, q1⟩ => thn (hb pins s1 σ H1 _ I1 q1) fun u s2 ⟨y, H2, I2, r2, q2⟩ =>
    thn (ho pins s2 σ H2 x y v u _ I2 r1 r2 q2) fun c s3 ⟨z, H3, I3, r3, k, e, q3⟩ => ?_) hm
  subst e
  cases r3
  exact wpAny_truthy_bool ⟨H3, I3, q3⟩
def tChain (r r' : R2) (ta tb tc : TE) : TE := fun σ H Q => ta σ H fun x H1 => tb σ H1 fun y H2 => r x y H2 fun z H3 => ∃ k, z = .bl k ∧
  (if k = true then tc σ H3 fun w' H4 => r' y w' H4 Q else Q (.bl false) H3)
theorem pe_chain {op op' : CmpOp} {r r' : R2} (ho : OpR X (compareOp op) r) (ho' : OpR X (compareOp op') r') (ha : PE X a ta) (hb : PE X b tb) (hc : PE X c tc)
    (hm : lastMarks [op, op'] [b, c] = false := by with_unfolding_all rfl) : PE X (.Compare a [op, op'] [b, c] pos) (tChain r r' ta tb tc) := by
  intro pins s σ H Q I h
  refine Compare_chain (thn (ha pins s σ H _ I h) fun v s1 ⟨x, H1, I1, r1, q1⟩ => chain_link (thn (hb pins s1 σ H1 _ I1 q1) fun u s2 ⟨y, H2, I2, r2, q2⟩ =>
    thn (ho pins s2 σ H2 x y v u _ I2 r1 r2 q2) fun d s3 ⟨z, H3, I3, r3, k, e, q3⟩ => ?_)) hm
  subst e
  cases r3
  refine wpAny_truthy_bool ?_
  cases k with
  | false => exact ite_ff ⟨.bl false, H3, I3, rfl, q3⟩
  | true => exact ite_tt (chain_last (thn (hc pins s3 σ H3 _ I3 q3) fun w' s4 ⟨z', H4, I4, r4, q4⟩ => ho' pins s4 σ H4 y z' u w' Q I4 r2 r4 q4))
theorem pt_chain {op op' : CmpOp} {r r' : R2} (ho : OpR X (compareOp op) r) (ho' : OpR X (compareOp op') r') (ha : PE X a ta) (hb : PE X b tb) (hc : PE X c tc)
    (hm : lastMarks [op, op'] [b, c] = false := by with_unfolding_all rfl) : PT X (.Compare a [op, op'] [b, c] pos) (tTest (tChain r r' ta tb tc)) := by
  intro pins s σ H Q I h
  refine isTrue_chain (thn (ha pins s σ H _ I h) fun v s1 ⟨x, H1, I1, r1, q1⟩ => test_link (thn (hb pins s1 σ H1 _ I1 q1) fun u s2 ⟨y, H2, I2, r2, q2⟩ =>
    thn (ho pins s2 σ H2 x y v u _ I2 r1 r2 q2) fun d s3 ⟨z, H3, I3, r3, k, e, q3⟩ => ?_)) hm
  subst e
  cases r3
  refine wpAny_truthy_bool ?_
  cases k with
  | false =>
    obtain ⟨k', e', q'⟩ := q3
    cases e'
    exact ite_ff ⟨H3, I3, q'⟩
  | true =>
    refine ite_tt (test_last (thn (hc pins s3 σ H3 _ I3 q3) fun w' s4 ⟨z', H4, I4, r4, q4⟩ => thn (ho' pins s4 σ H4 y z' u w' _ I4 r2 r4 q4) fun d' s5 ⟨z2, H5, I5, r5, k2, e2, q5⟩ => ?_))
    subst e2
    cases r5
    exact wpAny_truthy_bool ⟨H5, I5, q5⟩

theorem line63 : (sizeLine : Nat) < 2 ^ 63 := by rw [sizeLine_eq]; decide
theorem op_add_str : OpR X (binaryOp .Add) (fun x y H Q => ∃ i j, x = .str i ∧ y = .str j ∧ i.length + j.length ≤ sizeLine ∧ Q (.str (i ++ j)) H) := by
  intro pins s σ H x y v u Q I rx ry h
  obtain ⟨i, j, rfl, rfl, hz, q⟩ := h
  obtain ⟨t, rfl⟩ := rx
  obtain ⟨t', rfl⟩ := ry
  exact add_str (fun t' tk => ⟨.str (i ++ j), H, I.tok _, ⟨_, rfl⟩, q⟩) hz
theorem vals1 {x : V} {us : List Value} (r : Vals [x] us) : ∃ u, us = [u] ∧ RelV x u := by
  cases r with
  | cons r1 r2 => cases r2; exact ⟨_, rfl, r1⟩
end
end L2

namespace L2
open PySem PySem.Spec PyProof.Rows

structure ObjM (h : Heap) (x dx C : Addr) (mA : Str → Option Value) : Prop where
  obj : h.get? x = some (PySem.W.instObj C dx)
  ns : h.Ns1 dx mA
  ne : dx ≠ x

theorem lookIn_ns {h : Heap} {dx : Addr} {mA : Str → Option Value} (n : h.Ns1 dx mA) : ∃ od, h.get? dx = some od ∧ ∀ name, PySem.W.lookIn name od = some (mA name) := by
  obtain ⟨o, es, ep, ho, hd, hk, _, hm⟩ := n
  refine ⟨o, ho, fun name => ?_⟩
  have e := hm name
  unfold nsFind findBy at e
  rw [← Array.find?_toList] at e
  unfold PySem.W.lookIn
  rw [hd]
  dsimp only
  split
  · rename_i y q
    rw [q] at e
    exact congrArg some e
  · rename_i q
    rw [q] at e
    have a : es.toList.any (·.refKey) = false := by
      rw [List.any_eq_false]
      intro y hy
      obtain ⟨z, t, hkey⟩ := hk y (Array.mem_toList_iff.mp hy)
      simp [DictEntry.refKey, hkey]
    have a' : ¬ es.toList.any (·.refKey) = true := by rw [a]; exact Bool.false_ne_true
    rw [if_neg a']
    exact congrArg some e

theorem ObjM.look {h : Heap} {x dx C : Addr} {mA : Str → Option Value} (I : ObjM h x dx C mA) : ∃ od, PySem.W.InstAt h x (PySem.W.instObj C dx) C (some od) ∧ ∀ name, PySem.W.lookIn name od = some (mA name) :=
  let ⟨od, ho, hl⟩ := lookIn_ns I.ns
  ⟨od, ⟨I.obj, rfl, rfl, ho⟩, hl⟩

section
variable {prog : Program} {w : World} {A : Around} {E : Value → Shared → Prop} {s : Shared} {K : PySem.W.Frag} {x dx C f : Addr} {mA : Str → Option Value} {name : Str} {v : Value}

theorem get_map {expr : Bool} {Q : Value → Shared → Prop} (X : K.In s.heap) (I : ObjM s.heap x dx C mA) (hg : PySem.W.plainGet K C name = true) (hh : PySem.W.hasDictIn K C = true)
    (ha : PySem.W.findIn K (.ref C) name = some none) (hv : mA name = some v) (hv' : PySem.W.handedIn v = true) (h : Q v { s with toks := s.toks + 1 }) :
    wpAny (model prog w) A (getAttr (.ref x) name expr) Q E s := by
  obtain ⟨od, J, hl⟩ := I.look
  exact PySem.W.get_value X J (PySem.W.plainGet_of hg).1 (PySem.W.findObj_own hh ha rfl (by rw [hl, hv])) hv' h

theorem get_meth {pl : Sem Bool} {Q : Value × List Value → Shared → Prop} (X : K.In s.heap) (I : ObjM s.heap x dx C mA) (hg : PySem.W.plainGet K C name = true)
    (hf : PySem.W.findIn K (.ref C) name = some (some (.ref f))) (ht : PySem.W.isFn K (.ref f) = true) (hv : mA name = none) (h : Q (.ref f, [.ref x]) s) :
    wpAny (model prog w) A (getMethod (.ref x) name pl) Q E s := by
  obtain ⟨od, J, hl⟩ := I.look
  exact PySem.W.method_fn X J (PySem.W.plainGet_of hg).1 (PySem.W.plainGet_of hg).2 hf (beq_iff_eq.mp ht) (by show (PySem.W.lookIn name od).map (·.isSome) = some false; rw [hl, hv]; rfl) h

theorem set_map {ns : List Str} {Q : Unit → Shared → Prop} (X : K.In s.heap) (I : ObjM s.heap x dx C mA)
    (hs : PySem.W.findIn K (.ref C) "__setattr__" = some (some (.builtin "object.__setattr__"))) (hp : PySem.W.plainOver K C = true) (ht : PySem.W.takerIn K C name = some none) (hh : PySem.W.hasDictIn K C = true)
    (hw : PySem.Within mA ns) (hsz : ns.length ≤ sizeLine)
    (h : ∀ h', ObjM h' x dx C (fun y => if y = name then some v else mA y) → Heap.SameBut dx s.heap h' → Q () { s with heap := h', toks := s.toks + 2 }) :
    wpAny (model prog w) A (setAttr (.ref x) name v) Q E s := by
  obtain ⟨od, J, hl⟩ := I.look
  refine PySem.W.set_plain X J hs (PySem.W.osa_open (s := { s with toks := s.toks + 1 }) (r := none) X J hp ht fun b => ?_)
  obtain ⟨cd, hc, hd'⟩ := PySem.W.any_some hh
  have hx : s.heap.get? x = some ⟨.ref C, some dx, .plain, #[]⟩ := I.obj
  refine wpAny_bind (wpAny_pure (wpAny_bind (wpAny_bind (wpAny_loadPart hx (wpAny_bind (PySem.W.Looks.here (s := { s with toks := s.toks + 1 }) (PySem.W.looks_clsIn X hc) ?_))))))
  rw [hd']
  refine wpAny_pure (a := some dx) (wpAny_bind (wpAny_pure (wpAny_bind ?_)))
  refine wpAny_nsSet1 (s := { s with toks := s.toks + 1 }) I.ns fun h' hn2 hs2 => ?_
  obtain ⟨oD, esD, epD, hoD, hdD, hcD⟩ := hn2.count (PySem.Within.cons name v hw)
  refine wpAny_bind (wpAny_lookBehind hoD (by rw [hdD]; exact pastItsLine_dict (Nat.le_trans hcD (by rw [List.length_cons]; omega))) ?_)
  exact wpAny_pure (h _ ⟨(hs2.2 _ (Ne.symm I.ne)).trans I.obj, hn2, I.ne⟩ hs2)

theorem make_map {R : Result → Shared → Prop} {vs : List Value} {kw : List (Str × Value)} (X : K.In s.heap) (hm : PySem.W.makesIn K C = true)
    (hi : PySem.W.findIn K (.ref C) "__init__" = some (some (.ref f))) (hf : PySem.W.typeIn K (.ref f) = some (.type "function"))
    (h : codeAny (model prog w) (A.under (.builtin "type.__call__" ⟨.ref C :: vs, kw⟩)) (.call (.ref f) ⟨.ref (s.heap.objs.size + 1) :: vs, kw⟩) (PySem.W.InitBack (s.heap.objs.size + 1) R)
      { s with heap := (s.heap.push PySem.W.emptyDict).push (PySem.W.instObj C s.heap.objs.size) }) :
    codeAny (model prog w) A (.call (.ref C) ⟨vs, kw⟩) R s := by
  obtain ⟨hh, g, d, t, os⟩ := s
  exact PySem.W.make_core (PySem.W.makes_of X hm) (PySem.W.looks_findIn X hi) (fun self => PySem.W.bind_fn X self hf) (.inl rfl) h
end

def putF (f : Str) (v : V) : List (Str × V) → List (Str × V)
  | [] => [(f, v)]
  | (g, x) :: r => if g = f then (g, v) :: r else (g, x) :: putF f v r
theorem lookup_putF (f g : Str) (v : V) : ∀ fs : List (Str × V), (putF f v fs).lookup g = if g = f then some v else fs.lookup g
  | [] => by
    show List.lookup g [(f, v)] = _
    by_cases h : g = f
    · have hb : (g == f) = true := beq_iff_eq.mpr h
      simp only [List.lookup, hb, if_pos h]
    · have hb : (g == f) = false := beq_eq_false_iff_ne.mpr h
      simp only [List.lookup, hb, if_neg h]
  | (k, x) :: r => by
    have ih := lookup_putF f g v r
    rw [show putF f v ((k, x) :: r) = (if k = f then (k, v) :: r else (k, x) :: putF f v r) from rfl]
    by_cases hk : k = f
    · rw [if_pos hk]
      by_cases h : g = k
      · have hb : (g == k) = true := beq_iff_eq.mpr h
        simp only [List.lookup, hb, if_pos (h.trans hk)]
      · have hb : (g == k) = false := beq_eq_false_iff_ne.mpr h
        simp only [List.lookup, hb, if_neg (fun e : g = f => h (e.trans hk.symm))]
    · rw [if_neg hk]
      by_cases h : g = k
      · have hb : (g == k) = true := beq_iff_eq.mpr h
        simp only [List.lookup, hb, if_neg (fun e : g = f => hk (h.symm.trans e))]
      · have hb : (g == k) = false := beq_eq_false_iff_ne.mpr h
        simp only [List.lookup, hb]
        exact ih
theorem keys_putF (f : Str) (v : V) : ∀ fs : List (Str × V), f ∈ (putF f v fs).map (·.1) ∧ ∀ g, g ∈ fs.map (·.1) → g ∈ (putF f v fs).map (·.1)
  | [] => ⟨by simp [putF], fun g h => by simp at h⟩
  | (k, x) :: r => by
    obtain ⟨i1, i2⟩ := keys_putF f v r
    rw [show putF f v ((k, x) :: r) = (if k = f then (k, v) :: r else (k, x) :: putF f v r) from rfl]
    by_cases hk : k = f
    · rw [if_pos hk]
      subst hk
      exact ⟨by simp, fun g h => by simpa using h⟩
    · rw [if_neg hk]
      refine ⟨?_, fun g h => ?_⟩
      · rw [List.map_cons]
        exact List.mem_cons_of_mem _ i1
      · rw [List.map_cons] at h ⊢
        rcases List.mem_cons.mp h with e | e
        · exact List.mem_cons.mpr (.inl e)
        · exact List.mem_cons_of_mem _ (i2 g e)
theorem length_putF (f : Str) (v : V) : ∀ fs : List (Str × V), (putF f v fs).length ≤ fs.length + 1
  | [] => by simp [putF]
  | (k, x) :: r => by
    have ih := length_putF f v r
    rw [show putF f v ((k, x) :: r) = (if k = f then (k, v) :: r else (k, x) :: putF f v r) from rfl]
    by_cases hk : k = f
    · rw [if_pos hk, List.length_cons, List.length_cons]; omega
    · rw [if_neg hk, List.length_cons, List.length_cons]; omega

theorem RelO.some_of {v : V} {o : Option Value} (r : RelO (some v) o) : ∃ u, o = some u ∧ RelV v u := by
  cases o with
  | none => exact (show False from r).elim
  | some u => exact ⟨u, rfl, r⟩
theorem RelO.none_of {o : Option Value} (r : RelO none o) : o = none := by
  cases o with
  | none => rfl
  | some u => exact (show False from r).elim
theorem handed_of {v : V} {u : Value} (r : RelV v u) : PySem.W.handedIn u = true := by
  cases v with
  | non => cases (show u = Value.none from r); rfl
  | bl b => cases (show u = Value.bool b from r); rfl
  | int i => obtain ⟨t, e⟩ := (show ∃ t, u = Value.int i t from r); cases e; rfl
  | str x => obtain ⟨t, e⟩ := (show ∃ t, u = Value.str x t from r); cases e; rfl
  | byt b => obtain ⟨t, e⟩ := (show ∃ t, u = Value.bytes b t from r); cases e; rfl
  | flt b => obtain ⟨t, e⟩ := (show ∃ t, u = Value.float b t from r); cases e; rfl
  | ref a => cases (show u = Value.ref a from r); rfl
  | ty n => cases (show u = Value.type n from r); rfl

section
variable {P : Program} {w : World} {H H' : Hp} {h h' : Heap} {a C dx : Addr} {fs fs' : List (Str × V)}
theorem ins_get (hok : HOk P w H h) (e : H a = some (.ins C dx fs)) : ∃ mA, ObjM h a dx C mA ∧ (∀ f, RelO (fs.lookup f) (mA f)) ∧ PySem.Within mA (fs.map (·.1)) ∧ fs.length ≤ 1000 ∧ H dx = some (.own a) := by
  obtain ⟨d, z, ne, ob, mA, n, r, q⟩ := (show ObjOk P w H h a (.ins C dx fs) from hok a _ e)
  exact ⟨mA, ⟨ob, n, ne⟩, r, q, z, d⟩
end

structure Cls (K : PySem.W.Frag) (C : Addr) : Prop where
  pg : PySem.W.plainGet K C Str.empty = true
  hd : PySem.W.hasDictIn K C = true
  po : PySem.W.plainOver K C = true
  sa : PySem.W.findIn K (.ref C) "__setattr__" = some (some (.builtin "object.__setattr__"))
theorem Cls.get {K : PySem.W.Frag} {C : Addr} (c : Cls K C) (f : Str) : PySem.W.plainGet K C f = true := c.pg
def NoAttr (K : PySem.W.Frag) (C : Addr) (f : Str) : Prop := PySem.W.findIn K (.ref C) f = some none
theorem NoAttr.taker {K : PySem.W.Frag} {C : Addr} {f : Str} (n : NoAttr K C f) : PySem.W.takerIn K C f = some none := by
  unfold PySem.W.takerIn
  rw [show PySem.W.findIn K (.ref C) f = some none from n]
  rfl
structure Con (K : PySem.W.Frag) (C : Addr) (f : Str) (v : V) (u : Value) : Prop where
  at_ : PySem.W.findIn K (.ref C) f = some (some u)
  rel : RelV v u
  get : PySem.W.specialIn K u "__get__" = some none
  cp : PySem.W.copiedNames.contains f = false
structure Meth (K : PySem.W.Frag) (C : Addr) (m : Str) (f : Addr) : Prop where
  at_ : PySem.W.findIn K (.ref C) m = some (some (.ref f))
  fn : PySem.W.isFn K (.ref f) = true
  kp : PySem.W.keepIn K (.ref f) = true

section
variable {X : Cx} {pins : List (Addr × Obj)} {σ : St} {H : Hp} {s : Shared} {a C dx : Addr} {fs : List (Str × V)} {f : Str} {v : V} {A : Around} {E : Value → Shared → Prop}

theorem getattr_ok {b : Bool} {Q : Value → Shared → Prop} (I : Inv X pins σ H s) (e : H a = some (.ins C dx fs)) (c : Cls X.K C) (n : NoAttr X.K C f) (l : fs.lookup f = some v)
    (h : ∀ u s', Inv X pins σ H s' → RelV v u → Q u s') : wpAny (model X.prog X.w) A (getAttr (.ref a) f b) Q E s := by
  obtain ⟨mA, O, r, _, _, _⟩ := ins_get I.hok e
  obtain ⟨u, hu, ru⟩ := RelO.some_of (v := v) (o := mA f) (by rw [← l]; exact r f)
  exact get_map I.kIn O (c.get f) c.hd n hu (handed_of ru) (h u _ (I.tok _) ru)

theorem getmeth_ok {m : Str} {g : Addr} {pl : Sem Bool} {Q : Value × List Value → Shared → Prop} (I : Inv X pins σ H s) (e : H a = some (.ins C dx fs)) (c : Cls X.K C) (k : Meth X.K C m g) (l : fs.lookup m = none)
    (h : Q (.ref g, [.ref a]) s) : wpAny (model X.prog X.w) A (getMethod (.ref a) m pl) Q E s := by
  obtain ⟨mA, O, r, _, _, _⟩ := ins_get I.hok e
  have hn : mA m = none := RelO.none_of (by rw [← l]; exact r m)
  exact get_meth I.kIn O (c.get m) k.at_ k.fn hn h

theorem setattr_ok {y : V} {u : Value} {Q : Unit → Shared → Prop} (I : Inv X pins σ H s) (e : H a = some (.ins C dx fs)) (c : Cls X.K C) (n : NoAttr X.K C f) (hl : fs.length < 1000) (ry : RelV y u)
    (h : ∀ s', Inv X pins σ (upd H a (.ins C dx (putF f y fs))) s' → Q () s') : wpAny (model X.prog X.w) A (setAttr (.ref a) f u) Q E s := by
  obtain ⟨mA, O, r, wi, _, ho⟩ := ins_get I.hok e
  have hz : (fs.map (·.1)).length ≤ sizeLine := by rw [List.length_map, sizeLine_eq]; omega
  refine set_map I.kIn O c.sa c.po n.taker c.hd wi hz fun h' O' sb => h _ ?_
  have hd : ∃ o, h'.get? dx = some o := let ⟨o, _, _, e', _⟩ := O'.ns; ⟨o, e'⟩
  refine I.write (x := a) (e := dx) (by rw [e]; exact True.intro) (.inr ho) (fun b q hb z => (sb.2 b hb).trans z) hd ?_
  refine ⟨by rw [upd_ne O.ne]; exact ho, ?_, O.ne, O'.obj, _, O'.ns, fun g => ?_, fun g hg => ?_⟩
  · have := length_putF f y fs; omega
  · show RelO ((putF f y fs).lookup g) (if g = f then some u else mA g)
    rw [lookup_putF]
    by_cases q : g = f
    · rw [if_pos q, if_pos q]; exact ry
    · rw [if_neg q, if_neg q]; exact r g
  · by_cases q : g = f
    · rw [q]; exact (keys_putF f y fs).1
    · refine (keys_putF f y fs).2 g (wi g fun z => hg ?_)
      show (if g = f then some u else mA g) = none
      rw [if_neg q]; exact z

theorem Inv.made (I : Inv X pins σ H s) : Inv X pins σ (upd (upd H s.heap.objs.size (.own (s.heap.objs.size + 1))) (s.heap.objs.size + 1) (.ins C s.heap.objs.size []))
    { s with heap := (s.heap.push PySem.W.emptyDict).push (PySem.W.instObj C s.heap.objs.size) } := by
  have e1 : (s.heap.push PySem.W.emptyDict).get? s.heap.objs.size = some PySem.W.emptyDict := Heap.get?_push_size s.heap rfl
  have e2 : ((s.heap.push PySem.W.emptyDict).push (PySem.W.instObj C s.heap.objs.size)).get? (s.heap.objs.size + 1) = some (PySem.W.instObj C s.heap.objs.size) := by
    have := Heap.get?_push_size (s.heap.push PySem.W.emptyDict) (o := PySem.W.instObj C s.heap.objs.size) rfl
    rwa [Heap.size_push] at this
  have e3 : (s.heap.push PySem.W.emptyDict).Ns s.heap.objs.size (fun _ => none) := ⟨PySem.W.emptyDict, #[], _, e1, rfl, (fun e he => absurd he (by simp)), fun _ => rfl⟩
  have I1 := I.laid (a := s.heap.objs.size) (o := .own (s.heap.objs.size + 1)) (h' := s.heap.push PySem.W.emptyDict) (t' := s.toks) (fun b u q => Heap.get?_push_of_some _ q) (Nat.le_refl _) ⟨_, e1⟩
  refine I1.laid (a := s.heap.objs.size + 1) (o := .ins C s.heap.objs.size []) (t' := s.toks) (fun b u q => Heap.get?_push_of_some _ q) (Nat.le_of_eq (Heap.size_push _ _)) ?_
  have ne : s.heap.objs.size ≠ s.heap.objs.size + 1 := Nat.ne_of_lt (Nat.lt_succ_self _)
  refine ⟨by rw [upd_ne ne, upd_same], Nat.zero_le _, ne, e2, fun _ => none, (Heap.Ns1.of_empty e3).at fun o q => Heap.get?_push_of_some _ q, fun _ => True.intro, fun y hy => absurd rfl hy⟩

theorem attr_of {prog : Program} {w : World} {env : Env} {e : Expr} {f : Str} {pos : Pos} {s : Shared} {Q : Value → Shared → Prop} (hb : attributeBase e f env (eval e env) = eval e env)
    (h : wpAny (model prog w) A (eval e env) (fun o s₁ => wpAny (model prog w) A (getAttr o f true) Q E s₁) E s) : wpAny (model prog w) A (eval (.Attribute e f pos) env) Q E s :=
  Attribute_any_ h (by rw [arm_eval_Attribute, hb])
end

def tFld (K : PySem.W.Frag) (ta : TE) (f : Str) : TE := fun σ H Q => ta σ H fun x H1 => ∃ a C dx fs v, x = .ref a ∧ H1 a = some (.ins C dx fs) ∧ Cls K C ∧ NoAttr K C f ∧ fs.lookup f = some v ∧ Q v H1
def sFld (K : PySem.W.Frag) (ta tv : TE) (f : Str) : TS := fun D σ H => tv σ H fun y H1 => ta σ H1 fun x H2 => ∃ a C dx fs, x = .ref a ∧ H2 a = some (.ins C dx fs) ∧ Cls K C ∧ NoAttr K C f ∧ fs.length < 1000 ∧
  D.nx σ (upd H2 a (.ins C dx (putF f y fs)))
section
variable {X : Cx} {o e value : Expr} {f : Str} {pos pos' tpos : Pos} {ta tv : TE}
theorem pe_fld (he : PE X e ta) (hb : attributeBase e f X.env (eval e X.env) = eval e X.env) : PE X (.Attribute e f pos) (tFld X.K ta f) := by
  intro pins s σ H Q I h
  refine attr_of hb (thn (he pins s σ H _ I h) fun u s1 ⟨x, H1, I1, rx, a, C, dx, fs, v, ex, ea, c, n, l, q⟩ => ?_)
  subst ex
  obtain rfl : u = Value.ref a := rx
  exact getattr_ok I1 ea c n l fun u' s2 I2 ru => ⟨v, H1, I2, ru, q⟩
theorem ps_fld (ha : PE X o ta) (hv : PE X value tv) (hs : swapsWith value (some (.Attribute o f pos')) pos.line X.env = pure false) : PS X (.Assign [.Attribute o f pos'] value pos) (sFld X.K ta tv f) := by
  intro pins s σ H D I h
  refine plainObj_wpAny_Assign_Attribute (thn (hv pins s σ H _ I h) fun u s1 ⟨y, H1, I1, ry, q⟩ => thn (ha pins s1 σ H1 _ I1 q) fun ov s2 ⟨x, H2, I2, rx, a, C, dx, fs, ex, ea, c, n, l, q2⟩ => ?_) hs
  subst ex
  obtain rfl : ov = Value.ref a := rx
  exact setattr_ok I2 ea c n l ry fun s3 I3 => ⟨σ, _, I3, q2⟩
end

section
variable {X : Cx} {pins : List (Addr × Obj)} {σ : St} {H : Hp} {s : Shared} {A : Around} {E : Value → Shared → Prop} {Q : Value → Shared → Prop} {c : Value} {b : Bool}
inductive TyOf (K : PySem.W.Frag) (H : Hp) : V → Value → Prop where
  | non : TyOf K H .non (.type "NoneType")
  | bl (x : Bool) : TyOf K H (.bl x) (.type "bool")
  | int (i : Int) : TyOf K H (.int i) (.type "int")
  | str (x : Str) : TyOf K H (.str x) (.type "str")
  | flt (x : UInt64) : TyOf K H (.flt x) (.type "float")
  | lst {a : Addr} {xs : List V} (e : H a = some (.lst xs)) : TyOf K H (.ref a) (.type "list")
  | frz {a : Addr} {o : Obj} {xs : List V} (e : H a = some (.frz o (.lst xs))) : TyOf K H (.ref a) (.type "list")
  | tup {a : Addr} {xs : List V} (e : H a = some (.tup xs)) : TyOf K H (.ref a) (.type "tuple")
  | dK {a : Addr} {kvs : List (Key × V)} (e : H a = some (.dK kvs)) : TyOf K H (.ref a) (.type "dict")
  | dT {a : Addr} {kvs : List (List Key × V)} (e : H a = some (.dT kvs)) : TyOf K H (.ref a) (.type "dict")
  | ins {a C dx : Addr} {fs : List (Str × V)} (e : H a = some (.ins C dx fs)) (cl : Cls K C) (ha : PySem.W.findIn K (.ref C) "__class__" = some (some (.builtin "object.__class__")))
      (hn : PySem.W.specialIn K (.builtin "object.__class__") "__get__" = some (some (.builtin "getset_descriptor.__get__"))) (htk : PySem.W.takesIn K (.builtin "object.__class__") = some true)
      (hm : PySem.W.mroIn K C (.type "object") = some true) : TyOf K H (.ref a) (.ref C)
theorem isinst_ok {x : V} {u t : Value} (I : Inv X pins σ H s) (rx : RelV x u) (ty : TyOf X.K H x t) (e : PySem.W.kitOne X.K t c = some b) (h : ∀ tk, Q (.bool b) { s with toks := tk }) :
    wpAny (model X.prog X.w) A (call (.builtin "isinstance") [u, c]) Q E s := by
  cases ty with
  | non => cases (show u = Value.none from rx); exact PySem.W.kia_one PySem.W.kitx_none I.kIn True.intro e (fun z => nomatch z) h
  | bl y => cases (show u = Value.bool y from rx); exact PySem.W.kia_one PySem.W.kitx_bool I.kIn True.intro e (fun z => nomatch z) h
  | int i => obtain ⟨t, q⟩ := (show ∃ t, u = Value.int i t from rx); cases q; exact PySem.W.kia_one PySem.W.kitx_int I.kIn True.intro e (fun z => nomatch z) h
  | str y => obtain ⟨t, q⟩ := (show ∃ t, u = Value.str y t from rx); cases q; exact PySem.W.kia_one PySem.W.kitx_str I.kIn True.intro e (fun z => nomatch z) h
  | flt y => obtain ⟨t, q⟩ := (show ∃ t, u = Value.float y t from rx); cases q; exact PySem.W.kia_one PySem.W.kitx_float I.kIn True.intro e (fun z => nomatch z) h
  | @lst a xs ea =>
    cases (show u = Value.ref a from rx)
    obtain ⟨_, _, n, _, h1⟩ := (show ObjOk X.prog X.w H s.heap a (.lst xs) from I.hok a _ ea)
    exact PySem.W.kia_one PySem.W.kitx_list I.kIn ⟨_, h1, rfl⟩ e (fun z => nomatch z) h
  | @frz a ob xs ea =>
    cases (show u = Value.ref a from rx)
    obtain ⟨_, _, _, n, _, h1⟩ := (show ObjOk X.prog X.w H s.heap a (.frz ob (.lst xs)) from I.hok a _ ea)
    exact PySem.W.kia_one PySem.W.kitx_list I.kIn ⟨_, h1, rfl⟩ e (fun z => nomatch z) h
  | @tup a xs ea =>
    cases (show u = Value.ref a from rx)
    obtain ⟨_, _, _, p⟩ := (show ObjOk X.prog X.w H s.heap a (.tup xs) from I.hok a _ ea)
    obtain ⟨o, h1, h2, _⟩ := p
    exact PySem.W.kia_one PySem.W.kitx_tuple I.kIn ⟨o, h1, h2⟩ e (fun z => nomatch z) h
  | @dK a kvs ea =>
    cases (show u = Value.ref a from rx)
    obtain ⟨_, _, vs, _, p⟩ := (show ObjOk X.prog X.w H s.heap a (.dK kvs) from I.hok a _ ea)
    obtain ⟨o, es, ep, h1, h2, _⟩ := p
    exact PySem.W.kia_one PySem.W.kitx_dict I.kIn ⟨o, h1, h2.1⟩ e (fun z => nomatch z) h
  | @dT a kvs ea =>
    cases (show u = Value.ref a from rx)
    obtain ⟨_, _, xs, _, o, es, ep, h1, h2, _⟩ := (show ObjOk X.prog X.w H s.heap a (.dT kvs) from I.hok a _ ea)
    exact PySem.W.kia_one PySem.W.kitx_dict I.kIn ⟨o, h1, h2.1⟩ e (fun z => nomatch z) h
  | @ins a C dx fs ea cl ha hn htk hm =>
    cases (show u = Value.ref a from rx)
    obtain ⟨mA, O, _⟩ := ins_get I.hok ea
    obtain ⟨od, J, _⟩ := O.look
    exact PySem.W.kia_one (PySem.W.kitx_own (cl.get _) cl.hd ha hn htk hm) I.kIn J e (fun z => nomatch z) h
end
end L2

namespace L2
open PySem PySem.Spec PyProof.Rows

structure Room (k : Nat) (A : Around) : Prop where
  hd : A.handled = none
  dp : A.depth + 3 * k + 5 < recursionLimit
  un : A.units + 16 * k + 200 < cLine
theorem Room.mono {j k : Nat} {A : Around} (r : Room k A) (h : j ≤ k) : Room j A := ⟨r.hd, by have := r.dp; omega, by have := r.un; omega⟩
theorem Room.deeper {k : Nat} {A : Around} (r : Room (k + 1) A) (env : Env) : Room k (A.deeper env) :=
  ⟨r.hd, by have := r.dp; show A.depth + 1 + 3 * k + 5 < _; omega, by have := r.un; show A.units + 3 + 16 * k + 200 < _; omega⟩
theorem make_depth {A : Around} {C : Addr} {us : List Value} {kw : List (Str × Value)} : (A.under (.builtin "type.__call__" ⟨.ref C :: us, kw⟩)).depth = A.depth + 1 := by
  first | rfl | simp [Around.under, Code.weight, Code.isCreation, Code.isGuard, Code.isCaller, Code.frames, Code.isFrame, guardIds]
theorem make_units {A : Around} {C : Addr} {us : List Value} {kw : List (Str × Value)} : (A.under (.builtin "type.__call__" ⟨.ref C :: us, kw⟩)).units = A.units + 1 := by
  first | rfl | simp [Around.under, Code.cUnits, Code.frames, Code.isFrame]
theorem Room.make {k : Nat} {A : Around} (r : Room (k + 1) A) (C : Addr) (us : List Value) (kw : List (Str × Value)) : Room k (A.under (.builtin "type.__call__" ⟨.ref C :: us, kw⟩)) :=
  ⟨r.hd, by have := r.dp; rw [make_depth]; omega, by have := r.un; rw [make_units]; omega⟩
theorem Room.depth {k : Nat} {A : Around} (r : Room k A) : A.depth < recursionLimit := by have := r.dp; omega
theorem Room.units {k : Nat} {A : Around} (r : Room k A) : A.units + 64 < cLine := by have := r.un; omega
def tNil : TA := fun _ H Q => Q [] H
def tCons (ta : TE) (tr : TA) : TA := fun σ H Q => ta σ H fun x H1 => tr σ H1 fun xs H2 => Q (x :: xs) H2
section
variable {X : Cx} {e : Expr} {es : List Expr} {te : TE} {t : TA} {pos : Pos}
theorem pa_nil : PA X [] tNil := fun _ _ _ _ H Q I h => Calls.spliced_nil ⟨[], H, I, .nil, h⟩
theorem pa_cons (ha : PE X e te) (hr : PA X es t) (hs : starEach (e :: es) X.env = (false, eval e X.env) :: starEach es X.env := by rfl) : PA X (e :: es) (tCons te t) := by
  intro pos pins s σ H Q I h
  rw [hs]
  show wpAny _ _ (spliced ((false, eval e X.env) :: backTo pos (starEach es X.env))) _ _ s
  refine Calls.spliced_cons (thn (ha pins s σ H _ I h) fun u s1 ⟨x, H1, I1, r1, q1⟩ => ?_)
  exact thn (hr pos pins s1 σ H1 _ I1 q1) fun us s2 ⟨xs, H2, I2, r2, q2⟩ => ⟨x :: xs, H2, I2, .cons r1 r2, q2⟩

def tTup (t : TA) : TE := fun σ H Q => t σ H fun xs H1 => xs.length ≤ sizeLine ∧ ∀ p, H1 p = none → Q (.ref p) (upd H1 p (.tup xs))
def tLst (t : TA) : TE := fun σ H Q => t σ H fun xs H1 => xs.length ≤ sizeLine ∧ ∀ p, H1 p = none → Q (.ref p) (upd H1 p (.lst xs))
theorem pe_tup {x1} (h : PA X es t) : PE X (.Tuple es x1 pos) (tTup t) := by
  intro pins s σ H Q I hq
  refine wpAny_Tuple_spliced (thn (h pos pins s σ H _ I hq) fun us s1 ⟨xs, H1, I1, r, z, q⟩ => ⟨by rw [← r.length]; exact z, ?_⟩)
  have hf : H1 s1.heap.objs.size = none := I1.hok.fresh (Nat.le_refl _)
  refine ⟨.ref s1.heap.objs.size, upd H1 s1.heap.objs.size (.tup xs), I1.laid (t' := s1.toks) (fun b u e => Heap.get?_push_of_some _ e) (Nat.le_refl _) ?_, rfl, q _ hf⟩
  exact ⟨z, us, r, ⟨_, Heap.get?_push_size _ rfl, rfl, _, rfl, rfl⟩⟩
theorem pe_lst (h : PA X es t) : PE X (.List es pos) (tLst t) := by
  intro pins s σ H Q I hq
  refine wpAny_List_spliced (thn (h pos pins s σ H _ I hq) fun us s1 ⟨xs, H1, I1, r, z, q⟩ => ⟨by rw [← r.length]; exact z, ?_⟩)
  have hf : H1 s1.heap.objs.size = none := I1.hok.fresh (Nat.le_refl _)
  refine ⟨.ref s1.heap.objs.size, upd H1 s1.heap.objs.size (.lst xs), I1.laid (t' := s1.toks) (fun b u e => Heap.get?_push_of_some _ e) (Nat.le_refl _) ?_, rfl, q _ hf⟩
  exact ⟨z, us, 0, r, Heap.get?_push_size _ rfl⟩
end

abbrev Sp := List V → Hp → VK → XK → Prop
abbrev CXT := List Env → Hp → Shared → XK → Value → Shared → Prop

structure Env0 (P : Program) (w : World) (K : PySem.W.Frag) (mg : Str → Option Value) (base : Heap) (A : Around) (outer : List Env) (s : Shared) (H : Hp) : Prop where
  frames : A.frames = some outer
  mod : Mod K mg base
  bs : ∀ b o, base.get? b = some o → s.heap.get? b = some o ∧ H b = none
  bsz : base.objs.size ≤ s.heap.objs.size
  funs : s.heap.FunFrames base outer
  frf : ∀ b ∈ frs outer, H b = none
  hok : HOk P w H s.heap
  bare : AllBare s.gens
def CE (outer : List Env) (P : Program) (w : World) (H : Hp) (s : Shared) (Q : VK) (u : Value) (s' : Shared) : Prop :=
  ∃ v H', s'.os = s.os ∧ AllBare s'.gens ∧ Un (frs outer) [] H H' s.heap s'.heap ∧ HOk P w H' s'.heap ∧ RelV v u ∧ Q v H'
def CR (CX : CXT) (outer : List Env) (P : Program) (w : World) (H : Hp) (s : Shared) (Q : VK) (E : XK) (r : Result) (s' : Shared) : Prop :=
  match r with
  | .ok (.ret u) => CE outer P w H s Q u s'
  | .ok _ => False
  | .error e => CX outer H s E e s'
structure FnOk (P : Program) (w : World) (K : PySem.W.Frag) (mg : Str → Option Value) (base : Heap) (CX : CXT) (k : Nat) (f : Addr) (fd : FuncData) (ps : List Str) (sp : Sp) : Prop where
  len : ∀ vs H Q E, sp vs H Q E → vs.length = ps.length
  run : ∀ (A : Around) (outer : List Env) (s : Shared) (H : Hp) (args : Args) (us : List Value) (vs : List V) (Q : VK) (E : XK), Room k A → Env0 P w K mg base A outer s H → BindsTo s fd args (ps.zip us) → Vals vs us → sp vs H Q E →
    codeAny (model P w) A (.call (.ref f) args) (CR CX outer P w H s Q E) s
theorem FnOk.imp {P : Program} {w : World} {K : PySem.W.Frag} {mg : Str → Option Value} {base : Heap} {CX : CXT} {k : Nat} {f : Addr} {fd : FuncData} {ps : List Str} {sp sp' : Sp} (F : FnOk P w K mg base CX k f fd ps sp)
    (h : ∀ vs H Q E, sp' vs H Q E → sp vs H Q E) : FnOk P w K mg base CX k f fd ps sp' :=
  ⟨fun vs H Q E q => F.len vs H Q E (h _ _ _ _ q), fun A outer s H args us vs Q E hr he hb hv hs => F.run A outer s H args us vs Q E hr he hb hv (h _ _ _ _ hs)⟩

theorem Env0.make {P : Program} {w : World} {K : PySem.W.Frag} {mg : Str → Option Value} {base : Heap} {A : Around} {outer : List Env} {s : Shared} {H : Hp} (e : Env0 P w K mg base A outer s H) (C : Addr) (us : List Value) (kw : List (Str × Value)) :
    Env0 P w K mg base (A.under (.builtin "type.__call__" ⟨.ref C :: us, kw⟩)) outer s H := ⟨by first | exact e.frames | (simpa [Around.under, Code.envs, Code.isFrame, pushEnvs] using e.frames), e.mod, e.bs, e.bsz, e.funs, e.frf, e.hok, e.bare⟩
section
variable {X : Cx} {pins : List (Addr × Obj)} {σ : St} {H : Hp} {s s' : Shared}
theorem Inv.env0 (I : Inv X pins σ H s) : Env0 X.prog X.w X.K X.mg X.base X.A X.stack s H :=
  ⟨I.ok.frames, I.ok.mod, I.bs, Nat.le_trans I.ok.bsz I.sz, I.stack, I.stkFree, I.hok, I.bare⟩
theorem Inv.after {Q : VK} {u : Value} (I : Inv X pins σ H s) (h : CE X.stack X.prog X.w H s Q u s') : EP X pins σ Q u s' := by
  obtain ⟨v, H', os, bare, un, hok, r, q⟩ := h
  obtain ⟨hh, g, d, t, os'⟩ := s'
  obtain rfl : os' = s.os := os
  exact ⟨v, H', I.call (h' := hh) (g' := g) (d' := d) (t' := t) (ch := []) un hok bare (fun b z => absurd z (by simp)), r, q⟩
end

def tCall (sp : Sp) (dvs : List V) (E : XK) (t : TA) : TE := fun σ H Q => t σ H fun vs H1 => sp (vs ++ dvs) H1 Q E
def tMeth (C : Addr) (m : Str) (sp : Sp) (dvs : List V) (E : XK) (ta : TE) (t : TA) : TE := fun σ H Q => ta σ H fun x H1 => ∃ a dx fs, x = .ref a ∧ H1 a = some (.ins C dx fs) ∧ fs.lookup m = none ∧
  t σ H1 fun vs H2 => sp (x :: (vs ++ dvs)) H2 Q E
def tMake (C : Addr) (sp : Sp) (dvs : List V) (E : XK) (t : TA) : TE := fun σ H Q => t σ H fun vs H1 => ∀ x dx, H1 x = none → H1 dx = none → dx ≠ x →
  sp (.ref x :: (vs ++ dvs)) (upd (upd H1 dx (.own x)) x (.ins C dx [])) (fun v H2 => v = .non ∧ Q (.ref x) H2) E

def Binds (K : PySem.W.Frag) (fd : FuncData) (ps : List Str) (ds : List Value) : Prop :=
  ∀ (s : Shared) (us : List Value), K.In s.heap → (us ++ ds).length = ps.length → BindsTo s fd ⟨us, []⟩ (ps.zip (us ++ ds))
theorem Binds.all {K : PySem.W.Frag} {fd : FuncData} {ps : List Str} (h : ∀ us : List Value, us.length = ps.length → bindArgs fd ⟨us, []⟩ = pure (ps.zip us)) : Binds K fd ps [] := fun s us _ hl => by
  rw [List.append_nil] at hl ⊢
  exact .of_eq (h us hl)

def Passes (CX : CXT) (X : Cx) (E : XK) : Prop := ∀ (pins : List (Addr × Obj)) (σ : St) (H : Hp) (s : Shared) (e : Value) (s' : Shared), Inv X pins σ H s → CX X.stack H s E e s' → X.xe e s'

section
variable {X : Cx} {CX : CXT} {k : Nat} {f C : Addr} {fd : FuncData} {ps : List Str} {sp : Sp} {dvs : List V} {ds : List Value} {E : XK} {x m : Str} {p pos apos : Pos} {e o : Expr} {es : List Expr} {ta : TE} {t : TA}

theorem run_fn {pins : List (Addr × Obj)} {σ : St} {H : Hp} {s : Shared} {Q : VK} {us : List Value} {vs : List V} (F : FnOk X.prog X.w X.K X.mg X.base CX k f fd ps sp) (hr : Room k X.A) (hb : Binds X.K fd ps ds) (hd : Vals dvs ds) (hx : Passes CX X E)
    (I : Inv X pins σ H s) (r : Vals vs us) (h : sp (vs ++ dvs) H Q E) : wpAny (model X.prog X.w) X.A (call (.ref f) us) (EP X pins σ Q) X.xe s := by
  have r2 : Vals (vs ++ dvs) (us ++ ds) := r.append hd
  have hl : (us ++ ds).length = ps.length := by rw [← r2.length]; exact F.len _ _ _ _ h
  refine wpAny_call (codeAny_mono (F.run X.A X.stack s H ⟨us, []⟩ (us ++ ds) (vs ++ dvs) Q E hr I.env0 (hb s us I.kIn hl) r2 h) fun r s' hq => ?_)
  cases r with
  | error e => exact hx pins σ H s e s' I hq
  | ok fl =>
    cases fl with
    | ret u => exact I.after hq
    | next => exact False.elim hq
    | brk => exact False.elim hq
    | cont => exact False.elim hq

theorem pe_call (F : FnOk X.prog X.w X.K X.mg X.base CX k f fd ps sp) (hr : Room k X.A) (hg : Gl X x) (hm : X.mg x = some (.ref f)) (hk : PySem.W.keepIn X.K (.ref f) = true) (hb : Binds X.K fd ps ds) (hd : Vals dvs ds) (hx : Passes CX X E)
    (ha : PA X (e :: es) t) (hdb : (x == ("__debug__" : Str)) = false := by decide) (he : starEach (e :: es) X.env = (false, eval e X.env) :: starEach es X.env := by rfl) (hpl : (backTo pos (starEach es X.env)).any (·.1) = false := by rfl) :
    PE X (.Call (.Name x p) (e :: es) [] pos) (tCall sp dvs E t) := by
  intro pins s σ H Q I h
  refine wpAny_Call_Name_kw (ld_glob I hg hm ?_ hdb)
  refine PySem.W.callWith_K (h₀ := X.base) I.ok.mod.kin hk (thn (ha pos pins s σ H _ I h) fun us s1 ⟨vs, H1, I1, r, q⟩ => ⟨I1.kIn, ?_⟩) he hpl
  exact run_fn F hr hb hd hx I1 r q
theorem pe_meth0 {pl : Sem Bool} (he : PE X o ta) (c : Cls X.K C) (hm : Meth X.K C m f) (F : FnOk X.prog X.w X.K X.mg X.base CX k f fd ps sp) (hr : Room k X.A) (hb : Binds X.K fd ps ds) (hd : Vals dvs ds) (hx : Passes CX X E)
    (ht : eval (.Call (.Attribute o m apos) [] [] pos) X.env = (do
      let ov ← eval o X.env
      standAt apos.atName
      let (f, first) ← holding [ov] (getMethod ov m pl)
      callWith pos f first (backTo pos (starEach [] X.env)) (backToKw pos (keywordEach [] X.env))) := by rfl) :
    PE X (.Call (.Attribute o m apos) [] [] pos) (tMeth C m sp dvs E ta tNil) := by
  intro pins s σ H Q I h
  refine PySem.W.methodCall_KW (pl := pl) (thn (he pins s σ H _ I h) fun u s1 ⟨x, H1, I1, rx, a, dx, fs, ex, ea, l, q⟩ => ?_) ht
  subst ex
  obtain rfl : u = Value.ref a := rx
  refine getmeth_ok I1 ea c hm l ?_
  exact PySem.W.callWith_K0 (first := [.ref a]) I1.kIn hm.kp (run_fn (us := [.ref a]) (vs := [.ref a]) F hr hb hd hx I1 (.cons rfl .nil) q)

structure Mk (K : PySem.W.Frag) (C f : Addr) : Prop where
  makes : PySem.W.makesIn K C = true
  init : PySem.W.findIn K (.ref C) "__init__" = some (some (.ref f))
  fn : PySem.W.isFn K (.ref f) = true
  kp : PySem.W.keepIn K (.ref C) = true

theorem run_make {pins : List (Addr × Obj)} {σ : St} {H : Hp} {s : Shared} {Q : VK} {us : List Value} {vs : List V} (M : Mk X.K C f) (F : FnOk X.prog X.w X.K X.mg X.base CX k f fd ps sp) (hr : Room (k + 1) X.A) (hb : Binds X.K fd ps ds) (hd : Vals dvs ds)
    (hx : Passes CX X E) (I : Inv X pins σ H s) (r : Vals vs us)
    (h : ∀ x dx, H x = none → H dx = none → dx ≠ x → sp (.ref x :: (vs ++ dvs)) (upd (upd H dx (.own x)) x (.ins C dx [])) (fun v H2 => v = .non ∧ Q (.ref x) H2) E) :
    wpAny (model X.prog X.w) X.A (call (.ref C) us) (EP X pins σ Q) X.xe s := by
  have hq := h (s.heap.objs.size + 1) s.heap.objs.size (I.hok.fresh (Nat.le_succ _)) (I.hok.fresh (Nat.le_refl _)) (Nat.ne_of_lt (Nat.lt_succ_self _))
  have I2 := Inv.made (C := C) I
  have r2 : Vals (V.ref (s.heap.objs.size + 1) :: (vs ++ dvs)) (Value.ref (s.heap.objs.size + 1) :: (us ++ ds)) := .cons rfl (r.append hd)
  have hl : (Value.ref (s.heap.objs.size + 1) :: us ++ ds).length = ps.length := by
    have e := r2.length
    rw [F.len _ _ _ _ hq] at e
    exact e.symm
  refine wpAny_call (make_map (f := f) I.kIn M.makes M.init (beq_iff_eq.mp M.fn) (codeAny_mono (F.run _ X.stack _ _ ⟨Value.ref (s.heap.objs.size + 1) :: us, []⟩ (Value.ref (s.heap.objs.size + 1) :: (us ++ ds)) _ _ E (hr.make C us [])
    (I2.env0.make C us []) (hb _ (Value.ref (s.heap.objs.size + 1) :: us) I2.kIn hl) r2 hq) fun r s' hq' => ?_))
  cases r with
  | error e => exact hx pins σ _ _ e s' I2 hq'
  | ok fl =>
    cases fl with
    | ret u =>
      obtain ⟨v, H', I3, rv, ev, q3⟩ := I2.after hq'
      subst ev
      exact ⟨rv, ⟨V.ref (s.heap.objs.size + 1), H', I3, rfl, q3⟩⟩
    | next => exact False.elim hq'
    | brk => exact False.elim hq'
    | cont => exact False.elim hq'
theorem pe_make (M : Mk X.K C f) (F : FnOk X.prog X.w X.K X.mg X.base CX k f fd ps sp) (hr : Room (k + 1) X.A) (hg : Gl X x) (hm : X.mg x = some (.ref C)) (hb : Binds X.K fd ps ds) (hd : Vals dvs ds) (hx : Passes CX X E)
    (ha : PA X (e :: es) t) (hdb : (x == ("__debug__" : Str)) = false := by decide) (he : starEach (e :: es) X.env = (false, eval e X.env) :: starEach es X.env := by rfl) (hpl : (backTo pos (starEach es X.env)).any (·.1) = false := by rfl) :
    PE X (.Call (.Name x p) (e :: es) [] pos) (tMake C sp dvs E t) := by
  intro pins s σ H Q I h
  refine wpAny_Call_Name_kw (ld_glob I hg hm ?_ hdb)
  refine PySem.W.callWith_K (h₀ := X.base) I.ok.mod.kin M.kp (thn (ha pos pins s σ H _ I h) fun us s1 ⟨vs, H1, I1, r, q⟩ => ⟨I1.kIn, ?_⟩) he hpl
  exact run_make M F hr hb hd hx I1 r q
end

section
variable {X : Cx} {CX : CXT} {k : Nat} {f C : Addr} {fd : FuncData} {ps ks : List Str} {sp : Sp} {E : XK} {x m : Str} {p pos apos kpos : Pos} {e o : Expr} {es : List Expr} {kws : List Keyword} {te ta : TE} {t tk : TA} {nm : Option Str}
structure KBinds (K : PySem.W.Frag) (fd : FuncData) (ps ks : List Str) (g : List Value → List Value → List Value) (gV : List V → List V → List V) : Prop where
  to : ∀ (s : Shared) (us ws : List Value), K.In s.heap → (g us ws).length = ps.length → BindsTo s fd ⟨us, ks.zip ws⟩ (ps.zip (g us ws))
  rel : ∀ {vs : List V} {us : List Value} {zs : List V} {ws : List Value}, Vals vs us → Vals zs ws → Vals (gV vs zs) (g us ws)
variable {g : List Value → List Value → List Value} {gV : List V → List V → List V}
end

structure FnScope (N P : List Str) (sc : Scope) : Prop where
  kind : sc.kind = .function
  co : sc.isCoroutine = false
  gen : sc.isGenerator = false
  nd : N.Nodup
  pre : N.take P.length = P
  par : ∀ x ∈ P, sc.names.lookup x = some .local ∨ sc.names.lookup x = some .cell
  nofree : ∀ y ∈ sc.names, y.2 ≠ .free

theorem bindL_out {kindOf : Str → Option NameKind} {x : Str} : ∀ {binds : List (Str × Value)} {m : Str → Option Value}, (∀ v, (x, v) ∉ binds) → bindL kindOf binds m x = m x
  | [], _, _ => rfl
  | (n, v) :: r, m, h => by
    unfold bindL
    rw [bindL_out fun w hw => h w (List.mem_cons_of_mem _ hw)]
    split
    · have : x ≠ n := by rintro rfl; exact h v List.mem_cons_self
      simp [this]
    · rfl
theorem bindC_out {kindOf : Str → Option NameKind} {x : Str} : ∀ {binds : List (Str × Value)} {m : Str → Option Value}, (∀ v, (x, v) ∉ binds) → bindC kindOf binds m x = m x
  | [], _, _ => rfl
  | (n, v) :: r, m, h => by
    unfold bindC
    rw [bindC_out fun w hw => h w (List.mem_cons_of_mem _ hw)]
    split
    · rfl
    · have : x ≠ n := by rintro rfl; exact h v List.mem_cons_self
      simp [this]
theorem bindL_get {kindOf : Str → Option NameKind} {x : Str} {v : Value} : ∀ {P : List Str} {vs : List Value} {i : Nat} {m : Str → Option Value}, P.Nodup → P[i]? = some x → vs[i]? = some v → kindOf x = some .local →
    bindL kindOf (P.zip vs) m x = some v
  | [], _, _, _, _, h, _, _ => by simp at h
  | _ :: _, [], _, _, _, _, h, _ => by simp at h
  | p :: P, w :: vs, 0, m, nd, h1, h2, hk => by
    simp at h1 h2; subst h1; subst h2
    show bindL kindOf ((p, w) :: P.zip vs) m p = _
    unfold bindL
    rw [bindL_out fun v hv => (List.nodup_cons.mp nd).1 (List.of_mem_zip hv).1, if_pos hk]
    simp
  | p :: P, w :: vs, i + 1, m, nd, h1, h2, hk => by
    show bindL kindOf ((p, w) :: P.zip vs) m x = _
    unfold bindL
    exact bindL_get (i := i) (List.nodup_cons.mp nd).2 (by simpa using h1) (by simpa using h2) hk
theorem bindC_get {kindOf : Str → Option NameKind} {x : Str} {v : Value} : ∀ {P : List Str} {vs : List Value} {i : Nat} {m : Str → Option Value}, P.Nodup → P[i]? = some x → vs[i]? = some v → kindOf x ≠ some .local →
    bindC kindOf (P.zip vs) m x = some v
  | [], _, _, _, _, h, _, _ => by simp at h
  | _ :: _, [], _, _, _, _, h, _ => by simp at h
  | p :: P, w :: vs, 0, m, nd, h1, h2, hk => by
    simp at h1 h2; subst h1; subst h2
    show bindC kindOf ((p, w) :: P.zip vs) m p = _
    unfold bindC
    rw [bindC_out fun v hv => (List.nodup_cons.mp nd).1 (List.of_mem_zip hv).1, if_neg hk]
    simp
  | p :: P, w :: vs, i + 1, m, nd, h1, h2, hk => by
    show bindC kindOf ((p, w) :: P.zip vs) m x = _
    unfold bindC
    exact bindC_get (i := i) (List.nodup_cons.mp nd).2 (by simpa using h1) (by simpa using h2) hk

def start (N : List Str) (vs : List V) : St := vs.map some ++ List.replicate (N.length - vs.length) none

def cxOf (CX : CXT) (P : Program) (w : World) (K : PySem.W.Frag) (mg : Str → Option Value) (base : Heap) (N : List Str) (qual : Str) (scope : Scope) (f : Addr) (cd : Value) (A : Around) (outer : List Env) (s : Shared) (H : Hp) (E : XK) : Cx where
  prog := P
  w := w
  K := K
  mg := mg
  base := base
  A := A.deeper (envOfC qual scope s.heap.objs.size f cd)
  N := N
  s₀ := s
  H₀ := H
  env := envOfC qual scope s.heap.objs.size f cd
  outer := outer
  stack := envOfC qual scope s.heap.objs.size f cd :: outer
  ex := []
  calm := true
  fn := fun _ => true
  pn := []
  xe := fun e s' => wpAny (model P w) (A.deeper (envOfC qual scope s.heap.objs.size f cd)) (leaving (envOfC qual scope s.heap.objs.size f cd) e) (fun _ s'' => CX outer H s E e s'') (fun e' s'' => CX outer H s E e' s'') s'

theorem cell_has {sc : Scope} {n : Nat} {x : Str} (h : sc.names.lookup x = some .cell) : ∃ c, (cellsFrom n sc.names []).lookup x = some c := by
  have q := PySem.W.cellsFrom_some sc.names n [] (.inl h)
  exact Option.isSome_iff_exists.mp q

theorem inv_start {CX : CXT} {P : Program} {w : World} {K : PySem.W.Frag} {mg : Str → Option Value} {base : Heap} {N ps : List Str} {qual : Str} {scope : Scope} {f : Addr} {cd : Value} {A : Around} {outer : List Env} {s s1 : Shared} {H : Hp} {E : XK} {us : List Value} {vs : List V}
    (S : FnScope N ps scope) (hd : A.handled = none) (e0 : Env0 P w K mg base A outer s H) (hl : vs.length = ps.length) (r : Vals vs us)
    (x : InCallC s s.heap.objs.size (bindL (envOfC qual scope s.heap.objs.size f cd).kindOf (ps.zip us) fun _ => none) (cellsFrom (s.heap.objs.size + 1) scope.names []) (bindC (envOfC qual scope s.heap.objs.size f cd).kindOf (ps.zip us) fun _ => none) s1) :
    Inv (cxOf CX P w K mg base N qual scope f cd A outer s H E) [] (start N vs) H s1 := by
  have hpl : ps.length ≤ N.length := by have := congrArg List.length S.pre; rw [List.length_take] at this; omega
  obtain ⟨h1, tk, rfl, hk⟩ := x.done
  have noA : ∀ b : Addr, b ∉ (cxOf CX P w K mg base N qual scope f cd A outer s H E).ex := fun b z => absurd (show b ∈ ([] : List Addr) from z) (by simp)
  refine ⟨⟨e0.mod, S.kind, rfl, rfl, Nat.le_refl _, fun y z c h1 h2 => ?_, fun y hy => ?_, fun y c _ h => ?_, fun _ => hd, Around.frames_deeper e0.frames, .inr ⟨rfl, rfl⟩, fun b z => absurd z (noA b), e0.bs, e0.bsz, fun b _ _ => noA b, fun b z => absurd z (noA b), e0.funs, e0.frf⟩,
    rfl, e0.bare, Un.kept hk, ⟨_, x.toInCall.ns, fun i y v h1 h2 h3 => ?_⟩, fun y c h => ⟨_, x.cell y c h⟩, e0.hok.fresh (Nat.le_refl _), fun y c h => ?_, fun p hp => absurd (show p ∈ ([] : List (Addr × Obj)) from hp) (by simp), e0.hok.kept hk, ?_⟩
  · exact name_of_addr x.apart (PySem.mem_of_lookup h1) (PySem.mem_of_lookup h2)
  · have hy : scope.names.lookup y = some .cell ∨ scope.names.lookup y = some .free := hy
    rcases hy with hy | hy
    · exact cell_has hy
    · exact absurd rfl (S.nofree _ (PySem.mem_of_lookup hy))
  · exact Nat.le_of_lt (x.above y c (PySem.mem_of_lookup h))
  · have hi : i < vs.length := by
      unfold start at h2
      by_cases hi : i < vs.length
      · exact hi
      · rw [List.getElem?_append_right (by simpa using hi)] at h2
        rw [List.getElem?_replicate] at h2
        split at h2 <;> cases h2
    have ha : vs[i]? = some v := by
      unfold start at h2
      rw [List.getElem?_append_left (by simpa using hi), List.getElem?_map] at h2
      cases e : vs[i]? with
      | none => rw [e] at h2; cases h2
      | some a => rw [e] at h2; cases h2; rfl
    obtain ⟨u, hu, rv⟩ := r.get ha
    have hp : ps[i]? = some y := by
      rw [← S.pre, List.getElem?_take_of_lt (by omega)]; exact h1
    have ndP : ps.Nodup := by rw [← S.pre]; exact S.nd.sublist (List.take_sublist _ _)
    refine ⟨u, rv, ?_⟩
    rcases S.par y (List.mem_of_getElem? hp) with k | k
    · exact .inl ⟨k, bindL_get ndP hp hu k⟩
    · obtain ⟨c, e⟩ := cell_has (n := s.heap.objs.size + 1) k
      refine .inr ⟨.inl k, c, e, ?_⟩
      have q := x.cell y c e
      rw [bindC_get ndP hp hu (by show scope.names.lookup y ≠ _; rw [k]; decide)] at q
      exact q
  · exact e0.hok.fresh (Nat.le_of_lt (x.above y c (PySem.mem_of_lookup h)))
  · unfold start
    show _ = N.length
    rw [List.length_append, List.length_map, List.length_replicate]
    omega

theorem fn_of {CX : CXT} {P : Program} {w : World} {K : PySem.W.Frag} {mg : Str → Option Value} {base : Heap} {k : Nat} {f : Addr} {name qual : Str} {params : Arguments} {body : List Stmt} {scope : Scope} {dV kV doc pm cdv ct oc : Value} {an od : Option Addr}
    {osl : Array (Option Value)} {N ps : List Str} {sp : Sp} (lk : K.lookup f = some ⟨oc, od, .func (PySem.W.fnOf name qual params body scope dV kV doc pm an cdv ct), osl⟩) (hcd : PySem.W.codeIn K cdv qual = true) (S : FnScope N ps scope)
    (len : ∀ vs H Q E, sp vs H Q E → vs.length = ps.length)
    (hbody : ∀ (A : Around) (outer : List Env) (s : Shared) (H : Hp) (vs : List V) (Q : VK) (E : XK), Room k (A.deeper (envOfC qual scope s.heap.objs.size f cdv)) → sp vs H Q E →
      ∃ t, PSs (cxOf CX P w K mg base N qual scope f cdv A outer s H E) body t ∧ t { nx := fun _ H' => Q .non H', rt := Q } (start N vs) H) :
    FnOk P w K mg base CX (k + 1) f (PySem.W.fnOf name qual params body scope dV kV doc pm an cdv ct) ps sp := by
  refine ⟨len, fun A outer s H args us vs Q E hr e0 hb r hsp => ?_⟩
  have hl := len _ _ _ _ hsp
  have KX : K.In s.heap := e0.mod.kin.keeps fun b o e => (e0.bs b o e).1
  have lim : s.heap.NoLimit := e0.mod.nolimit.keeps fun b o e => (e0.bs b o e).1
  have hkind : ∀ y ∈ ps.zip us, scope.names.lookup y.1 = some .local ∨ (scope.names.lookup y.1 = some .cell ∧ ((cellsFrom (s.heap.objs.size + 1) scope.names []).lookup y.1).isSome = true) := fun ⟨n, v⟩ hy => by
    rcases S.par n (List.of_mem_zip hy).1 with q | q
    · exact .inl q
    · exact .inr ⟨q, PySem.W.cellsFrom_some _ _ _ (.inl q)⟩
  refine codeAny_call_function hr.depth (KX _ _ lk) rfl S.co S.gen rfl (PySem.W.codeRec_of KX hcd) (hb _ _ _ _ ?_)
  refine wpAny_newFunctionEnv_cells S.kind hkind fun env he s1 x => ?_
  subst he
  refine ⟨lim.keeps x.toInCall.keep, codeAny_func ?_⟩
  obtain ⟨t, ht, hq⟩ := hbody A outer s H vs Q E (hr.deeper _) hsp
  have I : Inv (cxOf CX P w K mg base N qual scope f cdv A outer s H E) [] (start N vs) H s1 := inv_start S hr.hd e0 hl r x
  refine wpAny_mono (ht [] s1 (start N vs) H _ I hq) (fun fl s' hs => ?_) fun e s' hs => hs
  have fin : ∀ {σ' : St} {H' : Hp} {v : V} {u : Value}, Inv (cxOf CX P w K mg base N qual scope f cdv A outer s H E) [] σ' H' s' → RelV v u → Q v H' → CE outer P w H s Q u s' :=
    fun {σ' H' v u} J rv q => ⟨v, H', J.os, J.bare, J.base, J.hok, rv, q⟩
  cases fl with
  | ret u =>
    obtain ⟨v, σ', H', J, rv, q⟩ := hs
    exact fin J rv q
  | next =>
    obtain ⟨σ', H', J, q⟩ := hs
    exact fin (v := V.non) (u := Value.none) J rfl q
  | brk =>
    obtain ⟨_, _, _, q⟩ := hs
    exact False.elim q
  | cont =>
    obtain ⟨_, _, _, q⟩ := hs
    exact False.elim q
end L2

namespace L2
open PySem PySem.Spec PyProof.Rows
section
variable {X : Cx} {x : Str} {p pos : Pos} {e : Expr} {es : List Expr} {t : TA} {id T : String} {r : List V → Hp → VK → Prop}

def tCB (r : List V → Hp → VK → Prop) (t : TA) : TE := fun σ H Q => t σ H fun vs H1 => r vs H1 Q
theorem pe_callB (hc : CallR X (.builtin id) r) (hg : Gl X x) (hm : X.mg x = none) (hv : bootBuiltins x = some (.builtin id)) (ha : PA X (e :: es) t) (hn : x ≠ "__name__" := by decide) (hdb : (x == ("__debug__" : Str)) = false := by decide)
    (he : starEach (e :: es) X.env = (false, eval e X.env) :: starEach es X.env := by rfl) (hpl : (backTo pos (starEach es X.env)).any (·.1) = false := by rfl) : PE X (.Call (.Name x p) (e :: es) [] pos) (tCB r t) := by
  intro pins s σ H Q I h
  refine wpAny_Call_Name_kw (ld_blt I hg hm hv ?_ hn hdb)
  exact PyProof.Rows.callWith_builtin1 (thn (ha pos pins s σ H _ I h) fun us s1 ⟨vs, H1, I1, r1, q1⟩ => hc pins s1 σ H1 vs us Q I1 r1 q1) he hpl
theorem pe_callTy (hc : CallR X (.type T) r) (hg : Gl X x) (hm : X.mg x = none) (hv : bootBuiltins x = some (.type T)) (ha : PA X (e :: es) t) (hn : x ≠ "__name__" := by decide) (hdb : (x == ("__debug__" : Str)) = false := by decide)
    (he : starEach (e :: es) X.env = (false, eval e X.env) :: starEach es X.env := by rfl) (hpl : (backTo pos (starEach es X.env)).any (·.1) = false := by rfl) : PE X (.Call (.Name x p) (e :: es) [] pos) (tCB r t) := by
  intro pins s σ H Q I h
  refine wpAny_Call_Name_kw (ld_blt I hg hm hv ?_ hn hdb)
  exact PyProof.Rows.callWith_type1 (thn (ha pos pins s σ H _ I h) fun us s1 ⟨vs, H1, I1, r1, q1⟩ => hc pins s1 σ H1 vs us Q I1 r1 q1) he hpl
end
end L2

namespace L2
open PySem PySem.Spec PyProof.Rows

section
variable {κ : Type} [DecidableEq κ]
def valV (kvs : List (κ × V)) (k : κ) : Option V := (kvs.find? fun kv => decide (kv.1 = k)).map (·.2)
def putK (kvs : List (κ × V)) (k : κ) (v : V) : List (κ × V) :=
  if (kvs.any fun kv => decide (kv.1 = k)) = true then kvs.map (fun kv => if kv.1 = k then (kv.1, v) else kv) else kvs ++ [(k, v)]
def dropK (kvs : List (κ × V)) (k : κ) : List (κ × V) := kvs.filter fun kv => decide (kv.1 ≠ k)

theorem valV_pos {p : κ × V} {r : List (κ × V)} {k : κ} (e : p.1 = k) : valV (p :: r) k = some p.2 := by simp [valV, List.find?_cons, e]
theorem valV_neg {p : κ × V} {r : List (κ × V)} {k : κ} (e : ¬ p.1 = k) : valV (p :: r) k = valV r k := by simp [valV, List.find?_cons, e]
theorem RelO.getD {o : Option V} {u : Option Value} {d : V} {d' : Value} (r : RelO o u) (rd : RelV d d') : RelV (o.getD d) (u.getD d') := by
  cases o with
  | none => cases u with
    | none => exact rd
    | some _ => exact (show False from r).elim
  | some _ => cases u with
    | none => exact (show False from r).elim
    | some _ => exact r

theorem KV.val {kvs : List (κ × V)} {vs : List (κ × Value)} (r : KV kvs vs) (k : κ) : RelO (valV kvs k) (valueAt vs k) := by
  unfold KV at r
  induction r with
  | nil => exact True.intro
  | @cons p q ps qs h t ih =>
    obtain ⟨h1, h2⟩ := h
    by_cases e : p.1 = k
    · have e' : q.1 = k := h1.symm.trans e
      have b : valueAt (q :: qs) k = some q.2 := by simp [valueAt, List.find?_cons, e']
      rw [valV_pos e, b]; exact h2
    · have e' : ¬ q.1 = k := fun z => e (h1.trans z)
      have b : valueAt (q :: qs) k = valueAt qs k := by simp [valueAt, List.find?_cons, e']
      rw [valV_neg e, b]; exact ih
theorem KV.keys {kvs : List (κ × V)} {vs : List (κ × Value)} (r : KV kvs vs) : kvs.map (·.1) = vs.map (·.1) := by
  unfold KV at r
  induction r with
  | nil => rfl
  | cons h t ih => rw [List.map_cons, List.map_cons, ih, h.1]
theorem KV.length {kvs : List (κ × V)} {vs : List (κ × Value)} (r : KV kvs vs) : kvs.length = vs.length := Paired.length r
end


theorem kV_is {P : Program} {w : World} {k : Key} {u : Value} (r : RelV (kV k) u) : (mixKind P w).is k u = true := by
  cases k with
  | inl i => obtain ⟨t, e⟩ := (show ∃ t, u = Value.int i t from r); subst e; exact mixKind_int P w i t
  | inr x => obtain ⟨t, e⟩ := (show ∃ t, u = Value.str x t from r); subst e; exact mixKind_str P w x t
abbrev KT (H : Hp) : List (List Key × V) → List (List Key × Addr × Value) → Prop := Paired fun p q => p.1 = q.1 ∧ H q.2.1 = some (.tup (p.1.map kV)) ∧ RelV p.2 q.2.2
section
variable {P : Program} {w : World} {H : Hp} {h : Heap} {a : Addr}
end

def DGet (H : Hp) (a : Addr) (y : V) (r : Option V) : Prop :=
  (∃ kvs k, Rd H a (.dK kvs) ∧ y = kV k ∧ r = valV kvs k) ∨ ∃ kvs k b, Rd H a (.dT kvs) ∧ y = .ref b ∧ H b = some (.tup (k.map kV)) ∧ r = valV kvs k
def DPut (H : Hp) (a : Addr) (y v : V) (H' : Hp) : Prop :=
  (∃ kvs k, H a = some (.dK kvs) ∧ y = kV k ∧ kvs.length < sizeLine ∧ H' = upd H a (.dK (putK kvs k v))) ∨
  ∃ kvs k b, H a = some (.dT kvs) ∧ y = .ref b ∧ H b = some (.tup (k.map kV)) ∧ kvs.length < sizeLine ∧ H' = upd H a (.dT (putK kvs k v))
section
variable {X : Cx} {pins : List (Addr × Obj)} {σ : St} {H : Hp} {s : Shared} {a : Addr} {y v : V} {u r : Value} {o : Option V} {A : Around} {E : Value → Shared → Prop}

theorem Inv.big (I : Inv X pins σ H s) : sysModules < s.heap.objs.size := by
  have h : mainGlobals < s.heap.objs.size := (I.mod.glob.keeps I.bk).lt
  exact Nat.lt_trans (by decide) h

end

section
variable {X : Cx} {pins : List (Addr × Obj)} {σ : St} {H : Hp} {s : Shared} {a : Addr} {kvs : List (Key × V)} {k : Key} {u : Value} {A : Around} {E : Value → Shared → Prop}
end


section
variable {X : Cx} {o i e value : Expr} {pos pos' tpos : Pos} {td ty tv : TE}
end


section
variable {X : Cx} {pos : Pos}
end

def tPairs : List (TE × TE) → St → Hp → (List (V × V) → Hp → Prop) → Prop
  | [], _, H, Q => Q [] H
  | (tk, tv) :: r, σ, H, Q => tk σ H fun x H1 => tv σ H1 fun y H2 => tPairs r σ H2 fun ps H3 => Q ((x, y) :: ps) H3
abbrev VV : List (V × V) → List (Value × Value) → Prop := Paired fun p q => RelV p.1 q.1 ∧ RelV p.2 q.2
def mergeK (kvs more : List (Key × V)) : List (Key × V) := more.foldl (fun acc kv => putK acc kv.1 kv.2) kvs
structure M1 (X : Cx) (o : Expr) (m : Str) (apos : Pos) (e : Expr) (cpos : Pos) : Prop where
  base : attributeBase o m X.env (eval o X.env) = eval o X.env
  few : ((backTo cpos (starEach [e] X.env)).all (fun x => !x.1) && (backToKw cpos (keywordEach [] X.env)).all (fun x => x.1.isSome)
    && decide (([e] : List Expr).length + ([] : List Keyword).length + (if ([] : List Keyword).isEmpty then 0 else 1) < 30)) = true
  line : (apos.endLine == cpos.line) = true
  trees : backTo cpos (starEach [e] X.env) = [(false, eval e X.env)]
structure M2 (X : Cx) (o : Expr) (m : Str) (apos : Pos) (e f : Expr) (cpos : Pos) : Prop where
  base : attributeBase o m X.env (eval o X.env) = eval o X.env
  few : ((backTo cpos (starEach [e, f] X.env)).all (fun x => !x.1) && (backToKw cpos (keywordEach [] X.env)).all (fun x => x.1.isSome)
    && decide (([e, f] : List Expr).length + ([] : List Keyword).length + (if ([] : List Keyword).isEmpty then 0 else 1) < 30)) = true
  line : (apos.endLine == cpos.line) = true
  trees : backTo cpos (starEach [e, f] X.env) = [(false, eval e X.env), (false, eval f X.env)]

def IsD (H : Hp) (a : Addr) : Prop := (∃ kvs, Rd H a (.dK kvs)) ∨ ∃ kvs, Rd H a (.dT kvs)
section
variable {X : Cx} {pins : List (Addr × Obj)} {σ : St} {H : Hp} {s : Shared} {a : Addr} {y d : V} {u r : Value} {o : Option V} {A : Around} {E : Value → Shared → Prop}
end

section
variable {X : Cx} {o e f : Expr} {apos cpos : Pos} {td ty tx : TE}
end

section
variable {X : Cx} {pins : List (Addr × Obj)} {σ : St} {H : Hp} {s : Shared} {a : Addr} {kvs : List (Key × V)} {A : Around} {E : Value → Shared → Prop}
end


section
variable {X : Cx} {pins : List (Addr × Obj)} {σ : St} {H : Hp} {s : Shared} {a : Addr} {y : V} {u : Value} {A : Around} {E : Value → Shared → Prop}
end
end L2

namespace HT
open PySem PyProof.Rows

def lexLt : List Int → List Int → Bool
  | [], [] => false
  | [], _ :: _ => true
  | _ :: _, [] => false
  | x :: xs, y :: ys => if x = y then lexLt xs ys else decide (x < y)
section
open PySem.SeqAt
open PySem.AutoSeq1 (wpAny_loadPart')
open PySem.MeetsSeq PySem.MeetsSeq2 PySem.MeetsSeq3

end

section
variable {prog : Program} {w : World} {A : Around} {E : Value → Shared → Prop} {s : Shared}

def sIx (n d : Nat) : Option Int → Nat
  | none => d
  | some v => if v < 0 then (v + (n : Int)).toNat else min v.toNat n
theorem sIx_none (n d : Nat) : sIx n d none = d := rfl
theorem sIx_nat (n d k : Nat) : sIx n d (some (k : Int)) = min k n := by
  show (if (k : Int) < 0 then ((k : Int) + (n : Int)).toNat else min (k : Int).toNat n) = min k n
  rw [if_neg (by omega), Int.toNat_natCast]
end
end HT

namespace L2
open PySem PySem.Spec PyProof.Rows

abbrev TO := St → Hp → (Option Int → Hp → Prop) → Prop
def PO (X : Cx) (e : Option Expr) (t : TO) : Prop :=
  ∀ (pins : List (Addr × Obj)) (s : Shared) (σ : St) (H : Hp) (Q : Option Int → Hp → Prop), Inv X pins σ H s → t σ H Q →
    wpAny (model X.prog X.w) X.A (evalPart e X.env) (fun u s' => ∃ o H', Inv X pins σ H' s' ∧ IsPart u o ∧ Q o H') X.xe s
def tNoPart : TO := fun _ H Q => Q none H
def tPart (t : TE) : TO := fun σ H Q => t σ H fun x H1 => ∃ i, x = .int i ∧ Q (some i) H1

section
variable {X : Cx} {e : Expr} {te : TE} {lo hi : Option Expr} {tl th : TO} {pos p2 : Pos}

theorem po_none : PO X none tNoPart := by
  intro pins s σ H Q I h
  rw [evalPart_none]
  exact wpAny_pure ⟨none, H, I, .none, h⟩
theorem po_some (h : PE X e te) : PO X (some e) (tPart te) := by
  intro pins s σ H Q I hw
  rw [evalPart_some]
  refine thn (h pins s σ H _ I hw) fun u s1 ⟨x, H1, I1, r1, q1⟩ => ?_
  obtain ⟨i, rfl, q⟩ := q1
  obtain ⟨t, rfl⟩ := r1
  exact ⟨some i, H1, I1, .int i t, q⟩

def SlR (X : Cx) (r : V → Option Int → Option Int → Hp → VK → Prop) : Prop :=
  ∀ (pins : List (Addr × Obj)) (s : Shared) (σ : St) (H : Hp) (x : V) (v vl vu : Value) (lo hi : Option Int) (sl : Addr) (Q : VK), Inv X pins σ H s → RelV x v → s.heap.IsSliceOf sl vl vu .none → IsPart vl lo → IsPart vu hi → r x lo hi H Q →
    ∃ T id, typeLookup (.type T) "__getitem__" = pure (some (.builtin id)) ∧ s.TypeIs v T ∧ wpAny (model X.prog X.w) X.A (getItem v (.ref sl)) (EP X pins σ Q) X.xe s
def tSl (r : V → Option Int → Option Int → Hp → VK → Prop) (te : TE) (tl th : TO) : TE := fun σ H Q => te σ H fun x H1 => tl σ H1 fun l H2 => th σ H2 fun u H3 => r x l u H3 Q
theorem pe_slice {r : V → Option Int → Option Int → Hp → VK → Prop} (hr : SlR X r) (he : PE X e te) (hl : PO X lo tl) (hu : PO X hi th) : PE X (.Subscript e (.Slice lo hi none p2) pos) (tSl r te tl th) := by
  intro pins s σ H Q I h
  refine Subscript_ (thn (he pins s σ H _ I h) fun v s1 ⟨x, H1, I1, r1, q1⟩ => ?_)
  refine wpAny_Slice (thn (hl pins s1 σ H1 _ I1 q1) fun vl s2 ⟨l, H2, I2, pl, q2⟩ => thn (hu pins s2 σ H2 _ I2 q2) fun vu s3 ⟨u, H3, I3, pu, q3⟩ => ?_)
  rw [evalPart_none]
  refine wpAny_pure ?_
  have I4 : Inv X pins σ H3 { s3 with heap := s3.heap.push { cls := .type "slice", data := .fields #[vl, vu, .none] } } := I3.kept (t' := s3.toks) fun b ob q => Heap.get?_push_of_some _ q
  obtain ⟨T, id, hT, ht, hg⟩ := hr pins { s3 with heap := s3.heap.push { cls := .type "slice", data := .fields #[vl, vu, .none] } } σ H3 x v vl vu l u s3.heap.objs.size Q I4 r1 (Heap.IsSliceOf.new ..) pl pu q3
  show wpAny (model X.prog X.w) X.A (subscriptTail e (.Slice lo hi none p2) v (.ref s3.heap.objs.size)) (EP X pins σ Q) X.xe { s3 with heap := s3.heap.push { cls := .type "slice", data := .fields #[vl, vu, .none] } }
  exact tail_any (ops := [.ref s3.heap.objs.size, v]) ht hT hg (by with_unfolding_all rfl)

def cutV (xs : List V) (lo hi : Option Int) : List V := (xs.drop (HT.sIx xs.length 0 lo)).take (HT.sIx xs.length xs.length hi - HT.sIx xs.length 0 lo)
theorem cutV_length (xs : List V) (lo hi : Option Int) : (cutV xs lo hi).length ≤ xs.length := by
  unfold cutV
  rw [List.length_take, List.length_drop]
  omega
end
end L2

namespace L2
open PySem PySem.Spec PyProof.Rows

def ixN (n : Nat) (i : Int) : Option Nat := if 0 ≤ i then (if i < n then some i.toNat else none) else if -(n : Int) ≤ i then some (i + n).toNat else none
def atI {α : Type} (xs : List α) (i : Int) : Option α := (ixN xs.length i).bind fun j => xs[j]?
theorem ixN_seq {n : Nat} {i : Int} {j : Nat} (h : ixN n i = some j) : seqIndex? i n = some j ∧ j < n ∧ -(n : Int) ≤ i ∧ i < n := by
  unfold ixN at h
  by_cases h0 : 0 ≤ i
  · rw [if_pos h0] at h
    by_cases h1 : i < n
    · rw [if_pos h1] at h
      have e : i.toNat = j := Option.some.inj h
      exact ⟨by rw [seqIndex_of h0 h1, e], by omega, by omega, h1⟩
    · rw [if_neg h1] at h; cases h
  · rw [if_neg h0] at h
    by_cases h1 : -(n : Int) ≤ i
    · rw [if_pos h1] at h
      have e : (i + n).toNat = j := Option.some.inj h
      exact ⟨by rw [seqIndex_neg (by omega) h1, e], by omega, h1, by omega⟩
    · rw [if_neg h1] at h; cases h
theorem atI_get {α : Type} {xs : List α} {i : Int} {v : α} (h : atI xs i = some v) : ∃ j, seqIndex? i xs.length = some j ∧ xs[j]? = some v ∧ j < xs.length ∧ -(xs.length : Int) ≤ i ∧ i < xs.length := by
  unfold atI at h
  cases e : ixN xs.length i with
  | none => rw [e] at h; cases h
  | some j =>
    rw [e] at h
    obtain ⟨h1, h2, h3, h4⟩ := ixN_seq e
    exact ⟨j, h1, h, h2, h3, h4⟩
theorem atI_nat {α : Type} {xs : List α} {j : Nat} {v : α} (h : xs[j]? = some v) : atI xs (j : Int) = some v := by
  have hj : j < xs.length := (List.getElem?_eq_some_iff.mp h).1
  have e : ixN xs.length (j : Int) = some j := by
    unfold ixN
    rw [if_pos (by omega), if_pos (by omega)]; simp
  unfold atI; rw [e]; exact h
def PlainIx (b : Expr) : Prop := ∀ o i, subscripted b false o i = operate [o, i] (getItem o i)
def IxR (X : Cx) (r : R2) : Prop :=
  ∀ (value slice : Expr) (pins : List (Addr × Obj)) (s : Shared) (σ : St) (H : Hp) (x y : V) (v u : Value) (Q : VK), Inv X pins σ H s → RelV x v → RelV y u → r x y H Q →
    subscripted slice false v u = operate [v, u] (getItem v u) → wpAny (model X.prog X.w) X.A (subscriptTail value slice v u) (EP X pins σ Q) X.xe s
def MtR (X : Cx) (id : String) (r : V → List V → Hp → VK → Prop) : Prop :=
  ∀ (pins : List (Addr × Obj)) (s : Shared) (σ : St) (H : Hp) (x : V) (xs : List V) (v : Value) (us : List Value) (Q : VK), Inv X pins σ H s → RelV x v → Vals xs us → r x xs H Q →
    wpAny (model X.prog X.w) X.A (call (.builtin id) (v :: us)) (EP X pins σ Q) X.xe s
section
variable {X : Cx} {a b : Expr} {ta tb : TE} {pos : Pos}
theorem pe_ix {r : R2} (hr : IxR X r) (ha : PE X a ta) (hb : PE X b tb) (hs : PlainIx b) : PE X (.Subscript a b pos) (tOp r ta tb) := by
  intro pins s σ H Q I h
  exact Subscript_ (binT ha hb I h fun v u s2 x y H2 I2 rx ry q => hr a b pins s2 σ H2 x y v u Q I2 rx ry q (hs _ _))

def rIxL (K : PySem.W.Frag) : R2 := fun x y H Q => ∃ p xs i v, x = .ref p ∧ y = .int i ∧ SqL K H p xs ∧ atI xs i = some v ∧ Q v H
def rIxT (K : PySem.W.Frag) : R2 := fun x y H Q => ∃ p xs i v, x = .ref p ∧ y = .int i ∧ SqT K H p xs ∧ atI xs i = some v ∧ Q v H
def rIxS : R2 := fun x y H Q => ∃ z i c, x = .str z ∧ y = .int i ∧ z.length ≤ sizeLine ∧ atI z.cps.toList i = some c ∧ Q (.str ⟨#[c]⟩) H
theorem ix_list : IxR X (rIxL X.K) := by
  intro value slice pins s σ H x y v u Q I rx ry h hs
  obtain ⟨p, xs, i, z, rfl, rfl, hq, he, q⟩ := h
  cases rx
  obtain ⟨t, rfl⟩ := ry
  obtain ⟨its, r, pl, hz⟩ := I.list hq
  obtain ⟨j, h1, h2, h3, h4, h5⟩ := atI_get he
  obtain ⟨w, ew, rw'⟩ := r.get h2
  have hl := r.length
  have hn := line63
  have fin : EP X pins σ Q w s := ⟨z, H, I, rw', q⟩
  by_cases h0 : 0 ≤ i
  · have hj : i.toNat = j := by
      rw [seqIndex_of h0 h5] at h1
      exact Option.some.inj h1
    exact item_listR pl.isList h0 (by omega) (by rw [hj]; simpa using ew) fin hs
  · have hj : (i + (its.toArray.size : Int)).toNat = j := by
      rw [seqIndex_neg (by omega) h4] at h1
      rw [List.size_toArray, ← hl]
      exact Option.some.inj h1
    exact subscriptTail_builtinR (x := w) pl.isList.typeIs slot_list_getitem.lookup
      (wpAny_getItem_list_neg (Q := fun r s' => r = w ∧ EP X pins σ Q r s') pl.isList (by omega) (by rw [List.size_toArray] <;> omega) (by omega) (by rw [hj]; simpa using ew) ⟨rfl, fin⟩) hs
theorem ix_tup : IxR X (rIxT X.K) := by
  intro value slice pins s σ H x y v u Q I rx ry h hs
  obtain ⟨p, xs, i, z, rfl, rfl, hq, he, q⟩ := h
  cases rx
  obtain ⟨t, rfl⟩ := ry
  obtain ⟨its, r, pl, hz⟩ := I.tuple hq
  obtain ⟨j, h1, h2, h3, h4, h5⟩ := atI_get he
  obtain ⟨w, ew, rw'⟩ := r.get h2
  have hl := r.length
  have hn := line63
  have fin : EP X pins σ Q w s := ⟨z, H, I, rw', q⟩
  exact subscriptTail_builtinR (x := w) pl.typeIs slot_tuple_getitem.lookup
    (getItem_tuple (j := j) (Q := fun r s' => r = w ∧ EP X pins σ Q r s') pl (by omega) (by omega) (by rw [List.size_toArray, ← hl]; exact h1) (by simpa using ew) ⟨rfl, fin⟩) hs
theorem slice_bounds (lo hi : Option Int) (n : Nat) : (sliceBounds lo hi none n).1 = ((HT.sIx n 0 lo : Nat) : Int) ∧ (sliceBounds lo hi none n).2.1 = ((HT.sIx n n hi : Nat) : Int) ∧ (sliceBounds lo hi none n).2.2 = 1 := by
  refine ⟨?_, ?_, rfl⟩
  · cases lo with
    | none => simp [sliceBounds, HT.sIx]
    | some i =>
      simp only [sliceBounds, HT.sIx, Option.getD_none, show (1 : Int) > 0 by decide, if_true]
      by_cases h : i < 0
      · simp only [h, if_true] <;> omega
      · simp only [h, if_false] <;> omega
  · cases hi with
    | none => simp [sliceBounds, HT.sIx]
    | some i =>
      simp only [sliceBounds, HT.sIx, Option.getD_none, show (1 : Int) > 0 by decide, if_true]
      by_cases h : i < 0
      · simp only [h, if_true] <;> omega
      · simp only [h, if_false] <;> omega
theorem slicePick_cut (its : List Value) (lo hi : Option Int) : slicePick its.toArray lo hi none = ((its.drop (HT.sIx its.length 0 lo)).take (HT.sIx its.length its.length hi - HT.sIx its.length 0 lo)).toArray := by
  obtain ⟨h1, h2, h3⟩ := slice_bounds lo hi its.toArray.size
  unfold slicePick
  rw [h1, h2, h3]
  simp only [sliceRange_one, pick_run, List.size_toArray] <;> rfl
def rSlL (K : PySem.W.Frag) : V → Option Int → Option Int → Hp → VK → Prop := fun x lo hi H Q => ∃ a xs, x = .ref a ∧ SqL K H a xs ∧ ∀ p, H p = none → Q (.ref p) (upd H p (.lst (cutV xs lo hi)))
theorem sl_list : SlR X (rSlL X.K) := by
  intro pins s σ H x v vl vu lo hi sl Q I rx hs pl pu h
  obtain ⟨a, xs, rfl, hx, q⟩ := h
  cases rx
  obtain ⟨its, r, ht, hz⟩ := I.list hx
  have hlen := r.length
  refine ⟨"list", _, slot_list_getitem.lookup, ht.isList.typeIs, ?_⟩
  refine wpAny_getItem_list_slice ht.isList hs pl pu .none (by simp) ?_ (by rw [List.size_toArray] <;> omega)
  rw [slicePick_cut, ← hlen]
  refine ⟨.ref s.heap.objs.size, _, I.laid (t' := s.toks) (o := .lst (cutV xs lo hi)) (fun b ob q => Heap.get?_push_of_some _ q) (Nat.le_refl _) ?_, rfl, q _ (I.hok.fresh (Nat.le_refl _))⟩
  exact ⟨Nat.le_trans (cutV_length xs lo hi) hz, _, 0, (r.drop (HT.sIx xs.length 0 lo)).take (HT.sIx xs.length xs.length hi - HT.sIx xs.length 0 lo), Heap.get?_push_size _ rfl⟩

def flatV : V → Bool
  | .non => true
  | .bl _ => true
  | .int _ => true
  | .str _ => true
  | _ => false
def eqV : V → V → Bool
  | .non, .non => true
  | .bl a, .bl b => a == b
  | .bl a, .int b => (if a then 1 else 0) == b
  | .int a, .bl b => a == (if b then 1 else 0)
  | .int a, .int b => a == b
  | .str a, .str b => a == b
  | _, _ => false
theorem eqAt_V {A : Around} {s : Shared} {y x : V} {u v : Value} (ry : RelV y u) (rx : RelV x v) (fy : flatV y = true) (fx : flatV x = true) : SeqAt.EqAt A s u v (eqV y x) := by
  cases y with
  | non =>
    cases ry
    cases x with
    | non => cases rx; exact SeqAt.EqAt.same _
    | bl b => cases rx; exact SeqAt.EqAt.none_bool b
    | int b => obtain ⟨t, rfl⟩ := rx; exact SeqAt.EqAt.none_int b t
    | str b => obtain ⟨t, rfl⟩ := rx; exact SeqAt.EqAt.none_str b t
    | _ => exact absurd (show false = true from fx) Bool.false_ne_true
  | bl a =>
    cases ry
    cases x with
    | non => cases rx; exact SeqAt.EqAt.bool_none a
    | bl b => cases rx; exact SeqAt.EqAt.bool_bool a b
    | int b => obtain ⟨t, rfl⟩ := rx; exact SeqAt.EqAt.bool_int a b t
    | str b => obtain ⟨t, rfl⟩ := rx; exact SeqAt.EqAt.bool_str a b t
    | _ => exact absurd (show false = true from fx) Bool.false_ne_true
  | int a =>
    obtain ⟨t', rfl⟩ := ry
    cases x with
    | non => cases rx; exact SeqAt.EqAt.int_none a t'
    | bl b => cases rx; exact SeqAt.EqAt.int_bool a t' b
    | int b => obtain ⟨t, rfl⟩ := rx; exact SeqAt.EqAt.int_int a t' b t
    | str b => obtain ⟨t, rfl⟩ := rx; exact SeqAt.EqAt.int_str a t' b t
    | _ => exact absurd (show false = true from fx) Bool.false_ne_true
  | str a =>
    obtain ⟨t', rfl⟩ := ry
    cases x with
    | non => cases rx; exact SeqAt.EqAt.str_none a t'
    | bl b => cases rx; exact SeqAt.EqAt.str_bool a t' b
    | int b => obtain ⟨t, rfl⟩ := rx; exact SeqAt.EqAt.str_int a t' b t
    | str b => obtain ⟨t, rfl⟩ := rx; exact SeqAt.EqAt.str_str a t' b t
    | _ => exact absurd (show false = true from fx) Bool.false_ne_true
  | _ => exact absurd (show false = true from fy) Bool.false_ne_true
def eqU (x : V) (u : Value) : Bool := match u with
  | .none => eqV .non x
  | .bool b => eqV (.bl b) x
  | .int i _ => eqV (.int i) x
  | .str z _ => eqV (.str z) x
  | _ => false
theorem eqU_of {x y : V} {u : Value} (r : RelV y u) (f : flatV y = true) : eqU x u = eqV y x := by
  cases y with
  | non => cases r; rfl
  | bl b => cases r; rfl
  | int i => obtain ⟨t, rfl⟩ := r; rfl
  | str z => obtain ⟨t, rfl⟩ := r; rfl
  | _ => exact absurd (show false = true from f) Bool.false_ne_true
theorem any_eqU {x : V} : ∀ {xs : List V} {us : List Value}, Vals xs us → xs.all flatV = true → us.any (eqU x) = xs.any fun y => eqV y x
  | _, _, .nil, _ => rfl
  | y :: xs, u :: us, .cons r t, f => by
    rw [List.all_cons, Bool.and_eq_true] at f
    rw [List.any_cons, List.any_cons, eqU_of r f.1, any_eqU t f.2]
theorem mem_eqAt {A : Around} {s : Shared} {x : V} {v : Value} (rx : RelV x v) (fx : flatV x = true) : ∀ {xs : List V} {us : List Value}, Vals xs us → xs.all flatV = true → ∀ u ∈ us, SeqAt.EqAt A s u v (eqU x u)
  | _, _, .nil, _ => fun u hu => by cases hu
  | y :: xs, u :: us, .cons r t, f => fun u' hu => by
    rw [List.all_cons, Bool.and_eq_true] at f
    rcases List.mem_cons.mp hu with rfl | hu
    · rw [eqU_of r f.1]; exact eqAt_V r rx f.1 fx
    · exact mem_eqAt rx fx t f.2 u' hu
def inV (x : V) (xs : List V) : Bool := xs.any fun y => eqV y x
def rIn (K : PySem.W.Frag) (neg : Bool) : R2 := fun x y H Q => ∃ p xs, y = .ref p ∧ (SqL K H p xs ∨ SqT K H p xs) ∧ flatV x = true ∧ xs.all flatV = true ∧ Q (.bl (if neg then !inV x xs else inV x xs)) H
theorem op_in_seq : OpR X (compareOp .In) (rIn X.K false) := by
  intro pins s σ H x y v u Q I rx ry h
  obtain ⟨p, xs, rfl, hq, fx, fs, q⟩ := h
  cases ry
  rcases hq with hq | hq
  · obtain ⟨its, r, pl, hz⟩ := I.list hq
    refine SeqAt.in_listAt (eqU x) pl.isList (fun w hw => mem_eqAt rx fx r fs w (by simpa using hw)) ⟨.bl _, H, I, rfl, ?_⟩
    rw [show its.toArray.any (eqU x) = its.any (eqU x) by simp, any_eqU r fs]
    exact q
  · obtain ⟨its, r, pl, hz⟩ := I.tuple hq
    refine SeqAt.in_tupleAt (eqU x) pl (fun w hw => mem_eqAt rx fx r fs w (by simpa using hw)) ⟨.bl _, H, I, rfl, ?_⟩
    rw [show its.toArray.any (eqU x) = its.any (eqU x) by simp, any_eqU r fs]
    exact q
theorem call_len_seq : CallR X (.builtin "len") (fun xs H Q => ∃ p ys, xs = [.ref p] ∧ (SqL X.K H p ys ∨ SqT X.K H p ys) ∧ Q (.int ys.length) H) := by
  intro pins s σ H xs us Q I r h
  obtain ⟨p, ys, rfl, hq, q⟩ := h
  obtain ⟨u, rfl, rx⟩ := vals1 r
  cases rx
  have hn := line63
  rcases hq with hq | hq
  · obtain ⟨its, r', pl, hz⟩ := I.list hq
    have hlen := r'.length
    exact Calls.call_len_list pl.isList (by simp only [List.size_toArray] <;> omega) ⟨.int ys.length, H, I.tok _, ⟨s.toks + 1, by rw [List.size_toArray, hlen]⟩, q⟩
  · obtain ⟨its, r', pl, hz⟩ := I.tuple hq
    have hlen := r'.length
    exact len_tuple pl (by simp only [List.size_toArray] <;> omega) ⟨.int ys.length, H, I.tok _, ⟨s.toks + 1, by rw [List.size_toArray, hlen]⟩, q⟩
theorem call_len_str : CallR X (.builtin "len") (fun xs H Q => ∃ z, xs = [.str z] ∧ z.length ≤ sizeLine ∧ Q (.int z.length) H) := by
  intro pins s σ H xs us Q I r h
  obtain ⟨z, rfl, hz, q⟩ := h
  obtain ⟨u, rfl, t, rfl⟩ := vals1 r
  have hn := line63
  exact len_str (by omega) ⟨.int z.length, H, I.tok _, ⟨_, rfl⟩, q⟩
theorem call_list_of : CallR X (.type "list") (fun xs H Q => ∃ p ys, xs = [.ref p] ∧ (SqL X.K H p ys ∨ SqT X.K H p ys) ∧ ∀ l, H l = none → Q (.ref l) (upd H l (.lst ys))) := by
  intro pins s σ H xs us Q I r h
  obtain ⟨p, ys, rfl, hq, q⟩ := h
  obtain ⟨u, rfl, rx⟩ := vals1 r
  cases rx
  have fin : ∀ (its : List Value), Vals ys its → ys.length ≤ sizeLine → ∀ (h' : Heap) (c' : Nat), (∀ b o', s.heap.get? b = some o' → h'.get? b = some o') →
      h'.get? s.heap.objs.size = some { cls := .type "list", dict := none, data := .seq its.toArray c', slots := #[] } → EP X pins σ Q (.ref s.heap.objs.size) { s with heap := h' } := fun its r' hz h' c' kp e =>
    ⟨.ref s.heap.objs.size, _, I.laid (t' := s.toks) kp (Nat.le_refl _) (show ObjOk X.prog X.w _ h' _ (.lst ys) from ⟨hz, its, c', r', e⟩), rfl, q _ (I.hok.fresh (Nat.le_refl _))⟩
  rcases hq with hq | hq
  · obtain ⟨its, r', pl, hz⟩ := I.list hq
    have hlen := r'.length
    obtain ⟨o, ho, hc, n, hd⟩ := pl.isList
    exact call_list_seq p (.inl rfl) ho hc hd (fun h' c' kp e => fin its r' hz h' c' kp e) (by simp only [List.size_toArray] <;> omega)
  · obtain ⟨its, r', pl, hz⟩ := I.tuple hq
    have hlen := r'.length
    obtain ⟨o, ho, hc, n, hd⟩ := pl
    exact call_list_seq p (.inr rfl) ho hc hd (fun h' c' kp e => fin its r' hz h' c' kp e) (by simp only [List.size_toArray] <;> omega)
theorem call_tuple_of : CallR X (.type "tuple") (fun xs H Q => ∃ p ys, xs = [.ref p] ∧ ((SqL X.K H p ys ∧ ∀ l, H l = none → Q (.ref l) (upd H l (.tup ys))) ∨ (SqT X.K H p ys ∧ Q (.ref p) H))) := by
  intro pins s σ H xs us Q I r h
  obtain ⟨p, ys, rfl, h⟩ := h
  obtain ⟨u, rfl, rx⟩ := vals1 r
  cases rx
  rcases h with ⟨hq, q⟩ | ⟨hq, q⟩
  · obtain ⟨its, r', pl, hz⟩ := I.list hq
    have hlen := r'.length
    refine call_tuple_list pl.isList (fun h' kp => ?_) (by simp only [List.size_toArray] <;> omega)
    have I1 : Inv X pins σ H { s with heap := h' } := I.kept (t' := s.toks) kp
    have I2 : Inv X pins σ (upd H h'.objs.size (.tup ys)) { s with heap := h'.push { cls := .type "tuple", data := .seq its.toArray } } :=
      I1.laid (t' := s.toks) (fun b o e => Heap.get?_push_of_some _ e) (Nat.le_refl _) (show ObjOk X.prog X.w _ _ _ (.tup ys) from ⟨hz, its, r', IsTupD.new _ _⟩)
    exact ⟨.ref h'.objs.size, _, I2, rfl, q _ (I1.hok.fresh (Nat.le_refl _))⟩
  · obtain ⟨its, r', pl, hz⟩ := I.tuple hq
    exact call_tuple_same pl ⟨.ref p, H, I, rfl, q⟩

def tyV (K : PySem.W.Frag) (T : String) (x : V) (H : Hp) : Prop := match x with
  | .str _ => T = "str"
  | .int _ => T = "int"
  | .ref p => (T = "list" ∧ ∃ xs, SqL K H p xs) ∨ (T = "tuple" ∧ ∃ o, K.lookup p = some o ∧ o.cls = .type "tuple" ∧ o.dict = none) ∨
      (T = "dict" ∧ ((∃ kvs, H p = some (.dK kvs)) ∨ ∃ kvs, H p = some (.dT kvs))) ∨ (T = "set" ∧ ∃ S n, H p = some (.set S n)) ∨ (T = "tuple" ∧ ∃ xs, H p = some (.tup xs))
  | _ => False
theorem tyV_is {pins : List (Addr × Obj)} {σ : St} {H : Hp} {s : Shared} {T : String} {x : V} {v : Value} (I : Inv X pins σ H s) (r : RelV x v) (ty : tyV X.K T x H) :
    s.TypeIs v T ∧ ∀ a, v = .ref a → ∃ ob, s.heap.get? a = some ob ∧ ob.dict = none := by
  cases x with
  | str z =>
    obtain ⟨t, rfl⟩ := r
    cases (show T = "str" from ty)
    exact ⟨typeIs_str s z t, fun _ e => nomatch e⟩
  | int i =>
    obtain ⟨t, rfl⟩ := r
    cases (show T = "int" from ty)
    exact ⟨typeIs_int s i t, fun _ e => nomatch e⟩
  | ref p =>
    cases r
    rcases ty with ⟨rfl, xs, hq⟩ | ⟨rfl, o, hk, hc, hd⟩ | ⟨rfl, hk⟩ | ⟨rfl, S, n, hk⟩ | ⟨rfl, xs, hk⟩
    · obtain ⟨its, _, pl, _⟩ := I.list hq
      refine ⟨pl.isList.typeIs, fun a e => ?_⟩
      cases e
      obtain ⟨o, n, e, c, hd, _⟩ := pl
      exact ⟨o, e, hd⟩
    · refine ⟨⟨o, I.kIn p o hk, hc⟩, fun a e => ?_⟩
      cases e
      exact ⟨o, I.kIn _ o hk, hd⟩
    · have z : ∃ o, s.heap.get? p = some o ∧ o.ExactDict := by
        rcases hk with ⟨kvs, hk⟩ | ⟨kvs, hk⟩
        · obtain ⟨_, _, _, _, o, _, _, e, ex, _⟩ := I.hok p _ hk
          exact ⟨o, e, ex⟩
        · obtain ⟨_, _, _, _, o, _, _, e, ex, _⟩ := I.hok p _ hk
          exact ⟨o, e, ex⟩
      obtain ⟨o, e, ex⟩ := z
      refine ⟨⟨o, e, ex.1⟩, fun a e2 => ?_⟩
      cases e2
      exact ⟨o, e, ex.2.1⟩
    · obtain ⟨o, _, _, _, e, ex, _⟩ := I.hok p _ hk
      refine ⟨⟨o, e, ex.1⟩, fun a e2 => ?_⟩
      cases e2
      exact ⟨o, e, ex.2.1⟩
    · obtain ⟨_, _, _, o, e, hc, _, _, hd⟩ := (show ObjOk X.prog X.w H s.heap p (.tup xs) from I.hok p _ hk)
      refine ⟨⟨o, e, hc⟩, fun a e2 => ?_⟩
      cases e2
      exact ⟨o, e, hd⟩
  | _ => exact False.elim ty
def tBM0 (K : PySem.W.Frag) (T : String) (r : V → List V → Hp → VK → Prop) (to : TE) : TE := fun σ H Q => to σ H fun x H1 => tyV K T x H1 ∧ r x [] H1 Q
def tBM (K : PySem.W.Frag) (T : String) (r : V → List V → Hp → VK → Prop) (to : TE) (t : TA) : TE := fun σ H Q => to σ H fun x H1 => tyV K T x H1 ∧ t σ H1 fun xs H2 => r x xs H2 Q
variable {o e : Expr} {es : List Expr} {to : TE} {t : TA} {name : Str} {apos cpos : Pos} {T id : String} {r : V → List V → Hp → VK → Prop}
theorem pe_bm0 (pa : PlainAttrs T) (slot : Slot T name id) (hty : typeOf (.builtin id) = pure (.type "method_descriptor")) (hm : MtR X id r) (ho : PE X o to)
    (hbase : attributeBase o name X.env (eval o X.env) = eval o X.env := by rfl) (hline : (apos.endLine == cpos.line) = true := by rfl) : PE X (.Call (.Attribute o name apos) [] [] cpos) (tBM0 X.K T r to) := by
  intro pins s σ H Q I h
  refine wpAny_Call_method0_late hbase hline (thn (ho pins s σ H _ I h) fun v s1 ⟨x, H1, I1, r1, ty, q1⟩ => ?_)
  obtain ⟨h1, h2⟩ := tyV_is I1 r1 ty
  exact ⟨T, id, pa, slot, hty, h1, h2, Calls.callWith_builtin rfl (PySem.evalArgs_none (hm pins s1 σ H1 x [] v [] Q I1 r1 .nil q1))⟩
theorem pe_bm (pa : PlainAttrs T) (slot : Slot T name id) (hty : typeOf (.builtin id) = pure (.type "method_descriptor")) (hm : MtR X id r) (ho : PE X o to) (ha : PA X (e :: es) t)
    (hbase : attributeBase o name X.env (eval o X.env) = eval o X.env := by rfl)
    (hfew : ((backTo cpos (starEach (e :: es) X.env)).all (fun x => !x.1) && (backToKw cpos (keywordEach [] X.env)).all (fun x => x.1.isSome)
      && decide ((e :: es).length + ([] : List Keyword).length + (if ([] : List Keyword).isEmpty then 0 else 1) < 30)) = true := by rfl)
    (hline : (apos.endLine == cpos.line) = true := by rfl) (hs : starEach (e :: es) X.env = (false, eval e X.env) :: starEach es X.env := by rfl) (hplain : (backTo cpos (starEach es X.env)).any (·.1) = false := by rfl) :
    PE X (.Call (.Attribute o name apos) (e :: es) [] cpos) (tBM X.K T r to t) := by
  intro pins s σ H Q I h
  refine wpAny_Call_method_late hbase hfew hline rfl (thn (ho pins s σ H _ I h) fun v s1 ⟨x, H1, I1, r1, ty, q1⟩ => ?_)
  obtain ⟨h1, h2⟩ := tyV_is I1 r1 ty
  refine ⟨T, id, pa, slot, hty, h1, h2, ?_⟩
  have hA := ha cpos pins s1 σ H1 _ I1 q1
  rw [hs] at hA ⊢
  refine Calls.callWith_builtin (by show (false || (backTo cpos (starEach es X.env)).any (·.1)) = false; rw [hplain] <;> rfl) (Calls.evalArgs_plain ?_)
  exact thn hA fun us s2 ⟨vs, H2, I2, r2, q2⟩ => hm pins s2 σ H2 x vs v us Q I2 r1 r2 q2
end
end L2

namespace L2
open PySem PySem.Spec PyProof.Rows

def MtM (X : Cx) (id : String) (r : V → List V → Hp → VK → Prop) : Prop :=
  ∀ (pins : List (Addr × Obj)) (s : Shared) (σ : St) (H : Hp) (x : V) (xs : List V) (v : Value) (us : List Value) (Q : VK), Inv X pins σ H s → RelV x v → Vals xs us → r x xs H Q →
    wpAny (model X.prog X.w) X.A (call (.builtin id) (v :: us)) (EP X pins σ Q) X.xe s

theorem Vals.one : ∀ {x : V} {us : List Value}, Vals [x] us → ∃ u, us = [u] ∧ RelV x u
  | _, _, .cons r .nil => ⟨_, rfl, r⟩
theorem Vals.two : ∀ {x y : V} {us : List Value}, Vals [x, y] us → ∃ u v, us = [u, v] ∧ RelV x u ∧ RelV y v
  | _, _, _, .cons r (.cons q .nil) => ⟨_, _, rfl, r, q⟩
theorem Vals.zero : ∀ {us : List Value}, Vals [] us → us = []
  | _, .nil => rfl
section
variable {X : Cx} {pins : List (Addr × Obj)} {σ : St} {H : Hp} {s : Shared} {l b : Addr} {xs ys zs : List V}

theorem Inv.lset {its its' : List Value} {n : Nat} {f : Array Value → Array Value} {t' : Nat} (I : Inv X pins σ H s) (hH : H l = some (.lst xs))
    (e : s.heap.get? l = some { cls := .type "list", data := .seq its.toArray n }) (hf : f its.toArray = its'.toArray) (hv : Vals ys its') (hz : ys.length ≤ sizeLine) :
    Inv X pins σ (upd H l (.lst ys)) { s with heap := s.heap.update l (Obj.mapSeq f), toks := t' } := by
  have q := PySem.IsL.update e f
  rw [hf] at q
  refine I.write (x := l) (e := l) (by rw [hH]; exact trivial) (.inl rfl) (fun b' u hb hu => (Heap.get?_update_other s.heap (Obj.mapSeq f) (Ne.symm hb)).trans hu) ⟨_, q⟩ ?_
  exact ⟨hz, its', _, hv, q⟩
theorem Inv.lnew {its : List Value} {t' : Nat} (I : Inv X pins σ H s) (hv : Vals ys its) (hz : ys.length ≤ sizeLine) :
    Inv X pins σ (upd H s.heap.objs.size (.lst ys)) { s with heap := s.heap.push { cls := .type "list", data := .seq its.toArray }, toks := t' } :=
  I.laid (fun _ _ q => Heap.get?_push_of_some _ q) (Nat.le_refl _) ⟨hz, its, 0, hv, Heap.get?_push_size _ rfl⟩
theorem Inv.fresh (I : Inv X pins σ H s) : H s.heap.objs.size = none := I.hok.fresh (Nat.le_refl _)
theorem Inv.lstM (I : Inv X pins σ H s) (hH : H l = some (.lst xs)) : xs.length ≤ sizeLine ∧ ∃ (its : List Value) (n : Nat), Vals xs its ∧ xs.length = its.length ∧ s.heap.get? l = some { cls := .type "list", data := .seq its.toArray n } := by
  obtain ⟨z, its, n, r, e⟩ := I.hok l _ hH
  exact ⟨z, its, n, r, r.length, e⟩

end

section
variable {X : Cx}

def rAppend : V → List V → Hp → VK → Prop := fun x vs H Q => ∃ l xs y, x = .ref l ∧ vs = [y] ∧ H l = some (.lst xs) ∧ xs.length < sizeLine ∧ Q .non (upd H l (.lst (xs ++ [y])))
theorem mt_append : MtM X "list.append" rAppend := by
  intro pins s σ H x vs v us Q I rx rv h
  obtain ⟨l, xs, y, rfl, rfl, hH, hz, q⟩ := h
  cases rx
  obtain ⟨u, rfl, ru⟩ := rv.one
  obtain ⟨z, its, n, r, hl, e⟩ := I.lstM hH
  refine call_meets F.slot_list_append ⟨_, e, rfl⟩ F.entry_list_append (F.args_list_append_2 _ _) (PySem.list_append l its.toArray n u (by rw [List.size_toArray]; omega)) ⟨e, ?_⟩
  refine ⟨.non, _, I.lset (its' := its ++ [u]) hH e (by simp) (r.append (.cons ru .nil)) ?_, rfl, q⟩
  rw [List.length_append, List.length_singleton]
  omega

def rCat : R2 := fun x y H Q => ∃ l b xs zs, x = .ref l ∧ y = .ref b ∧ H l = some (.lst xs) ∧ H b = some (.lst zs) ∧ xs.length + zs.length ≤ sizeLine ∧ ∀ p, H p = none → Q (.ref p) (upd H p (.lst (xs ++ zs)))
theorem op_cat : OpR X (binaryOp .Add) rCat := by
  intro pins s σ H x y v u Q I rx ry h
  obtain ⟨l, b, xs, zs, rfl, rfl, hH, hB, hz, q⟩ := h
  cases rx
  cases ry
  obtain ⟨z, its, n, r, hl, e⟩ := I.lstM hH
  obtain ⟨z2, its2, n2, r2, hl2, e2⟩ := I.lstM hB
  refine PySem.P.add_list e e2 ?_ (by rw [List.size_toArray, List.size_toArray]; omega)
  have ea : its.toArray ++ its2.toArray = (its ++ its2).toArray := by simp
  rw [ea]
  exact ⟨.ref _, _, I.lnew (t' := s.toks) (r.append r2) (by rw [List.length_append]; omega), rfl, q _ I.fresh⟩
end

section
variable {prog : Program} {w : World} {A : Around} {E : Value → Shared → Prop} {s : Shared}
end

section
variable {X : Cx}
end
end L2

namespace Att
open PySem PySem.W PySem.Calls PyProof.Rows

theorem ints_of_wellAll {P : Params} {h : Heap} : ∀ (ns : List Int) (vs : List Value), WellAll P h vs (ns.map WData.int) → IntsAre vs ns := by
  intro ns
  induction ns with
  | nil =>
    intro vs w
    rw [List.map_nil] at w
    cases w
    exact .nil
  | cons n ns ih =>
    intro vs w
    rw [List.map_cons] at w
    cases w with
    | cons a b =>
      cases a
      exact .cons _ _ (ih _ b)

theorem script_of {l : OpenLaw} {n : Nat} (hn : l.most = some n) {P : Params} {h : Heap} {args : List WData} {vals : List Value}
    (hpre : l.row.toRowW.claim.pre args = true) (hwl : WellAll P h vals args) :
    ∃ a vs ns, vals = [Value.ref a] ∧ args = [WData.list (ns.map WData.int)] ∧ h.get? a = some { cls := .type "list", data := .seq vs.toArray } ∧ IntsAre vs ns ∧ ns.length ≤ n := by
  have hsh : WShape.hasAll [] args [.list .int] = true := (pre_splitW hpre).1
  have hc : l.pre.holds [] { args := args } = true := (pre_splitW hpre).2
  obtain ⟨d, r, rfl, h1, h2⟩ := hasAllW_cons hsh
  obtain rfl := hasAllW_nil h2
  obtain ⟨xs, rfl, h3⟩ := hasW_list h1
  obtain ⟨ns, rfl⟩ := items_int h3
  have hlen : ns.length ≤ n := by
    unfold OpenLaw.pre at hc
    have h4 : (WTm.not (.lt (.lit (.int (n : Int))) (.len (.arg 0)))).holds [] { args := [.list (ns.map .int)] } = true := by
      have h4 := (holds_andW hc).1
      rw [hn] at h4
      exact h4
    have h5 := condW_of h4 (w_not (w_lt w_lit (w_len_list (w_arg rfl))))
    rw [List.length_map] at h5
    refine Nat.le_of_not_lt fun q => ?_
    have q' : (n : Int) < ((ns.length : Nat) : Int) := by omega
    first
      | (rw [decide_eq_true q'] at h5; exact absurd h5 (by decide))
      | (simp at h5; omega)
  cases hwl with
  | cons w1 w2 =>
    cases w2
    cases w1 with
    | list ho hall => exact ⟨_, _, ns, rfl, rfl, ho, ints_of_wellAll ns _ hall, hlen⟩

theorem post_true (l : OpenLaw) (args : List WData) : l.row.toRowW.claim.post args (.bool true) args = true :=
  postW_of (r := l.row.toRowW) (X := (true == true))
    (show WShape.has [] (.bool true) .bool = true by first | rfl | decide | simp [WShape.has, WShape.arms, WShape.armsAll])
    (show (WTm.eq .res (.lit (.bool true))).value [] { args := args, res := some (.bool true), after := args } = some (.bool (true == true)) from w_eq_bool (w_res rfl) w_lit) rfl

theorem attach_call {l : OpenLaw} {n : Nat} {q : Program} {loose : List Str} {XP : (Str → Option Value) → Heap → Prop} {YP : World → Heap → Prop} {d : DefRec}
    (hn : l.most = some n) (hdf : d.params.defaults = [])
    (call : ∀ (w : World) (s₀ s₁ : Shared) (mg mb : Str → Option Value) (fa : Addr) (o : Obj) (pm cd doc : Value) (a : Addr) (vs : List Value) (ns : List Int),
      Ground q loose [] XP w s₀ mg mb s₁.heap → YP w s₁.heap →
      s₁.heap.get? fa = some o → o.data = .func (docDef d.name d.params d.body d.scope pm cd doc) → s₁.heap.CodeRec cd d.name → mg d.name = some (.ref fa) →
      s₁.heap.get? a = some { cls := .type "list", data := .seq vs.toArray } → IntsAre vs ns → ns.length ≤ n → s₁.gens = #[] →
      codeAny (model l.prog w) callerA (.call (.ref fa) ⟨[.ref a], []⟩) (fun r s' => r = .ok (.ret (.bool true)) ∧ OldK s₁.heap s'.heap ∧ s'.os = s₁.os ∧ AllBare s'.gens) s₁) :
    WalkO q loose XP YP l.row.toRowW d [] (fun f vs => PySem.call f vs) := by
  intro w s₀ s₁ mg mb G Y fa o pm cd doc dV kV ho hd hcd hD hmg hg args vals as hpre hlay hrd hwl hlo
  obtain rfl : dV = .none := Dflts.none hD hdf
  obtain rfl : kV = .none := Dflts.noKw hD
  obtain ⟨a, vs, ns, rfl, rfl, hobj, hints, hlen⟩ := script_of hn hpre hwl
  refine enter_call (codeAny_mono (call w s₀ s₁ mg mb fa o pm cd doc a vs ns G Y ho (fd_plain hd) hcd hmg hobj hints hlen hg) fun r s' hq => ?_)
  obtain ⟨rfl, h2, h3, h4⟩ := hq
  exact ⟨.inl ⟨.bool true, .bool true, [], rfl, fun _ => rfl, .bool true, post_true l _, fun _ => ⟨List.Pairwise.nil, fun _ hm => (nomatch hm)⟩⟩, h2, h3, h4⟩

section
variable {prog : Program} {w : World} {A : Around} {E : Value → Shared → Prop} {s : Shared} {K : Frag}

def noObjs (h : Heap) : Heap := { h with objs := #[] }
def ledger (h : Heap) (L d : Addr) : List (Addr × Obj) := (List.range h.objs.size).filterMap fun a => if a = L ∨ a = d then none else (h.get? a).map fun o => (a, o)
end
end Att

namespace L2
open PySem PySem.Spec PyProof.Rows

theorem vals_ints : ∀ {vs : List Value} {ns : List Int}, IntsAre vs ns → Vals (ns.map V.int) vs
  | _, _, .nil => .nil
  | _, _, .cons n t h => .cons ⟨t, rfl⟩ (vals_ints h)

def Only (H : Hp) : Prop := ∀ b, H b = none ∨ ∃ o xs, H b = some (.frz o (.lst xs))

theorem law_call {P : Program} {w : World} {K : PySem.W.Frag} {mg mb : Str → Option Value} {CX : CXT} {k : Nat} {fa a : Addr} {fd : FuncData} {x : Str} {sp : Sp} {s₁ : Shared} {vs : List Value} {ns : List Int}
    (KX : K.In s₁.heap) (hns : s₁.heap.Ns mainGlobals mg) (hb : s₁.heap.Ns builtinsNs mb) (hbb : ∀ x : Str, x ≠ "__name__" → mb x = bootBuiltins x) (hlim : s₁.heap.NoLimit) (hg : s₁.gens = #[])
    (ha : s₁.heap.get? a = some { cls := .type "list", data := .seq vs.toArray }) (hi : IntsAre vs ns) (hl : ns.length ≤ sizeLine) (hr : Room k callerA)
    (F : ∀ base : Heap, K.In base → base.Ns mainGlobals mg → FnOk P w K mg base CX k fa fd [x] sp) (hbind : ∀ (s : Shared) (u : Value), BindsTo s fd ⟨[u], []⟩ [(x, u)])
    (hsp : ∀ H : Hp, Only H → SqL K H a (ns.map V.int) → sp [.ref a] H (fun v _ => v = .bl true) fun _ _ _ => False)
    (hCX : ∀ H e s', CX [] H s₁ (fun _ _ _ => False) e s' → False) :
    codeAny (model P w) callerA (.call (.ref fa) ⟨[.ref a], []⟩) (fun r s' => r = .ok (.ret (.bool true)) ∧ OldK s₁.heap s'.heap ∧ s'.os = s₁.os ∧ AllBare s'.gens) s₁ := by
  have rv := vals_ints hi
  have lenV := hi.length
  have core : ∀ H : Hp, Only H → SqL K H a (ns.map V.int) → HOk P w H s₁.heap → (∀ b, H b ≠ none → b = a) → (H a ≠ none → K.lookup a = none) →
      codeAny (model P w) callerA (.call (.ref fa) ⟨[.ref a], []⟩) (fun r s' => r = .ok (.ret (.bool true)) ∧ OldK s₁.heap s'.heap ∧ s'.os = s₁.os ∧ AllBare s'.gens) s₁ := by
    intro H hO hS hok hA hK
    have base_of : ∀ {b : Addr} {o : Obj}, s₁.heap.get? b = some o → H b = none → (hidT s₁.heap H).get? b = some o := fun e n => hidT_get e n
    have noA : ∀ {b : Addr} {o : Obj} {es : Array DictEntry} {ep : Nat}, s₁.heap.get? b = some o → o.data = .dict es ep → H b = none := fun {b o es ep} e d => by
      cases q : H b with
      | none => rfl
      | some u =>
        have e' : b = a := hA b (by rw [q]; simp)
        subst e'
        rw [ha] at e; cases e
        have d' : Data.seq vs.toArray _ = Data.dict es ep := d
        cases d'
    have nsK : ∀ {b : Addr} {m : Str → Option Value}, s₁.heap.Ns b m → (hidT s₁.heap H).Ns b m := fun {b m} ⟨o, es, ep, e, d, r⟩ => ⟨o, es, ep, base_of e (noA e d), d, r⟩
    have hKb : K.In (hidT s₁.heap H) := fun b o e => base_of (KX b o e) (by
      cases q : H b with
      | none => rfl
      | some u =>
        have e' : b = a := hA b (by rw [q]; simp)
        subst e'
        rw [hK (by rw [q]; simp)] at e; cases e)
    have hM : Mod K mg (hidT s₁.heap H) := ⟨hKb, nsK hns, ⟨mb, nsK hb, hbb⟩, let ⟨mc, h1, h2⟩ := hlim; ⟨mc, nsK h1, h2⟩⟩
    have e0 : Env0 P w K mg (hidT s₁.heap H) callerA [] s₁ H := ⟨rfl, hM, fun b o e => of_hidT e, Nat.le_of_eq (hidT_size _ _), trivial, fun b hb => absurd (show b ∈ ([] : List Addr) from hb) (by simp), hok, .of_eq hg⟩
    refine codeAny_mono ((F _ hKb (nsK hns)).run callerA [] s₁ H ⟨[.ref a], []⟩ [.ref a] [.ref a] _ _ hr e0 (hbind s₁ (.ref a)) (.cons rfl .nil) (hsp H hO hS)) fun r s' h => ?_
    cases r with
    | error e => exact (hCX H e s' h).elim
    | ok fl =>
      cases fl with
      | next => exact False.elim h
      | brk => exact False.elim h
      | cont => exact False.elim h
      | ret u =>
        obtain ⟨v, H', os, bare, un, hok', r', q⟩ := h
        have q' : v = .bl true := q
        subst q'
        obtain rfl : u = Value.bool true := r'
        refine ⟨rfl, OldK.of_keep fun b o e => ?_, os, bare⟩
        cases q : H b with
        | none => exact un.keep b o e q (by intro z; exact absurd (show b ∈ ([] : List Addr) from z) (by simp)) (by simp)
        | some u =>
          rcases hO b with z | ⟨ob, xs, z⟩
          · rw [q] at z; cases z
          · have z2 := un.frzs b ob _ z
            obtain ⟨e1, _⟩ := hok b _ z
            obtain ⟨e2, _⟩ := hok' b _ z2
            rw [e] at e1; cases e1
            exact e2
  cases hk : K.lookup a with
  | some o =>
    have e := KX a o hk
    rw [ha] at e
    cases e
    refine core (fun _ => none) (fun _ => .inl rfl) (.inr ⟨_, vs.toArray, _, hk, rfl, rfl, rfl, by rw [List.size_toArray, lenV]; exact hl, by simpa using rv⟩) (fun b u z => by have z' : (none : Option HO) = some u := z; cases z') (fun b z => absurd rfl z) fun z => absurd rfl z
  | none =>
    refine core (fun b => if b = a then some (.frz { cls := .type "list", data := .seq vs.toArray } (.lst (ns.map V.int))) else none) (fun b => ?_) (.inl (.inr ⟨{ cls := .type "list", data := .seq vs.toArray }, if_pos rfl⟩)) (fun b u z => ?_) (fun b z => ?_) fun _ => hk
    · by_cases hb : b = a
      · exact .inr ⟨_, _, if_pos hb⟩
      · exact .inl (if_neg hb)
    · by_cases hb : b = a
      · have z' := (if_pos hb).symm.trans z
        cases z'
        subst hb
        exact ⟨ha, by rw [List.length_map]; exact hl, vs, _, rv, ha⟩
      · have z' := (if_neg hb).symm.trans z
        cases z'
    · by_cases hb : b = a
      · exact hb
      · exact absurd (if_neg hb) z
end L2

namespace L2
open PySem PySem.Spec PyProof.Rows

theorem walk_of {l : PySem.W.OpenLaw} {n k : Nat} {q : Program} {loose : List Str} {XP : (Str → Option Value) → Heap → Prop} {YP : World → Heap → Prop} {d : DefRec} {K : Params → PySem.W.Frag} {CX : World → CXT} {sp : World → Sp} {x : Str}
    (hn : l.most = some n) (hn2 : n ≤ sizeLine) (hdf : d.params.defaults = []) (hr : Room k callerA)
    (hY : ∀ (w : World) (h : Heap), YP w h → (K w.params).In h)
    (F : ∀ (w : World) (mg : Str → Option Value) (fa : Addr) (h : Heap), (K w.params).In h → h.Ns mainGlobals mg → mg d.name = some (.ref fa) →
      ∃ fd : FuncData, (∀ (s : Shared) (u : Value), BindsTo s fd ⟨[u], []⟩ [(x, u)]) ∧
        ∀ base : Heap, (K w.params).In base → base.Ns mainGlobals mg → FnOk l.prog w (K w.params) mg base (CX w) k fa fd [x] (sp w))
    (hsp : ∀ (w : World) (H : Hp) (a : Addr) (ns : List Int), ns.length ≤ n → Only H → SqL (K w.params) H a (ns.map V.int) → sp w [.ref a] H (fun v _ => v = .bl true) fun _ _ _ => False)
    (hCX : ∀ (w : World) (H : Hp) (s : Shared) (e : Value) (s' : Shared), CX w [] H s (fun _ _ _ => False) e s' → False) :
    PySem.W.WalkO q loose XP YP l.row.toRowW d [] (fun f vs => PySem.call f vs) := by
  refine Att.attach_call hn hdf fun w s₀ s₁ mg mb fa o pm cd doc a vs ns G Y ho hd hcd hmg hobj hints hlen hg => ?_
  have KX := hY w _ Y
  obtain ⟨fd, hb, hF⟩ := F w mg fa _ KX G.T.g hmg
  exact law_call KX G.T.g G.T.b G.T.builtins G.T.nolimit hg hobj hints (Nat.le_trans hlen hn2) hr hF hb (fun H hO hS => hsp w H a ns hlen hO hS) fun H e s' => hCX w H s₁ e s'
end L2


namespace L2
open PySem PySem.Spec PyProof.Rows

def inClass (s : Stmt) (j : Nat) : Stmt := match s with
  | .ClassDef _ _ _ body _ _ _ _ _ _ _ => body.getD j (.Pass ⟨0, 0, 0, 0⟩)
  | _ => .Pass ⟨0, 0, 0, 0⟩
def defArgs (s : Stmt) : Arguments := match s with
  | .FunctionDef _ a _ _ _ _ _ _ _ _ => a
  | _ => { posonlyargs := [], args := [], vararg := none, kwonlyargs := [], kw_defaults := [], kwarg := none, defaults := [] }
def defBody (s : Stmt) : List Stmt := match s with
  | .FunctionDef _ _ b _ _ _ _ _ _ _ => b
  | _ => []
def defScope (s : Stmt) : Scope := match s with
  | .FunctionDef _ _ _ _ _ _ sc _ _ _ => sc
  | _ => { kind := .function, names := [], isGenerator := false, isCoroutine := false }

abbrev CX0 : CXT := fun _ _ _ _ _ _ => False
abbrev E0 : XK := fun _ _ _ => False
theorem pass0 {X : Cx} : Passes CX0 X E0 := fun _ _ _ _ _ _ _ h => h.elim

structure Fun (K : PySem.W.Frag) (x qual : Str) (st : Stmt) (f : Addr) (fd : FuncData) : Prop where
  ex : ∃ (oc : Value) (od : Option Addr) (kV doc pm : Value) (an : Option Addr) (cdv ct : Value) (osl : Array (Option Value)),
    fd = PySem.W.fnOf x qual (defArgs st) (defBody st) (defScope st) .none kV doc pm an cdv ct ∧ K.lookup f = some ⟨oc, od, .func fd, osl⟩ ∧ PySem.W.codeIn K cdv qual = true
  kp : PySem.W.keepIn K (.ref f) = true
section
variable {P : Program} {w : World} {K : PySem.W.Frag} {mg : Str → Option Value} {base : Heap}
theorem Fun.ok {x qual : Str} {st : Stmt} {f : Addr} {fd : FuncData} {N ps : List Str} {k : Nat} {sp : Sp} (F : Fun K x qual st f fd) (S : FnScope N ps (defScope st)) (len : ∀ vs H Q E, sp vs H Q E → vs.length = ps.length)
    (hbody : ∀ (cdv : Value) (A : Around) (outer : List Env) (s : Shared) (H : Hp) (vs : List V) (Q : VK) (E : XK), Room k (A.deeper (envOfC qual (defScope st) s.heap.objs.size f cdv)) → sp vs H Q E →
      ∃ t, PSs (cxOf CX0 P w K mg base N qual (defScope st) f cdv A outer s H E).nox (defBody st) t ∧ t { nx := fun _ H' => Q .non H', rt := Q } (start N vs) H) : FnOk P w K mg base CX0 (k + 1) f fd ps sp := by
  obtain ⟨oc, od, kV, doc, pm, an, cdv, ct, osl, rfl, lk, hcd⟩ := F.ex
  refine fn_of lk hcd S len fun A outer s H vs Q E hr hsp => ?_
  obtain ⟨t, h, q⟩ := hbody cdv A outer s H vs Q E hr hsp
  exact ⟨t, h.nox, q⟩
theorem Fun.binds {x qual : Str} {st : Stmt} {f : Addr} {fd : FuncData} {ps : List Str} (F : Fun K x qual st f fd)
    (h : ∀ (kV doc pm : Value) (an : Option Addr) (cdv ct : Value) (us : List Value), us.length = ps.length → bindArgs (PySem.W.fnOf x qual (defArgs st) (defBody st) (defScope st) .none kV doc pm an cdv ct) ⟨us, []⟩ = pure (ps.zip us)) : Binds K fd ps [] := by
  obtain ⟨oc, od, kV, doc, pm, an, cdv, ct, osl, rfl, lk, hcd⟩ := F.ex
  exact .all (h kV doc pm an cdv ct)
theorem fun_mk {x qual : Str} {st : Stmt} {f : Addr} {oc : Value} {od an : Option Addr} {osl : Array (Option Value)} {kV doc pm cdv ct : Value} (l : K.lookup f = some ⟨oc, od, .func (PySem.W.fnOf x qual (defArgs st) (defBody st) (defScope st) .none kV doc pm an cdv ct), osl⟩)
    (c : PySem.W.codeIn K cdv qual = true) (k : PySem.W.keepIn K (.ref f) = true) : Fun K x qual st f (PySem.W.fnOf x qual (defArgs st) (defBody st) (defScope st) .none kV doc pm an cdv ct) := ⟨⟨oc, od, kV, doc, pm, an, cdv, ct, osl, rfl, l, c⟩, k⟩
end
section
variable {X : Cx}
theorem pv (i : Nat) {x : Str} {pos : Pos} (hN : X.N[i]? = some x := by rfl) (hv : Vis X.env.scope x := by first | exact Or.inl rfl | exact Or.inr (Or.inl rfl) | exact Or.inr (Or.inr rfl)) (hd : (x == ("__debug__" : Str)) = false := by decide)
    (hcd : (x == ("__classdict__" : Str)) = false := by decide) : PE X (.Name x pos) (tVar i) := pe_var hN hv hd hcd
end

theorem iteF {A B : Prop} (h : B) : if false = true then A else B := by
  rw [if_neg Bool.false_ne_true]
  exact h
theorem iteT {A B : Prop} (h : A) : if true = true then A else B := by
  rw [if_pos rfl]
  exact h
theorem ite2 {c A B : Prop} [Decidable c] (h1 : c → A) (h2 : ¬ c → B) : if c then A else B := by
  by_cases h : c
  · rw [if_pos h]
    exact h1 h
  · rw [if_neg h]
    exact h2 h
def Same (H H' : Hp) : Prop := ∀ b o, H b = some o → H' b = some o
theorem Same.refl (H : Hp) : Same H H := fun _ _ h => h
theorem Same.trans {H H1 H2 : Hp} (a : Same H H1) (b : Same H1 H2) : Same H H2 := fun c o h => b c o (a c o h)
theorem Same.free {H H' : Hp} (e : Same H H') {l : Addr} (h : H' l = Option.none) : H l = Option.none := by
  cases q : H l with
  | none => rfl
  | some o =>
    rw [e l o q] at h
    cases h
theorem Same.seq {K : PySem.W.Frag} {H H' : Hp} {a : Addr} {xs : List V} (e : Same H H') (h : SqL K H a xs) : SqL K H' a xs := by
  rcases h with (h | ⟨o, h⟩) | h
  · exact .inl (.inl (e _ _ h))
  · exact .inl (.inr ⟨o, e _ _ h⟩)
  · exact .inr h

end L2


namespace L2
open PySem PySem.Spec PyProof.Rows
section
variable {X : Cx}
end
section
variable {κ : Type} [DecidableEq κ]
end
end L2

namespace Tx
open PySem PySem.Builtin PySem.Builtin.Str
def cl (n d : Nat) : Option Int → Nat
  | none => d
  | some i => (max 0 (min (if i < 0 then i + n else i) n)).toNat
theorem cl_nat (n d k : Nat) : cl n d (some (k : Int)) = min k n := by
  show (max 0 (min (if (k : Int) < 0 then (k : Int) + n else (k : Int)) n)).toNat = min k n
  rw [if_neg (by omega)]
  omega
theorem cl_le (n d : Nat) (hd : d ≤ n) : ∀ o, cl n d o ≤ n
  | none => hd
  | some i => by
    show (max 0 (min (if i < 0 then i + n else i) n)).toNat ≤ n
    omega
theorem indices_eq (lo hi : Option Int) (n : Nat) : strSliceIndices lo hi 1 n = (List.range (cl n n hi - cl n 0 lo)).map (cl n 0 lo + ·) := by
  have h1 : ∀ (v : Option Int) (d : Nat), d ≤ n → (match v with | none => (d : Int) | some i => if (1 : Int) > 0 then max 0 (min (if i < 0 then i + n else i) n) else max (-1) (min (if i < 0 then i + n else i) (n - 1))) = ((cl n d v : Nat) : Int) := by
    intro v d hd
    cases v with
    | none => rfl
    | some i =>
      show (if (1 : Int) > 0 then max 0 (min (if i < 0 then i + n else i) n) else max (-1) (min (if i < 0 then i + n else i) (n - 1))) = (((max 0 (min (if i < 0 then i + n else i) n)).toNat : Nat) : Int)
      rw [if_pos (by decide)]
      omega
  rw [← sliceRange_one]
  unfold strSliceIndices
  have a := h1 lo 0 (Nat.zero_le _)
  have b := h1 hi n (Nat.le_refl _)
  simp only [show (1 : Int) > 0 by decide, if_true] at a b ⊢
  congr 1
theorem slice_codes (x : Str) (lo hi : Option Int) : (Txt.slice x lo hi).cps.toList = (x.cps.toList.drop (cl x.length 0 lo)).take (cl x.length x.length hi - cl x.length 0 lo) := by
  unfold Txt.slice
  rw [indices_eq]
  split
  · rename_i h
    have h' : cl x.length x.length hi - cl x.length 0 lo = x.length := by
      have := (Bool.and_eq_true_iff.mp h).2
      have := beq_iff_eq.mp this
      simpa using this
    have h2 := cl_le x.length x.length (Nat.le_refl _) hi
    have h4 := cl_le x.length 0 (Nat.zero_le _) lo
    have h3 : cl x.length 0 lo = 0 := by omega
    rw [h', h3, List.drop_zero, List.take_of_length_le]
    show x.cps.toList.length ≤ x.cps.size
    simp
  · rw [pick_run]
theorem app_codes (a b : Str) : (a ++ b).cps.toList = a.cps.toList ++ b.cps.toList := by
  simp [Str.cps_append]
end Tx

set_option maxHeartbeats 4000000

namespace L2
open PySem PySem.Spec PyProof.Rows

theorem forIn_cells {env : Env} {f : (Str × NameKind) → List (Str × Addr) → Sem (ForInStep (List (Str × Addr)))}
    (hf : ∀ n k cs, f (n, k) cs = if (k == NameKind.free) = true then (cellOf env n >>= fun c => pure (ForInStep.yield ((n, c) :: cs))) else pure (ForInStep.yield cs)) :
    ∀ (names : List (Str × NameKind)) (acc : List (Str × Addr)),
    (∀ y ∈ names, y.2 = .free → ∃ c, env.cells.lookup y.1 = some c) →
    (∀ x c, acc.lookup x = some c → env.cells.lookup x = some c) →
    ∃ cl, forIn names acc f = (pure cl : Sem _) ∧ (∀ x c, cl.lookup x = some c → env.cells.lookup x = some c) ∧ (∀ x c, acc.lookup x = some c → ∃ d, cl.lookup x = some d) ∧
      ∀ x, (x, NameKind.free) ∈ names → ∃ c, cl.lookup x = some c
  | [], acc, _, ha => ⟨acc, rfl, ha, fun x c e => ⟨c, e⟩, fun x m => absurd m (by simp)⟩
  | (n, k) :: r, acc, hn, ha => by
    have hr : ∀ y ∈ r, y.2 = .free → ∃ c, env.cells.lookup y.1 = some c := fun y hy => hn y (List.mem_cons_of_mem _ hy)
    by_cases hk : k = .free
    · subst hk
      obtain ⟨c, hc⟩ := hn (n, .free) List.mem_cons_self rfl
      have hcell : cellOf env n = pure c := by
        have hc' : env.cells.lookup n = some c := hc
        unfold cellOf
        rw [hc']
      have ha' : ∀ x d, List.lookup x ((n, c) :: acc) = some d → env.cells.lookup x = some d := fun x d e => by
        by_cases hx : (x == n) = true
        · rw [List.lookup_cons, hx] at e
          obtain rfl := beq_iff_eq.mp hx
          cases e
          exact hc
        · have hx' : (x == n) = false := by simpa using hx
          rw [List.lookup_cons, hx'] at e
          exact ha x d e
      obtain ⟨cl, e1, e2, e3, e4⟩ := forIn_cells hf r ((n, c) :: acc) hr ha'
      refine ⟨cl, ?_, e2, fun x d e => ?_, fun x m => ?_⟩
      · rw [List.forIn_cons, hf, if_pos (beq_self_eq_true _), hcell, pure_bind, pure_bind]
        exact e1
      · by_cases hx : (x == n) = true
        · exact e3 x c (by rw [List.lookup_cons, hx])
        · have hx' : (x == n) = false := by simpa using hx
          exact e3 x d (by rw [List.lookup_cons, hx']; exact e)
      · rcases List.mem_cons.mp m with q | q
        · have q' : x = n := congrArg Prod.fst q
          subst q'
          exact e3 x c (by rw [List.lookup_cons, beq_self_eq_true])
        · exact e4 x q
    · have hk' : (k == NameKind.free) = false := by simpa using hk
      obtain ⟨cl, e1, e2, e3, e4⟩ := forIn_cells hf r acc hr ha
      refine ⟨cl, ?_, e2, e3, fun x m => ?_⟩
      · rw [List.forIn_cons, hf, hk', if_neg Bool.false_ne_true, pure_bind]
        exact e1
      · rcases List.mem_cons.mp m with q | q
        · exact absurd (congrArg Prod.snd q).symm hk
        · exact e4 x q

theorem closure_ok {scope : Scope} {env : Env} (h : ∀ y ∈ scope.names, y.2 = .free → ∃ c, env.cells.lookup y.1 = some c) :
    ∃ cl, closureFor scope env = pure cl ∧ (∀ x c, cl.lookup x = some c → env.cells.lookup x = some c) ∧ ∀ x, (x, NameKind.free) ∈ scope.names → ∃ c, cl.lookup x = some c := by
  obtain ⟨cl, e1, e2, _, e4⟩ := forIn_cells (env := env) (f := fun (x : Str × NameKind) cs => match x with | (name, kind) => if (kind == NameKind.free) = true then (cellOf env name >>= fun c => pure (ForInStep.yield ((name, c) :: cs))) else pure (ForInStep.yield cs)) (fun n k cs => rfl) scope.names [] h (fun x c e => by cases e)
  refine ⟨cl, ?_, e2, e4⟩
  have : closureFor scope env = (forIn scope.names [] (fun (x : Str × NameKind) cs => match x with | (name, kind) => if (kind == NameKind.free) = true then (cellOf env name >>= fun c => pure (ForInStep.yield ((name, c) :: cs))) else pure (ForInStep.yield cs)) >>= fun cs => pure cs) := by
    first | rfl | (unfold closureFor; rfl) | (unfold closureFor; simp only [pure_bind, bind_pure])
  rw [this, e1, pure_bind]

theorem lookup_relabel_free {env : Env} : ∀ {names : List (Str × NameKind)} {x : Str}, names.lookup x = some .free →
    (names.map fun (n, k) => if (k == NameKind.free && env.scope.kind == .function && env.kindOf n == some .cell) then (n, NameKind.cell) else (n, k)).lookup x = some .cell ∨
    (names.map fun (n, k) => if (k == NameKind.free && env.scope.kind == .function && env.kindOf n == some .cell) then (n, NameKind.cell) else (n, k)).lookup x = some .free
  | [], _, h => by simp at h
  | (n, k) :: r, x, h => by
    have ih := @lookup_relabel_free env r x
    show List.lookup x ((if (k == NameKind.free && env.scope.kind == .function && env.kindOf n == some .cell) = true then (n, NameKind.cell) else (n, k)) :: _) = _ ∨ List.lookup x ((if (k == NameKind.free && env.scope.kind == .function && env.kindOf n == some .cell) = true then (n, NameKind.cell) else (n, k)) :: _) = _
    cases hx : x == n with
    | true =>
      simp only [List.lookup_cons, hx] at h
      cases h
      by_cases hc : (NameKind.free == NameKind.free && env.scope.kind == .function && env.kindOf n == some .cell) = true
      · rw [if_pos hc]; left; simp only [List.lookup_cons, hx]
      · rw [if_neg hc]; right; simp only [List.lookup_cons, hx]
    | false =>
      simp only [List.lookup_cons, hx] at h
      by_cases hc : (k == NameKind.free && env.scope.kind == .function && env.kindOf n == some .cell) = true
      · rw [if_pos hc]; simp only [List.lookup_cons, hx]; exact ih h
      · rw [if_neg hc]; simp only [List.lookup_cons, hx]; exact ih h
theorem relabel_was_free {env : Env} : ∀ {names : List (Str × NameKind)} {x : Str}, (∀ y ∈ names, y.2 ≠ .cell) →
    ((names.map fun (n, k) => if (k == NameKind.free && env.scope.kind == .function && env.kindOf n == some .cell) then (n, NameKind.cell) else (n, k)).lookup x = some .cell ∨
    (names.map fun (n, k) => if (k == NameKind.free && env.scope.kind == .function && env.kindOf n == some .cell) then (n, NameKind.cell) else (n, k)).lookup x = some .free) → (x, NameKind.free) ∈ names
  | [], _, _, h => by rcases h with h | h <;> simp at h
  | (n, k) :: r, x, hn, h => by
    have ih := @relabel_was_free env r x (fun y hy => hn y (List.mem_cons_of_mem _ hy))
    have h' : List.lookup x ((if (k == NameKind.free && env.scope.kind == .function && env.kindOf n == some .cell) = true then (n, NameKind.cell) else (n, k)) :: (r.map fun (n, k) => if (k == NameKind.free && env.scope.kind == .function && env.kindOf n == some .cell) then (n, NameKind.cell) else (n, k))) = some .cell ∨
      List.lookup x ((if (k == NameKind.free && env.scope.kind == .function && env.kindOf n == some .cell) = true then (n, NameKind.cell) else (n, k)) :: (r.map fun (n, k) => if (k == NameKind.free && env.scope.kind == .function && env.kindOf n == some .cell) then (n, NameKind.cell) else (n, k))) = some .free := h
    cases hx : x == n with
    | true =>
      obtain rfl := beq_iff_eq.mp hx
      have hk : k = .free := by
        by_cases hc : (k == NameKind.free && env.scope.kind == .function && env.kindOf x == some .cell) = true
        · have := (Bool.and_eq_true_iff.mp (Bool.and_eq_true_iff.mp hc).1).1
          exact beq_iff_eq.mp this
        · rw [if_neg hc] at h'
          simp only [List.lookup_cons, hx] at h'
          rcases h' with e | e
          · cases e; exact absurd rfl (hn (x, .cell) List.mem_cons_self)
          · cases e; rfl
      subst hk
      exact List.mem_cons_self
    | false =>
      refine List.mem_cons_of_mem _ (ih ?_)
      by_cases hc : (k == NameKind.free && env.scope.kind == .function && env.kindOf n == some .cell) = true
      · rw [if_pos hc] at h'; simp only [List.lookup_cons, hx] at h'; exact h'
      · rw [if_neg hc] at h'; simp only [List.lookup_cons, hx] at h'; exact h'

structure BlkR where
  cl : List (Str × Addr)
  C : Addr
  s₀ : Shared
  H₀ : Hp
  ex : List Addr
abbrev blk (X : Cx) (scope : Scope) (N' : List Str) (R : BlkR) : Cx :=
  { prog := X.prog, w := X.w, K := X.K, mg := X.mg, base := X.base, A := X.A, N := N', s₀ := R.s₀, H₀ := R.H₀, env := compEnvC scope R.cl R.C X.env, outer := X.stack, stack := X.stack, ex := R.ex, fn := fun _ => false, calm := X.calm, pn := [], xe := fun _ _ => False }

def PIfs (X : Cx) (ifs : List Expr) (t : TT) : Prop :=
  ∀ (pins : List (Addr × Obj)) (s : Shared) (σ : St) (H : Hp) (Q : Bool → Hp → Prop), Inv X pins σ H s → t σ H Q →
    wpAny (model X.prog X.w) X.A (forIn ifs true fun c r => if r = true then do let ok ← isTrue c X.env (eval c X.env); pure (ForInStep.yield ok) else pure (ForInStep.yield r)) (TP X pins σ Q) X.xe s
def tTrue : TT := fun _ H Q => Q true H
theorem pifs_nil {X : Cx} : PIfs X [] tTrue := fun pins s σ H Q I h => wpAny_tests_nil ⟨H, I, h⟩
theorem pifs_one {X : Cx} {c : Expr} {t : TT} (h : PT X c t) : PIfs X [c] t := fun pins s σ H Q I hw => wpAny_tests_one (h pins s σ H Q I hw)

def GKeep (nt : Nat) (g : TG) : Prop := ∀ x σ H Q, g x σ H Q → g x σ H fun σ2 H2 => Q σ2 H2 ∧ σ2.length = σ.length ∧ ∀ i, nt ≤ i → σ2[i]? = σ[i]?
theorem gkeep_name {nt i : Nat} (h : i < nt) : GKeep nt (gName i) := fun x σ H Q q =>
  ⟨q, by simp, fun j hj => List.getElem?_set_ne (by omega)⟩

def blkSt (nt : Nat) (cap : List Nat) (σ : St) : St := List.replicate nt none ++ cap.map fun j => (σ[j]?).join
theorem blkSt_len {nt : Nat} {cap : List Nat} {σ : St} : (blkSt nt cap σ).length = nt + cap.length := by simp [blkSt]
theorem blkSt_get {nt : Nat} {cap : List Nat} {σ : St} {i : Nat} {v : V} (h : (blkSt nt cap σ)[i]? = some (some v)) : ∃ j, nt ≤ i ∧ cap[i - nt]? = some j ∧ σ[j]? = some (some v) := by
  unfold blkSt at h
  by_cases hi : i < nt
  · rw [List.getElem?_append_left (by simpa using hi), List.getElem?_replicate] at h
    rw [if_pos hi] at h
    cases h
  · rw [List.getElem?_append_right (by simp; omega), List.length_replicate, List.getElem?_map] at h
    cases e : cap[i - nt]? with
    | none => rw [e] at h; cases h
    | some j =>
      rw [e] at h
      refine ⟨j, by omega, rfl, ?_⟩
      have h' : (σ[j]?).join = some v := by simpa using h
      cases q : σ[j]? with
      | none => rw [q] at h'; cases h'
      | some o => rw [q] at h'; cases o with
        | none => cases h'
        | some z => cases h'; rfl

theorem compLoop_turns {prog : Program} {w : World} {A : Around} {R : Result → Shared → Prop} {s : Shared} {elt target iter : Expr} {ifs : List Expr} {scope : Scope} {pos : Pos} {it acc : Value} {env : Env} (I : Nat → Shared → Prop)
    (turn : ∀ n s, I n s → wpAny (model prog w) A (pyNext it) (fun r s₁ => match r with
      | none => R (.ok .next) s₁
      | some v => wpAny (model prog w) A (letOwnedTupleGo target it v) (fun _ s₁ => wpAny (model prog w) A (assign target env v) (fun _ s₂ =>
          wpAny (model prog w) A (forIn ifs true fun c r => if r = true then do let ok ← isTrue c env (eval c env); pure (ForInStep.yield ok) else pure (ForInStep.yield r)) (fun ok s₃ =>
            if ok = true then wpAny (model prog w) A (eval elt env) (fun x s₄ =>
              wpAny (model prog w) A (call (.builtin "list.append") [acc, x]) (fun _ s₅ => ∃ m, m < n ∧ I m s₅) (notedBy (model prog w) A env fun e s' => R (.error e) s') s₄) (notedBy (model prog w) A env fun e s' => R (.error e) s') s₃
            else ∃ m, m < n ∧ I m s₃) (notedBy (model prog w) A env fun e s' => R (.error e) s') s₂) (notedBy (model prog w) A env fun e s' => R (.error e) s') s₁) (notedBy (model prog w) A env fun e s' => R (.error e) s') s₁) (notedBy (model prog w) A env fun e s' => R (.error e) s') s)
    (n : Nat) (h : I n s) :
    codeAny (model prog w) A (.compLoop (.ListComp elt [⟨target, iter, ifs, 0⟩] scope pos) 0 it acc env) R s := by
  refine codeAny_loop rfl I (fun n s hI => ?_) n h
  show wpAny _ A ((compTurn (.ListComp elt [⟨target, iter, ifs, 0⟩] scope pos) 0 it acc env).onRaise (fun x => do noteFrame x env; theTreesLotGoes x)) _ _ s
  refine wpAny_noted ?_
  rw [compTurn_list]
  refine wpAny_bind (wpAny_standAt (wpAny_bind (wpAny_mono (turn n s hI) (fun r s₁ h₁ => ?_) fun _ _ h' => h')))
  cases r with
  | none => exact wpAny_pure h₁
  | some v =>
    refine wpAny_bind (wpAny_mono h₁ (fun _ s₁' h₁' => ?_) fun _ _ h' => h')
    refine wpAny_bind (wpAny_mono h₁' (fun _ s₂ h₂ => wpAny_bind (wpAny_mono h₂ (fun ok s₃ h₃ => ?_) fun _ _ h' => h')) fun _ _ h' => h')
    cases ok with
    | false => exact wpAny_pure ⟨rfl, h₃⟩
    | true =>
      exact wpAny_bind (wpAny_bind (wpAny_mono h₃ (fun x s₄ h₄ => wpAny_bind (wpAny_mono h₄ (fun _ s₅ h₅ => wpAny_pure (wpAny_pure ⟨rfl, h₅⟩)) fun _ _ h' => h')) fun _ _ h' => h'))

abbrev CW := Nat → Nat → List V → Hp → Prop
def tTurn (σb : St) (J : It) (g : TG) (tt : TT) (te : TE) (W : CW) (fin : List V → Hp → Prop) (i m : Nat) (ys : List V) (H : Hp) : Prop :=
  (J.stop i H ∧ fin ys H) ∨
  (J.go i H ∧ ys.length < sizeLine ∧ ∀ x H', J.yld i H x H' → g x σb H' fun σ2 H2 => tt σ2 H2 fun b H3 =>
    if b = true then te σ2 H3 fun y H4 => ∃ m', m' < m ∧ W (i + 1) m' (ys ++ [y]) H4 else ∃ m', m' < m ∧ W (i + 1) m' ys H3)

structure BlkEnd (X : Cx) (pins : List (Addr × Obj)) (H : Hp) (C : Addr) (s : Shared) : Prop where
  ns : ∃ m, s.heap.Ns C m
  fr : H C = none
  ne : C ≠ X.env.locals
  ab : X.s₀.heap.objs.size ≤ C
  cl : ∀ x c, X.env.cells.lookup x = some c → c ≠ C
  pn : ∀ p ∈ X.pn ++ pins, p.1 ≠ C

theorem comp_block {X : Cx} {pins : List (Addr × Obj)} {σ : St} {s₂ : Shared} {H₂ : Hp} {elt iter tg : Expr} {ifs : List Expr} {scope : Scope} {pos : Pos} {N' : List Str} {nt : Nat} {cap : List Nat} {g : TG} {tt : TT} {te : TE} {cl : List (Str × Addr)}
    {it : Addr} {fp : List Addr} {tn : Nat → Heap → Prop} {J : It} {Q : List V → Hp → Prop} {E : Value → Shared → Prop}
    (hc : X.calm = true) (I₂ : Inv X pins σ H₂ s₂) (T : Turn X.prog X.w X.K tg J fp it tn) (st : tn 0 s₂.heap) (hf : ∀ b ∈ fp, FpOk X pins H₂ b)
    (hclk : ∀ x c, cl.lookup x = some c → X.env.cells.lookup x = some c) (hclh : ∀ x, (x, NameKind.free) ∈ scope.names → ∃ c, cl.lookup x = some c)
    (hcell : ∀ y ∈ scope.names, y.2 ≠ .cell) (hkind : scope.kind = .function)
    (hfr : ∀ y ∈ scope.names, y.2 = .free → (X.env.kindOf y.1 = some .cell ∨ X.env.kindOf y.1 = some .free))
    (hN : N'.length = nt + cap.length) (hcapN : ∀ (k j : Nat), cap[k]? = some j → N'[nt + k]? = X.N[j]?) (hcapF : ∀ x ∈ N'.drop nt, scope.names.lookup x = some .free)
    (hg : ∀ R, PG (blk X scope N' R) tg g) (hgk : GKeep nt g) (ht : ∀ R, PIfs (blk X scope N' R) ifs tt) (he : ∀ R, PE (blk X scope N' R) elt te)
    (h : ∃ W : CW, (∃ m, W 0 m [] H₂) ∧ ∀ i m ys H, W i m ys H → tTurn (blkSt nt cap σ) J g tt te W Q i m ys H)
    {RR : Value → Addr → Result → Shared → Prop}
    (hRR : ∀ D C s' H' ys, H' D = none → Q ys H' → Inv X pins σ (upd H' D (.lst ys)) s' → BlkEnd X pins (upd H' D (.lst ys)) C s' → RR (.ref D) C (.ok .next) s') :
    wpAny (model X.prog X.w) X.A (newList []) (fun acc s₃ => wpAny (model X.prog X.w) X.A (newFunctionEnv scope X.env.globals cl [] X.env.qual none .none (some X.env)) (fun cenv s₄ =>
      codeAny (model X.prog X.w) X.A (.compStart (.ListComp elt [⟨tg, iter, ifs, 0⟩] scope pos) 0 (.ref it) acc { cenv with scope := relabel scope X.env }) (RR acc cenv.locals) s₄) E s₃) E s₂ := by
  obtain ⟨W, ⟨m0, w0⟩, turn⟩ := h
  refine wpAny_newObj_type (wpAny_newFunctionEnv hcell (by intro y hy; simp at hy) (fun h₁ hns₁ hsb₁ => ?_) hkind)
  dsimp only at hns₁ hsb₁ ⊢
  generalize hH2 : s₂.heap.push { cls := .type "list", dict := none, data := .seq ([] : List Value).toArray } = Hx at hns₁ hsb₁ ⊢
  have hC : Hx.objs.size = s₂.heap.objs.size + 1 := by rw [← hH2, Heap.size_push]
  generalize hD : s₂.heap.objs.size = D at hC ⊢
  generalize hCC : Hx.objs.size = C at hns₁ hsb₁ hC ⊢
  have hDC : D ≠ C := by omega
  have below : ∀ b, b < s₂.heap.objs.size → b ≠ C ∧ b ≠ D := fun b hb => by omega
  have old : ∀ b o, s₂.heap.get? b = some o → h₁.get? b = some o := fun b o e => hsb₁.extBut b o (below b (Heap.lt_size e)).1 (Heap.get?_push_of_some _ (hH2 ▸ Heap.get?_push_of_some _ e))
  have hacc : h₁.get? D = some { cls := .type "list", data := .seq ([] : List Value).toArray } := hsb₁.extBut _ _ hDC (Heap.get?_push_of_some _ (by rw [← hH2, ← hD]; exact Heap.get?_push_size _ rfl))
  have freshD : H₂ D = none := I₂.hok.fresh (by omega)
  have freshC : H₂ C = none := I₂.hok.fresh (by omega)
  have fpo : ∀ b ∈ fp, ∃ o, s₂.heap.get? b = some o ∧ ∀ v, o.data ≠ .cell v := T.obj 0 _ st
  have fplt : ∀ b ∈ fp, b < s₂.heap.objs.size := fun b hb => let ⟨o, e, _⟩ := fpo b hb; Heap.lt_size e
  have celllt : ∀ x c, X.env.cells.lookup x = some c → c < s₂.heap.objs.size := fun x c e => let ⟨v, z⟩ := I₂.cell x c e; z.lt
  have pinlt : ∀ p ∈ X.pn ++ pins, p.1 < s₂.heap.objs.size := fun p hp => Heap.lt_size (I₂.pin p hp).1
  let R : BlkR := ⟨cl, C, s₂, H₂, fp⟩
  have okb : (blk X scope N' R).Ok := {
    mod := I₂.mod
    kind := hkind
    glob := I₂.ok.glob
    blt := I₂.ok.blt
    above := (by show s₂.heap.objs.size ≤ C; omega)
    inj := fun x y c e1 e2 => I₂.ok.inj x y c (hclk x c e1) (hclk y c e2)
    has := fun x hx => hclh x (relabel_was_free hcell hx)
    cab := fun x c hx _ => by cases hx
    hd := I₂.ok.hd
    frames := I₂.ok.frames
    stk := .inl rfl
    exf := fun b hb => ⟨(below b (fplt b hb)).1, fun x c e => (hf b hb).2.2.2.2.1 x c (hclk x c e)⟩
    bs := I₂.bs
    bsz := Nat.le_trans I₂.ok.bsz I₂.sz
    noex := fun b o e hb => by
      rcases (hf b hb).2.2.2.1 with z | z
      · exact I₂.ok.noex b o e z
      · exact absurd (Nat.lt_of_lt_of_le (Heap.lt_size e) (Nat.le_trans I₂.ok.bsz z)) (Nat.lt_irrefl _)
    exfs := fun b hb z => by
      rcases List.mem_cons.mp (I₂.stkSub b z) with q | q
      · exact (hf b hb).2.1 q
      · exact (hf b hb).2.2.1 q
    funs := I₂.stack
    frf := I₂.stkFree }
  have nofs : ∀ a, s₂.heap.objs.size ≤ a → a ∉ frs X.stack := fun a ha z => by
    rcases List.mem_cons.mp (I₂.stkSub a z) with q | q
    · exact absurd (Nat.lt_of_lt_of_le I₂.lt ha) (by rw [q]; exact Nat.lt_irrefl _)
    · exact I₂.nofs ha q
  have hDle : s₂.heap.objs.size ≤ D := by omega
  have hCle : s₂.heap.objs.size ≤ C := by omega
  have stat : ∀ {H' : Hp} {ob : Obj}, (∀ b ∈ fp, H' b = none) → ∀ b ∈ fp, FpOk (blk X scope N' R) [(D, ob)] H' b := fun {H' ob} hn b hb =>
    ⟨hn b hb, (below b (fplt b hb)).1, okb.exfs b hb, .inl hb, fun x c e => (hf b hb).2.2.2.2.1 x c (hclk x c e), fun p hp => by
      have e : p = (D, ob) := by simpa using hp
      rw [e]
      exact Ne.symm (below b (fplt b hb)).2⟩
  have entry : ∀ tk, Inv (blk X scope N' R) [(D, { cls := .type "list", data := .seq ([] : List Value).toArray })] (blkSt nt cap σ) H₂ { s₂ with heap := h₁, toks := tk } := fun tk => {
    ok := okb
    os := rfl
    bare := I₂.bare
    base := Un.kept old
    loc := by
      refine ⟨_, hns₁, fun i x v e1 e2 e3 => ?_⟩
      obtain ⟨j, hi, hj, hv⟩ := blkSt_get e2
      have hx : X.N[j]? = some x := by
        rw [← hcapN _ _ hj, show nt + (i - nt) = i by omega]
        exact e1
      have hxm : x ∈ N'.drop nt := by
        refine List.mem_of_getElem? (i := i - nt) ?_
        rw [List.getElem?_drop, show nt + (i - nt) = i by omega]
        exact e1
      have hfree := hcapF x hxm
      have hmem : (x, NameKind.free) ∈ scope.names := by
        have : ∀ (l : List (Str × NameKind)), l.lookup x = some .free → (x, NameKind.free) ∈ l := by
          intro l
          induction l with
          | nil => intro q; cases q
          | cons a r ih =>
            intro q
            obtain ⟨n, k⟩ := a
            cases hxn : x == n with
            | true =>
              rw [List.lookup_cons, hxn] at q
              obtain rfl := beq_iff_eq.mp hxn
              cases q
              exact List.mem_cons_self
            | false =>
              rw [List.lookup_cons, hxn] at q
              exact List.mem_cons_of_mem _ (ih q)
        exact this _ hfree
      have hk := hfr (x, .free) hmem rfl
      obtain ⟨m, hn, hl⟩ := I₂.loc
      have vis : Vis X.env.scope x := by
        rcases hk with k | k
        · exact .inr (.inl k)
        · exact .inr (.inr k)
      obtain ⟨u, ru, lk⟩ := hl j x v hx hv vis
      refine ⟨u, ru, ?_⟩
      rcases lk with ⟨k, _⟩ | ⟨k, c, hc1, hc2⟩
      · exfalso
        rcases hk with z | z
        · rw [z] at k; cases k
        · rw [z] at k; cases k
      · obtain ⟨d, hd⟩ := hclh x hmem
        have hd' := hclk x d hd
        rw [hc1] at hd'
        cases hd'
        refine .inr ⟨lookup_relabel_free hfree, c, hd, ?_⟩
        obtain ⟨o, ho, hdat⟩ := hc2
        exact ⟨o, old c o ho, hdat⟩
    cell := fun x c e => by
      obtain ⟨v, o, ho, hdat⟩ := I₂.cell x c (hclk x c e)
      exact ⟨v, o, old c o ho, hdat⟩
    free := freshC
    freeC := fun x c e => I₂.freeC x c (hclk x c e)
    pin := fun p hp => by
      have e : p = (D, { cls := .type "list", data := .seq ([] : List Value).toArray }) := by simpa using hp
      subst e
      exact ⟨hacc, freshD, hDC, nofs D hDle, fun v z => by cases z⟩
    hok := I₂.hok.kept old
    len := by rw [blkSt_len, hN] }
  have loop : ∀ tk, codeAny (model X.prog X.w) X.A (.compLoop (.ListComp elt [⟨tg, iter, ifs, 0⟩] scope pos) 0 (.ref it) (.ref D) (compEnvC scope cl C X.env)) (RR (.ref D) C) { s₂ with heap := h₁, toks := tk } := by
    intro tk
    refine compLoop_turns (fun n s' => ∃ i ys H' its k, Inv (blk X scope N' R) [(D, { cls := .type "list", data := .seq its.toArray k })] (blkSt nt cap σ) H' s' ∧ tn i s'.heap ∧ (∀ b ∈ fp, H' b = none) ∧ Vals ys its ∧ ys.length ≤ sizeLine ∧ W i n ys H') ?_ m0
      ⟨0, [], H₂, [], 0, entry tk, T.keep _ _ _ st fun b hb o e => old b o e, fun b hb => (hf b hb).1, .nil, Nat.zero_le _, w0⟩
    rintro n s3 ⟨i, ys, H3, its, k, I3, st3, fr3, rv, hz, w3⟩
    have pD := I3.pin (D, { cls := .type "list", data := .seq its.toArray k }) (by simp)
    rcases turn i n ys H3 w3 with ⟨stop, qn⟩ | ⟨go, hlt, step⟩
    · -- the end
      refine wpAny_mono (T.done (blk X scope N' R) rfl rfl rfl hc i _ s3 _ H3 (fun _ _ => False) I3 (stat fr3) st3 stop) (fun r s4 ⟨hr, I4⟩ => ?_) fun _ _ z => z.elim
      subst hr
      have pD4 := I4.pin (D, { cls := .type "list", data := .seq its.toArray k }) (by simp)
      have b4 : Un (frs X.stack) fp H₂ H3 s₂.heap s4.heap := I4.base
      have u4 : Un (frs X.stack) fp H₂ (upd H3 D (.lst ys)) s₂.heap s4.heap := {
        keep := b4.keep
        slot := b4.slot
        free := fun b o e n hx => by
          rw [upd_ne (below b (Heap.lt_size e)).2]
          exact b4.free b o e n hx
        there := b4.there
        tups := fun b xs e => by
          have z := b4.tups b xs e
          rw [upd_ne (ne_of_none z pD4.2.1)]
          exact z
        frzs := fun b o u e => by
          have z := b4.frzs b o u e
          rw [upd_ne (ne_of_none z pD4.2.1)]
          exact z
        tbls := fun b ps e => by
          obtain ⟨more, z⟩ := b4.tbls b ps e
          exact ⟨more, by rw [upd_ne (ne_of_none z pD4.2.1)]; exact z⟩ }
      have hok4 : HOk X.prog X.w (upd H3 D (.lst ys)) s4.heap := fun b u e => by
        by_cases hb : b = D
        · subst hb
          rw [upd_same] at e
          cases e
          exact ⟨hz, its, k, rv, pD4.1⟩
        · rw [upd_ne hb] at e
          exact (I4.hok b u e).stay (fun c v _ q => q) (fun c q => by rw [upd_ne (ne_of_none q pD4.2.1)]; exact q) fun c xs q => by rw [upd_ne (ne_of_none q pD4.2.1)]; exact q
      have I5 : Inv X pins σ (upd H3 D (.lst ys)) s4 := I₂.call' I4.os u4 hok4 I4.bare fun b hb => ⟨(hf b hb).2.2.2.1, (hf b hb).2.1, (hf b hb).2.2.2.2.1, (hf b hb).2.2.2.2.2⟩
      refine hRR D C s4 H3 ys pD4.2.1 qn I5 ?_
      obtain ⟨m, hn, _⟩ := I4.loc
      exact ⟨⟨m, hn⟩, by rw [upd_ne (Ne.symm hDC)]; exact I4.free, fun z => absurd I₂.lt (by rw [← z]; exact Nat.not_lt.mpr hCle), Nat.le_trans I₂.sz hCle, fun x c e => Nat.ne_of_lt (Nat.lt_of_lt_of_le (celllt x c e) hCle), fun p hp => Nat.ne_of_lt (Nat.lt_of_lt_of_le (pinlt p hp) hCle)⟩
    · -- a turn
      refine wpAny_mono (T.item (blk X scope N' R) rfl rfl rfl hc i _ s3 _ H3 (fun _ _ => False) I3 (stat fr3) st3 go) (fun r s4 ⟨u, hr, h4⟩ => ?_) fun _ _ z => z.elim
      subst hr
      refine wpAny_mono h4 (fun _ s5 ⟨x, H5, I5, r5, y5, st5, fr5⟩ => ?_) fun _ _ z => z.elim
      have I5' := I5.pinned (stat fr5) (T.obj _ _ st5)
      refine wpAny_mono (hg R _ s5 _ H5 x u _ I5' r5 (hgk _ _ _ _ (step x H5 y5))) (fun _ s6 ⟨σ6, H6, I6, q6, l6, k6⟩ => ?_) fun _ _ z => z.elim
      refine wpAny_mono (ht R _ s6 σ6 H6 _ I6 q6) (fun ok s7 ⟨H7, I7, q7⟩ => ?_) fun _ _ z => z.elim
      have weak : ∀ {H8 : Hp} {s8 : Shared} {ps : List (Addr × Obj)}, Inv (blk X scope N' R) ps σ6 H8 s8 → Inv (blk X scope N' R) ps (blkSt nt cap σ) H8 s8 := fun I8 => I8.weak (by rw [l6]) fun j v e => by
        obtain ⟨_, hj, _, _⟩ := blkSt_get e
        rw [k6 j hj]
        exact e
      have tnK : ∀ {H8 : Hp} {s8 : Shared} {σ8 : St}, Inv (blk X scope N' R) ([(D, { cls := .type "list", data := .seq its.toArray k })] ++ pinsAt fp s5.heap) σ8 H8 s8 → tn (i + 1) s8.heap ∧ ∀ b ∈ fp, H8 b = none := fun {H8 s8 σ8} I8 =>
        ⟨T.keep _ _ _ st5 fun b hb o e => (I8.pin (b, o) (List.mem_append_right _ (List.mem_append_right _ (mem_pinsAt hb e)))).1, fun b hb => by
          obtain ⟨o, e, _⟩ := T.obj _ _ st5 b hb
          exact (I8.pin (b, o) (List.mem_append_right _ (List.mem_append_right _ (mem_pinsAt hb e)))).2.1⟩
      cases ok with
      | false =>
        rw [if_neg Bool.false_ne_true] at q7 ⊢
        obtain ⟨m', hm, w7⟩ := q7
        exact ⟨m', hm, i + 1, ys, H7, its, k, weak I7.unpinned, (tnK I7).1, (tnK I7).2, rv, hz, w7⟩
      | true =>
        rw [if_pos rfl] at q7 ⊢
        refine wpAny_mono (he R _ s7 σ6 H7 _ I7 q7) (fun xv s8 ⟨y, H8, I8, ry, q8⟩ => ?_) fun _ _ z => z.elim
        obtain ⟨m', hm, w8⟩ := q8
        have pD8 := I8.pin (D, { cls := .type "list", data := .seq its.toArray k }) (by simp)
        have hsz : its.toArray.size ≤ sizeLine := by rw [List.size_toArray, ← rv.length]; omega
        refine wpAny_list_append_plain (hsz := hsz) ⟨k, pD8.1⟩ fun h9 hl9 hs9 => ?_
        obtain ⟨k9, hl9⟩ := hl9
        have tn8 := tnK I8
        have I8' : Inv (blk X scope N' R) (pinsAt fp s5.heap) (blkSt nt cap σ) H8 s8 := (weak I8).pins_of fun p hp => I8.pin p (List.mem_append_right _ (List.mem_append_right _ hp))
        have I9 : Inv (blk X scope N' R) (pinsAt fp s5.heap) (blkSt nt cap σ) H8 { s8 with heap := h9 } := I8'.turned (it := D) (t' := s8.toks) (fun b o hb e => hs9.extBut b o hb e) pD8.2.1 pD8.2.2.1 (.inr hDle)
          (fun x c e => Nat.ne_of_lt (Nat.lt_of_lt_of_le (celllt x c (hclk x c e)) hDle)) fun p hp => by
            have hp' : p ∈ pinsAt fp s5.heap := by simpa using hp
            exact Nat.ne_of_lt (Nat.lt_of_lt_of_le (fplt p.1 (of_pinsAt hp').1) hDle)
        have e9 : h9.get? D = some { cls := .type "list", data := .seq (its ++ [xv]).toArray k9 } := by
          rw [hl9]
          simp
        refine ⟨m', hm, i + 1, ys ++ [y], H8, its ++ [xv], k9, I9.pins_of fun p hp => ?_, T.keep _ _ _ tn8.1 fun b hb o e => hs9.extBut b o (Nat.ne_of_lt (Nat.lt_of_lt_of_le (fplt b hb) hDle)) e, tn8.2, rv.append (.cons ry .nil), by rw [List.length_append]; exact hlt, w8⟩
        have e : p = (D, { cls := .type "list", data := .seq (its ++ [xv]).toArray k9 }) := by simpa using hp
        subst e
        exact ⟨e9, pD8.2.1, pD8.2.2.1, pD8.2.2.2.1, fun v z => by cases z⟩
  exact codeAny_compStart_list (loop _) (T.self _ 0 _ _ _ (T.keep _ _ _ st fun b hb o e => old b o e) (loop _))

def tComp (nt : Nat) (cap : List Nat) (wi : TI) (g : TG) (tt : TT) (te : TE) : TE := fun σ H Q => wi σ H fun J H1 => ∃ W : CW, (∃ m, W 0 m [] H1) ∧ ∀ i m ys H, W i m ys H → tTurn (blkSt nt cap σ) J g tt te W (fun ys H' => ∀ p, H' p = none → Q (.ref p) (upd H' p (.lst ys))) i m ys H

theorem all_mem {α : Type} {l : List α} {p : α → Bool} (h : l.all p = true) : ∀ x ∈ l, p x = true := fun x hx => List.all_eq_true.mp h x hx

theorem pe_comp {X : Cx} {elt iter tg : Expr} {ifs : List Expr} {scope : Scope} {pos : Pos} {wi : TI} {g : TG} {tt : TT} {te : TE} (N' : List Str) (nt : Nat) (cap : List Nat)
    (hc : X.calm = true) (hi : PI X tg iter wi) (hg : ∀ R, PG (blk X scope N' R) tg g) (hgk : GKeep nt g) (ht : ∀ R, PIfs (blk X scope N' R) ifs tt) (he : ∀ R, PE (blk X scope N' R) elt te)
    (hcell : (scope.names.all fun y => !(y.2 == .cell)) = true := by rfl) (hkind : scope.kind = .function := by rfl)
    (hnames : (scope.names.all fun y => !(y.2 == .local) || (scope.names.lookup y.1 == some .local)) = true := by rfl)
    (hfr : (scope.names.all fun y => !(y.2 == .free) || (X.env.kindOf y.1 == some .cell || X.env.kindOf y.1 == some .free)) = true := by rfl)
    (hN : N'.length = nt + cap.length := by rfl) (hcapN : (cap.map fun j => X.N[j]?) = (N'.drop nt).map some := by rfl) (hcapF : ((N'.drop nt).all fun x => scope.names.lookup x == some .free) = true := by rfl)
    (hs : ∀ x, foldedSetIterable iter X.env x = pure x := by intro _; rfl) :
    PE X (.ListComp elt [⟨tg, iter, ifs, 0⟩] scope pos) (tComp nt cap wi g tt te) := by
  intro pins s σ H Q I h
  have hfr' : ∀ y ∈ scope.names, y.2 = .free → (X.env.kindOf y.1 = some .cell ∨ X.env.kindOf y.1 = some .free) := fun y hy e => by
    have z := all_mem hfr y hy
    rw [e] at z
    have z' : (X.env.kindOf y.1 == some .cell || X.env.kindOf y.1 == some .free) = true := z
    rcases Bool.or_eq_true_iff.mp z' with q | q
    · exact .inl (beq_iff_eq.mp q)
    · exact .inr (beq_iff_eq.mp q)
  have hcell' : ∀ y ∈ scope.names, y.2 ≠ .cell := fun y hy e => by
    have z := all_mem hcell y hy
    rw [e] at z
    cases z
  obtain ⟨cl, hcl, hclk, hclh⟩ := closure_ok (scope := scope) (env := X.env) fun y hy e => I.ok.has y.1 (hfr' y hy e)
  have hnames' : ∀ y ∈ scope.names, y.2 = .local → scope.names.lookup y.1 = some .local := fun y hy e => by
    have z := all_mem hnames y hy
    rw [e] at z
    exact beq_iff_eq.mp z
  have hcapN' : ∀ (k j : Nat), cap[k]? = some j → N'[nt + k]? = X.N[j]? := fun k j e => by
    have z := congrArg (fun l : List (Option Str) => l[k]?) hcapN
    simp only [List.getElem?_map, e, Option.map_some, List.getElem?_drop] at z
    cases q : N'[nt + k]? with
    | none => rw [q] at z; cases z
    | some x => rw [q] at z; exact (Option.some.inj z).symm
  rw [eval_ListComp]
  refine wpAny_comprehension_free (use := none) rfl hs hcl hkind hnames' (thn (hi pins s σ H _ I h) fun v s1 h1 => thn h1 fun itv s2 h2 => ?_)
  obtain ⟨it, fp, tn, J, H2, e, I2, T, st2, f2, hw⟩ := h2
  subst e
  refine comp_block (RR := fun acc C => compPost (model X.prog X.w) X.A X.xe none (EP X pins σ Q) acc C) hc I2 T st2 f2 hclk hclh hcell' hkind hfr' hN hcapN' (fun x hx => beq_iff_eq.mp (all_mem hcapF x hx)) hg hgk ht he hw ?_
  intro D C s' H' ys hD q I' B
  obtain ⟨m, hn⟩ := B.ns
  refine ⟨m, hn, fun h' hs' => ⟨.ref D, _, I'.turned (it := C) (t' := s'.toks) (fun b o hb e => hs'.extBut b o hb e) B.fr B.ne (.inr B.ab) B.cl B.pn, rfl, q D hD⟩⟩
end L2


namespace L2
open PySem PySem.Spec PyProof.Rows

section
variable {X : Cx}
def clsV : V → Option Value
  | .ty n => some (.type n)
  | .ref a => some (.ref a)
  | _ => none
theorem clsV_rel {y : V} {c u : Value} (h : clsV y = some c) (r : RelV y u) : u = c := by
  cases y with
  | ty n => cases h; exact r
  | ref a => cases h; exact r
  | non => cases h
  | bl b => cases h
  | int i => cases h
  | str x => cases h
  | byt b => cases h
  | flt b => cases h
theorem call_isinst : CallR X (.builtin "isinstance") (fun xs H Q => ∃ x y c t b, xs = [x, y] ∧ clsV y = some c ∧ TyOf X.K H x t ∧ PySem.W.kitOne X.K t c = some b ∧ Q (.bl b) H) := by
  intro pins s σ H xs us Q I r h
  obtain ⟨x, y, c, t, b, rfl, hc, ty, e, q⟩ := h
  obtain ⟨u, v, rfl, ru, rv⟩ := Vals.two r
  obtain rfl := clsV_rel hc rv
  exact isinst_ok I ru ty e fun tk => ⟨.bl b, H, I.tok tk, rfl, q⟩

theorem boolsAre_of : ∀ {bs : List Bool} {us : List Value}, Vals (bs.map V.bl) us → LSm.BoolsAre us bs
  | [], us, r => by
    rw [List.map_nil] at r
    cases r
    exact .nil
  | b :: bs, us, r => by
    rw [List.map_cons] at r
    cases r with
    | cons r1 r2 =>
      cases r1
      exact .cons b (boolsAre_of r2)
theorem call_all (hc : X.calm = true) : CallR X (.builtin "all") (fun xs H Q => ∃ (p : Addr) (bs : List Bool), xs = [.ref p] ∧ SqL X.K H p (bs.map V.bl) ∧ Q (.bl (bs.all id)) H) := by
  intro pins s σ H xs us Q I r h
  obtain ⟨p, bs, rfl, hq, q⟩ := h
  obtain ⟨u, rfl, ru⟩ := Vals.one r
  cases ru
  obtain ⟨its, rv, pl, hz⟩ := I.list hq
  obtain ⟨m, F⟩ := I.fr
  have hb := boolsAre_of rv
  have hl := pl.isList
  have hlt : p < s.heap.objs.size := by obtain ⟨_, e, _⟩ := hl; exact Heap.lt_size e
  refine call_all_walk (wpAny_pyIter_list hl ?_)
  refine ⟨s.heap.objs.size, [s.heap.objs.size, p], [s.heap.objs.size], its.toArray.size, _, _, fun i => (bs[i]?).getD true, rfl, Walks.list (A := X.A.in1) (I.ok.hd hc) _ p (Nat.ne_of_lt hlt) its.toArray,
    ⟨⟨_, Heap.get?_push_size _ rfl, rfl, rfl⟩, hl.push _⟩, fun i v s' Q' E' hP hQ => ?_, fun h' tk hk => ?_⟩
  · obtain ⟨b, e, rfl⟩ := hb.get i v (by simpa using hP)
    simp only [e, Option.getD_some] at hQ
    exact wpAny_truthy_bool hQ
  · have e : ((List.range its.toArray.size).all fun i => (bs[i]?).getD true) = bs.all id := by
      rw [List.size_toArray, hb.length]; exact LSm.range_all bs
    rw [e]
    exact ⟨.bl _, H, I.kept (LSm.kept_iter hk), rfl, q⟩

theorem sl_str : SlR X (fun x lo hi H Q => ∃ z, x = .str z ∧ z.length ≤ sizeLine ∧ Q (.str (Txt.slice z lo hi)) H) := by
  intro pins s σ H x v vl vu lo hi sl Q I rx hs pl pu h
  obtain ⟨z, rfl, hz, q⟩ := h
  obtain ⟨t, rfl⟩ := rx
  refine ⟨"str", _, F.slot_str_getitem.lookup, typeIs_str _ _ _, ?_⟩
  have fin : ∀ (t' : Tok) (k : Nat), EP X pins σ Q (.str (Txt.slice z lo hi) t') { s with toks := k } := fun t' k => ⟨.str _, H, I.tok k, ⟨t', rfl⟩, q⟩
  cases pl with
  | none =>
    cases pu with
    | none => exact wpAny_getItem_str_slice (l := none) (u := none) (st := none) hs rfl (post_val_or_str ⟨Nat.le_trans (Txt.slice_le z _ _) hz, fun t' k => fin t' k⟩)
    | int j uj => exact wpAny_getItem_str_slice (l := none) (u := some (j, uj)) (st := none) hs rfl (post_val_or_str ⟨Nat.le_trans (Txt.slice_le z _ _) hz, fun t' k => fin t' k⟩)
  | int i ui =>
    cases pu with
    | none => exact wpAny_getItem_str_slice (l := some (i, ui)) (u := none) (st := none) hs rfl (post_val_or_str ⟨Nat.le_trans (Txt.slice_le z _ _) hz, fun t' k => fin t' k⟩)
    | int j uj => exact wpAny_getItem_str_slice (l := some (i, ui)) (u := some (j, uj)) (st := none) hs rfl (post_val_or_str ⟨Nat.le_trans (Txt.slice_le z _ _) hz, fun t' k => fin t' k⟩)

theorem mt_startswith : MtR X "str.startswith" (fun x vs H Q => ∃ z y, x = .str z ∧ vs = [.str y] ∧ Q (.bl (decide (0 + y.length ≤ z.length) && Builtin.Str.subAt z y 0)) H) := by
  intro pins s σ H x xs v us Q I rx r h
  obtain ⟨z, y, rfl, rfl, q⟩ := h
  obtain ⟨t, rfl⟩ := rx
  obtain ⟨u, rfl, ru⟩ := Vals.one r
  obtain ⟨t', rfl⟩ := ru
  exact call_gives F.slot_str_startswith (typeIs_str s z t) F.entry_str_startswith (F.args_str_startswith_2 _ _) (gives_str_startswith z y t t') ⟨.bl _, H, I, rfl, q⟩

theorem call_int_text : CallR X (.type "int") (fun xs H Q => ∃ x n, xs = [.str x] ∧ PySem.intText? x = some n ∧ x.length ≤ 640 ∧ Q (.int n) H) := by
  intro pins s σ H xs us Q I r h
  obtain ⟨x, n, rfl, hn, hl, q⟩ := h
  obtain ⟨u, rfl, ru⟩ := Vals.one r
  obtain ⟨t, rfl⟩ := ru
  exact PySem.W.KIN.call_text hn hl ⟨.int n, H, I.tok _, ⟨_, rfl⟩, q⟩

theorem op_fdivB : OpR X (binaryOp .FloorDiv) (rI (fun _ j => 0 < j ∧ j.natAbs.log2 < 9000) fun i j => .int (i / j)) := opI fun i j _ _ _ _ _ hc q => by
  have h1 : (0 : Int) < j := hc.1
  exact floordiv_int (by omega) (by rw [Int.fdiv_eq_ediv_of_nonneg i (by omega)]; exact q) (.inl (PyProof.noPylong_of_log2 hc.2))

def Its (x : Str) : It where
  go := fun i _ => i < x.cps.size
  yld := fun i H v H' => H' = H ∧ ∃ c, x.cps[i]? = some c ∧ v = .str ⟨#[c]⟩
  stop := fun i _ => i = x.cps.size
theorem turn_str {P : Program} {w : World} {K : PySem.W.Frag} {tg : Expr} (it : Addr) (x : Str) (t : Tok) (ty : String)
    (W : ∀ A : Around, A.handled = none → Walks P w A it [it] [it] x.cps.size (SignAt x) (fun i h => h.IsStrIter it ty x t i))
    (hn : ["enumerate", "zip", "dict_itemiterator", "dict_reverseitemiterator", "odict_iterator", "itertools.zip_longest", "itertools.pairwise"].contains ty = false)
    (self : ∀ (A : Around) (i : Nat) (s : Shared) (Q : Value → Shared → Prop) (E : Value → Shared → Prop), s.heap.IsStrIter it ty x t i → Q (.ref it) s → wpAny (model P w) A (pyIter (.ref it)) Q E s) :
    Turn P w K tg (Its x) [it] it (fun i h => h.IsStrIter it ty x t i) where
  mem := by simp
  obj := fun i h st b hb => by
    have e : b = it := by simpa using hb
    subst e
    obtain ⟨o, e, c, d⟩ := st
    exact ⟨o, e, fun v z => by rw [d] at z; cases z⟩
  keep := fun i h h' st k => let ⟨o, ho, r⟩ := st; ⟨o, k it (by simp) o ho, r⟩
  item := by
    intro X hP hw hK hc i pins s σ H E I hf st hg
    subst hP hw hK
    obtain ⟨f0, f1, f2, f3, f4, f5⟩ := hf it (by simp)
    refine (W X.A (I.ok.hd hc)).item i s _ _ hg st fun v h' tk hv st' kk => ?_
    obtain ⟨c, u, hx, rfl⟩ := hv
    have I1 : Inv X pins σ H { s with heap := h', toks := tk } := I.turned (fun b o hb e => kk b o (by simpa using hb) e) f0 f1 f3 f4 f5
    obtain ⟨o, e, cc, d⟩ := id st'
    exact ⟨_, rfl, go_of (s := { s with heap := h', toks := tk }) e cc d hn ⟨.str ⟨#[c]⟩, H, I1, ⟨u, rfl⟩, ⟨rfl, c, hx, rfl⟩, st', fun b hb => (hf b hb).1⟩⟩
  done := by
    intro X hP hw hK hc i pins s σ H E I hf st hg
    subst hP hw hK
    obtain ⟨f0, f1, f2, f3, f4, f5⟩ := hf it (by simp)
    have hg' : i = x.cps.size := hg
    subst hg'
    exact (W X.A (I.ok.hd hc)).done s _ _ st fun h' tk kk => ⟨rfl, I.turned (fun b o hb e => kk b o (by simpa using hb) e) f0 f1 f3 f4 f5⟩
  self := self
def iStr (tl : TE) : TI := fun σ H R => tl σ H fun x H1 => ∃ z, x = .str z ∧ R (Its z) H1
theorem pi_str {tg l : Expr} {tl : TE} (hl : PE X l tl) : PI X tg l (iStr tl) := by
  intro pins s σ H R I h
  refine thn (hl pins s σ H _ I h) fun v s1 ⟨x, H1, I1, r1, q1⟩ => ?_
  obtain ⟨z, e, q⟩ := q1
  subst e
  obtain ⟨t, rfl⟩ := r1
  have fp : ∀ b ∈ [s1.heap.objs.size], FpOk X pins H1 b := fun b hb => by
    have e : b = s1.heap.objs.size := by simpa using hb
    subst e
    exact I1.fpOk (Nat.le_refl _) (I1.hok.fresh (Nat.le_refl _))
  cases ha : z.cps.all (· < 128)
  · refine wpAny_pyIter_wide ha ?_
    exact ⟨s1.heap.objs.size, [s1.heap.objs.size], _, _, H1, rfl, I1.kept (t' := s1.toks) fun b o e => Heap.get?_push_of_some _ e, turn_str _ z t "str_iterator" (fun A hA => Walks.strWide hA _ z t) (by decide) (fun A i s Q E st h => wpAny_pyIter_striter_wide st h),
      ⟨_, Heap.get?_push_size _ rfl, rfl, rfl⟩, fp, q⟩
  · refine wpAny_pyIter_ascii ha ?_
    exact ⟨s1.heap.objs.size, [s1.heap.objs.size], _, _, H1, rfl, I1.kept (t' := s1.toks) fun b o e => Heap.get?_push_of_some _ e, turn_str _ z t "str_ascii_iterator" (fun A hA => Walks.strAscii hA _ z t) (by decide) (fun A i s Q E st h => wpAny_pyIter_striter_ascii st h),
      ⟨_, Heap.get?_push_size _ rfl, rfl, rfl⟩, fp, q⟩
end

theorem comp_str {σb : St} {x : Str} {g : TG} {tt : TT} {te : TE} {fin : List V → Hp → Prop} {H : Hp} (hz : x.cps.size ≤ sizeLine) (Pv : Nat → List V → Hp → Prop) (h0 : Pv 0 [] H) (hl : ∀ i ys H, Pv i ys H → ys.length ≤ i)
    (hs : ∀ i c ys H (K : VK) (K' : Hp → Prop), x.cps[i]? = some c → Pv i ys H → (∀ y H4, Pv (i + 1) (ys ++ [y]) H4 → K y H4) → (∀ H3, Pv (i + 1) ys H3 → K' H3) →
      g (.str ⟨#[c]⟩) σb H fun σ2 H2 => tt σ2 H2 fun b H3 => if b = true then te σ2 H3 K else K' H3)
    (hd : ∀ ys H, Pv x.cps.size ys H → fin ys H) : ∃ W : CW, (∃ m, W 0 m [] H) ∧ ∀ i m ys H, W i m ys H → tTurn σb (Its x) g tt te W fin i m ys H := by
  refine ⟨fun i m ys H => m = x.cps.size - i ∧ i ≤ x.cps.size ∧ Pv i ys H, ⟨x.cps.size, by simp, Nat.zero_le _, h0⟩, ?_⟩
  rintro i m ys H ⟨rfl, hi, p⟩
  by_cases hlt : i < x.cps.size
  · refine .inr ⟨hlt, ?_, fun v H' y => ?_⟩
    · have := hl i ys H p; omega
    · obtain ⟨e, c, hx, rfl⟩ := y
      subst e
      exact hs i c ys _ _ _ hx p (fun y H4 q => ⟨x.cps.size - (i + 1), by omega, rfl, hlt, q⟩) fun H3 q => ⟨x.cps.size - (i + 1), by omega, rfl, hlt, q⟩
  · have e : i = x.cps.size := by omega
    subst e
    exact .inl ⟨rfl, hd ys H p⟩
theorem comp_list {F : PySem.W.Frag} {a : Addr} {xs : List V} {σb : St} {g : TG} {tt : TT} {te : TE} {fin : List V → Hp → Prop} {H : Hp} (hz : xs.length ≤ sizeLine) (Pv : Nat → List V → Hp → Prop) (h0 : Pv 0 [] H)
    (hl : ∀ i ys H, i ≤ xs.length → Pv i ys H → SqL F H a xs ∧ ys.length ≤ i)
    (hs : ∀ i x ys H (K : VK) (K' : Hp → Prop), xs[i]? = some x → Pv i ys H → (∀ y H4, Pv (i + 1) (ys ++ [y]) H4 → K y H4) → (∀ H3, Pv (i + 1) ys H3 → K' H3) →
      g x σb H fun σ2 H2 => tt σ2 H2 fun b H3 => if b = true then te σ2 H3 K else K' H3)
    (hd : ∀ ys H, Pv xs.length ys H → fin ys H) : ∃ W : CW, (∃ m, W 0 m [] H) ∧ ∀ i m ys H, W i m ys H → tTurn σb (Itl F a) g tt te W fin i m ys H := by
  refine ⟨fun i m ys H => m = xs.length - i ∧ i ≤ xs.length ∧ Pv i ys H, ⟨xs.length, by simp, Nat.zero_le _, h0⟩, ?_⟩
  rintro i m ys H ⟨rfl, hi, p⟩
  obtain ⟨q, ql⟩ := hl i ys H hi p
  by_cases hlt : i < xs.length
  · refine .inr ⟨⟨xs, xs[i], q, by simp [hlt]⟩, by omega, fun x H' y => ?_⟩
    obtain ⟨e, y⟩ := y
    subst e
    exact hs i x ys _ _ _ (y xs q) p (fun y H4 q => ⟨xs.length - (i + 1), by omega, rfl, hlt, q⟩) fun H3 q => ⟨xs.length - (i + 1), by omega, rfl, hlt, q⟩
  · have e : i = xs.length := by omega
    subst e
    exact .inl ⟨⟨xs, q, Nat.le_refl _⟩, hd ys H p⟩
theorem comp_range {lo : Int} {n : Nat} {σb : St} {g : TG} {tt : TT} {te : TE} {fin : List V → Hp → Prop} {H : Hp} (hz : n ≤ sizeLine) (Pv : Nat → List V → Hp → Prop) (h0 : Pv 0 [] H) (hl : ∀ i ys H, Pv i ys H → ys.length ≤ i)
    (hs : ∀ i ys H (K : VK) (K' : Hp → Prop), i < n → Pv i ys H → (∀ y H4, Pv (i + 1) (ys ++ [y]) H4 → K y H4) → (∀ H3, Pv (i + 1) ys H3 → K' H3) →
      g (.int (lo + i)) σb H fun σ2 H2 => tt σ2 H2 fun b H3 => if b = true then te σ2 H3 K else K' H3)
    (hd : ∀ ys H, Pv n ys H → fin ys H) : ∃ W : CW, (∃ m, W 0 m [] H) ∧ ∀ i m ys H, W i m ys H → tTurn σb (Itr lo n) g tt te W fin i m ys H := by
  refine ⟨fun i m ys H => m = n - i ∧ i ≤ n ∧ Pv i ys H, ⟨n, by simp, Nat.zero_le _, h0⟩, ?_⟩
  rintro i m ys H ⟨rfl, hi, p⟩
  by_cases hlt : i < n
  · refine .inr ⟨hlt, ?_, fun v H' y => ?_⟩
    · have := hl i ys H p; omega
    · obtain ⟨e, y⟩ := y
      subst e y
      exact hs i ys _ _ _ hlt p (fun y H4 q => ⟨n - (i + 1), by omega, rfl, hlt, q⟩) fun H3 q => ⟨n - (i + 1), by omega, rfl, hlt, q⟩
  · have e : i = n := by omega
    subst e
    exact .inl ⟨Nat.le_refl _, hd ys H p⟩
end L2


namespace L2
open PySem PySem.Spec PyProof.Rows

structure DefAt (K : PySem.W.Frag) (mg : Str → Option Value) (x : Str) (st : Stmt) (ps : List Str) : Prop where
  ex : ∃ (f : Addr) (fd : FuncData), Fun K x x st f fd ∧ Binds K fd ps [] ∧ mg x = some (.ref f)
structure Fc (P : Program) (w : World) (K : PySem.W.Frag) (mg : Str → Option Value) (base : Heap) (k : Nat) (x : Str) (ps : List Str) (sp : Sp) : Prop where
  ex : ∃ (f : Addr) (fd : FuncData), FnOk P w K mg base CX0 k f fd ps sp ∧ Binds K fd ps [] ∧ mg x = some (.ref f) ∧ PySem.W.keepIn K (.ref f) = true
section
variable {P : Program} {w : World} {K : PySem.W.Frag} {mg : Str → Option Value} {base : Heap}
theorem DefAt.fc {x : Str} {st : Stmt} {N ps : List Str} {k : Nat} {sp : Sp} (D : DefAt K mg x st ps) (S : FnScope N ps (defScope st)) (len : ∀ vs H Q E, sp vs H Q E → vs.length = ps.length)
    (hbody : ∀ (f : Addr) (cdv : Value) (A : Around) (outer : List Env) (s : Shared) (H : Hp) (vs : List V) (Q : VK) (E : XK), Room k (A.deeper (envOfC x (defScope st) s.heap.objs.size f cdv)) → sp vs H Q E →
      ∃ t, PSs (cxOf CX0 P w K mg base N x (defScope st) f cdv A outer s H E).nox (defBody st) t ∧ t { nx := fun _ H' => Q .non H', rt := Q } (start N vs) H) : Fc P w K mg base (k + 1) x ps sp := by
  obtain ⟨f, fd, F, b, m⟩ := D.ex
  exact ⟨f, fd, F.ok S len fun cdv A outer s H vs Q E hr h => hbody f cdv A outer s H vs Q E hr h, b, m, F.kp⟩
theorem def_mk {h : Heap} {x : Str} {st : Stmt} {ps : List Str} {f : Addr} {oc : Value} {od an : Option Addr} {osl : Array (Option Value)} {kV doc pm cdv ct : Value} (X : K.In h) (G : h.Ns mainGlobals mg)
    (a : PySem.W.nsIn K mainGlobals x = some (some (.ref f))) (l : K.lookup f = some ⟨oc, od, .func (PySem.W.fnOf x x (defArgs st) (defBody st) (defScope st) .none kV doc pm an cdv ct), osl⟩)
    (c : PySem.W.codeIn K cdv x = true) (k : PySem.W.keepIn K (.ref f) = true)
    (hb : ∀ (kV doc pm : Value) (an : Option Addr) (cdv ct : Value) (us : List Value), us.length = ps.length → bindArgs (PySem.W.fnOf x x (defArgs st) (defBody st) (defScope st) .none kV doc pm an cdv ct) ⟨us, []⟩ = pure (ps.zip us)) : DefAt K mg x st ps :=
  ⟨f, _, fun_mk l c k, (fun_mk l c k).binds hb, PySem.W.mg_of X G a⟩
end
section
variable {X : Cx} {k : Nat} {ps : List Str} {sp : Sp} {x : Str} {p pos : Pos} {e : Expr} {es : List Expr} {t : TA}
theorem pe_c (F : Fc X.prog X.w X.K X.mg X.base k x ps sp) (hr : Room k X.A) (ha : PA X (e :: es) t) (hg : Gl X x := by rfl) (hdb : (x == ("__debug__" : Str)) = false := by decide)
    (he : starEach (e :: es) X.env = (false, eval e X.env) :: starEach es X.env := by rfl) (hpl : (backTo pos (starEach es X.env)).any (·.1) = false := by rfl) :
    PE X (.Call (.Name x p) (e :: es) [] pos) (tCall sp [] E0 t) := by
  obtain ⟨f, fd, G, b, m, kp⟩ := F.ex
  exact pe_call G hr hg m kp b .nil pass0 ha hdb he hpl
end
def sp1 (f : V → Hp → VK → Prop) : Sp := fun vs H Q _ => ∃ x, vs = [x] ∧ f x H Q
def sp2 (f : V → V → Hp → VK → Prop) : Sp := fun vs H Q _ => ∃ x y, vs = [x, y] ∧ f x y H Q
def sp3 (f : V → V → V → Hp → VK → Prop) : Sp := fun vs H Q _ => ∃ x y z, vs = [x, y, z] ∧ f x y z H Q
theorem len1 {f : V → Hp → VK → Prop} : ∀ vs H Q E, sp1 f vs H Q E → vs.length = 1 := fun vs H Q E ⟨x, e, _⟩ => by rw [e]; rfl
theorem len2 {f : V → V → Hp → VK → Prop} : ∀ vs H Q E, sp2 f vs H Q E → vs.length = 2 := fun vs H Q E ⟨x, y, e, _⟩ => by rw [e]; rfl
theorem len3 {f : V → V → V → Hp → VK → Prop} : ∀ vs H Q E, sp3 f vs H Q E → vs.length = 3 := fun vs H Q E ⟨x, y, z, e, _⟩ => by rw [e]; rfl

theorem boot_isinstance : bootBuiltins "isinstance" = some (.builtin "isinstance") := by decide +kernel
theorem boot_all' : bootBuiltins "all" = some (.builtin "all") := by decide +kernel
theorem boot_len' : bootBuiltins "len" = some (.builtin "len") := by decide +kernel
theorem boot_str' : bootBuiltins "str" = some (.type "str") := by decide +kernel
theorem boot_int' : bootBuiltins "int" = some (.type "int") := by decide +kernel
theorem boot_bool' : bootBuiltins "bool" = some (.type "bool") := by decide +kernel
theorem boot_list' : bootBuiltins "list" = some (.type "list") := by decide +kernel
theorem boot_tuple' : bootBuiltins "tuple" = some (.type "tuple") := by decide +kernel
theorem boot_dict' : bootBuiltins "dict" = some (.type "dict") := by decide +kernel
theorem boot_set' : bootBuiltins "set" = some (.type "set") := by decide +kernel

inductive Pl (K : PySem.W.Frag) (H : Hp) : V → Prop where
  | non : Pl K H .non
  | bl (b : Bool) : Pl K H (.bl b)
  | int (i : Int) : Pl K H (.int i)
  | str (x : Str) : Pl K H (.str x)
  | lst {a : Addr} {xs : List V} (e : H a = some (.lst xs)) : Pl K H (.ref a)
  | frz {a : Addr} {o : Obj} {xs : List V} (e : H a = some (.frz o (.lst xs))) : Pl K H (.ref a)
  | tup {a : Addr} {xs : List V} (e : H a = some (.tup xs)) : Pl K H (.ref a)
  | dK {a : Addr} {kvs : List (Key × V)} (e : H a = some (.dK kvs)) : Pl K H (.ref a)
def isI : V → Bool
  | .int _ => true
  | _ => false
def isB : V → Bool
  | .bl _ => true
  | _ => false
def isS : V → Bool
  | .str _ => true
  | _ => false
theorem kit_self (K : PySem.W.Frag) (n : String) : PySem.W.kitOne K (.type n) (.type n) = some true := by
  unfold PySem.W.kitOne
  rw [if_pos (by simp)]
theorem Pl.ty {K : PySem.W.Frag} {H : Hp} {x : V} (h : Pl K H x) : ∃ t, TyOf K H x t ∧ PySem.W.kitOne K t (.type "int") = some (isI x || isB x) ∧ PySem.W.kitOne K t (.type "bool") = some (isB x) ∧ PySem.W.kitOne K t (.type "str") = some (isS x) := by
  cases h with
  | non => exact ⟨_, .non, rfl, rfl, rfl⟩
  | bl b => exact ⟨_, .bl b, rfl, kit_self _ _, rfl⟩
  | int i => exact ⟨_, .int i, kit_self _ _, rfl, rfl⟩
  | str z => exact ⟨_, .str z, rfl, rfl, kit_self _ _⟩
  | lst e => exact ⟨_, .lst e, rfl, rfl, rfl⟩
  | frz e => exact ⟨_, .frz e, rfl, rfl, rfl⟩
  | tup e => exact ⟨_, .tup e, rfl, rfl, rfl⟩
  | dK e => exact ⟨_, .dK e, rfl, rfl, rfl⟩
end L2
namespace L2
open PySem PySem.Spec PyProof.Rows
def GlobAt (mg : Str → Option Value) (x : Str) (v : V) : Prop := ∃ u, mg x = some u ∧ RelV v u
theorem pe_g {X : Cx} {x : Str} {v : V} {pos : Pos} (h : GlobAt X.mg x v) (hg : Gl X x := by rfl) (hd : (x == ("__debug__" : Str)) = false := by decide) : PE X (.Name x pos) (tC v) := by
  obtain ⟨u, hm, r⟩ := h
  exact pe_glob hg hm r hd
theorem glob_mk {K : PySem.W.Frag} {mg : Str → Option Value} {h : Heap} {x : Str} {v : V} {u : Value} (X : K.In h) (G : h.Ns mainGlobals mg) (a : PySem.W.nsIn K mainGlobals x = some (some u)) (r : RelV v u) : GlobAt mg x v := ⟨u, PySem.W.mg_of X G a, r⟩
end L2
namespace L2
open PySem PySem.Spec PyProof.Rows
def droppable : HO → Bool
  | .lst _ => true
  | .dK _ => true
  | .set _ _ => true
  | .ext _ => true
  | .rng _ _ => true
  | _ => false
def Drop (H' H'' : Hp) : Prop := ∀ b, H'' b = H' b ∨ (H'' b = none ∧ ∃ o, H' b = some o ∧ droppable o = true)
theorem Drop.refl (H : Hp) : Drop H H := fun _ => .inl rfl
theorem Drop.trans {H1 H2 H3 : Hp} (a : Drop H1 H2) (b : Drop H2 H3) : Drop H1 H3 := fun c => by
  rcases b c with e | ⟨e, o, q, d⟩
  · rcases a c with e' | ⟨e', o, q, d⟩
    · exact .inl (e.trans e')
    · exact .inr ⟨e.trans e', o, q, d⟩
  · rcases a c with e' | ⟨e', _⟩
    · exact .inr ⟨e, o, e' ▸ q, d⟩
    · rw [e'] at q; cases q
theorem Drop.new {H : Hp} {p : Addr} {o : HO} (h : H p = none) (d : droppable o = true) : Drop (upd H p o) H := fun b => by
  by_cases hb : b = p
  · subst hb
    exact .inr ⟨h, o, upd_same, d⟩
  · exact .inl (upd_ne hb).symm
theorem Drop.lst {H : Hp} {p : Addr} {xs : List V} (h : H p = none) : Drop (upd H p (.lst xs)) H := Drop.new h rfl
def dropQ (Q : VK) : VK := fun v H' => ∃ H'', Drop H' H'' ∧ Q v H''
theorem dropQ.of {Q : VK} {v : V} {H H' : Hp} (d : Drop H' H) (q : Q v H) : dropQ Q v H' := ⟨H, d, q⟩
theorem HOk.drop {P : Program} {w : World} {H' H'' : Hp} {h : Heap} (d : Drop H' H'') (ok : HOk P w H' h) : HOk P w H'' h := fun b o e => by
  have e' : H' b = some o := by
    rcases d b with z | ⟨z, _⟩
    · exact z.symm.trans e
    · rw [z] at e; cases e
  refine (ok b o e').stay (fun _ _ _ q => q) (fun c q => ?_) fun c xs q => ?_
  · rcases d c with z | ⟨_, o', z', dr⟩
    · exact z.trans q
    · rw [q] at z'; cases z'; cases dr
  · rcases d c with z | ⟨_, o', z', dr⟩
    · exact z.trans q
    · rw [q] at z'; cases z'; cases dr
theorem Un.drop {fs ex : List Addr} {H H' H'' : Hp} {h h' : Heap} (d : Drop H' H'') (u : Un fs ex H H' h h') : Un fs ex H H'' h h' where
  keep := u.keep
  slot := u.slot
  free := fun b o e n hx => by
    rcases d b with z | ⟨z, _⟩
    · exact z.trans (u.free b o e n hx)
    · exact z
  there := u.there
  tups := fun b xs e => by
    have q := u.tups b xs e
    rcases d b with z | ⟨_, o', z', dr⟩
    · exact z.trans q
    · rw [q] at z'; cases z'; cases dr
  frzs := fun b o v e => by
    have q := u.frzs b o v e
    rcases d b with z | ⟨_, o', z', dr⟩
    · exact z.trans q
    · rw [q] at z'; cases z'; cases dr
  tbls := fun b ps e => by
    obtain ⟨m, q⟩ := u.tbls b ps e
    rcases d b with z | ⟨_, o', z', dr⟩
    · exact ⟨m, z.trans q⟩
    · rw [q] at z'; cases z'; cases dr
theorem FnOk.drop {P : Program} {w : World} {K : PySem.W.Frag} {mg : Str → Option Value} {base : Heap} {k : Nat} {f : Addr} {fd : FuncData} {ps : List Str} {sp : Sp} (len : ∀ vs H Q E, sp vs H Q E → vs.length = ps.length)
    (F : FnOk P w K mg base CX0 k f fd ps (fun vs H Qd E => ∃ Q, sp vs H Q E ∧ Qd = dropQ Q)) : FnOk P w K mg base CX0 k f fd ps sp := by
  refine ⟨len, fun A outer s H args us vs Q E hr he hb hv hs => codeAny_mono (F.run A outer s H args us vs (dropQ Q) E hr he hb hv ⟨Q, hs, rfl⟩) fun r s' h => ?_⟩
  cases r with
  | error e => exact h
  | ok fl =>
    cases fl with
    | ret u =>
      obtain ⟨v, H', os, bare, un, hok, rv, H'', d, q⟩ := h
      exact ⟨v, H'', os, bare, un.drop d, hok.drop d, rv, q⟩
    | next => exact h
    | brk => exact h
    | cont => exact h
theorem DefAt.fcD {P : Program} {w : World} {K : PySem.W.Frag} {mg : Str → Option Value} {base : Heap} {x : Str} {st : Stmt} {N ps : List Str} {k : Nat} {sp : Sp} (D : DefAt K mg x st ps) (S : FnScope N ps (defScope st)) (len : ∀ vs H Q E, sp vs H Q E → vs.length = ps.length)
    (hbody : ∀ (f : Addr) (cdv : Value) (A : Around) (outer : List Env) (s : Shared) (H : Hp) (vs : List V) (Q : VK) (E : XK), Room k (A.deeper (envOfC x (defScope st) s.heap.objs.size f cdv)) → sp vs H Q E →
      ∃ t, PSs (cxOf CX0 P w K mg base N x (defScope st) f cdv A outer s H E).nox (defBody st) t ∧ t { nx := fun _ H' => dropQ Q .non H', rt := dropQ Q } (start N vs) H) : Fc P w K mg base (k + 1) x ps sp := by
  obtain ⟨f, fd, F, b, m⟩ := D.ex
  refine ⟨f, fd, FnOk.drop len (F.ok S (fun vs H Q E ⟨Q', h, _⟩ => len vs H Q' E h) fun cdv A outer s H vs Q E hr ⟨Q', h, e⟩ => ?_), b, m, F.kp⟩
  subst e
  exact hbody f cdv A outer s H vs Q' E hr h
end L2
namespace L2
open PySem PySem.Spec PyProof.Rows
theorem Same.upd {H : Hp} {p : Addr} {o : HO} (h : H p = none) : Same H (upd H p o) := fun b u e => by
  rw [upd_ne (ne_of_none e h)]
  exact e
def spLaw (K : PySem.W.Frag) : Sp := sp1 fun x H Q => ∃ (a : Addr) (ns : List Int), x = .ref a ∧ SqL K H a (ns.map V.int) ∧ ns.length ≤ 63 ∧ ∀ H', Q (.bl true) H'
theorem walk_law {l : PySem.W.OpenLaw} {q : Program} {loose : List Str} {XP : (Str → Option Value) → Heap → Prop} {YP : World → Heap → Prop} {d : DefRec} {K : Params → PySem.W.Frag} (k : Nat) (hr : Room k callerA) (hn : l.most = some 63) (hdf : d.params.defaults = [])
    (hY : ∀ (w : World) (h : Heap), YP w h → (K w.params).In h)
    (F : ∀ (w : World) (mg : Str → Option Value) (fa : Addr) (h : Heap), (K w.params).In h → h.Ns mainGlobals mg → mg d.name = some (.ref fa) →
      ∃ fd : FuncData, (∀ (s : Shared) (u : Value), BindsTo s fd ⟨[u], []⟩ [("_law_script", u)]) ∧ ∀ base : Heap, (K w.params).In base → base.Ns mainGlobals mg → FnOk l.prog w (K w.params) mg base CX0 k fa fd ["_law_script"] (spLaw (K w.params))) :
    PySem.W.WalkO q loose XP YP l.row.toRowW d [] (fun f vs => PySem.call f vs) :=
  L2.walk_of (n := 63) (k := k) (x := "_law_script") (CX := fun _ => CX0) (sp := fun w => spLaw (K w.params)) hn (by decide) hdf hr hY F (fun _ _ a ns hl _ hS => ⟨_, rfl, a, ns, rfl, hS, hl, fun _ => rfl⟩) fun _ _ _ _ _ z => z
end L2
namespace L2
open PySem PySem.Spec PyProof.Rows
theorem pe_ty {X : Cx} {x : Str} {n : String} {pos : Pos} (hm : X.mg x = none) (hv : bootBuiltins x = some (.type n)) (hg : Gl X x := by rfl) (hn : x ≠ "__name__" := by decide) (hd : (x == ("__debug__" : Str)) = false := by decide) : PE X (.Name x pos) (tC (.ty n)) :=
  pe_bltn hg hm hv rfl hn hd
end L2
namespace L2
theorem small_le {n : Nat} (h : Nat.ble n 1000 = true) : n ≤ PySem.sizeLine := Nat.le_trans (Nat.le_of_ble_eq_true h) (by decide)
end L2

namespace L2
open PySem PySem.Spec PyProof.Rows
def Ite (K : PySem.W.Frag) (a : Addr) : It where
  go := fun i H => ∃ xs x, SqL K H a xs ∧ xs[i]? = some x
  yld := fun i H v H' => ∃ p x, H p = none ∧ v = .ref p ∧ H' = upd H p (.tup [.int i, x]) ∧ ∀ ys, SqL K H a ys → ys[i]? = some x
  stop := fun i H => ∃ xs, SqL K H a xs ∧ xs.length ≤ i
end L2

namespace L2
open PySem PySem.Spec PyProof.Rows
inductive Dv where
  | non | bl (b : Bool) | int (i : Int) | str (x : Str) | lst (ds : List Dv) | tup (ds : List Dv) | dct (ks : List Key) (ds : List Dv)
mutual
def Is (H : Hp) : Dv → V → Prop
  | .non, v => v = .non
  | .bl b, v => v = .bl b
  | .int i, v => v = .int i
  | .str x, v => v = .str x
  | .lst ds, v => ∃ a vs, v = .ref a ∧ H a = some (.lst vs) ∧ IsL H ds vs
  | .tup ds, v => ∃ a vs, v = .ref a ∧ H a = some (.tup vs) ∧ IsL H ds vs
  | .dct ks ds, v => ∃ a vs, v = .ref a ∧ H a = some (.dK (ks.zip vs)) ∧ vs.length = ks.length ∧ IsL H ds vs
def IsL (H : Hp) : List Dv → List V → Prop
  | [], vs => vs = []
  | d :: ds, vs => ∃ v r, vs = v :: r ∧ Is H d v ∧ IsL H ds r
end
def isData : HO → Bool
  | .lst _ => true
  | .tup _ => true
  | .dK _ => true
  | _ => false
def SameD (H H' : Hp) : Prop := ∀ b o, H b = some o → isData o = true → H' b = some o
mutual
theorem Is.sameD {H H' : Hp} (S : SameD H H') : ∀ (d : Dv) (v : V), Is H d v → Is H' d v
  | .non, _, h => h
  | .bl _, _, h => h
  | .int _, _, h => h
  | .str _, _, h => h
  | .lst ds, _, ⟨a, vs, e, o, h⟩ => ⟨a, vs, e, S _ _ o rfl, IsL.sameD S ds vs h⟩
  | .tup ds, _, ⟨a, vs, e, o, h⟩ => ⟨a, vs, e, S _ _ o rfl, IsL.sameD S ds vs h⟩
  | .dct ks ds, _, ⟨a, vs, e, o, l, h⟩ => ⟨a, vs, e, S _ _ o rfl, l, IsL.sameD S ds vs h⟩
theorem IsL.sameD {H H' : Hp} (S : SameD H H') : ∀ (ds : List Dv) (vs : List V), IsL H ds vs → IsL H' ds vs
  | [], _, h => h
  | d :: ds, _, ⟨v, r, e, h, t⟩ => ⟨v, r, e, Is.sameD S d v h, IsL.sameD S ds r t⟩
end
theorem Is.same {H H' : Hp} (S : Same H H') (d : Dv) (v : V) (h : Is H d v) : Is H' d v := Is.sameD (fun b o e _ => S b o e) d v h
theorem IsL.same {H H' : Hp} (S : Same H H') (ds : List Dv) (vs : List V) (h : IsL H ds vs) : IsL H' ds vs := IsL.sameD (fun b o e _ => S b o e) ds vs h
mutual
def hard : Dv → Bool
  | .lst _ => false
  | .dct _ _ => false
  | .tup ds => hardL ds
  | _ => true
def hardL : List Dv → Bool
  | [] => true
  | d :: ds => hard d && hardL ds
end
def KeepT (H H' : Hp) : Prop := ∀ a xs, H a = some (.tup xs) → H' a = some (.tup xs)
mutual
theorem Is.keep {H H' : Hp} (S : KeepT H H') : ∀ (d : Dv) (v : V), hard d = true → Is H d v → Is H' d v
  | .non, _, _, h => h
  | .bl _, _, _, h => h
  | .int _, _, _, h => h
  | .str _, _, _, h => h
  | .lst ds, _, f, _ => by cases f
  | .tup ds, _, f, ⟨a, vs, e, o, h⟩ => ⟨a, vs, e, S _ _ o, IsL.keep S ds vs f h⟩
  | .dct ks ds, _, f, _ => by cases f
theorem IsL.keep {H H' : Hp} (S : KeepT H H') : ∀ (ds : List Dv) (vs : List V), hardL ds = true → IsL H ds vs → IsL H' ds vs
  | [], _, _, h => h
  | d :: ds, _, f, ⟨v, r, e, h, t⟩ => ⟨v, r, e, Is.keep S d v (Bool.and_eq_true_iff.mp f).1 h, IsL.keep S ds r (Bool.and_eq_true_iff.mp f).2 t⟩
end
mutual
def deq : Dv → Dv → Bool
  | .non, .non => true
  | .bl a, .bl b => a == b
  | .bl a, .int b => (if a then 1 else 0) == b
  | .int a, .bl b => a == (if b then 1 else 0)
  | .int a, .int b => a == b
  | .str a, .str b => a == b
  | .lst a, .lst b => deqL a b
  | .tup a, .tup b => deqL a b
  | _, _ => false
def deqL : List Dv → List Dv → Bool
  | [], [] => true
  | a :: r, b :: q => deq a b && deqL r q
  | _, _ => false
end
mutual
def flatTo : Nat → Dv → Bool
  | _, .dct _ _ => false
  | 0, .lst _ => false
  | 0, .tup _ => false
  | n + 1, .lst ds => flatToL n ds
  | n + 1, .tup ds => flatToL n ds
  | _, _ => true
def flatToL : Nat → List Dv → Bool
  | _, [] => true
  | n, d :: ds => flatTo n d && flatToL n ds
end
mutual
theorem deq_refl : ∀ (n : Nat) (d : Dv), flatTo n d = true → deq d d = true
  | _, .non, _ => rfl
  | _, .bl b, _ => beq_self_eq_true b
  | _, .int i, _ => beq_self_eq_true i
  | _, .str x, _ => beq_self_eq_true x
  | 0, .lst ds, f => by simp [flatTo] at f
  | 0, .tup ds, f => by simp [flatTo] at f
  | n + 1, .lst ds, f => deqL_refl n ds (by simpa [flatTo] using f)
  | n + 1, .tup ds, f => deqL_refl n ds (by simpa [flatTo] using f)
  | n, .dct ks ds, f => by simp [flatTo] at f
theorem deqL_refl : ∀ (n : Nat) (ds : List Dv), flatToL n ds = true → deqL ds ds = true
  | _, [], _ => rfl
  | n, d :: ds, f => by
    rw [flatToL, Bool.and_eq_true] at f
    show (deq d d && deqL ds ds) = true
    rw [deq_refl n d f.1, deqL_refl n ds f.2]; rfl
end
theorem IsL.length {H : Hp} : ∀ {ds : List Dv} {vs : List V}, IsL H ds vs → vs.length = ds.length
  | [], _, h => by rw [show _ = [] from h]; rfl
  | d :: ds, _, ⟨v, r, e, _, t⟩ => by rw [e, List.length_cons, List.length_cons, IsL.length t]
mutual
theorem Is.inj {H : Hp} : ∀ (d e : Dv) (v : V), Is H d v → Is H e v → (∃ n, flatTo n d = true) → (∃ n, flatTo n e = true) → d = e
  | .non, e, v, h, h', _, _ => by
    cases e <;> simp_all [Is]
  | .bl b, e, v, h, h', _, _ => by
    cases e <;> simp_all [Is]
  | .int b, e, v, h, h', _, _ => by
    cases e <;> simp_all [Is]
  | .str b, e, v, h, h', _, _ => by
    cases e <;> simp_all [Is]
  | .lst ds, e, v, ⟨a, vs, q, o, h⟩, h', ⟨n, f⟩, ⟨m, g⟩ => by
    subst q
    cases e with
    | lst es =>
      obtain ⟨a', vs', q', o', h'⟩ := h'
      cases q'
      rw [o] at o'
      cases o'
      cases n with
      | zero => simp [flatTo] at f
      | succ n =>
        cases m with
        | zero => simp [flatTo] at g
        | succ m => rw [IsL.inj ds es vs h h' ⟨n, by simpa [flatTo] using f⟩ ⟨m, by simpa [flatTo] using g⟩]
    | tup es =>
      obtain ⟨a', vs', q', o', h'⟩ := h'
      cases q'
      rw [o] at o'
      cases o'
    | dct ks es => simp [flatTo] at g
    | _ => simp_all [Is]
  | .tup ds, e, v, ⟨a, vs, q, o, h⟩, h', ⟨n, f⟩, ⟨m, g⟩ => by
    subst q
    cases e with
    | tup es =>
      obtain ⟨a', vs', q', o', h'⟩ := h'
      cases q'
      rw [o] at o'
      cases o'
      cases n with
      | zero => simp [flatTo] at f
      | succ n =>
        cases m with
        | zero => simp [flatTo] at g
        | succ m => rw [IsL.inj ds es vs h h' ⟨n, by simpa [flatTo] using f⟩ ⟨m, by simpa [flatTo] using g⟩]
    | lst es =>
      obtain ⟨a', vs', q', o', h'⟩ := h'
      cases q'
      rw [o] at o'
      cases o'
    | dct ks es => simp [flatTo] at g
    | _ => simp_all [Is]
  | .dct ks ds, e, v, _, h', ⟨n, f⟩, _ => by simp [flatTo] at f
theorem IsL.inj {H : Hp} : ∀ (ds es : List Dv) (vs : List V), IsL H ds vs → IsL H es vs → (∃ n, flatToL n ds = true) → (∃ n, flatToL n es = true) → ds = es
  | [], es, vs, h, h', _, _ => by
    rw [show vs = [] from h] at h'
    cases es with
    | nil => rfl
    | cons e es => obtain ⟨v, r, q, _⟩ := h'; cases q
  | d :: ds, es, vs, ⟨v, r, q, h, t⟩, h', ⟨n, f⟩, ⟨m, g⟩ => by
    subst q
    cases es with
    | nil => cases (show v :: r = [] from h')
    | cons e es =>
      obtain ⟨v', r', q', h', t'⟩ := h'
      cases q'
      rw [flatToL, Bool.and_eq_true] at f g
      rw [Is.inj d e v h h' ⟨n, f.1⟩ ⟨m, g.1⟩, IsL.inj ds es r t t' ⟨n, f.2⟩ ⟨m, g.2⟩]
end
theorem IsL.get {H : Hp} : ∀ {ds : List Dv} {vs : List V} {i : Nat} {d : Dv}, IsL H ds vs → ds[i]? = some d → ∃ v, vs[i]? = some v ∧ Is H d v
  | [], _, _, _, _, e => by simp at e
  | d :: ds, _, 0, d', ⟨v, r, e, h, t⟩, q => by
    simp at q
    subst q e
    exact ⟨v, rfl, h⟩
  | d :: ds, _, i + 1, d', ⟨v, r, e, h, t⟩, q => by
    subst e
    obtain ⟨u, h1, h2⟩ := IsL.get (i := i) t (by simpa using q)
    exact ⟨u, by simpa using h1, h2⟩
theorem deqL_range : ∀ (ds es : List Dv), ds.length = es.length → (List.range ds.length).all (fun j => deq (ds.getD j .non) (es.getD j .non)) = deqL ds es
  | [], [], _ => rfl
  | d :: ds, e :: es, h => by
    have ih := deqL_range ds es (by simpa using h)
    rw [List.length_cons, List.range_succ_eq_map, List.all_cons, List.all_map]
    show (deq d e && (List.range ds.length).all (fun j => deq (ds.getD j .non) (es.getD j .non))) = (deq d e && deqL ds es)
    rw [ih]
  | [], _ :: _, h => by simp at h
  | _ :: _, [], h => by simp at h
theorem deqL_len : ∀ (ds es : List Dv), ds.length ≠ es.length → deqL ds es = false
  | [], [], h => absurd rfl h
  | d :: ds, e :: es, h => by
    show (deq d e && deqL ds es) = false
    rw [deqL_len ds es (fun q => h (by simp [q]))]
    simp
  | [], _ :: _, _ => rfl
  | _ :: _, [], _ => rfl
theorem flatToL_get : ∀ {n : Nat} {ds : List Dv} {i : Nat} {d : Dv}, flatToL n ds = true → ds[i]? = some d → flatTo n d = true
  | n, [], _, _, _, e => by simp at e
  | n, d :: ds, 0, d', f, e => by
    simp at e
    subst e
    rw [flatToL, Bool.and_eq_true] at f
    exact f.1
  | n, d :: ds, i + 1, d', f, e => by
    rw [flatToL, Bool.and_eq_true] at f
    exact flatToL_get (i := i) f.2 (by simpa using e)
theorem IsL.snoc {H : Hp} {d : Dv} {v : V} (h : Is H d v) : ∀ {ds : List Dv} {vs : List V}, IsL H ds vs → IsL H (ds ++ [d]) (vs ++ [v])
  | [], _, e => by
    rw [show _ = [] from e]
    exact ⟨v, [], rfl, h, rfl⟩
  | d' :: ds, _, ⟨v', r, e, h', t⟩ => by
    subst e
    exact ⟨v', r ++ [v], rfl, h', IsL.snoc h t⟩
theorem IsL.rev {H : Hp} : ∀ {ds : List Dv} {vs : List V}, IsL H ds vs → IsL H ds.reverse vs.reverse
  | [], _, e => by rw [show _ = [] from e]; exact rfl
  | d :: ds, _, ⟨v, r, e, h, t⟩ => by
    subst e
    rw [List.reverse_cons, List.reverse_cons]
    exact IsL.snoc h (IsL.rev t)
theorem hardL_of : ∀ {ds : List Dv}, (∀ d ∈ ds, hard d = true) → hardL ds = true
  | [], _ => rfl
  | d :: ds, h => by
    rw [hardL, h d List.mem_cons_self, hardL_of fun e m => h e (List.mem_cons_of_mem _ m)]
    rfl
theorem KeepT.lst {H : Hp} {l : Addr} {xs : List V} {o : HO} (h : H l = some (.lst xs)) : KeepT H (upd H l o) := fun a ys e => by
  have : a ≠ l := ne_of e h (by intro z; cases z)
  rw [upd_ne this]
  exact e
theorem Same.over {H H' : Hp} {l : Addr} {o : HO} (S : Same H H') (hl : H l = none) : Same H (L2.upd H' l o) := fun b u e => by
  rw [upd_ne (ne_of_none e hl)]
  exact S b u e
theorem flatToL_of {n : Nat} : ∀ {ds : List Dv}, (∀ d ∈ ds, flatTo n d = true) → flatToL n ds = true
  | [], _ => by rw [flatToL]
  | d :: ds, h => by
    rw [flatToL, h d List.mem_cons_self, flatToL_of fun e m => h e (List.mem_cons_of_mem _ m)]
    rfl
inductive View (s : Shared) (H : Hp) : Dv → Value → Prop where
  | non : View s H .non .none
  | bl (b : Bool) : View s H (.bl b) (.bool b)
  | int (i : Int) (t : Tok) : View s H (.int i) (.int i t)
  | str (x : Str) (t : Tok) : View s H (.str x) (.str x t)
  | lst {ds : List Dv} {l : Addr} {its : List Value} {vs : List V} (hl : s.heap.IsList l its.toArray) (r : Vals vs its) (h : IsL H ds vs) : View s H (.lst ds) (.ref l)
  | tup {ds : List Dv} {l : Addr} {its : List Value} {vs : List V} (hl : s.heap.IsTuple l its.toArray) (r : Vals vs its) (h : IsL H ds vs) : View s H (.tup ds) (.ref l)
section
variable {X : Cx} {pins : List (Addr × Obj)} {σ : St} {H : Hp} {s : Shared}
theorem Is.view (I : Inv X pins σ H s) {n : Nat} {d : Dv} {v : V} {u : Value} (f : flatTo n d = true) (h : Is H d v) (r : RelV v u) : View s H d u := by
  cases d with
  | non => cases (show v = .non from h); cases r; exact .non
  | bl b => cases (show v = .bl b from h); cases r; exact .bl b
  | int b => cases (show v = .int b from h); obtain ⟨t, rfl⟩ := r; exact .int b t
  | str b => cases (show v = .str b from h); obtain ⟨t, rfl⟩ := r; exact .str b t
  | lst ds =>
    obtain ⟨a, vs, rfl, o, h⟩ := h
    cases r
    obtain ⟨its, rv, pl, hz⟩ := I.list (SqL.of o)
    exact .lst pl.isList rv h
  | tup ds =>
    obtain ⟨a, vs, rfl, o, h⟩ := h
    cases r
    obtain ⟨its, rv, pl, hz⟩ := I.tuple (SqT.of o)
    exact .tup pl rv h
  | dct ks ds => simp [flatTo] at f
open PySem.SeqAt in
theorem items_eqAt {n : Nat} {A : Around} (hu : A.units + n < cLine)
    (ih : ∀ (d e : Dv) (v v' : V) (u u' : Value) (A : Around), A.units + n < cLine → flatTo n d = true → flatTo n e = true → Is H d v → Is H e v' → RelV v u → RelV v' u' → EqAt A s u u' (deq d e))
    {ds es : List Dv} {vs vs' : List V} {its its' : List Value} (f : flatToL n ds = true) (g : flatToL n es = true) (h : IsL H ds vs) (h' : IsL H es vs') (r : Vals vs its) (r' : Vals vs' its')
    (j : Nat) (h1 : j < its.toArray.size) (h2 : j < its'.toArray.size) : EqAt A s its.toArray[j] its'.toArray[j] (deq (ds.getD j .non) (es.getD j .non)) := by
  have l1 := r.length
  have l2 := r'.length
  have l3 := h.length
  have l4 := h'.length
  rw [List.size_toArray] at h1 h2
  have e1 : ds[j]? = some (ds.getD j .non) := by
    rw [List.getD_eq_getElem?_getD, List.getElem?_eq_getElem (by omega)]; rfl
  have e2 : es[j]? = some (es.getD j .non) := by
    rw [List.getD_eq_getElem?_getD, List.getElem?_eq_getElem (by omega)]; rfl
  obtain ⟨v, q1, i1⟩ := h.get e1
  obtain ⟨v', q2, i2⟩ := h'.get e2
  obtain ⟨u, p1, k1⟩ := r.get q1
  obtain ⟨u', p2, k2⟩ := r'.get q2
  have z1 : its.toArray[j] = u := by
    have := List.getElem?_eq_some_iff.mp p1
    obtain ⟨_, e⟩ := this
    simpa using e
  have z2 : its'.toArray[j] = u' := by
    have := List.getElem?_eq_some_iff.mp p2
    obtain ⟨_, e⟩ := this
    simpa using e
  rw [z1, z2]
  exact ih _ _ v v' u u' A hu (flatToL_get f e1) (flatToL_get g e2) i1 i2 k1 k2
open PySem.SeqAt in
theorem rc_of (I : Inv X pins σ H s) {n : Nat}
    (ih : ∀ (d e : Dv) (v v' : V) (u u' : Value) (A : Around), A.units + n < cLine → flatTo n d = true → flatTo n e = true → Is H d v → Is H e v' → RelV v u → RelV v' u' → EqAt A s u u' (deq d e))
    (d e : Dv) (v v' : V) (u u' : Value) (A : Around) (hu : A.units + (n + 1) < cLine) (f : flatTo (n + 1) d = true) (g : flatTo (n + 1) e = true) (h : Is H d v) (h' : Is H e v') (r : RelV v u) (r' : RelV v' u') :
    RcAt A s u u' (deq d e) ∧ RcNeAt A s u u' (!deq d e) := by
  have hu0 : A.units < cLine := by omega
  have hu1 : A.in1.units + n < cLine := by show A.units + 1 + n < cLine; omega
  have w := Is.view I f h r
  have w' := Is.view I g h' r'
  cases w with
  | non =>
    cases w' with
    | non => exact ⟨RcAt.none_none, RcNeAt.none_none⟩
    | bl b => exact ⟨RcAt.none_bool _, RcNeAt.none_bool _⟩
    | int b t => exact ⟨RcAt.none_int _ _, RcNeAt.none_int _ _⟩
    | str b t => exact ⟨RcAt.none_str _ _, RcNeAt.none_str _ _⟩
    | lst hl _ _ => exact ⟨RcAt.none_list hl hu0, RcNeAt.none_list hl hu0⟩
    | tup hl _ _ => exact ⟨RcAt.none_tuple hl hu0, RcNeAt.none_tuple hl hu0⟩
  | bl a =>
    cases w' with
    | non => exact ⟨RcAt.bool_none _, RcNeAt.bool_none _⟩
    | bl b => exact ⟨RcAt.bool_bool _ _, RcNeAt.bool_bool _ _⟩
    | int b t => exact ⟨RcAt.bool_int _ _ _, RcNeAt.bool_int _ _ _⟩
    | str b t => exact ⟨RcAt.bool_str _ _ _, RcNeAt.bool_str _ _ _⟩
    | lst hl _ _ => exact ⟨RcAt.bool_list _ hl hu0, RcNeAt.bool_list _ hl hu0⟩
    | tup hl _ _ => exact ⟨RcAt.bool_tuple _ hl hu0, RcNeAt.bool_tuple _ hl hu0⟩
  | int a t =>
    cases w' with
    | non => exact ⟨RcAt.int_none _ _, RcNeAt.int_none _ _⟩
    | bl b => exact ⟨RcAt.int_bool _ _ _, RcNeAt.int_bool _ _ _⟩
    | int b t => exact ⟨RcAt.int_int _ _ _ _, RcNeAt.int_int _ _ _ _⟩
    | str b t => exact ⟨RcAt.int_str _ _ _ _, RcNeAt.int_str _ _ _ _⟩
    | lst hl _ _ => exact ⟨RcAt.int_list _ _ hl hu0, RcNeAt.int_list _ _ hl hu0⟩
    | tup hl _ _ => exact ⟨RcAt.int_tuple _ _ hl hu0, RcNeAt.int_tuple _ _ hl hu0⟩
  | str a t =>
    cases w' with
    | non => exact ⟨RcAt.str_none _ _, RcNeAt.str_none _ _⟩
    | bl b => exact ⟨RcAt.str_bool _ _ _, RcNeAt.str_bool _ _ _⟩
    | int b t => exact ⟨RcAt.str_int _ _ _ _, RcNeAt.str_int _ _ _ _⟩
    | str b t => exact ⟨RcAt.str_str _ _ _ _, RcNeAt.str_str _ _ _ _⟩
    | lst hl _ _ => exact ⟨RcAt.str_list _ _ hl hu0, RcNeAt.str_list _ _ hl hu0⟩
    | tup hl _ _ => exact ⟨RcAt.str_tuple _ _ hl hu0, RcNeAt.str_tuple _ _ hl hu0⟩
  | @lst ds l its vs hl rv hi =>
    cases w' with
    | non => exact ⟨RcAt.list_none hl hu0, RcNeAt.list_none hl hu0⟩
    | bl b => exact ⟨RcAt.list_bool _ hl hu0, RcNeAt.list_bool _ hl hu0⟩
    | int b t => exact ⟨RcAt.list_int _ _ hl hu0, RcNeAt.list_int _ _ hl hu0⟩
    | str b t => exact ⟨RcAt.list_str _ _ hl hu0, RcNeAt.list_str _ _ hl hu0⟩
    | @lst es l' its' vs' hl' rv' hi' =>
      have f' : flatToL n ds = true := by simpa [flatTo] using f
      have g' : flatToL n es = true := by simpa [flatTo] using g
      have l1 := rv.length
      have l2 := rv'.length
      have l3 := hi.length
      have l4 := hi'.length
      by_cases hq : ds.length = es.length
      · have hsz : its.toArray.size = its'.toArray.size := by rw [List.size_toArray, List.size_toArray]; omega
        have key : (List.range its.toArray.size).all (fun j => deq (ds.getD j .non) (es.getD j .non)) = deq (.lst ds) (.lst es) := by
          rw [List.size_toArray, show its.length = ds.length by omega]
          exact deqL_range ds es hq
        rw [← key]
        exact ⟨RcAt.lists hl hl' hsz hu0 (items_eqAt hu1 ih f' g' hi hi' rv rv'), RcNeAt.lists hl hl' hsz hu0 (items_eqAt hu1 ih f' g' hi hi' rv rv')⟩
      · have key : deq (.lst ds) (.lst es) = false := deqL_len ds es hq
        have hsz : (its.toArray.size != its'.toArray.size) = true := by
          rw [List.size_toArray, List.size_toArray, bne_iff_ne]; omega
        rw [key]
        exact ⟨RcAt.lists_lengths hl hl' hsz hu0, RcNeAt.lists_lengths hl hl' hsz hu0⟩
    | tup hl' _ _ => exact ⟨RcAt.list_tuple hl hl' hu0, RcNeAt.list_tuple hl hl' hu0⟩
  | @tup ds l its vs hl rv hi =>
    cases w' with
    | non => exact ⟨RcAt.tuple_none hl hu0, RcNeAt.tuple_none hl hu0⟩
    | bl b => exact ⟨RcAt.tuple_bool _ hl hu0, RcNeAt.tuple_bool _ hl hu0⟩
    | int b t => exact ⟨RcAt.tuple_int _ _ hl hu0, RcNeAt.tuple_int _ _ hl hu0⟩
    | str b t => exact ⟨RcAt.tuple_str _ _ hl hu0, RcNeAt.tuple_str _ _ hl hu0⟩
    | lst hl' _ _ => exact ⟨RcAt.tuple_list hl hl' hu0, RcNeAt.tuple_list hl hl' hu0⟩
    | @tup es l' its' vs' hl' rv' hi' =>
      have f' : flatToL n ds = true := by simpa [flatTo] using f
      have g' : flatToL n es = true := by simpa [flatTo] using g
      have l1 := rv.length
      have l2 := rv'.length
      have l3 := hi.length
      have l4 := hi'.length
      have key : ((List.range (min its.toArray.size its'.toArray.size)).all (fun j => deq (ds.getD j .non) (es.getD j .non)) && its.toArray.size == its'.toArray.size) = deq (.tup ds) (.tup es) := by
        rw [List.size_toArray, List.size_toArray, show its.length = ds.length by omega, show its'.length = es.length by omega]
        show _ = deqL ds es
        by_cases hq : ds.length = es.length
        · rw [← hq, Nat.min_self, deqL_range ds es hq]
          simp
        · rw [deqL_len ds es hq, beq_eq_false_iff_ne.mpr hq]
          simp
      rw [← key]
      exact ⟨RcAt.tuples hl hl' hu0 (items_eqAt hu1 ih f' g' hi hi' rv rv'), RcNeAt.tuples hl hl' hu0 (items_eqAt hu1 ih f' g' hi hi' rv rv')⟩
open PySem.SeqAt in
theorem Is.eqAt (I : Inv X pins σ H s) : ∀ (n : Nat) (d e : Dv) (v v' : V) (u u' : Value) (A : Around), A.units + n < cLine → flatTo n d = true → flatTo n e = true → Is H d v → Is H e v' → RelV v u → RelV v' u' → EqAt A s u u' (deq d e) := by
  intro n
  induction n with
  | zero =>
    intro d e v v' u u' A hu f g h h' r r'
    cases d with
    | lst _ => simp [flatTo] at f
    | tup _ => simp [flatTo] at f
    | dct _ _ => simp [flatTo] at f
    | non =>
      cases e with
      | lst _ => simp [flatTo] at g
      | tup _ => simp [flatTo] at g
      | dct _ _ => simp [flatTo] at g
      | _ => cases h; cases h'; exact eqAt_V r r' rfl rfl
    | bl b =>
      cases e with
      | lst _ => simp [flatTo] at g
      | tup _ => simp [flatTo] at g
      | dct _ _ => simp [flatTo] at g
      | _ => cases h; cases h'; exact eqAt_V r r' rfl rfl
    | int b =>
      cases e with
      | lst _ => simp [flatTo] at g
      | tup _ => simp [flatTo] at g
      | dct _ _ => simp [flatTo] at g
      | _ => cases h; cases h'; exact eqAt_V r r' rfl rfl
    | str b =>
      cases e with
      | lst _ => simp [flatTo] at g
      | tup _ => simp [flatTo] at g
      | dct _ _ => simp [flatTo] at g
      | _ => cases h; cases h'; exact eqAt_V r r' rfl rfl
  | succ n ih =>
    intro d e v v' u u' A hu f g h h' r r'
    have rc := (rc_of I ih d e v v' u u' A hu f g h h' r r').1
    have w := Is.view I f h r
    have w' := Is.view I g h' r'
    have fin : ∀ (l l' : Addr), u = .ref l → u' = .ref l' → EqAt A s u u' (deq d e) := by
      rintro l l' rfl rfl
      by_cases hq : l = l'
      · subst hq
        have e1 : v = .ref l := r.inj (show RelV (.ref l) (.ref l) from rfl)
        have e2 : v' = .ref l := r'.inj (show RelV (.ref l) (.ref l) from rfl)
        subst e1 e2
        have e3 := Is.inj d e _ h h' ⟨_, f⟩ ⟨_, g⟩
        subst e3
        rw [deq_refl _ d f]
        exact EqAt.same _
      · exact EqAt.of_refs hq rc
    cases w with
    | lst hl _ _ =>
      cases w' with
      | lst hl' _ _ => exact fin _ _ rfl rfl
      | tup hl' _ _ => exact fin _ _ rfl rfl
      | non => exact EqAt.list_none hl (by omega)
      | bl b => exact EqAt.list_bool _ hl (by omega)
      | int b t => exact EqAt.list_int _ _ hl (by omega)
      | str b t => exact EqAt.list_str _ _ hl (by omega)
    | tup hl _ _ =>
      cases w' with
      | lst hl' _ _ => exact fin _ _ rfl rfl
      | tup hl' _ _ => exact fin _ _ rfl rfl
      | non => exact EqAt.tuple_none hl (by omega)
      | bl b => exact EqAt.tuple_bool _ hl (by omega)
      | int b t => exact EqAt.tuple_int _ _ hl (by omega)
      | str b t => exact EqAt.tuple_str _ _ hl (by omega)
    | non =>
      cases w' with
      | lst hl' _ _ => exact EqAt.none_list hl' (by omega)
      | tup hl' _ _ => exact EqAt.none_tuple hl' (by omega)
      | _ => cases h; cases h'; exact eqAt_V r r' rfl rfl
    | bl b =>
      cases w' with
      | lst hl' _ _ => exact EqAt.bool_list _ hl' (by omega)
      | tup hl' _ _ => exact EqAt.bool_tuple _ hl' (by omega)
      | _ => cases h; cases h'; exact eqAt_V r r' rfl rfl
    | int b t =>
      cases w' with
      | lst hl' _ _ => exact EqAt.int_list _ _ hl' (by omega)
      | tup hl' _ _ => exact EqAt.int_tuple _ _ hl' (by omega)
      | _ => cases h; cases h'; exact eqAt_V r r' rfl rfl
    | str b t =>
      cases w' with
      | lst hl' _ _ => exact EqAt.str_list _ _ hl' (by omega)
      | tup hl' _ _ => exact EqAt.str_tuple _ _ hl' (by omega)
      | _ => cases h; cases h'; exact eqAt_V r r' rfl rfl
end
def rEqD (neg : Bool) : R2 := fun x y H Q => ∃ d e, Is H d x ∧ Is H e y ∧ flatTo 30 d = true ∧ flatTo 30 e = true ∧ Q (.bl (if neg then !deq d e else deq d e)) H
theorem op_neD {X : Cx} (hu : X.A.units + 64 < cLine) : OpR X (compareOp .NotEq) (rEqD true) := by
  intro pins s σ H x y v u Q I rx ry h
  obtain ⟨d, e, h, h', f, g, q⟩ := h
  exact (rc_of (n := 29) I (Is.eqAt I 29) d e x y v u X.A (by omega) f g h h' rx ry).2 _ _ _ _ ⟨.bl _, H, I, rfl, q⟩
end L2

namespace L2
open PySem PySem.Spec PyProof.Rows
instance keyMem (k : Key) (l : List Key) : Decidable (k ∈ l) := decidable_of_iff (l.any (fun x => decide (x = k)) = true) (by simp)
def metK (key : Nat → Key) : Nat → List Key
  | 0 => []
  | i + 1 => if key i ∈ metK key i then metK key i else metK key i ++ [key i]
theorem metK_le (key : Nat → Key) : ∀ i, (metK key i).length ≤ i
  | 0 => Nat.le_refl _
  | i + 1 => by
    have ih := metK_le key i
    show (if key i ∈ metK key i then metK key i else metK key i ++ [key i]).length ≤ i + 1
    split
    · omega
    · rw [List.length_append, List.length_singleton]; omega
theorem metK_mem (key : Nat → Key) (k : Key) : ∀ i, k ∈ metK key i ↔ ∃ j, j < i ∧ key j = k
  | 0 => by
    constructor
    · intro h; cases h
    · rintro ⟨j, h, _⟩; omega
  | i + 1 => by
    have ih := metK_mem key k i
    show k ∈ (if key i ∈ metK key i then metK key i else metK key i ++ [key i]) ↔ _
    have step : (k ∈ metK key i ∨ k = key i) ↔ ∃ j, j < i + 1 ∧ key j = k := by
      rw [ih]
      constructor
      · rintro (⟨j, h, e⟩ | e)
        · exact ⟨j, by omega, e⟩
        · exact ⟨i, by omega, e.symm⟩
      · rintro ⟨j, h, e⟩
        by_cases hj : j = i
        · subst hj; exact .inr e.symm
        · exact .inl ⟨j, by omega, e⟩
    rw [← step]
    split
    · rename_i h
      constructor
      · exact .inl
      · rintro (h' | rfl)
        · exact h'
        · exact h
    · rw [List.mem_append, List.mem_singleton]
theorem metK_full (key : Nat → Key) : ∀ n, (metK key n).length = n ↔ ∀ i j, i < j → j < n → key i ≠ key j
  | 0 => ⟨fun _ i j _ h => absurd h (Nat.not_lt_zero _), fun _ => rfl⟩
  | n + 1 => by
    have ih := metK_full key n
    have le := metK_le key n
    have mm := metK_mem key (key n) n
    show (if key n ∈ metK key n then metK key n else metK key n ++ [key n]).length = n + 1 ↔ _
    split
    · rename_i h
      constructor
      · intro e; omega
      · intro e
        obtain ⟨j, hj, q⟩ := mm.mp h
        exact absurd q (e j n hj (Nat.lt_succ_self n))
    · rename_i h
      rw [List.length_append, List.length_singleton, Nat.add_right_cancel_iff, ih]
      constructor
      · intro e i j hi hj
        by_cases q : j = n
        · subst q
          exact fun z => h (mm.mpr ⟨i, hi, z⟩)
        · exact e i j hi (by omega)
      · intro e i j hi hj
        exact e i j hi (by omega)
def dedK (ks : List Key) : List Key := metK (fun i => ks.getD i (.inl 0)) ks.length
theorem dedK_full (ks : List Key) : (dedK ks).length = ks.length ↔ ks.Nodup := by
  unfold dedK
  rw [metK_full, List.nodup_iff_pairwise_ne, List.pairwise_iff_getElem]
  constructor
  · intro h i j hi hj hij
    have := h i j hij hj
    simpa [List.getD_eq_getElem?_getD, hi, hj] using this
  · intro h i j hij hj
    have hi : i < ks.length := by omega
    have := h i j hi hj hij
    simpa [List.getD_eq_getElem?_getD, hi, hj] using this
theorem dedK_le (ks : List Key) : (dedK ks).length ≤ ks.length := metK_le _ _
def SetO (P : Program) (w : World) (a : Addr) (S : Key → Bool) (n : Nat) : HO := .ext fun h => h.SetOf (mixKind P w) a S n
theorem SetO.ok {P : Program} {w : World} {H : Hp} {h : Heap} {a : Addr} {S : Key → Bool} {n : Nat} (x : h.SetOf (mixKind P w) a S n) : ObjOk P w H h a (SetO P w a S n) :=
  ⟨x, let ⟨o, _, _, _, ho, _⟩ := x; ⟨o, ho⟩, fun _ _ ⟨o, es, ep, t, ho, r⟩ k => ⟨o, es, ep, t, k o ho, r⟩⟩
theorem key_scan {P : Program} {w : World} {k : Key} {v : Value} (h : (mixKind P w).is k v = true) : v.scannable = true := by
  rcases keyIs_shape h with ⟨i, t, rfl, rfl⟩ | ⟨x, t, rfl, rfl⟩ <;> rfl
section
variable {P : Program} {w : World} {A : Around} {R : Result → Shared → Prop} {I : Addr} {fp wr : List Addr} {G : Array GenState → Array GenState → Prop} {n : Nat} {Pv : Nat → Value → Prop} {Stt : Nat → Shared → Prop}
theorem setO_congr {h : Heap} {a : Addr} {S S' : Key → Bool} {n n' : Nat} (x : h.SetOf (mixKind P w) a S n) (e : ∀ k, S k = S' k) (q : n = n') : h.SetOf (mixKind P w) a S' n' := by
  obtain rfl : S = S' := funext e
  subst q
  exact x
theorem set_loop (W : WalksS P w A.in1 I fp wr G n Pv Stt) (D : Addr) (hD : D ∉ fp) (key : Nat → Key) (hv : ∀ i v, Pv i v → (mixKind P w).is (key i) v = true) (hb : n + 1 < scanBound) (fin : ∀ s s', Moved (D :: wr) G s s' → s'.heap.SetOf (mixKind P w) D (fun k => decide (k ∈ metK key n)) (metK key n).length → True) :
    ∀ (m i : Nat) (s : Shared), n - i = m → i ≤ n → Stt i s → s.heap.SetOf (mixKind P w) D (fun k => decide (k ∈ metK key i)) (metK key i).length →
      (∀ s', Moved (D :: wr) G s s' → s'.heap.SetOf (mixKind P w) D (fun k => decide (k ∈ metK key n)) (metK key n).length → R (.ok (.ret .none)) s') →
      codeAny (model P w) A (.builtin "set.update.loop" ⟨[.ref D, .ref I], []⟩) R s := by
  have hDw : D ∉ wr := fun z => hD (W.sub _ z)
  have sub : ∀ b ∈ wr, b ∈ D :: wr := fun b z => List.mem_cons_of_mem _ z
  have moved : ∀ {s s' : Shared} {S : Key → Bool} {c : Nat}, Moved wr G s s' → s.heap.SetOf (mixKind P w) D S c → s'.heap.SetOf (mixKind P w) D S c := fun mv ⟨o, es, ep, t, ho, r⟩ => ⟨o, es, ep, t, mv.heap D _ hDw ho, r⟩
  intro m
  induction m with
  | zero =>
    intro i s e1 e2 st hS hR
    obtain rfl : i = n := by omega
    refine codeAny_builtin PyProof.Rows.F.entry_set_update_loop ?_
    rw [Around.under_plainId PyProof.Rows.F.plain_set_update_loop _]
    show wpAny _ A.in1 (pyNext (.ref I) >>= _) _ _ s
    refine wpAny_bind (W.done s _ _ st fun s' mv => ?_)
    exact wpAny_pure (hR s' (mv.mono sub) (moved mv hS))
  | succ m ih =>
    intro i s e1 e2 st hS hR
    have lt : i < n := by omega
    refine codeAny_builtin PyProof.Rows.F.entry_set_update_loop ?_
    rw [Around.under_plainId PyProof.Rows.F.plain_set_update_loop _]
    show wpAny _ A.in1 (pyNext (.ref I) >>= _) _ _ s
    refine wpAny_bind (W.item i s _ _ lt st fun v s' pv st' mv => ?_)
    have hk := hv i v pv
    have hS1 := moved mv hS
    show wpAny _ A.in1 (holding [v] (setAdd D v) >>= _) _ _ s'
    refine wpAny_bind (wpAny_holding ?_)
    unfold setAdd
    refine wpAny_holding (wpAny_bind ((mixKind P w).pyHash (k := key i) hk ?_))
    have room : (metK key i).length + 1 < scanBound := by have := metK_le key i; omega
    refine wpAny_setAddHashed_of (knd := mixKind P w) (s := { s' with toks := s'.toks + 1 }) hk (key_scan hk) hS1 room fun h' sb hS2 => ?_
    have hS3 : h'.SetOf (mixKind P w) D (fun k => decide (k ∈ metK key (i + 1))) (metK key (i + 1)).length := by
      refine setO_congr hS2 (fun k => ?_) ?_
      · show (decide (k ∈ metK key i) || decide (k = key i)) = decide (k ∈ if key i ∈ metK key i then metK key i else metK key i ++ [key i])
        by_cases z : key i ∈ metK key i
        · rw [if_pos z]
          by_cases y : k = key i
          · subst y; simp [z]
          · simp [y]
        · rw [if_neg z]
          simp
      · show (if decide (key i ∈ metK key i) = true then (metK key i).length else (metK key i).length + 1) = (if key i ∈ metK key i then metK key i else metK key i ++ [key i]).length
        by_cases z : key i ∈ metK key i
        · rw [if_pos z, if_pos (decide_eq_true z)]
        · rw [if_neg z, if_neg (by simpa using z)]
          simp
    refine wpAny_pure ⟨plainId_quiet PyProof.Rows.F.plain_set_update_loop _, ih (i + 1) _ (by omega) lt (W.frame _ s' _ _ st' (Nat.le_succ _) fun b hb o e => ?_) hS3 fun s2 mv2 hS4 => ?_⟩
    · rw [sb.2 b (fun z : b = D => hD (by rw [← z]; exact hb))]
      exact e
    · refine hR s2 (Moved.trans W.gtrans ((mv.mono sub).then_heap (Nat.le_succ _) fun b o hb e => ?_) mv2) hS4
      rw [sb.2 b (fun z : b = D => hb (by rw [z]; exact List.mem_cons_self))]
      exact e
end
section
variable {P : Program} {w : World} {A : Around} {E : Value → Shared → Prop} {s : Shared}
abbrev newS (led : Bool) : Obj := { cls := .type "set", dict := none, data := .set #[] 0 (.fresh 0 0 led) }
set_option maxHeartbeats 8000000 in
theorem set_of_keys {l : Addr} {its : List Value} {ks : List Key} {Q : Value → Shared → Prop} (hh : A.handled = none) (hl : s.heap.IsList l its.toArray) (hk : ∀ i v, its[i]? = some v → (mixKind P w).is (ks.getD i (.inl 0)) v = true) (hn : its.length = ks.length) (hb : its.length + 1 < scanBound)
    (h : ∀ (h' : Heap) (tk : Nat), h'.SetOf (mixKind P w) s.heap.objs.size (fun k => decide (k ∈ dedK ks)) (dedK ks).length → (∀ b o, s.heap.get? b = some o → h'.get? b = some o) → Q (.ref s.heap.objs.size) { s with heap := h', toks := tk }) :
    wpAny (model P w) A (call (.type "set") [.ref l]) Q E s := by
  obtain ⟨c, tl, hmro⟩ := PySem.F.called_set.mro
  have m1 := PySem.F.called_set.made
  have m2 := PySem.F.called_set.sub
  refine wpAny_call (codeAny_of_tree ?_)
  show wpAny _ _ (callAny (.type "set") _) _ _ _
  refine wpAny_pure ⟨Code.quiet_builtin _ (by decide +kernel), codeAny_builtin PySem.F.entry_type_call ?_⟩
  rw [Around.under_plain (weight_type_call_type "set" [.ref l] []) rfl]
  have m3 := PySem.F.called_set.notType
  have m4 := PySem.F.called_set.canCreate
  have m5 := PySem.F.typeCall_set_1 (.ref l)
  repeat (any_goals (first | assumption | wp_step))
  refine codeAny_mono (code_set_new_1 (.ref l) (E := E) (Q₁ := fun ob s1 => ∃ led : Bool, ob = .ref s.heap.objs.size ∧ s1 = { s with heap := s.heap.push (newS led) }) fun led => ⟨led, rfl, rfl⟩) fun r s1 hr => ?_
  cases r with
  | error e => exact hr
  | ok fl =>
    cases fl with
    | ret ob =>
      obtain ⟨led, rfl, rfl⟩ := hr
      have hS : (s.heap.push (newS led)).get? s.heap.objs.size = some (newS led) := Heap.get?_push_size _ rfl
      have hT : Shared.TypeIs { s with heap := s.heap.push (newS led) } (.ref s.heap.objs.size) "set" := ⟨_, hS, rfl⟩
      have m6 := PySem.F.called_set.init.lookup
      have m7 := PySem.F.called_set.init.bind (.ref s.heap.objs.size)
      repeat (any_goals (first | assumption | wp_step))
      refine codeAny_mono (codeAny_call_builtin (R := wants (fun r s2 => r = .none ∧ ∃ h' tk, s2 = { s with heap := h', toks := tk } ∧ h'.SetOf (mixKind P w) s.heap.objs.size (fun k => decide (k ∈ dedK ks)) (dedK ks).length ∧ (∀ b o, s.heap.get? b = some o → h'.get? b = some o)) E)
        PySem.F.called_set.init.plain PySem.F.entry_set_init (check_set_init_1 hT ?_)) fun r2 s2 hr2 => ?_
      · obtain ⟨⟨oc, od, oda, osl⟩, hol, hcl, nl, hdl⟩ := hl
        simp only at hcl hdl
        subst hcl hdl
        have hol1 : (s.heap.push (newS led)).get? l = some { cls := .type "list", dict := od, data := .seq its.toArray nl, slots := osl } := Heap.get?_push_of_some _ hol
        have m8 := PySem.F.sub_list_set
        have m9 := PySem.F.sub_list_frozenset
        have m10 : (Value.type "list" == Value.type "dict") = false := by decide
        have hl1 : (s.heap.push (newS led)).IsList l its.toArray := ⟨_, hol1, rfl, nl, rfl⟩
        have lS : l < s.heap.objs.size := Heap.lt_size hol
        unfold Builtin.«set.__init__» noKeywords Builtin.Frozenset.updateFrom
        generalize hPI : pyIter = PI
        wp_walk
        subst hPI
        refine wpAny_pyIter_list hl1 (wpAny_bind (wpAny_runValue ?_))
        have hh3 : A.in1.in1.in1.handled = none := by simp [hh]
        have nI : l ≠ (s.heap.push (newS led)).objs.size := by rw [Heap.size_push]; exact Nat.ne_of_lt (Nat.lt_succ_of_lt lS)
        have nS : s.heap.objs.size ∉ [(s.heap.push (newS led)).objs.size, l] := by
          rw [Heap.size_push]
          simp only [List.mem_cons, List.mem_singleton, List.not_mem_nil, or_false, not_or]
          exact ⟨Nat.ne_of_lt (Nat.lt_succ_self _), Nat.ne_of_gt lS⟩
        have sz : its.toArray.size = ks.length := by rw [List.size_toArray, hn]
        refine set_loop ((Walks.list hh3 _ l nI its.toArray).toS) s.heap.objs.size nS (fun i => ks.getD i (.inl 0)) (fun i v pv => hk i v (by simpa using pv)) (by rw [List.size_toArray]; exact hb) (fun _ _ _ _ => trivial) (its.toArray.size - 0) 0 _ (by omega) (Nat.zero_le _)
          ⟨⟨_, Heap.get?_push_size _ rfl, rfl, rfl⟩, (hl1.push _)⟩ ?_ ?_
        · have g : ((s.heap.push (newS led)).push { cls := .type "list_iterator", data := .fields #[.ref l, .int 0 0] }).get? s.heap.objs.size = some (newS led) := Heap.get?_push_of_some _ hS
          exact ⟨_, #[], 0, _, g, ⟨rfl, rfl, rfl⟩, rfl, fun e he => by simp at he, fun k => by simp [metK], by decide, by rfl, rfl⟩
        · intro s3 mv hS3
          obtain ⟨h3, g3, d3, t3, o3⟩ := s3
          have e1 : g3 = s.gens := mv.gens
          have e2 : d3 = s.drawn := mv.drawn
          have e3 : o3 = s.os := mv.os
          subst e1 e2 e3
          rw [sz] at hS3
          show wpAny _ _ _ _ _ _
          refine wpAny_pure ?_
          show wpAny _ _ (ret Value.none) _ _ _
          refine wpAny_pure ⟨rfl, h3, t3, rfl, hS3, fun b o e => ?_⟩
          have lb := Heap.lt_size e
          have b1 : b ≠ s.heap.objs.size := Nat.ne_of_lt lb
          have b2 : b ≠ (s.heap.push (newS led)).objs.size := by rw [Heap.size_push]; exact Nat.ne_of_lt (Nat.lt_succ_of_lt lb)
          exact mv.heap b o (by simp only [List.mem_cons, List.mem_singleton, List.not_mem_nil, or_false, not_or]; exact ⟨b1, b2⟩) (Heap.get?_push_of_some _ (Heap.get?_push_of_some _ e))
      · cases r2 with
        | error e => exact hr2
        | ok f2 =>
          cases f2 with
          | ret r =>
            obtain ⟨rfl, h', tk, rfl, hS2, hk2⟩ := hr2
            repeat (any_goals (first | assumption | wp_step))
            exact h _ _ hS2 hk2
          | _ => exact hr2.elim
    | _ => exact hr.elim
end
section
variable {X : Cx}
theorem keysRel {P : Program} {w : World} : ∀ {ks : List Key} {us : List Value}, Vals (ks.map kV) us → ∀ i v, us[i]? = some v → (mixKind P w).is (ks.getD i (.inl 0)) v = true
  | [], us, r, i, v, e => by
    rw [List.map_nil] at r
    cases r
    simp at e
  | k :: ks, us, r, i, v, e => by
    rw [List.map_cons] at r
    cases r with
    | cons r1 r2 =>
      cases i with
      | zero =>
        simp at e
        subst e
        cases k with
        | inl z => obtain ⟨t, rfl⟩ := r1; exact keyIs_int z t
        | inr z => obtain ⟨t, rfl⟩ := r1; exact keyIs_str z t
      | succ i =>
        have := keysRel (P := P) (w := w) r2 i v (by simpa using e)
        simpa using this
theorem call_set_list (hc : X.calm = true) : CallR X (.type "set") (fun xs H Q => ∃ (p : Addr) (ks : List Key), xs = [.ref p] ∧ SqL X.K H p (ks.map kV) ∧ ks.length ≤ 1000 ∧
    ∀ l, H l = none → Q (.ref l) (upd H l (SetO X.prog X.w l (fun k => decide (k ∈ dedK ks)) (dedK ks).length))) := by
  intro pins s σ H xs us Q I r h
  obtain ⟨p, ks, rfl, hq, hn, q⟩ := h
  obtain ⟨u, rfl, ru⟩ := Vals.one r
  cases ru
  obtain ⟨its, rv, pl, hz⟩ := I.list hq
  have hlen := rv.length
  rw [List.length_map] at hlen
  refine set_of_keys (ks := ks) (I.ok.hd hc) pl.isList (keysRel rv) hlen.symm (by unfold scanBound; omega) fun h' tk hS hk => ?_
  exact ⟨.ref s.heap.objs.size, _, I.laid (t' := tk) hk (Nat.le_refl _) (SetO.ok hS), rfl, q _ (I.hok.fresh (Nat.le_refl _))⟩
theorem call_len_set : CallR X (.builtin "len") (fun xs H Q => ∃ l S n, xs = [.ref l] ∧ H l = some (SetO X.prog X.w l S n) ∧ n ≤ 1000 ∧ Q (.int n) H) := by
  intro pins s σ H xs us Q I r h
  obtain ⟨l, S, n, rfl, e, hn, q⟩ := h
  obtain ⟨u, rfl, ru⟩ := Vals.one r
  cases ru
  obtain ⟨⟨o, es, ep, t, ho, hex, hd, hel, hmem, hb, hf, hes⟩, _⟩ := I.hok l _ e
  refine PySem.call_len_set ho hex hd hf (by rw [hes]; omega) ⟨.int n, H, I.tok _, ⟨s.toks + 1, by rw [hes]⟩, q⟩
end
end L2

namespace L2
open PySem PySem.Spec PyProof.Rows
section
variable {X : Cx}
theorem keyIs_rel {k : Key} {v : Value} (h : keyIs k v = true) : RelV (kV k) v := by
  rcases keyIs_shape h with ⟨i, t, rfl, rfl⟩ | ⟨x, t, rfl, rfl⟩
  · exact ⟨t, rfl⟩
  · exact ⟨t, rfl⟩
theorem vals_of : ∀ {xs : List V} {us : List Value}, us.length = xs.length → (∀ (j : Nat) (u : Value) (x : V), us[j]? = some u → xs[j]? = some x → RelV x u) → Vals xs us
  | [], [], _, _ => .nil
  | x :: xs, u :: us, hl, h => .cons (h 0 u x rfl rfl) (vals_of (by simpa using hl) fun j v y e1 e2 => h (j + 1) v y (by simpa using e1) (by simpa using e2))
  | [], _ :: _, hl, _ => by simp at hl
  | _ :: _, [], hl, _ => by simp at hl
theorem KV.get : ∀ {kvs : List (Key × V)} {vs : List (Key × Value)} {i : Nat} {p : Key × Value}, KV kvs vs → vs[i]? = some p → ∃ q, kvs[i]? = some q ∧ q.1 = p.1 ∧ RelV q.2 p.2
  | _, _, _, _, .nil, e => by simp at e
  | _, _, 0, _, .cons r _, e => by simp at e; subst e; exact ⟨_, rfl, r.1, r.2⟩
  | _, _, i + 1, p, .cons _ t, e => by
    obtain ⟨q, h1, h2⟩ := KV.get (i := i) (p := p) t (by simpa using e)
    exact ⟨q, by simpa using h1, h2⟩
theorem call_list_dict (hc : X.calm = true) : CallR X (.type "list") (fun xs H Q => ∃ p kvs, xs = [.ref p] ∧ Rd H p (.dK kvs) ∧ ∀ l, H l = none → Q (.ref l) (upd H l (.lst (kvs.map fun kv => kV kv.1)))) := by
  intro pins s σ H xs us Q I r h
  obtain ⟨p, kvs, rfl, hq, q⟩ := h
  obtain ⟨u, rfl, ru⟩ := Vals.one r
  cases ru
  obtain ⟨hz, lo, vs, kv, hD⟩ := hq.ok I.hok
  obtain ⟨ep, hat⟩ := hD.dictAt
  have hl := KV.length kv
  refine PySem.W.kdl_call (PySem.W.kdl_dict (knd := mixKind X.prog X.w) (kvs := vs) (ep := ep) lo) (I.ok.hd hc) hat (by omega) fun h' tk acc c hk hg hi => ?_
  refine ⟨.ref s.heap.objs.size, _, I.laid (t' := tk) hk (Nat.le_refl _) (show ObjOk X.prog X.w _ h' _ (.lst (kvs.map fun kv => kV kv.1)) from ⟨by rw [List.length_map]; exact hz, acc.toList, c, ?_, by simpa using hg⟩), rfl, q _ (I.hok.fresh (Nat.le_refl _))⟩
  refine vals_of (by rw [List.length_map, Array.length_toList, hi.1, hl]) fun j u x e1 e2 => ?_
  obtain ⟨k, y, e3, e4⟩ := hi.2 j u (by rw [← Array.getElem?_toList]; exact e1)
  obtain ⟨z, e5, e6, _⟩ := KV.get kv e3
  rw [List.getElem?_map, e5] at e2
  have e2' : kV z.1 = x := by simpa using e2
  subst e2'
  rw [show z.1 = k from e6]
  exact keyIs_rel e4
def ValsO (v d : Addr) : HO := .ext fun h => h.IsValuesView v d
theorem ValsO.ok {P : Program} {w : World} {H : Hp} {h : Heap} {v d : Addr} (x : h.IsValuesView v d) : ObjOk P w H h v (ValsO v d) :=
  ⟨x, let ⟨o, ho, _⟩ := x; ⟨o, ho⟩, fun _ _ ⟨o, ho, r⟩ k => ⟨o, k o ho, r⟩⟩
theorem mt_values : MtR X "dict.values" (fun x vs H Q => ∃ d kvs, x = .ref d ∧ vs = [] ∧ Rd H d (.dK kvs) ∧ ∀ v, H v = none → Q (.ref v) (upd H v (ValsO v d))) := by
  intro pins s σ H x vs v us Q I rx rv h
  obtain ⟨d, kvs, rfl, rfl, hq, q⟩ := h
  cases rx
  have hus := rv.zero
  subst hus
  obtain ⟨hz, lo, ws, kv, hD⟩ := hq.ok I.hok
  refine call_meetsIn PySem.F.slot_dict_values hD.typeIs PySem.F.entry_dict_values (PySem.F.args_dict_values_1 _) (meets_dict_values (mixKind X.prog X.w) d lo) ⟨⟨ws, hD⟩, ?_⟩
  exact ⟨.ref s.heap.objs.size, _, I.laid (t' := s.toks) (fun b ob e => Heap.get?_push_of_some _ e) (Nat.le_refl _) (ValsO.ok ⟨_, Heap.get?_push_size _ rfl, rfl, rfl⟩), rfl, q _ (I.hok.fresh (Nat.le_refl _))⟩
theorem call_list_values (hc : X.calm = true) : CallR X (.type "list") (fun xs H Q => ∃ v d kvs, xs = [.ref v] ∧ H v = some (ValsO v d) ∧ Rd H d (.dK kvs) ∧ ∀ l, H l = none → Q (.ref l) (upd H l (.lst (kvs.map (·.2))))) := by
  intro pins s σ H xs us Q I r h
  obtain ⟨v, d, kvs, rfl, ev, hq, q⟩ := h
  obtain ⟨u, rfl, ru⟩ := Vals.one r
  cases ru
  obtain ⟨hz, lo, vs, kv, hD⟩ := hq.ok I.hok
  obtain ⟨hv, _⟩ := I.hok v _ ev
  obtain ⟨ep, hat⟩ := hD.dictAt
  have hl := KV.length kv
  refine PySem.W.kdl_call (PySem.W.kdl_values (knd := mixKind X.prog X.w) (kvs := vs) (ep := ep)) (I.ok.hd hc) ⟨hv, hat⟩ (by omega) fun h' tk acc c hk hg hi => ?_
  refine ⟨.ref s.heap.objs.size, _, I.laid (t' := tk) hk (Nat.le_refl _) (show ObjOk X.prog X.w _ h' _ (.lst (kvs.map (·.2))) from ⟨by rw [List.length_map]; exact hz, acc.toList, c, ?_, by simpa using hg⟩), rfl, q _ (I.hok.fresh (Nat.le_refl _))⟩
  refine vals_of (by rw [List.length_map, Array.length_toList, hi.1, hl]) fun j u x e1 e2 => ?_
  obtain ⟨k, e3⟩ := hi.2 j u (by rw [← Array.getElem?_toList]; exact e1)
  obtain ⟨z, e5, _, e6⟩ := KV.get kv e3
  rw [List.getElem?_map, e5] at e2
  have e2' : z.2 = x := by simpa using e2
  subst e2'
  exact e6
end
theorem vals_rev : ∀ {xs : List V} {us : List Value}, Vals xs us → Vals xs.reverse us.reverse
  | _, _, .nil => .nil
  | _, _, .cons r t => by
    rw [List.reverse_cons, List.reverse_cons]
    exact Vals.append (vals_rev t) (.cons r .nil)
section
variable {X : Cx} {e se : Expr} {te ts : TE} {p2 pos : Pos}
def tRev (K : PySem.W.Frag) (te ts : TE) : TE := fun σ H Q => te σ H fun x H1 => ts σ H1 fun y H2 => ∃ a xs, y = .int (-1) ∧ x = .ref a ∧ SqL K H2 a xs ∧ ∀ p, H2 p = none → Q (.ref p) (upd H2 p (.lst xs.reverse))
theorem pe_rev (he : PE X e te) (hs : PE X se ts) : PE X (.Subscript e (.Slice none none (some se) p2) pos) (tRev X.K te ts) := by
  intro pins s σ H Q I h
  refine Subscript_ (thn (he pins s σ H _ I h) fun v s1 ⟨x, H1, I1, r1, q1⟩ => ?_)
  refine wpAny_Slice ?_
  rw [evalPart_none, evalPart_some]
  refine wpAny_pure (wpAny_pure (thn (hs pins s1 σ H1 _ I1 q1) fun vk s3 ⟨y, H3, I3, r3, q3⟩ => ?_))
  obtain ⟨a, xs, rfl, rfl, hx, q⟩ := q3
  cases r1
  obtain ⟨tk, rfl⟩ := r3
  have I4 : Inv X pins σ H3 { s3 with heap := s3.heap.push { cls := .type "slice", data := .fields #[.none, .none, .int (-1) tk] } } := I3.kept (t' := s3.toks) fun b ob q => Heap.get?_push_of_some _ q
  obtain ⟨its, r, ht, hz⟩ := I4.list hx
  have hlen := r.length
  refine tail_any (ops := [.ref a, .ref s3.heap.objs.size]) ht.isList.typeIs slot_list_getitem.lookup ?_ (by with_unfolding_all rfl)
  refine wpAny_getItem_list_slice ht.isList (Heap.IsSliceOf.new ..) .none .none (.int _ _) (by decide) ?_ (by rw [List.size_toArray] <;> omega)
  rw [PySem.W.krv_pick]
  refine ⟨.ref _, _, I4.laid (t' := s3.toks) (o := .lst xs.reverse) (fun b ob q => Heap.get?_push_of_some _ q) (Nat.le_refl _) ?_, rfl, q _ (I4.hok.fresh (Nat.le_refl _))⟩
  exact ⟨by rw [List.length_reverse]; exact hz, its.reverse, 0, vals_rev r, Heap.get?_push_size _ rfl⟩
end
end L2

namespace L2
open PySem PySem.Spec PyProof.Rows
theorem list_keys_miss : typeLookup (.type "list") "keys" = pure none := by rw [typeLookup_type, builtinLookup_eq_fast]; kernel_rfl
section
variable {P : Program} {w : World} {A : Around} {E : Value → Shared → Prop} {s : Shared}
theorem list_no_keys {a : Addr} {xs : Array Value} {k : Nat} {sl : Array (Option Value)} {Q : Option Value → Shared → Prop} (hA : A.handled = none) (hx : s.heap.get? a = some { cls := .type "list", dict := none, data := .seq xs k, slots := sl })
    (h : ∀ h' tk, (∀ b o, s.heap.get? b = some o → h'.get? b = some o) → Q none { s with heap := h', toks := tk }) : wpAny (model P w) A (getAttr? (.ref a) "keys") Q E s := by
  obtain ⟨hp, g, d, tk, os⟩ := s
  have hT : ∀ tk', (⟨hp, g, d, tk', os⟩ : Shared).TypeIs (.ref a) "list" := fun _ => ⟨_, hx, rfl⟩
  have f1 := sub_AttributeError
  have f3 := F.slot_list_getattribute.lookup
  have f4 := F.slot_list_getattribute.bind (.ref a)
  have f5 := am_list_getattr_none
  unfold getAttr? getAttrBy? getAttrBy
  repeat (any_goals (first | assumption | exact hT _ | ((with_reducible show wpAny _ _ (call (Value.builtin "list.__getattribute__") _ _) _ _ _); refine call_meets F.slot_list_getattribute (hT _) am_entry_list_getattribute (F.args_list_getattribute_2 _ _) (meets_getattribute_miss_list a xs k sl "keys" _ list_keys_miss (by decide +kernel)) ⟨hx, hA, fun h' tk' e hx' => ?_⟩) | wp_step))
  obtain ⟨t', u', he⟩ := hx'.there
  show wpAny _ _ (getattributeRaised _ _ _ _ _ _ _) _ _ _
  unfold getattributeRaised
  repeat (any_goals (first | assumption | wp_step))
  exact h _ _ hx'.keeps
end
theorem upd_loop_entry : entryFor table "dict.update.loop" = some Builtin.«dict.update.loop» := entryFor_of_tree (by kernel_rfl)
theorem upd_loop_plain : plainId "dict.update.loop" = true := by decide +kernel
section
variable {P : Program} {w : World} {A : Around} {R : Result → Shared → Prop} {I : Addr} {fp wr : List Addr} {G : Array GenState → Array GenState → Prop} {n : Nat} {Pv : Nat → Value → Prop} {Stt : Nat → Shared → Prop}
theorem dict_loop (W : WalksS P w A.in1 I fp wr G n Pv Stt) (D : Addr) (hD : D ∉ fp) (res : Value) (kvs : List (Key × Value)) (hn : kvs.length = n) (hz : n ≤ sizeLine) (s₀ : Shared)
    (hv : ∀ (i : Nat) (v : Value), Pv i v → ∃ (a : Addr) (k : Key) (kv x : Value) (ob : Obj) (c : Nat), v = .ref a ∧ a ∉ D :: wr ∧ s₀.heap.get? a = some ob ∧ ob.cls = .type "tuple" ∧ ob.data = .seq #[kv, x] c ∧ kvs[i]? = some (k, x) ∧ (mixKind P w).is k kv = true) :
    ∀ (m i : Nat) (s : Shared), n - i = m → i ≤ n → Stt i s → (∀ b o, b ∉ D :: wr → s₀.heap.get? b = some o → s.heap.get? b = some o) → s.heap.DictOf (mixKind P w) D (merged [] (kvs.take i)) →
      (∀ s', Moved (D :: wr) G s s' → s'.heap.DictOf (mixKind P w) D (merged [] kvs) → R (.ok (.ret res)) s') →
      codeAny (model P w) A (.builtin "dict.update.loop" ⟨[.ref D, .ref I, rawInt i, res], []⟩) R s := by
  have hDw : D ∉ wr := fun z => hD (W.sub _ z)
  have sub : ∀ b ∈ wr, b ∈ D :: wr := fun b z => List.mem_cons_of_mem _ z
  have moved : ∀ {s s' : Shared} {l : List (Key × Value)}, Moved wr G s s' → s.heap.DictOf (mixKind P w) D l → s'.heap.DictOf (mixKind P w) D l := fun mv ⟨o, es, ep, ho, r⟩ => ⟨o, es, ep, mv.heap D _ hDw ho, r⟩
  intro m
  induction m with
  | zero =>
    intro i s e1 e2 st kp hS hR
    obtain rfl : i = n := by omega
    rw [List.take_of_length_le (by omega)] at hS
    refine codeAny_builtin upd_loop_entry ?_
    rw [Around.under_plainId upd_loop_plain _]
    show wpAny _ A.in1 (pyNext (.ref I) >>= _) _ _ s
    refine wpAny_bind (W.done s _ _ st fun s' mv => ?_)
    show wpAny _ A.in1 (Builtin.Dict.addKeywords D [] >>= _) _ _ s'
    refine wpAny_bind (wpAny_pure ?_)
    exact wpAny_pure (hR s' (mv.mono sub) (moved mv hS))
  | succ m ih =>
    intro i s e1 e2 st kp hS hR
    have lt : i < n := by omega
    refine codeAny_builtin upd_loop_entry ?_
    rw [Around.under_plainId upd_loop_plain _]
    show wpAny _ A.in1 (pyNext (.ref I) >>= _) _ _ s
    refine wpAny_bind (W.item i s _ _ lt st fun v s' pv st' mv => ?_)
    obtain ⟨a, k, kv, x, ob, c, rfl, ha, hg, hc, hd, hi, hk⟩ := hv i v pv
    have hS1 := moved mv hS
    have hg1 : s'.heap.get? a = some ob := mv.heap a ob (fun z => ha (sub a z)) (kp a ob ha hg)
    have hT : s'.TypeIs (.ref a) "tuple" := ⟨ob, hg1, hc⟩
    refine wpAny_bind (wpAny_holding (wpAny_bind (wpAny_tryCatch ?_)))
    unfold Builtin.Dict.pairItems
    refine wpAny_bind (wpAny_typeOf hT ?_)
    rw [if_pos (by decide)]
    refine wpAny_bind (wpAny_seqItems hg1 hd (wpAny_pure ?_))
    show wpAny _ _ (holding [kv, x] (dictSet D kv x)) _ _ s'
    refine wpAny_holding (wpAny_dictSet_pairs hk hS1 (fun h' hS2 sb => ?_) ?_)
    · have e : merged [] (kvs.take (i + 1)) = stored (merged [] (kvs.take i)) k x := merged_take_succ [] kvs i (k, x) hi
      rw [← e] at hS2
      refine wpAny_pure ⟨plainId_quiet upd_loop_plain _, ih (i + 1) _ (by omega) lt (W.frame _ s' _ _ st' (Nat.le_succ _) fun b hb o e => ?_) (fun b o hb e => ?_) hS2 fun s2 mv2 hS4 => ?_⟩
      · rw [sb.2 b (fun z : b = D => hD (by rw [← z]; exact hb))]
        exact e
      · rw [sb.2 b (fun z : b = D => hb (by rw [z]; exact List.mem_cons_self))]
        exact mv.heap b o (fun z => hb (sub b z)) (kp b o hb e)
      · refine hR s2 (Moved.trans W.gtrans ((mv.mono sub).then_heap (Nat.le_succ _) fun b o hb e => ?_) mv2) hS4
        rw [sb.2 b (fun z : b = D => hb (by rw [z]; exact List.mem_cons_self))]
        exact e
    · have := merged_length_le ([] : List (Key × Value)) (kvs.take i)
      rw [List.length_take] at this
      simp only [List.length_nil] at this
      omega
end
section
variable {P : Program} {w : World} {A : Around} {E : Value → Shared → Prop} {s : Shared}
theorem dict_of_pairs {l : Addr} {its : List Value} {kvs : List (Key × Value)} {Q : Value → Shared → Prop} (hh : A.handled = none) (hl : PlainL s.heap l its.toArray) (hn : its.length = kvs.length) (hz : its.length ≤ sizeLine)
    (hv : ∀ (i : Nat) (v : Value), its[i]? = some v → ∃ (a : Addr) (k : Key) (kv x : Value) (ob : Obj) (c : Nat), v = .ref a ∧ s.heap.get? a = some ob ∧ ob.cls = .type "tuple" ∧ ob.data = .seq #[kv, x] c ∧ kvs[i]? = some (k, x) ∧ (mixKind P w).is k kv = true)
    (h : ∀ (h' : Heap) (tk : Nat), h'.DictOf (mixKind P w) s.heap.objs.size (merged [] kvs) → (∀ b o, s.heap.get? b = some o → h'.get? b = some o) → Q (.ref s.heap.objs.size) { s with heap := h', toks := tk }) :
    wpAny (model P w) A (call (.type "dict") [.ref l]) Q E s := by
  refine callType_codes (Q₁ := fun (obj : Value) (s₁ : Shared) => obj = Value.ref s.heap.objs.size ∧ s₁ = { s with heap := s.heap.push { cls := .type "dict", data := .dict #[] } }) F.kt_called_dict (F.kt_typeCall_dict_1 _) F.entry_dict_init (kt_code_dict_new _ ⟨rfl, rfl⟩) ?_
  rintro obj s₁ ⟨rfl, rfl⟩
  have hnew : (s.heap.push { cls := .type "dict", data := .dict #[] }).DictOf (mixKind P w) s.heap.objs.size [] := Heap.DictOf.new s.heap
  obtain ⟨⟨oc, od, oda, osl⟩, nl, hol, hcl, hod, hdl⟩ := id hl
  simp only at hcl hod hdl
  subst hcl hod hdl
  have lS : l < s.heap.objs.size := Heap.lt_size hol
  have hol1 := Heap.get?_push_of_some (h := s.heap) { cls := .type "dict", data := .dict #[] } hol
  refine ⟨hnew.typeIs, F.args_dict_init_2 _ _, ?_⟩
  unfold Builtin.«dict.__init__»
  refine wpAny_bind ?_
  unfold Builtin.Dict.selfAndRest
  refine wpAny_bind (wpAny_notOrdered_dict hnew.typeIs ?_)
  show wpAny _ _ (pure (s.heap.objs.size, [Value.ref l])) _ _ _
  refine wpAny_pure ?_
  show wpAny _ _ (Builtin.Dict.updateFrom "dict.__init__" s.heap.objs.size (.ref l) [] .none) _ _ _
  unfold Builtin.Dict.updateFrom
  refine wpAny_bind (wpAny_typeOf (T := "list") ⟨_, hol1, rfl⟩ ?_)
  rw [if_pos (by decide)]
  refine wpAny_bind (list_no_keys (by simp [hh]) hol1 fun h1 t1 k1 => ?_)
  show wpAny _ _ (rule _ >>= _) _ _ _
  refine wpAny_bind (wpAny_rule ?_)
  have hol2 := k1 _ _ hol1
  have hl2 : h1.IsList l its.toArray := ⟨_, hol2, rfl, nl, rfl⟩
  refine wpAny_bind (wpAny_pyIter_list (s := { s with heap := h1, toks := t1 }) hl2 ?_)
  have sz1 : s.heap.objs.size < h1.objs.size := by
    obtain ⟨o, es, ep, ho, _⟩ := hnew
    exact Heap.lt_size (k1 _ _ ho)
  have nI : l ≠ h1.objs.size := Nat.ne_of_lt (Heap.lt_size hol2)
  have nD : s.heap.objs.size ∉ [h1.objs.size, l] := by
    simp only [List.mem_cons, List.mem_singleton, List.not_mem_nil, or_false, not_or]
    exact ⟨Nat.ne_of_lt sz1, Nat.ne_of_gt lS⟩
  refine wpAny_pure ⟨plainId_quiet upd_loop_plain _, ?_⟩
  have hh2 : A.in1.in1.handled = none := by simp [hh]
  refine dict_loop ((Walks.list hh2 _ l nI its.toArray).toS) s.heap.objs.size nD .none kvs (by rw [List.size_toArray, hn]) (by rw [List.size_toArray]; exact hz) { s with heap := h1.push { cls := .type "list_iterator", data := .fields #[.ref l, .int 0 0] }, toks := t1 } (fun i v pv => ?_) (its.toArray.size - 0) 0 _ (by omega) (Nat.zero_le _)
    ⟨⟨_, Heap.get?_push_size _ rfl, rfl, rfl⟩, (hl2.push _)⟩ (fun _ _ _ e => e) ?_ ?_
  · obtain ⟨a, k, kv, x, ob, c, rfl, hg, hc, hd, hi, hk⟩ := hv i v (by simpa using pv)
    have la := Heap.lt_size hg
    refine ⟨a, k, kv, x, ob, c, rfl, ?_, Heap.get?_push_of_some _ (k1 _ _ (Heap.get?_push_of_some _ hg)), hc, hd, hi, hk⟩
    simp only [List.mem_cons, List.mem_singleton, List.not_mem_nil, or_false, not_or]
    exact ⟨Nat.ne_of_lt la, Nat.ne_of_lt (Nat.lt_trans la sz1)⟩
  · obtain ⟨o, es, ep, ho, r⟩ := hnew
    exact ⟨o, es, ep, Heap.get?_push_of_some _ (k1 _ _ ho), r⟩
  · intro s3 mv hS3
    obtain ⟨h3, g3, d3, t3, o3⟩ := s3
    have e1 : g3 = s.gens := mv.gens
    have e2 : d3 = s.drawn := mv.drawn
    have e3 : o3 = s.os := mv.os
    subst e1 e2 e3
    refine ⟨rfl, h h3 t3 hS3 fun b o e => ?_⟩
    have lb := Heap.lt_size e
    refine mv.heap b o ?_ (Heap.get?_push_of_some _ (k1 _ _ (Heap.get?_push_of_some _ e)))
    simp only [List.mem_cons, List.mem_singleton, List.not_mem_nil, or_false, not_or]
    exact ⟨Nat.ne_of_lt lb, Nat.ne_of_lt (Nat.lt_trans lb sz1)⟩
end
def PairsAt (H : Hp) (ys : List V) (kvs : List (Key × V)) : Prop := Paired (fun (y : V) (kv : Key × V) => ∃ a, y = .ref a ∧ H a = some (.tup [kV kv.1, kv.2])) ys kvs
theorem PairsAt.nil (H : Hp) : PairsAt H [] [] := Paired.nil
theorem PairsAt.len {H : Hp} {ys : List V} {kvs : List (Key × V)} (h : PairsAt H ys kvs) : ys.length = kvs.length := Paired.length h
theorem PairsAt.same {H H' : Hp} (S : Same H H') : ∀ {ys : List V} {kvs : List (Key × V)}, PairsAt H ys kvs → PairsAt H' ys kvs
  | _, _, Paired.nil => Paired.nil
  | _, _, Paired.cons ⟨a, e, o⟩ t => Paired.cons ⟨a, e, S _ _ o⟩ (PairsAt.same S t)
theorem PairsAt.snoc {H : Hp} {ys : List V} {kvs : List (Key × V)} {p : Addr} {k : Key} {v : V} (h : PairsAt H ys kvs) (hp : H p = none) : PairsAt (upd H p (.tup [kV k, v])) (ys ++ [.ref p]) (kvs ++ [(k, v)]) :=
  Paired.snoc (h.same (Same.upd hp)) ⟨p, rfl, upd_same⟩
section
variable {X : Cx}
theorem rel_key {P : Program} {w : World} {k : Key} {u : Value} (r : RelV (kV k) u) : (mixKind P w).is k u = true := by
  cases k with
  | inl z => obtain ⟨t, rfl⟩ := r; exact keyIs_int z t
  | inr z => obtain ⟨t, rfl⟩ := r; exact keyIs_str z t
theorem pairs_values {pins : List (Addr × Obj)} {σ : St} {H : Hp} {s : Shared} (I : Inv X pins σ H s) : ∀ {ys : List V} {kvs : List (Key × V)} {its : List Value}, PairsAt H ys kvs → Vals ys its →
    ∃ vk : List (Key × Value), KV kvs vk ∧ its.length = vk.length ∧ ∀ (i : Nat) (v : Value), its[i]? = some v → ∃ (a : Addr) (k : Key) (kv x : Value) (ob : Obj) (c : Nat), v = .ref a ∧ s.heap.get? a = some ob ∧ ob.cls = .type "tuple" ∧ ob.data = .seq #[kv, x] c ∧ vk[i]? = some (k, x) ∧ (mixKind X.prog X.w).is k kv = true
  | _, _, _, Paired.nil, Paired.nil => ⟨[], Paired.nil, rfl, fun i v e => by simp at e⟩
  | _, (k, v0) :: kvs, u :: its, Paired.cons ⟨a, e, o⟩ t, Paired.cons r rs => by
    obtain ⟨vk, h1, h2, h3⟩ := pairs_values I t rs
    subst e
    cases r
    obtain ⟨tis, rt, ⟨ob, g, hc, c, hd⟩, _⟩ := I.tuple (SqT.of o)
    obtain ⟨ku, xu, rfl, rk, rx⟩ := Vals.two rt
    refine ⟨(k, xu) :: vk, Paired.cons ⟨rfl, rx⟩ h1, by simp [h2], fun i v e => ?_⟩
    cases i with
    | zero =>
      simp at e
      subst e
      exact ⟨a, k, ku, xu, ob, c, rfl, g, hc, hd, rfl, rel_key rk⟩
    | succ i =>
      obtain ⟨a', k', kv', x', ob', c', q⟩ := h3 i v (by simpa using e)
      exact ⟨a', k', kv', x', ob', c', by simpa using q⟩
theorem call_dict_pairs (hc : X.calm = true) : CallR X (.type "dict") (fun xs H Q => ∃ (p : Addr) (ys : List V) (kvs : List (Key × V)), xs = [.ref p] ∧ SqL X.K H p ys ∧ PairsAt H ys kvs ∧ kvs.length ≤ 1000 ∧ (kvs.map (·.1)).Nodup ∧ ∀ l, H l = none → Q (.ref l) (upd H l (.dK kvs))) := by
  intro pins s σ H xs us Q I r h
  obtain ⟨p, ys, kvs, rfl, hq, hp, hn, nd, q⟩ := h
  obtain ⟨u, rfl, ru⟩ := Vals.one r
  cases ru
  obtain ⟨its, rv, pl, hz⟩ := I.list hq
  obtain ⟨vk, kv, el, hv⟩ := pairs_values I hp rv
  have big : (1000 : Nat) ≤ sizeLine := by decide
  have l1 := KV.length kv
  have ek : vk.map (·.1) = kvs.map (·.1) := (KV.keys kv).symm
  refine dict_of_pairs (kvs := vk) (I.ok.hd hc) pl el (by omega) hv fun h' tk hD hk => ?_
  rw [merged_nil_of_nodup vk (by rw [ek]; exact nd)] at hD
  refine ⟨.ref s.heap.objs.size, _, I.laid (t' := tk) hk (Nat.le_refl _) (show ObjOk X.prog X.w _ h' _ (.dK kvs) from ⟨by omega, ?_, vk, kv, hD⟩), rfl, q _ (I.hok.fresh (Nat.le_refl _))⟩
  have b := I.big
  exact beq_eq_false_iff_ne.mpr (Nat.ne_of_gt b)
end
end L2

namespace L2
open PySem PySem.Spec PyProof.Rows
structure MethAt (K : PySem.W.Frag) (C : Addr) (m qual : Str) (st : Stmt) (ps : List Str) : Prop where
  ex : ∃ (f : Addr) (fd : FuncData), Fun K m qual st f fd ∧ Binds K fd ps [] ∧ Meth K C m f
structure InitAt (K : PySem.W.Frag) (C : Addr) (qual : Str) (st : Stmt) (ps : List Str) : Prop where
  ex : ∃ (f : Addr) (fd : FuncData), Fun K "__init__" qual st f fd ∧ Binds K fd ps [] ∧ Mk K C f
structure Mc (P : Program) (w : World) (K : PySem.W.Frag) (mg : Str → Option Value) (base : Heap) (k : Nat) (C : Addr) (m : Str) (ps : List Str) (sp : Sp) : Prop where
  ex : ∃ (f : Addr) (fd : FuncData), FnOk P w K mg base CX0 k f fd ps sp ∧ Binds K fd ps [] ∧ Meth K C m f
structure Ic (P : Program) (w : World) (K : PySem.W.Frag) (mg : Str → Option Value) (base : Heap) (k : Nat) (C : Addr) (ps : List Str) (sp : Sp) : Prop where
  ex : ∃ (f : Addr) (fd : FuncData), FnOk P w K mg base CX0 k f fd ps sp ∧ Binds K fd ps [] ∧ Mk K C f
section
variable {P : Program} {w : World} {K : PySem.W.Frag} {mg : Str → Option Value} {base : Heap} {C : Addr} {m qual : Str} {st : Stmt} {N ps : List Str} {k : Nat} {sp : Sp}
theorem MethAt.mc (D : MethAt K C m qual st ps) (S : FnScope N ps (defScope st)) (len : ∀ vs H Q E, sp vs H Q E → vs.length = ps.length)
    (hbody : ∀ (f : Addr) (cdv : Value) (A : Around) (outer : List Env) (s : Shared) (H : Hp) (vs : List V) (Q : VK) (E : XK), Room k (A.deeper (envOfC qual (defScope st) s.heap.objs.size f cdv)) → sp vs H Q E →
      ∃ t, PSs (cxOf CX0 P w K mg base N qual (defScope st) f cdv A outer s H E).nox (defBody st) t ∧ t { nx := fun _ H' => Q .non H', rt := Q } (start N vs) H) : Mc P w K mg base (k + 1) C m ps sp := by
  obtain ⟨f, fd, F, b, mm⟩ := D.ex
  exact ⟨f, fd, F.ok S len fun cdv A outer s H vs Q E hr h => hbody f cdv A outer s H vs Q E hr h, b, mm⟩
theorem InitAt.ic (D : InitAt K C qual st ps) (S : FnScope N ps (defScope st)) (len : ∀ vs H Q E, sp vs H Q E → vs.length = ps.length)
    (hbody : ∀ (f : Addr) (cdv : Value) (A : Around) (outer : List Env) (s : Shared) (H : Hp) (vs : List V) (Q : VK) (E : XK), Room k (A.deeper (envOfC qual (defScope st) s.heap.objs.size f cdv)) → sp vs H Q E →
      ∃ t, PSs (cxOf CX0 P w K mg base N qual (defScope st) f cdv A outer s H E).nox (defBody st) t ∧ t { nx := fun _ H' => Q .non H', rt := Q } (start N vs) H) : Ic P w K mg base (k + 1) C ps sp := by
  obtain ⟨f, fd, F, b, mm⟩ := D.ex
  exact ⟨f, fd, F.ok S len fun cdv A outer s H vs Q E hr h => hbody f cdv A outer s H vs Q E hr h, b, mm⟩
theorem Mc.imp {sp' : Sp} (F : Mc P w K mg base k C m ps sp) (h : ∀ vs H Q E, sp' vs H Q E → sp vs H Q E) : Mc P w K mg base k C m ps sp' := by
  obtain ⟨f, fd, G, b, mm⟩ := F.ex
  exact ⟨f, fd, G.imp h, b, mm⟩
theorem meth_mk {f : Addr} {oc : Value} {od an : Option Addr} {osl : Array (Option Value)} {kV doc pm cdv ct : Value} (a : PySem.W.findIn K (.ref C) m = some (some (.ref f))) (i : PySem.W.isFn K (.ref f) = true)
    (l : K.lookup f = some ⟨oc, od, .func (PySem.W.fnOf m qual (defArgs st) (defBody st) (defScope st) .none kV doc pm an cdv ct), osl⟩) (c : PySem.W.codeIn K cdv qual = true) (kp : PySem.W.keepIn K (.ref f) = true)
    (hb : ∀ (kV doc pm : Value) (an : Option Addr) (cdv ct : Value) (us : List Value), us.length = ps.length → bindArgs (PySem.W.fnOf m qual (defArgs st) (defBody st) (defScope st) .none kV doc pm an cdv ct) ⟨us, []⟩ = pure (ps.zip us)) : MethAt K C m qual st ps :=
  ⟨f, _, fun_mk l c kp, (fun_mk l c kp).binds hb, ⟨a, i, kp⟩⟩
theorem init_mk {f : Addr} {oc : Value} {od an : Option Addr} {osl : Array (Option Value)} {kV doc pm cdv ct : Value} (a : PySem.W.findIn K (.ref C) "__init__" = some (some (.ref f))) (i : PySem.W.isFn K (.ref f) = true)
    (l : K.lookup f = some ⟨oc, od, .func (PySem.W.fnOf "__init__" qual (defArgs st) (defBody st) (defScope st) .none kV doc pm an cdv ct), osl⟩) (c : PySem.W.codeIn K cdv qual = true) (kp : PySem.W.keepIn K (.ref f) = true)
    (mk : PySem.W.makesIn K C = true) (kc : PySem.W.keepIn K (.ref C) = true)
    (hb : ∀ (kV doc pm : Value) (an : Option Addr) (cdv ct : Value) (us : List Value), us.length = ps.length → bindArgs (PySem.W.fnOf "__init__" qual (defArgs st) (defBody st) (defScope st) .none kV doc pm an cdv ct) ⟨us, []⟩ = pure (ps.zip us)) : InitAt K C qual st ps :=
  ⟨f, _, fun_mk l c kp, (fun_mk l c kp).binds hb, ⟨mk, a, i, kc⟩⟩
end
section
variable {X : Cx} {k : Nat} {ps : List Str} {sp : Sp} {x m : Str} {p pos apos : Pos} {o e : Expr} {es : List Expr} {ta : TE} {t : TA} {C : Addr}
theorem pe_m0 {pl : Sem Bool} (c : Cls X.K C) (F : Mc X.prog X.w X.K X.mg X.base k C m ps sp) (hr : Room k X.A) (ho : PE X o ta)
    (ht : eval (.Call (.Attribute o m apos) [] [] pos) X.env = (do
      let ov ← eval o X.env
      standAt apos.atName
      let (f, first) ← holding [ov] (getMethod ov m pl)
      callWith pos f first (backTo pos (starEach [] X.env)) (backToKw pos (keywordEach [] X.env))) := by rfl) :
    PE X (.Call (.Attribute o m apos) [] [] pos) (tMeth C m sp [] E0 ta tNil) := by
  obtain ⟨f, fd, G, b, mm⟩ := F.ex
  exact pe_meth0 (pl := pl) ho c mm G hr b .nil pass0 ht
theorem pe_mk (hm : X.mg x = some (.ref C)) (F : Ic X.prog X.w X.K X.mg X.base k C ps sp) (hr : Room (k + 1) X.A) (ha : PA X (e :: es) t) (hg : Gl X x := by rfl) (hdb : (x == ("__debug__" : Str)) = false := by decide)
    (he : starEach (e :: es) X.env = (false, eval e X.env) :: starEach es X.env := by rfl) (hpl : (backTo pos (starEach es X.env)).any (·.1) = false := by rfl) :
    PE X (.Call (.Name x p) (e :: es) [] pos) (tMake C sp [] E0 t) := by
  obtain ⟨f, fd, G, b, mm⟩ := F.ex
  exact pe_make mm G hr hg hm b .nil pass0 ha hdb he hpl
end
section
variable {X : Cx} {K : PySem.W.Frag}
theorem ix_tupB (e : X.K = K) : IxR X (rIxT K) := by subst e; exact ix_tup
theorem ix_listB (e : X.K = K) : IxR X (rIxL K) := by subst e; exact ix_list
theorem sl_listB (e : X.K = K) : SlR X (rSlL K) := by subst e; exact sl_list
theorem op_in_seqB (e : X.K = K) : OpR X (compareOp .In) (rIn K false) := by subst e; exact op_in_seq
theorem call_len_seqB (e : X.K = K) : CallR X (.builtin "len") (fun xs H Q => ∃ p ys, xs = [.ref p] ∧ (SqL K H p ys ∨ SqT K H p ys) ∧ Q (.int ys.length) H) := by subst e; exact call_len_seq
theorem call_isinstB (e : X.K = K) : CallR X (.builtin "isinstance") (fun xs H Q => ∃ x y c t b, xs = [x, y] ∧ clsV y = some c ∧ TyOf K H x t ∧ PySem.W.kitOne K t c = some b ∧ Q (.bl b) H) := by subst e; exact call_isinst
theorem call_list_ofB (e : X.K = K) : CallR X (.type "list") (fun xs H Q => ∃ p ys, xs = [.ref p] ∧ (SqL K H p ys ∨ SqT K H p ys) ∧ ∀ l, H l = none → Q (.ref l) (upd H l (.lst ys))) := by subst e; exact call_list_of
end
theorem posI {j : Int} (h : decide (0 < j) = true) : 0 < j := of_decide_eq_true h
end L2

namespace L2
open PySem PySem.Spec PyProof.Rows
theorem ps_setComp {X : Cx} {i : Nat} {x : Str} {elt iter tg : Expr} {ifs : List Expr} {scope : Scope} {pos pos' cpos : Pos} {wi : TI} {g : TG} {tt : TT} {te : TE} (hXN : X.N.Nodup) (hix : X.N[i]? = some x) (N' : List Str) (nt : Nat) (cap : List Nat)
    (hc : X.calm = true) (hi : PI X tg iter wi) (hg : ∀ R, PG (blk X scope N' R) tg g) (hgk : GKeep nt g) (ht : ∀ R, PIfs (blk X scope N' R) ifs tt) (he : ∀ R, PE (blk X scope N' R) elt te)
    (hx : Loc X.env.scope x := by exact Or.inl rfl) (hfn : X.fn x = true ∨ X.env.scope.names.lookup x = some .local := by first | exact .inl rfl | exact .inr rfl | assumption)
    (hsw : swapsWith (.ListComp elt [⟨tg, iter, ifs, 0⟩] scope cpos) (some (.Name x pos')) pos.line X.env = pure true := by rfl)
    (hcell : (scope.names.all fun y => !(y.2 == .cell)) = true := by rfl) (hkind : scope.kind = .function := by rfl)
    (hnames : (scope.names.all fun y => !(y.2 == .local) || (scope.names.lookup y.1 == some .local)) = true := by rfl)
    (hfr : (scope.names.all fun y => !(y.2 == .free) || (X.env.kindOf y.1 == some .cell || X.env.kindOf y.1 == some .free)) = true := by rfl)
    (hN : N'.length = nt + cap.length := by rfl) (hcapN : (cap.map fun j => X.N[j]?) = (N'.drop nt).map some := by rfl) (hcapF : ((N'.drop nt).all fun x => scope.names.lookup x == some .free) = true := by rfl)
    (hs : ∀ x, foldedSetIterable iter X.env x = pure x := by intro _; rfl) :
    PS X (.Assign [.Name x pos'] (.ListComp elt [⟨tg, iter, ifs, 0⟩] scope cpos) pos) (tAsg (tComp nt cap wi g tt te) (gName i)) := by
  intro pins s σ H Ds I h
  have hfr' : ∀ y ∈ scope.names, y.2 = .free → (X.env.kindOf y.1 = some .cell ∨ X.env.kindOf y.1 = some .free) := fun y hy e => by
    have z := all_mem hfr y hy
    rw [e] at z
    have z' : (X.env.kindOf y.1 == some .cell || X.env.kindOf y.1 == some .free) = true := z
    rcases Bool.or_eq_true_iff.mp z' with q | q
    · exact .inl (beq_iff_eq.mp q)
    · exact .inr (beq_iff_eq.mp q)
  have hcell' : ∀ y ∈ scope.names, y.2 ≠ .cell := fun y hy e => by
    have z := all_mem hcell y hy
    rw [e] at z
    cases z
  obtain ⟨cl, hcl, hclk, hclh⟩ := closure_ok (scope := scope) (env := X.env) fun y hy e => I.ok.has y.1 (hfr' y hy e)
  have hnames' : ∀ y ∈ scope.names, y.2 = .local → scope.names.lookup y.1 = some .local := fun y hy e => by
    have z := all_mem hnames y hy
    rw [e] at z
    exact beq_iff_eq.mp z
  have hcapN' : ∀ (k j : Nat), cap[k]? = some j → N'[nt + k]? = X.N[j]? := fun k j e => by
    have z := congrArg (fun l : List (Option Str) => l[k]?) hcapN
    simp only [List.getElem?_map, e, Option.map_some, List.getElem?_drop] at z
    cases q : N'[nt + k]? with
    | none => rw [q] at z; cases z
    | some x => rw [q] at z; exact (Option.some.inj z).symm
  rw [exec_Assign_Name_used _ _ _ _ hsw]
  refine wpAny_bind (wpAny_standAt (wpAny_bind ?_))
  show wpAny _ X.A (do let _ ← comprehension (.ListComp elt [⟨tg, iter, ifs, 0⟩] scope cpos) scope X.env _ (newList []) false (eval iter X.env) (some (assign (.Name x pos') X.env))) _ _ s
  refine wpAny_bind (wpAny_mono (wpAny_comprehension_free (use := some (assign (.Name x pos') X.env)) (Q := fun _ s' => SP X pins Ds .next s') rfl hs hcl hkind hnames'
    (thn (hi pins s σ H _ I h) fun v s1 h1 => thn h1 fun itv s2 h2 => ?_)) (fun _ s' hq => wpAny_pure (wpAny_pure hq)) fun _ _ e => e)
  obtain ⟨it, fp, tn, J, H2, e, I2, T, st2, f2, hw⟩ := h2
  subst e
  refine comp_block (RR := fun acc C => compPost (model X.prog X.w) X.A X.xe (some (assign (.Name x pos') X.env)) (fun _ s' => SP X pins Ds .next s') acc C) hc I2 T st2 f2 hclk hclh hcell' hkind hfr' hN hcapN' (fun x hx => beq_iff_eq.mp (all_mem hcapF x hx)) hg hgk ht he hw ?_
  intro D C s' H' ys hD q I' B
  obtain ⟨m, hn⟩ := B.ns
  obtain ⟨oC, es, ep, hoC, hdC, hrest⟩ := id hn
  have nofs : C ∉ X.fs := fun hb => by
    obtain ⟨_, o, ho, _⟩ := I'.ok.funs.mem hb
    exact absurd (Nat.lt_of_lt_of_le (Heap.lt_size ho) B.ab) (Nat.lt_irrefl _)
  have IC : Inv X ((C, oC) :: pins) σ (upd H' D (.lst ys)) s' := I'.pins_of fun p hp => by
    rcases List.mem_cons.mp hp with rfl | hp
    · exact ⟨hoC, B.fr, B.ne, nofs, fun v z => by rw [hdC] at z; cases z⟩
    · exact I'.pin p (List.mem_append_right _ hp)
  show wpAny _ X.A (assign (.Name x pos') X.env (.ref D)) _ _ _
  refine thn (pg_name hXN hix hx hfn ((C, oC) :: pins) s' σ (upd H' D (.lst ys)) (.ref D) (.ref D) Ds.nx IC rfl (q D hD)) fun _ s'' h'' => ?_
  obtain ⟨σ2, H3, I3, q3⟩ := h''
  have pC := I3.pin (C, oC) (List.mem_append_right _ List.mem_cons_self)
  refine ⟨m, hn.at' (fun o e => ?_), fun h4 hs4 => ⟨σ2, H3, ?_, q3⟩⟩
  · rw [hoC] at e
    cases e
    exact pC.1
  · have I4 : Inv X pins σ2 H3 s'' := I3.pins_of fun p hp => I3.pin p (List.mem_append_right _ (List.mem_cons_of_mem _ hp))
    exact I4.turned (it := C) (t' := s''.toks) (fun b o hb e => hs4.extBut b o hb e) pC.2.1 B.ne (.inr B.ab) B.cl B.pn
end L2

namespace L2
open PySem PySem.Spec PyProof.Rows
section
variable {X : Cx}
end
structure InstC (K : PySem.W.Frag) (C : Addr) : Prop where
  ha : PySem.W.findIn K (.ref C) "__class__" = some (some (.builtin "object.__class__"))
  hn : PySem.W.specialIn K (.builtin "object.__class__") "__get__" = some (some (.builtin "getset_descriptor.__get__"))
  htk : PySem.W.takesIn K (.builtin "object.__class__") = some true
  hm : PySem.W.mroIn K C (.type "object") = some true
theorem MethAt.mcD {P : Program} {w : World} {K : PySem.W.Frag} {mg : Str → Option Value} {base : Heap} {C : Addr} {m qual : Str} {st : Stmt} {N ps : List Str} {k : Nat} {sp : Sp} (D : MethAt K C m qual st ps) (S : FnScope N ps (defScope st)) (len : ∀ vs H Q E, sp vs H Q E → vs.length = ps.length)
    (hbody : ∀ (f : Addr) (cdv : Value) (A : Around) (outer : List Env) (s : Shared) (H : Hp) (vs : List V) (Q : VK) (E : XK), Room k (A.deeper (envOfC qual (defScope st) s.heap.objs.size f cdv)) → sp vs H Q E →
      ∃ t, PSs (cxOf CX0 P w K mg base N qual (defScope st) f cdv A outer s H E).nox (defBody st) t ∧ t { nx := fun _ H' => dropQ Q .non H', rt := dropQ Q } (start N vs) H) : Mc P w K mg base (k + 1) C m ps sp := by
  obtain ⟨f, fd, F, b, mm⟩ := D.ex
  refine ⟨f, fd, FnOk.drop len (F.ok S (fun vs H Q E ⟨Q', h, _⟩ => len vs H Q' E h) fun cdv A outer s H vs Q E hr ⟨Q', h, e⟩ => ?_), b, mm⟩
  subst e
  exact hbody f cdv A outer s H vs Q' E hr h
theorem Drop.under {H : Hp} {p q : Addr} {o u : HO} (hp : H p = none) (d : droppable o = true) (hq : L2.upd H p o q = none) : Drop (L2.upd (L2.upd H p o) q u) (L2.upd H q u) := fun b => by
  by_cases hb : b = q
  · subst hb
    left
    rw [upd_same, upd_same]
  · rw [upd_ne hb, upd_ne hb]
    by_cases hc : b = p
    · subst hc
      right
      exact ⟨hp, o, upd_same, d⟩
    · left
      rw [upd_ne hc]
end L2

namespace L2
open PySem PySem.Spec PyProof.Rows
def CX2 (P : Program) (w : World) : CXT := fun outer H s E e s' => ∃ (ea : Addr) (cls a0 : Value) (B : Heap) (H' : Hp), e = .ref ea ∧ s'.os = s.os ∧ AllBare s'.gens ∧ Un (frs outer) [] H H' s.heap s'.heap ∧ HOk P w H' s'.heap ∧
  Heap.FlyingW B outer ea cls a0 s'.heap ∧ (∀ b o o', s.heap.get? b = some o → s'.heap.get? b = some o' → b ∉ frs outer → B.get? b = some o') ∧ (∀ b o', H' b ≠ none → s'.heap.get? b = some o' → B.get? b = some o') ∧ E cls none H'

section
variable {X : Cx} {pins : List (Addr × Obj)} {σ : St} {H H' : Hp} {s s' : Shared} {B h2 : Heap} {ea : Addr} {cls a0 : Value}
end
section
variable {P : Program} {w : World} {K : PySem.W.Frag} {mg : Str → Option Value} {base : Heap} {N : List Str} {qual : Str} {scope : Scope} {f : Addr} {cd : Value} {A : Around} {outer : List Env} {s : Shared} {H : Hp} {E : XK}
end
end L2

namespace L2
open PySem PySem.Spec PyProof.Rows
abbrev veMro : List Value := [.type "ValueError", .type "Exception", .type "BaseException", .type "object"]
structure ExcC (K : PySem.W.Frag) (C : Addr) : Prop where
  q : PySem.W.excIn K C veMro "ValueError.__new__" = true
section
variable {X : Cx} {C : Addr} {x : Str} {E : XK} {np cpos pos : Pos} {e : Expr} {es : List Expr} {t : TA}
end

def CAt (X : Cx) (pins : List (Addr × Obj)) (σ : St) (E : XK) (e : Value) (s' : Shared) : Prop := ∃ s1 H1, Inv X pins σ H1 s1 ∧ CX2 X.prog X.w X.stack H1 s1 E e s'
abbrev TX := XK → TE
section
variable {X : Cx} {k : Nat} {f C : Addr} {fd : FuncData} {ps : List Str} {sp : Sp} {E : XK} {x m : Str} {p pos apos : Pos} {e o : Expr} {es : List Expr} {ta : TE} {t : TA}
end
end L2

namespace L2
open PySem PySem.Spec PyProof.Rows
structure FcX (P : Program) (w : World) (K : PySem.W.Frag) (mg : Str → Option Value) (base : Heap) (k : Nat) (x : Str) (ps : List Str) (sp : Sp) : Prop where
  ex : ∃ (f : Addr) (fd : FuncData), FnOk P w K mg base (CX2 P w) k f fd ps sp ∧ Binds K fd ps [] ∧ mg x = some (.ref f) ∧ PySem.W.keepIn K (.ref f) = true
structure McX (P : Program) (w : World) (K : PySem.W.Frag) (mg : Str → Option Value) (base : Heap) (k : Nat) (C : Addr) (m : Str) (ps : List Str) (sp : Sp) : Prop where
  ex : ∃ (f : Addr) (fd : FuncData), FnOk P w K mg base (CX2 P w) k f fd ps sp ∧ Binds K fd ps [] ∧ Meth K C m f
structure IcX (P : Program) (w : World) (K : PySem.W.Frag) (mg : Str → Option Value) (base : Heap) (k : Nat) (C : Addr) (ps : List Str) (sp : Sp) : Prop where
  ex : ∃ (f : Addr) (fd : FuncData), FnOk P w K mg base (CX2 P w) k f fd ps sp ∧ Binds K fd ps [] ∧ Mk K C f
section
variable {P : Program} {w : World} {K : PySem.W.Frag} {mg : Str → Option Value} {base : Heap} {C : Addr} {x m qual : Str} {st : Stmt} {N ps : List Str} {k : Nat} {sp sp' : Sp}
end
section
variable {X : Cx} {k : Nat} {C : Addr} {ps : List Str} {sp : Sp} {E : XK} {x m : Str} {p pos apos : Pos} {e o : Expr} {es : List Expr} {ta : TE} {t : TA}
abbrev TB := XK → TS
end
end L2

namespace L2
open PySem PySem.Spec PyProof.Rows
abbrev Cx.held (X : Cx) (ea : Addr) : Cx := { X with A := X.A.mark (some (.ref ea)), calm := false, xe := fun _ _ => False }
section
variable {X : Cx} {pins : List (Addr × Obj)} {σ : St} {H H' : Hp} {s s' : Shared} {ea : Addr}
end
section
variable {X : Cx} {C : Addr} {x : Str} {np hpos pos : Pos} {body suite : List Stmt} {b₀ : Stmt} {tb : TB} {ts : TS}
end
end L2

namespace L2
open PySem PySem.Spec PyProof.Rows
def excH (a : Addr) (cls : Value) (h : Heap) : Prop := ∃ o vs, h.get? a = some o ∧ o.cls = cls ∧ o.data = .fields vs
def excO (a : Addr) (cls : Value) : HO := .ext (excH a cls)
section
variable {X : Cx} {pins : List (Addr × Obj)} {σ : St} {H H' : Hp} {s s' : Shared} {B h2 : Heap} {ea : Addr} {cls a0 : Value}
end
section
variable {X : Cx} {C : Addr} {x n : Str} {np hpos pos : Pos} {body suite : List Stmt} {b₀ : Stmt} {tb : TB} {ts : TS} {i : Nat}
def Ends.gone (D : Ends) (i : Nat) : Ends := { nx := fun σ H => D.nx (σ.set i none) H, rt := D.rt, bk := fun σ H => D.bk (σ.set i none) H, ct := fun σ H => D.ct (σ.set i none) H }
end
end L2

namespace L2
open PySem PySem.Spec PyProof.Rows
section
open PySem.W PySem.Calls PySem.Builtin PySem.Builtin.ObjectAttr PySem.Builtin.Getset_descriptor
variable {prog : Program} {w : World} {A : Around} {E : Value → Shared → Prop} {s : Shared} {K : PySem.W.Frag} {x C : Addr}
end
structure ExA (K : PySem.W.Frag) (C : Addr) : Prop where
  ex : ExcC K C
  em : PySem.W.exmOne K (.ref C) (.ref C) = some true
structure ExI (K : PySem.W.Frag) (C : Addr) : Prop extends ExA K C where
  pg : PySem.W.plainGet K C "__class__" = true
  ic : InstC K C
end L2

namespace L2
open PySem PySem.Spec PyProof.Rows
section
open PySem.W PySem.Calls PySem.Builtin PySem.Builtin.ObjectAttr PySem.Builtin.Getset_descriptor
variable {prog : Program} {w : World} {A : Around} {E : Value → Shared → Prop} {s : Shared} {K : PySem.W.Frag} {x C : Addr}
end
structure ExJ (K : PySem.W.Frag) (C : Addr) : Prop extends ExA K C where
  ga : PySem.W.findIn K (.ref C) "__getattribute__" = some (some (.builtin "BaseException.__getattribute__"))
  gt : PySem.W.findIn K (.ref C) "__getattr__" = some none
  mb : PySem.W.mroIn K C (.type "BaseException") = some true
  ic : InstC K C
end L2

namespace L2
open PySem PySem.Spec PyProof.Rows
def Itd (d : Addr) (o : Obj) (kvs : List (Key × V)) : It :=
  ⟨fun i H => H d = some (.frz o (.dK kvs)) ∧ i < kvs.length, fun i H x H' => H' = H ∧ ∃ kv, kvs[i]? = some kv ∧ x = kV kv.1, fun i H => H d = some (.frz o (.dK kvs)) ∧ kvs.length ≤ i⟩
section
variable {X : Cx} {tg : Expr}
end
end L2

namespace L2
open PySem PySem.Spec PyProof.Rows
section
variable {X : Cx}
end
def GKeeps (nt : Nat) (u : TGs) : Prop := ∀ vs σ H Q, u vs σ H Q → u vs σ H fun σ2 H2 => Q σ2 H2 ∧ σ2.length = σ.length ∧ ∀ i, nt ≤ i → σ2[i]? = σ[i]?
theorem gkeeps_nil {nt : Nat} : GKeeps nt gNil := fun vs σ H Q ⟨e, q⟩ => ⟨e, q, rfl, fun _ _ => rfl⟩
theorem gkeeps_cons {nt i : Nat} {u : TGs} (h : i < nt) (hu : GKeeps nt u) : GKeeps nt (gCons (gName i) u) := fun vs σ H Q ⟨v, r, e, q⟩ => by
  have q' := hu r (σ.set i (some v)) H Q q
  have ef : (fun (σ2 : St) (H2 : Hp) => Q σ2 H2 ∧ σ2.length = (σ.set i (some v)).length ∧ ∀ j, nt ≤ j → σ2[j]? = (σ.set i (some v))[j]?) = (fun (σ2 : St) (H2 : Hp) => Q σ2 H2 ∧ σ2.length = σ.length ∧ ∀ j, nt ≤ j → σ2[j]? = σ[j]?) := by
    funext σ2 H2
    rw [List.length_set]
    have : (∀ j, nt ≤ j → σ2[j]? = (σ.set i (some v))[j]?) = (∀ j, nt ≤ j → σ2[j]? = σ[j]?) := by
      refine propext ⟨fun h1 j hj => ?_, fun h1 j hj => ?_⟩
      · rw [h1 j hj, List.getElem?_set_ne (by omega)]
      · rw [h1 j hj, List.getElem?_set_ne (by omega)]
    rw [this]
  rw [ef] at q'
  exact ⟨v, r, e, q'⟩
theorem gkeep_tup {nt n : Nat} {K : PySem.W.Frag} {u : TGs} (hu : GKeeps nt u) : GKeep nt (gTup K n u) := fun x σ H Q ⟨a, xs, e, hq, hl, q⟩ => ⟨a, xs, e, hq, hl, hu xs σ H Q q⟩
theorem pg_tupB {X : Cx} {pos : Pos} {es : List Expr} {k : Nat} {t : TGs} {n : Nat} {K : PySem.W.Frag} (e : X.K = K) (hc : X.calm = true) (h : PGs X es t)
    (hn : (assignEach es X.env).length = n := by rfl) (hst : (assignEach es X.env).findIdx? (·.1) = none := by rfl) : PG X (.Tuple es k pos) (gTup K n t) := by subst e; exact pg_tup hc h hn hst
end L2

namespace L2
open PySem PySem.Spec PyProof.Rows
section
variable {X : Cx}
end
end L2

namespace L2
open PySem PySem.Spec PyProof.Rows
section
variable {X : Cx} {e : Expr} {t : TA} {p1 p2 : Pos} {pos1 pos2 : Pos}
end
end L2

namespace L2
open PySem PySem.Spec PyProof.Rows
theorem strsAre_of : ∀ {ys : List Str} {us : List Value}, Vals (ys.map V.str) us → StrsAre us ys
  | [], us, r => by
    rw [List.map_nil] at r
    cases r
    exact .nil
  | b :: bs, us, r => by
    rw [List.map_cons] at r
    cases r with
    | cons r1 r2 =>
      obtain ⟨t, rfl⟩ := r1
      exact .cons b t (strsAre_of r2)
section
variable {X : Cx}
theorem mt_join : MtR X "str.join" (fun x vs H Q => ∃ z p ys, x = .str z ∧ vs = [.ref p] ∧ SqL X.K H p (ys.map V.str) ∧ (ys.map fun y => y.length).sum + ys.length * z.length ≤ 16777216 ∧ Q (.str (Txt.join z ys)) H) := by
  intro pins s σ H x xs v us Q I rx r h
  obtain ⟨z, p, ys, rfl, rfl, hq, hz, q⟩ := h
  obtain ⟨t, rfl⟩ := rx
  obtain ⟨u, rfl, ru⟩ := Vals.one r
  cases ru
  obtain ⟨its, rv, pl, hl⟩ := I.list hq
  exact join_list pl.isList (strsAre_of rv) hz fun t' k => ⟨.str _, H, I.tok k, ⟨_, rfl⟩, q⟩
end
end L2

namespace L2
open PySem PySem.Spec PyProof.Rows
section
variable {X : Cx}
end
end L2

namespace L2
open PySem PySem.Spec PyProof.Rows
section
variable {prog : Program} {w : World} {A : Around} {R : Result → Shared → Prop} {I S : Addr} {fp wr : List Addr} {n : Nat} {P : Nat → Value → Prop} {St : Nat → Heap → Prop}
end
section
variable {prog : Program} {w : World} {A : Around} {E : Value → Shared → Prop} {s : Shared}
end
section
variable {X : Cx}
end
end L2

namespace L2
open PySem PySem.Spec PyProof.Rows
section
variable {X : Cx}
end
end L2

namespace L2
open PySem PySem.Spec PyProof.Rows
section
variable {X : Cx} {k : Nat} {ps : List Str} {sp : Sp} {x : Str} {p pos : Pos} {e : Expr} {es : List Expr} {t : TA} {E : XK}
end
end L2

namespace L2
open PySem PySem.Spec PyProof.Rows PySem.Builtin.Str
theorem vals_from : ∀ (tk : Nat) (xs : List Str), Vals (xs.map V.str) (strsFrom tk xs)
  | _, [] => .nil
  | tk, x :: r => .cons ⟨tk, rfl⟩ (vals_from (tk + 1) r)
section
variable {X : Cx}
theorem mt_split : MtR X "str.split" (fun x vs H Q => ∃ z y, x = .str z ∧ vs = [.str y] ∧ (y.length == 0) = false ∧ z.length ≤ sizeLine ∧ (Txt.split z y).length ≤ sizeLine ∧ ∀ l, H l = none → Q (.ref l) (upd H l (.lst ((Txt.split z y).map V.str)))) := by
  intro pins s σ H x xs v us Q I rx r h
  obtain ⟨z, y, rfl, rfl, hy, hz, hn, q⟩ := h
  obtain ⟨t, rfl⟩ := rx
  obtain ⟨u, rfl, ru⟩ := Vals.one r
  obtain ⟨t', rfl⟩ := ru
  have fin : ∀ (ps : List Str) (vs : List Value) (tk : Nat), Txt.split z y = ps → ps.length ≤ sizeLine → Vals (ps.map V.str) vs → EP X pins σ Q (.ref s.heap.objs.size) { s with toks := tk, heap := s.heap.push { cls := .type "list", data := .seq vs.toArray } } := fun ps vs tk e hl rv => by
    subst e
    exact ⟨.ref s.heap.objs.size, _, I.laid (t' := tk) (fun b ob e => Heap.get?_push_of_some _ e) (Nat.le_refl _) (show ObjOk X.prog X.w _ _ _ (.lst ((Txt.split z y).map V.str)) from ⟨by rw [List.length_map]; exact hl, vs, 0, rv, Heap.get?_push_size _ rfl⟩), rfl, q _ (I.hok.fresh (Nat.le_refl _))⟩
  cases h1 : (decide (z.length < y.length) || decide (strKind z < strKind y)) with
  | false =>
    cases hf : (occurrences z y 0 z.length (z.length + 1)).isEmpty with
    | false =>
      have es : Txt.split z y = partsBetween z (occurrences z y 0 z.length (z.length + 1)) y.length := (if_neg (ne_true_of_eq_false h1)).trans (if_neg (ne_true_of_eq_false hf))
      rw [es] at hn
      refine call_meets F.slot_str_split (typeIs_str s z t) F.entry_str_split (F.args_str_split_2 _ _) (meets_str_split_sep z y t t' h1 hy hf hz hn) ?_
      exact fin _ _ _ es hn (vals_from _ _)
    | true =>
      refine call_meets F.slot_str_split (typeIs_str s z t) F.entry_str_split (F.args_str_split_2 _ _) (meets_str_split_not_found z y t t' h1 hy hf) ?_
      exact fin [z] [.str z t] s.toks ((if_neg (ne_true_of_eq_false h1)).trans (if_pos hf)) (by show 1 ≤ sizeLine; decide) (.cons ⟨t, rfl⟩ .nil)
  | true =>
    refine call_meets F.slot_str_split (typeIs_str s z t) F.entry_str_split (F.args_str_split_2 _ _) (meets_str_split_cannot_occur z y t t' h1) ?_
    exact fin [z] [.str z t] s.toks (if_pos h1) (by show 1 ≤ sizeLine; decide) (.cons ⟨t, rfl⟩ .nil)
end
end L2

namespace L2
open PySem PySem.Spec PyProof.Rows
theorem comp_tup {F : PySem.W.Frag} {a : Addr} {xs : List V} {σb : St} {g : TG} {tt : TT} {te : TE} {fin : List V → Hp → Prop} {H : Hp} (hz : xs.length ≤ sizeLine) (Pv : Nat → List V → Hp → Prop) (h0 : Pv 0 [] H)
    (hl : ∀ i ys H, i ≤ xs.length → Pv i ys H → SqT F H a xs ∧ ys.length ≤ i)
    (hs : ∀ i x ys H (K : VK) (K' : Hp → Prop), xs[i]? = some x → Pv i ys H → (∀ y H4, Pv (i + 1) (ys ++ [y]) H4 → K y H4) → (∀ H3, Pv (i + 1) ys H3 → K' H3) →
      g x σb H fun σ2 H2 => tt σ2 H2 fun b H3 => if b = true then te σ2 H3 K else K' H3)
    (hd : ∀ ys H, Pv xs.length ys H → fin ys H) : ∃ W : CW, (∃ m, W 0 m [] H) ∧ ∀ i m ys H, W i m ys H → tTurn σb (Itt F a) g tt te W fin i m ys H := by
  refine ⟨fun i m ys H => m = xs.length - i ∧ i ≤ xs.length ∧ Pv i ys H, ⟨xs.length, by simp, Nat.zero_le _, h0⟩, ?_⟩
  rintro i m ys H ⟨rfl, hi, p⟩
  obtain ⟨q, ql⟩ := hl i ys H hi p
  by_cases hlt : i < xs.length
  · refine .inr ⟨⟨xs, xs[i], q, by simp [hlt]⟩, by omega, fun x H' y => ?_⟩
    obtain ⟨e, y⟩ := y
    subst e
    exact hs i x ys _ _ _ (y xs q) p (fun y H4 q => ⟨xs.length - (i + 1), by omega, rfl, hlt, q⟩) fun H3 q => ⟨xs.length - (i + 1), by omega, rfl, hlt, q⟩
  · have e : i = xs.length := by omega
    subst e
    exact .inl ⟨⟨xs, q, Nat.le_refl _⟩, hd ys H p⟩
end L2

namespace L2
open PySem PySem.Spec PyProof.Rows
section
variable {X : Cx}
theorem call_str_any : CallR X (.type "str") (fun xs H Q => (∃ i, xs = [.int i] ∧ i.natAbs.log2 < 1920 ∧ Q (.str (toString i)) H) ∨ (∃ z, xs = [.str z] ∧ Q (.str z) H)) := by
  intro pins s σ H xs us Q I r h
  rcases h with ⟨i, rfl, hz, q⟩ | ⟨z, rfl, q⟩
  · obtain ⟨u, rfl, t, rfl⟩ := vals1 r
    exact PySem.P.str_of_int hz ⟨.str _, H, I.tok _, ⟨_, rfl⟩, q⟩
  · obtain ⟨u, rfl, t, rfl⟩ := vals1 r
    exact PySem.P.str_of_str ⟨.str _, H, I.tok _, ⟨_, rfl⟩, q⟩
inductive GEnts (w : World) : List (Str × V) → List DictEntry → Prop
  | nil : GEnts w [] []
  | cons {k : Str} {v : V} {e : DictEntry} {r : List (Str × V)} {es : List DictEntry} (h : ∃ t, e.hash = PyData.keyHash w.params k ∧ e.key = .str k t ∧ RelV v e.val) (t : GEnts w r es) : GEnts w ((k, v) :: r) (e :: es)
def gKV (ks : List (Str × V)) : List (Key × V) := ks.map fun p => (Sum.inr p.1, p.2)
theorem GEnts.all {P : Program} {w : World} {ks : List (Str × V)} {es : List DictEntry} (g : GEnts w ks es) : (∀ e, e ∈ es → ∃ k, (mixKind P w).is k e.key = true ∧ e.hash = (mixKind P w).hash k) ∧ ∃ vs, KV (gKV ks) vs ∧ Pairs (mixKind P w) es vs ∧ vs.map (fun x => x.fst) = ks.map fun p => (Sum.inr p.1 : Key) := by
  induction g with
  | nil => exact ⟨fun e m => (nomatch m), [], .nil, .nil, rfl⟩
  | @cons k v e r es h t ih =>
    obtain ⟨tk, h1, h2, h3⟩ := h
    obtain ⟨ia, vs, i1, i2, i3⟩ := ih
    have hk : (mixKind P w).is (Sum.inr k : Key) e.key = true := by
      rw [h2]
      exact kV_is (k := Sum.inr k) ⟨_, rfl⟩
    refine ⟨fun e' m => ?_, (Sum.inr k, e.val) :: vs, .cons ⟨rfl, h3⟩ i1, .cons hk rfl i2, by simp [i3]⟩
    rcases List.mem_cons.mp m with rfl | m
    · exact ⟨Sum.inr k, hk, h1⟩
    · exact ia e' m
def GDict (w : World) (K : PySem.W.Frag) (a : Addr) (ks : List (Str × V)) : Prop := ∃ es ep, K.lookup a = some ⟨.type "dict", none, .dict es ep, #[]⟩ ∧ (a == sysModules) = false ∧ GEnts w ks es.toList ∧ (ks.map fun p => (Sum.inr p.1 : Key)).Nodup
theorem GDict.at {w : World} {P : Program} {K : PySem.W.Frag} {a : Addr} {ks : List (Str × V)} {h : Heap} (g : GDict w K a ks) (kin : K.In h) : (a == sysModules) = false ∧ ∃ vs, KV (gKV ks) vs ∧ h.DictOf (mixKind P w) a vs := by
  obtain ⟨es, ep, lk, ns, ge, nd⟩ := g
  obtain ⟨ia, vs, i1, i2, i3⟩ := ge.all (P := P)
  exact ⟨ns, vs, i1, _, es, ep, kin _ _ lk, ⟨rfl, rfl, rfl⟩, rfl, fun e m => ia e (Array.mem_toList_iff.mpr m), i2, by rw [i3]; exact nd⟩
def tGGet2 (a : Addr) (ks : List (Str × V)) (td ty tx : TE) : TE := fun σ H Q => td σ H fun x H1 => x = .ref a ∧ ty σ H1 fun y H2 => tx σ H2 fun z H3 => ∃ k, y = .str k ∧ Q ((valV (gKV ks) (Sum.inr k)).getD z) H3
theorem pe_gdget2 {o e f : Expr} {apos cpos : Pos} {td ty tx : TE} {a : Addr} {ks : List (Str × V)} (g : GDict X.w X.K a ks) (ho : PE X o td) (he : PE X e ty) (hf : PE X f tx) (m : M2 X o "get" apos e f cpos) : PE X (.Call (.Attribute o "get" apos) [e, f] [] cpos) (tGGet2 a ks td ty tx) := by
  intro pins s σ H Q I h
  refine wpAny_Call_method m.base m.few m.line PySem.F.plainAttrs_dict PySem.F.slot_dict_get PySem.F.type_dict_get (thn (ho pins s σ H _ I h) fun u s1 ⟨x, H1, I1, rx, ex, q1⟩ => ?_)
  subst ex
  obtain rfl : u = Value.ref a := rx
  obtain ⟨ns1, vs1, k1, d1⟩ := g.at (P := X.prog) I1.kIn
  obtain ⟨ob, es, ep, g1, g2, _⟩ := id d1
  refine ⟨d1.typeIs, fun b q => ?_, ?_⟩
  · cases q
    exact ⟨ob, g1, g2.2.1⟩
  rw [m.trees]
  refine Calls.callWith_builtin rfl (Calls.evalArgs_plain (Calls.spliced_cons (thn (he pins s1 σ H1 _ I1 q1) fun iv s2 ⟨y, H2, I2, ry, q2⟩ =>
    Calls.spliced_cons (thn (hf pins s2 σ H2 _ I2 q2) fun fv s3 ⟨z, H3, I3, rz, k, ek, q3⟩ => Calls.spliced_nil ?_))))
  subst ek
  obtain ⟨ns3, vs3, k3, d3⟩ := g.at (P := X.prog) I3.kIn
  refine call_meetsIn PySem.F.slot_dict_get d3.typeIs PySem.F.entry_dict_get (PySem.F.args_dict_get_3 _ _ _) (meets_dict_get_default (mixKind X.prog X.w) a (kV_is (k := Sum.inr k) ry) ns3 fv) ⟨_, d3.mapOf, _, H3, I3.tok _, ?_, q3⟩
  exact (k3.val (Sum.inr k)).getD rz
end
end L2

namespace L2
open PySem PySem.Spec PyProof.Rows
section
variable {X : Cx}
theorem mt_joinT : MtR X "str.join" (fun x vs H Q => ∃ z p ys, x = .str z ∧ vs = [.ref p] ∧ SqT X.K H p (ys.map V.str) ∧ (ys.map fun y => y.length).sum + ys.length * z.length ≤ 16777216 ∧ Q (.str (Txt.join z ys)) H) := by
  intro pins s σ H x xs v us Q I rx r h
  obtain ⟨z, p, ys, rfl, rfl, hq, hz, q⟩ := h
  obtain ⟨t, rfl⟩ := rx
  obtain ⟨u, rfl, ru⟩ := Vals.one r
  cases ru
  obtain ⟨its, rv, pl, hl⟩ := I.tuple hq
  exact join_tuple pl (strsAre_of rv) hz fun t' k => ⟨.str _, H, I.tok k, ⟨_, rfl⟩, q⟩
end
end L2

namespace Ld
open PySem L2
def letter (c : Nat) : Bool := decide (97 ≤ c) && decide (c ≤ 122)
def nameS (z : Str) : Bool := decide (1 ≤ z.length) && decide (z.length ≤ 8) && !decide (z = "sea") && z.cps.toList.all letter
def isInt : Dv → Bool
  | .int _ => true
  | _ => false
def isBl : Dv → Bool
  | .bl _ => true
  | _ => false
def isStr : Dv → Bool
  | .str _ => true
  | _ => false
def isLst : Dv → Bool
  | .lst _ => true
  | _ => false
def isTup : Dv → Bool
  | .tup _ => true
  | _ => false
def tupIs (n : Int) : Dv → Bool
  | .tup ds => decide ((ds.length : Int) = n)
  | _ => false
def lstIn (n : Int) : Dv → Bool
  | .lst ds => decide (1 ≤ ds.length) && decide ((ds.length : Int) ≤ n)
  | _ => false
def isName : Dv → Bool
  | .str z => nameS z
  | _ => false
def hgt (i : Int) : Bool := decide (-1000000 ≤ i) && decide (i ≤ 1000000)
def amt (i : Int) : Bool := decide (0 ≤ i) && decide (i ≤ 1000000)
def isHeight : Dv → Bool
  | .int i => hgt i
  | _ => false
def isAmount : Dv → Bool
  | .int i => amt i
  | _ => false
def oneOf (zs : List Str) : Dv → Bool
  | .str z => decide (z ∈ zs)
  | _ => false
def firstS : Dv → Option Str
  | .tup (.str z :: _) => some z
  | _ => none
def isField : Dv → Bool
  | .tup [a, b, c] => isName a && (isHeight b && isAmount c)
  | _ => false
def areFields : Dv → Bool
  | .lst ds => (decide (1 ≤ ds.length) && decide (ds.length ≤ 12)) && (ds.all isField && decide ((ds.map firstS).Nodup))
  | _ => false
def areSides (zs : List Str) (a b : Dv) : Bool := oneOf zs a && (oneOf zs b && !deq a b)
def isSill (c : Dv) : Dv → Bool
  | .non => true
  | .int i => hgt i && (match c with | .int j => decide (i < j) | _ => false)
  | _ => false
def isDyke (zs : List Str) : Dv → Bool
  | .tup [n, a, b, c, r, s] => isName n && areSides zs a b && (isHeight c && (isAmount r && isSill c s))
  | _ => false
def areDykes (zs : List Str) : Dv → Bool
  | .lst ds => (decide (1 ≤ ds.length) && decide (ds.length ≤ 40)) && (ds.all (isDyke zs) && decide ((ds.map firstS).Nodup))
  | _ => false
mutual
def small : Dv → Bool
  | .str z => decide (z.length ≤ 1000)
  | .lst ds => decide (ds.length ≤ 1000) && smallL ds
  | .tup ds => decide (ds.length ≤ 1000) && smallL ds
  | _ => true
def smallL : List Dv → Bool
  | [] => true
  | d :: ds => small d && smallL ds
end
theorem smallL_mem : ∀ {ds : List Dv} {d : Dv}, smallL ds = true → d ∈ ds → small d = true
  | [], _, _, m => by cases m
  | e :: ds, d, f, m => by
    rw [smallL, Bool.and_eq_true] at f
    rcases List.mem_cons.mp m with rfl | m
    · exact f.1
    · exact smallL_mem f.2 m
theorem small_tup {ds : List Dv} (h : small (.tup ds) = true) : smallL ds = true := (Bool.and_eq_true_iff.mp (show (decide (ds.length ≤ 1000) && smallL ds) = true from h)).2
theorem Is_kit (K : PySem.W.Frag) {H : Hp} {d : Dv} {x : V} (h : Is H d x) : ∃ t, TyOf K H x t ∧ PySem.W.kitOne K t (.type "int") = some (isInt d || isBl d) ∧ PySem.W.kitOne K t (.type "bool") = some (isBl d) ∧
    PySem.W.kitOne K t (.type "str") = some (isStr d) ∧ PySem.W.kitOne K t (.type "list") = some (isLst d) ∧ PySem.W.kitOne K t (.type "tuple") = some (isTup d) := by
  cases d with
  | non => cases (show x = .non from h); exact ⟨_, .non, rfl, rfl, rfl, rfl, rfl⟩
  | bl b => cases (show x = .bl b from h); exact ⟨_, .bl b, rfl, kit_self _ _, rfl, rfl, rfl⟩
  | int i => cases (show x = .int i from h); exact ⟨_, .int i, kit_self _ _, rfl, rfl, rfl, rfl⟩
  | str z => cases (show x = .str z from h); exact ⟨_, .str z, rfl, rfl, kit_self _ _, rfl, rfl⟩
  | lst ds => obtain ⟨a, vs, rfl, e, _⟩ := h; exact ⟨_, .lst e, rfl, rfl, rfl, kit_self _ _, rfl⟩
  | tup ds => obtain ⟨a, vs, rfl, e, _⟩ := h; exact ⟨_, .tup e, rfl, rfl, rfl, rfl, kit_self _ _⟩
  | dct ks ds => obtain ⟨a, vs, rfl, e, _⟩ := h; exact ⟨_, .dK e, rfl, rfl, rfl, rfl, rfl⟩
theorem letters_list : ("abcdefghijklmnopqrstuvwxyz" : Str).cps.toList = [97, 98, 99, 100, 101, 102, 103, 104, 105, 106, 107, 108, 109, 110, 111, 112, 113, 114, 115, 116, 117, 118, 119, 120, 121, 122] := by decide +kernel
theorem in_letters (c : Nat) : (!(Builtin.Str.occurrences ("abcdefghijklmnopqrstuvwxyz" : Str) ⟨#[c]⟩ 0 ("abcdefghijklmnopqrstuvwxyz" : Str).length 1).isEmpty) = letter c := by
  rw [PySem.StrLaws.found_one, letters_list]
  have h1 : ∀ d, d ∈ ([97, 98, 99, 100, 101, 102, 103, 104, 105, 106, 107, 108, 109, 110, 111, 112, 113, 114, 115, 116, 117, 118, 119, 120, 121, 122] : List Nat) → 97 ≤ d ∧ d ≤ 122 := by decide
  have h2 : ∀ k, k < 26 → (97 + k) ∈ ([97, 98, 99, 100, 101, 102, 103, 104, 105, 106, 107, 108, 109, 110, 111, 112, 113, 114, 115, 116, 117, 118, 119, 120, 121, 122] : List Nat) := by decide
  unfold letter
  by_cases h : 97 ≤ c ∧ c ≤ 122
  · have e := h2 (c - 97) (by omega)
    rw [show 97 + (c - 97) = c by omega] at e
    rw [decide_eq_true e, decide_eq_true h.1, decide_eq_true h.2]
    rfl
  · have e : ¬ c ∈ ([97, 98, 99, 100, 101, 102, 103, 104, 105, 106, 107, 108, 109, 110, 111, 112, 113, 114, 115, 116, 117, 118, 119, 120, 121, 122] : List Nat) := fun m => h (h1 c m)
    rw [decide_eq_false e]
    by_cases h' : 97 ≤ c
    · rw [decide_eq_true h', decide_eq_false (fun z => h ⟨h', z⟩)]
      rfl
    · rw [decide_eq_false h']
      rfl
def nmOf (d : Dv) : Str := (firstS d).getD ""
def keyOf (d : Dv) : Key := .inr (nmOf d)
theorem first_nm {d : Dv} {z : Str} (h : firstS d = some z) : nmOf d = z := by unfold nmOf; rw [h]; rfl
def landF (d1 d2 : Addr) : List (Str × V) := putF "dyke_rows" (.ref d2) (putF "field_rows" (.ref d1) [])
theorem fd_ne : ¬ (("field_rows" : Str) = "dyke_rows") := by decide +kernel
theorem landF_f (d1 d2 : Addr) : (landF d1 d2).lookup ("field_rows" : Str) = some (.ref d1) := by
  unfold landF
  rw [lookup_putF, if_neg fd_ne, lookup_putF, if_pos rfl]
theorem landF_d (d1 d2 : Addr) : (landF d1 d2).lookup ("dyke_rows" : Str) = some (.ref d2) := by
  unfold landF
  rw [lookup_putF, if_pos rfl]
theorem landF_no (d1 d2 : Addr) {m : Str} (h1 : ¬ m = "dyke_rows") (h2 : ¬ m = "field_rows") : (landF d1 d2).lookup m = none := by
  unfold landF
  rw [lookup_putF, if_neg h1, lookup_putF, if_neg h2]
  all_goals rfl
def Table (H : Hp) (a : Addr) (ds : List Dv) : Prop := ∃ kvs, H a = some (.dK kvs) ∧ kvs.map (·.1) = ds.map keyOf ∧ IsL H ds (kvs.map (·.2))
theorem Table.same {H H' : Hp} (S : Same H H') {a : Addr} {ds : List Dv} (h : Table H a ds) : Table H' a ds := by
  obtain ⟨kvs, e, k, i⟩ := h
  exact ⟨kvs, S _ _ e, k, IsL.same S _ _ i⟩
structure LandAt (C : Addr) (H : Hp) (x : Addr) (fs ds : List Dv) : Prop where
  ex : ∃ dx d1 d2, H x = some (.ins C dx (landF d1 d2)) ∧ Table H d1 fs ∧ Table H d2 ds
  okf : areFields (.lst fs) = true
  okd : areDykes ("sea" :: fs.map nmOf) (.lst ds) = true
theorem LandAt.same {C : Addr} {H H' : Hp} (S : Same H H') {x : Addr} {fs ds : List Dv} (h : LandAt C H x fs ds) : LandAt C H' x fs ds := by
  obtain ⟨⟨dx, d1, d2, e, t1, t2⟩, a, b⟩ := h
  exact ⟨⟨dx, d1, d2, S _ _ e, t1.same S, t2.same S⟩, a, b⟩
theorem firsts_nm : ∀ {ds : List Dv} {p : Dv → Bool}, (∀ d, p d = true → ∃ z, firstS d = some z) → ds.all p = true → ds.map firstS = (ds.map nmOf).map some
  | [], _, _, _ => rfl
  | d :: ds, p, hp, h => by
    rw [List.all_cons, Bool.and_eq_true] at h
    obtain ⟨z, e⟩ := hp d h.1
    rw [List.map_cons, List.map_cons, List.map_cons, firsts_nm hp h.2, first_nm e, e]
theorem nodup_some (zs : List Str) : (zs.map some).Nodup ↔ zs.Nodup := by
  induction zs with
  | nil => simp
  | cons z zs ih =>
    rw [List.map_cons, List.nodup_cons, List.nodup_cons, ih]
    simp
theorem field_shape {d : Dv} (h : isField d = true) : ∃ z g e, d = .tup [.str z, .int g, .int e] ∧ nameS z = true ∧ hgt g = true ∧ amt e = true := by
  unfold isField at h
  split at h
  · rename_i a b c
    rw [Bool.and_eq_true, Bool.and_eq_true] at h
    obtain ⟨h1, h2, h3⟩ := h
    cases a with
    | str z =>
      cases b with
      | int g =>
        cases c with
        | int e => exact ⟨z, g, e, rfl, h1, h2, h3⟩
        | _ => cases h3
      | _ => cases h2
    | _ => cases h1
  · cases h
theorem field_first (d : Dv) (h : isField d = true) : ∃ z, firstS d = some z := by
  obtain ⟨z, _, _, rfl, _⟩ := field_shape h
  exact ⟨z, rfl⟩
theorem dyke_shape {zs : List Str} {d : Dv} (h : isDyke zs d = true) : ∃ n a b c r s, d = .tup [.str n, .str a, .str b, .int c, .int r, s] ∧ nameS n = true ∧ a ∈ zs ∧ b ∈ zs ∧ a ≠ b ∧ hgt c = true ∧ amt r = true ∧ isSill (.int c) s = true := by
  unfold isDyke at h
  split at h
  · rename_i n a b c r s
    rw [Bool.and_eq_true, Bool.and_eq_true, Bool.and_eq_true, Bool.and_eq_true] at h
    obtain ⟨⟨h1, h2⟩, h3, h4, h5⟩ := h
    unfold areSides at h2
    rw [Bool.and_eq_true, Bool.and_eq_true] at h2
    obtain ⟨h6, h7, h8⟩ := h2
    cases n with
    | str n =>
      cases a with
      | str a =>
        cases b with
        | str b =>
          cases c with
          | int c =>
            cases r with
            | int r =>
              refine ⟨n, a, b, c, r, s, rfl, h1, of_decide_eq_true h6, of_decide_eq_true h7, ?_, h3, h4, h5⟩
              intro z
              subst z
              have : (!(a == a)) = true := h8
              rw [beq_self_eq_true] at this
              cases this
            | _ => cases h4
          | _ => cases h3
        | _ => cases h7
      | _ => cases h6
    | _ => cases h1
  · cases h
theorem dyke_first {zs : List Str} (d : Dv) (h : isDyke zs d = true) : ∃ z, firstS d = some z := by
  obtain ⟨z, _, _, _, _, _, rfl, _⟩ := dyke_shape h
  exact ⟨z, rfl⟩
structure GoodF (fs : List Dv) : Prop where
  l1 : 1 ≤ fs.length
  l2 : fs.length ≤ 12
  all : ∀ d ∈ fs, isField d = true
  nd : (fs.map nmOf).Nodup
structure GoodD (zs : List Str) (ds : List Dv) : Prop where
  l1 : 1 ≤ ds.length
  l2 : ds.length ≤ 40
  all : ∀ d ∈ ds, isDyke zs d = true
  nd : (ds.map nmOf).Nodup
theorem goodF_iff (fs : List Dv) : areFields (.lst fs) = true ↔ GoodF fs := by
  show ((decide (1 ≤ fs.length) && decide (fs.length ≤ 12)) && (fs.all isField && decide ((fs.map firstS).Nodup))) = true ↔ _
  rw [Bool.and_eq_true, Bool.and_eq_true, Bool.and_eq_true, decide_eq_true_iff, decide_eq_true_iff, decide_eq_true_iff]
  constructor
  · rintro ⟨⟨a, b⟩, c, d⟩
    rw [firsts_nm field_first c, nodup_some] at d
    exact ⟨a, b, List.all_eq_true.mp c, d⟩
  · rintro ⟨a, b, c, d⟩
    have c' := List.all_eq_true.mpr c
    refine ⟨⟨a, b⟩, c', ?_⟩
    rw [firsts_nm field_first c', nodup_some]
    exact d
theorem goodD_iff (zs : List Str) (ds : List Dv) : areDykes zs (.lst ds) = true ↔ GoodD zs ds := by
  show ((decide (1 ≤ ds.length) && decide (ds.length ≤ 40)) && (ds.all (isDyke zs) && decide ((ds.map firstS).Nodup))) = true ↔ _
  rw [Bool.and_eq_true, Bool.and_eq_true, Bool.and_eq_true, decide_eq_true_iff, decide_eq_true_iff, decide_eq_true_iff]
  constructor
  · rintro ⟨⟨a, b⟩, c, d⟩
    rw [firsts_nm dyke_first c, nodup_some] at d
    exact ⟨a, b, List.all_eq_true.mp c, d⟩
  · rintro ⟨a, b, c, d⟩
    have c' := List.all_eq_true.mpr c
    refine ⟨⟨a, b⟩, c', ?_⟩
    rw [firsts_nm dyke_first c', nodup_some]
    exact d
def isNon : Dv → Bool
  | .non => true
  | _ => false
def hasSill : Dv → Bool
  | .tup [_, _, _, _, _, s] => !isNon s
  | _ => false
theorem isNon_is {H : Hp} {d : Dv} {v : V} (h : Is H d v) : decide (v = .non) = isNon d := by
  cases d with
  | non => cases (show v = .non from h); rfl
  | bl b => cases (show v = .bl b from h); exact decide_eq_false (by intro z; cases z)
  | int b => cases (show v = .int b from h); exact decide_eq_false (by intro z; cases z)
  | str b => cases (show v = .str b from h); exact decide_eq_false (by intro z; cases z)
  | lst b => obtain ⟨a, vs, rfl, _⟩ := h; exact decide_eq_false (by intro z; cases z)
  | tup b => obtain ⟨a, vs, rfl, _⟩ := h; exact decide_eq_false (by intro z; cases z)
  | dct b c => obtain ⟨a, vs, rfl, _⟩ := h; exact decide_eq_false (by intro z; cases z)
theorem smallL_of : ∀ {ds : List Dv}, (∀ d ∈ ds, small d = true) → smallL ds = true
  | [], _ => rfl
  | d :: ds, h => by
    rw [smallL, h d List.mem_cons_self, smallL_of fun e m => h e (List.mem_cons_of_mem _ m)]
    rfl
end Ld

namespace Mt02
open PySem L2 Ld
def alph (i : Nat) : Nat := if i < 18 then 97 + i else 98 + i
def rst (c : Int) : Nat → Int
  | 0 => c / 3
  | j + 1 => rst c j / 25
def num (o : Nat → Int) (c p b : Int) (k j : Nat) : Int := if (j : Int) = b then c / 17 + ((k : Int) / 25) else if (j : Int) = p then c / 11 + (k : Int) else o j
def code (o : Nat → Int) (c p b : Int) (k j : Nat) : Nat := alph (num o c p b k j % 25).toNat
def nm (o : Nat → Int) (c p b : Int) (n k : Nat) : Str := ⟨((List.range n).map (code o c p b k)).toArray⟩
theorem str_ext {x y : Str} (h : x.cps.toList = y.cps.toList) : x = y := by
  cases x; cases y
  simp only [Str.mk.injEq]
  exact Array.toList_inj.mp h
structure Names (zs : List Str) (n : Nat) : Prop where
  len : zs.length = n
  nd : zs.Nodup
  good : ∀ z ∈ zs, nameS z = true
end Mt02

namespace Mt04
open PySem L2 Ld
def crownD : Dv → Int
  | .tup [_, _, _, .int c, _, _] => c
  | _ => 0
def hOf : Dv → Int
  | .tup [_, .int h] => h
  | _ => 0
def crownOf (ds : List Dv) (z : Str) : Int := (ds.find? fun d => decide (nmOf d = z)).elim 0 crownD
def isWork (ds : List Dv) : Dv → Bool
  | .tup [.str z, .int h] => decide (z ∈ ds.map nmOf) && (hgt h && decide (crownOf ds z ≤ h))
  | _ => false
def areWorks (ds : List Dv) : Dv → Bool
  | .lst ws => ws.all (isWork ds) && decide ((ws.map firstS).Nodup)
  | _ => false
structure GoodW (ds ws : List Dv) : Prop where
  all : ∀ d ∈ ws, isWork ds d = true
  nd : (ws.map nmOf).Nodup
def wAt (ws : List Dv) (z : Str) : Option Int := (ws.find? fun d => decide (nmOf d = z)).map hOf
def newD (ws : List Dv) : Dv → Dv
  | .tup [.str n, a, b, .int c, r, s] => .tup [.str n, a, b, .int ((wAt ws n).getD c), r, s]
  | d => d
def raisedD (ds ws : List Dv) : List Dv := ds.map (newD ws)
def kvOf (d : Dv) : Key × V := (keyOf d, .int (hOf d))
end Mt04

namespace Mt13
open PySem L2 PySem.NumText
def dig (c : Nat) : Bool := decide (48 ≤ c) && decide (c ≤ 57)
def neg (z : Str) : Bool := z.cps.toList.head? == some 45
def figs (z : Str) : List Nat := if neg z then z.cps.toList.tail else z.cps.toList
def dueN (z : Str) : Option Int :=
  if (figs z).length < 1 then none else if 7 < (figs z).length then none
  else if ((figs z).head? == some 48) = true ∧ ¬ z = "0" then none
  else if (figs z).all dig then some (if neg z then -((digitsVal (figs z) : Nat) : Int) else ((digitsVal (figs z) : Nat) : Int)) else none
def dueV : V → V
  | .str z => match dueN z with | some n => .int n | none => .non
  | _ => .non
theorem dec_strs (a b : Str) : decide (V.str a = V.str b) = decide (a = b) := by
  by_cases h : a = b
  · rw [decide_eq_true h, decide_eq_true (by rw [h])]
  · rw [decide_eq_false h, decide_eq_false (fun q => h (V.str.inj q))]
theorem tail_codes (z : Str) : (Txt.slice z (some 1) none).cps.toList = z.cps.toList.tail := by
  rw [Tx.slice_codes, show (some (1 : Int)) = some ((1 : Nat) : Int) from rfl, Tx.cl_nat]
  show (z.cps.toList.drop (min 1 z.length)).take (z.length - min 1 z.length) = _
  have hl : z.length = z.cps.toList.length := by simp [Str.length]
  rw [hl]
  cases z.cps.toList with
  | nil => rfl
  | cons a r =>
    have e : min 1 (a :: r).length = 1 := by simp
    rw [e]
    show r.take ((a :: r).length - 1) = r
    simp
theorem starts_one (x : Str) (c : Nat) : (decide (0 + (⟨#[c]⟩ : Str).length ≤ x.length) && Builtin.Str.subAt x ⟨#[c]⟩ 0) = (x.cps.toList.head? == some c) := by
  have h := PySem.StrLaws.subAt_one x c 0
  rw [← List.head?_eq_getElem?] at h
  by_cases hh : x.cps.toList.head? = some c
  · obtain ⟨h1, h2⟩ := h.mpr hh
    rw [decide_eq_true h1, h2, hh]
    simp
  · have e : (x.cps.toList.head? == some c) = false := by simpa using hh
    rw [e]
    cases h3 : (decide (0 + (⟨#[c]⟩ : Str).length ≤ x.length) && Builtin.Str.subAt x ⟨#[c]⟩ 0) with
    | false => rfl
    | true =>
      obtain ⟨a, b⟩ := Bool.and_eq_true_iff.mp h3
      exact absurd (h.mp ⟨of_decide_eq_true a, b⟩) hh
theorem dash_is : ("-" : Str) = ⟨#[45]⟩ := by decide +kernel
theorem zero_is : ("0" : Str) = ⟨#[48]⟩ := by decide +kernel
theorem digits_list : ("0123456789" : Str).cps.toList = [48, 49, 50, 51, 52, 53, 54, 55, 56, 57] := by decide +kernel
theorem in_digits (c : Nat) : (!(Builtin.Str.occurrences ("0123456789" : Str) ⟨#[c]⟩ 0 ("0123456789" : Str).length 1).isEmpty) = dig c := by
  rw [PySem.StrLaws.found_one, digits_list]
  have h1 : ∀ d, d ∈ ([48, 49, 50, 51, 52, 53, 54, 55, 56, 57] : List Nat) → 48 ≤ d ∧ d ≤ 57 := by decide
  have h2 : ∀ k, k < 10 → (48 + k) ∈ ([48, 49, 50, 51, 52, 53, 54, 55, 56, 57] : List Nat) := by decide
  unfold dig
  by_cases h : 48 ≤ c ∧ c ≤ 57
  · have e : c ∈ ([48, 49, 50, 51, 52, 53, 54, 55, 56, 57] : List Nat) := by
      have := h2 (c - 48) (by omega)
      rwa [show 48 + (c - 48) = c by omega] at this
    rw [decide_eq_true e, decide_eq_true h.1, decide_eq_true h.2]
    rfl
  · have e : ¬ c ∈ ([48, 49, 50, 51, 52, 53, 54, 55, 56, 57] : List Nat) := fun m => h (h1 c m)
    rw [decide_eq_false e]
    by_cases h' : 48 ≤ c
    · rw [decide_eq_true h', decide_eq_false (fun z => h ⟨h', z⟩)]
      rfl
    · rw [decide_eq_false h']
      rfl
theorem dig_iff {c : Nat} : dig c = true ↔ 48 ≤ c ∧ c ≤ 57 := by
  unfold dig
  rw [Bool.and_eq_true_iff, decide_eq_true_iff, decide_eq_true_iff]
theorem all_digits {cs : List Nat} (h : cs.all dig = true) : AllDigits cs := fun c hc => dig_iff.mp (List.all_eq_true.mp h c hc)
theorem whole_text {z : Str} (h1 : figs z ≠ []) (h2 : z.length ≤ 100) (h3 : (figs z).all dig = true) : intText? z = some (if neg z then -((digitsVal (figs z) : Nat) : Int) else ((digitsVal (figs z) : Nat) : Int)) := by
  by_cases hn : neg z = true
  · rw [if_pos hn]
    have hf : figs z = z.cps.toList.tail := by unfold figs; rw [if_pos hn]
    have hz : z.cps.toList = 45 :: figs z := by
      rw [hf]
      unfold neg at hn
      cases e : z.cps.toList with
      | nil => rw [e] at hn; cases hn
      | cons a r =>
        rw [e] at hn
        have : a = 45 := by simpa using hn
        rw [this]
        rfl
    exact intText_neg hz (all_digits h3) h1 (by omega)
  · rw [if_neg hn]
    have hf : figs z = z.cps.toList := by unfold figs; rw [if_neg hn]
    have := intText_digits (x := z) (by rw [← hf]; exact all_digits h3) (by rw [← hf]; exact h1) (by omega)
    rw [this, hf]
theorem val_snoc (cs : List Nat) (c : Nat) : digitsVal (cs ++ [c]) = digitsVal cs * 10 + (c - 48) := by
  unfold digitsVal
  rw [List.foldl_append]
  rfl
theorem size_len {z sz : Str} (h : sz.cps.toList = figs z) : sz.length = (figs z).length := by
  rw [← h]
  simp [Str.length]
theorem figs_le (z : Str) : (figs z).length ≤ z.length := by
  have hl : z.length = z.cps.toList.length := by simp [Str.length]
  unfold figs
  split
  · rw [hl, List.length_tail]; omega
  · omega
end Mt13

namespace Mt11
open PySem L2
def cj (c : Nat) : List (List Nat) → List Nat
  | [] => []
  | [x] => x
  | x :: y :: r => x ++ c :: cj c (y :: r)
theorem cut_inj {c : Nat} : ∀ {x y t t' : List Nat}, c ∉ x → c ∉ y → x ++ c :: t = y ++ c :: t' → x = y ∧ t = t'
  | [], [], _, _, _, _, e => ⟨rfl, (List.cons.inj e).2⟩
  | [], b :: y, _, _, _, h2, e => absurd (by rw [(List.cons.inj e).1]; exact List.mem_cons_self) h2
  | a :: x, [], _, _, h1, _, e => absurd (by rw [← (List.cons.inj e).1]; exact List.mem_cons_self) h1
  | a :: x, b :: y, _, _, h1, h2, e => by
    obtain ⟨e1, e2⟩ := List.cons.inj e
    obtain ⟨r1, r2⟩ := cut_inj (fun m => h1 (List.mem_cons_of_mem _ m)) (fun m => h2 (List.mem_cons_of_mem _ m)) e2
    exact ⟨by rw [e1, r1], r2⟩
theorem cj_inj {c : Nat} : ∀ {xs ys : List (List Nat)}, xs ≠ [] → ys ≠ [] → (∀ x ∈ xs, c ∉ x) → (∀ y ∈ ys, c ∉ y) → cj c xs = cj c ys → xs = ys
  | [], _, h, _, _, _, _ => absurd rfl h
  | _, [], _, h, _, _, _ => absurd rfl h
  | [x], [y], _, _, _, _, e => by rw [show x = y from e]
  | [x], y :: z :: r, _, _, h1, _, e => by
    have e' : x = y ++ c :: cj c (z :: r) := e
    exact absurd (by rw [e']; exact List.mem_append_right _ List.mem_cons_self) (h1 x List.mem_cons_self)
  | x :: z :: r, [y], _, _, _, h2, e => by
    have e' : x ++ c :: cj c (z :: r) = y := e
    exact absurd (by rw [← e']; exact List.mem_append_right _ List.mem_cons_self) (h2 y List.mem_cons_self)
  | x :: a :: r, y :: b :: t, _, _, h1, h2, e => by
    have e' : x ++ c :: cj c (a :: r) = y ++ c :: cj c (b :: t) := e
    obtain ⟨e1, e2⟩ := cut_inj (h1 x List.mem_cons_self) (h2 y List.mem_cons_self) e'
    rw [e1, cj_inj (xs := a :: r) (ys := b :: t) (by simp) (by simp) (fun u m => h1 u (List.mem_cons_of_mem _ m)) (fun u m => h2 u (List.mem_cons_of_mem _ m)) e2]
theorem join_cj (c : Nat) : ∀ ps : List Str, (Str.join ⟨#[c]⟩ ps).cps.toList = cj c (ps.map fun p => p.cps.toList)
  | [] => rfl
  | [p] => rfl
  | p :: q :: r => by
    show (p ++ (⟨#[c]⟩ : Str) ++ Str.join ⟨#[c]⟩ (q :: r)).cps.toList = p.cps.toList ++ c :: cj c ((q :: r).map fun p => p.cps.toList)
    rw [Tx.app_codes, Tx.app_codes, join_cj c (q :: r), List.append_assoc]
    rfl
theorem split_ne {x y : Str} : Txt.split x y ≠ [] := by
  unfold Txt.split
  split
  · simp
  · split
    · simp
    · rw [StrLaws.partsBetween_eq]
      intro h
      have : ∀ (k : Nat) (cs : List Nat), StrLaws.partsFrom x y.length k cs ≠ [] := fun k cs => by
        cases cs with
        | nil => simp [StrLaws.partsFrom]
        | cons a b => simp [StrLaws.partsFrom]
      exact this _ _ h
theorem split_join {c : Nat} {ps : List Str} (hne : ps ≠ []) (free : ∀ p ∈ ps, c ∉ p.cps.toList) : Txt.split (Str.join ⟨#[c]⟩ ps) ⟨#[c]⟩ = ps := by
  have h1 := StrLaws.join_split (Str.join ⟨#[c]⟩ ps) ⟨#[c]⟩
  have h2 := congrArg (fun z : Str => z.cps.toList) h1
  simp only [join_cj] at h2
  have h3 := cj_inj (by simpa using split_ne) (by simpa using hne) (fun x m => by
    obtain ⟨p, mp, rfl⟩ := List.mem_map.mp m
    exact StrLaws.split_free _ c p mp) (fun x m => by
    obtain ⟨p, mp, rfl⟩ := List.mem_map.mp m
    exact free p mp) h2
  have inj : ∀ {as bs : List Str}, (as.map fun p => p.cps.toList) = (bs.map fun p => p.cps.toList) → as = bs := fun {as} => by
    induction as with
    | nil => intro bs h; cases bs with
      | nil => rfl
      | cons b t => cases h
    | cons a r ih =>
      intro bs h
      cases bs with
      | nil => cases h
      | cons b t =>
        obtain ⟨e1, e2⟩ := List.cons.inj h
        rw [Mt02.str_ext e1, ih e2]
  exact inj h3
end Mt11

namespace Mt11
open PySem PySem.NumText L2 Mt13
def dg (n : Nat) : List Nat := (Nat.toDigits 10 n).map Char.toNat
theorem dg_lt {n : Nat} (h : n < 10) : dg n = [48 + n] := by
  unfold dg
  rw [Nat.toDigits_of_lt_base h]
  have : ∀ d : Nat, d < 10 → [Nat.digitChar d].map Char.toNat = [48 + d] := by decide
  exact this n h
theorem dg_ge {n : Nat} (h : 10 ≤ n) : dg n = dg (n / 10) ++ [48 + n % 10] := by
  have e : 10 * (n / 10) + n % 10 = n := Nat.div_add_mod n 10
  have := Nat.toDigits_append_toDigits (b := 10) (n := n / 10) (d := n % 10) (by decide) (by omega) (Nat.mod_lt _ (by decide))
  rw [e] at this
  rw [← dg_lt (Nat.mod_lt n (by decide : 0 < 10))]
  unfold dg
  rw [← this, List.map_append]
theorem dg_all (n : Nat) : ∀ c ∈ dg n, 48 ≤ c ∧ c ≤ 57 := by
  induction n using Nat.strongRecOn with
  | ind n ih =>
    intro c mc
    by_cases h : n < 10
    · rw [dg_lt h, List.mem_singleton] at mc
      omega
    · rw [dg_ge (by omega)] at mc
      rcases List.mem_append.mp mc with m | m
      · exact ih (n / 10) (by omega) c m
      · rw [List.mem_singleton] at m
        have := Nat.mod_lt n (by decide : 0 < 10)
        omega
theorem dg_val (n : Nat) : digitsVal (dg n) = n := by
  induction n using Nat.strongRecOn with
  | ind n ih =>
    by_cases h : n < 10
    · rw [dg_lt h]
      show 0 * 10 + (48 + n - 48) = n
      omega
    · rw [dg_ge (by omega), val_snoc, ih (n / 10) (by omega)]
      omega
theorem dg_len : ∀ (k n : Nat), n < 10 ^ (k + 1) → 1 ≤ (dg n).length ∧ (dg n).length ≤ k + 1
  | 0, n, h => by
    rw [dg_lt (by simpa using h)]
    exact ⟨Nat.le_refl _, Nat.le_refl _⟩
  | k + 1, n, h => by
    by_cases h10 : n < 10
    · rw [dg_lt h10]
      exact ⟨Nat.le_refl _, by show 1 ≤ _; omega⟩
    · have := dg_len k (n / 10) (by rw [Nat.pow_succ] at h; exact Nat.div_lt_of_lt_mul (by rw [Nat.mul_comm]; exact h))
      rw [dg_ge (by omega), List.length_append]
      exact ⟨by show 1 ≤ _ + 1; omega, by show _ + 1 ≤ _; omega⟩
theorem dg_head (n : Nat) (h : 0 < n) : (dg n).head? ≠ some 48 := by
  induction n using Nat.strongRecOn with
  | ind n ih =>
    by_cases h10 : n < 10
    · rw [dg_lt h10]
      intro e
      have : 48 + n = 48 := Option.some.inj e
      omega
    · have hne : dg (n / 10) ≠ [] := fun e => by
        have := dg_val (n / 10)
        rw [e] at this
        have : 0 = n / 10 := this
        omega
      rw [dg_ge (by omega)]
      have := ih (n / 10) (by omega) (by omega)
      cases hd : dg (n / 10) with
      | nil => exact absurd hd hne
      | cons a b => rw [hd] at this; exact this
theorem int_codes (i : Int) : (Str.ofString (toString i)).cps.toList = if i < 0 then 45 :: dg i.natAbs else dg i.natAbs := by
  rw [Str.ofString_eq_toList]
  show (((toString i).toList.map Char.toNat).toArray).toList = _
  rw [List.toList_toArray]
  cases i with
  | ofNat n =>
    rw [if_neg (by simp)]
    show (Nat.repr n).toList.map Char.toNat = dg n
    unfold dg Nat.repr
    rw [String.toList_ofList]
  | negSucc n =>
    rw [if_pos (Int.negSucc_lt_zero n)]
    show ("-" ++ Nat.repr (n + 1)).toList.map Char.toNat = 45 :: dg (n + 1)
    rw [String.toList_append, List.map_append]
    unfold dg Nat.repr
    simp only [String.toList_ofList]
    rfl
theorem int_signs (i : Int) : ∀ c ∈ (Str.ofString (toString i)).cps.toList, c = 45 ∨ (48 ≤ c ∧ c ≤ 57) := by
  intro c mc
  rw [int_codes] at mc
  split at mc
  · rcases List.mem_cons.mp mc with rfl | m
    · exact .inl rfl
    · exact .inr (dg_all _ c m)
  · exact .inr (dg_all _ c mc)
theorem neg_int (i : Int) : neg (Str.ofString (toString i)) = decide (i < 0) := by
  unfold neg
  rw [int_codes]
  by_cases h : i < 0
  · rw [if_pos h, decide_eq_true h]
    rfl
  · rw [if_neg h, decide_eq_false h]
    cases hd : dg i.natAbs with
    | nil => rfl
    | cons a b =>
      have := dg_all i.natAbs a (by rw [hd]; exact List.mem_cons_self)
      show (some a == some 45) = false
      have ne : a ≠ 45 := by omega
      simp [ne]
theorem figs_int (i : Int) : figs (Str.ofString (toString i)) = dg i.natAbs := by
  unfold figs
  rw [neg_int, int_codes]
  by_cases h : i < 0
  · rw [decide_eq_true h, if_pos rfl, if_pos h]
    rfl
  · rw [decide_eq_false h, if_neg (by simp), if_neg h]
theorem due_int {i : Int} (h : i.natAbs < 10000000) : dueN (Str.ofString (toString i)) = some i := by
  obtain ⟨l1, l2⟩ := dg_len 6 i.natAbs h
  have all : (dg i.natAbs).all dig = true := List.all_eq_true.mpr fun c mc => by
    have := dg_all _ c mc
    exact dig_iff.mpr this
  unfold dueN
  rw [figs_int, neg_int, if_neg (by omega), if_neg (by omega), if_pos all, dg_val]
  have z : ¬ (((dg i.natAbs).head? == some 48) = true ∧ ¬ Str.ofString (toString i) = "0") := fun ⟨a, b⟩ => by
    by_cases h0 : i = 0
    · rw [h0] at b
      exact b rfl
    · exact dg_head i.natAbs (by omega) (by simpa using a)
  rw [if_neg z]
  by_cases hn : i < 0
  · rw [decide_eq_true hn, if_pos rfl]
    congr 1
    omega
  · rw [decide_eq_false hn, if_neg (by simp)]
    congr 1
    omega
end Mt11

namespace K42
open PySem L2
def top (i : Nat) : Stmt := PySem.Challenge.pw_dykemoot_k42_decrees_written_and_read.main.body.getD i (.Pass ⟨0, 0, 0, 0⟩)
abbrev s_p_wall : Stmt := top 0
abbrev s_p_is_whole : Stmt := top 13
theorem sc_p_is_whole : FnScope ["thing"] ["thing"] (defScope s_p_is_whole) := ⟨rfl, rfl, rfl, by decide +kernel, rfl, by decide +kernel, by decide +kernel⟩
abbrev s_p_is_name : Stmt := top 14
theorem sc_p_is_name : FnScope ["thing"] ["thing"] (defScope s_p_is_name) := ⟨rfl, rfl, rfl, by decide +kernel, rfl, by decide +kernel, by decide +kernel⟩
abbrev s_p_is_height : Stmt := top 15
theorem sc_p_is_height : FnScope ["thing"] ["thing"] (defScope s_p_is_height) := ⟨rfl, rfl, rfl, by decide +kernel, rfl, by decide +kernel, by decide +kernel⟩
abbrev s_p_is_amount : Stmt := top 16
theorem sc_p_is_amount : FnScope ["thing"] ["thing"] (defScope s_p_is_amount) := ⟨rfl, rfl, rfl, by decide +kernel, rfl, by decide +kernel, by decide +kernel⟩
abbrev s_p_is_one_of : Stmt := top 17
theorem sc_p_is_one_of : FnScope ["thing", "names"] ["thing", "names"] (defScope s_p_is_one_of) := ⟨rfl, rfl, rfl, by decide +kernel, rfl, by decide +kernel, by decide +kernel⟩
abbrev s_p_is_list_of : Stmt := top 18
theorem sc_p_is_list_of : FnScope ["thing", "most"] ["thing", "most"] (defScope s_p_is_list_of) := ⟨rfl, rfl, rfl, by decide +kernel, rfl, by decide +kernel, by decide +kernel⟩
abbrev s_p_is_tuple_of : Stmt := top 19
theorem sc_p_is_tuple_of : FnScope ["thing", "length"] ["thing", "length"] (defScope s_p_is_tuple_of) := ⟨rfl, rfl, rfl, by decide +kernel, rfl, by decide +kernel, by decide +kernel⟩
abbrev s_p_none_twice : Stmt := top 20
theorem sc_p_none_twice : FnScope ["rows"] ["rows"] (defScope s_p_none_twice) := ⟨rfl, rfl, rfl, by decide +kernel, rfl, by decide +kernel, by decide +kernel⟩
abbrev s_p_is_field : Stmt := top 21
theorem sc_p_is_field : FnScope ["thing"] ["thing"] (defScope s_p_is_field) := ⟨rfl, rfl, rfl, by decide +kernel, rfl, by decide +kernel, by decide +kernel⟩
abbrev s_p_are_fields : Stmt := top 22
theorem sc_p_are_fields : FnScope ["thing"] ["thing"] (defScope s_p_are_fields) := ⟨rfl, rfl, rfl, by decide +kernel, rfl, by decide +kernel, by decide +kernel⟩
abbrev s_p_are_sides : Stmt := top 23
theorem sc_p_are_sides : FnScope ["one", "other", "sides"] ["one", "other", "sides"] (defScope s_p_are_sides) := ⟨rfl, rfl, rfl, by decide +kernel, rfl, by decide +kernel, by decide +kernel⟩
abbrev s_p_is_sill : Stmt := top 24
theorem sc_p_is_sill : FnScope ["thing", "crown"] ["thing", "crown"] (defScope s_p_is_sill) := ⟨rfl, rfl, rfl, by decide +kernel, rfl, by decide +kernel, by decide +kernel⟩
abbrev s_p_is_dyke : Stmt := top 25
theorem sc_p_is_dyke : FnScope ["thing", "sides"] ["thing", "sides"] (defScope s_p_is_dyke) := ⟨rfl, rfl, rfl, by decide +kernel, rfl, by decide +kernel, by decide +kernel⟩
abbrev s_p_are_dykes : Stmt := top 26
theorem sc_p_are_dykes : FnScope ["thing", "sides"] ["thing", "sides"] (defScope s_p_are_dykes) := ⟨rfl, rfl, rfl, by decide +kernel, rfl, by decide +kernel, by decide +kernel⟩
abbrev s_land_pinit : Stmt := inClass (top 27) 0
theorem sc_land_pinit : FnScope ["self", "fields", "dykes"] ["self", "fields", "dykes"] (defScope s_land_pinit) := ⟨rfl, rfl, rfl, by decide +kernel, rfl, by decide +kernel, by decide +kernel⟩
abbrev s_land_p_fields : Stmt := inClass (top 27) 1
abbrev s_land_p_dykes : Stmt := inClass (top 27) 2
theorem sc_land_p_dykes : FnScope ["self"] ["self"] (defScope s_land_p_dykes) := ⟨rfl, rfl, rfl, by decide +kernel, rfl, by decide +kernel, by decide +kernel⟩
abbrev s_land_p_field_names : Stmt := inClass (top 27) 3
theorem sc_land_p_field_names : FnScope ["self"] ["self"] (defScope s_land_p_field_names) := ⟨rfl, rfl, rfl, by decide +kernel, rfl, by decide +kernel, by decide +kernel⟩
abbrev s_land_p_dyke_names : Stmt := inClass (top 27) 4
abbrev s_land_p_sluices : Stmt := inClass (top 27) 5
theorem sc_land_p_sluices : FnScope ["self"] ["self"] (defScope s_land_p_sluices) := ⟨rfl, rfl, rfl, by decide +kernel, rfl, by decide +kernel, by decide +kernel⟩
abbrev s_land_p_ground : Stmt := inClass (top 27) 6
abbrev s_land_p_dues : Stmt := inClass (top 27) 7
abbrev s_land_p_dyke : Stmt := inClass (top 27) 8
abbrev s_p_number_within : Stmt := top 31
theorem sc_p_number_within : FnScope ["word", "most", "figures"] ["word", "most"] (defScope s_p_number_within) := ⟨rfl, rfl, rfl, by decide +kernel, rfl, by decide +kernel, by decide +kernel⟩
abbrev s_p_number_of : Stmt := top 32
theorem sc_p_number_of : FnScope ["word"] ["word"] (defScope s_p_number_of) := ⟨rfl, rfl, rfl, by decide +kernel, rfl, by decide +kernel, by decide +kernel⟩
abbrev s_p_is_day_of : Stmt := top 41
theorem sc_p_is_day_of : FnScope ["number", "turn"] ["number", "turn"] (defScope s_p_is_day_of) := ⟨rfl, rfl, rfl, by decide +kernel, rfl, by decide +kernel, by decide +kernel⟩
abbrev s_p_is_condition : Stmt := top 42
theorem sc_p_is_condition : FnScope ["thing", "fields"] ["thing", "fields"] (defScope s_p_is_condition) := ⟨rfl, rfl, rfl, by decide +kernel, rfl, by decide +kernel, by decide +kernel⟩
abbrev s_p_is_decree : Stmt := top 43
theorem sc_p_is_decree : FnScope ["thing", "sluices", "fields"] ["thing", "sluices", "fields"] (defScope s_p_is_decree) := ⟨rfl, rfl, rfl, by decide +kernel, rfl, by decide +kernel, by decide +kernel⟩
abbrev s_p_are_decrees : Stmt := top 44
theorem sc_p_are_decrees : FnScope ["land", "thing", "sluices", "fields"] ["land", "thing"] (defScope s_p_are_decrees) := ⟨rfl, rfl, rfl, by decide +kernel, rfl, by decide +kernel, by decide +kernel⟩
abbrev s_p_show_condition : Stmt := top 45
theorem sc_p_show_condition : FnScope ["condition", "words"] ["condition"] (defScope s_p_show_condition) := ⟨rfl, rfl, rfl, by decide +kernel, rfl, by decide +kernel, by decide +kernel⟩
abbrev s_p_show_decree : Stmt := top 46
theorem sc_p_show_decree : FnScope ["decree", "conditions"] ["decree"] (defScope s_p_show_decree) := ⟨rfl, rfl, rfl, by decide +kernel, rfl, by decide +kernel, by decide +kernel⟩
abbrev s_p_show_decrees : Stmt := top 47
theorem sc_p_show_decrees : FnScope ["decrees"] ["decrees"] (defScope s_p_show_decrees) := ⟨rfl, rfl, rfl, by decide +kernel, rfl, by decide +kernel, by decide +kernel⟩
abbrev s_p_condition_in : Stmt := top 48
theorem sc_p_condition_in : FnScope ["words"] ["words"] (defScope s_p_condition_in) := ⟨rfl, rfl, rfl, by decide +kernel, rfl, by decide +kernel, by decide +kernel⟩
abbrev s_p_conditions_in : Stmt := top 49
theorem sc_p_conditions_in : FnScope ["words", "conditions", "place", "count"] ["words"] (defScope s_p_conditions_in) := ⟨rfl, rfl, rfl, by decide +kernel, rfl, by decide +kernel, by decide +kernel⟩
abbrev s_p_decree_in : Stmt := top 50
theorem sc_p_decree_in : FnScope ["row", "words"] ["row"] (defScope s_p_decree_in) := ⟨rfl, rfl, rfl, by decide +kernel, rfl, by decide +kernel, by decide +kernel⟩
abbrev s_p_read_decrees : Stmt := top 51
theorem sc_p_read_decrees : FnScope ["land", "text", "decrees"] ["land", "text"] (defScope s_p_read_decrees) := ⟨rfl, rfl, rfl, by decide +kernel, rfl, by decide +kernel, by decide +kernel⟩
abbrev s_l_cell_at : Stmt := top 53
theorem sc_l_cell_at : FnScope ["_law_script", "_law_k"] ["_law_script", "_law_k"] (defScope s_l_cell_at) := ⟨rfl, rfl, rfl, by decide +kernel, rfl, by decide +kernel, by decide +kernel⟩
abbrev s_l_mixed : Stmt := top 54
theorem sc_l_mixed : FnScope ["_law_cell", "_law_k", "_law_number", "_law_j"] ["_law_cell", "_law_k"] (defScope s_l_mixed) := ⟨rfl, rfl, rfl, by decide +kernel, rfl, by decide +kernel, by decide +kernel⟩
abbrev s_l_height : Stmt := top 55
theorem sc_l_height : FnScope ["_law_number"] ["_law_number"] (defScope s_l_height) := ⟨rfl, rfl, rfl, by decide +kernel, rfl, by decide +kernel, by decide +kernel⟩
abbrev s_l_plots : Stmt := top 56
theorem sc_l_plots : FnScope ["_law_cell", "_law_names", "_law_start"] ["_law_cell"] (defScope s_l_plots) := ⟨rfl, rfl, rfl, by decide +kernel, rfl, by decide +kernel, by decide +kernel⟩
abbrev s_l_fences : Stmt := top 57
theorem sc_l_fences : FnScope ["_law_cell", "_law_fields", "_law_names", "_law_start", "_law_fences_here", "_law_k", "_law_sill", "_law_side"] ["_law_cell", "_law_fields"] (defScope s_l_fences) := ⟨rfl, rfl, rfl, by decide +kernel, rfl, by decide +kernel, by decide +kernel⟩
abbrev s_l_land : Stmt := top 58
theorem sc_l_land : FnScope ["_law_script", "_law_fields", "_law_fences_here"] ["_law_script"] (defScope s_l_land) := ⟨rfl, rfl, rfl, by decide +kernel, rfl, by decide +kernel, by decide +kernel⟩
abbrev s_l_condition : Stmt := top 59
theorem sc_l_condition : FnScope ["_law_number", "_law_fields", "_law_way", "_law_more", "_law_every"] ["_law_number", "_law_fields"] (defScope s_l_condition) := ⟨rfl, rfl, rfl, by decide +kernel, rfl, by decide +kernel, by decide +kernel⟩
abbrev s_l_decree : Stmt := top 60
theorem sc_l_decree : FnScope ["_law_cell", "_law_k", "_law_fields", "_law_gates", "_law_number", "_law_many", "_law_asked"] ["_law_cell", "_law_k", "_law_fields", "_law_gates"] (defScope s_l_decree) := ⟨rfl, rfl, rfl, by decide +kernel, rfl, by decide +kernel, by decide +kernel⟩
abbrev s_l_line : Stmt := top 61
theorem sc_l_line : FnScope ["_law_decree_here", "_law_line_here", "_law_k", "_law_one"] ["_law_decree_here"] (defScope s_l_line) := ⟨rfl, rfl, rfl, by decide +kernel, rfl, by decide +kernel, by decide +kernel⟩
abbrev s_l_same : Stmt := top 62
theorem sc_l_same : FnScope ["_law_found", "_law_due", "_law_k", "_law_one"] ["_law_found", "_law_due"] (defScope s_l_same) := ⟨rfl, rfl, rfl, by decide +kernel, rfl, by decide +kernel, by decide +kernel⟩
abbrev s_l_stands : Stmt := top 63
theorem sc_l_stands : FnScope ["_law_land_here", "_law_decrees", "_law_due", "_law_handed", "_law_found", "_law_back", "_law_decree_here"] ["_law_land_here", "_law_decrees"] (defScope s_l_stands) := ⟨rfl, rfl, rfl, by decide +kernel, rfl, by decide +kernel, by decide +kernel⟩
abbrev s_p_law : Stmt := top 64
theorem sc_p_law : FnScope ["_law_script", "_law_fields", "_law_gates", "_law_fences_here", "_law_land_here", "_law_cells", "_law_decrees"] ["_law_script"] (defScope s_p_law) := ⟨rfl, rfl, rfl, by decide +kernel, rfl, by decide +kernel, by decide +kernel⟩
structure Txt (w : World) (K : PySem.W.Frag) (mg : Str → Option Value) (C : Addr) : Prop where
  cl_Land : Cls K C
  mg_Land : mg "Land" = some (.ref C)
  a_field_rows : NoAttr K C "field_rows"
  a_dyke_rows : NoAttr K C "dyke_rows"
  i_Land : InitAt K C "Land.__init__" s_land_pinit ["self", "fields", "dykes"]
  m_land_p_fields : MethAt K C "fields" "Land.fields" s_land_p_fields ["self"]
  m_land_p_dykes : MethAt K C "dykes" "Land.dykes" s_land_p_dykes ["self"]
  m_land_p_field_names : MethAt K C "field_names" "Land.field_names" s_land_p_field_names ["self"]
  m_land_p_dyke_names : MethAt K C "dyke_names" "Land.dyke_names" s_land_p_dyke_names ["self"]
  m_land_p_sluices : MethAt K C "sluices" "Land.sluices" s_land_p_sluices ["self"]
  m_land_p_ground : MethAt K C "ground" "Land.ground" s_land_p_ground ["self", "field"]
  m_land_p_dues : MethAt K C "dues" "Land.dues" s_land_p_dues ["self", "field"]
  m_land_p_dyke : MethAt K C "dyke" "Land.dyke" s_land_p_dyke ["self", "name"]
  d_p_wall : DefAt K mg "_wall" s_p_wall ["k"]
  d_p_is_whole : DefAt K mg "is_whole" s_p_is_whole ["thing"]
  d_p_is_name : DefAt K mg "is_name" s_p_is_name ["thing"]
  d_p_is_height : DefAt K mg "is_height" s_p_is_height ["thing"]
  d_p_is_amount : DefAt K mg "is_amount" s_p_is_amount ["thing"]
  d_p_is_one_of : DefAt K mg "is_one_of" s_p_is_one_of ["thing", "names"]
  d_p_is_list_of : DefAt K mg "is_list_of" s_p_is_list_of ["thing", "most"]
  d_p_is_tuple_of : DefAt K mg "is_tuple_of" s_p_is_tuple_of ["thing", "length"]
  d_p_none_twice : DefAt K mg "none_twice" s_p_none_twice ["rows"]
  d_p_is_field : DefAt K mg "is_field" s_p_is_field ["thing"]
  d_p_are_fields : DefAt K mg "are_fields" s_p_are_fields ["thing"]
  d_p_are_sides : DefAt K mg "are_sides" s_p_are_sides ["one", "other", "sides"]
  d_p_is_sill : DefAt K mg "is_sill" s_p_is_sill ["thing", "crown"]
  d_p_is_dyke : DefAt K mg "is_dyke" s_p_is_dyke ["thing", "sides"]
  d_p_are_dykes : DefAt K mg "are_dykes" s_p_are_dykes ["thing", "sides"]
  d_p_number_within : DefAt K mg "number_within" s_p_number_within ["word", "most"]
  d_p_number_of : DefAt K mg "number_of" s_p_number_of ["word"]
  d_p_is_day_of : DefAt K mg "is_day_of" s_p_is_day_of ["number", "turn"]
  d_p_is_condition : DefAt K mg "is_condition" s_p_is_condition ["thing", "fields"]
  d_p_is_decree : DefAt K mg "is_decree" s_p_is_decree ["thing", "sluices", "fields"]
  d_p_are_decrees : DefAt K mg "are_decrees" s_p_are_decrees ["land", "thing"]
  d_p_show_condition : DefAt K mg "show_condition" s_p_show_condition ["condition"]
  d_p_show_decree : DefAt K mg "show_decree" s_p_show_decree ["decree"]
  d_p_show_decrees : DefAt K mg "show_decrees" s_p_show_decrees ["decrees"]
  d_p_condition_in : DefAt K mg "condition_in" s_p_condition_in ["words"]
  d_p_conditions_in : DefAt K mg "conditions_in" s_p_conditions_in ["words"]
  d_p_decree_in : DefAt K mg "decree_in" s_p_decree_in ["row"]
  d_p_read_decrees : DefAt K mg "read_decrees" s_p_read_decrees ["land", "text"]
  d_l_cell_at : DefAt K mg "_law_cell_at" s_l_cell_at ["_law_script", "_law_k"]
  d_l_mixed : DefAt K mg "_law_mixed" s_l_mixed ["_law_cell", "_law_k"]
  d_l_height : DefAt K mg "_law_height" s_l_height ["_law_number"]
  d_l_plots : DefAt K mg "_law_plots" s_l_plots ["_law_cell"]
  d_l_fences : DefAt K mg "_law_fences" s_l_fences ["_law_cell", "_law_fields"]
  d_l_land : DefAt K mg "_law_land" s_l_land ["_law_script"]
  d_l_condition : DefAt K mg "_law_condition" s_l_condition ["_law_number", "_law_fields"]
  d_l_decree : DefAt K mg "_law_decree" s_l_decree ["_law_cell", "_law_k", "_law_fields", "_law_gates"]
  d_l_line : DefAt K mg "_law_line" s_l_line ["_law_decree_here"]
  d_l_same : DefAt K mg "_law_same" s_l_same ["_law_found", "_law_due"]
  d_l_stands : DefAt K mg "_law_stands" s_l_stands ["_law_land_here", "_law_decrees"]
  d_p_law : DefAt K mg "law" s_p_law ["_law_script"]
  g_DEEDS : ∃ a, mg "DEEDS" = some (.ref a) ∧ ∀ H : Hp, SqT K H a [(.str "open"), (.str "shut")]
  g_TIDES : ∃ a, mg "TIDES" = some (.ref a) ∧ ∀ H : Hp, SqT K H a [(.str "above"), (.str "below")]
  g_WATERS : ∃ a, mg "WATERS" = some (.ref a) ∧ ∀ H : Hp, SqT K H a [(.str "wet"), (.str "dry")]
  g_WORD_COUNTS : ∃ a, mg "WORD_COUNTS" = some (.ref a) ∧ GDict w K a [(("always" : Str), (.int 1)), (("sea" : Str), (.int 3)), (("wet" : Str), (.int 2)), (("dry" : Str), (.int 2)), (("day" : Str), (.int 4))]
  g_SEA : GlobAt mg "SEA" (.str "sea")
  g_LETTERS : GlobAt mg "LETTERS" (.str "abcdefghijklmnopqrstuvwxyz")
  g_MOST_LETTERS : GlobAt mg "MOST_LETTERS" (.int 8)
  g_MOST_HEIGHT : GlobAt mg "MOST_HEIGHT" (.int 1000000)
  g_MOST_AMOUNT : GlobAt mg "MOST_AMOUNT" (.int 1000000)
  g_MOST_FIELDS : GlobAt mg "MOST_FIELDS" (.int 12)
  g_MOST_DYKES : GlobAt mg "MOST_DYKES" (.int 40)
  g_FIGURES : GlobAt mg "FIGURES" (.str "0123456789")
  g_MOST_FIGURES : GlobAt mg "MOST_FIGURES" (.int 7)
  g_MOST_DECREES : GlobAt mg "MOST_DECREES" (.int 60)
  g_MOST_CONDITIONS : GlobAt mg "MOST_CONDITIONS" (.int 6)
  g_MOST_ROUND : GlobAt mg "MOST_ROUND" (.int 100)
  n_all : mg "all" = none
  n_bool : mg "bool" = none
  n_dict : mg "dict" = none
  n_int : mg "int" = none
  n_isinstance : mg "isinstance" = none
  n_len : mg "len" = none
  n_list : mg "list" = none
  n_range : mg "range" = none
  n_set : mg "set" = none
  n_str : mg "str" = none
  n_tuple : mg "tuple" = none

section
variable {P : Program} {w : World} {K : PySem.W.Frag} {mg : Str → Option Value} {base : Heap} {C : Addr}
open Ld
theorem big1000 : (1000 : Nat) ≤ sizeLine := by decide
def spWhole : Sp := sp1 fun x H Q => ∃ d, Is H d x ∧ Q (.bl (isInt d)) H
theorem ok_p_is_whole (T : Txt w K mg C) : Fc P w K mg base 1 "is_whole" ["thing"] spWhole := by
  refine T.d_p_is_whole.fc sc_p_is_whole len1 (fun f cdv A outer s H vs Q E hr h => ?_)
  obtain ⟨x, rfl, d, hd, q⟩ := h
  obtain ⟨t, ty, e1, e2, _⟩ := Is_kit K hd
  refine ⟨_, (@pss_one _ _ _ (@ps_ret _ _ _ _ (@pe_and _ _ _ _ _ _ _ (@pe_callB _ _ _ _ _ _ _ _ _ (@call_isinstB _ (K) rfl) rfl T.n_isinstance boot_isinstance (@pa_cons _ _ _ _ _ (pv 0) (@pa_cons _ _ _ _ _ (@pe_ty _ _ _ _ T.n_int boot_int' (by rfl) (by decide) (by decide)) pa_nil (by rfl)) (by rfl)) (by decide) (by decide) (by rfl) (by rfl)) (@pe_one _ _ _ _ _ (@pe_not _ _ _ _ (@pe_callB _ _ _ _ _ _ _ _ _ (@call_isinstB _ (K) rfl) rfl T.n_isinstance boot_isinstance (@pa_cons _ _ _ _ _ (pv 0) (@pa_cons _ _ _ _ _ (@pe_ty _ _ _ _ T.n_bool boot_bool' (by rfl) (by decide) (by decide)) pa_nil (by rfl)) (by rfl)) (by decide) (by decide) (by rfl) (by rfl))))))), ?_⟩
  refine ⟨_, rfl, _, _, _, t, _, rfl, rfl, ty, e1, _, rfl, ?_⟩
  refine ite2 (fun h => ?_) (fun h => ?_)
  · refine ⟨_, rfl, _, _, _, t, _, rfl, rfl, ty, e2, _, rfl, ?_⟩
    have e : (!isBl d) = isInt d := by cases d <;> simp_all [isInt, isBl]
    rw [e]
    exact q
  · have e : isInt d = false := by cases d <;> simp_all [isInt, isBl]
    rw [e] at q
    exact q

def spName : Sp := sp1 fun x H Q => ∃ d, Is H d x ∧ small d = true ∧ Q (.bl (isName d)) H
theorem ok_p_is_name (T : Txt w K mg C) : Fc P w K mg base 1 "is_name" ["thing"] spName := by
  refine T.d_p_is_name.fcD sc_p_is_name len1 (fun f cdv A outer s H vs Q E hr h => ?_)
  obtain ⟨x, rfl, d, hd, hz, q⟩ := h
  obtain ⟨t, ty, e1, e2, e3, _⟩ := Is_kit K hd
  have big := big1000
  refine ⟨_, (@pss_cons _ _ _ _ _ (@ps_if _ _ _ _ _ _ _ _ (@PW.pt _ _ _ (@pw_or _ _ _ _ _ _ _ (@pt_not _ _ _ _ (@pt_val _ _ _ (@pe_callB _ _ _ _ _ _ _ _ _ (@call_isinstB _ (K) rfl) rfl T.n_isinstance boot_isinstance (@pa_cons _ _ _ _ _ (pv 0) (@pa_cons _ _ _ _ _ (@pe_ty _ _ _ _ T.n_str boot_str' (by rfl) (by decide) (by decide)) pa_nil (by rfl)) (by rfl)) (by decide) (by decide) (by rfl) (by rfl)) (by intro _; rfl))) (@pw_or1 _ _ _ _ (@pt_not _ _ _ _ (@pt_chain _ _ _ _ _ _ _ _ _ _ _ _ op_le op_le pe_int (@pe_callB _ _ _ _ _ _ _ _ _ call_len_str rfl T.n_len boot_len' (@pa_cons _ _ _ _ _ (pv 0) pa_nil (by rfl)) (by decide) (by decide) (by rfl) (by rfl)) (@pe_g _ _ _ _ T.g_MOST_LETTERS (by rfl) (by decide)) (by with_unfolding_all rfl)))))) (@pss_one _ _ _ (@ps_ret _ _ _ _ pe_bl)) pss_nil) (@pss_one _ _ _ (@ps_ret _ _ _ _ (@pe_and _ _ _ _ _ _ _ (@pe_cmpR _ _ _ _ _ _ _ _ op_ne (pv 0) (@pe_g _ _ _ _ T.g_SEA (by rfl) (by decide)) (@nomark _ _ (by decide) (by decide))) (@pe_one _ _ _ _ _ (@pe_callB _ _ _ _ _ _ _ _ _ (@call_all _ rfl) rfl T.n_all boot_all' (@pa_cons _ _ _ _ _ (@pe_comp _ _ _ _ _ _ _ _ _ _ _ ["sign"] 1 [] rfl (@pi_str _ _ _ _ (pv 0)) (fun R => @pg_name _ _ (0) _ (show List.Nodup (["sign"] : List Str) by decide +kernel) rfl (Or.inl rfl) (by first | exact .inl rfl | exact .inr rfl | assumption)) (@gkeep_name _ _ (by decide)) (fun R => pifs_nil) (fun R => (@pe_cmpR _ _ _ _ _ _ _ _ op_in_str (pv 0) (@pe_g _ _ _ _ T.g_LETTERS (by rfl) (by decide)) (by with_unfolding_all rfl))) (by rfl) (by rfl) (by rfl) (by rfl) (by rfl) (by rfl) (by rfl) (by intro _; rfl)) pa_nil (by rfl)) (by decide) (by decide) (by rfl) (by rfl))))))), ?_⟩
  refine ⟨_, rfl, _, _, _, t, _, rfl, rfl, ty, e3, _, rfl, ?_⟩
  cases d with
  | str z =>
    cases (show x = .str z from hd)
    have hz : z.length ≤ 1000 := of_decide_eq_true hz
    have q : Q (.bl (nameS z)) H := q
    have hzs : z.length ≤ sizeLine := by omega
    refine iteF ?_
    refine ⟨_, rfl, z, rfl, hzs, _, _, rfl, rfl, _, rfl, ?_⟩
    refine ite2 (fun h1 => ?_) (fun h1 => ?_)
    · refine ⟨_, _, rfl, rfl, _, rfl, ?_⟩
      have h1' : 1 ≤ z.length := by
        have := of_decide_eq_true h1
        omega
      refine ite2 (fun h2 => ?_) (fun h2 => ?_)
      · have e : nameS z = false := by
          have h2' : ¬ z.length ≤ 8 := by
            intro h3
            have : ((z.length : Nat) : Int) ≤ 8 := by omega
            simp [this] at h2
          simp [nameS, h2']
        rw [e] at q
        exact dropQ.of (.refl _) q
      · have h2' : z.length ≤ 8 := by
          have h3 : decide (((z.length : Nat) : Int) ≤ 8) = true := by
            cases h4 : decide (((z.length : Nat) : Int) ≤ 8) with
            | true => rfl
            | false => exact absurd (by rw [h4]; rfl) h2
          have := of_decide_eq_true h3
          omega
        refine ⟨_, rfl, rfl, _, rfl, ?_⟩
        refine ite2 (fun h3 => ?_) (fun h3 => ?_)
        · have h3' : ¬ z = "sea" := by
            intro h4
            subst h4
            simp at h3
          refine ⟨_, rfl, z, rfl, ?_⟩
          refine comp_str (Nat.le_trans hz (by decide)) (fun i ys H' => H' = H ∧ ys = (z.cps.toList.take i).map fun c => V.bl (letter c)) ⟨rfl, rfl⟩ ?_ ?_ ?_
          · rintro i ys H' ⟨_, rfl⟩
            rw [List.length_map, List.length_take]
            omega
          · rintro i c ys H' K1 K2 hc ⟨rfl, rfl⟩ k1 k2
            refine ⟨_, rfl, _, _, rfl, rfl, k1 _ _ ⟨rfl, ?_⟩⟩
            have hc' : z.cps.toList[i]? = some c := by simpa using hc
            rw [List.take_add_one, hc', in_letters]
            simp
          · rintro ys H' ⟨rfl, rfl⟩
            intro p hp'
            refine ⟨p, z.cps.toList.map letter, rfl, SqL.of ?_, ?_⟩
            · rw [upd_same, List.take_of_length_le (by simp), List.map_map]
              rfl
            · refine ⟨H', Drop.lst hp', ?_⟩
              have e : nameS z = (z.cps.toList.map letter).all id := by
                rw [List.all_map]
                simp [nameS, h1', h2', h3']
              rw [← e]
              exact q
        · have e : nameS z = false := by
            have h4 : z = "sea" := by
              apply Classical.byContradiction
              intro h5
              exact h3 (by simp [h5])
            subst h4
            simp [nameS]
          rw [e] at q
          exact dropQ.of (.refl _) q
    · have e : nameS z = false := by
        have h1' : ¬ 1 ≤ z.length := by
          intro h3
          exact h1 (decide_eq_true (by omega))
        simp [nameS, h1']
      rw [e] at q
      exact ⟨_, rfl, dropQ.of (.refl _) q⟩
  | non => exact dropQ.of (.refl _) q
  | bl b => exact dropQ.of (.refl _) q
  | int i => exact dropQ.of (.refl _) q
  | lst a => exact dropQ.of (.refl _) q
  | tup a => exact dropQ.of (.refl _) q
  | dct a b => exact dropQ.of (.refl _) q

def spHeight : Sp := sp1 fun x H Q => ∃ d, Is H d x ∧ Q (.bl (isHeight d)) H
theorem ok_p_is_height (T : Txt w K mg C) : Fc P w K mg base 2 "is_height" ["thing"] spHeight := by
  have G_p_is_whole : Fc P w K mg base 1 "is_whole" ["thing"] spWhole := ok_p_is_whole T
  refine T.d_p_is_height.fc sc_p_is_height len1 (fun f cdv A outer s H vs Q E hr h => ?_)
  obtain ⟨x, rfl, d, hd, q⟩ := h
  refine ⟨_, (@pss_one _ _ _ (@ps_ret _ _ _ _ (@pe_and _ _ _ _ _ _ _ (@pe_c _ _ _ _ _ _ _ _ _ _ G_p_is_whole (hr.mono (by decide)) (@pa_cons _ _ _ _ _ (pv 0) pa_nil (by rfl)) (by rfl) (by decide) (by rfl) (by rfl)) (@pe_one _ _ _ _ _ (@pe_chain _ _ _ _ _ _ _ _ _ _ _ _ op_le op_le (@pe_un _ _ _ _ _ _ un_neg (@pe_g _ _ _ _ T.g_MOST_HEIGHT (by rfl) (by decide))) (pv 0) (@pe_g _ _ _ _ T.g_MOST_HEIGHT (by rfl) (by decide)) (by with_unfolding_all rfl)))))), ?_⟩
  refine ⟨_, rfl, _, rfl, d, hd, _, rfl, ?_⟩
  cases d with
  | int i =>
    cases (show x = .int i from hd)
    refine iteT ?_
    have q : Q (.bl (decide (-1000000 ≤ i) && decide (i ≤ 1000000))) H := q
    refine ⟨_, rfl, _, rfl, _, _, rfl, rfl, _, rfl, ?_⟩
    refine ite2 (fun h1 => ?_) (fun h1 => ?_)
    · refine ⟨_, _, rfl, rfl, ?_⟩
      rw [decide_eq_true (show -1000000 ≤ i from of_decide_eq_true h1), Bool.true_and] at q
      exact q
    · rw [show decide (-1000000 ≤ i) = false from by simpa using h1, Bool.false_and] at q
      exact q
  | _ => exact iteF q
def spAmount : Sp := sp1 fun x H Q => ∃ d, Is H d x ∧ Q (.bl (isAmount d)) H
theorem ok_p_is_amount (T : Txt w K mg C) : Fc P w K mg base 2 "is_amount" ["thing"] spAmount := by
  have G_p_is_whole : Fc P w K mg base 1 "is_whole" ["thing"] spWhole := ok_p_is_whole T
  refine T.d_p_is_amount.fc sc_p_is_amount len1 (fun f cdv A outer s H vs Q E hr h => ?_)
  obtain ⟨x, rfl, d, hd, q⟩ := h
  refine ⟨_, (@pss_one _ _ _ (@ps_ret _ _ _ _ (@pe_and _ _ _ _ _ _ _ (@pe_c _ _ _ _ _ _ _ _ _ _ G_p_is_whole (hr.mono (by decide)) (@pa_cons _ _ _ _ _ (pv 0) pa_nil (by rfl)) (by rfl) (by decide) (by rfl) (by rfl)) (@pe_one _ _ _ _ _ (@pe_chain _ _ _ _ _ _ _ _ _ _ _ _ op_le op_le pe_int (pv 0) (@pe_g _ _ _ _ T.g_MOST_AMOUNT (by rfl) (by decide)) (by with_unfolding_all rfl)))))), ?_⟩
  refine ⟨_, rfl, _, rfl, d, hd, _, rfl, ?_⟩
  cases d with
  | int i =>
    cases (show x = .int i from hd)
    refine iteT ?_
    have q : Q (.bl (decide (0 ≤ i) && decide (i ≤ 1000000))) H := q
    refine ⟨_, rfl, _, _, rfl, rfl, _, rfl, ?_⟩
    refine ite2 (fun h1 => ?_) (fun h1 => ?_)
    · refine ⟨_, _, rfl, rfl, ?_⟩
      rw [decide_eq_true (show 0 ≤ i from of_decide_eq_true h1), Bool.true_and] at q
      exact q
    · rw [show decide (0 ≤ i) = false from by simpa using h1, Bool.false_and] at q
      exact q
  | _ => exact iteF q

def spOneOf (K : PySem.W.Frag) : Sp := sp2 fun x y H Q => ∃ (d : Dv) (p : Addr) (zs : List Str), Is H d x ∧ y = .ref p ∧ SqL K H p (zs.map V.str) ∧ Q (.bl (oneOf zs d)) H
theorem inV_str (z : Str) (zs : List Str) : inV (.str z) (zs.map V.str) = decide (z ∈ zs) := by
  unfold inV
  rw [Bool.eq_iff_iff, List.any_eq_true, decide_eq_true_iff]
  constructor
  · rintro ⟨y, hy, e⟩
    obtain ⟨u, hu, rfl⟩ := List.mem_map.mp hy
    have e' : (u == z) = true := e
    rw [← beq_iff_eq.mp e']
    exact hu
  · intro h
    exact ⟨_, List.mem_map.mpr ⟨z, h, rfl⟩, beq_self_eq_true z⟩
theorem flat_strs (zs : List Str) : (zs.map V.str).all flatV = true := by
  rw [List.all_eq_true]
  intro y hy
  obtain ⟨u, _, rfl⟩ := List.mem_map.mp hy
  rfl
theorem ok_p_is_one_of (T : Txt w K mg C) : Fc P w K mg base 1 "is_one_of" ["thing", "names"] (spOneOf K) := by
  refine T.d_p_is_one_of.fc sc_p_is_one_of len2 (fun f cdv A outer s H vs Q E hr h => ?_)
  obtain ⟨x, y, rfl, d, p, zs, hd, rfl, hp, q⟩ := h
  obtain ⟨t, ty, e1, e2, e3, _⟩ := Is_kit K hd
  refine ⟨_, (@pss_one _ _ _ (@ps_ret _ _ _ _ (@pe_and _ _ _ _ _ _ _ (@pe_callB _ _ _ _ _ _ _ _ _ (@call_isinstB _ (K) rfl) rfl T.n_isinstance boot_isinstance (@pa_cons _ _ _ _ _ (pv 0) (@pa_cons _ _ _ _ _ (@pe_ty _ _ _ _ T.n_str boot_str' (by rfl) (by decide) (by decide)) pa_nil (by rfl)) (by rfl)) (by decide) (by decide) (by rfl) (by rfl)) (@pe_one _ _ _ _ _ (@pe_cmpR _ _ _ _ _ _ _ _ (@op_in_seqB _ (K) rfl) (pv 0) (pv 1) (by with_unfolding_all rfl)))))), ?_⟩
  refine ⟨_, rfl, _, _, _, t, _, rfl, rfl, ty, e3, _, rfl, ?_⟩
  cases d with
  | str z =>
    cases (show x = .str z from hd)
    refine iteT ⟨_, rfl, _, rfl, p, _, rfl, .inl hp, rfl, flat_strs zs, ?_⟩
    show Q (.bl (inV (.str z) (zs.map V.str))) H
    rw [inV_str]
    exact q
  | _ => exact iteF q

def spListOf : Sp := sp2 fun x y H Q => ∃ (d : Dv) (n : Int), Is H d x ∧ y = .int n ∧ Q (.bl (lstIn n d)) H
theorem ok_p_is_list_of (T : Txt w K mg C) : Fc P w K mg base 1 "is_list_of" ["thing", "most"] spListOf := by
  refine T.d_p_is_list_of.fc sc_p_is_list_of len2 (fun f cdv A outer s H vs Q E hr h => ?_)
  obtain ⟨x, y, rfl, d, n, hd, rfl, q⟩ := h
  obtain ⟨t, ty, e1, e2, e3, e4, _⟩ := Is_kit K hd
  refine ⟨_, (@pss_one _ _ _ (@ps_ret _ _ _ _ (@pe_and _ _ _ _ _ _ _ (@pe_callB _ _ _ _ _ _ _ _ _ (@call_isinstB _ (K) rfl) rfl T.n_isinstance boot_isinstance (@pa_cons _ _ _ _ _ (pv 0) (@pa_cons _ _ _ _ _ (@pe_ty _ _ _ _ T.n_list boot_list' (by rfl) (by decide) (by decide)) pa_nil (by rfl)) (by rfl)) (by decide) (by decide) (by rfl) (by rfl)) (@pe_one _ _ _ _ _ (@pe_chain _ _ _ _ _ _ _ _ _ _ _ _ op_le op_le pe_int (@pe_callB _ _ _ _ _ _ _ _ _ (@call_len_seqB _ (K) rfl) rfl T.n_len boot_len' (@pa_cons _ _ _ _ _ (pv 0) pa_nil (by rfl)) (by decide) (by decide) (by rfl) (by rfl)) (pv 1) (by with_unfolding_all rfl)))))), ?_⟩
  refine ⟨_, rfl, _, _, _, t, _, rfl, rfl, ty, e4, _, rfl, ?_⟩
  cases d with
  | lst ds =>
    obtain ⟨a, vs, rfl, o, hl⟩ := hd
    have hlen := hl.length
    have q : Q (.bl (decide (1 ≤ ds.length) && decide ((ds.length : Int) ≤ n))) H := q
    refine iteT ⟨_, rfl, a, vs, rfl, .inl (SqL.of o), _, _, rfl, rfl, _, rfl, ?_⟩
    rw [hlen]
    refine ite2 (fun h1 => ?_) (fun h1 => ?_)
    · refine ⟨_, rfl, _, _, rfl, rfl, ?_⟩
      have h1' : 1 ≤ ds.length := by have := of_decide_eq_true h1; omega
      rw [decide_eq_true h1', Bool.true_and] at q
      exact q
    · have h1' : ¬ 1 ≤ ds.length := fun c => h1 (decide_eq_true (by omega))
      rw [decide_eq_false h1', Bool.false_and] at q
      exact q
  | _ => exact iteF q
def spTupOf : Sp := sp2 fun x y H Q => ∃ (d : Dv) (n : Int), Is H d x ∧ y = .int n ∧ Q (.bl (tupIs n d)) H
theorem ok_p_is_tuple_of (T : Txt w K mg C) : Fc P w K mg base 1 "is_tuple_of" ["thing", "length"] spTupOf := by
  refine T.d_p_is_tuple_of.fc sc_p_is_tuple_of len2 (fun f cdv A outer s H vs Q E hr h => ?_)
  obtain ⟨x, y, rfl, d, n, hd, rfl, q⟩ := h
  obtain ⟨t, ty, e1, e2, e3, e4, e5⟩ := Is_kit K hd
  refine ⟨_, (@pss_one _ _ _ (@ps_ret _ _ _ _ (@pe_and _ _ _ _ _ _ _ (@pe_callB _ _ _ _ _ _ _ _ _ (@call_isinstB _ (K) rfl) rfl T.n_isinstance boot_isinstance (@pa_cons _ _ _ _ _ (pv 0) (@pa_cons _ _ _ _ _ (@pe_ty _ _ _ _ T.n_tuple boot_tuple' (by rfl) (by decide) (by decide)) pa_nil (by rfl)) (by rfl)) (by decide) (by decide) (by rfl) (by rfl)) (@pe_one _ _ _ _ _ (@pe_cmpR _ _ _ _ _ _ _ _ op_eq (@pe_callB _ _ _ _ _ _ _ _ _ (@call_len_seqB _ (K) rfl) rfl T.n_len boot_len' (@pa_cons _ _ _ _ _ (pv 0) pa_nil (by rfl)) (by decide) (by decide) (by rfl) (by rfl)) (pv 1) (@nomark _ _ (by decide) (by decide))))))), ?_⟩
  refine ⟨_, rfl, _, _, _, t, _, rfl, rfl, ty, e5, _, rfl, ?_⟩
  cases d with
  | tup ds =>
    obtain ⟨a, vs, rfl, o, hl⟩ := hd
    have hlen := hl.length
    have q : Q (.bl (decide ((ds.length : Int) = n))) H := q
    refine iteT ⟨_, rfl, a, vs, rfl, .inr (SqT.of o), _, rfl, rfl, ?_⟩
    rw [hlen]
    have e : decide (V.int (ds.length : Int) = V.int n) = decide ((ds.length : Int) = n) := by rw [dec_int, Bool.eq_iff_iff]; simp
    rw [e]
    exact q
  | _ => exact iteF q

def spTwice : Sp := sp1 fun x H Q => ∃ (p : Addr) (vs : List V) (ds : List Dv) (zs : List Str), x = .ref p ∧ H p = some (.lst vs) ∧ IsL H ds vs ∧ ds.map firstS = zs.map some ∧ zs.length ≤ 1000 ∧ Q (.bl (decide zs.Nodup)) H
theorem first_row {H : Hp} {d : Dv} {v : V} {z : Str} (h : Is H d v) (e : firstS d = some z) : ∃ a r, v = .ref a ∧ H a = some (.tup (.str z :: r)) := by
  cases d with
  | tup ds =>
    cases ds with
    | nil => cases e
    | cons d0 ds =>
      cases d0 with
      | str y =>
        cases e
        obtain ⟨a, vs, rfl, o, v0, r, rfl, h0, _⟩ := h
        cases (show v0 = .str z from h0)
        exact ⟨a, r, rfl, o⟩
      | _ => cases e
  | _ => cases e
theorem nodup_inr (zs : List Str) : (zs.map (Sum.inr : Str → Key)).Nodup ↔ zs.Nodup := by
  induction zs with
  | nil => simp
  | cons z zs ih =>
    rw [List.map_cons, List.nodup_cons, List.nodup_cons, ih]
    simp
theorem map_key (zs : List Str) : (zs.map (Sum.inr : Str → Key)).map kV = zs.map V.str := by
  rw [List.map_map]; rfl
theorem ok_p_none_twice (T : Txt w K mg C) : Fc P w K mg base 1 "none_twice" ["rows"] spTwice := by
  refine T.d_p_none_twice.fcD sc_p_none_twice len1 (fun f cdv A outer s H vs Q E hr h => ?_)
  obtain ⟨x, rfl, p, us, ds, zs, rfl, hp, hi, hz, hn, q⟩ := h
  have big := big1000
  have l1 := hi.length
  have l2 : ds.length = zs.length := by have := congrArg List.length hz; simpa using this
  refine ⟨_, (@pss_one _ _ _ (@ps_ret _ _ _ _ (@pe_cmpR _ _ _ _ _ _ _ _ op_eq (@pe_callB _ _ _ _ _ _ _ _ _ call_len_set rfl T.n_len boot_len' (@pa_cons _ _ _ _ _ (@pe_callTy _ _ _ _ _ _ _ _ _ (@call_set_list _ rfl) rfl T.n_set boot_set' (@pa_cons _ _ _ _ _ (@pe_comp _ _ _ _ _ _ _ _ _ _ _ ["row"] 1 [] rfl (@pi_list _ _ _ _ (pv 0)) (fun R => @pg_name _ _ (0) _ (show List.Nodup (["row"] : List Str) by decide +kernel) rfl (Or.inl rfl) (by first | exact .inl rfl | exact .inr rfl | assumption)) (@gkeep_name _ _ (by decide)) (fun R => pifs_nil) (fun R => (@pe_ix _ _ _ _ _ _ _ (@ix_tupB _ (K) rfl) (pv 0) pe_int (fun _ _ => rfl))) (by rfl) (by rfl) (by rfl) (by rfl) (by rfl) (by rfl) (by rfl) (by intro _; rfl)) pa_nil (by rfl)) (by decide) (by decide) (by rfl) (by rfl)) pa_nil (by rfl)) (by decide) (by decide) (by rfl) (by rfl)) (@pe_callB _ _ _ _ _ _ _ _ _ (@call_len_seqB _ (K) rfl) rfl T.n_len boot_len' (@pa_cons _ _ _ _ _ (pv 0) pa_nil (by rfl)) (by decide) (by decide) (by rfl) (by rfl)) (@nomark _ _ (by decide) (by decide))))), ?_⟩
  refine ⟨_, rfl, p, rfl, ⟨_, SqL.of hp⟩, ?_⟩
  refine comp_list (F := K) (xs := us) (by omega) (fun i ys H' => H' = H ∧ ys = (zs.take i).map V.str) ⟨rfl, rfl⟩ ?_ ?_ ?_
  · rintro i ys H' hi' ⟨rfl, rfl⟩
    exact ⟨SqL.of hp, by rw [List.length_map, List.length_take]; omega⟩
  · rintro i x ys H' K1 K2 hx ⟨rfl, rfl⟩ k1 k2
    have hil : i < us.length := (List.getElem?_eq_some_iff.mp hx).1
    obtain ⟨d, ed⟩ : ∃ d, ds[i]? = some d := ⟨_, List.getElem?_eq_getElem (by omega)⟩
    obtain ⟨z, ez⟩ : ∃ z, zs[i]? = some z := ⟨_, List.getElem?_eq_getElem (by omega)⟩
    obtain ⟨v, ev, iv⟩ := hi.get ed
    rw [hx] at ev
    cases ev
    have ef : firstS d = some z := by
      have := congrArg (fun l => l[i]?) hz
      simpa [ed, ez] using this
    obtain ⟨a, r, rfl, o⟩ := first_row iv ef
    refine ⟨_, rfl, a, _, 0, .str z, rfl, rfl, SqT.of o, atI_nat (j := 0) rfl, k1 _ _ ⟨rfl, ?_⟩⟩
    rw [List.take_add_one, ez]
    simp
  · rintro ys H' ⟨rfl, rfl⟩
    intro p1 hp1
    have hys : (zs.take us.length).map V.str = (zs.map (Sum.inr : Str → Key)).map kV := by
      rw [List.take_of_length_le (by omega), map_key]
    refine ⟨p1, zs.map Sum.inr, rfl, SqL.of (by rw [upd_same, hys]), by rw [List.length_map]; exact hn, fun p2 hp2 => ?_⟩
    have hle := dedK_le (zs.map (Sum.inr : Str → Key))
    rw [List.length_map] at hle
    have np : p ≠ p1 := ne_of_none hp hp1
    have np2 : p ≠ p2 := ne_of_none (show upd H' p1 _ p = _ from (upd_ne np).trans hp) hp2
    refine ⟨p2, _, _, rfl, upd_same, by omega, _, rfl, p, us, rfl, .inl (SqL.of (by rw [upd_ne np2, upd_ne np]; exact hp)), rfl, ?_⟩
    have e : decide (V.int ((dedK (zs.map (Sum.inr : Str → Key))).length : Int) = V.int (us.length : Int)) = decide zs.Nodup := by
      rw [dec_int, Bool.eq_iff_iff, decide_eq_true_iff, ← nodup_inr, ← dedK_full, List.length_map, beq_iff_eq]
      omega
    rw [e]
    exact dropQ.of ((Drop.new hp2 rfl).trans (Drop.lst hp1)) q

def spField : Sp := sp1 fun x H Q => ∃ d, Is H d x ∧ small d = true ∧ Q (.bl (isField d)) H
theorem ok_p_is_field (T : Txt w K mg C) : Fc P w K mg base 3 "is_field" ["thing"] spField := by
  have G_p_is_tuple_of : Fc P w K mg base 1 "is_tuple_of" ["thing", "length"] spTupOf := ok_p_is_tuple_of T
  have G_p_is_name : Fc P w K mg base 1 "is_name" ["thing"] spName := ok_p_is_name T
  have G_p_is_height : Fc P w K mg base 2 "is_height" ["thing"] spHeight := ok_p_is_height T
  have G_p_is_amount : Fc P w K mg base 2 "is_amount" ["thing"] spAmount := ok_p_is_amount T
  refine T.d_p_is_field.fc sc_p_is_field len1 (fun f cdv A outer s H vs Q E hr h => ?_)
  obtain ⟨x, rfl, d, hd, hs, q⟩ := h
  refine ⟨_, (@pss_cons _ _ _ _ _ (@ps_if _ _ _ _ _ _ _ _ (@pt_not _ _ _ _ (@pt_val _ _ _ (@pe_c _ _ _ _ _ _ _ _ _ _ G_p_is_tuple_of (hr.mono (by decide)) (@pa_cons _ _ _ _ _ (pv 0) (@pa_cons _ _ _ _ _ pe_int pa_nil (by rfl)) (by rfl)) (by rfl) (by decide) (by rfl) (by rfl)) (by intro _; rfl))) (@pss_one _ _ _ (@ps_ret _ _ _ _ pe_bl)) pss_nil) (@pss_one _ _ _ (@ps_ret _ _ _ _ (@pe_and _ _ _ _ _ _ _ (@pe_c _ _ _ _ _ _ _ _ _ _ G_p_is_name (hr.mono (by decide)) (@pa_cons _ _ _ _ _ (@pe_ix _ _ _ _ _ _ _ (@ix_tupB _ (K) rfl) (pv 0) pe_int (fun _ _ => rfl)) pa_nil (by rfl)) (by rfl) (by decide) (by rfl) (by rfl)) (@pe_and _ _ _ _ _ _ _ (@pe_c _ _ _ _ _ _ _ _ _ _ G_p_is_height (hr.mono (by decide)) (@pa_cons _ _ _ _ _ (@pe_ix _ _ _ _ _ _ _ (@ix_tupB _ (K) rfl) (pv 0) pe_int (fun _ _ => rfl)) pa_nil (by rfl)) (by rfl) (by decide) (by rfl) (by rfl)) (@pe_one _ _ _ _ _ (@pe_c _ _ _ _ _ _ _ _ _ _ G_p_is_amount (hr.mono (by decide)) (@pa_cons _ _ _ _ _ (@pe_ix _ _ _ _ _ _ _ (@ix_tupB _ (K) rfl) (pv 0) pe_int (fun _ _ => rfl)) pa_nil (by rfl)) (by rfl) (by decide) (by rfl) (by rfl)))))))), ?_⟩
  refine ⟨_, rfl, _, _, rfl, d, 3, hd, rfl, _, rfl, ?_⟩
  by_cases h3 : ∃ a b c, d = .tup [a, b, c]
  · obtain ⟨a, b, c, rfl⟩ := h3
    obtain ⟨t, us, rfl, o, va, r1, rfl, ha, vb, r2, rfl, hb, vc, r3, rfl, hc, h0⟩ := hd
    cases (show r3 = [] from h0)
    have sa : small a = true := by
      exact smallL_mem (small_tup hs) List.mem_cons_self
    have q : Q (.bl (isName a && (isHeight b && isAmount c))) H := q
    refine iteF ⟨_, rfl, t, _, 0, va, rfl, rfl, SqT.of o, atI_nat (j := 0) rfl, _, rfl, a, ha, sa, _, rfl, ?_⟩
    cases ea : isName a with
    | false => rw [ea] at q; exact iteF q
    | true =>
      rw [ea, Bool.true_and] at q
      refine iteT ⟨_, rfl, t, _, 1, vb, rfl, rfl, SqT.of o, atI_nat (j := 1) rfl, _, rfl, b, hb, _, rfl, ?_⟩
      cases eb : isHeight b with
      | false => rw [eb] at q; exact iteF q
      | true =>
        rw [eb, Bool.true_and] at q
        exact iteT ⟨_, rfl, t, _, 2, vc, rfl, rfl, SqT.of o, atI_nat (j := 2) rfl, _, rfl, c, hc, q⟩
  · have e1 : isField d = false := by
      unfold isField
      split
      · rename_i a b c
        exact absurd ⟨a, b, c, rfl⟩ h3
      · rfl
    have e2 : tupIs 3 d = false := by
      cases d with
      | tup ds =>
        refine decide_eq_false (fun e => ?_)
        have e' : ds.length = 3 := by omega
        match ds, e', h3 with
        | [a, b, c], _, h3 => exact h3 ⟨a, b, c, rfl⟩
      | _ => rfl
    dsimp only
    rw [e2]
    rw [e1] at q
    exact iteT q

theorem firsts_of {p : Dv → Bool} (hp : ∀ d, p d = true → ∃ z, firstS d = some z) : ∀ {ds : List Dv}, ds.all p = true → ∃ zs : List Str, ds.map firstS = zs.map some
  | [], _ => ⟨[], rfl⟩
  | d :: ds, h => by
    rw [List.all_cons, Bool.and_eq_true] at h
    obtain ⟨z, e⟩ := hp d h.1
    obtain ⟨zs, e2⟩ := firsts_of hp h.2
    exact ⟨z :: zs, by rw [List.map_cons, List.map_cons, e, e2]⟩
theorem isField_first (d : Dv) (h : isField d = true) : ∃ z, firstS d = some z := by
  unfold isField at h
  split at h
  · rename_i a b c
    rw [Bool.and_eq_true] at h
    cases a with
    | str z => exact ⟨z, rfl⟩
    | _ => cases h.1
  · cases h
def spFields : Sp := sp1 fun x H Q => ∃ d, Is H d x ∧ small d = true ∧ Q (.bl (areFields d)) H
theorem ok_p_are_fields (T : Txt w K mg C) : Fc P w K mg base 4 "are_fields" ["thing"] spFields := by
  have G_p_is_list_of : Fc P w K mg base 1 "is_list_of" ["thing", "most"] spListOf := ok_p_is_list_of T
  have G_p_is_field : Fc P w K mg base 3 "is_field" ["thing"] spField := ok_p_is_field T
  have G_p_none_twice : Fc P w K mg base 1 "none_twice" ["rows"] spTwice := ok_p_none_twice T
  refine T.d_p_are_fields.fcD sc_p_are_fields len1 (fun f cdv A outer s H vs Q E hr h => ?_)
  obtain ⟨x, rfl, d, hd, hs, q⟩ := h
  have big := big1000
  refine ⟨_, (@pss_one _ _ _ (@ps_ret _ _ _ _ (@pe_and _ _ _ _ _ _ _ (@pe_c _ _ _ _ _ _ _ _ _ _ G_p_is_list_of (hr.mono (by decide)) (@pa_cons _ _ _ _ _ (pv 0) (@pa_cons _ _ _ _ _ (@pe_g _ _ _ _ T.g_MOST_FIELDS (by rfl) (by decide)) pa_nil (by rfl)) (by rfl)) (by rfl) (by decide) (by rfl) (by rfl)) (@pe_and _ _ _ _ _ _ _ (@pe_callB _ _ _ _ _ _ _ _ _ (@call_all _ rfl) rfl T.n_all boot_all' (@pa_cons _ _ _ _ _ (@pe_comp _ _ _ _ _ _ _ _ _ _ _ ["row"] 1 [] rfl (@pi_list _ _ _ _ (pv 0)) (fun R => @pg_name _ _ (0) _ (show List.Nodup (["row"] : List Str) by decide +kernel) rfl (Or.inl rfl) (by first | exact .inl rfl | exact .inr rfl | assumption)) (@gkeep_name _ _ (by decide)) (fun R => pifs_nil) (fun R => (@pe_c _ _ _ _ _ _ _ _ _ _ G_p_is_field (hr.mono (by decide)) (@pa_cons _ _ _ _ _ (pv 0) pa_nil (by rfl)) (by rfl) (by decide) (by rfl) (by rfl))) (by rfl) (by rfl) (by rfl) (by rfl) (by rfl) (by rfl) (by rfl) (by intro _; rfl)) pa_nil (by rfl)) (by decide) (by decide) (by rfl) (by rfl)) (@pe_one _ _ _ _ _ (@pe_c _ _ _ _ _ _ _ _ _ _ G_p_none_twice (hr.mono (by decide)) (@pa_cons _ _ _ _ _ (pv 0) pa_nil (by rfl)) (by rfl) (by decide) (by rfl) (by rfl))))))), ?_⟩
  refine ⟨_, rfl, _, _, rfl, d, 12, hd, rfl, _, rfl, ?_⟩
  cases d with
  | lst ds =>
    obtain ⟨p, us, rfl, o, hi⟩ := hd
    have l1 := hi.length
    have hs' := Bool.and_eq_true_iff.mp (show (decide (ds.length ≤ 1000) && smallL ds) = true from hs)
    have l2 : ds.length ≤ 1000 := of_decide_eq_true hs'.1
    have q : Q (.bl ((decide (1 ≤ ds.length) && decide (ds.length ≤ 12)) && (ds.all isField && decide ((ds.map firstS).Nodup)))) H := q
    have e0 : (decide (1 ≤ ds.length) && decide ((ds.length : Int) ≤ 12)) = (decide (1 ≤ ds.length) && decide (ds.length ≤ 12)) := by
      congr 1
      rw [Bool.eq_iff_iff, decide_eq_true_iff, decide_eq_true_iff]
      omega
    show if (decide (1 ≤ ds.length) && decide ((ds.length : Int) ≤ 12)) = true then _ else _
    rw [e0]
    refine ite2 (fun h1 => ?_) (fun h1 => ?_)
    · rw [h1, Bool.true_and] at q
      refine ⟨_, rfl, p, rfl, ⟨_, SqL.of o⟩, ?_⟩
      refine comp_list (F := K) (xs := us) (by omega) (fun i ys H' => H' = H ∧ ys = (ds.take i).map fun d => V.bl (isField d)) ⟨rfl, rfl⟩ ?_ ?_ ?_
      · rintro i ys H' hi' ⟨rfl, rfl⟩
        exact ⟨SqL.of o, by rw [List.length_map, List.length_take]; omega⟩
      · rintro i x ys H' K1 K2 hx ⟨rfl, rfl⟩ k1 k2
        have hil : i < us.length := (List.getElem?_eq_some_iff.mp hx).1
        obtain ⟨d, ed⟩ : ∃ d, ds[i]? = some d := ⟨_, List.getElem?_eq_getElem (by omega)⟩
        obtain ⟨v, ev, iv⟩ := hi.get ed
        rw [hx] at ev
        cases ev
        refine ⟨_, rfl, _, rfl, d, iv, smallL_mem hs'.2 (List.mem_of_getElem? ed), k1 _ _ ⟨rfl, ?_⟩⟩
        rw [List.take_add_one, ed]
        simp
      · rintro ys H' ⟨rfl, rfl⟩
        intro p1 hp1
        have np : p ≠ p1 := ne_of_none o hp1
        refine ⟨p1, ds.map isField, rfl, SqL.of ?_, _, rfl, ?_⟩
        · rw [upd_same, List.take_of_length_le (by omega), List.map_map]
          rfl
        have e1 : (ds.map isField).all id = ds.all isField := by rw [List.all_map]; rfl
        rw [e1]
        refine ite2 (fun h2 => ?_) (fun h2 => ?_)
        · rw [h2, Bool.true_and] at q
          obtain ⟨zs, ez⟩ := firsts_of isField_first h2
          have l3 : zs.length = ds.length := by have := congrArg List.length ez; simpa using this.symm
          refine ⟨_, rfl, _, rfl, p, us, ds, zs, rfl, by rw [upd_ne np]; exact o, IsL.same (Same.upd hp1) _ _ hi, ez, by omega, ?_⟩
          have e2 : decide zs.Nodup = decide (ds.map firstS).Nodup := by rw [ez, Bool.eq_iff_iff, decide_eq_true_iff, decide_eq_true_iff, nodup_some]
          rw [e2]
          exact dropQ.of (Drop.lst hp1) q
        · have h2' : ds.all isField = false := by simpa using h2
          rw [h2'] at q
          exact dropQ.of (Drop.lst hp1) q
    · have h1' : (decide (1 ≤ ds.length) && decide (ds.length ≤ 12)) = false := by simpa using h1
      rw [h1'] at q
      exact dropQ.of (.refl _) q
  | _ => exact iteF (dropQ.of (.refl _) q)

def spSides (K : PySem.W.Frag) : Sp := sp3 fun x y u H Q => ∃ (a b : Dv) (p : Addr) (zs : List Str), Is H a x ∧ Is H b y ∧ u = .ref p ∧ SqL K H p (zs.map V.str) ∧ Q (.bl (areSides zs a b)) H
theorem ok_p_are_sides (T : Txt w K mg C) : Fc P w K mg base 2 "are_sides" ["one", "other", "sides"] (spSides K) := by
  have G_p_is_one_of : Fc P w K mg base 1 "is_one_of" ["thing", "names"] (spOneOf K) := ok_p_is_one_of T
  refine T.d_p_are_sides.fc sc_p_are_sides len3 (fun f cdv A outer s H vs Q E hr h => ?_)
  obtain ⟨x, y, u, rfl, a, b, p, zs, ha, hb, rfl, hp, q⟩ := h
  refine ⟨_, (@pss_one _ _ _ (@ps_ret _ _ _ _ (@pe_and _ _ _ _ _ _ _ (@pe_c _ _ _ _ _ _ _ _ _ _ G_p_is_one_of (hr.mono (by decide)) (@pa_cons _ _ _ _ _ (pv 0) (@pa_cons _ _ _ _ _ (pv 2) pa_nil (by rfl)) (by rfl)) (by rfl) (by decide) (by rfl) (by rfl)) (@pe_and _ _ _ _ _ _ _ (@pe_c _ _ _ _ _ _ _ _ _ _ G_p_is_one_of (hr.mono (by decide)) (@pa_cons _ _ _ _ _ (pv 1) (@pa_cons _ _ _ _ _ (pv 2) pa_nil (by rfl)) (by rfl)) (by rfl) (by decide) (by rfl) (by rfl)) (@pe_one _ _ _ _ _ (@pe_cmpR _ _ _ _ _ _ _ _ op_ne (pv 0) (pv 1) (@nomark _ _ (by decide) (by decide)))))))), ?_⟩
  have q : Q (.bl (oneOf zs a && (oneOf zs b && !deq a b))) H := q
  refine ⟨_, rfl, _, rfl, _, _, rfl, a, p, zs, ha, rfl, hp, _, rfl, ?_⟩
  cases ea : oneOf zs a with
  | false => rw [ea] at q; exact iteF q
  | true =>
    rw [ea, Bool.true_and] at q
    refine iteT ⟨_, rfl, _, rfl, _, _, rfl, b, p, zs, hb, rfl, hp, _, rfl, ?_⟩
    cases eb : oneOf zs b with
    | false => rw [eb] at q; exact iteF q
    | true =>
      rw [eb, Bool.true_and] at q
      cases a with
      | str z =>
        cases b with
        | str z' =>
          cases (show x = .str z from ha)
          cases (show y = .str z' from hb)
          refine iteT ⟨_, rfl, _, rfl, rfl, ?_⟩
          have e : (!decide (V.str z = V.str z')) = !deq (.str z) (.str z') := by rw [dec_str]; rfl
          rw [e]
          exact q
        | _ => cases eb
      | _ => cases ea

def spSill : Sp := sp2 fun x y H Q => ∃ (d : Dv) (j : Int), Is H d x ∧ y = .int j ∧ Q (.bl (isSill (.int j) d)) H
theorem ok_p_is_sill (T : Txt w K mg C) : Fc P w K mg base 3 "is_sill" ["thing", "crown"] spSill := by
  have G_p_is_height : Fc P w K mg base 2 "is_height" ["thing"] spHeight := ok_p_is_height T
  refine T.d_p_is_sill.fc sc_p_is_sill len2 (fun f cdv A outer s H vs Q E hr h => ?_)
  obtain ⟨x, y, rfl, d, j, hd, rfl, q⟩ := h
  refine ⟨_, (@pss_one _ _ _ (@ps_ret _ _ _ _ (@pe_or _ _ _ _ _ _ _ (@pe_cmpR _ _ _ _ _ _ _ _ op_isN (pv 0) pe_non (@nomark _ _ (by decide) (by decide))) (@pe_one _ _ _ _ _ (@pe_and _ _ _ _ _ _ _ (@pe_c _ _ _ _ _ _ _ _ _ _ G_p_is_height (hr.mono (by decide)) (@pa_cons _ _ _ _ _ (pv 0) pa_nil (by rfl)) (by rfl) (by decide) (by rfl) (by rfl)) (@pe_one _ _ _ _ _ (@pe_cmpR _ _ _ _ _ _ _ _ op_lt (pv 0) (pv 1) (@nomark _ _ (by decide) (by decide))))))))), ?_⟩
  refine ⟨_, rfl, rfl, _, rfl, ?_⟩
  cases d with
  | non =>
    cases (show x = .non from hd)
    rw [decide_eq_true rfl]
    exact iteT q
  | int i =>
    cases (show x = .int i from hd)
    rw [decide_eq_false (show ¬ V.int i = V.non by intro z; cases z)]
    refine iteF ⟨_, rfl, _, rfl, .int i, rfl, _, rfl, ?_⟩
    have q : Q (.bl (hgt i && decide (i < j))) H := q
    show if hgt i = true then _ else _
    cases e : hgt i with
    | false => rw [e] at q; exact iteF q
    | true => rw [e, Bool.true_and] at q; exact iteT ⟨_, rfl, _, rfl, _, _, rfl, rfl, q⟩
  | bl b =>
    cases (show x = .bl b from hd)
    rw [decide_eq_false (show ¬ V.bl b = V.non by intro z; cases z)]
    exact iteF ⟨_, rfl, _, rfl, .bl b, rfl, _, rfl, iteF q⟩
  | str b =>
    cases (show x = .str b from hd)
    rw [decide_eq_false (show ¬ V.str b = V.non by intro z; cases z)]
    exact iteF ⟨_, rfl, _, rfl, .str b, rfl, _, rfl, iteF q⟩
  | lst b =>
    obtain ⟨a, us, rfl, o⟩ := id hd
    rw [decide_eq_false (show ¬ V.ref a = V.non by intro z; cases z)]
    exact iteF ⟨_, rfl, _, rfl, .lst b, hd, _, rfl, iteF q⟩
  | tup b =>
    obtain ⟨a, us, rfl, o⟩ := id hd
    rw [decide_eq_false (show ¬ V.ref a = V.non by intro z; cases z)]
    exact iteF ⟨_, rfl, _, rfl, .tup b, hd, _, rfl, iteF q⟩
  | dct b c =>
    obtain ⟨a, us, rfl, o⟩ := id hd
    rw [decide_eq_false (show ¬ V.ref a = V.non by intro z; cases z)]
    exact iteF ⟨_, rfl, _, rfl, .dct b c, hd, _, rfl, iteF q⟩

def spDyke (K : PySem.W.Frag) : Sp := sp2 fun x y H Q => ∃ (d : Dv) (p : Addr) (zs : List Str), Is H d x ∧ small d = true ∧ y = .ref p ∧ SqL K H p (zs.map V.str) ∧ Q (.bl (isDyke zs d)) H
theorem ok_p_is_dyke (T : Txt w K mg C) : Fc P w K mg base 4 "is_dyke" ["thing", "sides"] (spDyke K) := by
  have G_p_is_tuple_of : Fc P w K mg base 1 "is_tuple_of" ["thing", "length"] spTupOf := ok_p_is_tuple_of T
  have G_p_is_name : Fc P w K mg base 1 "is_name" ["thing"] spName := ok_p_is_name T
  have G_p_are_sides : Fc P w K mg base 2 "are_sides" ["one", "other", "sides"] (spSides K) := ok_p_are_sides T
  have G_p_is_height : Fc P w K mg base 2 "is_height" ["thing"] spHeight := ok_p_is_height T
  have G_p_is_amount : Fc P w K mg base 2 "is_amount" ["thing"] spAmount := ok_p_is_amount T
  have G_p_is_sill : Fc P w K mg base 3 "is_sill" ["thing", "crown"] spSill := ok_p_is_sill T
  refine T.d_p_is_dyke.fc sc_p_is_dyke len2 (fun f cdv A outer s H vs Q E hr h => ?_)
  obtain ⟨x, y, rfl, d, p, zs, hd, hs, rfl, hp, q⟩ := h
  refine ⟨_, (@pss_cons _ _ _ _ _ (@ps_if _ _ _ _ _ _ _ _ (@PW.pt _ _ _ (@pw_or _ _ _ _ _ _ _ (@pt_not _ _ _ _ (@pt_val _ _ _ (@pe_c _ _ _ _ _ _ _ _ _ _ G_p_is_tuple_of (hr.mono (by decide)) (@pa_cons _ _ _ _ _ (pv 0) (@pa_cons _ _ _ _ _ pe_int pa_nil (by rfl)) (by rfl)) (by rfl) (by decide) (by rfl) (by rfl)) (by intro _; rfl))) (@pw_or _ _ _ _ _ _ _ (@pt_not _ _ _ _ (@pt_val _ _ _ (@pe_c _ _ _ _ _ _ _ _ _ _ G_p_is_name (hr.mono (by decide)) (@pa_cons _ _ _ _ _ (@pe_ix _ _ _ _ _ _ _ (@ix_tupB _ (K) rfl) (pv 0) pe_int (fun _ _ => rfl)) pa_nil (by rfl)) (by rfl) (by decide) (by rfl) (by rfl)) (by intro _; rfl))) (@pw_or1 _ _ _ _ (@pt_not _ _ _ _ (@pt_val _ _ _ (@pe_c _ _ _ _ _ _ _ _ _ _ G_p_are_sides (hr.mono (by decide)) (@pa_cons _ _ _ _ _ (@pe_ix _ _ _ _ _ _ _ (@ix_tupB _ (K) rfl) (pv 0) pe_int (fun _ _ => rfl)) (@pa_cons _ _ _ _ _ (@pe_ix _ _ _ _ _ _ _ (@ix_tupB _ (K) rfl) (pv 0) pe_int (fun _ _ => rfl)) (@pa_cons _ _ _ _ _ (pv 1) pa_nil (by rfl)) (by rfl)) (by rfl)) (by rfl) (by decide) (by rfl) (by rfl)) (by intro _; rfl))))))) (@pss_one _ _ _ (@ps_ret _ _ _ _ pe_bl)) pss_nil) (@pss_one _ _ _ (@ps_ret _ _ _ _ (@pe_and _ _ _ _ _ _ _ (@pe_c _ _ _ _ _ _ _ _ _ _ G_p_is_height (hr.mono (by decide)) (@pa_cons _ _ _ _ _ (@pe_ix _ _ _ _ _ _ _ (@ix_tupB _ (K) rfl) (pv 0) pe_int (fun _ _ => rfl)) pa_nil (by rfl)) (by rfl) (by decide) (by rfl) (by rfl)) (@pe_and _ _ _ _ _ _ _ (@pe_c _ _ _ _ _ _ _ _ _ _ G_p_is_amount (hr.mono (by decide)) (@pa_cons _ _ _ _ _ (@pe_ix _ _ _ _ _ _ _ (@ix_tupB _ (K) rfl) (pv 0) pe_int (fun _ _ => rfl)) pa_nil (by rfl)) (by rfl) (by decide) (by rfl) (by rfl)) (@pe_one _ _ _ _ _ (@pe_c _ _ _ _ _ _ _ _ _ _ G_p_is_sill (hr.mono (by decide)) (@pa_cons _ _ _ _ _ (@pe_ix _ _ _ _ _ _ _ (@ix_tupB _ (K) rfl) (pv 0) pe_int (fun _ _ => rfl)) (@pa_cons _ _ _ _ _ (@pe_ix _ _ _ _ _ _ _ (@ix_tupB _ (K) rfl) (pv 0) pe_int (fun _ _ => rfl)) pa_nil (by rfl)) (by rfl)) (by rfl) (by decide) (by rfl) (by rfl)))))))), ?_⟩
  refine ⟨_, rfl, _, _, rfl, d, 6, hd, rfl, _, rfl, ?_⟩
  by_cases h6 : ∃ n a b c r l, d = .tup [n, a, b, c, r, l]
  · obtain ⟨n, a, b, c, r, l, rfl⟩ := h6
    obtain ⟨t, us, rfl, o, v0, r0, rfl, i0, v1, r1, rfl, i1, v2, r2, rfl, i2, v3, r3, rfl, i3, v4, r4, rfl, i4, v5, r5, rfl, i5, h0⟩ := hd
    cases (show r5 = [] from h0)
    have sn : small n = true := by
      exact smallL_mem (small_tup hs) List.mem_cons_self
    have q : Q (.bl (isName n && areSides zs a b && (isHeight c && (isAmount r && isSill c l)))) H := q
    have at_ : ∀ (j : Nat) (v : V), ([v0, v1, v2, v3, v4, v5] : List V)[j]? = some v → atI [v0, v1, v2, v3, v4, v5] (j : Int) = some v := fun j v e => atI_nat e
    refine iteF ⟨_, rfl, t, _, 0, v0, rfl, rfl, SqT.of o, at_ 0 _ rfl, _, rfl, n, i0, sn, _, rfl, ?_⟩
    cases en : isName n with
    | false => rw [en] at q; exact iteT q
    | true =>
      rw [en, Bool.true_and] at q
      refine iteF ⟨_, rfl, t, _, 1, v1, rfl, rfl, SqT.of o, at_ 1 _ rfl, _, rfl, t, _, 2, v2, rfl, rfl, SqT.of o, at_ 2 _ rfl, _, rfl, _, _, _, rfl, a, b, p, zs, i1, i2, rfl, hp, _, rfl, ?_⟩
      cases es : areSides zs a b with
      | false => rw [es] at q; exact iteT q
      | true =>
        rw [es, Bool.true_and] at q
        refine iteF ⟨_, rfl, t, _, 3, v3, rfl, rfl, SqT.of o, at_ 3 _ rfl, _, rfl, c, i3, _, rfl, ?_⟩
        cases ec : isHeight c with
        | false => rw [ec] at q; exact iteF q
        | true =>
          rw [ec, Bool.true_and] at q
          refine iteT ⟨_, rfl, t, _, 4, v4, rfl, rfl, SqT.of o, at_ 4 _ rfl, _, rfl, r, i4, _, rfl, ?_⟩
          cases er : isAmount r with
          | false => rw [er] at q; exact iteF q
          | true =>
            rw [er, Bool.true_and] at q
            cases c with
            | int j =>
              cases (show v3 = .int j from i3)
              exact iteT ⟨_, rfl, t, _, 5, v5, rfl, rfl, SqT.of o, at_ 5 _ rfl, _, rfl, t, _, 3, _, rfl, rfl, SqT.of o, at_ 3 _ rfl, _, _, rfl, l, j, i5, rfl, q⟩
            | _ => cases ec
  · have e1 : isDyke zs d = false := by
      unfold isDyke
      split
      · rename_i n a b c r l
        exact absurd ⟨n, a, b, c, r, l, rfl⟩ h6
      · rfl
    have e2 : tupIs 6 d = false := by
      cases d with
      | tup ds =>
        refine decide_eq_false (fun e => ?_)
        have e' : ds.length = 6 := by omega
        match ds, e', h6 with
        | [n, a, b, c, r, l], _, h6 => exact h6 ⟨n, a, b, c, r, l, rfl⟩
      | _ => rfl
    dsimp only
    rw [e2]
    rw [e1] at q
    exact iteT q
theorem isDyke_first {zs : List Str} (d : Dv) (h : isDyke zs d = true) : ∃ z, firstS d = some z := by
  unfold isDyke at h
  split at h
  · rename_i n a b c r l
    rw [Bool.and_eq_true, Bool.and_eq_true] at h
    cases n with
    | str z => exact ⟨z, rfl⟩
    | _ => cases h.1.1
  · cases h
def spDykes (K : PySem.W.Frag) : Sp := sp2 fun x y H Q => ∃ (d : Dv) (p : Addr) (zs : List Str), Is H d x ∧ small d = true ∧ y = .ref p ∧ H p = some (.lst (zs.map V.str)) ∧ Q (.bl (areDykes zs d)) H
theorem ok_p_are_dykes (T : Txt w K mg C) : Fc P w K mg base 5 "are_dykes" ["thing", "sides"] (spDykes K) := by
  have G_p_is_list_of : Fc P w K mg base 1 "is_list_of" ["thing", "most"] spListOf := ok_p_is_list_of T
  have G_p_is_dyke : Fc P w K mg base 4 "is_dyke" ["thing", "sides"] (spDyke K) := ok_p_is_dyke T
  have G_p_none_twice : Fc P w K mg base 1 "none_twice" ["rows"] spTwice := ok_p_none_twice T
  refine T.d_p_are_dykes.fcD sc_p_are_dykes len2 (fun f cdv A outer s H vs Q E hr h => ?_)
  obtain ⟨x, y, rfl, d, p0, zs0, hd, hs, rfl, hp0, q⟩ := h
  have big := big1000
  refine ⟨_, (@pss_one _ _ _ (@ps_ret _ _ _ _ (@pe_and _ _ _ _ _ _ _ (@pe_c _ _ _ _ _ _ _ _ _ _ G_p_is_list_of (hr.mono (by decide)) (@pa_cons _ _ _ _ _ (pv 0) (@pa_cons _ _ _ _ _ (@pe_g _ _ _ _ T.g_MOST_DYKES (by rfl) (by decide)) pa_nil (by rfl)) (by rfl)) (by rfl) (by decide) (by rfl) (by rfl)) (@pe_and _ _ _ _ _ _ _ (@pe_callB _ _ _ _ _ _ _ _ _ (@call_all _ rfl) rfl T.n_all boot_all' (@pa_cons _ _ _ _ _ (@pe_comp _ _ _ _ _ _ _ _ _ _ _ ["row", "sides"] 1 [1] rfl (@pi_list _ _ _ _ (pv 0)) (fun R => @pg_name _ _ (0) _ (show List.Nodup (["row", "sides"] : List Str) by decide +kernel) rfl (Or.inl rfl) (by first | exact .inl rfl | exact .inr rfl | assumption)) (@gkeep_name _ _ (by decide)) (fun R => pifs_nil) (fun R => (@pe_c _ _ _ _ _ _ _ _ _ _ G_p_is_dyke (hr.mono (by decide)) (@pa_cons _ _ _ _ _ (pv 0) (@pa_cons _ _ _ _ _ (pv 1) pa_nil (by rfl)) (by rfl)) (by rfl) (by decide) (by rfl) (by rfl))) (by rfl) (by rfl) (by rfl) (by rfl) (by rfl) (by rfl) (by rfl) (by intro _; rfl)) pa_nil (by rfl)) (by decide) (by decide) (by rfl) (by rfl)) (@pe_one _ _ _ _ _ (@pe_c _ _ _ _ _ _ _ _ _ _ G_p_none_twice (hr.mono (by decide)) (@pa_cons _ _ _ _ _ (pv 0) pa_nil (by rfl)) (by rfl) (by decide) (by rfl) (by rfl))))))), ?_⟩
  refine ⟨_, rfl, _, _, rfl, d, 40, hd, rfl, _, rfl, ?_⟩
  cases d with
  | lst ds =>
    obtain ⟨p, us, rfl, o, hi⟩ := hd
    have l1 := hi.length
    have hs' := Bool.and_eq_true_iff.mp (show (decide (ds.length ≤ 1000) && smallL ds) = true from hs)
    have l2 : ds.length ≤ 1000 := of_decide_eq_true hs'.1
    have q : Q (.bl ((decide (1 ≤ ds.length) && decide (ds.length ≤ 40)) && (ds.all (isDyke zs0) && decide ((ds.map firstS).Nodup)))) H := q
    have e0 : (decide (1 ≤ ds.length) && decide ((ds.length : Int) ≤ 40)) = (decide (1 ≤ ds.length) && decide (ds.length ≤ 40)) := by
      congr 1
      rw [Bool.eq_iff_iff, decide_eq_true_iff, decide_eq_true_iff]
      omega
    show if (decide (1 ≤ ds.length) && decide ((ds.length : Int) ≤ 40)) = true then _ else _
    rw [e0]
    refine ite2 (fun h1 => ?_) (fun h1 => ?_)
    · rw [h1, Bool.true_and] at q
      refine ⟨_, rfl, p, rfl, ⟨_, SqL.of o⟩, ?_⟩
      refine comp_list (F := K) (xs := us) (by omega) (fun i ys H' => H' = H ∧ ys = (ds.take i).map fun d => V.bl (isDyke zs0 d)) ⟨rfl, rfl⟩ ?_ ?_ ?_
      · rintro i ys H' hi' ⟨rfl, rfl⟩
        exact ⟨SqL.of o, by rw [List.length_map, List.length_take]; omega⟩
      · rintro i x ys H' K1 K2 hx ⟨rfl, rfl⟩ k1 k2
        have hil : i < us.length := (List.getElem?_eq_some_iff.mp hx).1
        obtain ⟨d, ed⟩ : ∃ d, ds[i]? = some d := ⟨_, List.getElem?_eq_getElem (by omega)⟩
        obtain ⟨v, ev, iv⟩ := hi.get ed
        rw [hx] at ev
        cases ev
        refine ⟨_, rfl, _, rfl, _, _, rfl, d, p0, zs0, iv, smallL_mem hs'.2 (List.mem_of_getElem? ed), rfl, SqL.of hp0, k1 _ _ ⟨rfl, ?_⟩⟩
        rw [List.take_add_one, ed]
        simp
      · rintro ys H' ⟨rfl, rfl⟩
        intro p1 hp1
        have np : p ≠ p1 := ne_of_none o hp1
        refine ⟨p1, ds.map (isDyke zs0), rfl, SqL.of ?_, _, rfl, ?_⟩
        · rw [upd_same, List.take_of_length_le (by omega), List.map_map]
          rfl
        have e1 : (ds.map (isDyke zs0)).all id = ds.all (isDyke zs0) := by rw [List.all_map]; rfl
        rw [e1]
        refine ite2 (fun h2 => ?_) (fun h2 => ?_)
        · rw [h2, Bool.true_and] at q
          obtain ⟨zs, ez⟩ := firsts_of isDyke_first h2
          have l3 : zs.length = ds.length := by have := congrArg List.length ez; simpa using this.symm
          refine ⟨_, rfl, _, rfl, p, us, ds, zs, rfl, by rw [upd_ne np]; exact o, IsL.same (Same.upd hp1) _ _ hi, ez, by omega, ?_⟩
          have e2 : decide zs.Nodup = decide (ds.map firstS).Nodup := by rw [ez, Bool.eq_iff_iff, decide_eq_true_iff, decide_eq_true_iff, nodup_some]
          rw [e2]
          exact dropQ.of (Drop.lst hp1) q
        · have h2' : ds.all (isDyke zs0) = false := by simpa using h2
          rw [h2'] at q
          exact dropQ.of (Drop.lst hp1) q
    · have h1' : (decide (1 ≤ ds.length) && decide (ds.length ≤ 40)) = false := by simpa using h1
      rw [h1'] at q
      exact dropQ.of (.refl _) q
  | _ => exact iteF (dropQ.of (.refl _) q)


def spInit (C : Addr) : Sp := sp3 fun x v1 v2 H Q => ∃ (p dx : Addr) (fs ds : List Dv), x = .ref p ∧ H p = some (.ins C dx []) ∧ Is H (.lst fs) v1 ∧ Is H (.lst ds) v2 ∧ small (.lst fs) = true ∧ small (.lst ds) = true ∧
  areFields (.lst fs) = true ∧ areDykes ("sea" :: fs.map nmOf) (.lst ds) = true ∧ ∀ H', LandAt C H' p fs ds → (∀ b o, H b = some o → b ≠ p → H' b = some o) → Q .non H'
def spRows (C : Addr) (sel : List Dv → List Dv → List Dv) : Sp := sp1 fun x H Q => ∃ (p : Addr) (fs ds : List Dv), x = .ref p ∧ LandAt C H p fs ds ∧ ∀ (l : Addr) (vs : List V) (H' : Hp), Same H H' → H l = none → H' l = some (.lst vs) → IsL H' (sel fs ds) vs → Q (.ref l) H'
def spStrs (C : Addr) (sel : List Dv → List Dv → List Str) : Sp := sp1 fun x H Q => ∃ (p : Addr) (fs ds : List Dv), x = .ref p ∧ LandAt C H p fs ds ∧ ∀ (l : Addr) (H' : Hp), Same H H' → H l = none → H' l = some (.lst ((sel fs ds).map V.str)) → Q (.ref l) H'
def spRowsX (C : Addr) (sel : List Dv → List Dv → List Dv) : Sp := sp1 fun x H Q => ∃ (p : Addr) (fs ds : List Dv), x = .ref p ∧ LandAt C H p fs ds ∧ ∀ (l : Addr) (vs : List V), H l = none → IsL H (sel fs ds) vs → Q (.ref l) (upd H l (.lst vs))
def spStrsX (C : Addr) (sel : List Dv → List Dv → List Str) : Sp := sp1 fun x H Q => ∃ (p : Addr) (fs ds : List Dv), x = .ref p ∧ LandAt C H p fs ds ∧ ∀ (l : Addr), H l = none → Q (.ref l) (upd H l (.lst ((sel fs ds).map V.str)))
theorem rows_imp {C : Addr} {sel : List Dv → List Dv → List Dv} : ∀ vs H Q E, spRows C sel vs H Q E → spRowsX C sel vs H Q E := by
  rintro vs H Q E ⟨x, rfl, p, fs, ds, rfl, L, q⟩
  exact ⟨_, rfl, p, fs, ds, rfl, L, fun l us hl hi => q l us _ (Same.upd hl) hl upd_same (IsL.same (Same.upd hl) _ _ hi)⟩
theorem strs_imp {C : Addr} {sel : List Dv → List Dv → List Str} : ∀ vs H Q E, spStrs C sel vs H Q E → spStrsX C sel vs H Q E := by
  rintro vs H Q E ⟨x, rfl, p, fs, ds, rfl, L, q⟩
  exact ⟨_, rfl, p, fs, ds, rfl, L, fun l hl => q l _ (Same.upd hl) hl upd_same⟩
theorem ok_land_p_dykesX (T : Txt w K mg C) : Mc P w K mg base 1 C "dykes" ["self"] (spRowsX C fun _ ds => ds) := by
  refine T.m_land_p_dykes.mcD sc_land_p_dykes len1 (fun f cdv A outer s H vs Q E hr h => ?_)
  obtain ⟨x, rfl, p, fs, ds, rfl, L, q⟩ := h
  obtain ⟨dx, d1, d2, hx, t1, ⟨k1, h1, e1, i1⟩⟩ := L.ex
  refine ⟨_, (@pss_one _ _ _ (@ps_ret _ _ _ _ (@pe_callTy _ _ _ _ _ _ _ _ _ (@call_list_values _ rfl) rfl T.n_list boot_list' (@pa_cons _ _ _ _ _ (@pe_bm0 _ _ _ _ _ _ _ _ _ PySem.F.plainAttrs_dict PySem.F.slot_dict_values PySem.F.type_dict_values mt_values (@pe_fld _ _ _ _ _ (pv 0) rfl) (by rfl) (by rfl)) pa_nil (by rfl)) (by decide) (by decide) (by rfl) (by rfl)))), ?_⟩
  refine ⟨_, rfl, p, C, dx, _, _, rfl, hx, T.cl_Land, T.a_dyke_rows, landF_d _ _, .inr (.inr (.inl ⟨rfl, .inl ⟨_, h1⟩⟩)), d2, k1, rfl, rfl, .inl h1, fun v hv => ?_⟩
  have nv : d2 ≠ v := ne_of_none h1 hv
  refine ⟨v, d2, k1, rfl, upd_same, .inl (by rw [upd_ne nv]; exact h1), fun l hl => ?_⟩
  exact dropQ.of (Drop.under hv rfl hl) (q l _ ((Same.upd hv).free hl) i1)
theorem ok_land_p_dykes (T : Txt w K mg C) : Mc P w K mg base 1 C "dykes" ["self"] (spRows C fun _ ds => ds) := (ok_land_p_dykesX T).imp rows_imp
theorem keys_names {kvs : List (Key × V)} {ds : List Dv} (e : kvs.map (·.1) = ds.map keyOf) : (kvs.map fun kv => kV kv.1) = (ds.map nmOf).map V.str := by
  have h : (kvs.map fun kv => kV kv.1) = (kvs.map (·.1)).map kV := by rw [List.map_map]; rfl
  rw [h, e, List.map_map, List.map_map]
  rfl
theorem ok_land_p_field_namesX (T : Txt w K mg C) : Mc P w K mg base 1 C "field_names" ["self"] (spStrsX C fun fs _ => fs.map nmOf) := by
  refine T.m_land_p_field_names.mc sc_land_p_field_names len1 (fun f cdv A outer s H vs Q E hr h => ?_)
  obtain ⟨x, rfl, p, fs, ds, rfl, L, q⟩ := h
  obtain ⟨dx, d1, d2, hx, ⟨k1, h1, e1, i1⟩, t2⟩ := L.ex
  refine ⟨_, (@pss_one _ _ _ (@ps_ret _ _ _ _ (@pe_callTy _ _ _ _ _ _ _ _ _ (@call_list_dict _ rfl) rfl T.n_list boot_list' (@pa_cons _ _ _ _ _ (@pe_fld _ _ _ _ _ (pv 0) rfl) pa_nil (by rfl)) (by decide) (by decide) (by rfl) (by rfl)))), ?_⟩
  refine ⟨_, rfl, p, C, dx, _, _, rfl, hx, T.cl_Land, T.a_field_rows, landF_f _ _, d1, k1, rfl, .inl h1, fun l hl => ?_⟩
  have := q l hl
  rw [keys_names e1]
  exact this
theorem ok_land_p_field_names (T : Txt w K mg C) : Mc P w K mg base 1 C "field_names" ["self"] (spStrs C fun fs _ => fs.map nmOf) := (ok_land_p_field_namesX T).imp strs_imp
theorem dyke_row {H : Hp} {n a b : Str} {c r : Int} {s : Dv} {v : V} (h : Is H (.tup [.str n, .str a, .str b, .int c, .int r, s]) v) : ∃ t vs, v = .ref t ∧ H t = some (.tup [.str n, .str a, .str b, .int c, .int r, vs]) ∧ Is H s vs := by
  obtain ⟨t, us, rfl, o, v0, r0, rfl, i0, v1, r1, rfl, i1, v2, r2, rfl, i2, v3, r3, rfl, i3, v4, r4, rfl, i4, v5, r5, rfl, i5, h0⟩ := h
  cases (show r5 = [] from h0)
  cases (show v0 = _ from i0)
  cases (show v1 = _ from i1)
  cases (show v2 = _ from i2)
  cases (show v3 = _ from i3)
  cases (show v4 = _ from i4)
  exact ⟨t, v5, rfl, o, i5⟩
theorem field_row {H : Hp} {n : Str} {g e : Int} {v : V} (h : Is H (.tup [.str n, .int g, .int e]) v) : ∃ t, v = .ref t ∧ H t = some (.tup [.str n, .int g, .int e]) := by
  obtain ⟨t, us, rfl, o, v0, r0, rfl, i0, v1, r1, rfl, i1, v2, r2, rfl, i2, h0⟩ := h
  cases (show r2 = [] from h0)
  cases (show v0 = _ from i0)
  cases (show v1 = _ from i1)
  cases (show v2 = _ from i2)
  exact ⟨t, rfl, o⟩
theorem ok_land_p_sluices (T : Txt w K mg C) : Mc P w K mg base 2 C "sluices" ["self"] (spStrs C fun _ ds => (ds.filter hasSill).map nmOf) := by
  have G_land_p_dykes : Mc P w K mg base 1 C "dykes" ["self"] (spRows C fun _ ds => ds) := ok_land_p_dykes T
  refine T.m_land_p_sluices.mc sc_land_p_sluices len1 (fun f cdv A outer s H vs Q E hr h => ?_)
  obtain ⟨x, rfl, p, fs, ds, rfl, L, q⟩ := h
  have big := big1000
  obtain ⟨dx, d1, d2, hx, _⟩ := L.ex
  have gd := (goodD_iff _ _).mp L.okd
  refine ⟨_, (@pss_one _ _ _ (@ps_ret _ _ _ _ (@pe_comp _ _ _ _ _ _ _ _ _ _ _ ["dyke"] 1 [] rfl (@pi_list _ _ _ _ (@pe_m0 _ _ _ _ _ _ _ _ _ _ _ T.cl_Land G_land_p_dykes (hr.mono (by decide)) (pv 0) (by rfl))) (fun R => @pg_name _ _ (0) _ (show List.Nodup (["dyke"] : List Str) by decide +kernel) rfl (Or.inl rfl) (by first | exact .inl rfl | exact .inr rfl | assumption)) (@gkeep_name _ _ (by decide)) (fun R => @pifs_one _ _ _ (@pt_cmpR _ _ _ _ _ _ _ _ op_notN (@pe_ix _ _ _ _ _ _ _ (@ix_tupB _ (K) rfl) (pv 0) pe_int (fun _ _ => rfl)) pe_non (@nomark _ _ (by decide) (by decide)))) (fun R => (@pe_ix _ _ _ _ _ _ _ (@ix_tupB _ (K) rfl) (pv 0) pe_int (fun _ _ => rfl))) (by rfl) (by rfl) (by rfl) (by rfl) (by rfl) (by rfl) (by rfl) (by intro _; rfl)))), ?_⟩
  refine ⟨_, rfl, p, dx, _, rfl, hx, landF_no _ _ (by decide +kernel) (by decide +kernel), _, rfl, p, fs, ds, rfl, L, fun l us H1 S1 fl hl hi => ?_⟩
  have hi : IsL H1 ds us := hi
  have l1 := hi.length
  have l2 := gd.l2
  refine ⟨l, rfl, ⟨_, SqL.of hl⟩, ?_⟩
  refine comp_list (F := K) (xs := us) (by omega) (fun i ys H' => H' = H1 ∧ ys = (((ds.take i).filter hasSill).map nmOf).map V.str ∧ ys.length ≤ i) ⟨rfl, rfl, Nat.le_refl _⟩ ?_ ?_ ?_
  · rintro i ys H' hi' ⟨rfl, rfl, hy⟩
    exact ⟨SqL.of hl, hy⟩
  · rintro i x ys H' K1 K2 hx ⟨rfl, rfl, hy⟩ k1 k2
    have hil : i < us.length := (List.getElem?_eq_some_iff.mp hx).1
    obtain ⟨d, ed⟩ : ∃ d, ds[i]? = some d := ⟨_, List.getElem?_eq_getElem (by omega)⟩
    obtain ⟨v, ev, iv⟩ := hi.get ed
    rw [hx] at ev
    cases ev
    obtain ⟨n, a, b, c, r, sl, rfl, _⟩ := dyke_shape (gd.all d (List.mem_of_getElem? ed))
    obtain ⟨t, vs, rfl, o, iss⟩ := dyke_row iv
    refine ⟨_, rfl, t, _, 5, vs, rfl, rfl, SqT.of o, atI_nat (j := 5) rfl, rfl, _, rfl, ?_⟩
    rw [isNon_is iss]
    have e0 : hasSill (.tup [.str n, .str a, .str b, .int c, .int r, sl]) = !isNon sl := rfl
    cases e : isNon sl with
    | true =>
      refine iteF (k2 _ ⟨rfl, ?_, by omega⟩)
      rw [List.take_add_one, ed]
      simp [e0, e]
    | false =>
      refine iteT ⟨_, rfl, t, _, 0, .str n, rfl, rfl, SqT.of o, atI_nat (j := 0) rfl, k1 _ _ ⟨rfl, ?_, by rw [List.length_append, List.length_singleton]; omega⟩⟩
      rw [List.take_add_one, ed]
      simp [e0, e, nmOf, firstS]
  · rintro ys H' ⟨rfl, rfl, hy⟩
    intro l2 hl2
    refine q l2 _ (S1.trans (Same.upd hl2)) (S1.free hl2) ?_
    rw [upd_same, List.take_of_length_le (by omega)]
theorem zip_fst {α β : Type} : ∀ {xs : List α} {ys : List β}, xs.length = ys.length → (xs.zip ys).map (·.1) = xs
  | [], [], _ => rfl
  | x :: xs, y :: ys, h => by rw [List.zip_cons_cons, List.map_cons, zip_fst (by simpa using h)]
  | [], _ :: _, h => by simp at h
  | _ :: _, [], h => by simp at h
theorem zip_snd {α β : Type} : ∀ {xs : List α} {ys : List β}, xs.length = ys.length → (xs.zip ys).map (·.2) = ys
  | [], [], _ => rfl
  | x :: xs, y :: ys, h => by rw [List.zip_cons_cons, List.map_cons, zip_snd (by simpa using h)]
  | [], _ :: _, h => by simp at h
  | _ :: _, [], h => by simp at h
def pairsOf (ds : List Dv) (us : List V) : List (Key × V) := (ds.map keyOf).zip us
theorem pairs_keys {ds : List Dv} {us : List V} (h : us.length = ds.length) : (pairsOf ds us).map (·.1) = ds.map keyOf := zip_fst (by rw [List.length_map]; exact h.symm)
theorem pairs_vals {ds : List Dv} {us : List V} (h : us.length = ds.length) : (pairsOf ds us).map (·.2) = us := zip_snd (by rw [List.length_map]; exact h.symm)
theorem pairs_len {ds : List Dv} {us : List V} (h : us.length = ds.length) : (pairsOf ds us).length = us.length := by
  unfold pairsOf
  rw [List.length_zip, List.length_map]
  omega
theorem pairs_at {ds : List Dv} {us : List V} {i : Nat} {d : Dv} {v : V} (e1 : ds[i]? = some d) (e2 : us[i]? = some v) : (pairsOf ds us)[i]? = some (keyOf d, v) := by
  unfold pairsOf
  rw [List.getElem?_zip_eq_some]
  exact ⟨by rw [List.getElem?_map, e1]; rfl, e2⟩
theorem key_nodup {ds : List Dv} (h : (ds.map nmOf).Nodup) : (ds.map keyOf).Nodup := by
  have e : ds.map keyOf = (ds.map nmOf).map Sum.inr := by rw [List.map_map]; rfl
  rw [e, nodup_inr]
  exact h
theorem ok_land_pinit (T : Txt w K mg C) : Ic P w K mg base 6 C ["self", "fields", "dykes"] (spInit C) := by
  have G_p_are_fields : Fc P w K mg base 4 "are_fields" ["thing"] spFields := ok_p_are_fields T
  have G_p_are_dykes : Fc P w K mg base 5 "are_dykes" ["thing", "sides"] (spDykes K) := ok_p_are_dykes T
  refine T.i_Land.ic sc_land_pinit len3 (fun f cdv A outer s H vs Q E hr h => ?_)
  obtain ⟨x, v1, v2, rfl, p, dx, fs, ds, rfl, hx, hf, hd, sf, sd, okf, okd, q⟩ := h
  have big := big1000
  have gf := (goodF_iff _).mp okf
  have gd := (goodD_iff _ _).mp okd
  have lf := gf.l2
  have ld := gd.l2
  obtain ⟨a1, us, rfl, o1, i1⟩ := id hf
  obtain ⟨a2, ws, rfl, o2, i2⟩ := id hd
  have l1 := i1.length
  have l2 := i2.length
  refine ⟨_, (@pss_cons _ _ _ _ _ (@ps_if _ _ _ _ _ _ _ _ (@pt_not _ _ _ _ (@pt_val _ _ _ (@pe_c _ _ _ _ _ _ _ _ _ _ G_p_are_fields (hr.mono (by decide)) (@pa_cons _ _ _ _ _ (pv 1) pa_nil (by rfl)) (by rfl) (by decide) (by rfl) (by rfl)) (by intro _; rfl))) (@pss_one _ _ _ ps_never) pss_nil) (@pss_cons _ _ _ _ _ (@ps_if _ _ _ _ _ _ _ _ (@pt_not _ _ _ _ (@pt_val _ _ _ (@pe_c _ _ _ _ _ _ _ _ _ _ G_p_are_dykes (hr.mono (by decide)) (@pa_cons _ _ _ _ _ (pv 2) (@pa_cons _ _ _ _ _ (@pe_op _ _ _ _ _ _ _ _ op_cat (@pe_lst _ _ _ _ (@pa_cons _ _ _ _ _ (@pe_g _ _ _ _ T.g_SEA (by rfl) (by decide)) pa_nil (by rfl))) (@pe_comp _ _ _ _ _ _ _ _ _ _ _ ["field"] 1 [] rfl (@pi_list _ _ _ _ (pv 1)) (fun R => @pg_name _ _ (0) _ (show List.Nodup (["field"] : List Str) by decide +kernel) rfl (Or.inl rfl) (by first | exact .inl rfl | exact .inr rfl | assumption)) (@gkeep_name _ _ (by decide)) (fun R => pifs_nil) (fun R => (@pe_ix _ _ _ _ _ _ _ (@ix_tupB _ (K) rfl) (pv 0) pe_int (fun _ _ => rfl))) (by rfl) (by rfl) (by rfl) (by rfl) (by rfl) (by rfl) (by rfl) (by intro _; rfl))) pa_nil (by rfl)) (by rfl)) (by rfl) (by decide) (by rfl) (by rfl)) (by intro _; rfl))) (@pss_one _ _ _ ps_never) pss_nil) (@pss_cons _ _ _ _ _ (@ps_fld _ _ _ _ _ _ _ _ (pv 0) (@pe_callTy _ _ _ _ _ _ _ _ _ (@call_dict_pairs _ rfl) rfl T.n_dict boot_dict' (@pa_cons _ _ _ _ _ (@pe_comp _ _ _ _ _ _ _ _ _ _ _ ["field"] 1 [] rfl (@pi_list _ _ _ _ (pv 1)) (fun R => @pg_name _ _ (0) _ (show List.Nodup (["field"] : List Str) by decide +kernel) rfl (Or.inl rfl) (by first | exact .inl rfl | exact .inr rfl | assumption)) (@gkeep_name _ _ (by decide)) (fun R => pifs_nil) (fun R => (@pe_tup _ _ _ _ _ (@pa_cons _ _ _ _ _ (@pe_ix _ _ _ _ _ _ _ (@ix_tupB _ (K) rfl) (pv 0) pe_int (fun _ _ => rfl)) (@pa_cons _ _ _ _ _ (pv 0) pa_nil (by rfl)) (by rfl)))) (by rfl) (by rfl) (by rfl) (by rfl) (by rfl) (by rfl) (by rfl) (by intro _; rfl)) pa_nil (by rfl)) (by decide) (by decide) (by rfl) (by rfl)) rfl) (@pss_one _ _ _ (@ps_fld _ _ _ _ _ _ _ _ (pv 0) (@pe_callTy _ _ _ _ _ _ _ _ _ (@call_dict_pairs _ rfl) rfl T.n_dict boot_dict' (@pa_cons _ _ _ _ _ (@pe_comp _ _ _ _ _ _ _ _ _ _ _ ["dyke"] 1 [] rfl (@pi_list _ _ _ _ (pv 2)) (fun R => @pg_name _ _ (0) _ (show List.Nodup (["dyke"] : List Str) by decide +kernel) rfl (Or.inl rfl) (by first | exact .inl rfl | exact .inr rfl | assumption)) (@gkeep_name _ _ (by decide)) (fun R => pifs_nil) (fun R => (@pe_tup _ _ _ _ _ (@pa_cons _ _ _ _ _ (@pe_ix _ _ _ _ _ _ _ (@ix_tupB _ (K) rfl) (pv 0) pe_int (fun _ _ => rfl)) (@pa_cons _ _ _ _ _ (pv 0) pa_nil (by rfl)) (by rfl)))) (by rfl) (by rfl) (by rfl) (by rfl) (by rfl) (by rfl) (by rfl) (by intro _; rfl)) pa_nil (by rfl)) (by decide) (by decide) (by rfl) (by rfl)) rfl))))), ?_⟩
  refine ⟨_, rfl, _, rfl, .lst fs, hf, sf, _, rfl, ?_⟩
  rw [okf]
  refine iteF ?_
  refine ⟨_, rfl, small_le rfl, fun p1 hp1 => ?_⟩
  have S1 := Same.upd (o := .lst [.str "sea"]) hp1
  refine ⟨_, rfl, a1, rfl, ⟨_, SqL.of (S1 _ _ o1)⟩, ?_⟩
  refine comp_list (F := K) (xs := us) (by omega) (fun i ys H' => H' = upd H p1 (.lst [.str "sea"]) ∧ ys = ((fs.take i).map nmOf).map V.str) ⟨rfl, rfl⟩ ?_ ?_ ?_
  · rintro i ys H' hi' ⟨rfl, rfl⟩
    exact ⟨SqL.of (S1 _ _ o1), by rw [List.length_map, List.length_map, List.length_take]; omega⟩
  · rintro i x ys H' K1 K2 hx' ⟨rfl, rfl⟩ k1 k2
    have hil : i < us.length := (List.getElem?_eq_some_iff.mp hx').1
    obtain ⟨d, ed⟩ : ∃ d, fs[i]? = some d := ⟨_, List.getElem?_eq_getElem (by omega)⟩
    obtain ⟨v, ev, iv⟩ := i1.get ed
    rw [hx'] at ev
    cases ev
    obtain ⟨z, g, e, rfl, _⟩ := field_shape (gf.all d (List.mem_of_getElem? ed))
    obtain ⟨t, rfl, o⟩ := field_row iv
    refine ⟨_, rfl, t, _, 0, .str z, rfl, rfl, SqT.of (S1 _ _ o), atI_nat (j := 0) rfl, k1 _ _ ⟨rfl, ?_⟩⟩
    rw [List.take_add_one, ed]
    simp [nmOf, firstS]
  · rintro ys H' ⟨rfl, rfl⟩
    intro p2 hp2
    rw [List.take_of_length_le (by omega)]
    have S2 := Same.upd (o := .lst ((fs.map nmOf).map V.str)) hp2
    refine ⟨p1, p2, _, _, rfl, rfl, S2 _ _ upd_same, upd_same, by simp only [List.length_map, List.length_cons, List.length_nil]; omega, fun p3 hp3 => ?_⟩
    have S3 := Same.upd (o := .lst ([.str "sea"] ++ (fs.map nmOf).map V.str)) hp3
    have S := S1.trans (S2.trans S3)
    generalize hH3 : upd (upd (upd H p1 (.lst [.str "sea"])) p2 (.lst ((fs.map nmOf).map V.str))) p3 (.lst ([.str "sea"] ++ (fs.map nmOf).map V.str)) = H3 at S
    have hp3' : H3 p3 = some (.lst ((("sea" : Str) :: fs.map nmOf).map V.str)) := by rw [← hH3, upd_same]; rfl
    refine ⟨_, _, rfl, .lst ds, p3, _, Is.same S _ _ hd, sd, rfl, hp3', _, rfl, ?_⟩
    rw [okd]
    refine iteF ?_
    refine ⟨_, rfl, a1, rfl, ⟨_, SqL.of (S _ _ o1)⟩, ?_⟩
    refine comp_list (F := K) (xs := us) (by omega) (fun i ys H' => Same H3 H' ∧ PairsAt H' ys ((pairsOf fs us).take i)) ⟨Same.refl _, PairsAt.nil _⟩ ?_ ?_ ?_
    · rintro i ys H' hi' ⟨S4, pr⟩
      exact ⟨SqL.of (S4 _ _ (S _ _ o1)), by have := pr.len; rw [List.length_take] at this; omega⟩
    · rintro i x ys H' K1 K2 hx' ⟨S4, pr⟩ k1 k2
      have hil : i < us.length := (List.getElem?_eq_some_iff.mp hx').1
      obtain ⟨d, ed⟩ : ∃ d, fs[i]? = some d := ⟨_, List.getElem?_eq_getElem (by omega)⟩
      obtain ⟨v, ev, iv⟩ := i1.get ed
      rw [hx'] at ev
      cases ev
      obtain ⟨z, g, e, rfl, _⟩ := field_shape (gf.all d (List.mem_of_getElem? ed))
      obtain ⟨t, rfl, o⟩ := field_row iv
      have ot := S4 _ _ (S _ _ o)
      refine ⟨_, rfl, t, _, 0, .str z, rfl, rfl, SqT.of ot, atI_nat (j := 0) rfl, _, rfl, small_le rfl, fun pt hpt => k1 _ _ ⟨S4.trans (Same.upd hpt), ?_⟩⟩
      rw [List.take_add_one, pairs_at ed hx']
      exact pr.snoc (k := Sum.inr z) hpt
    · rintro ys H4 ⟨S4, pr⟩
      rw [List.take_of_length_le (by rw [pairs_len l1]; omega)] at pr
      intro p4 hp4
      have S5 := Same.upd (o := .lst ys) hp4
      refine ⟨p4, ys, pairsOf fs us, rfl, SqL.of upd_same, pr.same S5, by rw [pairs_len l1]; omega, by rw [pairs_keys l1]; exact key_nodup gf.nd, fun d1 hd1 => ?_⟩
      have S6 := Same.upd (o := .dK (pairsOf fs us)) hd1
      have SA := S.trans (S4.trans (S5.trans S6))
      have hd1' : upd (upd H4 p4 (.lst ys)) d1 (.dK (pairsOf fs us)) d1 = some (.dK (pairsOf fs us)) := upd_same
      generalize upd (upd H4 p4 (.lst ys)) d1 (.dK (pairsOf fs us)) = H6 at SA hd1'
      refine ⟨_, rfl, p, C, dx, [], rfl, SA _ _ hx, T.cl_Land, T.a_field_rows, (by show 0 < 1000; decide), ?_⟩
      have SB : ∀ b o, H b = some o → b ≠ p → upd H6 p (.ins C dx (putF "field_rows" (.ref d1) [])) b = some o := fun b o e hb => by rw [upd_ne hb]; exact SA _ _ e
      have nd1 : d1 ≠ p := ne_of hd1' (SA _ _ hx) (by intro z; cases z)
      have SD : SameD H (upd H6 p (.ins C dx (putF "field_rows" (.ref d1) []))) := fun b o e dt => SB b o e (fun z => by subst z; rw [hx] at e; cases e; cases dt)
      have hp7 : upd H6 p (.ins C dx (putF "field_rows" (.ref d1) [])) p = some (.ins C dx (putF "field_rows" (.ref d1) [])) := upd_same
      have hd7 : upd H6 p (.ins C dx (putF "field_rows" (.ref d1) [])) d1 = some (.dK (pairsOf fs us)) := by rw [upd_ne nd1]; exact hd1'
      generalize upd H6 p (.ins C dx (putF "field_rows" (.ref d1) [])) = H7 at SB SD hp7 hd7
      refine ⟨_, rfl, a2, rfl, ⟨_, SqL.of (SD _ _ o2 rfl)⟩, ?_⟩
      refine comp_list (F := K) (xs := ws) (by omega) (fun i ys H' => Same H7 H' ∧ PairsAt H' ys ((pairsOf ds ws).take i)) ⟨Same.refl _, PairsAt.nil _⟩ ?_ ?_ ?_
      · rintro i ys H' hi' ⟨S8, pr⟩
        exact ⟨SqL.of (S8 _ _ (SD _ _ o2 rfl)), by have := pr.len; rw [List.length_take] at this; omega⟩
      · rintro i x ys H' K1 K2 hx' ⟨S8, pr⟩ k1 k2
        have hil : i < ws.length := (List.getElem?_eq_some_iff.mp hx').1
        obtain ⟨d, ed⟩ : ∃ d, ds[i]? = some d := ⟨_, List.getElem?_eq_getElem (by omega)⟩
        obtain ⟨v, ev, iv⟩ := i2.get ed
        rw [hx'] at ev
        cases ev
        obtain ⟨n, a, b, c, r, sl, rfl, _⟩ := dyke_shape (gd.all d (List.mem_of_getElem? ed))
        obtain ⟨t, vs, rfl, o, _⟩ := dyke_row iv
        have ot := S8 _ _ (SD _ _ o rfl)
        refine ⟨_, rfl, t, _, 0, .str n, rfl, rfl, SqT.of ot, atI_nat (j := 0) rfl, _, rfl, small_le rfl, fun pt hpt => k1 _ _ ⟨S8.trans (Same.upd hpt), ?_⟩⟩
        rw [List.take_add_one, pairs_at ed hx']
        exact pr.snoc (k := Sum.inr n) hpt
      · rintro ys H8 ⟨S8, pr⟩
        rw [List.take_of_length_le (by rw [pairs_len l2]; omega)] at pr
        intro p9 hp9
        have S9 := Same.upd (o := .lst ys) hp9
        refine ⟨p9, ys, pairsOf ds ws, rfl, SqL.of upd_same, pr.same S9, by rw [pairs_len l2]; omega, by rw [pairs_keys l2]; exact key_nodup gd.nd, fun d2 hd2 => ?_⟩
        have S10 := Same.upd (o := .dK (pairsOf ds ws)) hd2
        have SC := S8.trans (S9.trans S10)
        have hd2' : upd (upd H8 p9 (.lst ys)) d2 (.dK (pairsOf ds ws)) d2 = some (.dK (pairsOf ds ws)) := upd_same
        generalize upd (upd H8 p9 (.lst ys)) d2 (.dK (pairsOf ds ws)) = H10 at SC hd2'
        refine ⟨_, rfl, p, C, dx, _, rfl, SC _ _ hp7, T.cl_Land, T.a_dyke_rows, (by show 1 < 1000; decide), ?_⟩
        have nd2 : d2 ≠ p := ne_of hd2' (SC _ _ hp7) (by intro z; cases z)
        have SE : SameD H (upd H10 p (.ins C dx (landF d1 d2))) := fun b o e dt => by
          have hb : b ≠ p := fun z => by subst z; rw [hx] at e; cases e; cases dt
          rw [upd_ne hb]
          exact SC _ _ (SB _ _ e hb)
        refine q _ ⟨⟨dx, d1, d2, upd_same, ⟨_, (upd_ne nd1).trans (SC _ _ hd7), pairs_keys l1, ?_⟩, ⟨_, (upd_ne nd2).trans hd2', pairs_keys l2, ?_⟩⟩, okf, okd⟩ fun b o e hb => ?_
        · rw [pairs_vals l1]
          exact IsL.sameD SE _ _ i1
        · rw [pairs_vals l2]
          exact IsL.sameD SE _ _ i2
        · show upd H10 p (.ins C dx (landF d1 d2)) b = some o
          rw [upd_ne hb]
          exact SC _ _ (SB _ _ e hb)

open Ld
def isDay : Dv → Dv → Bool
  | .int n, .int m => (decide (1 ≤ m) && decide (m ≤ 100)) && (decide (0 ≤ n) && decide (n < m))
  | _, _ => false
def isCond (zs : List Str) : Dv → Bool
  | .tup [a] => oneOf ["always"] a
  | .tup [a, b, c] => oneOf ["day"] a && isDay b c
  | .tup [a, b] => if oneOf ["above", "below"] a then isHeight b else oneOf ["wet", "dry"] a && oneOf zs b
  | _ => false
def areConds (zs : List Str) : Dv → Bool
  | .lst cs => (decide (1 ≤ cs.length) && decide ((cs.length : Int) ≤ 6)) && cs.all (isCond zs)
  | _ => false
def isDec (gs zs : List Str) : Dv → Bool
  | .tup [a, b, c] => (oneOf ["open", "shut"] a && oneOf gs b) && areConds zs c
  | _ => false
def areDecs (gs zs : List Str) : Dv → Bool
  | .lst ds => decide (ds.length ≤ 60) && ds.all (isDec gs zs)
  | _ => false
def spOneOf2 (K : PySem.W.Frag) : Sp := sp2 fun x y H Q => ∃ (d : Dv) (p : Addr) (zs : List Str), Is H d x ∧ y = .ref p ∧ (SqL K H p (zs.map V.str) ∨ SqT K H p (zs.map V.str)) ∧ Q (.bl (oneOf zs d)) H
theorem ok_p_is_one_of2 (T : Txt w K mg C) : Fc P w K mg base 1 "is_one_of" ["thing", "names"] (spOneOf2 K) := by
  refine T.d_p_is_one_of.fc sc_p_is_one_of len2 (fun f cdv A outer s H vs Q E hr h => ?_)
  obtain ⟨x, y, rfl, d, p, zs, hd, rfl, hp, q⟩ := h
  obtain ⟨t, ty, e1, e2, e3, _⟩ := Is_kit K hd
  refine ⟨_, (@pss_one _ _ _ (@ps_ret _ _ _ _ (@pe_and _ _ _ _ _ _ _ (@pe_callB _ _ _ _ _ _ _ _ _ (@call_isinstB _ (K) rfl) rfl T.n_isinstance boot_isinstance (@pa_cons _ _ _ _ _ (pv 0) (@pa_cons _ _ _ _ _ (@pe_ty _ _ _ _ T.n_str boot_str' (by rfl) (by decide) (by decide)) pa_nil (by rfl)) (by rfl)) (by decide) (by decide) (by rfl) (by rfl)) (@pe_one _ _ _ _ _ (@pe_cmpR _ _ _ _ _ _ _ _ (@op_in_seqB _ (K) rfl) (pv 0) (pv 1) (by with_unfolding_all rfl)))))), ?_⟩
  refine ⟨_, rfl, _, _, _, t, _, rfl, rfl, ty, e3, _, rfl, ?_⟩
  cases d with
  | str z =>
    cases (show x = .str z from hd)
    refine iteT ⟨_, rfl, _, rfl, p, _, rfl, hp, rfl, flat_strs zs, ?_⟩
    show Q (.bl (inV (.str z) (zs.map V.str))) H
    rw [inV_str]
    exact q
  | _ => exact iteF q
def spDayOf : Sp := sp2 fun x y H Q => ∃ a b : Dv, Is H a x ∧ Is H b y ∧ Q (.bl (isDay a b)) H
theorem ok_p_is_day_of (T : Txt w K mg C) : Fc P w K mg base 2 "is_day_of" ["number", "turn"] spDayOf := by
  have G_p_is_whole : Fc P w K mg base 1 "is_whole" ["thing"] spWhole := ok_p_is_whole T
  refine T.d_p_is_day_of.fc sc_p_is_day_of len2 (fun f cdv A outer s H vs Q E hr h => ?_)
  obtain ⟨x, y, rfl, a, b, ha, hb, q⟩ := h
  refine ⟨_, (@pss_one _ _ _ (@ps_ret _ _ _ _ (@pe_and _ _ _ _ _ _ _ (@pe_c _ _ _ _ _ _ _ _ _ _ G_p_is_whole (hr.mono (by decide)) (@pa_cons _ _ _ _ _ (pv 0) pa_nil (by rfl)) (by rfl) (by decide) (by rfl) (by rfl)) (@pe_and _ _ _ _ _ _ _ (@pe_c _ _ _ _ _ _ _ _ _ _ G_p_is_whole (hr.mono (by decide)) (@pa_cons _ _ _ _ _ (pv 1) pa_nil (by rfl)) (by rfl) (by decide) (by rfl) (by rfl)) (@pe_and _ _ _ _ _ _ _ (@pe_chain _ _ _ _ _ _ _ _ _ _ _ _ op_le op_le pe_int (pv 1) (@pe_g _ _ _ _ T.g_MOST_ROUND (by rfl) (by decide)) (by with_unfolding_all rfl)) (@pe_one _ _ _ _ _ (@pe_chain _ _ _ _ _ _ _ _ _ _ _ _ op_le op_lt pe_int (pv 0) (pv 1) (by with_unfolding_all rfl)))))))), ?_⟩
  refine ⟨_, rfl, _, rfl, a, ha, _, rfl, ?_⟩
  by_cases e : ∃ n m : Int, a = .int n ∧ b = .int m
  · obtain ⟨n, m, rfl, rfl⟩ := e
    cases (show x = .int n from ha)
    cases (show y = .int m from hb)
    refine iteT ⟨_, rfl, _, rfl, .int m, rfl, _, rfl, iteT ?_⟩
    have q : Q (.bl ((decide (1 ≤ m) && decide (m ≤ 100)) && (decide (0 ≤ n) && decide (n < m)))) H := q
    refine ⟨_, rfl, _, _, rfl, rfl, _, rfl, ?_⟩
    cases e1 : decide (1 ≤ m) with
    | false =>
      rw [e1] at q
      exact iteF ⟨_, rfl, iteF q⟩
    | true =>
      rw [e1] at q
      refine iteT ⟨_, _, rfl, rfl, _, rfl, ?_⟩
      cases e2 : decide (m ≤ 100) with
      | false =>
        rw [e2] at q
        exact iteF q
      | true =>
        rw [e2] at q
        refine iteT ⟨_, rfl, _, _, rfl, rfl, _, rfl, ?_⟩
        cases e3 : decide (0 ≤ n) with
        | false =>
          rw [e3] at q
          exact iteF q
        | true =>
          rw [e3] at q
          exact iteT ⟨_, rfl, _, _, rfl, rfl, q⟩
  · have e0 : isDay a b = false := by
      unfold isDay
      split
      · rename_i n m
        exact absurd ⟨n, m, rfl, rfl⟩ e
      · rfl
    rw [e0] at q
    cases ia : isInt a with
    | false => exact iteF q
    | true =>
      refine iteT ⟨_, rfl, _, rfl, b, hb, _, rfl, ?_⟩
      cases ib : isInt b with
      | false => exact iteF q
      | true =>
        cases a with
        | int n => cases b with
          | int m => exact absurd ⟨n, m, rfl, rfl⟩ e
          | _ => cases ib
        | _ => cases ia
def spCond (K : PySem.W.Frag) : Sp := sp2 fun x y H Q => ∃ (d : Dv) (p : Addr) (zs : List Str), Is H d x ∧ y = .ref p ∧ SqL K H p (zs.map V.str) ∧ ∀ H', Same H H' → Q (.bl (isCond zs d)) H'
theorem ok_p_is_condition (T : Txt w K mg C) : Fc P w K mg base 3 "is_condition" ["thing", "fields"] (spCond K) := by
  have G_p_is_tuple_of : Fc P w K mg base 1 "is_tuple_of" ["thing", "length"] spTupOf := ok_p_is_tuple_of T
  have G_p_is_one_of : Fc P w K mg base 1 "is_one_of" ["thing", "names"] (spOneOf2 K) := ok_p_is_one_of2 T
  have G_p_is_day_of : Fc P w K mg base 2 "is_day_of" ["number", "turn"] spDayOf := ok_p_is_day_of T
  have G_p_is_height : Fc P w K mg base 2 "is_height" ["thing"] spHeight := ok_p_is_height T
  obtain ⟨a_TIDES, m_TIDES, s_TIDES⟩ := T.g_TIDES
  obtain ⟨a_WATERS, m_WATERS, s_WATERS⟩ := T.g_WATERS
  refine T.d_p_is_condition.fc sc_p_is_condition len2 (fun f cdv A outer s H vs Q E hr h => ?_)
  obtain ⟨x, y, rfl, d, p, zs, hd, rfl, hp, q⟩ := h
  refine ⟨_, (@pss_cons _ _ _ _ _ (@ps_if _ _ _ _ _ _ _ _ (@pt_val _ _ _ (@pe_c _ _ _ _ _ _ _ _ _ _ G_p_is_tuple_of (hr.mono (by decide)) (@pa_cons _ _ _ _ _ (pv 0) (@pa_cons _ _ _ _ _ pe_int pa_nil (by rfl)) (by rfl)) (by rfl) (by decide) (by rfl) (by rfl)) (by intro _; rfl)) (@pss_one _ _ _ (@ps_ret _ _ _ _ (@pe_c _ _ _ _ _ _ _ _ _ _ G_p_is_one_of (hr.mono (by decide)) (@pa_cons _ _ _ _ _ (@pe_ix _ _ _ _ _ _ _ (@ix_tupB _ (K) rfl) (pv 0) pe_int (fun _ _ => rfl)) (@pa_cons _ _ _ _ _ (@pe_tup _ _ _ _ _ (@pa_cons _ _ _ _ _ pe_str pa_nil (by rfl))) pa_nil (by rfl)) (by rfl)) (by rfl) (by decide) (by rfl) (by rfl)))) pss_nil) (@pss_cons _ _ _ _ _ (@ps_if _ _ _ _ _ _ _ _ (@pt_val _ _ _ (@pe_c _ _ _ _ _ _ _ _ _ _ G_p_is_tuple_of (hr.mono (by decide)) (@pa_cons _ _ _ _ _ (pv 0) (@pa_cons _ _ _ _ _ pe_int pa_nil (by rfl)) (by rfl)) (by rfl) (by decide) (by rfl) (by rfl)) (by intro _; rfl)) (@pss_one _ _ _ (@ps_ret _ _ _ _ (@pe_and _ _ _ _ _ _ _ (@pe_c _ _ _ _ _ _ _ _ _ _ G_p_is_one_of (hr.mono (by decide)) (@pa_cons _ _ _ _ _ (@pe_ix _ _ _ _ _ _ _ (@ix_tupB _ (K) rfl) (pv 0) pe_int (fun _ _ => rfl)) (@pa_cons _ _ _ _ _ (@pe_tup _ _ _ _ _ (@pa_cons _ _ _ _ _ pe_str pa_nil (by rfl))) pa_nil (by rfl)) (by rfl)) (by rfl) (by decide) (by rfl) (by rfl)) (@pe_one _ _ _ _ _ (@pe_c _ _ _ _ _ _ _ _ _ _ G_p_is_day_of (hr.mono (by decide)) (@pa_cons _ _ _ _ _ (@pe_ix _ _ _ _ _ _ _ (@ix_tupB _ (K) rfl) (pv 0) pe_int (fun _ _ => rfl)) (@pa_cons _ _ _ _ _ (@pe_ix _ _ _ _ _ _ _ (@ix_tupB _ (K) rfl) (pv 0) pe_int (fun _ _ => rfl)) pa_nil (by rfl)) (by rfl)) (by rfl) (by decide) (by rfl) (by rfl)))))) pss_nil) (@pss_cons _ _ _ _ _ (@ps_if _ _ _ _ _ _ _ _ (@pt_not _ _ _ _ (@pt_val _ _ _ (@pe_c _ _ _ _ _ _ _ _ _ _ G_p_is_tuple_of (hr.mono (by decide)) (@pa_cons _ _ _ _ _ (pv 0) (@pa_cons _ _ _ _ _ pe_int pa_nil (by rfl)) (by rfl)) (by rfl) (by decide) (by rfl) (by rfl)) (by intro _; rfl))) (@pss_one _ _ _ (@ps_ret _ _ _ _ pe_bl)) pss_nil) (@pss_cons _ _ _ _ _ (@ps_if _ _ _ _ _ _ _ _ (@pt_val _ _ _ (@pe_c _ _ _ _ _ _ _ _ _ _ G_p_is_one_of (hr.mono (by decide)) (@pa_cons _ _ _ _ _ (@pe_ix _ _ _ _ _ _ _ (@ix_tupB _ (K) rfl) (pv 0) pe_int (fun _ _ => rfl)) (@pa_cons _ _ _ _ _ (@pe_glob _ _ (.ref a_TIDES) _ _ rfl m_TIDES rfl (by decide)) pa_nil (by rfl)) (by rfl)) (by rfl) (by decide) (by rfl) (by rfl)) (by intro _; rfl)) (@pss_one _ _ _ (@ps_ret _ _ _ _ (@pe_c _ _ _ _ _ _ _ _ _ _ G_p_is_height (hr.mono (by decide)) (@pa_cons _ _ _ _ _ (@pe_ix _ _ _ _ _ _ _ (@ix_tupB _ (K) rfl) (pv 0) pe_int (fun _ _ => rfl)) pa_nil (by rfl)) (by rfl) (by decide) (by rfl) (by rfl)))) pss_nil) (@pss_one _ _ _ (@ps_ret _ _ _ _ (@pe_and _ _ _ _ _ _ _ (@pe_c _ _ _ _ _ _ _ _ _ _ G_p_is_one_of (hr.mono (by decide)) (@pa_cons _ _ _ _ _ (@pe_ix _ _ _ _ _ _ _ (@ix_tupB _ (K) rfl) (pv 0) pe_int (fun _ _ => rfl)) (@pa_cons _ _ _ _ _ (@pe_glob _ _ (.ref a_WATERS) _ _ rfl m_WATERS rfl (by decide)) pa_nil (by rfl)) (by rfl)) (by rfl) (by decide) (by rfl) (by rfl)) (@pe_one _ _ _ _ _ (@pe_c _ _ _ _ _ _ _ _ _ _ G_p_is_one_of (hr.mono (by decide)) (@pa_cons _ _ _ _ _ (@pe_ix _ _ _ _ _ _ _ (@ix_tupB _ (K) rfl) (pv 0) pe_int (fun _ _ => rfl)) (@pa_cons _ _ _ _ _ (pv 1) pa_nil (by rfl)) (by rfl)) (by rfl) (by decide) (by rfl) (by rfl)))))))))), ?_⟩
  refine ⟨_, rfl, _, _, rfl, d, 1, hd, rfl, _, rfl, ?_⟩
  by_cases h1 : ∃ a, d = .tup [a]
  · obtain ⟨a, rfl⟩ := h1
    obtain ⟨t, us, rfl, o, va, r1, rfl, ha, h0⟩ := hd
    cases (show r1 = [] from h0)
    refine iteT ⟨_, rfl, t, _, 0, va, rfl, rfl, SqT.of o, atI_nat (j := 0) rfl, small_le rfl, fun p1 hp1 => ?_⟩
    exact ⟨_, _, rfl, a, p1, ["always"], Is.same (Same.upd hp1) _ _ ha, rfl, .inr (SqT.of upd_same), q _ (Same.upd hp1)⟩
  have e1 : tupIs 1 d = false := by
    cases d with
    | tup ds =>
      refine decide_eq_false (fun e => ?_)
      have e' : ds.length = 1 := by omega
      match ds, e', h1 with
      | [a], _, h1 => exact h1 ⟨a, rfl⟩
    | _ => rfl
  rw [e1]
  refine iteF ⟨_, rfl, _, _, rfl, d, 3, hd, rfl, _, rfl, ?_⟩
  by_cases h3 : ∃ a b c, d = .tup [a, b, c]
  · obtain ⟨a, b, c, rfl⟩ := h3
    obtain ⟨t, us, rfl, o, va, r1, rfl, ha, vb, r2, rfl, hb, vc, r3, rfl, hc, h0⟩ := hd
    cases (show r3 = [] from h0)
    have q : ∀ H', Same H H' → Q (.bl (oneOf ["day"] a && isDay b c)) H' := q
    refine iteT ⟨_, rfl, t, _, 0, va, rfl, rfl, SqT.of o, atI_nat (j := 0) rfl, small_le rfl, fun p1 hp1 => ?_⟩
    have S := Same.upd (o := .tup [.str "day"]) hp1
    refine ⟨_, _, rfl, a, p1, ["day"], Is.same S _ _ ha, rfl, .inr (SqT.of upd_same), _, rfl, ?_⟩
    cases ea : oneOf ["day"] a with
    | false =>
      rw [ea] at q
      exact iteF (q _ S)
    | true =>
      rw [ea] at q
      exact iteT ⟨_, rfl, t, _, 1, vb, rfl, rfl, SqT.of (S _ _ o), atI_nat (j := 1) rfl, _, rfl, t, _, 2, vc, rfl, rfl, SqT.of (S _ _ o), atI_nat (j := 2) rfl, _, _, rfl, b, c, Is.same S _ _ hb, Is.same S _ _ hc, q _ S⟩
  have e3 : tupIs 3 d = false := by
    cases d with
    | tup ds =>
      refine decide_eq_false (fun e => ?_)
      have e' : ds.length = 3 := by omega
      match ds, e', h3 with
      | [a, b, c], _, h3 => exact h3 ⟨a, b, c, rfl⟩
    | _ => rfl
  rw [e3]
  refine iteF ⟨_, rfl, _, _, rfl, d, 2, hd, rfl, _, rfl, ?_⟩
  by_cases h2 : ∃ a b, d = .tup [a, b]
  · obtain ⟨a, b, rfl⟩ := h2
    obtain ⟨t, us, rfl, o, va, r1, rfl, ha, vb, r2, rfl, hb, h0⟩ := hd
    cases (show r2 = [] from h0)
    have q : Q (.bl (if oneOf ["above", "below"] a then isHeight b else oneOf ["wet", "dry"] a && oneOf zs b)) H := q H (Same.refl _)
    refine iteF ⟨_, rfl, t, _, 0, va, rfl, rfl, SqT.of o, atI_nat (j := 0) rfl, _, _, rfl, a, a_TIDES, ["above", "below"], ha, rfl, .inr (s_TIDES H), _, rfl, ?_⟩
    cases ea : oneOf ["above", "below"] a with
    | true =>
      rw [ea] at q
      exact iteT ⟨_, rfl, t, _, 1, vb, rfl, rfl, SqT.of o, atI_nat (j := 1) rfl, _, rfl, b, hb, q⟩
    | false =>
      rw [ea] at q
      refine iteF ⟨_, rfl, t, _, 0, va, rfl, rfl, SqT.of o, atI_nat (j := 0) rfl, _, _, rfl, a, a_WATERS, ["wet", "dry"], ha, rfl, .inr (s_WATERS H), _, rfl, ?_⟩
      have q : Q (.bl (oneOf ["wet", "dry"] a && oneOf zs b)) H := q
      cases eb : oneOf ["wet", "dry"] a with
      | false =>
        rw [eb] at q
        exact iteF (q)
      | true =>
        rw [eb] at q
        exact iteT ⟨_, rfl, t, _, 1, vb, rfl, rfl, SqT.of o, atI_nat (j := 1) rfl, _, rfl, _, _, rfl, b, p, zs, hb, rfl, .inl hp, q⟩
  · have e2 : tupIs 2 d = false := by
      cases d with
      | tup ds =>
        refine decide_eq_false (fun e => ?_)
        have e' : ds.length = 2 := by omega
        match ds, e', h2 with
        | [a, b], _, h2 => exact h2 ⟨a, b, rfl⟩
      | _ => rfl
    have e0 : isCond zs d = false := by
      unfold isCond
      split
      · exact absurd ⟨_, rfl⟩ h1
      · exact absurd ⟨_, _, _, rfl⟩ h3
      · exact absurd ⟨_, _, rfl⟩ h2
      · rfl
    rw [e2]
    have q := q H (Same.refl _)
    rw [e0] at q
    exact iteT q
def spDec (K : PySem.W.Frag) : Sp := sp3 fun x y u H Q => ∃ (d : Dv) (p1 p2 : Addr) (gs zs : List Str), Is H d x ∧ small d = true ∧ y = .ref p1 ∧ SqL K H p1 (gs.map V.str) ∧ u = .ref p2 ∧ SqL K H p2 (zs.map V.str) ∧ ∀ H', Same H H' → Q (.bl (isDec gs zs d)) H'
theorem ok_p_is_decree (T : Txt w K mg C) : Fc P w K mg base 4 "is_decree" ["thing", "sluices", "fields"] (spDec K) := by
  have G_p_is_tuple_of : Fc P w K mg base 1 "is_tuple_of" ["thing", "length"] spTupOf := ok_p_is_tuple_of T
  have G_p_is_one_of : Fc P w K mg base 1 "is_one_of" ["thing", "names"] (spOneOf2 K) := ok_p_is_one_of2 T
  have G_p_is_list_of : Fc P w K mg base 1 "is_list_of" ["thing", "most"] spListOf := ok_p_is_list_of T
  have G_p_is_condition : Fc P w K mg base 3 "is_condition" ["thing", "fields"] (spCond K) := ok_p_is_condition T
  obtain ⟨a_DEEDS, m_DEEDS, s_DEEDS⟩ := T.g_DEEDS
  refine T.d_p_is_decree.fc sc_p_is_decree len3 (fun f cdv A outer s H vs Q E hr h => ?_)
  obtain ⟨x, y, u, rfl, d, p1, p2, gs, zs, hd, sd, rfl, hp1, rfl, hp2, q⟩ := h
  have big := big1000
  refine ⟨_, (@pss_cons _ _ _ _ _ (@ps_if _ _ _ _ _ _ _ _ (@PW.pt _ _ _ (@pw_or _ _ _ _ _ _ _ (@pt_not _ _ _ _ (@pt_val _ _ _ (@pe_c _ _ _ _ _ _ _ _ _ _ G_p_is_tuple_of (hr.mono (by decide)) (@pa_cons _ _ _ _ _ (pv 0) (@pa_cons _ _ _ _ _ pe_int pa_nil (by rfl)) (by rfl)) (by rfl) (by decide) (by rfl) (by rfl)) (by intro _; rfl))) (@pw_or _ _ _ _ _ _ _ (@pt_not _ _ _ _ (@pt_val _ _ _ (@pe_c _ _ _ _ _ _ _ _ _ _ G_p_is_one_of (hr.mono (by decide)) (@pa_cons _ _ _ _ _ (@pe_ix _ _ _ _ _ _ _ (@ix_tupB _ (K) rfl) (pv 0) pe_int (fun _ _ => rfl)) (@pa_cons _ _ _ _ _ (@pe_glob _ _ (.ref a_DEEDS) _ _ rfl m_DEEDS rfl (by decide)) pa_nil (by rfl)) (by rfl)) (by rfl) (by decide) (by rfl) (by rfl)) (by intro _; rfl))) (@pw_or1 _ _ _ _ (@pt_not _ _ _ _ (@pt_val _ _ _ (@pe_c _ _ _ _ _ _ _ _ _ _ G_p_is_one_of (hr.mono (by decide)) (@pa_cons _ _ _ _ _ (@pe_ix _ _ _ _ _ _ _ (@ix_tupB _ (K) rfl) (pv 0) pe_int (fun _ _ => rfl)) (@pa_cons _ _ _ _ _ (pv 1) pa_nil (by rfl)) (by rfl)) (by rfl) (by decide) (by rfl) (by rfl)) (by intro _; rfl))))))) (@pss_one _ _ _ (@ps_ret _ _ _ _ pe_bl)) pss_nil) (@pss_one _ _ _ (@ps_ret _ _ _ _ (@pe_and _ _ _ _ _ _ _ (@pe_c _ _ _ _ _ _ _ _ _ _ G_p_is_list_of (hr.mono (by decide)) (@pa_cons _ _ _ _ _ (@pe_ix _ _ _ _ _ _ _ (@ix_tupB _ (K) rfl) (pv 0) pe_int (fun _ _ => rfl)) (@pa_cons _ _ _ _ _ (@pe_g _ _ _ _ T.g_MOST_CONDITIONS (by rfl) (by decide)) pa_nil (by rfl)) (by rfl)) (by rfl) (by decide) (by rfl) (by rfl)) (@pe_one _ _ _ _ _ (@pe_callB _ _ _ _ _ _ _ _ _ (@call_all _ rfl) rfl T.n_all boot_all' (@pa_cons _ _ _ _ _ (@pe_comp _ _ _ _ _ _ _ _ _ _ _ ["part", "fields"] 1 [2] rfl (@pi_list _ _ _ _ (@pe_ix _ _ _ _ _ _ _ (@ix_tupB _ (K) rfl) (pv 0) pe_int (fun _ _ => rfl))) (fun R => @pg_name _ _ (0) _ (show List.Nodup (["part", "fields"] : List Str) by decide +kernel) rfl (Or.inl rfl) (by first | exact .inl rfl | exact .inr rfl | assumption)) (@gkeep_name _ _ (by decide)) (fun R => pifs_nil) (fun R => (@pe_c _ _ _ _ _ _ _ _ _ _ G_p_is_condition (hr.mono (by decide)) (@pa_cons _ _ _ _ _ (pv 0) (@pa_cons _ _ _ _ _ (pv 1) pa_nil (by rfl)) (by rfl)) (by rfl) (by decide) (by rfl) (by rfl))) (by rfl) (by rfl) (by rfl) (by rfl) (by rfl) (by rfl) (by rfl) (by intro _; rfl)) pa_nil (by rfl)) (by decide) (by decide) (by rfl) (by rfl))))))), ?_⟩
  refine ⟨_, rfl, _, _, rfl, d, 3, hd, rfl, _, rfl, ?_⟩
  by_cases h3 : ∃ a b c, d = .tup [a, b, c]
  · obtain ⟨a, b, c, rfl⟩ := h3
    obtain ⟨t, us, rfl, o, va, r1, rfl, ha, vb, r2, rfl, hb, vc, r3, rfl, hc, h0⟩ := hd
    cases (show r3 = [] from h0)
    have sc : small c = true := smallL_mem (small_tup sd) (List.mem_cons_of_mem _ (List.mem_cons_of_mem _ List.mem_cons_self))
    have q : ∀ H', Same H H' → Q (.bl ((oneOf ["open", "shut"] a && oneOf gs b) && areConds zs c)) H' := q
    refine iteF ⟨_, rfl, t, _, 0, va, rfl, rfl, SqT.of o, atI_nat (j := 0) rfl, _, _, rfl, a, a_DEEDS, ["open", "shut"], ha, rfl, .inr (s_DEEDS H), _, rfl, ?_⟩
    cases ea : oneOf ["open", "shut"] a with
    | false =>
      simp only [ea] at q
      exact iteT (q _ (Same.refl _))
    | true =>
      simp only [ea] at q
      refine iteF ⟨_, rfl, t, _, 1, vb, rfl, rfl, SqT.of o, atI_nat (j := 1) rfl, _, rfl, _, _, rfl, b, p1, gs, hb, rfl, .inl hp1, _, rfl, ?_⟩
      cases eb : oneOf gs b with
      | false =>
        simp only [eb] at q
        exact iteT (q _ (Same.refl _))
      | true =>
        simp only [eb] at q
        have q : ∀ H', Same H H' → Q (.bl (areConds zs c)) H' := q
        refine iteF ⟨_, rfl, t, _, 2, vc, rfl, rfl, SqT.of o, atI_nat (j := 2) rfl, _, _, rfl, c, 6, hc, rfl, _, rfl, ?_⟩
        cases c with
        | lst cs =>
          obtain ⟨l, vs, rfl, ol, hi⟩ := hc
          have lv := hi.length
          have l2 : cs.length ≤ 1000 := of_decide_eq_true (Bool.and_eq_true_iff.mp (show (decide (cs.length ≤ 1000) && smallL cs) = true from sc)).1
          have q : ∀ H', Same H H' → Q (.bl ((decide (1 ≤ cs.length) && decide ((cs.length : Int) ≤ 6)) && cs.all (isCond zs))) H' := q
          show if (decide (1 ≤ cs.length) && decide ((cs.length : Int) ≤ 6)) = true then _ else _
          cases el : (decide (1 ≤ cs.length) && decide ((cs.length : Int) ≤ 6)) with
          | false =>
            simp only [el] at q
            exact iteF (q _ (Same.refl _))
          | true =>
            simp only [el, Bool.true_and] at q
            refine iteT ⟨_, rfl, t, _, 2, .ref l, rfl, rfl, SqT.of o, atI_nat (j := 2) rfl, l, rfl, ⟨_, SqL.of ol⟩, ?_⟩
            refine comp_list (F := K) (xs := vs) (by omega) (fun i ys H' => Same H H' ∧ ys = (cs.take i).map fun d => V.bl (isCond zs d)) ⟨Same.refl _, rfl⟩ ?_ ?_ ?_
            · rintro i ys H' hi' ⟨S, rfl⟩
              exact ⟨SqL.of (S _ _ ol), by rw [List.length_map, List.length_take]; omega⟩
            · rintro i xv ys H' K1 K2 hx ⟨S, rfl⟩ k1 k2
              have hil : i < vs.length := (List.getElem?_eq_some_iff.mp hx).1
              obtain ⟨d, ed⟩ : ∃ d, cs[i]? = some d := ⟨_, List.getElem?_eq_getElem (by omega)⟩
              obtain ⟨v, ev, iv⟩ := hi.get ed
              rw [hx] at ev
              cases ev
              refine ⟨_, rfl, _, rfl, _, _, rfl, d, p2, zs, Is.same S _ _ iv, rfl, S.seq hp2, fun H5 S5 => k1 _ _ ⟨S.trans S5, ?_⟩⟩
              rw [List.take_add_one, ed]
              simp
            · rintro ys H' ⟨S, rfl⟩
              intro p4 hp4
              have q := q _ (S.trans (Same.upd (o := .lst ((cs.take vs.length).map fun d => V.bl (isCond zs d))) hp4))
              refine ⟨p4, cs.map (isCond zs), rfl, SqL.of ?_, ?_⟩
              · rw [upd_same, List.take_of_length_le (by omega), List.map_map]
                rfl
              · rw [List.all_map]
                exact q
        | _ => exact iteF (q _ (Same.refl _))
  · have e1 : isDec gs zs d = false := by
      unfold isDec
      split
      · exact absurd ⟨_, _, _, rfl⟩ h3
      · rfl
    have e2 : tupIs 3 d = false := by
      cases d with
      | tup ds =>
        refine decide_eq_false (fun e => ?_)
        have e' : ds.length = 3 := by omega
        match ds, e', h3 with
        | [a, b, c], _, h3 => exact h3 ⟨a, b, c, rfl⟩
      | _ => rfl
    rw [e2]
    have q := q H (Same.refl _)
    rw [e1] at q
    exact iteT q
def spDecs (C : Addr) : Sp := sp2 fun x y H Q => ∃ (p : Addr) (fs ds : List Dv) (d : Dv), x = .ref p ∧ LandAt C H p fs ds ∧ Is H d y ∧ small d = true ∧ ∀ H', Same H H' → Q (.bl (areDecs ((ds.filter hasSill).map nmOf) (fs.map nmOf) d)) H'
theorem ok_p_are_decrees (T : Txt w K mg C) : Fc P w K mg base 5 "are_decrees" ["land", "thing"] (spDecs C) := by
  have G_land_p_sluices : Mc P w K mg base 2 C "sluices" ["self"] (spStrs C fun _ ds => (ds.filter hasSill).map nmOf) := ok_land_p_sluices T
  have G_land_p_field_names : Mc P w K mg base 1 C "field_names" ["self"] (spStrs C fun fs _ => fs.map nmOf) := ok_land_p_field_names T
  have G_p_is_decree : Fc P w K mg base 4 "is_decree" ["thing", "sluices", "fields"] (spDec K) := ok_p_is_decree T
  refine T.d_p_are_decrees.fc sc_p_are_decrees len2 (fun f cdv A outer s H vs Q E hr h => ?_)
  obtain ⟨x, y, rfl, p, fs, ds, d, rfl, L, hd, sd, q⟩ := h
  have big := big1000
  obtain ⟨t, ty, e1, e2, e3, e4, _⟩ := Is_kit K hd
  refine ⟨_, (@pss_cons _ _ _ _ _ (@ps_if _ _ _ _ _ _ _ _ (@PW.pt _ _ _ (@pw_or _ _ _ _ _ _ _ (@pt_not _ _ _ _ (@pt_val _ _ _ (@pe_callB _ _ _ _ _ _ _ _ _ (@call_isinstB _ (K) rfl) rfl T.n_isinstance boot_isinstance (@pa_cons _ _ _ _ _ (pv 1) (@pa_cons _ _ _ _ _ (@pe_ty _ _ _ _ T.n_list boot_list' (by rfl) (by decide) (by decide)) pa_nil (by rfl)) (by rfl)) (by decide) (by decide) (by rfl) (by rfl)) (by intro _; rfl))) (@pw_or1 _ _ _ _ (@pt_cmpR _ _ _ _ _ _ _ _ op_gt (@pe_callB _ _ _ _ _ _ _ _ _ (@call_len_seqB _ (K) rfl) rfl T.n_len boot_len' (@pa_cons _ _ _ _ _ (pv 1) pa_nil (by rfl)) (by decide) (by decide) (by rfl) (by rfl)) (@pe_g _ _ _ _ T.g_MOST_DECREES (by rfl) (by decide)) (@nomark _ _ (by decide) (by decide)))))) (@pss_one _ _ _ (@ps_ret _ _ _ _ pe_bl)) pss_nil) (@pss_cons _ _ _ _ _ (@ps_set _ _ (2) _ _ _ _ sc_p_are_decrees.nd rfl (Or.inr rfl) (@pe_m0 _ _ _ _ _ _ _ _ _ _ _ T.cl_Land G_land_p_sluices (hr.mono (by decide)) (pv 0) (by rfl)) (by rfl) (by first | exact .inl rfl | exact .inr rfl | assumption)) (@pss_cons _ _ _ _ _ (@ps_set _ _ (3) _ _ _ _ sc_p_are_decrees.nd rfl (Or.inr rfl) (@pe_m0 _ _ _ _ _ _ _ _ _ _ _ T.cl_Land G_land_p_field_names (hr.mono (by decide)) (pv 0) (by rfl)) (by rfl) (by first | exact .inl rfl | exact .inr rfl | assumption)) (@pss_one _ _ _ (@ps_ret _ _ _ _ (@pe_callB _ _ _ _ _ _ _ _ _ (@call_all _ rfl) rfl T.n_all boot_all' (@pa_cons _ _ _ _ _ (@pe_comp _ _ _ _ _ _ _ _ _ _ _ ["row", "sluices", "fields"] 1 [2, 3] rfl (@pi_list _ _ _ _ (pv 1)) (fun R => @pg_name _ _ (0) _ (show List.Nodup (["row", "sluices", "fields"] : List Str) by decide +kernel) rfl (Or.inl rfl) (by first | exact .inl rfl | exact .inr rfl | assumption)) (@gkeep_name _ _ (by decide)) (fun R => pifs_nil) (fun R => (@pe_c _ _ _ _ _ _ _ _ _ _ G_p_is_decree (hr.mono (by decide)) (@pa_cons _ _ _ _ _ (pv 0) (@pa_cons _ _ _ _ _ (pv 1) (@pa_cons _ _ _ _ _ (pv 2) pa_nil (by rfl)) (by rfl)) (by rfl)) (by rfl) (by decide) (by rfl) (by rfl))) (by rfl) (by rfl) (by rfl) (by rfl) (by rfl) (by rfl) (by rfl) (by intro _; rfl)) pa_nil (by rfl)) (by decide) (by decide) (by rfl) (by rfl))))))), ?_⟩
  refine ⟨_, rfl, _, _, _, t, _, rfl, rfl, ty, e4, _, rfl, ?_⟩
  cases d with
  | lst cs =>
    obtain ⟨l, us, rfl, o, hi⟩ := hd
    have l1 := hi.length
    have hs' := Bool.and_eq_true_iff.mp (show (decide (cs.length ≤ 1000) && smallL cs) = true from sd)
    have l2 : cs.length ≤ 1000 := of_decide_eq_true hs'.1
    refine iteF ⟨_, rfl, l, us, rfl, .inl (SqL.of o), _, _, rfl, rfl, _, rfl, ?_⟩
    rw [l1]
    refine ite2 (fun h1 => ?_) (fun h1 => ?_)
    · have e : areDecs ((ds.filter hasSill).map nmOf) (fs.map nmOf) (.lst cs) = false := by
        have h1' : ¬ cs.length ≤ 60 := by
          have := of_decide_eq_true h1
          omega
        show (decide (cs.length ≤ 60) && _) = false
        rw [decide_eq_false h1']
        rfl
      have q := q H (Same.refl _)
      rw [e] at q
      exact q
    · have h1' : cs.length ≤ 60 := by
        apply Classical.byContradiction
        intro c
        exact h1 (decide_eq_true (by omega))
      obtain ⟨dx, d1, d2, hx, _⟩ := L.ex
      refine ⟨_, rfl, p, dx, _, rfl, hx, landF_no _ _ (by decide +kernel) (by decide +kernel), _, rfl, p, fs, ds, rfl, L, fun ls H1 S1 fls hls => ?_⟩
      refine ⟨_, rfl, p, dx, _, rfl, S1 _ _ hx, landF_no _ _ (by decide +kernel) (by decide +kernel), _, rfl, p, fs, ds, rfl, L.same S1, fun lf H2 S2 flf hlf => ?_⟩
      have S := S1.trans S2
      have hi2 := IsL.same S _ _ hi
      refine ⟨_, rfl, l, rfl, ⟨_, SqL.of (S _ _ o)⟩, ?_⟩
      refine comp_list (F := K) (xs := us) (by omega) (fun i ys H' => Same H2 H' ∧ ys = (cs.take i).map fun d => V.bl (isDec ((ds.filter hasSill).map nmOf) (fs.map nmOf) d)) ⟨Same.refl _, rfl⟩ ?_ ?_ ?_
      · rintro i ys H' hi' ⟨S3, rfl⟩
        exact ⟨SqL.of (S3 _ _ (S _ _ o)), by rw [List.length_map, List.length_take]; omega⟩
      · rintro i xv ys H' K1 K2 hxi ⟨S3, rfl⟩ k1 k2
        have hil : i < us.length := (List.getElem?_eq_some_iff.mp hxi).1
        obtain ⟨d, ed⟩ : ∃ d, cs[i]? = some d := ⟨_, List.getElem?_eq_getElem (by omega)⟩
        obtain ⟨v, ev, iv⟩ := hi2.get ed
        rw [hxi] at ev
        cases ev
        refine ⟨_, rfl, _, rfl, _, rfl, _, _, _, rfl, d, ls, lf, _, _, Is.same S3 _ _ iv, smallL_mem hs'.2 (List.mem_of_getElem? ed), rfl, SqL.of (S3 _ _ (S2 _ _ hls)), rfl, SqL.of (S3 _ _ hlf), fun H5 S5 => k1 _ _ ⟨S3.trans S5, ?_⟩⟩
        rw [List.take_add_one, ed]
        simp
      · rintro ys H' ⟨S3, rfl⟩
        intro p4 hp4
        have q := q _ (S.trans (S3.trans (Same.upd (o := .lst ((cs.take us.length).map fun d => V.bl (isDec ((ds.filter hasSill).map nmOf) (fs.map nmOf) d))) hp4)))
        refine ⟨p4, cs.map (isDec ((ds.filter hasSill).map nmOf) (fs.map nmOf)), rfl, SqL.of ?_, ?_⟩
        · rw [upd_same, List.take_of_length_le (by omega), List.map_map]
          rfl
        · have e : areDecs ((ds.filter hasSill).map nmOf) (fs.map nmOf) (.lst cs) = (cs.map (isDec ((ds.filter hasSill).map nmOf) (fs.map nmOf))).all id := by
            show (decide (cs.length ≤ 60) && cs.all _) = _
            rw [decide_eq_true h1', Bool.true_and, List.all_map]
            rfl
          rw [e] at q
          exact q
  | _ => exact iteT (q H (Same.refl _))

def spCell (K : PySem.W.Frag) : Sp := sp2 fun x y H Q => ∃ (a : Addr) (ns : List Int) (k : Int), x = .ref a ∧ y = .int k ∧ SqL K H a (ns.map V.int) ∧ ns.length ≤ 63 ∧ 0 ≤ k ∧ Q (.int (ns.getD k.toNat 0)) H
theorem ok_l_cell_at (T : Txt w K mg C) : Fc P w K mg base 1 "_law_cell_at" ["_law_script", "_law_k"] (spCell K) := by
  refine T.d_l_cell_at.fc sc_l_cell_at len2 (fun f cdv A outer s H vs Q E hr h => ?_)
  obtain ⟨x, y, rfl, a, ns, k, rfl, rfl, hS, hl, hk, q⟩ := h
  refine ⟨_, (@pss_cons _ _ _ _ _ (@ps_if _ _ _ _ _ _ _ _ (@pt_cmpR _ _ _ _ _ _ _ _ op_lt (pv 1) (@pe_callB _ _ _ _ _ _ _ _ _ (@call_len_seqB _ (K) rfl) rfl T.n_len boot_len' (@pa_cons _ _ _ _ _ (pv 0) pa_nil (by rfl)) (by decide) (by decide) (by rfl) (by rfl)) (@nomark _ _ (by decide) (by decide))) (@pss_one _ _ _ (@ps_ret _ _ _ _ (@pe_ix _ _ _ _ _ _ _ (@ix_listB _ (K) rfl) (pv 0) (pv 1) (fun _ _ => rfl)))) pss_nil) (@pss_one _ _ _ (@ps_ret _ _ _ _ pe_int))), ?_⟩
  refine ⟨_, rfl, _, rfl, a, _, rfl, .inl hS, _, _, rfl, rfl, _, rfl, ?_⟩
  obtain ⟨j, rfl⟩ := Int.eq_ofNat_of_zero_le hk
  rw [List.length_map]
  refine ite2 (fun h1 => ?_) (fun h1 => ?_)
  · have h1' : j < ns.length := by
      have := of_decide_eq_true h1
      omega
    refine ⟨_, rfl, _, rfl, a, _, _, .int (ns.getD j 0), rfl, rfl, hS, atI_nat ?_, ?_⟩
    · rw [List.getElem?_map, List.getElem?_eq_getElem h1', List.getD_eq_getElem?_getD, List.getElem?_eq_getElem h1']
      rfl
    · simpa using q
  · have h1' : ¬ j < ns.length := by
      intro h2
      exact h1 (decide_eq_true (by omega))
    have e : ns.getD j 0 = 0 := by
      rw [List.getD_eq_getElem?_getD, List.getElem?_eq_none (by omega)]
      rfl
    have q' : Q (.int (ns.getD j 0)) H := by simpa using q
    rw [e] at q'
    exact q'

def spMixed : Sp := sp2 fun x y H Q => ∃ n k : Int, x = .int n ∧ y = .int k ∧ 0 ≤ k ∧ k ≤ 2000 ∧ ∀ m : Int, 0 ≤ m → m < 1000000000000000000000000 → Q (.int m) H
theorem ok_l_mixed (T : Txt w K mg C) : Fc P w K mg base 1 "_law_mixed" ["_law_cell", "_law_k"] spMixed := by
  refine T.d_l_mixed.fc sc_l_mixed len2 (fun f cdv A outer s H vs Q E hr h => ?_)
  obtain ⟨x, y, rfl, n, k, rfl, rfl, hk0, hk1, q⟩ := h
  have e24 : (10 : Int) ^ (24 : Int).toNat = 1000000000000000000000000 := by decide
  refine ⟨_, (@pss_cons _ _ _ _ _ (@ps_if _ _ _ _ _ _ _ _ (@pt_cmpR _ _ _ _ _ _ _ _ op_eq (@pe_op _ _ _ _ _ _ _ _ op_mod (pv 0) pe_int) pe_int (@nomark _ _ (by decide) (by decide))) (@pss_cons _ _ _ _ _ (@ps_set _ _ (2) _ _ _ _ sc_l_mixed.nd rfl (Or.inl rfl) (@pe_op _ _ _ _ _ _ _ _ op_fdivB (pv 0) pe_int) (by rfl) (by first | exact .inl rfl | exact .inr rfl | assumption)) (@pss_cons _ _ _ _ _ (@ps_for _ _ _ _ _ _ _ _ PassesOwn.never rfl (@pi_range1 _ _ _ _ _ _ rfl T.n_range (@pa_cons _ _ _ _ _ (@pe_op _ _ _ _ _ _ _ _ op_mod (pv 1) pe_int) pa_nil (by rfl)) (by rfl)) (@pg_name _ _ (3) _ sc_l_mixed.nd rfl (Or.inl rfl) (by first | exact .inl rfl | exact .inr rfl | assumption)) (@pss_one _ _ _ (@ps_set _ _ (2) _ _ _ _ sc_l_mixed.nd rfl (Or.inl rfl) (@pe_op _ _ _ _ _ _ _ _ op_fdivB (pv 2) (@pe_op _ _ _ _ _ _ _ _ op_pow pe_int pe_int)) (by rfl) (by first | exact .inl rfl | exact .inr rfl | assumption))) (by intro _; rfl)) (@pss_one _ _ _ (@ps_ret _ _ _ _ (@pe_op _ _ _ _ _ _ _ _ op_mod (pv 2) (@pe_op _ _ _ _ _ _ _ _ op_pow pe_int pe_int)))))) pss_nil) (@pss_cons _ _ _ _ _ (@ps_set _ _ (2) _ _ _ _ sc_l_mixed.nd rfl (Or.inl rfl) (@pe_op _ _ _ _ _ _ _ _ op_mod (@pe_op _ _ _ _ _ _ _ _ op_mul (@pe_op _ _ _ _ _ _ _ _ op_add (@pe_op _ _ _ _ _ _ _ _ op_add (pv 0) (@pe_op _ _ _ _ _ _ _ _ op_mul (@pe_op _ _ _ _ _ _ _ _ op_mul pe_int (pv 1)) (pv 1))) pe_int) pe_int) pe_int) (by rfl) (by first | exact .inl rfl | exact .inr rfl | assumption)) (@pss_one _ _ _ (@ps_ret _ _ _ _ (@pe_op _ _ _ _ _ _ _ _ op_mod (@pe_op _ _ _ _ _ _ _ _ op_mul (pv 2) (pv 2)) pe_int))))), ?_⟩
  refine ⟨_, rfl, _, _, rfl, rfl, (by show (0 : Int) < 2; decide), rfl, _, rfl, ?_⟩
  refine ite2 (fun h1 => ?_) (fun h1 => ?_)
  · refine ⟨_, rfl, _, _, rfl, rfl, ⟨by decide, by decide⟩, ?_⟩
    have m0 : 0 ≤ k % 16 := Int.emod_nonneg _ (by decide)
    have m1 : k % 16 < 16 := Int.emod_lt_of_pos _ (by decide)
    refine ⟨_, rfl, _, _, rfl, rfl, (by show (0 : Int) < 16; decide), _, rfl, by omega, by omega, ?_⟩
    refine for_range (lo := 0) (n := (k % 16).toNat) (fun i σ H' => ∃ (m : Int) (v : Option V), σ = [some (.int n), some (.int k), some (.int m), v] ∧ H' = H) ⟨_, _, rfl, rfl⟩ ?_ ?_
    · rintro i σ H' hi ⟨m, v, rfl, rfl⟩
      exact ⟨_, rfl, _, _, rfl, rfl, ⟨by decide, by decide, by decide⟩, _, _, rfl, rfl, ⟨by decide, by decide⟩, _, _, rfl, rfl⟩
    · rintro σ H' ⟨m, v, rfl, rfl⟩
      refine ⟨_, rfl, _, _, rfl, rfl, ⟨by decide, by decide, by decide⟩, _, _, rfl, rfl, (by show (0 : Int) < 10 ^ (24 : Int).toNat; decide), ?_⟩
      refine q _ (Int.emod_nonneg _ (by decide)) ?_
      rw [← e24]
      exact Int.emod_lt_of_pos _ (by decide)
  · have hb : ∀ a : Int, -(2 ^ 64) < a % 2147483647 ∧ a % 2147483647 < 2 ^ 64 := fun a => by
      have := Int.emod_nonneg a (show (2147483647 : Int) ≠ 0 by decide)
      have := Int.emod_lt_of_pos a (show (0 : Int) < 2147483647 by decide)
      omega
    refine ⟨_, rfl, _, rfl, _, _, rfl, rfl, .inl ⟨by decide, by decide⟩, _, rfl, _, _, rfl, rfl, .inr ⟨by omega, by omega⟩, _, _, rfl, rfl, _, _, rfl, rfl, _, _, rfl, rfl, .inr ⟨by decide, by decide⟩, _, _, rfl, rfl, (by show (0 : Int) < 2147483647; decide), ?_⟩
    refine ⟨_, rfl, _, rfl, _, _, rfl, rfl, .inl (hb _), _, _, rfl, rfl, (by show (0 : Int) < 2147483629; decide), ?_⟩
    exact q _ (Int.emod_nonneg _ (by decide)) (Int.lt_trans (Int.emod_lt_of_pos _ (by decide)) (by decide))

theorem at_in {xs : List V} {i : Int} (h0 : 0 ≤ i) (h1 : i < xs.length) : ∃ v, v ∈ xs ∧ atI xs i = some v := by
  obtain ⟨k, rfl⟩ := Int.eq_ofNat_of_zero_le h0
  have hk : k < xs.length := by omega
  exact ⟨xs[k], List.getElem_mem hk, atI_nat (List.getElem?_eq_getElem hk)⟩
theorem at_str {zs : List Str} {i : Int} (h0 : 0 ≤ i) (h1 : i < zs.length) : ∃ z, z ∈ zs ∧ atI (zs.map V.str) i = some (.str z) := by
  obtain ⟨v, m, e⟩ := at_in (xs := zs.map V.str) h0 (by rw [List.length_map]; exact h1)
  obtain ⟨z, mz, rfl⟩ := List.mem_map.mp m
  exact ⟨z, mz, e⟩
theorem cut_drop (xs : List V) (k : Nat) : cutV xs (some (k : Int)) none = xs.drop k := by
  unfold cutV
  rw [HT.sIx_nat, HT.sIx_none]
  by_cases h : k ≤ xs.length
  · rw [Nat.min_eq_left h, List.take_of_length_le (by rw [List.length_drop]; exact Nat.le_refl _)]
  · rw [Nat.min_eq_right (by omega), Nat.sub_self, List.take_zero, List.drop_eq_nil_of_le (by omega)]
theorem cut_take (xs : List V) (k : Nat) : cutV xs none (some (k : Int)) = xs.take k := by
  unfold cutV
  rw [HT.sIx_nat, HT.sIx_none, List.drop_zero, Nat.sub_zero]
  by_cases h : k ≤ xs.length
  · rw [Nat.min_eq_left h]
  · rw [Nat.min_eq_right (by omega), List.take_of_length_le (Nat.le_refl _), List.take_of_length_le (by omega)]
theorem p6 : (10 : Int) ^ (6 : Int).toNat = 1000000 := by decide
def spH : Sp := sp1 fun x H Q => ∃ n : Int, x = .int n ∧ ∀ m : Int, -1000000 ≤ m → m ≤ 1000000 → Q (.int m) H
theorem ok_l_height (T : Txt w K mg C) : Fc P w K mg base 1 "_law_height" ["_law_number"] spH := by
  refine T.d_l_height.fc sc_l_height len1 (fun f cdv A outer s H vs Q E hr h => ?_)
  obtain ⟨x, rfl, n, rfl, q⟩ := h
  refine ⟨_, (@pss_cons _ _ _ _ _ (@ps_if _ _ _ _ _ _ _ _ (@pt_cmpR _ _ _ _ _ _ _ _ op_eq (@pe_op _ _ _ _ _ _ _ _ op_mod (pv 0) pe_int) pe_int (@nomark _ _ (by decide) (by decide))) (@pss_one _ _ _ (@ps_ret _ _ _ _ (@pe_op _ _ _ _ _ _ _ _ op_sub (@pe_op _ _ _ _ _ _ _ _ op_mod (@pe_op _ _ _ _ _ _ _ _ op_mul (@pe_op _ _ _ _ _ _ _ _ op_fdivB (pv 0) pe_int) pe_int) pe_int) (@pe_op _ _ _ _ _ _ _ _ op_pow pe_int pe_int)))) pss_nil) (@pss_one _ _ _ (@ps_ret _ _ _ _ (@pe_op _ _ _ _ _ _ _ _ op_sub (@pe_op _ _ _ _ _ _ _ _ op_mod (@pe_op _ _ _ _ _ _ _ _ op_fdivB (pv 0) pe_int) pe_int) pe_int)))), ?_⟩
  refine ⟨_, rfl, _, _, rfl, rfl, (posI rfl), rfl, _, rfl, ?_⟩
  refine ite2 (fun h1 => ?_) (fun h1 => ?_)
  · have a0 := Int.emod_nonneg (n / 4 * 7919) (show (2000001 : Int) ≠ 0 by decide)
    have a1 := Int.emod_lt_of_pos (n / 4 * 7919) (show (0 : Int) < 2000001 by decide)
    exact ⟨_, rfl, _, _, rfl, rfl, ⟨by decide, by decide⟩, _, _, rfl, rfl, .inr ⟨by decide, by decide⟩, _, _, rfl, rfl, (posI rfl), _, _, rfl, rfl, ⟨by decide, by decide, by decide⟩, _, _, rfl, rfl, q _ (by rw [p6]; omega) (by rw [p6]; omega)⟩
  · have a0 := Int.emod_nonneg (n / 4) (show (21 : Int) ≠ 0 by decide)
    have a1 := Int.emod_lt_of_pos (n / 4) (show (0 : Int) < 21 by decide)
    exact ⟨_, rfl, _, _, rfl, rfl, ⟨by decide, by decide⟩, _, _, rfl, rfl, (posI rfl), _, _, rfl, rfl, q _ (by omega) (by omega)⟩
def turned (zs : List Str) (k : Nat) : List Str := zs.drop k ++ zs.take k
theorem turned_len (zs : List Str) {k : Nat} (h : k ≤ zs.length) : (turned zs k).length = zs.length := by
  unfold turned
  rw [List.length_append, List.length_drop, List.length_take]
  omega
theorem turned_map (zs : List Str) (k : Nat) : cutV (zs.map V.str) (some (k : Int)) none ++ cutV (zs.map V.str) none (some (k : Int)) = (turned zs k).map V.str := by
  rw [cut_drop, cut_take]
  unfold turned
  rw [List.map_append, List.map_drop, List.map_take]
abbrev plots8 : List Str := ["and", "wet", "always", "low", "mere", "when", "day", "of"]
structure Plots (zs : List Str) : Prop where
  l1 : 1 ≤ zs.length
  l2 : zs.length ≤ 6
  nd : zs.Nodup
  sub : ∀ z ∈ zs, z ∈ plots8
theorem plots_nd : ∀ k < 8, (turned plots8 k).Nodup := by decide +kernel
theorem turned_mem {zs : List Str} {k : Nat} {z : Str} (h : z ∈ turned zs k) : z ∈ zs := by
  unfold turned at h
  rcases List.mem_append.mp h with h | h
  · exact List.mem_of_mem_drop h
  · exact List.mem_of_mem_take h
def spPlots : Sp := sp1 fun x H Q => ∃ n : Int, x = .int n ∧ ∀ (l : Addr) (zs : List Str) (H' : Hp), Same H H' → H' l = some (.lst (zs.map V.str)) → Plots zs → Q (.ref l) H'
theorem ok_l_plots (T : Txt w K mg C) : Fc P w K mg base 1 "_law_plots" ["_law_cell"] spPlots := by
  refine T.d_l_plots.fc sc_l_plots len1 (fun f cdv A outer s H vs Q E hr h => ?_)
  obtain ⟨x, rfl, n, rfl, q⟩ := h
  refine ⟨_, (@pss_cons _ _ _ _ _ (@ps_set _ _ (1) _ _ _ _ sc_l_plots.nd rfl (Or.inl rfl) (@pe_lst _ _ _ _ (@pa_cons _ _ _ _ _ pe_str (@pa_cons _ _ _ _ _ pe_str (@pa_cons _ _ _ _ _ pe_str (@pa_cons _ _ _ _ _ pe_str (@pa_cons _ _ _ _ _ pe_str (@pa_cons _ _ _ _ _ pe_str (@pa_cons _ _ _ _ _ pe_str (@pa_cons _ _ _ _ _ pe_str pa_nil (by rfl)) (by rfl)) (by rfl)) (by rfl)) (by rfl)) (by rfl)) (by rfl)) (by rfl))) (by rfl) (by first | exact .inl rfl | exact .inr rfl | assumption)) (@pss_cons _ _ _ _ _ (@ps_set _ _ (2) _ _ _ _ sc_l_plots.nd rfl (Or.inl rfl) (@pe_op _ _ _ _ _ _ _ _ op_mod (pv 0) pe_int) (by rfl) (by first | exact .inl rfl | exact .inr rfl | assumption)) (@pss_one _ _ _ (@ps_ret _ _ _ _ (@pe_slice _ _ _ _ _ _ _ _ _ _ (@sl_listB _ (K) rfl) (@pe_op _ _ _ _ _ _ _ _ op_cat (@pe_slice _ _ _ _ _ _ _ _ _ _ (@sl_listB _ (K) rfl) (pv 1) (@po_some _ _ _ (pv 2)) po_none) (@pe_slice _ _ _ _ _ _ _ _ _ _ (@sl_listB _ (K) rfl) (pv 1) po_none (@po_some _ _ _ (pv 2)))) po_none (@po_some _ _ _ (@pe_op _ _ _ _ _ _ _ _ op_add pe_int (@pe_op _ _ _ _ _ _ _ _ op_mod (@pe_op _ _ _ _ _ _ _ _ op_fdivB (pv 0) pe_int) pe_int)))))))), ?_⟩
  refine ⟨small_le rfl, fun p hp => ?_⟩
  have S1 := Same.upd (o := .lst (plots8.map V.str)) hp
  obtain ⟨k, hk⟩ := Int.eq_ofNat_of_zero_le (show 0 ≤ n % 8 from Int.emod_nonneg _ (by decide))
  have hk8 : k < 8 := by have := Int.emod_lt_of_pos n (show (0 : Int) < 8 by decide); omega
  obtain ⟨r, hr'⟩ := Int.eq_ofNat_of_zero_le (show 0 ≤ 1 + n / 8 % 6 by have := Int.emod_nonneg (n / 8) (show (6 : Int) ≠ 0 by decide); omega)
  have hr6 : 1 ≤ r ∧ r ≤ 6 := by
    have := Int.emod_lt_of_pos (n / 8) (show (0 : Int) < 6 by decide)
    have := Int.emod_nonneg (n / 8) (show (6 : Int) ≠ 0 by decide)
    omega
  refine ⟨_, rfl, _, _, rfl, rfl, (posI rfl), ?_⟩
  dsimp only
  rw [hk]
  refine ⟨_, rfl, _, rfl, _, rfl, p, _, rfl, SqL.of upd_same, fun p1 hp1 => ?_⟩
  have S2 := Same.upd (o := .lst (cutV (plots8.map V.str) (some (k : Int)) none)) hp1
  refine ⟨_, rfl, _, rfl, _, rfl, p, _, rfl, SqL.of (S2 _ _ upd_same), fun p2 hp2 => ?_⟩
  have S3 := Same.upd (o := .lst (cutV (plots8.map V.str) none (some (k : Int)))) hp2
  have le := cutV_length (plots8.map V.str) (some (k : Int)) none
  have le2 := cutV_length (plots8.map V.str) none (some (k : Int))
  have l8 : (plots8.map V.str).length = 8 := rfl
  have big := big1000
  have fits : (cutV (plots8.map V.str) (some (k : Int)) none).length + (cutV (plots8.map V.str) none (some (k : Int))).length ≤ sizeLine := by omega
  refine ⟨p1, p2, _, _, rfl, rfl, S3 _ _ upd_same, upd_same, fits, fun p3 hp3 => ?_⟩
  have S4 := Same.upd (o := .lst (cutV (plots8.map V.str) (some (k : Int)) none ++ cutV (plots8.map V.str) none (some (k : Int)))) hp3
  refine ⟨_, rfl, _, _, rfl, rfl, ⟨by decide, by decide⟩, _, _, rfl, rfl, (posI rfl), _, _, rfl, rfl, ?_⟩
  dsimp only
  rw [hr']
  refine ⟨_, rfl, p3, _, rfl, SqL.of upd_same, fun p4 hp4 => ?_⟩
  refine q p4 ((turned plots8 k).take r) _ (S1.trans (S2.trans (S3.trans (S4.trans (Same.upd hp4))))) ?_ ⟨?_, ?_, ?_, ?_⟩
  · rw [upd_same]
    show some (HO.lst (cutV (cutV (plots8.map V.str) (some (k : Int)) none ++ cutV (plots8.map V.str) none (some (k : Int))) none (some (r : Int)))) = _
    rw [turned_map, cut_take, List.map_take]
  · rw [List.length_take, turned_len _ (by show k ≤ 8; omega)]
    show 1 ≤ min r 8
    omega
  · rw [List.length_take]
    omega
  · exact (plots_nd k hk8).sublist (List.take_sublist _ _)
  · exact fun z m => turned_mem (List.mem_of_mem_take m)

abbrev fences8 : List Str := ["open", "when", "and", "gate", "low", "shut", "dike", "b"]
theorem sill_hard {c s : Dv} (h : isSill c s = true) : hard s = true := by
  cases s with
  | non => rfl
  | int i => rfl
  | _ => cases h
theorem dyke_hard {zs : List Str} {d : Dv} (h : isDyke zs d = true) : hard d = true := by
  obtain ⟨n, a, b, c, r, s, rfl, _, _, _, _, _, _, hs⟩ := dyke_shape h
  have := sill_hard hs
  show (true && (true && (true && (true && (true && (hard s && true)))))) = true
  rw [this]
  rfl
theorem dyke_mk {zs : List Str} {n a b : Str} {c r : Int} {s : Dv} (hn : nameS n = true) (ha : a ∈ zs) (hb : b ∈ zs) (hab : a ≠ b) (hc : hgt c = true) (hr : amt r = true) (hs : isSill (.int c) s = true) : isDyke zs (.tup [.str n, .str a, .str b, .int c, .int r, s]) = true := by
  show (nameS n && (decide (a ∈ zs) && (decide (b ∈ zs) && !(a == b))) && (hgt c && (amt r && isSill (.int c) s))) = true
  rw [hn, decide_eq_true ha, decide_eq_true hb, hc, hr, hs, beq_eq_false_iff_ne.mpr hab]
  rfl
theorem hgt_of {i : Int} (h0 : -1000000 ≤ i) (h1 : i ≤ 1000000) : hgt i = true := by
  unfold hgt
  rw [decide_eq_true h0, decide_eq_true h1]
  rfl
theorem amt_of {i : Int} (h0 : 0 ≤ i) (h1 : i ≤ 1000000) : amt i = true := by
  unfold amt
  rw [decide_eq_true h0, decide_eq_true h1]
  rfl
theorem sea_not {z : Str} (h : nameS z = true) : z ≠ "sea" := by
  intro e
  subst e
  simp [nameS] at h

theorem fences_nd : ∀ k < 8, (turned fences8 k).Nodup := by decide +kernel
theorem fences_name : ∀ z ∈ fences8, nameS z = true := by decide +kernel
theorem plots_name : ∀ z ∈ plots8, nameS z = true := by decide +kernel
theorem sill_one {i : Nat} (h : i < 8) {v : V} (m : v ∈ ([.non, .int (-3), .int (-3), .int (0 - 10 ^ (6 : Int).toNat)] : List V)) : ∃ sd : Dv, isSill (.int (4 + (0 + (i : Int)))) sd = true ∧ ∀ H : Hp, Is H sd v := by
  have p6 : (10 : Int) ^ (6 : Int).toNat = 1000000 := by decide
  rw [p6] at m
  have low : ∀ j : Int, -1000000 ≤ j → j ≤ 0 → isSill (.int (4 + (0 + (i : Int)))) (.int j) = true := fun j h0 h1 => by
    show (hgt j && decide (j < 4 + (0 + (i : Int)))) = true
    rw [hgt_of h0 (by omega), decide_eq_true (by omega)]
    rfl
  simp only [List.mem_cons, List.not_mem_nil, or_false] at m
  rcases m with rfl | rfl | rfl | rfl
  · exact ⟨.non, rfl, fun _ => rfl⟩
  · exact ⟨.int _, low _ (by omega) (by omega), fun _ => rfl⟩
  · exact ⟨.int _, low _ (by omega) (by omega), fun _ => rfl⟩
  · exact ⟨.int _, low _ (by omega) (by omega), fun _ => rfl⟩
theorem fence_ok {zs : List Str} (pz : Plots zs) {i k : Nat} (h : i < 8) {z z2 : Str} (mz : z ∈ zs) (mz2 : z2 ∈ turned fences8 k) {sd : Dv} (hs : isSill (.int (4 + (0 + (i : Int)))) sd = true) :
    isDyke ("sea" :: zs) (.tup [.str z2, .str "sea", .str z, .int (4 + (0 + (i : Int))), .int 1, sd]) = true :=
  dyke_mk (fences_name _ (turned_mem mz2)) List.mem_cons_self (List.mem_cons_of_mem _ mz) (fun e => sea_not (plots_name _ (pz.sub _ mz)) e.symm) (hgt_of (by omega) (by omega)) (amt_of (by decide) (by decide)) hs
def spFences : Sp := sp2 fun x y H Q => ∃ (n : Int) (b : Addr) (zs : List Str), x = .int n ∧ y = .ref b ∧ H b = some (.lst (zs.map V.str)) ∧ Plots zs ∧
  ∀ (l : Addr) (us : List V) (ds : List Dv) (H' : Hp), Same H H' → H' l = some (.lst us) → IsL H' ds us → GoodD ("sea" :: zs) ds → ds.length ≤ 8 → (∀ d ∈ ds, nmOf d ∈ fences8) → (∃ d ∈ ds, hasSill d = true) → Q (.ref l) H'
theorem at_get {zs : List Str} {i : Nat} {z : Str} (h : i < 1000) (e : atI (zs.map V.str) (0 + (i : Int)) = some (.str z)) : zs[i]? = some z := by
  rw [Int.zero_add] at e
  obtain ⟨j, h1, h2, h3, h4, h5⟩ := atI_get e
  have : j = i := by
    have hi : i < (zs.map V.str).length := by omega
    have := atI_nat (List.getElem?_eq_getElem hi)
    unfold seqIndex? at h1
    simp at h1
    omega
  subst this
  rw [List.getElem?_map] at h2
  cases hz : zs[j]? with
  | none => rw [hz] at h2; cases h2
  | some y => rw [hz] at h2; cases h2; rfl
theorem ok_l_fences (T : Txt w K mg C) : Fc P w K mg base 2 "_law_fences" ["_law_cell", "_law_fields"] spFences := by
  have G_l_mixed : Fc P w K mg base 1 "_law_mixed" ["_law_cell", "_law_k"] spMixed := ok_l_mixed T
  refine T.d_l_fences.fc sc_l_fences len2 (fun f cdv A outer s H vs Q E hr h => ?_)
  obtain ⟨x, y, rfl, n, b, zs, rfl, rfl, hb, pz, q⟩ := h
  have lz := pz.l1
  have big := big1000
  refine ⟨_, (@pss_cons _ _ _ _ _ (@ps_set _ _ (2) _ _ _ _ sc_l_fences.nd rfl (Or.inl rfl) (@pe_lst _ _ _ _ (@pa_cons _ _ _ _ _ pe_str (@pa_cons _ _ _ _ _ pe_str (@pa_cons _ _ _ _ _ pe_str (@pa_cons _ _ _ _ _ pe_str (@pa_cons _ _ _ _ _ pe_str (@pa_cons _ _ _ _ _ pe_str (@pa_cons _ _ _ _ _ pe_str (@pa_cons _ _ _ _ _ pe_str pa_nil (by rfl)) (by rfl)) (by rfl)) (by rfl)) (by rfl)) (by rfl)) (by rfl)) (by rfl))) (by rfl) (by first | exact .inl rfl | exact .inr rfl | assumption)) (@pss_cons _ _ _ _ _ (@ps_set _ _ (3) _ _ _ _ sc_l_fences.nd rfl (Or.inl rfl) (@pe_op _ _ _ _ _ _ _ _ op_mod (pv 0) pe_int) (by rfl) (by first | exact .inl rfl | exact .inr rfl | assumption)) (@pss_cons _ _ _ _ _ (@ps_set _ _ (4) _ _ _ _ sc_l_fences.nd rfl (Or.inl rfl) (@pe_lst _ _ _ _ pa_nil) (by rfl) (by first | exact .inl rfl | exact .inr rfl | assumption)) (@pss_cons _ _ _ _ _ (@ps_for _ _ _ _ _ _ _ _ PassesOwn.never rfl (@pi_range1 _ _ _ _ _ _ rfl T.n_range (@pa_cons _ _ _ _ _ (@pe_op _ _ _ _ _ _ _ _ op_add pe_int (@pe_op _ _ _ _ _ _ _ _ op_mod (@pe_op _ _ _ _ _ _ _ _ op_fdivB (pv 0) pe_int) pe_int)) pa_nil (by rfl)) (by rfl)) (@pg_name _ _ (5) _ sc_l_fences.nd rfl (Or.inl rfl) (by first | exact .inl rfl | exact .inr rfl | assumption)) (@pss_cons _ _ _ _ _ (@ps_set _ _ (6) _ _ _ _ sc_l_fences.nd rfl (Or.inl rfl) (@pe_ix _ _ _ _ _ _ _ (@ix_listB _ (K) rfl) (@pe_lst _ _ _ _ (@pa_cons _ _ _ _ _ pe_non (@pa_cons _ _ _ _ _ (@pe_un _ _ _ _ _ _ un_neg pe_int) (@pa_cons _ _ _ _ _ (@pe_un _ _ _ _ _ _ un_neg pe_int) (@pa_cons _ _ _ _ _ (@pe_op _ _ _ _ _ _ _ _ op_sub pe_int (@pe_op _ _ _ _ _ _ _ _ op_pow pe_int pe_int)) pa_nil (by rfl)) (by rfl)) (by rfl)) (by rfl))) (@pe_op _ _ _ _ _ _ _ _ op_mod (@pe_c _ _ _ _ _ _ _ _ _ _ G_l_mixed (hr.mono (by decide)) (@pa_cons _ _ _ _ _ (pv 0) (@pa_cons _ _ _ _ _ (@pe_op _ _ _ _ _ _ _ _ op_add (pv 5) pe_int) pa_nil (by rfl)) (by rfl)) (by rfl) (by decide) (by rfl) (by rfl)) pe_int) (fun _ _ => rfl)) (by rfl) (by first | exact .inl rfl | exact .inr rfl | assumption)) (@pss_cons _ _ _ _ _ (@ps_if _ _ _ _ _ _ _ _ (@pt_cmpR _ _ _ _ _ _ _ _ op_eq (pv 5) pe_int (@nomark _ _ (by decide) (by decide))) (@pss_one _ _ _ (@ps_set _ _ (6) _ _ _ _ sc_l_fences.nd rfl (Or.inl rfl) pe_int (by rfl) (by first | exact .inl rfl | exact .inr rfl | assumption))) pss_nil) (@pss_cons _ _ _ _ _ (@ps_set _ _ (7) _ _ _ _ sc_l_fences.nd rfl (Or.inl rfl) (@pe_ix _ _ _ _ _ _ _ (@ix_listB _ (K) rfl) (pv 1) (@pe_op _ _ _ _ _ _ _ _ op_mod (@pe_op _ _ _ _ _ _ _ _ op_fdivB (@pe_c _ _ _ _ _ _ _ _ _ _ G_l_mixed (hr.mono (by decide)) (@pa_cons _ _ _ _ _ (pv 0) (@pa_cons _ _ _ _ _ (@pe_op _ _ _ _ _ _ _ _ op_add (pv 5) pe_int) pa_nil (by rfl)) (by rfl)) (by rfl) (by decide) (by rfl) (by rfl)) pe_int) (@pe_callB _ _ _ _ _ _ _ _ _ (@call_len_seqB _ (K) rfl) rfl T.n_len boot_len' (@pa_cons _ _ _ _ _ (pv 1) pa_nil (by rfl)) (by decide) (by decide) (by rfl) (by rfl))) (fun _ _ => rfl)) (by rfl) (by first | exact .inl rfl | exact .inr rfl | assumption)) (@pss_one _ _ _ (@ps_expr _ _ _ _ (@pe_bm _ _ _ _ _ _ _ _ _ _ _ _ PySem.F.plainAttrs_list PySem.F.slot_list_append PySem.F.type_list_append mt_append (pv 4) (@pa_cons _ _ _ _ _ (@pe_tup _ _ _ _ _ (@pa_cons _ _ _ _ _ (@pe_ix _ _ _ _ _ _ _ (@ix_listB _ (K) rfl) (@pe_op _ _ _ _ _ _ _ _ op_cat (@pe_slice _ _ _ _ _ _ _ _ _ _ (@sl_listB _ (K) rfl) (pv 2) (@po_some _ _ _ (pv 3)) po_none) (@pe_slice _ _ _ _ _ _ _ _ _ _ (@sl_listB _ (K) rfl) (pv 2) po_none (@po_some _ _ _ (pv 3)))) (pv 5) (fun _ _ => rfl)) (@pa_cons _ _ _ _ _ pe_str (@pa_cons _ _ _ _ _ (pv 7) (@pa_cons _ _ _ _ _ (@pe_op _ _ _ _ _ _ _ _ op_add pe_int (pv 5)) (@pa_cons _ _ _ _ _ pe_int (@pa_cons _ _ _ _ _ (pv 6) pa_nil (by rfl)) (by rfl)) (by rfl)) (by rfl)) (by rfl)) (by rfl))) pa_nil (by rfl)) (by rfl) (by rfl) (by rfl) (by rfl) (by rfl)) (by rfl)))))) (by intro _; rfl)) (@pss_one _ _ _ (@ps_ret _ _ _ _ (pv 4))))))), ?_⟩
  refine ⟨small_le rfl, fun pn hpn => ?_⟩
  have S1 := Same.upd (o := .lst (fences8.map V.str)) hpn
  obtain ⟨k, hk⟩ := Int.eq_ofNat_of_zero_le (show 0 ≤ n % 8 from Int.emod_nonneg _ (by decide))
  have hk8 : k < 8 := by have := Int.emod_lt_of_pos n (show (0 : Int) < 8 by decide); omega
  have le := cutV_length (fences8.map V.str) (some (k : Int)) none
  have le2 := cutV_length (fences8.map V.str) none (some (k : Int))
  have l8 : (fences8.map V.str).length = 8 := rfl
  have fits : (cutV (fences8.map V.str) (some (k : Int)) none).length + (cutV (fences8.map V.str) none (some (k : Int))).length ≤ sizeLine := by omega
  refine ⟨_, rfl, _, _, rfl, rfl, (posI rfl), ?_⟩
  dsimp only
  rw [hk]
  refine ⟨small_le rfl, fun l hl => ?_⟩
  have S2 := Same.upd (o := .lst []) hl
  have npn : pn ≠ l := ne_of_none upd_same hl
  have fl : H l = none := S1.free hl
  have r0 := Int.emod_nonneg (n / 8) (show (7 : Int) ≠ 0 by decide)
  have r1 := Int.emod_lt_of_pos (n / 8) (show (0 : Int) < 7 by decide)
  refine ⟨_, rfl, _, _, rfl, rfl, ⟨by decide, by decide⟩, _, _, rfl, rfl, (posI rfl), _, _, rfl, rfl, _, rfl, by omega, by omega, ?_⟩
  refine for_range (lo := 0) (n := (2 + n / 8 % 7).toNat) (fun i σ H' => ∃ (v5 v6 v7 : Option V) (us : List V) (ds : List Dv), σ = [some (.int n), some (.ref b), some (.ref pn), some (.int k), some (.ref l), v5, v6, v7] ∧ Same H H' ∧ H' pn = some (.lst (fences8.map V.str)) ∧ H' l = some (.lst us) ∧ IsL H' ds us ∧ ds.length = i ∧ (∀ d ∈ ds, isDyke ("sea" :: zs) d = true) ∧ ds.map nmOf = (turned fences8 k).take i ∧ (0 < i → ∃ d ∈ ds, hasSill d = true))
    ⟨_, _, _, [], [], rfl, S1.trans S2, S2 _ _ upd_same, upd_same, rfl, rfl, (fun d m => by cases m), rfl, (fun h => absurd h (Nat.lt_irrefl 0))⟩ ?_ ?_
  · rintro i σ H' hi ⟨v5, v6, v7, us, ds, rfl, S, hn', hl', hi', ln, af, en, fo⟩
    refine ⟨_, rfl, _, rfl, _, _, rfl, rfl, ⟨by decide, by decide, by decide⟩, _, _, rfl, rfl, small_le rfl, fun pl hpl => ?_⟩
    have R0 := Same.upd (o := .lst [.non, .int (-3), .int (-3), .int (0 - 10 ^ (6 : Int).toNat)]) hpl
    have R1 := S.trans R0
    refine ⟨_, rfl, _, rfl, _, _, rfl, rfl, _, _, rfl, n, _, rfl, rfl, by omega, by omega, fun m1 m10 m11 => ?_⟩
    obtain ⟨sv, msv, esv⟩ := at_in (xs := [.non, .int (-3), .int (-3), .int (0 - 10 ^ (6 : Int).toNat)]) (i := m1 % 4) (Int.emod_nonneg _ (by decide)) (Int.emod_lt_of_pos _ (by decide))
    obtain ⟨sd, hsd, hsv⟩ := sill_one (i := i) (by omega) msv
    refine ⟨_, _, rfl, rfl, (posI rfl), pl, _, _, sv, rfl, rfl, SqL.of upd_same, esv, ?_⟩
    refine ⟨_, rfl, rfl, _, rfl, ?_⟩
    rw [dec_int]
    refine ite2 (fun h1 => ?_) (fun h1 => ?_)
    · have h1' : i = 0 := by have := beq_iff_eq.mp h1; omega
      refine ⟨_, rfl, _, rfl, _, rfl, _, _, rfl, rfl, _, _, rfl, n, _, rfl, rfl, by omega, by omega, fun m2 m20 m21 => ?_⟩
      refine ⟨_, _, rfl, rfl, ⟨by decide, by decide⟩, _, rfl, b, _, rfl, .inl (SqL.of (R1 _ _ hb)), _, _, rfl, rfl, (by show 0 < (((zs.map V.str).length : Nat) : Int); rw [List.length_map]; omega), ?_⟩
      obtain ⟨z, mz, ez⟩ := at_str (zs := zs) (i := m2 / 4 % (((zs.map V.str).length : Nat) : Int)) (Int.emod_nonneg _ (by rw [List.length_map]; omega)) (by have := Int.emod_lt_of_pos (m2 / 4) (show (0 : Int) < (((zs.map V.str).length : Nat) : Int) by rw [List.length_map]; omega); rw [List.length_map] at *; exact this)
      refine ⟨b, _, _, .str z, rfl, rfl, SqL.of (R1 _ _ hb), ez, ?_⟩
      refine ⟨_, rfl, .inl ⟨rfl, _, SqL.of (R0 _ _ hl')⟩, _, rfl, _, rfl, _, rfl, pn, _, rfl, SqL.of (R0 _ _ hn'), fun p1 hp1 => ?_⟩
      have P1 := Same.upd (o := .lst (cutV (fences8.map V.str) (some (k : Int)) none)) hp1
      refine ⟨_, rfl, _, rfl, _, rfl, pn, _, rfl, SqL.of ((R0.trans P1) _ _ hn'), fun p2 hp2 => ?_⟩
      have P2 := Same.upd (o := .lst (cutV (fences8.map V.str) none (some (k : Int)))) hp2
      refine ⟨p1, p2, _, _, rfl, rfl, P2 _ _ upd_same, upd_same, fits, fun p3 hp3 => ?_⟩
      have P3 := Same.upd (o := .lst (cutV (fences8.map V.str) (some (k : Int)) none ++ cutV (fences8.map V.str) none (some (k : Int)))) hp3
      obtain ⟨z2, mz2, ez2⟩ := at_str (zs := turned fences8 k) (i := 0 + (i : Int)) (by omega) (by rw [turned_len _ (by show k ≤ 8; omega)]; show (0 + (i : Int)) < 8; omega)
      have ez2g := at_get (by omega) ez2
      rw [← turned_map] at ez2
      have dk := fence_ok pz (i := i) (by omega) mz mz2 (sd := .int 0) (by show (hgt 0 && decide ((0 : Int) < 4 + (0 + (i : Int)))) = true; rw [hgt_of (by decide) (by decide), decide_eq_true (by omega)]; rfl)
      refine ⟨_, rfl, p3, _, _, .str z2, rfl, rfl, SqL.of upd_same, ez2, _, rfl, _, rfl, _, _, rfl, rfl, _, rfl, small_le rfl, fun t ht => ?_⟩
      have P4 := Same.upd (o := .tup [.str z2, .str "sea", .str z, .int (4 + (0 + (i : Int))), .int 1, .int 0]) ht
      have PP := R0.trans (P1.trans (P2.trans (P3.trans P4)))
      have hl3 := PP _ _ hl'
      have lu := hi'.length
      refine ⟨l, us, .ref t, rfl, rfl, hl3, by omega, ?_⟩
      refine ⟨_, _, _, us ++ [.ref t], ds ++ [.tup [.str z2, .str "sea", .str z, .int (4 + (0 + (i : Int))), .int 1, .int 0]], rfl, (S.trans PP).over fl, ?_, upd_same, ?_, ?_, ?_, ?_, ?_⟩
      · rw [upd_ne npn]
        exact PP _ _ hn'
      · refine IsL.keep (KeepT.lst hl3) _ _ (hardL_of fun d m => ?_) (IsL.snoc ?_ (IsL.same PP _ _ hi'))
        · rcases List.mem_append.mp m with m | m
          · exact dyke_hard (af d m)
          · rw [List.mem_singleton.mp m]
            exact dyke_hard dk
        · exact ⟨t, _, rfl, upd_same, .str z2, _, rfl, rfl, .str "sea", _, rfl, rfl, .str z, _, rfl, rfl, .int _, _, rfl, rfl, .int 1, _, rfl, rfl, .int 0, _, rfl, rfl, rfl⟩
      · rw [List.length_append, ln]
        rfl
      · intro d m
        rcases List.mem_append.mp m with m | m
        · exact af d m
        · rw [List.mem_singleton.mp m]
          exact dk
      · rw [List.map_append, en, List.take_add_one, ez2g]
        rfl
      · intro _
        exact ⟨_, List.mem_append.mpr (.inr (List.mem_singleton.mpr rfl)), rfl⟩

    · have h1' : ¬ i = 0 := fun c => h1 (by rw [c]; rfl)
      refine ⟨_, rfl, _, rfl, _, rfl, _, _, rfl, rfl, _, _, rfl, n, _, rfl, rfl, by omega, by omega, fun m2 m20 m21 => ?_⟩
      refine ⟨_, _, rfl, rfl, ⟨by decide, by decide⟩, _, rfl, b, _, rfl, .inl (SqL.of (R1 _ _ hb)), _, _, rfl, rfl, (by show 0 < (((zs.map V.str).length : Nat) : Int); rw [List.length_map]; omega), ?_⟩
      obtain ⟨z, mz, ez⟩ := at_str (zs := zs) (i := m2 / 4 % (((zs.map V.str).length : Nat) : Int)) (Int.emod_nonneg _ (by rw [List.length_map]; omega)) (by have := Int.emod_lt_of_pos (m2 / 4) (show (0 : Int) < (((zs.map V.str).length : Nat) : Int) by rw [List.length_map]; omega); rw [List.length_map] at *; exact this)
      refine ⟨b, _, _, .str z, rfl, rfl, SqL.of (R1 _ _ hb), ez, ?_⟩
      refine ⟨_, rfl, .inl ⟨rfl, _, SqL.of (R0 _ _ hl')⟩, _, rfl, _, rfl, _, rfl, pn, _, rfl, SqL.of (R0 _ _ hn'), fun p1 hp1 => ?_⟩
      have P1 := Same.upd (o := .lst (cutV (fences8.map V.str) (some (k : Int)) none)) hp1
      refine ⟨_, rfl, _, rfl, _, rfl, pn, _, rfl, SqL.of ((R0.trans P1) _ _ hn'), fun p2 hp2 => ?_⟩
      have P2 := Same.upd (o := .lst (cutV (fences8.map V.str) none (some (k : Int)))) hp2
      refine ⟨p1, p2, _, _, rfl, rfl, P2 _ _ upd_same, upd_same, fits, fun p3 hp3 => ?_⟩
      have P3 := Same.upd (o := .lst (cutV (fences8.map V.str) (some (k : Int)) none ++ cutV (fences8.map V.str) none (some (k : Int)))) hp3
      obtain ⟨z2, mz2, ez2⟩ := at_str (zs := turned fences8 k) (i := 0 + (i : Int)) (by omega) (by rw [turned_len _ (by show k ≤ 8; omega)]; show (0 + (i : Int)) < 8; omega)
      have ez2g := at_get (by omega) ez2
      rw [← turned_map] at ez2
      have dk := fence_ok pz (i := i) (by omega) mz mz2 hsd
      refine ⟨_, rfl, p3, _, _, .str z2, rfl, rfl, SqL.of upd_same, ez2, _, rfl, _, rfl, _, _, rfl, rfl, _, rfl, small_le rfl, fun t ht => ?_⟩
      have P4 := Same.upd (o := .tup [.str z2, .str "sea", .str z, .int (4 + (0 + (i : Int))), .int 1, sv]) ht
      have PP := R0.trans (P1.trans (P2.trans (P3.trans P4)))
      have hl3 := PP _ _ hl'
      have lu := hi'.length
      refine ⟨l, us, .ref t, rfl, rfl, hl3, by omega, ?_⟩
      refine ⟨_, _, _, us ++ [.ref t], ds ++ [.tup [.str z2, .str "sea", .str z, .int (4 + (0 + (i : Int))), .int 1, sd]], rfl, (S.trans PP).over fl, ?_, upd_same, ?_, ?_, ?_, ?_, ?_⟩
      · rw [upd_ne npn]
        exact PP _ _ hn'
      · refine IsL.keep (KeepT.lst hl3) _ _ (hardL_of fun d m => ?_) (IsL.snoc ?_ (IsL.same PP _ _ hi'))
        · rcases List.mem_append.mp m with m | m
          · exact dyke_hard (af d m)
          · rw [List.mem_singleton.mp m]
            exact dyke_hard dk
        · exact ⟨t, _, rfl, upd_same, .str z2, _, rfl, rfl, .str "sea", _, rfl, rfl, .str z, _, rfl, rfl, .int _, _, rfl, rfl, .int 1, _, rfl, rfl, sv, _, rfl, hsv _, rfl⟩
      · rw [List.length_append, ln]
        rfl
      · intro d m
        rcases List.mem_append.mp m with m | m
        · exact af d m
        · rw [List.mem_singleton.mp m]
          exact dk
      · rw [List.map_append, en, List.take_add_one, ez2g]
        rfl
      · intro _
        obtain ⟨d0, m0, e0⟩ := fo (by omega)
        exact ⟨d0, List.mem_append.mpr (.inl m0), e0⟩

  · rintro σ H' ⟨v5, v6, v7, us, ds, rfl, S, hn', hl', hi', ln, af, en, fo⟩
    have nd : (ds.map nmOf).Nodup := by
      rw [en]
      exact (fences_nd k hk8).sublist (List.take_sublist _ _)
    exact ⟨_, rfl, q l us ds H' S hl' hi' ⟨by omega, by omega, af, nd⟩ (by omega) (fun d m => turned_mem (k := k) (List.mem_of_mem_take (i := (2 + n / 8 % 7).toNat) (by rw [← en]; exact List.mem_map.mpr ⟨d, m, rfl⟩))) (fo (by omega))⟩


def spLand (K : PySem.W.Frag) : Sp := sp1 fun x H Q => ∃ (a : Addr) (ns : List Int), x = .ref a ∧ SqL K H a (ns.map V.int) ∧ ns.length ≤ 63 ∧
  ∀ (t lf lg lu : Addr) (zs : List Str) (us : List V) (ds : List Dv) (H' : Hp), Same H H' → H' t = some (.tup [.ref lf, .ref lg, .ref lu]) → H' lf = some (.lst (zs.map V.str)) → H' lg = some (.lst (((ds.filter hasSill).map nmOf).map V.str)) → H' lu = some (.lst us) → IsL H' ds us → Plots zs → GoodD ("sea" :: zs) ds → (∀ d ∈ ds, nmOf d ∈ fences8) → (∃ d ∈ ds, hasSill d = true) → ds.length ≤ 8 → Q (.ref t) H'
theorem ok_l_land (T : Txt w K mg C) : Fc P w K mg base 3 "_law_land" ["_law_script"] (spLand K) := by
  have G_l_cell_at : Fc P w K mg base 1 "_law_cell_at" ["_law_script", "_law_k"] (spCell K) := ok_l_cell_at T
  have G_l_plots : Fc P w K mg base 1 "_law_plots" ["_law_cell"] spPlots := ok_l_plots T
  have G_l_fences : Fc P w K mg base 2 "_law_fences" ["_law_cell", "_law_fields"] spFences := ok_l_fences T
  refine T.d_l_land.fc sc_l_land len1 (fun f cdv A outer s H vs Q E hr h => ?_)
  obtain ⟨x, rfl, a, ns, rfl, hS, hl, q⟩ := h
  have big := big1000
  refine ⟨_, (@pss_cons _ _ _ _ _ (@ps_set _ _ (1) _ _ _ _ sc_l_land.nd rfl (Or.inl rfl) (@pe_c _ _ _ _ _ _ _ _ _ _ G_l_plots (hr.mono (by decide)) (@pa_cons _ _ _ _ _ (@pe_c _ _ _ _ _ _ _ _ _ _ G_l_cell_at (hr.mono (by decide)) (@pa_cons _ _ _ _ _ (pv 0) (@pa_cons _ _ _ _ _ pe_int pa_nil (by rfl)) (by rfl)) (by rfl) (by decide) (by rfl) (by rfl)) pa_nil (by rfl)) (by rfl) (by decide) (by rfl) (by rfl)) (by rfl) (by first | exact .inl rfl | exact .inr rfl | assumption)) (@pss_cons _ _ _ _ _ (@ps_set _ _ (2) _ _ _ _ sc_l_land.nd rfl (Or.inl rfl) (@pe_c _ _ _ _ _ _ _ _ _ _ G_l_fences (hr.mono (by decide)) (@pa_cons _ _ _ _ _ (@pe_c _ _ _ _ _ _ _ _ _ _ G_l_cell_at (hr.mono (by decide)) (@pa_cons _ _ _ _ _ (pv 0) (@pa_cons _ _ _ _ _ pe_int pa_nil (by rfl)) (by rfl)) (by rfl) (by decide) (by rfl) (by rfl)) (@pa_cons _ _ _ _ _ (pv 1) pa_nil (by rfl)) (by rfl)) (by rfl) (by decide) (by rfl) (by rfl)) (by rfl) (by first | exact .inl rfl | exact .inr rfl | assumption)) (@pss_one _ _ _ (@ps_ret _ _ _ _ (@pe_tup _ _ _ _ _ (@pa_cons _ _ _ _ _ (pv 1) (@pa_cons _ _ _ _ _ (@pe_comp _ _ _ _ _ _ _ _ _ _ _ ["_law_fence"] 1 [] rfl (@pi_list _ _ _ _ (pv 2)) (fun R => @pg_name _ _ (0) _ (show List.Nodup (["_law_fence"] : List Str) by decide +kernel) rfl (Or.inl rfl) (by first | exact .inl rfl | exact .inr rfl | assumption)) (@gkeep_name _ _ (by decide)) (fun R => @pifs_one _ _ _ (@pt_cmpR _ _ _ _ _ _ _ _ op_notN (@pe_ix _ _ _ _ _ _ _ (@ix_tupB _ (K) rfl) (pv 0) pe_int (fun _ _ => rfl)) pe_non (@nomark _ _ (by decide) (by decide)))) (fun R => (@pe_ix _ _ _ _ _ _ _ (@ix_tupB _ (K) rfl) (pv 0) pe_int (fun _ _ => rfl))) (by rfl) (by rfl) (by rfl) (by rfl) (by rfl) (by rfl) (by rfl) (by intro _; rfl)) (@pa_cons _ _ _ _ _ (pv 2) pa_nil (by rfl)) (by rfl)) (by rfl))))))), ?_⟩
  refine ⟨_, rfl, _, _, rfl, a, ns, 0, rfl, rfl, hS, hl, Int.le_refl _, _, rfl, _, rfl, fun lf zs H1 S1 hf pz => ?_⟩
  refine ⟨_, rfl, _, _, rfl, a, ns, 1, rfl, rfl, S1.seq hS, hl, by decide, _, rfl, _, _, rfl, _, lf, zs, rfl, rfl, hf, pz, fun lu us ds H2 S2 hu hi gd l8 sub fo => ?_⟩
  have l1 := hi.length
  refine ⟨_, rfl, _, rfl, lu, rfl, ⟨_, SqL.of hu⟩, ?_⟩
  refine comp_list (F := K) (xs := us) (by omega) (fun i ys H' => H2 = H' ∧ ys = (((ds.take i).filter hasSill).map nmOf).map V.str ∧ ys.length ≤ i) ⟨rfl, rfl, Nat.le_refl _⟩ ?_ ?_ ?_
  · rintro i ys H' hi' ⟨rfl, rfl, hy⟩
    exact ⟨SqL.of hu, hy⟩
  · rintro i xv ys H' K1 K2 hx ⟨rfl, rfl, hy⟩ k1 k2
    have hil : i < us.length := (List.getElem?_eq_some_iff.mp hx).1
    obtain ⟨d, ed⟩ : ∃ d, ds[i]? = some d := ⟨_, List.getElem?_eq_getElem (by omega)⟩
    obtain ⟨v, ev, iv⟩ := hi.get ed
    rw [hx] at ev
    cases ev
    obtain ⟨n, a', b', c, r, sl, rfl, _⟩ := dyke_shape (gd.all d (List.mem_of_getElem? ed))
    obtain ⟨t, vs, rfl, o, iss⟩ := dyke_row iv
    refine ⟨_, rfl, t, _, 5, vs, rfl, rfl, SqT.of o, atI_nat (j := 5) rfl, rfl, _, rfl, ?_⟩
    rw [isNon_is iss]
    have e0 : hasSill (.tup [.str n, .str a', .str b', .int c, .int r, sl]) = !isNon sl := rfl
    cases e : isNon sl with
    | true =>
      refine iteF (k2 _ ⟨rfl, ?_, by omega⟩)
      rw [List.take_add_one, ed]
      simp [e0, e]
    | false =>
      refine iteT ⟨_, rfl, t, _, 0, .str n, rfl, rfl, SqT.of o, atI_nat (j := 0) rfl, k1 _ _ ⟨rfl, ?_, by rw [List.length_append, List.length_singleton]; omega⟩⟩
      rw [List.take_add_one, ed]
      simp [e0, e, nmOf, firstS]
  · rintro ys H' ⟨rfl, rfl, hy⟩
    rw [List.take_of_length_le (by omega)]
    intro lg hlg
    have S3 := Same.upd (o := .lst (((ds.filter hasSill).map nmOf).map V.str)) hlg
    refine ⟨_, rfl, small_le rfl, fun t ht => ?_⟩
    have S4 := Same.upd (o := .tup [.ref lf, .ref lg, .ref lu]) ht
    exact q t lf lg lu zs us ds _ (S1.trans (S2.trans (S3.trans S4))) upd_same (S4 _ _ (S3 _ _ (S2 _ _ hf))) (S4 _ _ upd_same) (S4 _ _ (S3 _ _ hu)) (IsL.same (S3.trans S4) _ _ hi) pz gd sub fo l8
structure GoodC (zs : List Str) (d : Dv) : Prop where
  ok : isCond zs d = true
  sm : small d = true
  fl : flatTo 27 d = true
theorem plot_small {z : Str} (h : z ∈ plots8) : z.length ≤ 1000 := by
  have : ∀ z ∈ plots8, z.length ≤ 8 := by decide +kernel
  have := this z h
  omega
def spCondition (_ : Unit) : Sp := sp2 fun x y H Q => ∃ (n : Int) (b : Addr) (zs : List Str), x = .int n ∧ y = .ref b ∧ H b = some (.lst (zs.map V.str)) ∧ Plots zs ∧ ∀ (v : V) (d : Dv) (H' : Hp), Same H H' → Is H' d v → GoodC zs d → Q v H'
theorem c_above {zs : List Str} {a : Str} {h : Int} (ha : oneOf ["above", "below"] (.str a) = true) (sa : a.length ≤ 1000) (h0 : -1000000 ≤ h) (h1 : h ≤ 1000000) : GoodC zs (.tup [.str a, .int h]) := by
  refine ⟨?_, ?_, rfl⟩
  · show (if oneOf ["above", "below"] (.str a) then isHeight (.int h) else _) = true
    rw [ha]
    exact hgt_of h0 h1
  · show (decide (2 ≤ 1000) && (decide (a.length ≤ 1000) && (true && true))) = true
    rw [decide_eq_true sa]
    rfl
theorem c_wet {zs : List Str} {a z : Str} (hn : oneOf ["above", "below"] (.str a) = false) (ha : oneOf ["wet", "dry"] (.str a) = true) (sa : a.length ≤ 1000) (mz : z ∈ zs) (sz : z.length ≤ 1000) : GoodC zs (.tup [.str a, .str z]) := by
  refine ⟨?_, ?_, rfl⟩
  · show (if oneOf ["above", "below"] (.str a) then isHeight (.str z) else oneOf ["wet", "dry"] (.str a) && oneOf zs (.str z)) = true
    rw [hn, ha]
    exact decide_eq_true mz
  · show (decide (2 ≤ 1000) && (decide (a.length ≤ 1000) && (decide (z.length ≤ 1000) && true))) = true
    rw [decide_eq_true sa, decide_eq_true sz]
    rfl
theorem c_day {zs : List Str} {n m : Int} (h0 : 0 ≤ n) (h1 : n < m) (h2 : m ≤ 100) : GoodC zs (.tup [.str "day", .int n, .int m]) := by
  refine ⟨?_, rfl, rfl⟩
  show (oneOf ["day"] (.str "day") && ((decide (1 ≤ m) && decide (m ≤ 100)) && (decide (0 ≤ n) && decide (n < m)))) = true
  rw [decide_eq_true h0, decide_eq_true h1, decide_eq_true h2, decide_eq_true (by omega : 1 ≤ m)]
  rfl
theorem ok_l_condition (T : Txt w K mg C) : Fc P w K mg base 2 "_law_condition" ["_law_number", "_law_fields"] (spCondition ()) := by
  have G_l_height : Fc P w K mg base 1 "_law_height" ["_law_number"] spH := ok_l_height T
  refine T.d_l_condition.fc sc_l_condition len2 (fun f cdv A outer s H vs Q E hr h => ?_)
  obtain ⟨x, y, rfl, n, b, zs, rfl, rfl, hb, pz, q⟩ := h
  have lz := pz.l1
  have big := big1000
  refine ⟨_, (@pss_cons _ _ _ _ _ (@ps_set _ _ (2) _ _ _ _ sc_l_condition.nd rfl (Or.inl rfl) (@pe_op _ _ _ _ _ _ _ _ op_mod (pv 0) pe_int) (by rfl) (by first | exact .inl rfl | exact .inr rfl | assumption)) (@pss_cons _ _ _ _ _ (@ps_set _ _ (3) _ _ _ _ sc_l_condition.nd rfl (Or.inl rfl) (@pe_op _ _ _ _ _ _ _ _ op_fdivB (pv 0) pe_int) (by rfl) (by first | exact .inl rfl | exact .inr rfl | assumption)) (@pss_cons _ _ _ _ _ (@ps_if _ _ _ _ _ _ _ _ (@pt_cmpR _ _ _ _ _ _ _ _ op_eq (pv 2) pe_int (@nomark _ _ (by decide) (by decide))) (@pss_one _ _ _ (@ps_ret _ _ _ _ (@pe_tup _ _ _ _ _ (@pa_cons _ _ _ _ _ pe_str pa_nil (by rfl))))) pss_nil) (@pss_cons _ _ _ _ _ (@ps_if _ _ _ _ _ _ _ _ (@pt_cmpR _ _ _ _ _ _ _ _ op_lt (pv 2) pe_int (@nomark _ _ (by decide) (by decide))) (@pss_one _ _ _ (@ps_ret _ _ _ _ (@pe_tup _ _ _ _ _ (@pa_cons _ _ _ _ _ (@pe_ix _ _ _ _ _ _ _ (@ix_listB _ (K) rfl) (@pe_lst _ _ _ _ (@pa_cons _ _ _ _ _ pe_str (@pa_cons _ _ _ _ _ pe_str pa_nil (by rfl)) (by rfl))) (@pe_op _ _ _ _ _ _ _ _ op_mod (pv 3) pe_int) (fun _ _ => rfl)) (@pa_cons _ _ _ _ _ (@pe_c _ _ _ _ _ _ _ _ _ _ G_l_height (hr.mono (by decide)) (@pa_cons _ _ _ _ _ (@pe_op _ _ _ _ _ _ _ _ op_fdivB (pv 3) pe_int) pa_nil (by rfl)) (by rfl) (by decide) (by rfl) (by rfl)) pa_nil (by rfl)) (by rfl))))) pss_nil) (@pss_cons _ _ _ _ _ (@ps_if _ _ _ _ _ _ _ _ (@pt_cmpR _ _ _ _ _ _ _ _ op_lt (pv 2) pe_int (@nomark _ _ (by decide) (by decide))) (@pss_one _ _ _ (@ps_ret _ _ _ _ (@pe_tup _ _ _ _ _ (@pa_cons _ _ _ _ _ (@pe_ix _ _ _ _ _ _ _ (@ix_listB _ (K) rfl) (@pe_lst _ _ _ _ (@pa_cons _ _ _ _ _ pe_str (@pa_cons _ _ _ _ _ pe_str pa_nil (by rfl)) (by rfl))) (@pe_op _ _ _ _ _ _ _ _ op_mod (pv 3) pe_int) (fun _ _ => rfl)) (@pa_cons _ _ _ _ _ (@pe_ix _ _ _ _ _ _ _ (@ix_listB _ (K) rfl) (pv 1) (@pe_op _ _ _ _ _ _ _ _ op_mod (@pe_op _ _ _ _ _ _ _ _ op_fdivB (pv 3) pe_int) (@pe_callB _ _ _ _ _ _ _ _ _ (@call_len_seqB _ (K) rfl) rfl T.n_len boot_len' (@pa_cons _ _ _ _ _ (pv 1) pa_nil (by rfl)) (by decide) (by decide) (by rfl) (by rfl))) (fun _ _ => rfl)) pa_nil (by rfl)) (by rfl))))) pss_nil) (@pss_cons _ _ _ _ _ (@ps_set _ _ (4) _ _ _ _ sc_l_condition.nd rfl (Or.inl rfl) (@pe_ix _ _ _ _ _ _ _ (@ix_listB _ (K) rfl) (@pe_lst _ _ _ _ (@pa_cons _ _ _ _ _ pe_int (@pa_cons _ _ _ _ _ pe_int (@pa_cons _ _ _ _ _ pe_int (@pa_cons _ _ _ _ _ pe_int (@pa_cons _ _ _ _ _ pe_int (@pa_cons _ _ _ _ _ (@pe_op _ _ _ _ _ _ _ _ op_add pe_int (@pe_op _ _ _ _ _ _ _ _ op_mod (@pe_op _ _ _ _ _ _ _ _ op_fdivB (pv 3) pe_int) pe_int)) pa_nil (by rfl)) (by rfl)) (by rfl)) (by rfl)) (by rfl)) (by rfl))) (@pe_op _ _ _ _ _ _ _ _ op_mod (pv 3) pe_int) (fun _ _ => rfl)) (by rfl) (by first | exact .inl rfl | exact .inr rfl | assumption)) (@pss_one _ _ _ (@ps_ret _ _ _ _ (@pe_tup _ _ _ _ _ (@pa_cons _ _ _ _ _ pe_str (@pa_cons _ _ _ _ _ (@pe_op _ _ _ _ _ _ _ _ op_mod (@pe_op _ _ _ _ _ _ _ _ op_fdivB (pv 3) pe_int) (pv 4)) (@pa_cons _ _ _ _ _ (pv 4) pa_nil (by rfl)) (by rfl)) (by rfl))))))))))), ?_⟩
  refine ⟨_, rfl, _, _, rfl, rfl, (posI rfl), ?_⟩
  refine ⟨_, rfl, _, _, rfl, rfl, ⟨by decide, by decide⟩, ?_⟩
  dsimp only
  generalize n / 8 = m
  have two : ∀ (a c : Str) (i : Int), ∃ v, atI ([.str a, .str c] : List V) (i % 2) = some v ∧ (v = .str a ∨ v = .str c) := fun a c i => by
    obtain ⟨v, mv, ev⟩ := at_in (xs := [.str a, .str c]) (i := i % 2) (Int.emod_nonneg _ (by decide)) (Int.emod_lt_of_pos _ (by decide))
    simp only [List.mem_cons, List.not_mem_nil, or_false] at mv
    exact ⟨v, ev, mv⟩
  refine ⟨_, rfl, rfl, _, rfl, ?_⟩
  rw [dec_int]
  refine ite2 (fun h1 => ?_) (fun h1 => ?_)
  · refine ⟨small_le rfl, fun t ht => ?_⟩
    exact q _ (.tup [.str "always"]) _ (Same.upd ht) ⟨t, _, rfl, upd_same, _, _, rfl, rfl, rfl⟩ ⟨rfl, rfl, rfl⟩
  refine ⟨_, rfl, _, _, rfl, rfl, _, rfl, ?_⟩
  refine ite2 (fun h2 => ?_) (fun h2 => ?_)
  · refine ⟨small_le rfl, fun p hp => ?_⟩
    have S1 := Same.upd (o := .lst [.str "above", .str "below"]) hp
    obtain ⟨v, ev, hv⟩ := two "above" "below" m
    refine ⟨_, rfl, _, _, rfl, rfl, (posI rfl), p, _, _, v, rfl, rfl, SqL.of upd_same, ev, ?_⟩
    refine ⟨_, rfl, _, _, rfl, rfl, ⟨by decide, by decide⟩, _, rfl, _, rfl, fun hh h0 h1' => ⟨small_le rfl, fun t ht => ?_⟩⟩
    rcases hv with rfl | rfl
    · exact q _ (.tup [.str "above", .int hh]) _ (S1.trans (Same.upd ht)) ⟨t, _, rfl, upd_same, _, _, rfl, rfl, _, _, rfl, rfl, rfl⟩ (c_above (by decide +kernel) (by decide +kernel) h0 h1')
    · exact q _ (.tup [.str "below", .int hh]) _ (S1.trans (Same.upd ht)) ⟨t, _, rfl, upd_same, _, _, rfl, rfl, _, _, rfl, rfl, rfl⟩ (c_above (by decide +kernel) (by decide +kernel) h0 h1')
  refine ⟨_, rfl, _, _, rfl, rfl, _, rfl, ?_⟩
  refine ite2 (fun h3 => ?_) (fun h3 => ?_)
  · refine ⟨small_le rfl, fun p hp => ?_⟩
    have S1 := Same.upd (o := .lst [.str "wet", .str "dry"]) hp
    obtain ⟨v, ev, hv⟩ := two "wet" "dry" m
    refine ⟨_, rfl, _, _, rfl, rfl, (posI rfl), p, _, _, v, rfl, rfl, SqL.of upd_same, ev, ?_⟩
    have pg : (0 : Int) < (((zs.map V.str).length : Nat) : Int) := by rw [List.length_map]; omega
    obtain ⟨z, mz, ez⟩ := at_str (zs := zs) (i := m / 2 % (((zs.map V.str).length : Nat) : Int)) (Int.emod_nonneg _ (by omega)) (by have := Int.emod_lt_of_pos (m / 2) pg; rw [List.length_map] at *; exact this)
    refine ⟨_, rfl, _, rfl, _, _, rfl, rfl, ⟨by decide, by decide⟩, _, rfl, b, _, rfl, .inl (SqL.of (S1 _ _ hb)), _, _, rfl, rfl, pg, b, _, _, .str z, rfl, rfl, SqL.of (S1 _ _ hb), ez, small_le rfl, fun t ht => ?_⟩
    rcases hv with rfl | rfl
    · exact q _ (.tup [.str "wet", .str z]) _ (S1.trans (Same.upd ht)) ⟨t, _, rfl, upd_same, _, _, rfl, rfl, _, _, rfl, rfl, rfl⟩ (c_wet (by decide +kernel) (by decide +kernel) (by decide +kernel) mz (plot_small (pz.sub _ mz)))
    · exact q _ (.tup [.str "dry", .str z]) _ (S1.trans (Same.upd ht)) ⟨t, _, rfl, upd_same, _, _, rfl, rfl, _, _, rfl, rfl, rfl⟩ (c_wet (by decide +kernel) (by decide +kernel) (by decide +kernel) mz (plot_small (pz.sub _ mz)))
  refine ⟨_, rfl, _, _, rfl, rfl, ⟨by decide, by decide⟩, _, _, rfl, rfl, (posI rfl), _, _, rfl, rfl, small_le rfl, fun p hp => ?_⟩
  have S1 := Same.upd (o := .lst [.int 1, .int 2, .int 3, .int 7, .int 100, .int (1 + m / 5 % 100)]) hp
  obtain ⟨v, mv, ev⟩ := at_in (xs := [.int 1, .int 2, .int 3, .int 7, .int 100, .int (1 + m / 5 % 100)]) (i := m % 6) (Int.emod_nonneg _ (by decide)) (Int.emod_lt_of_pos _ (by decide))
  obtain ⟨e, rfl, pe, pe2⟩ : ∃ e : Int, v = .int e ∧ 0 < e ∧ e ≤ 100 := by
    simp only [List.mem_cons, List.not_mem_nil, or_false] at mv
    have := Int.emod_nonneg (m / 5) (show (100 : Int) ≠ 0 by decide)
    have := Int.emod_lt_of_pos (m / 5) (show (0 : Int) < 100 by decide)
    rcases mv with rfl | rfl | rfl | rfl | rfl | rfl
    all_goals exact ⟨_, rfl, by omega, by omega⟩
  refine ⟨_, rfl, _, _, rfl, rfl, (posI rfl), p, _, _, .int e, rfl, rfl, SqL.of upd_same, ev, ?_⟩
  refine ⟨_, rfl, _, _, rfl, rfl, ⟨by decide, by decide⟩, _, rfl, _, _, rfl, rfl, pe, _, rfl, small_le rfl, fun t ht => ?_⟩
  exact q _ (.tup [.str "day", .int (m / 700 % e), .int e]) _ (S1.trans (Same.upd ht)) ⟨t, _, rfl, upd_same, _, _, rfl, rfl, _, _, rfl, rfl, _, _, rfl, rfl, rfl⟩ (c_day (Int.emod_nonneg _ (by omega)) (Int.emod_lt_of_pos _ pe) pe2)

structure GoodX (gs zs : List Str) (d : Dv) : Prop where
  ok : isDec gs zs d = true
  sm : small d = true
  fl : flatTo 29 d = true
  sh : ∃ (a g : Str) (cs : List Dv), d = .tup [.str a, .str g, .lst cs] ∧ oneOf ["open", "shut"] (.str a) = true ∧ g ∈ gs ∧ 1 ≤ cs.length ∧ cs.length ≤ 6 ∧ (∀ c ∈ cs, GoodC zs c) ∧ a.length ≤ 1000 ∧ g.length ≤ 1000
theorem goodX_mk {gs zs : List Str} {a g : Str} {cs : List Dv} (ha : oneOf ["open", "shut"] (.str a) = true) (sa : a.length ≤ 1000) (hg : g ∈ gs) (sg : g.length ≤ 1000) (l1 : 1 ≤ cs.length) (l6 : cs.length ≤ 6) (hc : ∀ c ∈ cs, GoodC zs c) : GoodX gs zs (.tup [.str a, .str g, .lst cs]) := by
  refine ⟨?_, ?_, ?_, a, g, cs, rfl, ha, hg, l1, l6, hc, sa, sg⟩
  · show ((oneOf ["open", "shut"] (.str a) && oneOf gs (.str g)) && ((decide (1 ≤ cs.length) && decide ((cs.length : Int) ≤ 6)) && cs.all (isCond zs))) = true
    rw [ha, show oneOf gs (.str g) = true from decide_eq_true hg, decide_eq_true l1, decide_eq_true (by omega : (cs.length : Int) ≤ 6), List.all_eq_true.mpr fun c m => (hc c m).ok]
    rfl
  · show (decide (3 ≤ 1000) && (decide (a.length ≤ 1000) && (decide (g.length ≤ 1000) && ((decide (cs.length ≤ 1000) && smallL cs) && true)))) = true
    rw [decide_eq_true sa, decide_eq_true sg, decide_eq_true (by omega : cs.length ≤ 1000), smallL_of fun c m => (hc c m).sm]
    rfl
  · have h : flatToL 27 cs = true := flatToL_of fun c m => (hc c m).fl
    show (flatTo 28 (.str a) && (flatTo 28 (.str g) && (flatTo 28 (.lst cs) && true))) = true
    have h2 : flatTo 28 (.lst cs) = true := by simpa [flatTo] using h
    rw [h2]
    rfl
def sp4 (f : V → V → V → V → Hp → VK → Prop) : Sp := fun vs H Q _ => ∃ x y z u, vs = [x, y, z, u] ∧ f x y z u H Q
theorem len4 {f : V → V → V → V → Hp → VK → Prop} : ∀ vs H Q E, sp4 f vs H Q E → vs.length = 4 := fun vs H Q E ⟨x, y, z, u, e, _⟩ => by rw [e]; rfl
def spDecree : Sp := sp4 fun x y z u H Q => ∃ (n k : Int) (b g : Addr) (zs gs : List Str), x = .int n ∧ y = .int k ∧ 0 ≤ k ∧ k ≤ 64 ∧ z = .ref b ∧ H b = some (.lst (zs.map V.str)) ∧ Plots zs ∧ u = .ref g ∧ H g = some (.lst (gs.map V.str)) ∧ 1 ≤ gs.length ∧ (∀ g ∈ gs, g.length ≤ 1000) ∧
  ∀ (v : V) (d : Dv) (H' : Hp), Same H H' → Is H' d v → GoodX gs zs d → Q v H'
theorem ok_l_decree (T : Txt w K mg C) : Fc P w K mg base 3 "_law_decree" ["_law_cell", "_law_k", "_law_fields", "_law_gates"] spDecree := by
  have G_l_mixed : Fc P w K mg base 1 "_law_mixed" ["_law_cell", "_law_k"] spMixed := ok_l_mixed T
  have G_l_condition : Fc P w K mg base 2 "_law_condition" ["_law_number", "_law_fields"] (spCondition ()) := ok_l_condition T
  refine T.d_l_decree.fc sc_l_decree len4 (fun f cdv A outer s H vs Q E hr h => ?_)
  obtain ⟨x, y, z, u, rfl, n, k, b, g, zs, gs, rfl, rfl, k0, k1, rfl, hb, pz, rfl, hg, lg, sg, q⟩ := h
  have lz := pz.l1
  have big := big1000
  refine ⟨_, (@pss_cons _ _ _ _ _ (@ps_set _ _ (4) _ _ _ _ sc_l_decree.nd rfl (Or.inl rfl) (@pe_c _ _ _ _ _ _ _ _ _ _ G_l_mixed (hr.mono (by decide)) (@pa_cons _ _ _ _ _ (pv 0) (@pa_cons _ _ _ _ _ (@pe_op _ _ _ _ _ _ _ _ op_mul pe_int (pv 1)) pa_nil (by rfl)) (by rfl)) (by rfl) (by decide) (by rfl) (by rfl)) (by rfl) (by first | exact .inl rfl | exact .inr rfl | assumption)) (@pss_cons _ _ _ _ _ (@ps_set _ _ (5) _ _ _ _ sc_l_decree.nd rfl (Or.inl rfl) (@pe_op _ _ _ _ _ _ _ _ op_add pe_int (@pe_op _ _ _ _ _ _ _ _ op_mod (@pe_op _ _ _ _ _ _ _ _ op_fdivB (pv 4) pe_int) (@pe_ix _ _ _ _ _ _ _ (@ix_listB _ (K) rfl) (@pe_lst _ _ _ _ (@pa_cons _ _ _ _ _ pe_int (@pa_cons _ _ _ _ _ pe_int (@pa_cons _ _ _ _ _ pe_int pa_nil (by rfl)) (by rfl)) (by rfl))) (@pe_op _ _ _ _ _ _ _ _ op_mod (pv 4) pe_int) (fun _ _ => rfl)))) (by rfl) (by first | exact .inl rfl | exact .inr rfl | assumption)) (@pss_cons _ _ _ _ _ (@ps_setComp _ (6) _ _ _ _ _ _ _ _ _ _ _ _ _ sc_l_decree.nd rfl ["_law_j", "_law_cell", "_law_k", "_law_fields"] 1 [0, 1, 2] rfl (@pi_range1 _ _ _ _ _ _ rfl T.n_range (@pa_cons _ _ _ _ _ (pv 5) pa_nil (by rfl)) (by rfl)) (fun R => @pg_name _ _ (0) _ (show List.Nodup (["_law_j", "_law_cell", "_law_k", "_law_fields"] : List Str) by decide +kernel) rfl (Or.inl rfl) (by first | exact .inl rfl | exact .inr rfl | assumption)) (@gkeep_name _ _ (by decide)) (fun R => pifs_nil) (fun R => (@pe_c _ _ _ _ _ _ _ _ _ _ G_l_condition (hr.mono (by decide)) (@pa_cons _ _ _ _ _ (@pe_c _ _ _ _ _ _ _ _ _ _ G_l_mixed (hr.mono (by decide)) (@pa_cons _ _ _ _ _ (pv 1) (@pa_cons _ _ _ _ _ (@pe_op _ _ _ _ _ _ _ _ op_add (@pe_op _ _ _ _ _ _ _ _ op_add (@pe_op _ _ _ _ _ _ _ _ op_mul pe_int (pv 2)) pe_int) (pv 0)) pa_nil (by rfl)) (by rfl)) (by rfl) (by decide) (by rfl) (by rfl)) (@pa_cons _ _ _ _ _ (pv 3) pa_nil (by rfl)) (by rfl)) (by rfl) (by decide) (by rfl) (by rfl))) (by exact Or.inl rfl) (by first | exact .inl rfl | exact .inr rfl | assumption) (by rfl) (by rfl) (by rfl) (by rfl) (by rfl) (by rfl) (by rfl) (by rfl) (by intro _; rfl)) (@pss_one _ _ _ (@ps_ret _ _ _ _ (@pe_tup _ _ _ _ _ (@pa_cons _ _ _ _ _ (@pe_ix _ _ _ _ _ _ _ (@ix_listB _ (K) rfl) (@pe_lst _ _ _ _ (@pa_cons _ _ _ _ _ pe_str (@pa_cons _ _ _ _ _ pe_str pa_nil (by rfl)) (by rfl))) (@pe_op _ _ _ _ _ _ _ _ op_mod (pv 4) pe_int) (fun _ _ => rfl)) (@pa_cons _ _ _ _ _ (@pe_ix _ _ _ _ _ _ _ (@ix_listB _ (K) rfl) (pv 3) (@pe_op _ _ _ _ _ _ _ _ op_mod (@pe_op _ _ _ _ _ _ _ _ op_fdivB (pv 4) pe_int) (@pe_callB _ _ _ _ _ _ _ _ _ (@call_len_seqB _ (K) rfl) rfl T.n_len boot_len' (@pa_cons _ _ _ _ _ (pv 3) pa_nil (by rfl)) (by decide) (by decide) (by rfl) (by rfl))) (fun _ _ => rfl)) (@pa_cons _ _ _ _ _ (pv 6) pa_nil (by rfl)) (by rfl)) (by rfl)))))))), ?_⟩
  refine ⟨_, rfl, _, rfl, _, _, rfl, rfl, .inl ⟨by decide, by decide⟩, _, _, rfl, n, _, rfl, rfl, by omega, by omega, fun m m0 m1 => ?_⟩
  refine ⟨_, rfl, _, _, rfl, rfl, ⟨by decide, by decide⟩, small_le rfl, fun p hp => ?_⟩
  have S1 := Same.upd (o := .lst [.int 1, .int 3, .int 6]) hp
  obtain ⟨v, mv, ev⟩ := at_in (xs := [.int 1, .int 3, .int 6]) (i := m % 3) (Int.emod_nonneg _ (by decide)) (Int.emod_lt_of_pos _ (by decide))
  obtain ⟨e, rfl, pe, pe6⟩ : ∃ e : Int, v = .int e ∧ 0 < e ∧ e ≤ 6 := by
    simp only [List.mem_cons, List.not_mem_nil, or_false] at mv
    rcases mv with rfl | rfl | rfl
    all_goals exact ⟨_, rfl, by omega, by omega⟩
  refine ⟨_, rfl, _, _, rfl, rfl, (posI rfl), p, _, _, .int e, rfl, rfl, SqL.of upd_same, ev, _, _, rfl, rfl, pe, _, _, rfl, rfl, ?_⟩
  have q0 := Int.emod_nonneg (m / 100) (show e ≠ 0 by omega)
  have q1 := Int.emod_lt_of_pos (m / 100) pe
  dsimp only
  generalize m / 100 % e = r at q0 q1
  refine ⟨_, rfl, _, rfl, by omega, by omega, ?_⟩
  generalize upd H p (.lst [.int 1, .int 3, .int 6]) = H1 at S1
  refine comp_range (lo := 0) (n := (1 + r).toNat) (by omega) (fun i ys H' => Same H1 H' ∧ ∃ cs : List Dv, IsL H' cs ys ∧ (∀ c ∈ cs, GoodC zs c) ∧ cs.length = i) ⟨Same.refl _, [], rfl, (fun c h => by cases h), rfl⟩ ?_ ?_ ?_
  · rintro i ys H' ⟨S, cs, ic, _, lc⟩
    have := ic.length
    omega
  · rintro i ys H' K1 K2 hi ⟨S, cs, ic, oc, lc⟩ k1' k2'
    refine ⟨_, rfl, _, rfl, _, _, rfl, rfl, .inl ⟨by decide, by decide⟩, _, _, rfl, rfl, _, rfl, _, _, rfl, rfl, _, _, rfl, n, _, rfl, rfl, by omega, by omega, fun m2 m20 m21 => ?_⟩
    refine ⟨_, rfl, _, _, rfl, m2, b, zs, rfl, rfl, (S1.trans S) _ _ hb, pz, fun v c H5 S5 iv okc => k1' _ _ ⟨S.trans S5, cs ++ [c], ?_, ?_, ?_⟩⟩
    · exact IsL.snoc iv (IsL.same S5 _ _ ic)
    · intro c' mc
      rcases List.mem_append.mp mc with mc | mc
      · exact oc c' mc
      · rw [List.mem_singleton.mp mc]
        exact okc
    · rw [List.length_append, lc]
      rfl
  · rintro ys H' ⟨S, cs, ic, oc, lc⟩
    intro la hla
    have S2 := Same.upd (o := .lst ys) hla
    have T2 := S1.trans (S.trans S2)
    refine ⟨small_le rfl, fun p1 hp1 => ?_⟩
    have S3 := Same.upd (o := .lst [.str "open", .str "shut"]) hp1
    obtain ⟨v1, mv1, ev1⟩ := at_in (xs := [.str "open", .str "shut"]) (i := m % 2) (Int.emod_nonneg _ (by decide)) (Int.emod_lt_of_pos _ (by decide))
    obtain ⟨a1, rfl, oa1, sa1⟩ : ∃ a1 : Str, v1 = .str a1 ∧ oneOf ["open", "shut"] (.str a1) = true ∧ a1.length ≤ 1000 := by
      simp only [List.mem_cons, List.not_mem_nil, or_false] at mv1
      rcases mv1 with rfl | rfl
      all_goals exact ⟨_, rfl, by decide +kernel, by decide +kernel⟩
    have pg : (0 : Int) < (((gs.map V.str).length : Nat) : Int) := by rw [List.length_map]; omega
    obtain ⟨z, mz, ez⟩ := at_str (zs := gs) (i := m / 2 % (((gs.map V.str).length : Nat) : Int)) (Int.emod_nonneg _ (by omega)) (by have := Int.emod_lt_of_pos (m / 2) pg; rw [List.length_map] at *; exact this)
    have hg3 := (T2.trans S3) _ _ hg
    refine ⟨_, rfl, _, _, rfl, rfl, (posI rfl), p1, _, _, .str a1, rfl, rfl, SqL.of upd_same, ev1, _, rfl, _, rfl, _, _, rfl, rfl, ⟨by decide, by decide⟩, _, rfl, g, _, rfl, .inl (SqL.of hg3), _, _, rfl, rfl, pg, g, _, _, .str z, rfl, rfl, SqL.of hg3, ez, _, rfl, small_le rfl, fun t ht => ?_⟩
    have S4 := Same.upd (o := .tup [.str a1, .str z, .ref la]) ht
    exact q _ (.tup [.str a1, .str z, .lst cs]) _ (T2.trans (S3.trans S4)) ⟨t, _, rfl, upd_same, _, _, rfl, rfl, _, _, rfl, rfl, _, _, rfl, ⟨la, ys, rfl, (S3.trans S4) _ _ upd_same, IsL.same (S2.trans (S3.trans S4)) _ _ ic⟩, rfl⟩ (goodX_mk oa1 sa1 mz (sg _ mz) (by omega) (by omega) oc)

open Mt13
def spDue (K : PySem.W.Frag) : Sp := sp1 fun x H Q => Pl K H x ∧ (∀ z, x = .str z → z.length ≤ 100) ∧ Q (dueV x) H
theorem starts_zero (x : Str) : (decide (0 + ("0" : Str).length ≤ x.length) && Builtin.Str.subAt x "0" 0) = (x.cps.toList.head? == some 48) := by
  rw [zero_is]; exact starts_one x 48
theorem starts_dash (x : Str) : (decide (0 + ("-" : Str).length ≤ x.length) && Builtin.Str.subAt x "-" 0) = neg x := by
  rw [dash_is]; exact starts_one x 45
def spDue2 (K : PySem.W.Frag) : Sp := sp2 fun x y H Q => y = .int 7 ∧ Pl K H x ∧ (∀ z, x = .str z → z.length ≤ 100) ∧ Q (dueV x) H
theorem ok_p_number_within (T : Txt w K mg C) : Fc P w K mg base 1 "number_within" ["word", "most"] (spDue2 K) := by
  refine T.d_p_number_within.fcD sc_p_number_within len2 (fun f cdv A outer s H vs Q E hr h => ?_)
  obtain ⟨x, y, rfl, rfl, hp, hz, q⟩ := h
  obtain ⟨t, ty, e1, e2, e3⟩ := hp.ty
  have big := big1000
  obtain ⟨u2, pu2, hu2⟩ : ∃ u, PSs (cxOf CX0 P w K mg base ["word", "most", "figures"] "number_within" (defScope s_p_number_within) f cdv A outer s H E).nox ((defBody s_p_number_within).drop 2) u ∧
      ∀ (z sz : Str), x = .str z → sz.cps.toList = figs z → u { nx := fun _ H' => dropQ Q .non H', rt := dropQ Q } [some (.str z), some (.int 7), some (.str sz)] H := by
    refine ⟨_, (@pss_cons _ _ _ _ _ (@ps_if _ _ _ _ _ _ _ _ (@PW.pt _ _ _ (@pw_or _ _ _ _ _ _ _ (@pt_not _ _ _ _ (@pt_chain _ _ _ _ _ _ _ _ _ _ _ _ op_le op_le pe_int (@pe_callB _ _ _ _ _ _ _ _ _ call_len_str rfl T.n_len boot_len' (@pa_cons _ _ _ _ _ (pv 2) pa_nil (by rfl)) (by decide) (by decide) (by rfl) (by rfl)) (pv 1) (by with_unfolding_all rfl))) (@pw_or1 _ _ _ _ (@pt_not _ _ _ _ (@pt_val _ _ _ (@pe_callB _ _ _ _ _ _ _ _ _ (@call_all _ rfl) rfl T.n_all boot_all' (@pa_cons _ _ _ _ _ (@pe_comp _ _ _ _ _ _ _ _ _ _ _ ["sign"] 1 [] rfl (@pi_str _ _ _ _ (pv 2)) (fun R => @pg_name _ _ (0) _ (show List.Nodup (["sign"] : List Str) by decide +kernel) rfl (Or.inl rfl) (by first | exact .inl rfl | exact .inr rfl | assumption)) (@gkeep_name _ _ (by decide)) (fun R => pifs_nil) (fun R => (@pe_cmpR _ _ _ _ _ _ _ _ op_in_str (pv 0) (@pe_g _ _ _ _ T.g_FIGURES (by rfl) (by decide)) (by with_unfolding_all rfl))) (by rfl) (by rfl) (by rfl) (by rfl) (by rfl) (by rfl) (by rfl) (by intro _; rfl)) pa_nil (by rfl)) (by decide) (by decide) (by rfl) (by rfl)) (by intro _; rfl)))))) (@pss_one _ _ _ (@ps_ret _ _ _ _ pe_non)) pss_nil) (@pss_cons _ _ _ _ _ (@ps_if _ _ _ _ _ _ _ _ (@PW.pt _ _ _ (@pw_and _ _ _ _ _ _ _ (@pt_val _ _ _ (@pe_bm _ _ _ _ _ _ _ _ _ _ _ _ PySem.F.plainAttrs_str PySem.F.slot_str_startswith PySem.F.type_str_startswith mt_startswith (pv 2) (@pa_cons _ _ _ _ _ pe_str pa_nil (by rfl)) (by rfl) (by rfl) (by rfl) (by rfl) (by rfl)) (by intro _; rfl)) (@pw_and1 _ _ _ _ (@pt_cmpR _ _ _ _ _ _ _ _ op_ne (pv 0) pe_str (@nomark _ _ (by decide) (by decide)))))) (@pss_one _ _ _ (@ps_ret _ _ _ _ pe_non)) pss_nil) (@pss_one _ _ _ (@ps_ret _ _ _ _ (@pe_callTy _ _ _ _ _ _ _ _ _ call_int_text rfl T.n_int boot_int' (@pa_cons _ _ _ _ _ (pv 0) pa_nil (by rfl)) (by decide) (by decide) (by rfl) (by rfl)))))), ?_⟩
    rintro z sz rfl hsz
    have hz := hz z rfl
    have hl := size_len hsz
    have hl2 := figs_le z
    have hss : sz.length ≤ sizeLine := by omega
    have q : Q (match dueN z with | some n => .int n | none => .non) H := q
    refine ⟨_, rfl, sz, rfl, hss, _, _, rfl, rfl, _, rfl, ?_⟩
    refine ite2 (fun h1 => ?_) (fun h1 => ?_)
    · have h1' : ¬ (figs z).length < 1 := by have := of_decide_eq_true h1; omega
      refine ⟨_, rfl, _, _, rfl, rfl, _, rfl, ?_⟩
      cases h2 : decide ((sz.length : Int) ≤ 7) with
      | false =>
        have h2' : 7 < (figs z).length := by
          have := of_decide_eq_false h2
          omega
        have e : dueN z = none := by unfold dueN; rw [if_neg h1', if_pos h2']
        rw [e] at q
        exact iteT (dropQ.of (.refl _) q)
      | true =>
        have h2' : ¬ 7 < (figs z).length := by
          have := of_decide_eq_true h2
          omega
        refine iteF ?_
        refine ⟨_, rfl, sz, rfl, ?_⟩
        refine comp_str (Nat.le_trans (show sz.length ≤ sizeLine from hss) (Nat.le_refl _)) (fun i ys H' => H' = H ∧ ys = (sz.cps.toList.take i).map fun c => V.bl (dig c)) ⟨rfl, rfl⟩ ?_ ?_ ?_
        · rintro i ys H' ⟨_, rfl⟩
          rw [List.length_map, List.length_take]
          omega
        · rintro i c ys H' K1 K2 hc ⟨rfl, rfl⟩ k1 k2
          refine ⟨_, rfl, _, _, rfl, rfl, k1 _ _ ⟨rfl, ?_⟩⟩
          have hc' : sz.cps.toList[i]? = some c := by simpa using hc
          rw [List.take_add_one, hc', in_digits]
          simp
        · rintro ys H' ⟨rfl, rfl⟩
          intro p hp'
          refine ⟨p, (figs z).map dig, rfl, SqL.of ?_, _, rfl, ?_⟩
          · rw [upd_same, List.take_of_length_le (by simp), List.map_map, hsz]
            rfl
          rw [List.all_map]
          show if (!(figs z).all dig) = true then _ else _
          cases h3 : (figs z).all dig with
          | false =>
            have e : dueN z = none := by
              unfold dueN
              rw [if_neg h1', if_neg h2', h3]
              split <;> rfl
            rw [e] at q
            exact iteT (dropQ.of (Drop.lst hp') q)
          | true =>
            refine iteF ?_
            refine ⟨_, rfl, rfl, _, _, rfl, rfl, _, rfl, ?_⟩
            rw [starts_zero, hsz]
            have fin : ¬ (((figs z).head? == some 48) = true ∧ ¬ z = "0") → ∀ Hx, Drop Hx H' → ∃ v, ([some (V.str z), some (V.int 7), some (V.str sz)] : St)[0]? = some (some v) ∧ ∃ x n, [v] = [V.str x] ∧ PySem.intText? x = some n ∧ x.length ≤ 640 ∧ dropQ Q (.int n) Hx := fun h4 Hx dx => by
              have e : dueN z = some (if neg z then -((PySem.NumText.digitsVal (figs z) : Nat) : Int) else ((PySem.NumText.digitsVal (figs z) : Nat) : Int)) := by
                unfold dueN
                rw [if_neg h1', if_neg h2', if_neg h4, if_pos h3]
              rw [e] at q
              refine ⟨_, rfl, z, _, rfl, whole_text (fun c => by rw [c] at h1'; exact h1' (by decide)) hz h3, by omega, dropQ.of dx q⟩
            refine ite2 (fun h4 => ?_) (fun h4 => ?_)
            · refine ⟨_, rfl, rfl, _, rfl, ?_⟩
              rw [dec_strs]
              refine ite2 (fun h5 => ?_) (fun h5 => ?_)
              · have e : dueN z = none := by
                  unfold dueN
                  rw [if_neg h1', if_neg h2', if_pos]
                  refine ⟨h4, fun c => ?_⟩
                  rw [decide_eq_true c] at h5
                  cases h5
                rw [e] at q
                exact dropQ.of (Drop.lst hp') q
              · refine fin (fun c => ?_) _ (Drop.lst hp')
                rw [decide_eq_false c.2] at h5
                exact h5 rfl
            · exact iteF (fin (fun c => h4 c.1) _ (Drop.lst hp'))
    · have h1' : (figs z).length < 1 := Nat.lt_of_not_le fun c => h1 (decide_eq_true (by omega))
      have e : dueN z = none := by unfold dueN; rw [if_pos h1']
      rw [e] at q
      exact ⟨_, rfl, iteT (dropQ.of (.refl _) q)⟩
  refine ⟨_, (@pss_cons _ _ _ _ _ (@ps_if _ _ _ _ _ _ _ _ (@pt_not _ _ _ _ (@pt_val _ _ _ (@pe_callB _ _ _ _ _ _ _ _ _ (@call_isinstB _ (K) rfl) rfl T.n_isinstance boot_isinstance (@pa_cons _ _ _ _ _ (pv 0) (@pa_cons _ _ _ _ _ (@pe_ty _ _ _ _ T.n_str boot_str' (by rfl) (by decide) (by decide)) pa_nil (by rfl)) (by rfl)) (by decide) (by decide) (by rfl) (by rfl)) (by intro _; rfl))) (@pss_one _ _ _ (@ps_ret _ _ _ _ pe_non)) pss_nil) (@pss_cons _ _ _ _ _ (@ps_set _ _ (2) _ _ _ _ sc_p_number_within.nd rfl (Or.inl rfl) (@pe_ifExp _ _ _ _ _ _ _ _ (@pt_val _ _ _ (@pe_bm _ _ _ _ _ _ _ _ _ _ _ _ PySem.F.plainAttrs_str PySem.F.slot_str_startswith PySem.F.type_str_startswith mt_startswith (pv 0) (@pa_cons _ _ _ _ _ pe_str pa_nil (by rfl)) (by rfl) (by rfl) (by rfl) (by rfl) (by rfl)) (by intro _; rfl)) (@pe_slice _ _ _ _ _ _ _ _ _ _ sl_str (pv 0) (@po_some _ _ _ pe_int) po_none) (pv 0)) (by rfl) (by first | exact .inl rfl | exact .inr rfl | assumption)) pu2)), ?_⟩
  refine ⟨_, rfl, _, _, _, t, _, rfl, rfl, ty, e3, _, rfl, ?_⟩
  cases x with
  | str z =>
    have hz := hz z rfl
    refine iteF ?_
    refine ⟨_, rfl, rfl, _, _, rfl, rfl, _, rfl, ?_⟩
    rw [starts_dash]
    cases hn : neg z with
    | true => exact iteT ⟨_, rfl, _, rfl, z, rfl, by omega, hu2 z _ rfl (by rw [tail_codes]; unfold figs; rw [if_pos hn])⟩
    | false => exact iteF ⟨_, rfl, hu2 z z rfl (by unfold figs; rw [if_neg (by rw [hn]; exact Bool.false_ne_true)])⟩
  | non => exact iteT (dropQ.of (.refl _) q)
  | bl b => exact iteT (dropQ.of (.refl _) q)
  | int i => exact iteT (dropQ.of (.refl _) q)
  | ref a => exact iteT (dropQ.of (.refl _) q)
  | byt b => cases hp
  | flt b => cases hp
  | ty n => cases hp

theorem ok_p_number_of (T : Txt w K mg C) : Fc P w K mg base 2 "number_of" ["word"] (spDue K) := by
  have G_p_number_within : Fc P w K mg base 1 "number_within" ["word", "most"] (spDue2 K) := ok_p_number_within T
  refine T.d_p_number_of.fcD sc_p_number_of len1 (fun f cdv A outer s H vs Q E hr h => ?_)
  obtain ⟨x, rfl, hp, hz, q⟩ := h
  refine ⟨_, (@pss_one _ _ _ (@ps_ret _ _ _ _ (@pe_c _ _ _ _ _ _ _ _ _ _ G_p_number_within (hr.mono (by decide)) (@pa_cons _ _ _ _ _ (pv 0) (@pa_cons _ _ _ _ _ (@pe_g _ _ _ _ T.g_MOST_FIGURES (by rfl) (by decide)) pa_nil (by rfl)) (by rfl)) (by rfl) (by decide) (by rfl) (by rfl)))), ?_⟩
  exact ⟨_, rfl, _, _, rfl, rfl, hp, hz, dropQ.of (.refl _) q⟩


open Mt13 Mt11 Mt02
def toS (i : Int) : Str := Str.ofString (toString i)
def rowOf (ws : List Str) : Str := Txt.join " " ws
theorem log_small {i : Int} (h : i.natAbs ≤ 1000000) : i.natAbs.log2 < 1920 := by
  have : i.natAbs < 2 ^ 60 := by omega
  by_cases h0 : i.natAbs = 0
  · rw [h0]; decide
  · exact Nat.lt_trans ((Nat.log2_lt h0).mpr this) (by decide)
theorem toS_len {i : Int} (h : i.natAbs ≤ 1000000) : (toS i).length ≤ 8 := by
  have e : (toS i).length = (toS i).cps.toList.length := by simp [Str.length]
  rw [e]
  unfold toS
  rw [int_codes]
  have := dg_len 6 i.natAbs (by omega)
  split
  · show _ + 1 ≤ _; omega
  · omega
theorem sum_le {k : Nat} : ∀ {zs : List Str}, (∀ z ∈ zs, z.length ≤ k) → (zs.map fun y => y.length).sum ≤ zs.length * k
  | [], _ => Nat.zero_le _
  | x :: l, h => by
    have h1 := h x List.mem_cons_self
    have h2 := sum_le fun z m => h z (List.mem_cons_of_mem _ m)
    show x.length + (l.map fun y => y.length).sum ≤ (l.length + 1) * k
    rw [Nat.add_mul, Nat.one_mul]
    omega
theorem row_len {ws : List Str} {k : Nat} (h : ∀ z ∈ ws, z.length ≤ k) : (rowOf ws).length ≤ ws.length * k + ws.length := by
  unfold rowOf Txt.join
  rw [StrLaws.glued_eq_join]
  have h1 := StrLaws.join_length_le " " ws
  have h2 := sum_le h
  rw [show (" " : Str).length = 1 by decide +kernel] at h1
  have h3 : (ws.map (·.length)).sum = (ws.map fun y => y.length).sum := rfl
  omega
theorem hgt_abs {i : Int} (h : hgt i = true) : i.natAbs ≤ 1000000 := by
  have h1 := of_decide_eq_true (Bool.and_eq_true_iff.mp h).1
  have h2 := of_decide_eq_true (Bool.and_eq_true_iff.mp h).2
  omega
theorem cj_mem {k c : Nat} : ∀ {xs : List (List Nat)}, c ∈ cj k xs → c = k ∨ ∃ x ∈ xs, c ∈ x
  | [], m => by cases m
  | [x], m => .inr ⟨x, List.mem_cons_self, m⟩
  | x :: y :: r, m => by
    have m' : c ∈ x ++ k :: cj k (y :: r) := m
    rcases List.mem_append.mp m' with m | m
    · exact .inr ⟨x, List.mem_cons_self, m⟩
    · rcases List.mem_cons.mp m with rfl | m
      · exact .inl rfl
      · rcases cj_mem m with h | ⟨z, mz, hz⟩
        · exact .inl h
        · exact .inr ⟨z, List.mem_cons_of_mem _ mz, hz⟩
def word (z : Str) : Prop := ∀ c ∈ z.cps.toList, c ≠ 32 ∧ c ≠ 10
theorem word_int (i : Int) : word (toS i) := fun c mc => by
  have := int_signs i c mc
  omega
theorem blank_is : (" " : Str) = ⟨#[32]⟩ := by decide +kernel
theorem row_is : ("\n" : Str) = ⟨#[10]⟩ := by decide +kernel
theorem split_row {ws : List Str} (hne : ws ≠ []) (h : ∀ z ∈ ws, word z) : Txt.split (rowOf ws) " " = ws := by
  unfold rowOf Txt.join
  rw [StrLaws.glued_eq_join, blank_is]
  exact split_join hne fun p mp m => (h p mp 32 m).1 rfl
theorem row_free {ws : List Str} (h : ∀ z ∈ ws, word z) : 10 ∉ (rowOf ws).cps.toList := fun m => by
  unfold rowOf Txt.join at m
  rw [StrLaws.glued_eq_join, blank_is, join_cj] at m
  rcases cj_mem m with e | ⟨x, mx, hx⟩
  · cases e
  · obtain ⟨p, mp, rfl⟩ := List.mem_map.mp mx
    exact (h p mp 10 hx).2 rfl
theorem pe_bmB {X : Cx} {c : Expr} {K : PySem.W.Frag} {t0 : String} {r : V → List V → Hp → VK → Prop} {to : TE} {t : TA} (e : X.K = K) (h : PE X c (tBM X.K t0 r to t)) : PE X c (tBM K t0 r to t) := by subst e; exact h
inductive Cd where
  | always | above (h : Int) | below (h : Int) | wet (z : Str) | dry (z : Str) | day (n m : Int)
def Cd.vs : Cd → List Dv
  | .always => [.str "always"]
  | .above h => [.str "above", .int h]
  | .below h => [.str "below", .int h]
  | .wet z => [.str "wet", .str z]
  | .dry z => [.str "dry", .str z]
  | .day n m => [.str "day", .int n, .int m]
def Cd.dv (c : Cd) : Dv := .tup c.vs
def Cd.ok : Cd → Prop
  | .day n m => 0 ≤ n ∧ n < m
  | _ => True
theorem if_no {a b : Str} {p q : Prop} (h : decide (a = b) = false) (hq : q) : if decide (V.str a = V.str b) = true then p else q := by
  rw [if_neg]
  · exact hq
  · intro e
    have := of_decide_eq_true e
    cases this
    simp at h
theorem if_yes {a b : Str} {p q : Prop} (h : decide (a = b) = true) (hp : p) : if decide (V.str a = V.str b) = true then p else q := by
  rw [if_pos]
  · exact hp
  · rw [of_decide_eq_true h]
    exact decide_eq_true rfl
theorem cd_always {H : Hp} {x : V} (h : Is H Cd.always.dv x) : ∃ t, x = .ref t ∧ H t = some (.tup [.str "always"]) := by
  obtain ⟨t, us, rfl, o, a, r, rfl, rfl, h0⟩ := h
  cases (show r = [] from h0)
  exact ⟨t, rfl, o⟩
theorem cd_two {H : Hp} {x : V} {k : Str} {d : Dv} (h : Is H (.tup [.str k, d]) x) : ∃ t v, x = .ref t ∧ H t = some (.tup [.str k, v]) ∧ Is H d v := by
  obtain ⟨t, us, rfl, o, a, r, rfl, rfl, v, r', rfl, hv, h0⟩ := h
  cases (show r' = [] from h0)
  exact ⟨t, v, rfl, o, hv⟩
theorem cd_above {H : Hp} {x : V} {h : Int} (e : Is H (Cd.above h).dv x) : ∃ t, x = .ref t ∧ H t = some (.tup [.str "above", .int h]) := by
  obtain ⟨t, v, rfl, o, rfl⟩ := cd_two e
  exact ⟨t, rfl, o⟩
theorem cd_below {H : Hp} {x : V} {h : Int} (e : Is H (Cd.below h).dv x) : ∃ t, x = .ref t ∧ H t = some (.tup [.str "below", .int h]) := by
  obtain ⟨t, v, rfl, o, rfl⟩ := cd_two e
  exact ⟨t, rfl, o⟩
theorem cd_wet {H : Hp} {x : V} {h : Str} (e : Is H (Cd.wet h).dv x) : ∃ t, x = .ref t ∧ H t = some (.tup [.str "wet", .str h]) := by
  obtain ⟨t, v, rfl, o, rfl⟩ := cd_two e
  exact ⟨t, rfl, o⟩
theorem cd_dry {H : Hp} {x : V} {h : Str} (e : Is H (Cd.dry h).dv x) : ∃ t, x = .ref t ∧ H t = some (.tup [.str "dry", .str h]) := by
  obtain ⟨t, v, rfl, o, rfl⟩ := cd_two e
  exact ⟨t, rfl, o⟩
theorem cd_day {H : Hp} {x : V} {n m : Int} (e : Is H (Cd.day n m).dv x) : ∃ t, x = .ref t ∧ H t = some (.tup [.str "day", .int n, .int m]) := by
  obtain ⟨t, us, rfl, o, a, r, rfl, rfl, v, r', rfl, rfl, v2, r2, rfl, rfl, h0⟩ := e
  cases (show r2 = [] from h0)
  exact ⟨t, rfl, o⟩
def decD (a g : Str) (cs : List Cd) : Dv := .tup [.str a, .str g, .lst (cs.map Cd.dv)]
theorem dec_at {H : Hp} {x : V} {a g : Str} {cs : List Cd} (h : Is H (decD a g cs) x) : ∃ t l us, x = .ref t ∧ H t = some (.tup [.str a, .str g, .ref l]) ∧ H l = some (.lst us) ∧ IsL H (cs.map Cd.dv) us := by
  obtain ⟨t, us, rfl, o, v0, r0, rfl, rfl, v1, r1, rfl, rfl, v2, r2, rfl, ⟨l, us', rfl, ol, hl⟩, h0⟩ := h
  cases (show r2 = [] from h0)
  exact ⟨t, l, us', rfl, o, ol, hl⟩
open Mt13 Mt11 Mt02
theorem str_ext {a b : Str} (h : a.cps.toList = b.cps.toList) : a = b := by
  cases a; cases b
  congr 1
  exact Array.toList_inj.mp h
theorem cat_list (a b : Str) : (a ++ b).cps.toList = a.cps.toList ++ b.cps.toList := by
  show (a.cps ++ b.cps).toList = _
  rw [Array.toList_append]
theorem row_list (ws : List Str) : (rowOf ws).cps.toList = cj 32 (ws.map fun p => p.cps.toList) := by
  unfold rowOf Txt.join
  rw [StrLaws.glued_eq_join, blank_is]
  exact join_cj 32 ws
theorem l_blank : (" " : Str).cps.toList = [32] := by decide +kernel
theorem n_blank : (" " : Str).length = 1 := by decide +kernel
def Cd.words : Cd → List Str
  | .always => ["always"]
  | .above h => ["sea", "above", toS h]
  | .below h => ["sea", "below", toS h]
  | .wet z => ["wet", z]
  | .dry z => ["dry", z]
  | .day n m => ["day", toS n, "of", toS m]
def Cd.bnd : Cd → Prop
  | .always => True
  | .above h => h.natAbs ≤ 1000000
  | .below h => h.natAbs ≤ 1000000
  | .wet z => z.length ≤ 8 ∧ word z
  | .dry z => z.length ≤ 8 ∧ word z
  | .day n m => n.natAbs ≤ 1000000 ∧ m.natAbs ≤ 1000000
def showC (c : Cd) : Str := rowOf c.words
def wordsCs : List Cd → List Str
  | [] => []
  | [c] => c.words
  | c :: d :: r => c.words ++ ("and" : Str) :: wordsCs (d :: r)
abbrev Dk := Str × Str × List Cd
def dkD (x : Dk) : Dv := decD x.1 x.2.1 x.2.2
def showD (x : Dk) : Str := rowOf [x.1, x.2.1, "when", Txt.join " and " (x.2.2.map showC)]
def wordsK (x : Dk) : List Str := [x.1, x.2.1, "when"] ++ wordsCs x.2.2
def showDs (xs : List Dk) : Str := Txt.join "\n" (xs.map showD)
theorem cj_app {c : Nat} : ∀ {xs ys : List (List Nat)}, xs ≠ [] → ys ≠ [] → cj c (xs ++ ys) = cj c xs ++ c :: cj c ys
  | [], _, h, _ => absurd rfl h
  | _, [], _, h => absurd rfl h
  | [x], y :: r, _, _ => rfl
  | x :: z :: r, y :: t, _, _ => by
    show x ++ c :: cj c ((z :: r) ++ (y :: t)) = (x ++ c :: cj c (z :: r)) ++ c :: cj c (y :: t)
    rw [cj_app (xs := z :: r) (by simp) (by simp), List.append_assoc, List.cons_append]
theorem words_ne (c : Cd) : c.words ≠ [] := by cases c <;> simp [Cd.words]
theorem wordsCs_ne : ∀ {cs : List Cd}, cs ≠ [] → wordsCs cs ≠ []
  | [], h => absurd rfl h
  | [c], _ => words_ne c
  | c :: d :: r, _ => by
    show c.words ++ ("and" : Str) :: wordsCs (d :: r) ≠ []
    simp
theorem join_and (x y : Str) (r : List Str) : Txt.join " and " (x :: y :: r) = x ++ " and " ++ Txt.join " and " (y :: r) := by
  unfold Txt.join
  rw [StrLaws.glued_eq_join, StrLaws.glued_eq_join]
  rfl
theorem join_and1 (x : Str) : Txt.join " and " [x] = x := by
  unfold Txt.join
  rw [StrLaws.glued_eq_join]
  rfl
theorem l_and : (" and " : Str).cps.toList = 32 :: (("and" : Str).cps.toList ++ [32]) := by decide +kernel
theorem join_words : ∀ {cs : List Cd}, cs ≠ [] → (Txt.join " and " (cs.map showC)).cps.toList = cj 32 ((wordsCs cs).map fun p => p.cps.toList)
  | [], h => absurd rfl h
  | [c], _ => by
    show (Txt.join " and " [showC c]).cps.toList = _
    rw [join_and1]
    exact row_list _
  | c :: d :: r, _ => by
    show (Txt.join " and " (showC c :: showC d :: r.map showC)).cps.toList = _
    rw [join_and, cat_list, cat_list, l_and]
    have ih := join_words (cs := d :: r) (by simp)
    have e : (Txt.join " and " (showC d :: r.map showC)).cps.toList = cj 32 ((wordsCs (d :: r)).map fun p => p.cps.toList) := ih
    rw [e]
    show (rowOf c.words).cps.toList ++ _ ++ _ = cj 32 ((c.words ++ ("and" : Str) :: wordsCs (d :: r)).map fun p => p.cps.toList)
    rw [row_list, List.map_append, List.map_cons, cj_app (by simpa using words_ne c) (by simp)]
    obtain ⟨w1, wr, ew⟩ := List.exists_cons_of_ne_nil (wordsCs_ne (cs := d :: r) (by simp))
    rw [ew, List.map_cons]
    show _ = _ ++ 32 :: (("and" : Str).cps.toList ++ 32 :: cj 32 _)
    simp only [List.append_assoc, List.cons_append, List.nil_append]
theorem show_words {x : Dk} (h : x.2.2 ≠ []) : showD x = rowOf (wordsK x) := by
  refine str_ext ?_
  unfold showD wordsK
  rw [row_list, row_list, List.map_append, cj_app (by simp) (by simpa using wordsCs_ne h)]
  rw [← join_words h]
  simp only [List.map_cons, List.map_nil, cj, List.append_assoc, List.cons_append, List.nil_append]
theorem word_lit (z : Str) (h : (z.cps.toList.all fun c => decide (c ≠ 32 ∧ c ≠ 10)) = true) : word z := fun c mc => of_decide_eq_true (List.all_eq_true.mp h c mc)
theorem words_bnd {c : Cd} (h : c.bnd) : ∀ z ∈ c.words, z.length ≤ 8 ∧ word z := fun z m => by
  have L : ∀ z ∈ (["always", "sea", "above", "below", "wet", "dry", "day", "of"] : List Str), z.length ≤ 8 ∧ (z.cps.toList.all fun c => decide (c ≠ 32 ∧ c ≠ 10)) = true := by decide +kernel
  have L' : ∀ {z : Str}, z ∈ (["always", "sea", "above", "below", "wet", "dry", "day", "of"] : List Str) → z.length ≤ 8 ∧ word z := fun m => ⟨(L _ m).1, word_lit _ (L _ m).2⟩
  cases c with
  | always => simp only [Cd.words, List.mem_cons, List.mem_nil_iff, or_false] at m; subst m; exact L' (by simp)
  | above i =>
    simp only [Cd.words, List.mem_cons, List.mem_nil_iff, or_false] at m
    rcases m with rfl | rfl | rfl
    · exact L' (by simp)
    · exact L' (by simp)
    · exact ⟨toS_len h, word_int i⟩
  | below i =>
    simp only [Cd.words, List.mem_cons, List.mem_nil_iff, or_false] at m
    rcases m with rfl | rfl | rfl
    · exact L' (by simp)
    · exact L' (by simp)
    · exact ⟨toS_len h, word_int i⟩
  | wet i =>
    simp only [Cd.words, List.mem_cons, List.mem_nil_iff, or_false] at m
    rcases m with rfl | rfl
    · exact L' (by simp)
    · exact h
  | dry i =>
    simp only [Cd.words, List.mem_cons, List.mem_nil_iff, or_false] at m
    rcases m with rfl | rfl
    · exact L' (by simp)
    · exact h
  | day n k =>
    simp only [Cd.words, List.mem_cons, List.mem_nil_iff, or_false] at m
    rcases m with rfl | rfl | rfl | rfl
    · exact L' (by simp)
    · exact ⟨toS_len h.1, word_int n⟩
    · exact L' (by simp)
    · exact ⟨toS_len h.2, word_int k⟩
theorem words_len (c : Cd) : c.words.length ≤ 4 := by cases c <;> simp [Cd.words]
theorem wordsCs_all : ∀ {cs : List Cd}, (∀ c ∈ cs, c.bnd) → ∀ z ∈ wordsCs cs, z.length ≤ 8 ∧ word z
  | [], _, z, m => nomatch m
  | [c], h, z, m => words_bnd (h c List.mem_cons_self) z m
  | c :: d :: r, h, z, m => by
    have m' : z ∈ c.words ++ ("and" : Str) :: wordsCs (d :: r) := m
    rcases List.mem_append.mp m' with m1 | m1
    · exact words_bnd (h c List.mem_cons_self) z m1
    · rcases List.mem_cons.mp m1 with rfl | m1
      · exact ⟨by decide +kernel, word_lit _ (by decide +kernel)⟩
      · exact wordsCs_all (fun c' mc => h c' (List.mem_cons_of_mem _ mc)) z m1
theorem wordsCs_len : ∀ cs : List Cd, (wordsCs cs).length ≤ 5 * cs.length
  | [] => Nat.le_refl _
  | [c] => by
    show c.words.length ≤ 5
    have := words_len c
    omega
  | c :: d :: r => by
    show (c.words ++ ("and" : Str) :: wordsCs (d :: r)).length ≤ _
    have := words_len c
    have := wordsCs_len (d :: r)
    rw [List.length_append, List.length_cons]
    simp only [List.length_cons] at *
    omega
structure DkOk (x : Dk) : Prop where
  a : x.1.length ≤ 8 ∧ word x.1
  g : x.2.1.length ≤ 8 ∧ word x.2.1
  l1 : 1 ≤ x.2.2.length
  l6 : x.2.2.length ≤ 6
  cs : ∀ c ∈ x.2.2, c.bnd
theorem DkOk.ne {x : Dk} (h : DkOk x) : x.2.2 ≠ [] := fun e => by have := h.l1; rw [e] at this; exact absurd this (by decide)
theorem DkOk.words {x : Dk} (h : DkOk x) : ∀ z ∈ wordsK x, z.length ≤ 8 ∧ word z := fun z m => by
  unfold wordsK at m
  rcases List.mem_append.mp m with m | m
  · simp only [List.mem_cons, List.mem_nil_iff, or_false] at m
    rcases m with rfl | rfl | rfl
    · exact h.a
    · exact h.g
    · exact ⟨by decide +kernel, word_lit _ (by decide +kernel)⟩
  · exact wordsCs_all h.cs z m
theorem DkOk.wlen {x : Dk} (h : DkOk x) : (wordsK x).length ≤ 33 := by
  unfold wordsK
  rw [List.length_append]
  have := wordsCs_len x.2.2
  have := h.l6
  show 3 + _ ≤ 33
  omega
theorem DkOk.split {x : Dk} (h : DkOk x) : Txt.split (showD x) " " = wordsK x := by
  rw [show_words h.ne]
  exact split_row (by simp [wordsK]) fun z m => (h.words z m).2
theorem DkOk.len {x : Dk} (h : DkOk x) : (showD x).length ≤ 300 := by
  rw [show_words h.ne]
  have := row_len (k := 8) fun z m => (h.words z m).1
  have := h.wlen
  omega
theorem DkOk.free {x : Dk} (h : DkOk x) : 10 ∉ (showD x).cps.toList := by
  rw [show_words h.ne]
  exact row_free fun z m => (h.words z m).2
theorem split_show {xs : List Dk} (hne : xs ≠ []) (h : ∀ x ∈ xs, DkOk x) : Txt.split (showDs xs) "\n" = xs.map showD := by
  unfold showDs
  have e : Txt.join "\n" (xs.map showD) = Str.join ⟨#[10]⟩ (xs.map showD) := by
    unfold Txt.join
    rw [StrLaws.glued_eq_join, row_is]
  rw [e, row_is]
  refine split_join (by simpa using hne) fun p m => ?_
  obtain ⟨x, mx, rfl⟩ := List.mem_map.mp m
  exact (h x mx).free

open Mt13 Mt11 Mt02
def strV : V → Str
  | .int i => toS i
  | .str z => z
  | _ => ""
def fineV : V → Prop
  | .int i => i.natAbs ≤ 1000000
  | .str z => z.length ≤ 8
  | _ => False
def vsOf : Cd → List V
  | .always => [.str "always"]
  | .above h => [.str "above", .int h]
  | .below h => [.str "below", .int h]
  | .wet z => [.str "wet", .str z]
  | .dry z => [.str "dry", .str z]
  | .day n m => [.str "day", .int n, .int m]
theorem cd_at {H : Hp} {x : V} {c : Cd} (h : Is H c.dv x) : ∃ t, x = .ref t ∧ H t = some (.tup (vsOf c)) := by
  cases c with
  | always => exact cd_always h
  | above i => exact cd_above h
  | below i => exact cd_below h
  | wet i => exact cd_wet h
  | dry i => exact cd_dry h
  | day n k => exact cd_day h
theorem vs_fine {c : Cd} (h : c.bnd) : ∀ v ∈ vsOf c, fineV v := fun v m => by
  have L : ∀ z ∈ (["always", "above", "below", "wet", "dry", "day"] : List Str), z.length ≤ 8 := by decide +kernel
  cases c with
  | always => 
    simp only [vsOf, List.mem_cons, List.mem_nil_iff, or_false] at m
    subst m; exact L _ (by simp)
  | above i => 
    simp only [vsOf, List.mem_cons, List.mem_nil_iff, or_false] at m
    rcases m with rfl | rfl
    · exact L _ (by simp)
    · exact h
  | below i => 
    simp only [vsOf, List.mem_cons, List.mem_nil_iff, or_false] at m
    rcases m with rfl | rfl
    · exact L _ (by simp)
    · exact h
  | wet i => 
    simp only [vsOf, List.mem_cons, List.mem_nil_iff, or_false] at m
    rcases m with rfl | rfl
    · exact L _ (by simp)
    · exact h.1
  | dry i => 
    simp only [vsOf, List.mem_cons, List.mem_nil_iff, or_false] at m
    rcases m with rfl | rfl
    · exact L _ (by simp)
    · exact h.1
  | day n k => 
    simp only [vsOf, List.mem_cons, List.mem_nil_iff, or_false] at m
    rcases m with rfl | rfl | rfl
    · exact L _ (by simp)
    · exact h.1
    · exact h.2
theorem vs_len (c : Cd) : (vsOf c).length ≤ 3 := by cases c <;> simp [vsOf]
theorem row_room {ws : List Str} (h : ∀ z ∈ ws, z.length ≤ 8) (l : ws.length ≤ 40) : (ws.map fun y => y.length).sum + ws.length * (" " : Str).length ≤ 16777216 := by
  have := sum_le h
  rw [n_blank]
  omega
def spShowC : Sp := sp1 fun x H Q => ∃ c : Cd, Is H c.dv x ∧ c.bnd ∧ ∀ H', Same H H' → Q (.str (showC c)) H'
theorem ok_p_show_condition (T : Txt w K mg C) : Fc P w K mg base 1 "show_condition" ["condition"] spShowC := by
  obtain ⟨a_TIDES, m_TIDES, sq_TIDES⟩ := T.g_TIDES
  refine T.d_p_show_condition.fc sc_p_show_condition len1 (fun f cdv A outer s H vs Q E hr h => ?_)
  obtain ⟨x, rfl, c, hx, hb, q⟩ := h
  have big := big1000
  obtain ⟨t, rfl, o⟩ := cd_at hx
  have l3 := vs_len c
  refine ⟨_, (@pss_cons _ _ _ _ _ (@ps_setComp _ (1) _ _ _ _ _ _ _ _ _ _ _ _ _ sc_p_show_condition.nd rfl ["part"] 1 [] rfl (@pi_tup _ _ _ _ (pv 0)) (fun R => @pg_name _ _ (0) _ (show List.Nodup (["part"] : List Str) by decide +kernel) rfl (Or.inl rfl) (by first | exact .inl rfl | exact .inr rfl | assumption)) (@gkeep_name _ _ (by decide)) (fun R => pifs_nil) (fun R => (@pe_callTy _ _ _ _ _ _ _ _ _ call_str_any rfl T.n_str boot_str' (@pa_cons _ _ _ _ _ (pv 0) pa_nil (by rfl)) (by decide) (by decide) (by rfl) (by rfl))) (by exact Or.inl rfl) (by first | exact .inl rfl | exact .inr rfl | assumption) (by rfl) (by rfl) (by rfl) (by rfl) (by rfl) (by rfl) (by rfl) (by rfl) (by intro _; rfl)) (@pss_cons _ _ _ _ _ (@ps_if _ _ _ _ _ _ _ _ (@pt_cmpR _ _ _ _ _ _ _ _ (@op_in_seqB _ (K) rfl) (@pe_ix _ _ _ _ _ _ _ (@ix_listB _ (K) rfl) (pv 1) pe_int (fun _ _ => rfl)) (@pe_glob _ _ (.ref a_TIDES) _ _ rfl m_TIDES rfl (by decide)) (by with_unfolding_all rfl)) (@pss_one _ _ _ (@ps_ret _ _ _ _ (@pe_bm _ _ _ _ _ _ _ _ _ _ _ _ PySem.F.plainAttrs_str PySem.F.slot_str_join PySem.F.type_str_join mt_join pe_str (@pa_cons _ _ _ _ _ (@pe_op _ _ _ _ _ _ _ _ op_cat (@pe_lst _ _ _ _ (@pa_cons _ _ _ _ _ pe_str pa_nil (by rfl))) (pv 1)) pa_nil (by rfl)) (by rfl) (by rfl) (by rfl) (by rfl) (by rfl)))) pss_nil) (@pss_cons _ _ _ _ _ (@ps_if _ _ _ _ _ _ _ _ (@pt_cmpR _ _ _ _ _ _ _ _ op_eq (@pe_ix _ _ _ _ _ _ _ (@ix_listB _ (K) rfl) (pv 1) pe_int (fun _ _ => rfl)) pe_str (@nomark _ _ (by decide) (by decide))) (@pss_one _ _ _ (@ps_ret _ _ _ _ (@pe_bm _ _ _ _ _ _ _ _ _ _ _ _ PySem.F.plainAttrs_str PySem.F.slot_str_join PySem.F.type_str_join mt_join pe_str (@pa_cons _ _ _ _ _ (@pe_lst _ _ _ _ (@pa_cons _ _ _ _ _ pe_str (@pa_cons _ _ _ _ _ (@pe_ix _ _ _ _ _ _ _ (@ix_listB _ (K) rfl) (pv 1) pe_int (fun _ _ => rfl)) (@pa_cons _ _ _ _ _ pe_str (@pa_cons _ _ _ _ _ (@pe_ix _ _ _ _ _ _ _ (@ix_listB _ (K) rfl) (pv 1) pe_int (fun _ _ => rfl)) pa_nil (by rfl)) (by rfl)) (by rfl)) (by rfl))) pa_nil (by rfl)) (by rfl) (by rfl) (by rfl) (by rfl) (by rfl)))) pss_nil) (@pss_one _ _ _ (@ps_ret _ _ _ _ (@pe_bm _ _ _ _ _ _ _ _ _ _ _ _ PySem.F.plainAttrs_str PySem.F.slot_str_join PySem.F.type_str_join mt_join pe_str (@pa_cons _ _ _ _ _ (pv 1) pa_nil (by rfl)) (by rfl) (by rfl) (by rfl) (by rfl) (by rfl))))))), ?_⟩
  refine ⟨_, rfl, t, rfl, ⟨_, SqT.of o⟩, ?_⟩
  refine comp_tup (F := K) (xs := vsOf c) (by omega) (fun k ys H' => H = H' ∧ ys = (((vsOf c).take k).map strV).map V.str) ⟨rfl, rfl⟩ ?_ ?_ ?_
  · rintro k ys H' hk ⟨rfl, rfl⟩
    exact ⟨SqT.of o, by rw [List.length_map, List.length_map, List.length_take]; omega⟩
  · rintro k xv ys H' K1 K2 hx' ⟨rfl, rfl⟩ k1 k2
    have hf := vs_fine hb xv (List.mem_of_getElem? hx')
    have et : ∀ z, strV xv = z → (((vsOf c).take k).map strV).map V.str ++ [V.str z] = (((vsOf c).take (k + 1)).map strV).map V.str := fun z e => by
      rw [List.take_add_one, hx', List.map_append, List.map_append, ← e]
      rfl
    cases xv with
    | int i => exact ⟨_, rfl, .inl ⟨i, rfl, log_small hf, k1 _ _ ⟨rfl, et _ rfl⟩⟩⟩
    | str z => exact ⟨_, rfl, .inr ⟨z, rfl, k1 _ _ ⟨rfl, et _ rfl⟩⟩⟩
    | _ => exact absurd hf id
  rintro ys H' ⟨rfl, rfl⟩
  rw [List.take_of_length_le (Nat.le_refl _)]
  intro l1 h1
  have S1 := Same.upd (o := .lst (((vsOf c).map strV).map V.str)) h1
  have r1 : upd H l1 (.lst (((vsOf c).map strV).map V.str)) l1 = some (.lst (((vsOf c).map strV).map V.str)) := upd_same
  generalize upd H l1 (.lst (((vsOf c).map strV).map V.str)) = H1 at S1 r1
  have hw := words_bnd hb
  have hl := words_len c
  have room := row_room (fun z m => (hw z m).1) (by omega : c.words.length ≤ 40)
  cases c with
  | always  =>
    refine ⟨_, rfl, l1, _, 0, .str "always", rfl, rfl, SqL.of r1, atI_nat (j := 0) rfl, a_TIDES, [.str "above", .str "below"], rfl, .inr (sq_TIDES _), rfl, rfl, ?_⟩
    rw [show (inV (V.str "always") [V.str "above", V.str "below"]) = false from by decide +kernel]
    refine ⟨_, rfl, iteF ?_⟩
    refine ⟨_, rfl, l1, _, 0, .str "always", rfl, rfl, SqL.of r1, atI_nat (j := 0) rfl, rfl, _, rfl, if_no (by decide +kernel) ?_⟩
    exact ⟨rfl, _, rfl, " ", l1, (Cd.always ).words, rfl, rfl, SqL.of r1, room, q _ S1⟩
  | above i =>
    refine ⟨_, rfl, l1, _, 0, .str "above", rfl, rfl, SqL.of r1, atI_nat (j := 0) rfl, a_TIDES, [.str "above", .str "below"], rfl, .inr (sq_TIDES _), rfl, rfl, ?_⟩
    rw [show (inV (V.str "above") [V.str "above", V.str "below"]) = true from by decide +kernel]
    refine ⟨_, rfl, iteT ?_⟩
    refine ⟨rfl, small_le rfl, fun l2 h2 => ?_⟩
    have S2 := Same.upd (o := .lst [.str "sea"]) h2
    refine ⟨_, rfl, l2, l1, _, _, rfl, rfl, upd_same, S2 _ _ r1, small_le rfl, fun l3 h3 => ?_⟩
    have S3 := Same.upd (o := .lst ([V.str "sea"] ++ [V.str "above", V.str (toS i)])) h3
    exact ⟨" ", l3, (Cd.above i).words, rfl, rfl, SqL.of upd_same, room, q _ (S1.trans (S2.trans S3))⟩
  | below i =>
    refine ⟨_, rfl, l1, _, 0, .str "below", rfl, rfl, SqL.of r1, atI_nat (j := 0) rfl, a_TIDES, [.str "above", .str "below"], rfl, .inr (sq_TIDES _), rfl, rfl, ?_⟩
    rw [show (inV (V.str "below") [V.str "above", V.str "below"]) = true from by decide +kernel]
    refine ⟨_, rfl, iteT ?_⟩
    refine ⟨rfl, small_le rfl, fun l2 h2 => ?_⟩
    have S2 := Same.upd (o := .lst [.str "sea"]) h2
    refine ⟨_, rfl, l2, l1, _, _, rfl, rfl, upd_same, S2 _ _ r1, small_le rfl, fun l3 h3 => ?_⟩
    have S3 := Same.upd (o := .lst ([V.str "sea"] ++ [V.str "below", V.str (toS i)])) h3
    exact ⟨" ", l3, (Cd.below i).words, rfl, rfl, SqL.of upd_same, room, q _ (S1.trans (S2.trans S3))⟩
  | wet z =>
    refine ⟨_, rfl, l1, _, 0, .str "wet", rfl, rfl, SqL.of r1, atI_nat (j := 0) rfl, a_TIDES, [.str "above", .str "below"], rfl, .inr (sq_TIDES _), rfl, rfl, ?_⟩
    rw [show (inV (V.str "wet") [V.str "above", V.str "below"]) = false from by decide +kernel]
    refine ⟨_, rfl, iteF ?_⟩
    refine ⟨_, rfl, l1, _, 0, .str "wet", rfl, rfl, SqL.of r1, atI_nat (j := 0) rfl, rfl, _, rfl, if_no (by decide +kernel) ?_⟩
    exact ⟨rfl, _, rfl, " ", l1, (Cd.wet z).words, rfl, rfl, SqL.of r1, room, q _ S1⟩
  | dry z =>
    refine ⟨_, rfl, l1, _, 0, .str "dry", rfl, rfl, SqL.of r1, atI_nat (j := 0) rfl, a_TIDES, [.str "above", .str "below"], rfl, .inr (sq_TIDES _), rfl, rfl, ?_⟩
    rw [show (inV (V.str "dry") [V.str "above", V.str "below"]) = false from by decide +kernel]
    refine ⟨_, rfl, iteF ?_⟩
    refine ⟨_, rfl, l1, _, 0, .str "dry", rfl, rfl, SqL.of r1, atI_nat (j := 0) rfl, rfl, _, rfl, if_no (by decide +kernel) ?_⟩
    exact ⟨rfl, _, rfl, " ", l1, (Cd.dry z).words, rfl, rfl, SqL.of r1, room, q _ S1⟩
  | day n m =>
    refine ⟨_, rfl, l1, _, 0, .str "day", rfl, rfl, SqL.of r1, atI_nat (j := 0) rfl, a_TIDES, [.str "above", .str "below"], rfl, .inr (sq_TIDES _), rfl, rfl, ?_⟩
    rw [show (inV (V.str "day") [V.str "above", V.str "below"]) = false from by decide +kernel]
    refine ⟨_, rfl, iteF ?_⟩
    refine ⟨_, rfl, l1, _, 0, .str "day", rfl, rfl, SqL.of r1, atI_nat (j := 0) rfl, rfl, _, rfl, if_yes (by decide +kernel) ?_⟩
    refine ⟨rfl, _, rfl, l1, _, 1, .str (toS n), rfl, rfl, SqL.of r1, atI_nat (j := 1) rfl, _, rfl, l1, _, 2, .str (toS m), rfl, rfl, SqL.of r1, atI_nat (j := 2) rfl, small_le rfl, fun l2 h2 => ?_⟩
    have S2 := Same.upd (o := .lst [V.str "day", V.str (toS n), V.str "of", V.str (toS m)]) h2
    exact ⟨" ", l2, (Cd.day n m).words, rfl, rfl, SqL.of upd_same, room, q _ (S1.trans S2)⟩

open Mt13 Mt11 Mt02
theorem showC_len {c : Cd} (h : c.bnd) : (showC c).length ≤ 40 := by
  have := row_len (k := 8) fun z m => (words_bnd h z m).1
  have := words_len c
  unfold showC
  omega
theorem and_len {cs : List Cd} (h : ∀ c ∈ cs, c.bnd) (l : cs.length ≤ 6) : (((cs.map showC).map fun y => y.length).sum + (cs.map showC).length * (" and " : Str).length ≤ 16777216) ∧ ((cs.map showC).map fun y => y.length).sum ≤ 240 := by
  have a : ∀ z ∈ cs.map showC, z.length ≤ 40 := fun z m => by
    obtain ⟨c, mc, rfl⟩ := List.mem_map.mp m
    exact showC_len (h c mc)
  have := sum_le a
  rw [List.length_map] at this ⊢
  rw [show (" and " : Str).length = 5 by decide +kernel]
  constructor <;> omega
theorem isL_len {H : Hp} {ds : List Dv} {us : List V} (h : IsL H ds us) : ds.length = us.length := by have := h.length; omega
theorem join_len' (sep : Str) : ∀ ys : List Str, (Txt.join sep ys).length ≤ (ys.map fun y => y.length).sum + ys.length * sep.length := fun ys => by
  unfold Txt.join
  rw [StrLaws.glued_eq_join]
  induction ys with
  | nil => exact Nat.zero_le _
  | cons x r ih =>
    cases r with
    | nil =>
      show x.length ≤ _
      simp only [List.map_cons, List.map_nil, List.sum_cons, List.sum_nil]
      omega
    | cons y r =>
      show (x ++ sep ++ Str.join sep (y :: r)).length ≤ _
      rw [Str.length_append, Str.length_append]
      simp only [List.map_cons, List.sum_cons, List.length_cons] at ih ⊢
      have : (r.length + 1 + 1) * sep.length = sep.length + (r.length + 1) * sep.length := by rw [Nat.add_mul (r.length + 1) 1, Nat.one_mul, Nat.add_comm]
      omega
def spShowD : Sp := sp1 fun x H Q => ∃ d : Dk, Is H (dkD d) x ∧ DkOk d ∧ ∀ H', Same H H' → Q (.str (showD d)) H'
theorem ok_p_show_decree (T : Txt w K mg C) : Fc P w K mg base 2 "show_decree" ["decree"] spShowD := by
  have G_p_show_condition : Fc P w K mg base 1 "show_condition" ["condition"] spShowC := ok_p_show_condition T
  refine T.d_p_show_decree.fc sc_p_show_decree len1 (fun f cdv A outer s H vs Q E hr h => ?_)
  obtain ⟨x, rfl, ⟨a, g, cs⟩, hx, ok, q⟩ := h
  have big := big1000
  obtain ⟨t, l, us, rfl, o, ol, hl⟩ := dec_at hx
  have lu := isL_len hl
  have l6 := ok.l6
  rw [List.length_map] at lu
  have lu : cs.length = us.length := lu
  have l6 : cs.length ≤ 6 := l6
  refine ⟨_, (@pss_cons _ _ _ _ _ (@ps_set _ _ (1) _ _ _ _ sc_p_show_decree.nd rfl (Or.inl rfl) (@pe_bm _ _ _ _ _ _ _ _ _ _ _ _ PySem.F.plainAttrs_str PySem.F.slot_str_join PySem.F.type_str_join mt_join pe_str (@pa_cons _ _ _ _ _ (@pe_comp _ _ _ _ _ _ _ _ _ _ _ ["condition"] 1 [] rfl (@pi_list _ _ _ _ (@pe_ix _ _ _ _ _ _ _ (@ix_tupB _ (K) rfl) (pv 0) pe_int (fun _ _ => rfl))) (fun R => @pg_name _ _ (0) _ (show List.Nodup (["condition"] : List Str) by decide +kernel) rfl (Or.inl rfl) (by first | exact .inl rfl | exact .inr rfl | assumption)) (@gkeep_name _ _ (by decide)) (fun R => pifs_nil) (fun R => (@pe_c _ _ _ _ _ _ _ _ _ _ G_p_show_condition (hr.mono (by decide)) (@pa_cons _ _ _ _ _ (pv 0) pa_nil (by rfl)) (by rfl) (by decide) (by rfl) (by rfl))) (by rfl) (by rfl) (by rfl) (by rfl) (by rfl) (by rfl) (by rfl) (by intro _; rfl)) pa_nil (by rfl)) (by rfl) (by rfl) (by rfl) (by rfl) (by rfl)) (by rfl) (by first | exact .inl rfl | exact .inr rfl | assumption)) (@pss_one _ _ _ (@ps_ret _ _ _ _ (@pe_bm _ _ _ _ _ _ _ _ _ _ _ _ PySem.F.plainAttrs_str PySem.F.slot_str_join PySem.F.type_str_join mt_join pe_str (@pa_cons _ _ _ _ _ (@pe_lst _ _ _ _ (@pa_cons _ _ _ _ _ (@pe_ix _ _ _ _ _ _ _ (@ix_tupB _ (K) rfl) (pv 0) pe_int (fun _ _ => rfl)) (@pa_cons _ _ _ _ _ (@pe_ix _ _ _ _ _ _ _ (@ix_tupB _ (K) rfl) (pv 0) pe_int (fun _ _ => rfl)) (@pa_cons _ _ _ _ _ pe_str (@pa_cons _ _ _ _ _ (pv 1) pa_nil (by rfl)) (by rfl)) (by rfl)) (by rfl))) pa_nil (by rfl)) (by rfl) (by rfl) (by rfl) (by rfl) (by rfl))))), ?_⟩
  refine ⟨rfl, _, rfl, t, _, 2, .ref l, rfl, rfl, SqT.of o, atI_nat (j := 2) rfl, l, rfl, ⟨_, SqL.of ol⟩, ?_⟩
  refine comp_list (F := K) (xs := us) (by omega) (fun i ys H' => Same H H' ∧ ys = ((cs.take i).map showC).map V.str) ⟨Same.refl _, rfl⟩ ?_ ?_ ?_
  · rintro i ys H' hi ⟨S', rfl⟩
    exact ⟨SqL.of (S' _ _ ol), by rw [List.length_map, List.length_map, List.length_take]; omega⟩
  · rintro i xv ys H' K1 K2 hx' ⟨S', rfl⟩ k1 k2
    have hil : i < us.length := (List.getElem?_eq_some_iff.mp hx').1
    obtain ⟨c, ec⟩ : ∃ c, cs[i]? = some c := ⟨_, List.getElem?_eq_getElem (by omega)⟩
    obtain ⟨v, ev, iv⟩ := hl.get (show (cs.map Cd.dv)[i]? = some c.dv by rw [List.getElem?_map, ec]; rfl)
    rw [hx'] at ev
    cases ev
    refine ⟨_, rfl, _, rfl, c, Is.same S' _ _ iv, ok.cs c (List.mem_of_getElem? ec), fun H2 S2 => k1 _ _ ⟨S'.trans S2, ?_⟩⟩
    rw [List.take_add_one, ec, List.map_append, List.map_append]
    rfl
  rintro ys H2 ⟨S2, rfl⟩
  rw [List.take_of_length_le (by omega)]
  intro l1 h1
  have S3 := Same.upd (o := .lst ((cs.map showC).map V.str)) h1
  have r3 : upd H2 l1 (.lst ((cs.map showC).map V.str)) l1 = some (.lst ((cs.map showC).map V.str)) := upd_same
  have T3 := S2.trans S3
  generalize upd H2 l1 (.lst ((cs.map showC).map V.str)) = H3 at S3 r3 T3
  have al := and_len (cs := cs) ok.cs l6
  refine ⟨" and ", l1, cs.map showC, rfl, rfl, SqL.of r3, al.1, ?_⟩
  refine ⟨rfl, _, rfl, t, _, 0, .str a, rfl, rfl, SqT.of (T3 _ _ o), atI_nat (j := 0) rfl, _, rfl, t, _, 1, .str g, rfl, rfl, SqT.of (T3 _ _ o), atI_nat (j := 1) rfl, _, rfl, small_le rfl, fun l2 h2 => ?_⟩
  have S4 := Same.upd (o := .lst ([a, g, "when", Txt.join " and " (cs.map showC)].map V.str)) h2
  refine ⟨" ", l2, [a, g, "when", Txt.join " and " (cs.map showC)], rfl, rfl, SqL.of upd_same, ?_, q _ (T3.trans S4)⟩
  show (a.length + (g.length + (("when" : Str).length + ((Txt.join " and " (cs.map showC)).length + 0)))) + 4 * (" " : Str).length ≤ 16777216
  have ja := join_len' " and " (cs.map showC)
  have a8 := ok.a.1
  have g8 := ok.g.1
  have a8 : a.length ≤ 8 := a8
  have g8 : g.length ≤ 8 := g8
  rw [List.length_map, show (" and " : Str).length = 5 by decide +kernel] at ja
  rw [show ("when" : Str).length = 4 by decide +kernel, n_blank]
  omega
def spShowDs : Sp := sp1 fun x H Q => ∃ (l : Addr) (us : List V) (ds : List Dk), x = .ref l ∧ H l = some (.lst us) ∧ IsL H (ds.map dkD) us ∧ (∀ d ∈ ds, DkOk d) ∧ ds.length ≤ 60 ∧ ∀ H', Same H H' → Q (.str (showDs ds)) H'
theorem ok_p_show_decrees (T : Txt w K mg C) : Fc P w K mg base 3 "show_decrees" ["decrees"] spShowDs := by
  have G_p_show_decree : Fc P w K mg base 2 "show_decree" ["decree"] spShowD := ok_p_show_decree T
  refine T.d_p_show_decrees.fc sc_p_show_decrees len1 (fun f cdv A outer s H vs Q E hr h => ?_)
  obtain ⟨x, rfl, l, us, ds, rfl, ol, hl, ok, l60, q⟩ := h
  have big := big1000
  have lu := isL_len hl
  rw [List.length_map] at lu
  refine ⟨_, (@pss_one _ _ _ (@ps_ret _ _ _ _ (@pe_bm _ _ _ _ _ _ _ _ _ _ _ _ PySem.F.plainAttrs_str PySem.F.slot_str_join PySem.F.type_str_join mt_join pe_str (@pa_cons _ _ _ _ _ (@pe_comp _ _ _ _ _ _ _ _ _ _ _ ["decree"] 1 [] rfl (@pi_list _ _ _ _ (pv 0)) (fun R => @pg_name _ _ (0) _ (show List.Nodup (["decree"] : List Str) by decide +kernel) rfl (Or.inl rfl) (by first | exact .inl rfl | exact .inr rfl | assumption)) (@gkeep_name _ _ (by decide)) (fun R => pifs_nil) (fun R => (@pe_c _ _ _ _ _ _ _ _ _ _ G_p_show_decree (hr.mono (by decide)) (@pa_cons _ _ _ _ _ (pv 0) pa_nil (by rfl)) (by rfl) (by decide) (by rfl) (by rfl))) (by rfl) (by rfl) (by rfl) (by rfl) (by rfl) (by rfl) (by rfl) (by intro _; rfl)) pa_nil (by rfl)) (by rfl) (by rfl) (by rfl) (by rfl) (by rfl)))), ?_⟩
  refine ⟨rfl, _, rfl, l, rfl, ⟨_, SqL.of ol⟩, ?_⟩
  refine comp_list (F := K) (xs := us) (by omega) (fun i ys H' => Same H H' ∧ ys = ((ds.take i).map showD).map V.str) ⟨Same.refl _, rfl⟩ ?_ ?_ ?_
  · rintro i ys H' hi ⟨S', rfl⟩
    exact ⟨SqL.of (S' _ _ ol), by rw [List.length_map, List.length_map, List.length_take]; omega⟩
  · rintro i xv ys H' K1 K2 hx' ⟨S', rfl⟩ k1 k2
    have hil : i < us.length := (List.getElem?_eq_some_iff.mp hx').1
    obtain ⟨c, ec⟩ : ∃ c, ds[i]? = some c := ⟨_, List.getElem?_eq_getElem (by omega)⟩
    obtain ⟨v, ev, iv⟩ := hl.get (show (ds.map dkD)[i]? = some (dkD c) by rw [List.getElem?_map, ec]; rfl)
    rw [hx'] at ev
    cases ev
    refine ⟨_, rfl, _, rfl, c, Is.same S' _ _ iv, ok c (List.mem_of_getElem? ec), fun H2 S2 => k1 _ _ ⟨S'.trans S2, ?_⟩⟩
    rw [List.take_add_one, ec, List.map_append, List.map_append]
    rfl
  rintro ys H2 ⟨S2, rfl⟩
  rw [List.take_of_length_le (by omega)]
  intro l1 h1
  have S3 := Same.upd (o := .lst ((ds.map showD).map V.str)) h1
  refine ⟨"\n", l1, ds.map showD, rfl, rfl, SqL.of upd_same, ?_, q _ (S2.trans S3)⟩
  have := sum_le (k := 300) (zs := ds.map showD) fun z m => by
    obtain ⟨d, md, rfl⟩ := List.mem_map.mp m
    exact (ok d md).len
  rw [List.length_map] at this ⊢
  rw [show ("\n" : Str).length = 1 by decide +kernel]
  omega

open Mt13 Mt11 Mt02
theorem due_toS {i : Int} (h : i.natAbs ≤ 1000000) : dueV (.str (toS i)) = .int i := by
  show (match dueN (Str.ofString (toString i)) with | some n => V.int n | none => V.non) = _
  rw [due_int (by omega)]
def spCIn : Sp := sp1 fun x H Q => ∃ (l : Addr) (c : Cd), x = .ref l ∧ H l = some (.lst (c.words.map V.str)) ∧ c.bnd ∧ ∀ (t : Addr) (H' : Hp), Same H H' → H t = none → H' t = some (.tup (vsOf c)) → Q (.ref t) H'
theorem ok_p_condition_in (T : Txt w K mg C) : Fc P w K mg base 3 "condition_in" ["words"] spCIn := by
  have G_p_number_of : Fc P w K mg base 2 "number_of" ["word"] (spDue K) := ok_p_number_of T
  refine T.d_p_condition_in.fc sc_p_condition_in len1 (fun f cdv A outer s H vs Q E hr h => ?_)
  obtain ⟨x, rfl, l, c, rfl, o, hb, q⟩ := h
  have big := big1000
  refine ⟨_, (@pss_cons _ _ _ _ _ (@ps_if _ _ _ _ _ _ _ _ (@pt_cmpR _ _ _ _ _ _ _ _ op_eq (@pe_ix _ _ _ _ _ _ _ (@ix_listB _ (K) rfl) (pv 0) pe_int (fun _ _ => rfl)) pe_str (@nomark _ _ (by decide) (by decide))) (@pss_one _ _ _ (@ps_ret _ _ _ _ (@pe_callTy _ _ _ _ _ _ _ _ _ call_tuple_of rfl T.n_tuple boot_tuple' (@pa_cons _ _ _ _ _ (@pe_op _ _ _ _ _ _ _ _ op_cat (@pe_slice _ _ _ _ _ _ _ _ _ _ (@sl_listB _ (K) rfl) (pv 0) (@po_some _ _ _ pe_int) (@po_some _ _ _ pe_int)) (@pe_comp _ _ _ _ _ _ _ _ _ _ _ ["word"] 1 [] rfl (@pi_list _ _ _ _ (@pe_slice _ _ _ _ _ _ _ _ _ _ (@sl_listB _ (K) rfl) (pv 0) (@po_some _ _ _ pe_int) po_none)) (fun R => @pg_name _ _ (0) _ (show List.Nodup (["word"] : List Str) by decide +kernel) rfl (Or.inl rfl) (by first | exact .inl rfl | exact .inr rfl | assumption)) (@gkeep_name _ _ (by decide)) (fun R => pifs_nil) (fun R => (@pe_c _ _ _ _ _ _ _ _ _ _ G_p_number_of (hr.mono (by decide)) (@pa_cons _ _ _ _ _ (pv 0) pa_nil (by rfl)) (by rfl) (by decide) (by rfl) (by rfl))) (by rfl) (by rfl) (by rfl) (by rfl) (by rfl) (by rfl) (by rfl) (by intro _; rfl))) pa_nil (by rfl)) (by decide) (by decide) (by rfl) (by rfl)))) pss_nil) (@pss_cons _ _ _ _ _ (@ps_if _ _ _ _ _ _ _ _ (@pt_cmpR _ _ _ _ _ _ _ _ op_eq (@pe_ix _ _ _ _ _ _ _ (@ix_listB _ (K) rfl) (pv 0) pe_int (fun _ _ => rfl)) pe_str (@nomark _ _ (by decide) (by decide))) (@pss_one _ _ _ (@ps_ret _ _ _ _ (@pe_callTy _ _ _ _ _ _ _ _ _ call_tuple_of rfl T.n_tuple boot_tuple' (@pa_cons _ _ _ _ _ (@pe_op _ _ _ _ _ _ _ _ op_cat (@pe_lst _ _ _ _ (@pa_cons _ _ _ _ _ pe_str pa_nil (by rfl))) (@pe_comp _ _ _ _ _ _ _ _ _ _ _ ["word"] 1 [] rfl (@pi_list _ _ _ _ (@pe_op _ _ _ _ _ _ _ _ op_cat (@pe_slice _ _ _ _ _ _ _ _ _ _ (@sl_listB _ (K) rfl) (pv 0) (@po_some _ _ _ pe_int) (@po_some _ _ _ pe_int)) (@pe_slice _ _ _ _ _ _ _ _ _ _ (@sl_listB _ (K) rfl) (pv 0) (@po_some _ _ _ pe_int) po_none))) (fun R => @pg_name _ _ (0) _ (show List.Nodup (["word"] : List Str) by decide +kernel) rfl (Or.inl rfl) (by first | exact .inl rfl | exact .inr rfl | assumption)) (@gkeep_name _ _ (by decide)) (fun R => pifs_nil) (fun R => (@pe_c _ _ _ _ _ _ _ _ _ _ G_p_number_of (hr.mono (by decide)) (@pa_cons _ _ _ _ _ (pv 0) pa_nil (by rfl)) (by rfl) (by decide) (by rfl) (by rfl))) (by rfl) (by rfl) (by rfl) (by rfl) (by rfl) (by rfl) (by rfl) (by intro _; rfl))) pa_nil (by rfl)) (by decide) (by decide) (by rfl) (by rfl)))) pss_nil) (@pss_one _ _ _ (@ps_ret _ _ _ _ (@pe_callTy _ _ _ _ _ _ _ _ _ call_tuple_of rfl T.n_tuple boot_tuple' (@pa_cons _ _ _ _ _ (pv 0) pa_nil (by rfl)) (by decide) (by decide) (by rfl) (by rfl)))))), ?_⟩
  cases c with
  | always  =>
    refine ⟨_, rfl, l, _, 0, .str "always", rfl, rfl, SqL.of o, atI_nat (j := 0) rfl, rfl, _, rfl, if_no (by decide +kernel) ?_⟩
    refine ⟨_, rfl, l, _, 0, .str "always", rfl, rfl, SqL.of o, atI_nat (j := 0) rfl, rfl, _, rfl, if_no (by decide +kernel) ?_⟩
    refine ⟨_, rfl, l, _, rfl, .inl ⟨SqL.of o, fun t ht => ?_⟩⟩
    exact q t _ (Same.upd ht) ht upd_same
  | above i =>
    have o : H l = some (.lst ([("sea" : Str), "above", toS i].map V.str)) := o
    refine ⟨_, rfl, l, _, 0, .str "sea", rfl, rfl, SqL.of o, atI_nat (j := 0) rfl, rfl, _, rfl, if_yes (by decide +kernel) ?_⟩
    refine ⟨_, rfl, _, rfl, _, rfl, l, _, rfl, SqL.of o, fun l1 h1 => ?_⟩
    have S1 := Same.upd (o := .lst (cutV ([("sea" : Str), "above", toS i].map V.str) (some 1) (some 2))) h1
    have r1 : upd H l1 (.lst (cutV ([("sea" : Str), "above", toS i].map V.str) (some 1) (some 2))) l1 = some (.lst [.str "above"]) := upd_same
    generalize upd H l1 (.lst (cutV ([("sea" : Str), "above", toS i].map V.str) (some 1) (some 2))) = H1 at S1 r1
    refine ⟨_, rfl, _, rfl, l, _, rfl, SqL.of (S1 _ _ o), fun l2 h2 => ?_⟩
    have S2 := Same.upd (o := .lst (cutV ([("sea" : Str), "above", toS i].map V.str) (some 2) none)) h2
    have r2 : upd H1 l2 (.lst (cutV ([("sea" : Str), "above", toS i].map V.str) (some 2) none)) l2 = some (.lst (([i].map toS).map V.str)) := upd_same
    generalize upd H1 l2 (.lst (cutV ([("sea" : Str), "above", toS i].map V.str) (some 2) none)) = H2 at S2 r2
    refine ⟨l2, rfl, ⟨_, SqL.of r2⟩, ?_⟩
    refine comp_list (F := K) (xs := ([i].map toS).map V.str) (by show 1 ≤ sizeLine; omega) (fun k ys H' => H2 = H' ∧ ys = ([i].take k).map V.int) ⟨rfl, rfl⟩ ?_ ?_ ?_
    · rintro k ys H' hk ⟨rfl, rfl⟩
      exact ⟨SqL.of r2, by rw [List.length_map, List.length_take]; omega⟩
    · rintro k xv ys H' K1 K2 hx ⟨rfl, rfl⟩ k1 k2
      obtain ⟨i', ei⟩ : ∃ i', [i][k]? = some i' := by
        have := (List.getElem?_eq_some_iff.mp hx).1
        rw [List.length_map, List.length_map] at this
        exact ⟨_, List.getElem?_eq_getElem this⟩
      rw [List.getElem?_map, List.getElem?_map, ei] at hx
      cases hx
      have hi : i'.natAbs ≤ 1000000 := by
        have m' := List.mem_of_getElem? ei
        simp only [List.mem_cons, List.mem_nil_iff, or_false] at m'
        subst m'; exact hb
      refine ⟨_, rfl, _, rfl, .str _, (fun z e => by cases e; have := toS_len hi; omega), ?_⟩
      rw [due_toS hi]
      refine k1 _ _ ⟨rfl, ?_⟩
      rw [List.take_add_one, ei, List.map_append]
      rfl
    rintro ys H' ⟨rfl, rfl⟩
    intro l3 h3
    have S3 := Same.upd (o := .lst ([i].map V.int)) h3
    refine ⟨l1, l3, _, _, rfl, rfl, (S2.trans S3) _ _ r1, upd_same, by show 1 + 1 ≤ sizeLine; omega, fun l4 h4 => ?_⟩
    have S4 := Same.upd (o := .lst ([V.str "above"] ++ [i].map V.int)) h4
    have T4 := S1.trans (S2.trans (S3.trans S4))
    refine ⟨l4, _, rfl, .inl ⟨SqL.of upd_same, fun t ht => ?_⟩⟩
    exact q t _ (T4.trans (Same.upd ht)) (T4.free ht) upd_same
  | below i =>
    have o : H l = some (.lst ([("sea" : Str), "below", toS i].map V.str)) := o
    refine ⟨_, rfl, l, _, 0, .str "sea", rfl, rfl, SqL.of o, atI_nat (j := 0) rfl, rfl, _, rfl, if_yes (by decide +kernel) ?_⟩
    refine ⟨_, rfl, _, rfl, _, rfl, l, _, rfl, SqL.of o, fun l1 h1 => ?_⟩
    have S1 := Same.upd (o := .lst (cutV ([("sea" : Str), "below", toS i].map V.str) (some 1) (some 2))) h1
    have r1 : upd H l1 (.lst (cutV ([("sea" : Str), "below", toS i].map V.str) (some 1) (some 2))) l1 = some (.lst [.str "below"]) := upd_same
    generalize upd H l1 (.lst (cutV ([("sea" : Str), "below", toS i].map V.str) (some 1) (some 2))) = H1 at S1 r1
    refine ⟨_, rfl, _, rfl, l, _, rfl, SqL.of (S1 _ _ o), fun l2 h2 => ?_⟩
    have S2 := Same.upd (o := .lst (cutV ([("sea" : Str), "below", toS i].map V.str) (some 2) none)) h2
    have r2 : upd H1 l2 (.lst (cutV ([("sea" : Str), "below", toS i].map V.str) (some 2) none)) l2 = some (.lst (([i].map toS).map V.str)) := upd_same
    generalize upd H1 l2 (.lst (cutV ([("sea" : Str), "below", toS i].map V.str) (some 2) none)) = H2 at S2 r2
    refine ⟨l2, rfl, ⟨_, SqL.of r2⟩, ?_⟩
    refine comp_list (F := K) (xs := ([i].map toS).map V.str) (by show 1 ≤ sizeLine; omega) (fun k ys H' => H2 = H' ∧ ys = ([i].take k).map V.int) ⟨rfl, rfl⟩ ?_ ?_ ?_
    · rintro k ys H' hk ⟨rfl, rfl⟩
      exact ⟨SqL.of r2, by rw [List.length_map, List.length_take]; omega⟩
    · rintro k xv ys H' K1 K2 hx ⟨rfl, rfl⟩ k1 k2
      obtain ⟨i', ei⟩ : ∃ i', [i][k]? = some i' := by
        have := (List.getElem?_eq_some_iff.mp hx).1
        rw [List.length_map, List.length_map] at this
        exact ⟨_, List.getElem?_eq_getElem this⟩
      rw [List.getElem?_map, List.getElem?_map, ei] at hx
      cases hx
      have hi : i'.natAbs ≤ 1000000 := by
        have m' := List.mem_of_getElem? ei
        simp only [List.mem_cons, List.mem_nil_iff, or_false] at m'
        subst m'; exact hb
      refine ⟨_, rfl, _, rfl, .str _, (fun z e => by cases e; have := toS_len hi; omega), ?_⟩
      rw [due_toS hi]
      refine k1 _ _ ⟨rfl, ?_⟩
      rw [List.take_add_one, ei, List.map_append]
      rfl
    rintro ys H' ⟨rfl, rfl⟩
    intro l3 h3
    have S3 := Same.upd (o := .lst ([i].map V.int)) h3
    refine ⟨l1, l3, _, _, rfl, rfl, (S2.trans S3) _ _ r1, upd_same, by show 1 + 1 ≤ sizeLine; omega, fun l4 h4 => ?_⟩
    have S4 := Same.upd (o := .lst ([V.str "below"] ++ [i].map V.int)) h4
    have T4 := S1.trans (S2.trans (S3.trans S4))
    refine ⟨l4, _, rfl, .inl ⟨SqL.of upd_same, fun t ht => ?_⟩⟩
    exact q t _ (T4.trans (Same.upd ht)) (T4.free ht) upd_same
  | wet z =>
    refine ⟨_, rfl, l, _, 0, .str "wet", rfl, rfl, SqL.of o, atI_nat (j := 0) rfl, rfl, _, rfl, if_no (by decide +kernel) ?_⟩
    refine ⟨_, rfl, l, _, 0, .str "wet", rfl, rfl, SqL.of o, atI_nat (j := 0) rfl, rfl, _, rfl, if_no (by decide +kernel) ?_⟩
    refine ⟨_, rfl, l, _, rfl, .inl ⟨SqL.of o, fun t ht => ?_⟩⟩
    exact q t _ (Same.upd ht) ht upd_same
  | dry z =>
    refine ⟨_, rfl, l, _, 0, .str "dry", rfl, rfl, SqL.of o, atI_nat (j := 0) rfl, rfl, _, rfl, if_no (by decide +kernel) ?_⟩
    refine ⟨_, rfl, l, _, 0, .str "dry", rfl, rfl, SqL.of o, atI_nat (j := 0) rfl, rfl, _, rfl, if_no (by decide +kernel) ?_⟩
    refine ⟨_, rfl, l, _, rfl, .inl ⟨SqL.of o, fun t ht => ?_⟩⟩
    exact q t _ (Same.upd ht) ht upd_same
  | day n m =>
    have o : H l = some (.lst ([("day" : Str), toS n, "of", toS m].map V.str)) := o
    refine ⟨_, rfl, l, _, 0, .str "day", rfl, rfl, SqL.of o, atI_nat (j := 0) rfl, rfl, _, rfl, if_no (by decide +kernel) ?_⟩
    refine ⟨_, rfl, l, _, 0, .str "day", rfl, rfl, SqL.of o, atI_nat (j := 0) rfl, rfl, _, rfl, if_yes (by decide +kernel) ?_⟩
    refine ⟨small_le rfl, fun l1 h1 => ?_⟩
    have S1 := Same.upd (o := .lst [.str "day"]) h1
    have r1 : upd H l1 (.lst [.str "day"]) l1 = some (.lst [.str "day"]) := upd_same
    generalize upd H l1 (.lst [.str "day"]) = H1 at S1 r1
    refine ⟨_, rfl, _, rfl, _, rfl, l, _, rfl, SqL.of (S1 _ _ o), fun la ha => ?_⟩
    have Sa := Same.upd (o := .lst (cutV ([("day" : Str), toS n, "of", toS m].map V.str) (some 1) (some 2))) ha
    have ra : upd H1 la (.lst (cutV ([("day" : Str), toS n, "of", toS m].map V.str) (some 1) (some 2))) la = some (.lst [.str (toS n)]) := upd_same
    generalize upd H1 la (.lst (cutV ([("day" : Str), toS n, "of", toS m].map V.str) (some 1) (some 2))) = Ha at Sa ra
    refine ⟨_, rfl, _, rfl, l, _, rfl, SqL.of (Sa _ _ (S1 _ _ o)), fun lb hb' => ?_⟩
    have Sb := Same.upd (o := .lst (cutV ([("day" : Str), toS n, "of", toS m].map V.str) (some 3) none)) hb'
    have rb : upd Ha lb (.lst (cutV ([("day" : Str), toS n, "of", toS m].map V.str) (some 3) none)) lb = some (.lst [.str (toS m)]) := upd_same
    generalize upd Ha lb (.lst (cutV ([("day" : Str), toS n, "of", toS m].map V.str) (some 3) none)) = Hb at Sb rb
    refine ⟨la, lb, _, _, rfl, rfl, Sb _ _ ra, rb, small_le rfl, fun l2 h2 => ?_⟩
    have Sc := Same.upd (o := .lst ([V.str (toS n)] ++ [V.str (toS m)])) h2
    have S2 := Sa.trans (Sb.trans Sc)
    have r2 : upd Hb l2 (.lst ([V.str (toS n)] ++ [V.str (toS m)])) l2 = some (.lst (([n, m].map toS).map V.str)) := upd_same
    generalize upd Hb l2 (.lst ([V.str (toS n)] ++ [V.str (toS m)])) = H2 at S2 r2
    refine ⟨l2, rfl, ⟨_, SqL.of r2⟩, ?_⟩
    refine comp_list (F := K) (xs := ([n, m].map toS).map V.str) (by show 2 ≤ sizeLine; omega) (fun k ys H' => H2 = H' ∧ ys = ([n, m].take k).map V.int) ⟨rfl, rfl⟩ ?_ ?_ ?_
    · rintro k ys H' hk ⟨rfl, rfl⟩
      exact ⟨SqL.of r2, by rw [List.length_map, List.length_take]; omega⟩
    · rintro k xv ys H' K1 K2 hx ⟨rfl, rfl⟩ k1 k2
      obtain ⟨i', ei⟩ : ∃ i', [n, m][k]? = some i' := by
        have := (List.getElem?_eq_some_iff.mp hx).1
        rw [List.length_map, List.length_map] at this
        exact ⟨_, List.getElem?_eq_getElem this⟩
      rw [List.getElem?_map, List.getElem?_map, ei] at hx
      cases hx
      have hi : i'.natAbs ≤ 1000000 := by
        have m' := List.mem_of_getElem? ei
        simp only [List.mem_cons, List.mem_nil_iff, or_false] at m'
        rcases m' with rfl | rfl
        · exact hb.1
        · exact hb.2
      refine ⟨_, rfl, _, rfl, .str _, (fun z e => by cases e; have := toS_len hi; omega), ?_⟩
      rw [due_toS hi]
      refine k1 _ _ ⟨rfl, ?_⟩
      rw [List.take_add_one, ei, List.map_append]
      rfl
    rintro ys H' ⟨rfl, rfl⟩
    intro l3 h3
    have S3 := Same.upd (o := .lst ([n, m].map V.int)) h3
    refine ⟨l1, l3, _, _, rfl, rfl, (S2.trans S3) _ _ r1, upd_same, by show 1 + 2 ≤ sizeLine; omega, fun l4 h4 => ?_⟩
    have S4 := Same.upd (o := .lst ([V.str "day"] ++ [n, m].map V.int)) h4
    have T4 := S1.trans (S2.trans (S3.trans S4))
    refine ⟨l4, _, rfl, .inl ⟨SqL.of upd_same, fun t ht => ?_⟩⟩
    exact q t _ (T4.trans (Same.upd ht)) (T4.free ht) upd_same

open Mt13 Mt11 Mt02
def off : List Cd → Nat
  | [] => 0
  | c :: r => c.words.length + 1 + off r
theorem off_snoc (c : Cd) : ∀ pre : List Cd, off (pre ++ [c]) = off pre + (c.words.length + 1)
  | [] => by show c.words.length + 1 + 0 = 0 + _; omega
  | d :: r => by
    show d.words.length + 1 + off (r ++ [c]) = d.words.length + 1 + off r + _
    rw [off_snoc c r]
    omega
theorem off_all : ∀ {cs : List Cd}, cs ≠ [] → off cs = (wordsCs cs).length + 1
  | [], h => absurd rfl h
  | [c], _ => rfl
  | c :: d :: r, _ => by
    show c.words.length + 1 + off (d :: r) = (c.words ++ ("and" : Str) :: wordsCs (d :: r)).length + 1
    rw [off_all (cs := d :: r) (by simp), List.length_append, List.length_cons]
    omega
def tailW : List Cd → List Str
  | [] => []
  | d :: r => ("and" : Str) :: wordsCs (d :: r)
theorem wordsCs_cons (c : Cd) (r : List Cd) : wordsCs (c :: r) = c.words ++ tailW r := by
  cases r with
  | nil => show c.words = c.words ++ []; rw [List.append_nil]
  | cons d r => rfl
theorem drop_off (c : Cd) (r : List Cd) : ∀ pre : List Cd, (wordsCs (pre ++ c :: r)).drop (off pre) = wordsCs (c :: r)
  | [] => rfl
  | d :: pre => by
    have ih := drop_off c r pre
    obtain ⟨e, r', he⟩ : ∃ e r', pre ++ c :: r = e :: r' := by
      cases pre with
      | nil => exact ⟨_, _, rfl⟩
      | cons e p => exact ⟨_, _, rfl⟩
    rw [List.cons_append, wordsCs_cons, he]
    rw [he] at ih
    show (d.words ++ ("and" : Str) :: wordsCs (e :: r')).drop (d.words.length + 1 + off pre) = _
    rw [← ih, ← List.drop_drop, ← List.drop_drop, List.drop_append_of_le_length (Nat.le_refl _), List.drop_length]
    rfl
theorem cut_two (xs : List V) (i j : Nat) : cutV xs (some (i : Int)) (some (j : Int)) = (xs.drop i).take (j - i) := by
  unfold cutV
  rw [HT.sIx_nat, HT.sIx_nat]
  by_cases hi : i ≤ xs.length
  · rw [Nat.min_eq_left hi]
    by_cases hj : j ≤ xs.length
    · rw [Nat.min_eq_left hj]
    · rw [Nat.min_eq_right (by omega), List.take_of_length_le (by rw [List.length_drop]; exact Nat.le_refl _), List.take_of_length_le (by rw [List.length_drop]; omega)]
  · rw [Nat.min_eq_right (by omega : xs.length ≤ i), List.drop_eq_nil_of_le (Nat.le_refl _), List.drop_eq_nil_of_le (by omega)]
    simp
abbrev wcs : List (Str × V) := [(("always" : Str), (.int 1)), (("sea" : Str), (.int 3)), (("wet" : Str), (.int 2)), (("dry" : Str), (.int 2)), (("day" : Str), (.int 4))]
theorem wc_of (c : Cd) : ∃ z ws, c.words = z :: ws ∧ (valV (gKV wcs) (Sum.inr z)).getD (.int 1) = .int (c.words.length : Nat) := by
  cases c with
  | always => exact ⟨_, _, rfl, by decide +kernel⟩
  | above i => exact ⟨_, _, rfl, show (valV (gKV wcs) (Sum.inr ("sea" : Str))).getD (.int 1) = .int 3 by decide +kernel⟩
  | below i => exact ⟨_, _, rfl, show (valV (gKV wcs) (Sum.inr ("sea" : Str))).getD (.int 1) = .int 3 by decide +kernel⟩
  | wet z => exact ⟨_, _, rfl, show (valV (gKV wcs) (Sum.inr ("wet" : Str))).getD (.int 1) = .int 2 by decide +kernel⟩
  | dry z => exact ⟨_, _, rfl, show (valV (gKV wcs) (Sum.inr ("dry" : Str))).getD (.int 1) = .int 2 by decide +kernel⟩
  | day n m => exact ⟨_, _, rfl, show (valV (gKV wcs) (Sum.inr ("day" : Str))).getD (.int 1) = .int 4 by decide +kernel⟩
theorem cd_hard (c : Cd) : hard c.dv = true := by cases c <;> rfl
theorem vs_is {H : Hp} {t : Addr} {c : Cd} (h : H t = some (.tup (vsOf c))) : Is H c.dv (.ref t) := by
  cases c with
  | always => exact ⟨t, _, rfl, h, _, _, rfl, rfl, rfl⟩
  | above i => exact ⟨t, _, rfl, h, _, _, rfl, rfl, _, _, rfl, rfl, rfl⟩
  | below i => exact ⟨t, _, rfl, h, _, _, rfl, rfl, _, _, rfl, rfl, rfl⟩
  | wet i => exact ⟨t, _, rfl, h, _, _, rfl, rfl, _, _, rfl, rfl, rfl⟩
  | dry i => exact ⟨t, _, rfl, h, _, _, rfl, rfl, _, _, rfl, rfl, rfl⟩
  | day n m => exact ⟨t, _, rfl, h, _, _, rfl, rfl, _, _, rfl, rfl, _, _, rfl, rfl, rfl⟩
def spCsIn : Sp := sp1 fun x H Q => ∃ (l : Addr) (cs : List Cd), x = .ref l ∧ H l = some (.lst ((wordsCs cs).map V.str)) ∧ cs ≠ [] ∧ cs.length ≤ 6 ∧ (∀ c ∈ cs, c.bnd) ∧ ∀ (lc : Addr) (us : List V) (H' : Hp), Same H H' → H lc = none → H' lc = some (.lst us) → IsL H' (cs.map Cd.dv) us → Q (.ref lc) H'
theorem ok_p_conditions_in (T : Txt w K mg C) : Fc P w K mg base 4 "conditions_in" ["words"] spCsIn := by
  obtain ⟨a_WORD_COUNTS, m_WORD_COUNTS, k_WORD_COUNTS⟩ := T.g_WORD_COUNTS
  have G_p_condition_in : Fc P w K mg base 3 "condition_in" ["words"] spCIn := ok_p_condition_in T
  refine T.d_p_conditions_in.fc sc_p_conditions_in len1 (fun f cdv A outer s H vs Q E hr h => ?_)
  obtain ⟨x, rfl, l, cs, rfl, o, ne, l6, hb, q⟩ := h
  have big := big1000
  have wl := wordsCs_len cs
  refine ⟨_, (@pss_cons _ _ _ _ _ (@ps_set _ _ (1) _ _ _ _ sc_p_conditions_in.nd rfl (Or.inl rfl) (@pe_lst _ _ _ _ pa_nil) (by rfl) (by first | exact .inl rfl | exact .inr rfl | assumption)) (@pss_cons _ _ _ _ _ (@ps_set _ _ (2) _ _ _ _ sc_p_conditions_in.nd rfl (Or.inl rfl) pe_int (by rfl) (by first | exact .inl rfl | exact .inr rfl | assumption)) (@pss_cons _ _ _ _ _ (@ps_while _ _ _ _ _ _ PassesOwn.never (@pt_cmpR _ _ _ _ _ _ _ _ op_lt (pv 2) (@pe_callB _ _ _ _ _ _ _ _ _ (@call_len_seqB _ (K) rfl) rfl T.n_len boot_len' (@pa_cons _ _ _ _ _ (pv 0) pa_nil (by rfl)) (by decide) (by decide) (by rfl) (by rfl)) (@nomark _ _ (by decide) (by decide))) (@pss_cons _ _ _ _ _ (@ps_set _ _ (3) _ _ _ _ sc_p_conditions_in.nd rfl (Or.inl rfl) (@pe_gdget2 _ _ _ _ _ _ _ _ _ _ _ k_WORD_COUNTS (@pe_glob _ _ (.ref a_WORD_COUNTS) _ _ rfl m_WORD_COUNTS rfl (by decide)) (@pe_ix _ _ _ _ _ _ _ (@ix_listB _ (K) rfl) (pv 0) (pv 2) (fun _ _ => rfl)) pe_int ⟨rfl, rfl, rfl, rfl⟩) (by rfl) (by first | exact .inl rfl | exact .inr rfl | assumption)) (@pss_cons _ _ _ _ _ (@ps_expr _ _ _ _ (@pe_bm _ _ _ _ _ _ _ _ _ _ _ _ PySem.F.plainAttrs_list PySem.F.slot_list_append PySem.F.type_list_append mt_append (pv 1) (@pa_cons _ _ _ _ _ (@pe_c _ _ _ _ _ _ _ _ _ _ G_p_condition_in (hr.mono (by decide)) (@pa_cons _ _ _ _ _ (@pe_slice _ _ _ _ _ _ _ _ _ _ (@sl_listB _ (K) rfl) (pv 0) (@po_some _ _ _ (pv 2)) (@po_some _ _ _ (@pe_op _ _ _ _ _ _ _ _ op_add (pv 2) (pv 3)))) pa_nil (by rfl)) (by rfl) (by decide) (by rfl) (by rfl)) pa_nil (by rfl)) (by rfl) (by rfl) (by rfl) (by rfl) (by rfl)) (by rfl)) (@pss_one _ _ _ (@ps_aug _ _ (2) _ _ _ _ _ _ sc_p_conditions_in.nd rfl (Or.inl rfl) (@pe_op _ _ _ _ _ _ _ _ op_add (pv 3) pe_int) ip_add (by first | exact .inl rfl | exact .inr rfl | assumption)))))) (@pss_one _ _ _ (@ps_ret _ _ _ _ (pv 1)))))), ?_⟩
  refine ⟨small_le rfl, fun lp hlp => ?_⟩
  have S1 := Same.upd (o := .lst []) hlp
  have h1 : upd H lp (.lst []) lp = some (.lst []) := upd_same
  generalize upd H lp (.lst []) = H1 at S1 h1
  skip
  refine while_by (fun σ H' => ∃ (pre rest : List Cd) (us : List V) (v : Option V), σ = [some (.ref l), some (.ref lp), some (.int (off pre : Nat)), v] ∧ cs = pre ++ rest ∧ Same H H' ∧ H' lp = some (.lst us) ∧ IsL H' (pre.map Cd.dv) us)
    (fun _ H' => match H' lp with | some (.lst us) => 14 - us.length | _ => 0) ⟨[], cs, [], _, rfl, rfl, S1, h1, rfl⟩ ?_ ?_
  · rintro σ H2 ⟨pre, rest, us, v, rfl, e, S2, h2, ius⟩
    have lus := ius.length
    rw [List.length_map] at lus
    have lw : ((wordsCs cs).map V.str).length = (wordsCs cs).length := List.length_map _
    refine ⟨_, rfl, _, rfl, l, _, rfl, .inl (SqL.of (S2 _ _ o)), _, _, rfl, rfl, _, rfl, ?_⟩
    rw [lw]
    cases rest with
    | nil =>
      rw [List.append_nil] at e
      subst e
      rw [decide_eq_false (by rw [off_all ne]; omega)]
      exact iteF ⟨_, rfl, q lp us H2 S2 hlp h2 ius⟩
    | cons c r =>
      have dr := drop_off c r pre
      rw [← e] at dr
      obtain ⟨z, ws, ew, ec⟩ := wc_of c
      rw [wordsCs_cons] at dr
      have lt : off pre < (wordsCs cs).length := by
        have := congrArg List.length dr
        rw [List.length_drop, List.length_append, ew, List.length_cons] at this
        omega
      have hat : (wordsCs cs)[off pre]? = some z := by
        have := congrArg (fun l => l[0]?) dr
        rw [ew] at this
        simpa using this
      have hcut : cutV ((wordsCs cs).map V.str) (some ((off pre : Nat) : Int)) (some ((off pre : Int) + (c.words.length : Nat))) = c.words.map V.str := by
        rw [show ((off pre : Int) + (c.words.length : Nat)) = ((off pre + c.words.length : Nat) : Int) by omega, cut_two, ← List.map_drop, dr, Nat.add_sub_cancel_left, ← List.map_take, List.take_append_of_le_length (Nat.le_refl _), List.take_length]
      rw [decide_eq_true (by omega)]
      refine iteT ?_
      refine ⟨rfl, _, rfl, _, rfl, l, _, _, .str z, rfl, rfl, SqL.of (S2 _ _ o), atI_nat (by rw [List.getElem?_map, hat]; rfl), z, rfl, ?_⟩
      rw [ec]
      refine ⟨_, rfl, .inl ⟨rfl, _, SqL.of h2⟩, ?_⟩
      refine ⟨_, rfl, _, rfl, _, rfl, _, rfl, _, rfl, _, _, rfl, rfl, _, rfl, l, _, rfl, SqL.of (S2 _ _ o), fun l1 h1' => ?_⟩
      have S3 := Same.upd (o := .lst (cutV ((wordsCs cs).map V.str) (some ((off pre : Nat) : Int)) (some ((off pre : Int) + (c.words.length : Nat))))) h1'
      have r3 : upd H2 l1 (.lst (cutV ((wordsCs cs).map V.str) (some ((off pre : Nat) : Int)) (some ((off pre : Int) + (c.words.length : Nat))))) l1 = some (.lst (c.words.map V.str)) := by rw [upd_same, hcut]
      refine ⟨_, rfl, l1, c, rfl, r3, hb c (by rw [e]; simp), fun t H4 S4 nt ot => ?_⟩
      have T4 := S3.trans S4
      have h4 := T4 _ _ h2
      have u6 : us.length ≤ 6 := by
        have := congrArg List.length e
        rw [List.length_append, List.length_cons] at this
        omega
      refine ⟨lp, us, .ref t, rfl, rfl, h4, by omega, ?_⟩
      have KT := KeepT.lst (o := .lst (us ++ [.ref t])) h4
      have S5 : Same H (upd H4 lp (.lst (us ++ [.ref t]))) := (S2.trans T4).over hlp
      refine ⟨_, rfl, _, rfl, _, _, rfl, rfl, _, _, rfl, rfl, ⟨pre ++ [c], r, us ++ [.ref t], some (.int (c.words.length : Nat)), ?_, by rw [e]; simp, S5, upd_same, ?_⟩, ?_⟩
      · rw [off_snoc]
        show [_, _, some (V.int ((off pre : Int) + ((c.words.length : Int) + 1))), _] = _
        rw [show ((off pre : Int) + ((c.words.length : Int) + 1)) = ((off pre + (c.words.length + 1) : Nat) : Int) by omega]
      · refine IsL.keep KT _ _ (hardL_of fun d m => ?_) ?_
        · obtain ⟨s, _, rfl⟩ := List.mem_map.mp m
          exact cd_hard s
        · rw [List.map_append]
          exact IsL.snoc (d := c.dv) (v := .ref t) (vs_is ot) (IsL.same T4 _ _ ius)
      · rw [h2, upd_same]
        dsimp only
        rw [List.length_append]
        show 14 - (us.length + 1) < 14 - us.length
        omega
  · intro σ H Q Q' h hc
    obtain ⟨x, e, y, e2, p, ys, e3, sq, i, j, e4, e5, b, eb, q⟩ := hc
    exact ⟨x, e, y, e2, p, ys, e3, sq, i, j, e4, e5, b, eb, h _ _ q⟩

open Mt13 Mt11 Mt02
def Fresh (H0 H : Hp) (n : Nat) (y : V) : Prop := ∃ (t lc : Addr) (a g : Str) (us : List V), y = .ref t ∧ H t = some (.tup [.str a, .str g, .ref lc]) ∧ H lc = some (.lst us) ∧ us.length ≤ n ∧ H0 lc = none
theorem Fresh.same {H0 H H' : Hp} {n : Nat} {y : V} (f : Fresh H0 H n y) (S : Same H H') : Fresh H0 H' n y := by
  obtain ⟨t, lc, a, g, us, rfl, h1, h2, h3, h4⟩ := f
  exact ⟨t, lc, a, g, us, rfl, S _ _ h1, S _ _ h2, h3, h4⟩
theorem dk_is {H : Hp} {t lc : Addr} {us : List V} {d : Dk} (o : H t = some (.tup [.str d.1, .str d.2.1, .ref lc])) (ol : H lc = some (.lst us)) (hl : IsL H (d.2.2.map Cd.dv) us) : Is H (dkD d) (.ref t) :=
  ⟨t, _, rfl, o, _, _, rfl, rfl, _, _, rfl, rfl, _, _, rfl, ⟨lc, us, rfl, ol, hl⟩, rfl⟩
def spDkIn : Sp := sp1 fun x H Q => ∃ (d : Dk), x = .str (showD d) ∧ DkOk d ∧ ∀ (t : Addr) (H' : Hp), Same H H' → H t = none → Is H' (dkD d) (.ref t) → Fresh H H' 6 (.ref t) → Q (.ref t) H'
theorem ok_p_decree_in (T : Txt w K mg C) : Fc P w K mg base 5 "decree_in" ["row"] spDkIn := by
  have G_p_conditions_in : Fc P w K mg base 4 "conditions_in" ["words"] spCsIn := ok_p_conditions_in T
  refine T.d_p_decree_in.fc sc_p_decree_in len1 (fun f cdv A outer s H vs Q E hr h => ?_)
  obtain ⟨x, rfl, d, rfl, ok, q⟩ := h
  have big := big1000
  have sp := ok.split
  have wl := ok.wlen
  have sl := ok.len
  refine ⟨_, (@pss_cons _ _ _ _ _ (@ps_set _ _ (1) _ _ _ _ sc_p_decree_in.nd rfl (Or.inl rfl) (pe_bmB (K := K) rfl (@pe_bm _ _ _ _ _ _ _ _ _ _ _ _ PySem.F.plainAttrs_str PySem.F.slot_str_split PySem.F.type_str_split mt_split (pv 0) (@pa_cons _ _ _ _ _ pe_str pa_nil (by rfl)) (by rfl) (by rfl) (by rfl) (by rfl) (by rfl))) (by rfl) (by first | exact .inl rfl | exact .inr rfl | assumption)) (@pss_one _ _ _ (@ps_ret _ _ _ _ (@pe_callTy _ _ _ _ _ _ _ _ _ call_tuple_of rfl T.n_tuple boot_tuple' (@pa_cons _ _ _ _ _ (@pe_op _ _ _ _ _ _ _ _ op_cat (@pe_slice _ _ _ _ _ _ _ _ _ _ (@sl_listB _ (K) rfl) (pv 1) po_none (@po_some _ _ _ pe_int)) (@pe_lst _ _ _ _ (@pa_cons _ _ _ _ _ (@pe_c _ _ _ _ _ _ _ _ _ _ G_p_conditions_in (hr.mono (by decide)) (@pa_cons _ _ _ _ _ (@pe_slice _ _ _ _ _ _ _ _ _ _ (@sl_listB _ (K) rfl) (pv 1) (@po_some _ _ _ pe_int) po_none) pa_nil (by rfl)) (by rfl) (by decide) (by rfl) (by rfl)) pa_nil (by rfl)))) pa_nil (by rfl)) (by decide) (by decide) (by rfl) (by rfl))))), ?_⟩
  refine ⟨_, rfl, rfl, _, _, rfl, rfl, rfl, by omega, by rw [sp]; omega, fun l1 h1 => ?_⟩
  rw [sp]
  have S1 := Same.upd (o := .lst ((wordsK d).map V.str)) h1
  have r1 : upd H l1 (.lst ((wordsK d).map V.str)) l1 = some (.lst ((wordsK d).map V.str)) := upd_same
  generalize upd H l1 (.lst ((wordsK d).map V.str)) = H1 at S1 r1
  refine ⟨_, rfl, _, rfl, l1, _, rfl, SqL.of r1, fun l2 h2 => ?_⟩
  have S2 := Same.upd (o := .lst (cutV ((wordsK d).map V.str) none (some 2))) h2
  have r2 : upd H1 l2 (.lst (cutV ((wordsK d).map V.str) none (some 2))) l2 = some (.lst [.str d.1, .str d.2.1]) := by
    rw [upd_same, show (some (2 : Int)) = some ((2 : Nat) : Int) from rfl, cut_take]
    rfl
  generalize upd H1 l2 (.lst (cutV ((wordsK d).map V.str) none (some 2))) = H2 at S2 r2
  refine ⟨_, rfl, _, rfl, l1, _, rfl, SqL.of (S2 _ _ r1), fun l3 h3 => ?_⟩
  have S3 := Same.upd (o := .lst (cutV ((wordsK d).map V.str) (some 3) none)) h3
  have r3 : upd H2 l3 (.lst (cutV ((wordsK d).map V.str) (some 3) none)) l3 = some (.lst ((wordsCs d.2.2).map V.str)) := by
    rw [upd_same, show (some (3 : Int)) = some ((3 : Nat) : Int) from rfl, cut_drop]
    rfl
  generalize upd H2 l3 (.lst (cutV ((wordsK d).map V.str) (some 3) none)) = H3 at S3 r3
  refine ⟨_, rfl, l3, d.2.2, rfl, r3, ok.ne, ok.l6, ok.cs, fun lc us H4 S4 nlc hlc hus => ?_⟩
  have T3 := S1.trans (S2.trans S3)
  refine ⟨small_le rfl, fun l5 h5 => ?_⟩
  have S5 := Same.upd (o := .lst [.ref lc]) h5
  refine ⟨l2, l5, _, _, rfl, rfl, (S3.trans (S4.trans S5)) _ _ r2, upd_same, small_le rfl, fun l6 h6 => ?_⟩
  have S6 := Same.upd (o := .lst ([V.str d.1, V.str d.2.1] ++ [V.ref lc])) h6
  refine ⟨l6, _, rfl, .inl ⟨SqL.of upd_same, fun t ht => ?_⟩⟩
  have S7 := Same.upd (o := .tup ([V.str d.1, V.str d.2.1] ++ [V.ref lc])) ht
  have U := S5.trans (S6.trans S7)
  have lus := hus.length
  have l6' := ok.l6
  rw [List.length_map] at lus
  exact q t _ (T3.trans (S4.trans U)) ((T3.trans (S4.trans (S5.trans S6))).free ht) (dk_is upd_same (U _ _ hlc) (IsL.same U _ _ hus)) ⟨t, lc, _, _, us, rfl, upd_same, U _ _ hlc, by omega, T3.free nlc⟩
theorem show_ne {d : Dk} (h : DkOk d) : showD d ≠ "" := fun e => by
  have sp := h.split
  rw [e] at sp
  have l1 : (Txt.split "" " ").length = 1 := by decide +kernel
  rw [sp] at l1
  unfold wordsK at l1
  rw [List.length_append] at l1
  have : ([d.1, d.2.1, ("when" : Str)] : List Str).length = 3 := rfl
  omega
theorem shows_ne {ds : List Dk} (h : ∀ d ∈ ds, DkOk d) (ne : ds ≠ []) : showDs ds ≠ "" := fun e => by
  have sp := split_show ne h
  rw [e, show Txt.split "" "\n" = [("" : Str)] by decide +kernel] at sp
  cases ds with
  | nil => exact ne rfl
  | cons d r =>
    rw [List.map_cons] at sp
    exact show_ne (h d List.mem_cons_self) (List.cons.inj sp).1.symm
theorem shows_len {ds : List Dk} (h : ∀ d ∈ ds, DkOk d) (l : ds.length ≤ 60) : (showDs ds).length ≤ 20000 := by
  have := sum_le (k := 300) (zs := ds.map showD) fun z m => by
    obtain ⟨d, md, rfl⟩ := List.mem_map.mp m
    exact (h d md).len
  have j := join_len' "\n" (ds.map showD)
  rw [List.length_map] at this j
  rw [show ("\n" : Str).length = 1 by decide +kernel] at j
  unfold showDs
  omega

open Mt13 Mt11 Mt02
structure DksOk (gs zs : List Str) (ds : List Dk) : Prop where
  ok : ∀ d ∈ ds, DkOk d
  l : ds.length ≤ 60
  are : areDecs gs zs (.lst (ds.map dkD)) = true
  sm : small (.lst (ds.map dkD)) = true
def FreshL (H0 H : Hp) (n : Nat) (lr : Addr) (y : V) : Prop := ∃ (t lc : Addr) (a g : Str) (us : List V), y = .ref t ∧ H t = some (.tup [.str a, .str g, .ref lc]) ∧ H lc = some (.lst us) ∧ us.length ≤ n ∧ H0 lc = none ∧ lc ≠ lr
theorem Fresh.up {H0 H H' : Hp} {n : Nat} {lr : Addr} {y : V} (f : Fresh H0 H n y) (hl : H lr = none) (S : Same H H') : FreshL H0 H' n lr y := by
  obtain ⟨t, lc, a, g, us, rfl, h1, h2, h3, h4⟩ := f
  exact ⟨t, lc, a, g, us, rfl, S _ _ h1, S _ _ h2, h3, h4, fun e => by rw [e, hl] at h2; cases h2⟩
def spReadDs (C : Addr) : Sp := sp2 fun x y H Q => ∃ (p : Addr) (fs dks : List Dv) (ds : List Dk), x = .ref p ∧ y = .str (showDs ds) ∧ LandAt C H p fs dks ∧ DksOk ((dks.filter hasSill).map nmOf) (fs.map nmOf) ds ∧ ∀ (lr : Addr) (ys : List V) (H' : Hp), Same H H' → H lr = none → H' lr = some (.lst ys) → IsL H' (ds.map dkD) ys → (∀ y ∈ ys, FreshL H H' 6 lr y) → Q (.ref lr) H'
theorem ok_p_read_decrees (T : Txt w K mg C) : Fc P w K mg base 6 "read_decrees" ["land", "text"] (spReadDs C) := by
  have G_p_decree_in : Fc P w K mg base 5 "decree_in" ["row"] spDkIn := ok_p_decree_in T
  have G_p_are_decrees : Fc P w K mg base 5 "are_decrees" ["land", "thing"] (spDecs C) := ok_p_are_decrees T
  have G_p_show_decrees : Fc P w K mg base 3 "show_decrees" ["decrees"] spShowDs := ok_p_show_decrees T
  refine T.d_p_read_decrees.fc sc_p_read_decrees len2 (fun f cdv A outer s H vs Q E hr h => ?_)
  obtain ⟨x, y, rfl, p, fs, dks, ds, rfl, rfl, L, D, q⟩ := h
  have big : 20000 ≤ sizeLine := by decide
  have sl := shows_len D.ok D.l
  have l60 := D.l
  refine ⟨_, (@pss_cons _ _ _ _ _ (@ps_if _ _ _ _ _ _ _ _ (@pt_not _ _ _ _ (@pt_val _ _ _ (@pe_callB _ _ _ _ _ _ _ _ _ (@call_isinstB _ (K) rfl) rfl T.n_isinstance boot_isinstance (@pa_cons _ _ _ _ _ (pv 1) (@pa_cons _ _ _ _ _ (@pe_ty _ _ _ _ T.n_str boot_str' (by rfl) (by decide) (by decide)) pa_nil (by rfl)) (by rfl)) (by decide) (by decide) (by rfl) (by rfl)) (by intro _; rfl))) (@pss_one _ _ _ ps_never) pss_nil) (@pss_cons _ _ _ _ _ (@ps_if _ _ _ _ _ _ _ _ (@pt_cmpR _ _ _ _ _ _ _ _ op_eq (pv 1) pe_str (@nomark _ _ (by decide) (by decide))) (@pss_one _ _ _ (@ps_ret _ _ _ _ (@pe_lst _ _ _ _ pa_nil))) pss_nil) (@pss_cons _ _ _ _ _ (@ps_setComp _ (2) _ _ _ _ _ _ _ _ _ _ _ _ _ sc_p_read_decrees.nd rfl ["row"] 1 [] rfl (@pi_list _ _ _ _ (pe_bmB (K := K) rfl (@pe_bm _ _ _ _ _ _ _ _ _ _ _ _ PySem.F.plainAttrs_str PySem.F.slot_str_split PySem.F.type_str_split mt_split (pv 1) (@pa_cons _ _ _ _ _ pe_str pa_nil (by rfl)) (by rfl) (by rfl) (by rfl) (by rfl) (by rfl)))) (fun R => @pg_name _ _ (0) _ (show List.Nodup (["row"] : List Str) by decide +kernel) rfl (Or.inl rfl) (by first | exact .inl rfl | exact .inr rfl | assumption)) (@gkeep_name _ _ (by decide)) (fun R => pifs_nil) (fun R => (@pe_c _ _ _ _ _ _ _ _ _ _ G_p_decree_in (hr.mono (by decide)) (@pa_cons _ _ _ _ _ (pv 0) pa_nil (by rfl)) (by rfl) (by decide) (by rfl) (by rfl))) (by exact Or.inl rfl) (by first | exact .inl rfl | exact .inr rfl | assumption) (by rfl) (by rfl) (by rfl) (by rfl) (by rfl) (by rfl) (by rfl) (by rfl) (by intro _; rfl)) (@pss_cons _ _ _ _ _ (@ps_if _ _ _ _ _ _ _ _ (@PW.pt _ _ _ (@pw_or _ _ _ _ _ _ _ (@pt_not _ _ _ _ (@pt_val _ _ _ (@pe_c _ _ _ _ _ _ _ _ _ _ G_p_are_decrees (hr.mono (by decide)) (@pa_cons _ _ _ _ _ (pv 0) (@pa_cons _ _ _ _ _ (pv 2) pa_nil (by rfl)) (by rfl)) (by rfl) (by decide) (by rfl) (by rfl)) (by intro _; rfl))) (@pw_or1 _ _ _ _ (@pt_cmpR _ _ _ _ _ _ _ _ op_ne (@pe_c _ _ _ _ _ _ _ _ _ _ G_p_show_decrees (hr.mono (by decide)) (@pa_cons _ _ _ _ _ (pv 2) pa_nil (by rfl)) (by rfl) (by decide) (by rfl) (by rfl)) (pv 1) (@nomark _ _ (by decide) (by decide)))))) (@pss_one _ _ _ ps_never) pss_nil) (@pss_one _ _ _ (@ps_ret _ _ _ _ (pv 2))))))), ?_⟩
  refine ⟨_, rfl, _, _, _, _, _, rfl, rfl, TyOf.str _, kit_self _ _, _, rfl, ?_⟩
  refine ⟨_, rfl, rfl, _, rfl, ?_⟩
  by_cases ne : ds = []
  · subst ne
    refine if_yes (by decide +kernel) ⟨small_le rfl, fun l hl => ?_⟩
    exact q l [] _ (Same.upd hl) hl upd_same rfl (fun y m => nomatch m)
  refine if_no (decide_eq_false (shows_ne D.ok ne)) ?_
  have sp := split_show ne D.ok
  refine ⟨_, rfl, rfl, _, _, rfl, rfl, rfl, by omega, by rw [sp, List.length_map]; omega, fun l1 h1 => ?_⟩
  rw [sp]
  have S1 := Same.upd (o := .lst ((ds.map showD).map V.str)) h1
  have r1 : upd H l1 (.lst ((ds.map showD).map V.str)) l1 = some (.lst ((ds.map showD).map V.str)) := upd_same
  generalize upd H l1 (.lst ((ds.map showD).map V.str)) = H1 at S1 r1
  refine ⟨l1, rfl, ⟨_, SqL.of r1⟩, ?_⟩
  refine comp_list (F := K) (xs := (ds.map showD).map V.str) (by rw [List.length_map, List.length_map]; omega) (fun i ys H' => Same H1 H' ∧ IsL H' ((ds.take i).map dkD) ys ∧ ∀ y ∈ ys, Fresh H H' 6 y) ⟨Same.refl _, rfl, fun y m => nomatch m⟩ ?_ ?_ ?_
  · rintro i ys H' hi ⟨S', iy, fy⟩
    refine ⟨SqL.of (S' _ _ r1), ?_⟩
    have := iy.length
    rw [List.length_map, List.length_take] at this
    omega
  · rintro i xv ys H' K1 K2 hx' ⟨S', iy, fy⟩ k1 k2
    rw [List.getElem?_map, List.getElem?_map] at hx'
    obtain ⟨z, ez, rfl⟩ := Option.map_eq_some_iff.mp hx'
    obtain ⟨d, ed, rfl⟩ := Option.map_eq_some_iff.mp ez
    refine ⟨_, rfl, _, rfl, d, rfl, D.ok d (List.mem_of_getElem? ed), fun t H2 S2 nt it ft => k1 _ _ ⟨S'.trans S2, ?_, fun y m => ?_⟩⟩
    · rw [List.take_add_one, ed, List.map_append]
      exact IsL.snoc it (IsL.same S2 _ _ iy)
    · rcases List.mem_append.mp m with m | m
      · exact (fy y m).same S2
      · rw [List.mem_singleton.mp m]
        obtain ⟨t', lc, a, g, us, e1, e2, e3, e4, e5⟩ := ft
        exact ⟨t', lc, a, g, us, e1, e2, e3, e4, (S1.trans S').free e5⟩
  rintro ys H2 ⟨S2, iy, fy⟩
  rw [List.length_map, List.length_map, List.take_of_length_le (Nat.le_refl _)] at iy
  intro lr hlr
  have S3 := Same.upd (o := .lst ys) hlr
  have r3 : upd H2 lr (.lst ys) lr = some (.lst ys) := upd_same
  have nlr := (S1.trans S2).free hlr
  generalize upd H2 lr (.lst ys) = H3 at S3 r3
  have T3 := S1.trans (S2.trans S3)
  have iy3 := IsL.same S3 _ _ iy
  refine ⟨_, rfl, _, rfl, _, _, rfl, p, fs, dks, .lst (ds.map dkD), rfl, L.same T3, ⟨lr, ys, rfl, r3, iy3⟩, D.sm, fun H4 S4 => ?_⟩
  rw [D.are]
  refine ⟨_, rfl, iteF ?_⟩
  refine ⟨_, rfl, _, rfl, lr, ys, ds, rfl, S4 _ _ r3, IsL.same S4 _ _ iy3, D.ok, D.l, fun H5 S5 => ?_⟩
  refine ⟨_, rfl, rfl, _, rfl, ?_⟩
  rw [decide_eq_true (rfl : V.str (showDs ds) = V.str (showDs ds))]
  have T5 := S4.trans S5
  exact ⟨_, rfl, q lr ys _ (T3.trans T5) nlr (T5 _ _ r3) (IsL.same T5 _ _ iy3) fun y m => (fy y m).up hlr (S3.trans T5)⟩

open Mt13 Mt11 Mt02
def upW (d : Dk) (k : Nat) : List Str := [d.1, d.2.1, "when"] ++ wordsCs (d.2.2.take k)
theorem upW_ne (d : Dk) (k : Nat) : upW d k ≠ [] := by unfold upW; simp
theorem wordsCs_snoc (c : Cd) : ∀ {pre : List Cd}, pre ≠ [] → wordsCs (pre ++ [c]) = wordsCs pre ++ ("and" : Str) :: c.words
  | [], h => absurd rfl h
  | [d], _ => rfl
  | d :: e :: r, _ => by
    show d.words ++ ("and" : Str) :: wordsCs ((e :: r) ++ [c]) = (d.words ++ ("and" : Str) :: wordsCs (e :: r)) ++ _
    rw [wordsCs_snoc c (pre := e :: r) (by simp), List.append_assoc, List.cons_append]
theorem row_snoc {xs : List Str} (ne : xs ≠ []) (z : Str) : rowOf (xs ++ [z]) = rowOf xs ++ " " ++ z := by
  refine str_ext ?_
  rw [cat_list, cat_list, row_list, row_list, List.map_append, cj_app (by simpa using ne) (by simp), l_blank, List.append_assoc]
  rfl
theorem l_sea : (" sea " : Str) = (" " : Str) ++ "sea" ++ " " := by decide +kernel
theorem l_day : (" day " : Str) = (" " : Str) ++ "day" ++ " " := by decide +kernel
theorem l_of : (" of " : Str) = (" " : Str) ++ "of" ++ " " := by decide +kernel
theorem l_and' : (" and" : Str) = (" " : Str) ++ "and" := by decide +kernel
theorem l_when : (" when" : Str) = (" " : Str) ++ "when" := by decide +kernel
theorem sapp (a b c : Str) : a ++ b ++ c = a ++ (b ++ c) := by
  refine str_ext ?_
  simp only [cat_list, List.append_assoc]
theorem row_app {xs ys : List Str} (nx : xs ≠ []) (ny : ys ≠ []) : rowOf (xs ++ ys) = rowOf xs ++ " " ++ rowOf ys := by
  refine str_ext ?_
  rw [cat_list, cat_list, row_list, row_list, row_list, List.map_append, cj_app (by simpa using nx) (by simpa using ny), l_blank, List.append_assoc]
  rfl
theorem row3 (a g : Str) : a ++ " " ++ g ++ " when" = rowOf [a, g, "when"] := by
  refine str_ext ?_
  rw [l_when]
  simp only [row_list, cat_list, l_blank, List.map_cons, List.map_nil, cj, List.append_assoc, List.cons_append, List.nil_append]
def preW (d : Dk) (k : Nat) : List Str := if k = 0 then upW d 0 else upW d k ++ [("and" : Str)]
theorem preW_ne (d : Dk) (k : Nat) : preW d k ≠ [] := by unfold preW; split <;> simp [upW]
theorem up_step {d : Dk} {k : Nat} {c : Cd} (e : d.2.2[k]? = some c) : upW d (k + 1) = preW d k ++ c.words := by
  unfold upW preW upW
  rw [List.take_add_one, e]
  cases k with
  | zero => 
    rw [if_pos rfl]
    rfl
  | succ k =>
    rw [if_neg (by omega)]
    have hk := (List.getElem?_eq_some_iff.mp e).1
    have ne : d.2.2.take (k + 1) ≠ [] := fun h => by
      have := congrArg List.length h
      rw [List.length_take] at this
      have h0 : ([] : List Cd).length = 0 := rfl
      omega
    show [d.1, d.2.1, "when"] ++ wordsCs (d.2.2.take (k + 1) ++ [c]) = _
    rw [wordsCs_snoc c ne, List.append_assoc, List.append_assoc]
    rfl
theorem line_sea {xs : List Str} (ne : xs ≠ []) (z n : Str) : rowOf xs ++ " sea " ++ z ++ " " ++ n = rowOf (xs ++ [("sea" : Str), z, n]) := by
  rw [row_app ne (by simp), l_sea]
  refine str_ext ?_
  simp only [row_list, cat_list, l_blank, List.map_cons, List.map_nil, cj, List.append_assoc, List.cons_append, List.nil_append]
theorem line_day {xs : List Str} (ne : xs ≠ []) (z n : Str) : rowOf xs ++ " day " ++ z ++ " of " ++ n = rowOf (xs ++ [("day" : Str), z, "of", n]) := by
  rw [row_app ne (by simp), l_day, l_of]
  refine str_ext ?_
  simp only [row_list, cat_list, l_blank, List.map_cons, List.map_nil, cj, List.append_assoc, List.cons_append, List.nil_append]
theorem up_ok {d : Dk} (h : DkOk d) (k : Nat) : (∀ z ∈ upW d k, z.length ≤ 8 ∧ word z) ∧ (upW d k).length ≤ 33 := by
  unfold upW
  constructor
  · intro z m
    rcases List.mem_append.mp m with m | m
    · exact h.words z (List.mem_append_left _ m)
    · exact wordsCs_all (fun c mc => h.cs c (List.mem_of_mem_take mc)) z m
  · rw [List.length_append]
    have := wordsCs_len (d.2.2.take k)
    have := h.l6
    rw [List.length_take] at *
    show 3 + _ ≤ 33
    omega
theorem up_len {d : Dk} (h : DkOk d) (k : Nat) : (rowOf (upW d k)).length ≤ 300 := by
  have := row_len (k := 8) fun z m => ((up_ok h k).1 z m).1
  have := (up_ok h k).2
  omega
theorem pre_len {d : Dk} (h : DkOk d) (k : Nat) : (rowOf (preW d k)).length ≤ 310 := by
  unfold preW
  split
  · have := up_len h 0
    omega
  · rw [row_snoc (upW_ne d k), Str.length_append, Str.length_append, n_blank, show ("and" : Str).length = 3 by decide +kernel]
    have := up_len h k
    omega
theorem if_and {te : TE} {D : Ends} {σ : St} {H : Hp} {b : Bool} (σ' : St) (h1 : b = true → ∀ D' : Ends, D'.nx σ' H → tAsg te (gName 1) D' σ H) (h2 : b = false → σ = σ') (q : D.nx σ' H) : if b = true then tAsg te (gName 1) D σ H else tNext D σ H := by
  cases b with
  | true => exact iteT (h1 rfl D q)
  | false =>
    rw [h2 rfl]
    exact iteF q
def spLine : Sp := sp1 fun x H Q => ∃ d : Dk, Is H (dkD d) x ∧ DkOk d ∧ Q (.str (showD d)) H
theorem ok_l_line (T : Txt w K mg C) : Fc P w K mg base 1 "_law_line" ["_law_decree_here"] spLine := by
  refine T.d_l_line.fc sc_l_line len1 (fun f cdv A outer s H vs Q E hr h => ?_)
  obtain ⟨x, rfl, d, hx, ok, q⟩ := h
  have big : 20000 ≤ sizeLine := by decide
  obtain ⟨t, l, us, rfl, o, ol, hl⟩ := dec_at hx
  have lu := isL_len hl
  have l6 := ok.l6
  rw [List.length_map] at lu
  have a8 := ok.a.1
  have g8 := ok.g.1
  refine ⟨_, (@pss_cons _ _ _ _ _ (@ps_set _ _ (1) _ _ _ _ sc_l_line.nd rfl (Or.inl rfl) (@pe_op _ _ _ _ _ _ _ _ op_add_str (@pe_op _ _ _ _ _ _ _ _ op_add_str (@pe_op _ _ _ _ _ _ _ _ op_add_str (@pe_ix _ _ _ _ _ _ _ (@ix_tupB _ (K) rfl) (pv 0) pe_int (fun _ _ => rfl)) pe_str) (@pe_ix _ _ _ _ _ _ _ (@ix_tupB _ (K) rfl) (pv 0) pe_int (fun _ _ => rfl))) pe_str) (by rfl) (by first | exact .inl rfl | exact .inr rfl | assumption)) (@pss_cons _ _ _ _ _ (@ps_for _ _ _ _ _ _ _ _ PassesOwn.never rfl (@pi_range1 _ _ _ _ _ _ rfl T.n_range (@pa_cons _ _ _ _ _ (@pe_callB _ _ _ _ _ _ _ _ _ (@call_len_seqB _ (K) rfl) rfl T.n_len boot_len' (@pa_cons _ _ _ _ _ (@pe_ix _ _ _ _ _ _ _ (@ix_tupB _ (K) rfl) (pv 0) pe_int (fun _ _ => rfl)) pa_nil (by rfl)) (by decide) (by decide) (by rfl) (by rfl)) pa_nil (by rfl)) (by rfl)) (@pg_name _ _ (2) _ sc_l_line.nd rfl (Or.inl rfl) (by first | exact .inl rfl | exact .inr rfl | assumption)) (@pss_cons _ _ _ _ _ (@ps_set _ _ (3) _ _ _ _ sc_l_line.nd rfl (Or.inl rfl) (@pe_ix _ _ _ _ _ _ _ (@ix_listB _ (K) rfl) (@pe_ix _ _ _ _ _ _ _ (@ix_tupB _ (K) rfl) (pv 0) pe_int (fun _ _ => rfl)) (pv 2) (fun _ _ => rfl)) (by rfl) (by first | exact .inl rfl | exact .inr rfl | assumption)) (@pss_cons _ _ _ _ _ (@ps_if _ _ _ _ _ _ _ _ (@pt_cmpR _ _ _ _ _ _ _ _ op_gt (pv 2) pe_int (@nomark _ _ (by decide) (by decide))) (@pss_one _ _ _ (@ps_set _ _ (1) _ _ _ _ sc_l_line.nd rfl (Or.inl rfl) (@pe_op _ _ _ _ _ _ _ _ op_add_str (pv 1) pe_str) (by rfl) (by first | exact .inl rfl | exact .inr rfl | assumption))) pss_nil) (@pss_one _ _ _ (@ps_if _ _ _ _ _ _ _ _ (@PW.pt _ _ _ (@pw_or _ _ _ _ _ _ _ (@pt_cmpR _ _ _ _ _ _ _ _ op_eq (@pe_ix _ _ _ _ _ _ _ (@ix_tupB _ (K) rfl) (pv 3) pe_int (fun _ _ => rfl)) pe_str (@nomark _ _ (by decide) (by decide))) (@pw_or1 _ _ _ _ (@pt_cmpR _ _ _ _ _ _ _ _ op_eq (@pe_ix _ _ _ _ _ _ _ (@ix_tupB _ (K) rfl) (pv 3) pe_int (fun _ _ => rfl)) pe_str (@nomark _ _ (by decide) (by decide)))))) (@pss_one _ _ _ (@ps_set _ _ (1) _ _ _ _ sc_l_line.nd rfl (Or.inl rfl) (@pe_op _ _ _ _ _ _ _ _ op_add_str (@pe_op _ _ _ _ _ _ _ _ op_add_str (@pe_op _ _ _ _ _ _ _ _ op_add_str (@pe_op _ _ _ _ _ _ _ _ op_add_str (pv 1) pe_str) (@pe_ix _ _ _ _ _ _ _ (@ix_tupB _ (K) rfl) (pv 3) pe_int (fun _ _ => rfl))) pe_str) (@pe_callTy _ _ _ _ _ _ _ _ _ call_str_any rfl T.n_str boot_str' (@pa_cons _ _ _ _ _ (@pe_ix _ _ _ _ _ _ _ (@ix_tupB _ (K) rfl) (pv 3) pe_int (fun _ _ => rfl)) pa_nil (by rfl)) (by decide) (by decide) (by rfl) (by rfl))) (by rfl) (by first | exact .inl rfl | exact .inr rfl | assumption))) (@pss_one _ _ _ (@ps_if _ _ _ _ _ _ _ _ (@pt_cmpR _ _ _ _ _ _ _ _ op_eq (@pe_ix _ _ _ _ _ _ _ (@ix_tupB _ (K) rfl) (pv 3) pe_int (fun _ _ => rfl)) pe_str (@nomark _ _ (by decide) (by decide))) (@pss_one _ _ _ (@ps_set _ _ (1) _ _ _ _ sc_l_line.nd rfl (Or.inl rfl) (@pe_op _ _ _ _ _ _ _ _ op_add_str (@pe_op _ _ _ _ _ _ _ _ op_add_str (@pe_op _ _ _ _ _ _ _ _ op_add_str (@pe_op _ _ _ _ _ _ _ _ op_add_str (pv 1) pe_str) (@pe_callTy _ _ _ _ _ _ _ _ _ call_str_any rfl T.n_str boot_str' (@pa_cons _ _ _ _ _ (@pe_ix _ _ _ _ _ _ _ (@ix_tupB _ (K) rfl) (pv 3) pe_int (fun _ _ => rfl)) pa_nil (by rfl)) (by decide) (by decide) (by rfl) (by rfl))) pe_str) (@pe_callTy _ _ _ _ _ _ _ _ _ call_str_any rfl T.n_str boot_str' (@pa_cons _ _ _ _ _ (@pe_ix _ _ _ _ _ _ _ (@ix_tupB _ (K) rfl) (pv 3) pe_int (fun _ _ => rfl)) pa_nil (by rfl)) (by decide) (by decide) (by rfl) (by rfl))) (by rfl) (by first | exact .inl rfl | exact .inr rfl | assumption))) (@pss_one _ _ _ (@ps_set _ _ (1) _ _ _ _ sc_l_line.nd rfl (Or.inl rfl) (@pe_op _ _ _ _ _ _ _ _ op_add_str (@pe_op _ _ _ _ _ _ _ _ op_add_str (pv 1) pe_str) (@pe_bm _ _ _ _ _ _ _ _ _ _ _ _ PySem.F.plainAttrs_str PySem.F.slot_str_join PySem.F.type_str_join mt_joinT pe_str (@pa_cons _ _ _ _ _ (pv 3) pa_nil (by rfl)) (by rfl) (by rfl) (by rfl) (by rfl) (by rfl))) (by rfl) (by first | exact .inl rfl | exact .inr rfl | assumption))))))))) (by intro _; rfl)) (@pss_one _ _ _ (@ps_ret _ _ _ _ (pv 1))))), ?_⟩
  refine ⟨_, rfl, t, _, 0, .str d.1, rfl, rfl, SqT.of o, atI_nat (j := 0) rfl, _, _, rfl, rfl, by rw [n_blank]; omega, ?_⟩
  refine ⟨_, rfl, t, _, 1, .str d.2.1, rfl, rfl, SqT.of o, atI_nat (j := 1) rfl, _, _, rfl, rfl, by simp only [Str.length_append, n_blank]; omega, ?_⟩
  refine ⟨_, _, rfl, rfl, by simp only [Str.length_append, n_blank, show (" when" : Str).length = 5 by decide +kernel]; omega, ?_⟩
  rw [row3]
  refine ⟨_, rfl, t, _, 2, .ref l, rfl, rfl, SqT.of o, atI_nat (j := 2) rfl, l, us, rfl, .inl (SqL.of ol), _, rfl, by omega, by omega, ?_⟩
  rw [Int.toNat_natCast, ← lu]
  refine for_range (lo := 0) (n := d.2.2.length) (fun i σ H' => ∃ v2 v3, σ = [some (.ref t), some (.str (rowOf (upW d i))), v2, v3] ∧ H' = H) ⟨_, _, rfl, rfl⟩ ?_ ?_
  · rintro i σ H' hi ⟨v2, v3, rfl, rfl⟩
    obtain ⟨c, ec⟩ : ∃ c, d.2.2[i]? = some c := ⟨_, List.getElem?_eq_getElem hi⟩
    obtain ⟨u, eu, iu⟩ := hl.get (show (d.2.2.map Cd.dv)[i]? = some c.dv by rw [List.getElem?_map, ec]; rfl)
    have au : atI us (0 + (i : Int)) = some u := by rw [Int.zero_add]; exact atI_nat eu
    obtain ⟨tc, rfl, oc⟩ := cd_at iu
    have pl := pre_len ok i
    have bd := ok.cs c (List.mem_of_getElem? ec)
    refine ⟨_, rfl, t, _, 2, .ref l, rfl, rfl, SqT.of o, atI_nat (j := 2) rfl, _, rfl, l, us, _, _, rfl, rfl, SqL.of ol, au, ?_⟩
    refine ⟨_, rfl, _, _, rfl, rfl, _, rfl, ?_⟩
    refine if_and [some (.ref t), some (.str (rowOf (preW d i))), some (.int (0 + (i : Int))), some (.ref tc)] (fun e D' q' => ?_) (fun e => ?_) ?_
    · have i0 : i ≠ 0 := by have := of_decide_eq_true e; omega
      have ul := up_len ok i
      refine ⟨_, rfl, _, _, rfl, rfl, by simp only [show (" and" : Str).length = 4 by decide +kernel]; omega, ?_⟩
      unfold preW at q'
      rw [if_neg i0, row_snoc (upW_ne d i), sapp, ← l_and'] at q'
      exact q'
    · have i0 : i = 0 := by have := of_decide_eq_false e; omega
      subst i0
      rfl
    have eu := up_step ec
    have up := up_len ok (i + 1)
    rw [eu] at up
    have c0 : ∀ v, (vsOf c)[0]? = some v → atI (vsOf c) 0 = some v := fun v h => atI_nat (j := 0) h
    cases c with
    | always  =>
      refine ⟨_, rfl, tc, _, 0, .str "always", rfl, rfl, SqT.of oc, atI_nat (j := 0) rfl, rfl, _, rfl, if_no (by decide +kernel) ?_⟩
      refine ⟨_, rfl, tc, _, 0, .str "always", rfl, rfl, SqT.of oc, atI_nat (j := 0) rfl, rfl, _, rfl, ?_⟩
      rw [decide_eq_false (by decide +kernel)]
      refine iteF ?_
      refine ⟨_, rfl, tc, _, 0, .str "always", rfl, rfl, SqT.of oc, atI_nat (j := 0) rfl, rfl, _, rfl, if_no (by decide +kernel) ?_⟩
      rw [row_app (preW_ne d i) (words_ne _)] at up
      simp only [Str.length_append] at up
      refine ⟨_, rfl, _, _, rfl, rfl, by omega, rfl, _, rfl, " ", tc, (Cd.always ).words, rfl, rfl, SqT.of oc, row_room (fun z m => (words_bnd bd z m).1) (by have := words_len (Cd.always ); omega), ?_⟩
      refine ⟨_, _, rfl, rfl, by simp only [Str.length_append]; unfold rowOf at up; omega, ?_⟩
      refine ⟨some (.int (0 + (i : Int))), some (.ref tc), ?_, rfl⟩
      rw [eu, row_app (preW_ne d i) (words_ne _)]
      rfl
    | above h =>
      refine ⟨_, rfl, tc, _, 0, .str "above", rfl, rfl, SqT.of oc, atI_nat (j := 0) rfl, rfl, _, rfl, if_yes (by decide +kernel) ?_⟩
      rw [show (Cd.above h).words = [("sea" : Str), "above", toS h] from rfl, ← line_sea (preW_ne d i)] at up
      simp only [Str.length_append] at up
      refine ⟨_, rfl, _, _, rfl, rfl, by omega, _, rfl, tc, _, 0, .str "above", rfl, rfl, SqT.of oc, atI_nat (j := 0) rfl, _, _, rfl, rfl, by simp only [Str.length_append]; omega, ?_⟩
      refine ⟨_, _, rfl, rfl, by simp only [Str.length_append]; omega, _, rfl, tc, _, 1, .int h, rfl, rfl, SqT.of oc, atI_nat (j := 1) rfl, .inl ⟨h, rfl, log_small bd, ?_⟩⟩
      refine ⟨_, _, rfl, rfl, by simp only [Str.length_append]; unfold toS at up; omega, ?_⟩
      refine ⟨some (.int (0 + (i : Int))), some (.ref tc), ?_, rfl⟩
      rw [eu]
      show _ = [_, some (V.str (rowOf (preW d i ++ [("sea" : Str), "above", toS h]))), _, _]
      rw [← line_sea (preW_ne d i)]
      rfl
    | below h =>
      refine ⟨_, rfl, tc, _, 0, .str "below", rfl, rfl, SqT.of oc, atI_nat (j := 0) rfl, rfl, _, rfl, if_no (by decide +kernel) ?_⟩
      refine ⟨_, rfl, tc, _, 0, .str "below", rfl, rfl, SqT.of oc, atI_nat (j := 0) rfl, rfl, _, rfl, ?_⟩
      rw [decide_eq_true rfl]
      refine iteT ?_
      rw [show (Cd.below h).words = [("sea" : Str), "below", toS h] from rfl, ← line_sea (preW_ne d i)] at up
      simp only [Str.length_append] at up
      refine ⟨_, rfl, _, _, rfl, rfl, by omega, _, rfl, tc, _, 0, .str "below", rfl, rfl, SqT.of oc, atI_nat (j := 0) rfl, _, _, rfl, rfl, by simp only [Str.length_append]; omega, ?_⟩
      refine ⟨_, _, rfl, rfl, by simp only [Str.length_append]; omega, _, rfl, tc, _, 1, .int h, rfl, rfl, SqT.of oc, atI_nat (j := 1) rfl, .inl ⟨h, rfl, log_small bd, ?_⟩⟩
      refine ⟨_, _, rfl, rfl, by simp only [Str.length_append]; unfold toS at up; omega, ?_⟩
      refine ⟨some (.int (0 + (i : Int))), some (.ref tc), ?_, rfl⟩
      rw [eu]
      show _ = [_, some (V.str (rowOf (preW d i ++ [("sea" : Str), "below", toS h]))), _, _]
      rw [← line_sea (preW_ne d i)]
      rfl
    | wet z =>
      refine ⟨_, rfl, tc, _, 0, .str "wet", rfl, rfl, SqT.of oc, atI_nat (j := 0) rfl, rfl, _, rfl, if_no (by decide +kernel) ?_⟩
      refine ⟨_, rfl, tc, _, 0, .str "wet", rfl, rfl, SqT.of oc, atI_nat (j := 0) rfl, rfl, _, rfl, ?_⟩
      rw [decide_eq_false (by decide +kernel)]
      refine iteF ?_
      refine ⟨_, rfl, tc, _, 0, .str "wet", rfl, rfl, SqT.of oc, atI_nat (j := 0) rfl, rfl, _, rfl, if_no (by decide +kernel) ?_⟩
      rw [row_app (preW_ne d i) (words_ne _)] at up
      simp only [Str.length_append] at up
      refine ⟨_, rfl, _, _, rfl, rfl, by omega, rfl, _, rfl, " ", tc, (Cd.wet z).words, rfl, rfl, SqT.of oc, row_room (fun z m => (words_bnd bd z m).1) (by have := words_len (Cd.wet z); omega), ?_⟩
      refine ⟨_, _, rfl, rfl, by simp only [Str.length_append]; unfold rowOf at up; omega, ?_⟩
      refine ⟨some (.int (0 + (i : Int))), some (.ref tc), ?_, rfl⟩
      rw [eu, row_app (preW_ne d i) (words_ne _)]
      rfl
    | dry z =>
      refine ⟨_, rfl, tc, _, 0, .str "dry", rfl, rfl, SqT.of oc, atI_nat (j := 0) rfl, rfl, _, rfl, if_no (by decide +kernel) ?_⟩
      refine ⟨_, rfl, tc, _, 0, .str "dry", rfl, rfl, SqT.of oc, atI_nat (j := 0) rfl, rfl, _, rfl, ?_⟩
      rw [decide_eq_false (by decide +kernel)]
      refine iteF ?_
      refine ⟨_, rfl, tc, _, 0, .str "dry", rfl, rfl, SqT.of oc, atI_nat (j := 0) rfl, rfl, _, rfl, if_no (by decide +kernel) ?_⟩
      rw [row_app (preW_ne d i) (words_ne _)] at up
      simp only [Str.length_append] at up
      refine ⟨_, rfl, _, _, rfl, rfl, by omega, rfl, _, rfl, " ", tc, (Cd.dry z).words, rfl, rfl, SqT.of oc, row_room (fun z m => (words_bnd bd z m).1) (by have := words_len (Cd.dry z); omega), ?_⟩
      refine ⟨_, _, rfl, rfl, by simp only [Str.length_append]; unfold rowOf at up; omega, ?_⟩
      refine ⟨some (.int (0 + (i : Int))), some (.ref tc), ?_, rfl⟩
      rw [eu, row_app (preW_ne d i) (words_ne _)]
      rfl
    | day n m =>
      refine ⟨_, rfl, tc, _, 0, .str "day", rfl, rfl, SqT.of oc, atI_nat (j := 0) rfl, rfl, _, rfl, if_no (by decide +kernel) ?_⟩
      refine ⟨_, rfl, tc, _, 0, .str "day", rfl, rfl, SqT.of oc, atI_nat (j := 0) rfl, rfl, _, rfl, ?_⟩
      rw [decide_eq_false (by decide +kernel)]
      refine iteF ?_
      refine ⟨_, rfl, tc, _, 0, .str "day", rfl, rfl, SqT.of oc, atI_nat (j := 0) rfl, rfl, _, rfl, if_yes (by decide +kernel) ?_⟩
      rw [show (Cd.day n m).words = [("day" : Str), toS n, "of", toS m] from rfl, ← line_day (preW_ne d i)] at up
      simp only [Str.length_append] at up
      refine ⟨_, rfl, _, _, rfl, rfl, by omega, _, rfl, tc, _, 1, .int n, rfl, rfl, SqT.of oc, atI_nat (j := 1) rfl, .inl ⟨n, rfl, log_small bd.1, ?_⟩⟩
      refine ⟨_, _, rfl, rfl, by simp only [Str.length_append]; unfold toS at up; omega, ?_⟩
      refine ⟨_, _, rfl, rfl, by simp only [Str.length_append]; unfold toS at up; omega, _, rfl, tc, _, 2, .int m, rfl, rfl, SqT.of oc, atI_nat (j := 2) rfl, .inl ⟨m, rfl, log_small bd.2, ?_⟩⟩
      refine ⟨_, _, rfl, rfl, by simp only [Str.length_append]; unfold toS at up; omega, ?_⟩
      refine ⟨some (.int (0 + (i : Int))), some (.ref tc), ?_, rfl⟩
      rw [eu]
      show _ = [_, some (V.str (rowOf (preW d i ++ [("day" : Str), toS n, "of", toS m]))), _, _]
      rw [← line_day (preW_ne d i)]
      rfl
  · rintro σ H' ⟨v2, v3, rfl, rfl⟩
    rw [show upW d d.2.2.length = wordsK d by unfold upW wordsK; rw [List.take_length], ← show_words ok.ne]
    exact ⟨_, rfl, q⟩

open Mt13 Mt11 Mt02
theorem cd_flat (c : Cd) : flatTo 27 c.dv = true := by cases c <;> rfl
theorem cd_flat28 (c : Cd) : flatTo 28 c.dv = true := by cases c <;> rfl
theorem dk_flat (d : Dk) : flatTo 29 (dkD d) = true := by
  have h : flatToL 27 (d.2.2.map Cd.dv) = true := flatToL_of fun c m => by
    obtain ⟨x, _, rfl⟩ := List.mem_map.mp m
    exact cd_flat x
  show (flatTo 28 (.str d.1) && (flatTo 28 (.str d.2.1) && (flatTo 28 (.lst (d.2.2.map Cd.dv)) && true))) = true
  rw [show flatTo 28 (.lst (d.2.2.map Cd.dv)) = flatToL 27 (d.2.2.map Cd.dv) from by rw [flatTo], h]
  rfl
theorem dk_flat30 (d : Dk) : flatTo 30 (dkD d) = true := by
  have h : flatToL 28 (d.2.2.map Cd.dv) = true := flatToL_of fun c m => by
    obtain ⟨x, _, rfl⟩ := List.mem_map.mp m
    exact cd_flat28 x
  show (flatTo 29 (.str d.1) && (flatTo 29 (.str d.2.1) && (flatTo 29 (.lst (d.2.2.map Cd.dv)) && true))) = true
  rw [show flatTo 29 (.lst (d.2.2.map Cd.dv)) = flatToL 28 (d.2.2.map Cd.dv) from by rw [flatTo], h]
  rfl
theorem dks_flat (ds : List Dk) : flatTo 30 (.lst (ds.map dkD)) = true := by
  rw [flatTo]
  exact flatToL_of fun c m => by
    obtain ⟨x, _, rfl⟩ := List.mem_map.mp m
    exact dk_flat x
theorem vs_isL (H : Hp) (c : Cd) : IsL H c.vs (vsOf c) := by
  cases c with
  | always => exact ⟨_, _, rfl, rfl, rfl⟩
  | above i => exact ⟨_, _, rfl, rfl, _, _, rfl, rfl, rfl⟩
  | below i => exact ⟨_, _, rfl, rfl, _, _, rfl, rfl, rfl⟩
  | wet i => exact ⟨_, _, rfl, rfl, _, _, rfl, rfl, rfl⟩
  | dry i => exact ⟨_, _, rfl, rfl, _, _, rfl, rfl, rfl⟩
  | day n m => exact ⟨_, _, rfl, rfl, _, _, rfl, rfl, _, _, rfl, rfl, rfl⟩
theorem vs_nobl (c : Cd) : ∀ e ∈ c.vs, isBl e = false := fun e m => by
  cases c <;> simp only [Cd.vs, List.mem_cons, List.mem_nil_iff, or_false] at m
  · subst m; rfl
  · rcases m with rfl | rfl <;> rfl
  · rcases m with rfl | rfl <;> rfl
  · rcases m with rfl | rfl <;> rfl
  · rcases m with rfl | rfl <;> rfl
  · rcases m with rfl | rfl | rfl <;> rfl
def spSameD : Sp := sp2 fun x y H Q => ∃ (ds : List Dk) (us vs : List V) (p q : Addr), x = .ref p ∧ y = .ref q ∧ H p = some (.lst us) ∧ H q = some (.lst vs) ∧ IsL H (ds.map dkD) us ∧ IsL H (ds.map dkD) vs ∧ ds.length ≤ 1000 ∧ (∀ d ∈ ds, DkOk d) ∧ ∀ H', Same H H' → Q (.bl true) H'
theorem ok_l_same (T : Txt w K mg C) : Fc P w K mg base 1 "_law_same" ["_law_found", "_law_due"] spSameD := by
  refine T.d_l_same.fc sc_l_same len2 (fun f cdv A outer s H vs Q E hr h => ?_)
  obtain ⟨x, y, rfl, ds, us, vs, p, q, rfl, rfl, hp, hq, hip, hiq, hl, ok, qq⟩ := h
  have big := big1000
  refine ⟨_, (@pss_cons _ _ _ _ _ (@ps_if _ _ _ _ _ _ _ _ (@PW.pt _ _ _ (@pw_or _ _ _ _ _ _ _ (@pt_not _ _ _ _ (@pt_val _ _ _ (@pe_callB _ _ _ _ _ _ _ _ _ (@call_isinstB _ (K) rfl) rfl T.n_isinstance boot_isinstance (@pa_cons _ _ _ _ _ (pv 0) (@pa_cons _ _ _ _ _ (@pe_ty _ _ _ _ T.n_list boot_list' (by rfl) (by decide) (by decide)) pa_nil (by rfl)) (by rfl)) (by decide) (by decide) (by rfl) (by rfl)) (by intro _; rfl))) (@pw_or1 _ _ _ _ (@pt_cmpR _ _ _ _ _ _ _ _ op_ne (@pe_callB _ _ _ _ _ _ _ _ _ (@call_len_seqB _ (K) rfl) rfl T.n_len boot_len' (@pa_cons _ _ _ _ _ (pv 0) pa_nil (by rfl)) (by decide) (by decide) (by rfl) (by rfl)) (@pe_callB _ _ _ _ _ _ _ _ _ (@call_len_seqB _ (K) rfl) rfl T.n_len boot_len' (@pa_cons _ _ _ _ _ (pv 1) pa_nil (by rfl)) (by decide) (by decide) (by rfl) (by rfl)) (@nomark _ _ (by decide) (by decide)))))) (@pss_one _ _ _ (@ps_ret _ _ _ _ pe_bl)) pss_nil) (@pss_cons _ _ _ _ _ (@ps_for _ _ _ _ _ _ _ _ PassesOwn.never rfl (@pi_range1 _ _ _ _ _ _ rfl T.n_range (@pa_cons _ _ _ _ _ (@pe_callB _ _ _ _ _ _ _ _ _ (@call_len_seqB _ (K) rfl) rfl T.n_len boot_len' (@pa_cons _ _ _ _ _ (pv 1) pa_nil (by rfl)) (by decide) (by decide) (by rfl) (by rfl)) pa_nil (by rfl)) (by rfl)) (@pg_name _ _ (2) _ sc_l_same.nd rfl (Or.inl rfl) (by first | exact .inl rfl | exact .inr rfl | assumption)) (@pss_cons _ _ _ _ _ (@ps_if _ _ _ _ _ _ _ _ (@PW.pt _ _ _ (@pw_or _ _ _ _ _ _ _ (@pt_not _ _ _ _ (@pt_val _ _ _ (@pe_callB _ _ _ _ _ _ _ _ _ (@call_isinstB _ (K) rfl) rfl T.n_isinstance boot_isinstance (@pa_cons _ _ _ _ _ (@pe_ix _ _ _ _ _ _ _ (@ix_listB _ (K) rfl) (pv 0) (pv 2) (fun _ _ => rfl)) (@pa_cons _ _ _ _ _ (@pe_ty _ _ _ _ T.n_tuple boot_tuple' (by rfl) (by decide) (by decide)) pa_nil (by rfl)) (by rfl)) (by decide) (by decide) (by rfl) (by rfl)) (by intro _; rfl))) (@pw_or _ _ _ _ _ _ _ (@pt_cmpR _ _ _ _ _ _ _ _ op_ne (@pe_callB _ _ _ _ _ _ _ _ _ (@call_len_seqB _ (K) rfl) rfl T.n_len boot_len' (@pa_cons _ _ _ _ _ (@pe_ix _ _ _ _ _ _ _ (@ix_listB _ (K) rfl) (pv 0) (pv 2) (fun _ _ => rfl)) pa_nil (by rfl)) (by decide) (by decide) (by rfl) (by rfl)) pe_int (@nomark _ _ (by decide) (by decide))) (@pw_or1 _ _ _ _ (@pt_cmpR _ _ _ _ _ _ _ _ (@op_neD _ hr.units) (@pe_ix _ _ _ _ _ _ _ (@ix_listB _ (K) rfl) (pv 0) (pv 2) (fun _ _ => rfl)) (@pe_ix _ _ _ _ _ _ _ (@ix_listB _ (K) rfl) (pv 1) (pv 2) (fun _ _ => rfl)) (@nomark _ _ (by decide) (by decide))))))) (@pss_one _ _ _ (@ps_ret _ _ _ _ pe_bl)) pss_nil) (@pss_cons _ _ _ _ _ (@ps_if _ _ _ _ _ _ _ _ (@pt_not _ _ _ _ (@pt_val _ _ _ (@pe_callB _ _ _ _ _ _ _ _ _ (@call_isinstB _ (K) rfl) rfl T.n_isinstance boot_isinstance (@pa_cons _ _ _ _ _ (@pe_ix _ _ _ _ _ _ _ (@ix_tupB _ (K) rfl) (@pe_ix _ _ _ _ _ _ _ (@ix_listB _ (K) rfl) (pv 0) (pv 2) (fun _ _ => rfl)) pe_int (fun _ _ => rfl)) (@pa_cons _ _ _ _ _ (@pe_ty _ _ _ _ T.n_list boot_list' (by rfl) (by decide) (by decide)) pa_nil (by rfl)) (by rfl)) (by decide) (by decide) (by rfl) (by rfl)) (by intro _; rfl))) (@pss_one _ _ _ (@ps_ret _ _ _ _ pe_bl)) pss_nil) (@pss_one _ _ _ (@ps_for _ _ _ _ _ _ _ _ PassesOwn.never rfl (@pi_list _ _ _ _ (@pe_ix _ _ _ _ _ _ _ (@ix_tupB _ (K) rfl) (@pe_ix _ _ _ _ _ _ _ (@ix_listB _ (K) rfl) (pv 0) (pv 2) (fun _ _ => rfl)) pe_int (fun _ _ => rfl))) (@pg_name _ _ (3) _ sc_l_same.nd rfl (Or.inl rfl) (by first | exact .inl rfl | exact .inr rfl | assumption)) (@pss_one _ _ _ (@ps_if _ _ _ _ _ _ _ _ (@PW.pt _ _ _ (@pw_or _ _ _ _ _ _ _ (@pt_not _ _ _ _ (@pt_val _ _ _ (@pe_callB _ _ _ _ _ _ _ _ _ (@call_isinstB _ (K) rfl) rfl T.n_isinstance boot_isinstance (@pa_cons _ _ _ _ _ (pv 3) (@pa_cons _ _ _ _ _ (@pe_ty _ _ _ _ T.n_tuple boot_tuple' (by rfl) (by decide) (by decide)) pa_nil (by rfl)) (by rfl)) (by decide) (by decide) (by rfl) (by rfl)) (by intro _; rfl))) (@pw_or1 _ _ _ _ (@pt_cmpR _ _ _ _ _ _ _ _ (@op_neD _ hr.units) (@pe_comp _ _ _ _ _ _ _ _ _ _ _ ["_law_part"] 1 [] rfl (@pi_tup _ _ _ _ (pv 3)) (fun R => @pg_name _ _ (0) _ (show List.Nodup (["_law_part"] : List Str) by decide +kernel) rfl (Or.inl rfl) (by first | exact .inl rfl | exact .inr rfl | assumption)) (@gkeep_name _ _ (by decide)) (fun R => @pifs_one _ _ _ (@pt_val _ _ _ (@pe_callB _ _ _ _ _ _ _ _ _ (@call_isinstB _ (K) rfl) rfl T.n_isinstance boot_isinstance (@pa_cons _ _ _ _ _ (pv 0) (@pa_cons _ _ _ _ _ (@pe_ty _ _ _ _ T.n_bool boot_bool' (by rfl) (by decide) (by decide)) pa_nil (by rfl)) (by rfl)) (by decide) (by decide) (by rfl) (by rfl)) (by intro _; rfl))) (fun R => (pv 0)) (by rfl) (by rfl) (by rfl) (by rfl) (by rfl) (by rfl) (by rfl) (by intro _; rfl)) (@pe_lst _ _ _ _ pa_nil) (@nomark _ _ (by decide) (by decide)))))) (@pss_one _ _ _ (@ps_ret _ _ _ _ pe_bl)) pss_nil)) (by intro _; rfl))))) (by intro _; rfl)) (@pss_one _ _ _ (@ps_ret _ _ _ _ pe_bl)))), ?_⟩
  have lu := isL_len hip
  have lv := isL_len hiq
  rw [List.length_map] at lu lv
  refine ⟨_, rfl, _, _, _, _, _, rfl, rfl, TyOf.lst hp, kit_self _ _, _, rfl, ?_⟩
  refine iteF ?_
  refine ⟨_, rfl, p, us, rfl, .inl (SqL.of hp), _, rfl, q, vs, rfl, .inl (SqL.of hq), rfl, _, rfl, ?_⟩
  rw [← lu, ← lv, decide_eq_true (rfl : V.int (ds.length : Int) = _)]
  refine iteF ?_
  refine ⟨_, rfl, q, vs, rfl, .inl (SqL.of hq), _, rfl, by omega, by omega, ?_⟩
  rw [← lv, Int.toNat_natCast]
  refine for_range (lo := 0) (n := ds.length) (fun i σ H' => ∃ v2 v3, σ = [some (.ref p), some (.ref q), v2, v3] ∧ Same H H') ⟨_, _, rfl, Same.refl _⟩ ?_ ?_
  · rintro i σ H' hi ⟨v2, v3, rfl, S'⟩
    obtain ⟨d, ed⟩ : ∃ d, ds[i]? = some d := ⟨_, List.getElem?_eq_getElem hi⟩
    have ed' : (ds.map dkD)[i]? = some (dkD d) := by rw [List.getElem?_map, ed]; rfl
    obtain ⟨u, eu, iu⟩ := (IsL.same S' _ _ hip).get ed'
    obtain ⟨v, ev, iv⟩ := (IsL.same S' _ _ hiq).get ed'
    have hp' := S' _ _ hp
    have hq' := S' _ _ hq
    have au : atI us (0 + (i : Int)) = some u := by rw [Int.zero_add]; exact atI_nat eu
    have av : atI vs (0 + (i : Int)) = some v := by rw [Int.zero_add]; exact atI_nat ev
    have fl := dk_flat30 d
    obtain ⟨t, l, ws, rfl, ot, ol, il⟩ := dec_at iu
    refine ⟨_, rfl, _, rfl, p, us, _, _, rfl, rfl, SqL.of hp', au, _, _, _, _, _, rfl, rfl, TyOf.tup ot, kit_self _ _, _, rfl, ?_⟩
    refine iteF ?_
    refine ⟨_, rfl, _, rfl, p, us, _, _, rfl, rfl, SqL.of hp', au, t, _, rfl, .inr (SqT.of ot), rfl, _, rfl, ?_⟩
    show (if (!decide (V.int (3 : Nat) = V.int 3)) = true then _ else _)
    rw [show (!decide (V.int (3 : Nat) = V.int 3)) = false from rfl]
    refine iteF ?_
    refine ⟨_, rfl, _, rfl, p, us, _, _, rfl, rfl, SqL.of hp', au, _, rfl, _, rfl, q, vs, _, _, rfl, rfl, SqL.of hq', av, _, _, iu, iv, fl, fl, _, rfl, ?_⟩
    rw [deq_refl 30 _ fl]
    refine iteF ?_
    refine ⟨_, rfl, _, rfl, p, us, _, _, rfl, rfl, SqL.of hp', au, t, _, 2, .ref l, rfl, rfl, SqT.of ot, atI_nat (j := 2) rfl, _, _, _, _, _, rfl, rfl, TyOf.lst ol, kit_self _ _, _, rfl, ?_⟩
    refine iteF ?_
    have lw := isL_len il
    rw [List.length_map] at lw
    have d6 := (ok d (List.mem_of_getElem? ed)).l6
    refine ⟨_, rfl, _, rfl, p, us, _, _, rfl, rfl, SqL.of hp', au, t, _, 2, .ref l, rfl, rfl, SqT.of ot, atI_nat (j := 2) rfl, l, rfl, ⟨_, SqL.of ol⟩, for_list (K := K) (a := l) (xs := ws) (fun j σ H2 => ∃ v3, σ = [some (.ref p), some (.ref q), some (.int (0 + (i : Int))), v3] ∧ Same H' H2) ⟨_, rfl, Same.refl _⟩ ?_ ?_ ?_⟩
    · rintro j σ H2 hj ⟨v3, rfl, S2⟩
      exact SqL.of (S2 _ _ ol)
    · rintro j xv σ H2 hx ⟨v3, rfl, S2⟩
      have hjl : j < ws.length := (List.getElem?_eq_some_iff.mp hx).1
      obtain ⟨c, ec⟩ : ∃ c, d.2.2[j]? = some c := ⟨_, List.getElem?_eq_getElem (by omega)⟩
      obtain ⟨w, ew, iw⟩ := il.get (show (d.2.2.map Cd.dv)[j]? = some c.dv by rw [List.getElem?_map, ec]; rfl)
      rw [hx] at ew
      cases ew
      obtain ⟨tc, rfl, oc⟩ := cd_at iw
      have oc2 := S2 _ _ oc
      have l3 := vs_len c
      refine ⟨_, rfl, _, _, _, _, _, rfl, rfl, TyOf.tup oc2, kit_self _ _, _, rfl, ?_⟩
      refine iteF ?_
      refine ⟨_, rfl, tc, rfl, ⟨_, SqT.of oc2⟩, ?_⟩
      refine comp_tup (F := K) (xs := vsOf c) (by omega) (fun k ys H' => H2 = H' ∧ ys = []) ⟨rfl, rfl⟩ ?_ ?_ ?_
      · rintro k ys H3 hk ⟨rfl, rfl⟩
        exact ⟨SqT.of oc2, Nat.zero_le _⟩
      · rintro k xv ys H3 K1 K2 hx' ⟨rfl, rfl⟩ k1 k2
        have hkl : k < (vsOf c).length := (List.getElem?_eq_some_iff.mp hx').1
        have lx := isL_len (vs_isL H2 c)
        obtain ⟨e, ee⟩ : ∃ e, c.vs[k]? = some e := ⟨_, List.getElem?_eq_getElem (by omega)⟩
        obtain ⟨w, ew, iw'⟩ := IsL.get (vs_isL H2 c) ee
        rw [hx'] at ew
        cases ew
        obtain ⟨ty, t1, e1, e2, _⟩ := Is_kit K iw'
        rw [vs_nobl c e (List.mem_of_getElem? ee)] at e2
        refine ⟨_, rfl, _, _, _, _, _, rfl, rfl, t1, e2, _, rfl, ?_⟩
        exact iteF (k2 _ ⟨rfl, rfl⟩)
      rintro ys H3 ⟨rfl, rfl⟩
      intro la hla
      have Sa := Same.upd (o := .lst []) hla
      refine ⟨small_le rfl, fun lb hlb => ?_⟩
      have Sb := Same.upd (o := .lst []) hlb
      refine ⟨.lst [], .lst [], ⟨la, [], rfl, Sb _ _ upd_same, rfl⟩, ⟨lb, [], rfl, upd_same, rfl⟩, rfl, rfl, _, rfl, ?_⟩
      rw [show deq (.lst []) (.lst []) = true from deq_refl 30 _ rfl]
      exact iteF ⟨_, rfl, S2.trans (Sa.trans Sb)⟩
    · rintro σ H2 ⟨v3, rfl, S2⟩
      exact ⟨_, _, rfl, S'.trans S2⟩
  · rintro σ H' ⟨v2, v3, rfl, S'⟩
    exact qq _ S'

open Mt13 Mt11 Mt02
def spStandsD (C : Addr) : Sp := sp2 fun x y H Q => ∃ (p q : Addr) (fs dks : List Dv) (ds : List Dk) (vs : List V), x = .ref p ∧ y = .ref q ∧ LandAt C H p fs dks ∧ H q = some (.lst vs) ∧ IsL H (ds.map dkD) vs ∧ DksOk ((dks.filter hasSill).map nmOf) (fs.map nmOf) ds ∧ ∀ H', Same H H' → Q (.bl true) H'
theorem ok_l_stands (T : Txt w K mg C) : Fc P w K mg base 7 "_law_stands" ["_law_land_here", "_law_decrees"] (spStandsD C) := by
  have G_l_line : Fc P w K mg base 1 "_law_line" ["_law_decree_here"] spLine := ok_l_line T
  have G_p_show_decrees : Fc P w K mg base 3 "show_decrees" ["decrees"] spShowDs := ok_p_show_decrees T
  have G_p_read_decrees : Fc P w K mg base 6 "read_decrees" ["land", "text"] (spReadDs C) := ok_p_read_decrees T
  have G_l_same : Fc P w K mg base 1 "_law_same" ["_law_found", "_law_due"] spSameD := ok_l_same T
  refine T.d_l_stands.fc sc_l_stands len2 (fun f cdv A outer s H vs Q E hr h => ?_)
  obtain ⟨x, y, rfl, p, q, fs, dks, ds, vs, rfl, rfl, L, hq, hiq, D, qq⟩ := h
  have big := big1000
  have l60 := D.l
  have lv := isL_len hiq
  rw [List.length_map] at lv
  refine ⟨_, (@pss_cons _ _ _ _ _ (@ps_set _ _ (2) _ _ _ _ sc_l_stands.nd rfl (Or.inl rfl) (@pe_bm _ _ _ _ _ _ _ _ _ _ _ _ PySem.F.plainAttrs_str PySem.F.slot_str_join PySem.F.type_str_join mt_join pe_str (@pa_cons _ _ _ _ _ (@pe_comp _ _ _ _ _ _ _ _ _ _ _ ["_law_decree_here"] 1 [] rfl (@pi_list _ _ _ _ (pv 1)) (fun R => @pg_name _ _ (0) _ (show List.Nodup (["_law_decree_here"] : List Str) by decide +kernel) rfl (Or.inl rfl) (by first | exact .inl rfl | exact .inr rfl | assumption)) (@gkeep_name _ _ (by decide)) (fun R => pifs_nil) (fun R => (@pe_c _ _ _ _ _ _ _ _ _ _ G_l_line (hr.mono (by decide)) (@pa_cons _ _ _ _ _ (pv 0) pa_nil (by rfl)) (by rfl) (by decide) (by rfl) (by rfl))) (by rfl) (by rfl) (by rfl) (by rfl) (by rfl) (by rfl) (by rfl) (by intro _; rfl)) pa_nil (by rfl)) (by rfl) (by rfl) (by rfl) (by rfl) (by rfl)) (by rfl) (by first | exact .inl rfl | exact .inr rfl | assumption)) (@pss_cons _ _ _ _ _ (@ps_setComp _ (3) _ _ _ _ _ _ _ _ _ _ _ _ _ sc_l_stands.nd rfl ["_law_deed", "_law_gate", "_law_asked"] 3 [] rfl (@pi_list _ _ _ _ (pv 1)) (fun R => pg_tupB (K := K) (n := 3) rfl rfl (@pgs_cons _ _ _ _ _ (@pg_name _ _ (0) _ (show List.Nodup (["_law_deed", "_law_gate", "_law_asked"] : List Str) by decide +kernel) rfl (Or.inl rfl) (by first | exact .inl rfl | exact .inr rfl | assumption)) (@pgs_cons _ _ _ _ _ (@pg_name _ _ (1) _ (show List.Nodup (["_law_deed", "_law_gate", "_law_asked"] : List Str) by decide +kernel) rfl (Or.inl rfl) (by first | exact .inl rfl | exact .inr rfl | assumption)) (@pgs_cons _ _ _ _ _ (@pg_name _ _ (2) _ (show List.Nodup (["_law_deed", "_law_gate", "_law_asked"] : List Str) by decide +kernel) rfl (Or.inl rfl) (by first | exact .inl rfl | exact .inr rfl | assumption)) pgs_nil (by rfl)) (by rfl)) (by rfl))) (gkeep_tup (gkeeps_cons (by decide) (gkeeps_cons (by decide) (gkeeps_cons (by decide) gkeeps_nil)))) (fun R => pifs_nil) (fun R => (@pe_tup _ _ _ _ _ (@pa_cons _ _ _ _ _ (pv 0) (@pa_cons _ _ _ _ _ (pv 1) (@pa_cons _ _ _ _ _ (@pe_callTy _ _ _ _ _ _ _ _ _ (@call_list_ofB _ (K) rfl) rfl T.n_list boot_list' (@pa_cons _ _ _ _ _ (pv 2) pa_nil (by rfl)) (by decide) (by decide) (by rfl) (by rfl)) pa_nil (by rfl)) (by rfl)) (by rfl)))) (by exact Or.inl rfl) (by first | exact .inl rfl | exact .inr rfl | assumption) (by rfl) (by rfl) (by rfl) (by rfl) (by rfl) (by rfl) (by rfl) (by rfl) (by intro _; rfl)) (@pss_cons _ _ _ _ _ (@ps_set _ _ (4) _ _ _ _ sc_l_stands.nd rfl (Or.inl rfl) (@pe_c _ _ _ _ _ _ _ _ _ _ G_p_show_decrees (hr.mono (by decide)) (@pa_cons _ _ _ _ _ (pv 3) pa_nil (by rfl)) (by rfl) (by decide) (by rfl) (by rfl)) (by rfl) (by first | exact .inl rfl | exact .inr rfl | assumption)) (@pss_cons _ _ _ _ _ (@ps_if _ _ _ _ _ _ _ _ (@PW.pt _ _ _ (@pw_or _ _ _ _ _ _ _ (@pt_not _ _ _ _ (@pt_val _ _ _ (@pe_callB _ _ _ _ _ _ _ _ _ (@call_isinstB _ (K) rfl) rfl T.n_isinstance boot_isinstance (@pa_cons _ _ _ _ _ (pv 4) (@pa_cons _ _ _ _ _ (@pe_ty _ _ _ _ T.n_str boot_str' (by rfl) (by decide) (by decide)) pa_nil (by rfl)) (by rfl)) (by decide) (by decide) (by rfl) (by rfl)) (by intro _; rfl))) (@pw_or _ _ _ _ _ _ _ (@pt_cmpR _ _ _ _ _ _ _ _ op_ne (pv 4) (pv 2) (@nomark _ _ (by decide) (by decide))) (@pw_or1 _ _ _ _ (@pt_cmpR _ _ _ _ _ _ _ _ (@op_neD _ hr.units) (pv 3) (pv 1) (@nomark _ _ (by decide) (by decide))))))) (@pss_one _ _ _ (@ps_ret _ _ _ _ pe_bl)) pss_nil) (@pss_cons _ _ _ _ _ (@ps_set _ _ (5) _ _ _ _ sc_l_stands.nd rfl (Or.inl rfl) (@pe_c _ _ _ _ _ _ _ _ _ _ G_p_read_decrees (hr.mono (by decide)) (@pa_cons _ _ _ _ _ (pv 0) (@pa_cons _ _ _ _ _ (pv 2) pa_nil (by rfl)) (by rfl)) (by rfl) (by decide) (by rfl) (by rfl)) (by rfl) (by first | exact .inl rfl | exact .inr rfl | assumption)) (@pss_cons _ _ _ _ _ (@ps_if _ _ _ _ _ _ _ _ (@pt_not _ _ _ _ (@pt_val _ _ _ (@pe_c _ _ _ _ _ _ _ _ _ _ G_l_same (hr.mono (by decide)) (@pa_cons _ _ _ _ _ (pv 5) (@pa_cons _ _ _ _ _ (pv 1) pa_nil (by rfl)) (by rfl)) (by rfl) (by decide) (by rfl) (by rfl)) (by intro _; rfl))) (@pss_one _ _ _ (@ps_ret _ _ _ _ pe_bl)) pss_nil) (@pss_cons _ _ _ _ _ (@ps_for _ _ _ _ _ _ _ _ PassesOwn.never rfl (@pi_list _ _ _ _ (pv 5)) (@pg_name _ _ (6) _ sc_l_stands.nd rfl (Or.inl rfl) (by first | exact .inl rfl | exact .inr rfl | assumption)) (@pss_one _ _ _ (@ps_expr _ _ _ _ (@pe_bm _ _ _ _ _ _ _ _ _ _ _ _ PySem.F.plainAttrs_list PySem.F.slot_list_append PySem.F.type_list_append mt_append (@pe_ix _ _ _ _ _ _ _ (@ix_tupB _ (K) rfl) (pv 6) pe_int (fun _ _ => rfl)) (@pa_cons _ _ _ _ _ (@pe_tup _ _ _ _ _ (@pa_cons _ _ _ _ _ pe_str pa_nil (by rfl))) pa_nil (by rfl)) (by rfl) (by rfl) (by rfl) (by rfl) (by rfl)) (by rfl))) (by intro _; rfl)) (@pss_cons _ _ _ _ _ (@ps_expr _ _ _ _ (@pe_bm _ _ _ _ _ _ _ _ _ _ _ _ PySem.F.plainAttrs_list PySem.F.slot_list_append PySem.F.type_list_append mt_append (pv 5) (@pa_cons _ _ _ _ _ pe_non pa_nil (by rfl)) (by rfl) (by rfl) (by rfl) (by rfl) (by rfl)) (by rfl)) (@pss_one _ _ _ (@ps_ret _ _ _ _ (@pe_c _ _ _ _ _ _ _ _ _ _ G_l_same (hr.mono (by decide)) (@pa_cons _ _ _ _ _ (@pe_c _ _ _ _ _ _ _ _ _ _ G_p_read_decrees (hr.mono (by decide)) (@pa_cons _ _ _ _ _ (pv 0) (@pa_cons _ _ _ _ _ (pv 2) pa_nil (by rfl)) (by rfl)) (by rfl) (by decide) (by rfl) (by rfl)) (@pa_cons _ _ _ _ _ (pv 1) pa_nil (by rfl)) (by rfl)) (by rfl) (by decide) (by rfl) (by rfl)))))))))))), ?_⟩
  refine ⟨rfl, _, rfl, q, rfl, ⟨_, SqL.of hq⟩, ?_⟩
  refine comp_list (F := K) (xs := vs) (by omega) (fun i ys H' => H = H' ∧ ys = ((ds.take i).map showD).map V.str) ⟨rfl, rfl⟩ ?_ ?_ ?_
  · rintro i ys H' hi ⟨rfl, rfl⟩
    exact ⟨SqL.of hq, by rw [List.length_map, List.length_map, List.length_take]; omega⟩
  · rintro i xv ys H' K1 K2 hx' ⟨rfl, rfl⟩ k1 k2
    have hil : i < vs.length := (List.getElem?_eq_some_iff.mp hx').1
    obtain ⟨d, ed⟩ : ∃ d, ds[i]? = some d := ⟨_, List.getElem?_eq_getElem (by omega)⟩
    obtain ⟨v, ev, iv⟩ := hiq.get (show (ds.map dkD)[i]? = some (dkD d) by rw [List.getElem?_map, ed]; rfl)
    rw [hx'] at ev
    cases ev
    refine ⟨_, rfl, _, rfl, d, iv, D.ok d (List.mem_of_getElem? ed), k1 _ _ ⟨rfl, ?_⟩⟩
    rw [List.take_add_one, ed, List.map_append, List.map_append]
    rfl
  rintro ys H1 ⟨rfl, rfl⟩
  rw [List.take_of_length_le (by omega)]
  intro l1 h1
  have S1 := Same.upd (o := .lst ((ds.map showD).map V.str)) h1
  have r1 : upd H l1 (.lst ((ds.map showD).map V.str)) l1 = some (.lst ((ds.map showD).map V.str)) := upd_same
  generalize upd H l1 (.lst ((ds.map showD).map V.str)) = H1 at S1 r1
  have room : ((ds.map showD).map fun y => y.length).sum + (ds.map showD).length * ("\n" : Str).length ≤ 16777216 := by
    have := sum_le (k := 300) (zs := ds.map showD) fun z m => by
      obtain ⟨d, md, rfl⟩ := List.mem_map.mp m
      exact (D.ok d md).len
    rw [List.length_map] at this ⊢
    rw [show ("\n" : Str).length = 1 by decide +kernel]
    omega
  refine ⟨"\n", l1, ds.map showD, rfl, rfl, SqL.of r1, room, ?_⟩
  refine ⟨_, rfl, q, rfl, ⟨_, SqL.of (S1 _ _ hq)⟩, ?_⟩
  have iq1 := IsL.same S1 _ _ hiq
  refine comp_list (F := K) (xs := vs) (by omega) (fun i ys H' => Same H1 H' ∧ IsL H' ((ds.take i).map dkD) ys) ⟨Same.refl _, rfl⟩ ?_ ?_ ?_
  · rintro i ys H' hi ⟨S', iy⟩
    refine ⟨SqL.of (S' _ _ (S1 _ _ hq)), ?_⟩
    have := iy.length
    rw [List.length_map, List.length_take] at this
    omega
  · rintro i xv ys H' K1 K2 hx' ⟨S', iy⟩ k1 k2
    have hil : i < vs.length := (List.getElem?_eq_some_iff.mp hx').1
    obtain ⟨d, ed⟩ : ∃ d, ds[i]? = some d := ⟨_, List.getElem?_eq_getElem (by omega)⟩
    obtain ⟨v, ev, iv⟩ := (IsL.same S' _ _ iq1).get (show (ds.map dkD)[i]? = some (dkD d) by rw [List.getElem?_map, ed]; rfl)
    rw [hx'] at ev
    cases ev
    obtain ⟨t, l, us, rfl, ot, ol, il⟩ := dec_at iv
    refine ⟨t, _, rfl, SqT.of ot, rfl, _, _, rfl, _, _, rfl, _, _, rfl, rfl, ?_⟩
    refine ⟨_, rfl, _, rfl, _, rfl, l, us, rfl, .inl (SqL.of ol), fun la hla => ?_⟩
    have Sa := Same.upd (o := .lst us) hla
    refine ⟨small_le rfl, fun ta hta => k1 _ _ ⟨S'.trans (Sa.trans (Same.upd hta)), ?_⟩⟩
    have Sb := Same.upd (o := .tup [.str d.1, .str d.2.1, .ref la]) hta
    rw [List.take_add_one, ed, List.map_append]
    exact IsL.snoc (dk_is (d := d) upd_same (Sb _ _ upd_same) (IsL.same (Sa.trans Sb) _ _ il)) (IsL.same (Sa.trans Sb) _ _ iy)
  rintro hs H2 ⟨S2, ih⟩
  rw [List.take_of_length_le (by omega)] at ih
  intro lh hlh
  have S3 := Same.upd (o := .lst hs) hlh
  have r3 : upd H2 lh (.lst hs) lh = some (.lst hs) := upd_same
  have T3 := S1.trans (S2.trans S3)
  have ih3 := IsL.same S3 _ _ ih
  generalize upd H2 lh (.lst hs) = H3 at S3 r3 T3 ih3
  refine ⟨_, rfl, _, rfl, lh, hs, ds, rfl, r3, ih3, D.ok, D.l, fun H4 S4 => ?_⟩
  have T4 := T3.trans S4
  refine ⟨_, rfl, _, _, _, _, _, rfl, rfl, TyOf.str _, kit_self _ _, _, rfl, ?_⟩
  refine iteF ?_
  refine ⟨_, rfl, _, rfl, rfl, _, rfl, ?_⟩
  show (if (!decide (V.str (showDs ds) = V.str (showDs ds))) = true then _ else _)
  rw [decide_eq_true rfl]
  refine iteF ?_
  have fl := dks_flat ds
  refine ⟨_, rfl, _, rfl, .lst (ds.map dkD), .lst (ds.map dkD), ⟨lh, hs, rfl, S4 _ _ r3, IsL.same S4 _ _ ih3⟩, ⟨q, vs, rfl, T4 _ _ hq, IsL.same T4 _ _ hiq⟩, fl, fl, _, rfl, ?_⟩
  rw [deq_refl 30 _ fl]
  refine iteF ?_
  refine ⟨_, rfl, _, rfl, _, _, rfl, p, fs, dks, ds, rfl, rfl, L.same T4, D, fun lr ys H5 S5 nlr hlr hir fr => ?_⟩
  have T5 := T4.trans S5
  refine ⟨_, rfl, _, rfl, _, _, rfl, ds, ys, vs, lr, q, rfl, rfl, hlr, T5 _ _ hq, hir, IsL.same T5 _ _ hiq, by omega, D.ok, fun H6 S6 => ?_⟩
  refine ⟨_, rfl, ?_⟩
  show (if false = true then _ else _)
  refine iteF ?_
  have T6 := T5.trans S6
  have hlr6 := S6 _ _ hlr
  have ly := isL_len hir
  rw [List.length_map] at ly
  have fr6 : ∀ y ∈ ys, FreshL H4 H6 6 lr y := fun y m => by
    obtain ⟨t, lc, a, g, us, e1, e2, e3, e4, e5, e6⟩ := fr y m
    exact ⟨t, lc, a, g, us, e1, S6 _ _ e2, S6 _ _ e3, e4, e5, e6⟩
  refine ⟨_, rfl, lr, rfl, ⟨_, SqL.of hlr6⟩, for_list (K := K) (a := lr) (xs := ys) (fun i σ H' => ∃ v6, σ = [some (.ref p), some (.ref q), some (.str (showDs ds)), some (.ref lh), some (.str (showDs ds)), some (.ref lr), v6] ∧ Same H4 H' ∧ H' lr = some (.lst ys) ∧ ∀ y ∈ ys, FreshL H4 H' (6 + i) lr y) ⟨_, rfl, S5.trans S6, hlr6, fr6⟩ ?_ ?_ ?_⟩
  · rintro i σ H' hi ⟨v6, rfl, S', hl', fr'⟩
    exact SqL.of hl'
  · rintro i xv σ H' hx ⟨v6, rfl, S', hl', fr'⟩
    obtain ⟨t, lc, a, g, us, rfl, e2, e3, e4, e5, e6⟩ := fr' xv (List.mem_of_getElem? hx)
    have hil : i < ys.length := (List.getElem?_eq_some_iff.mp hx).1
    refine ⟨_, rfl, t, _, 2, .ref lc, rfl, rfl, SqT.of e2, atI_nat (j := 2) rfl, .inl ⟨rfl, _, SqL.of e3⟩, small_le rfl, fun ta hta => ?_⟩
    have Sa := Same.upd (o := .tup [.str "always"]) hta
    generalize upd H' ta (.tup [.str "always"]) = Ha at Sa
    refine ⟨lc, us, .ref ta, rfl, rfl, Sa _ _ e3, by omega, ?_⟩
    have KT := KeepT.lst (o := .lst (us ++ [.ref ta])) (Sa _ _ e3)
    refine ⟨_, rfl, (S'.trans Sa).over e5, by rw [upd_ne (Ne.symm e6)]; exact Sa _ _ hl', fun y m => ?_⟩
    obtain ⟨t2, lc2, a2, g2, us2, rfl, f2, f3, f4, f5, f6⟩ := fr' y m
    by_cases hc : lc2 = lc
    · subst hc
      rw [e3] at f3
      cases f3
      exact ⟨t2, lc2, a2, g2, _, rfl, KT _ _ (Sa _ _ f2), upd_same, by rw [List.length_append]; show _ + 1 ≤ _; omega, f5, f6⟩
    · exact ⟨t2, lc2, a2, g2, us2, rfl, KT _ _ (Sa _ _ f2), by rw [upd_ne hc]; exact Sa _ _ f3, by omega, f5, f6⟩
  rintro σ H' ⟨v6, rfl, S', hl', fr'⟩
  refine ⟨_, rfl, .inl ⟨rfl, _, SqL.of hl'⟩, lr, ys, .non, rfl, rfl, hl', by omega, ?_⟩
  have S7 : Same H4 (upd H' lr (.lst (ys ++ [.non]))) := S'.over nlr
  generalize upd H' lr (.lst (ys ++ [.non])) = H7 at S7
  have T7 := T4.trans S7
  refine ⟨_, rfl, _, rfl, _, _, rfl, p, fs, dks, ds, rfl, rfl, L.same T7, D, fun lr2 ys2 H8 S8 nlr2 hlr2 hir2 fr2 => ?_⟩
  have T8 := T7.trans S8
  refine ⟨_, rfl, _, _, rfl, ds, ys2, vs, lr2, q, rfl, rfl, hlr2, T8 _ _ hq, hir2, IsL.same T8 _ _ hiq, by omega, D.ok, fun H9 S9 => ?_⟩
  exact qq _ (T8.trans S9)

open Mt13 Mt11 Mt02
theorem lst_small {ds : List Dv} (h : ∀ d ∈ ds, small d = true) (hl : ds.length ≤ 1000) : small (.lst ds) = true := by
  show (decide (ds.length ≤ 1000) && smallL ds) = true
  rw [decide_eq_true hl, smallL_of h]
  rfl
theorem name_small {z : Str} (h : nameS z = true) : z.length ≤ 1000 := by
  unfold nameS at h
  rw [Bool.and_eq_true, Bool.and_eq_true, Bool.and_eq_true] at h
  have := of_decide_eq_true h.1.1.2
  omega
theorem field_small {d : Dv} (h : isField d = true) : small d = true := by
  obtain ⟨z, g, e, rfl, hz, _⟩ := field_shape h
  show (decide (3 ≤ 1000) && (decide (z.length ≤ 1000) && (true && (true && true)))) = true
  rw [decide_eq_true (name_small hz)]
  rfl
theorem side_small {fs : List Dv} (hf : ∀ d ∈ fs, isField d = true) {a : Str} (h : a ∈ ("sea" :: fs.map nmOf : List Str)) : a.length ≤ 1000 := by
  rcases List.mem_cons.mp h with rfl | h
  · decide +kernel
  · obtain ⟨d, m, rfl⟩ := List.mem_map.mp h
    obtain ⟨z, g, e, rfl, hz, _⟩ := field_shape (hf d m)
    exact name_small hz
theorem dyke_small {fs : List Dv} (hf : ∀ d ∈ fs, isField d = true) {d : Dv} (h : isDyke ("sea" :: fs.map nmOf) d = true) : small d = true := by
  obtain ⟨n, a, b, c, r, s, rfl, hn, ha, hb, _, _, _, hs⟩ := dyke_shape h
  have e : small s = true := by
    cases s with
    | non => rfl
    | int i => rfl
    | _ => cases hs
  show (decide (6 ≤ 1000) && (decide (n.length ≤ 1000) && (decide (a.length ≤ 1000) && (decide (b.length ≤ 1000) && (true && (true && (small s && true))))))) = true
  rw [decide_eq_true (name_small hn), decide_eq_true (side_small hf ha), decide_eq_true (side_small hf hb), e]
  rfl
theorem fence_small {z : Str} (h : z ∈ fences8) : z.length ≤ 1000 := by
  have : ∀ z ∈ fences8, z.length ≤ 8 := by decide +kernel
  have := this z h
  omega
theorem gates_sub {ds : List Dv} (h : ∀ d ∈ ds, nmOf d ∈ fences8) {z : Str} (m : z ∈ (ds.filter hasSill).map nmOf) : z ∈ fences8 := by
  obtain ⟨d, md, rfl⟩ := List.mem_map.mp m
  exact h d (List.mem_filter.mp md).1
theorem plot_field {z : Str} (h : z ∈ plots8) : isField (.tup [.str z, .int 0, .int 1]) = true := by
  show (nameS z && (hgt 0 && amt 1)) = true
  rw [plots_name _ h]
  rfl
theorem plots_fields {zs : List Str} (pz : Plots zs) : areFields (.lst (zs.map fun z => .tup [.str z, .int 0, .int 1])) = true := by
  refine (goodF_iff _).mpr ⟨?_, ?_, ?_, ?_⟩
  · rw [List.length_map]; exact pz.l1
  · rw [List.length_map]; have := pz.l2; omega
  · intro d m
    obtain ⟨z, mz, rfl⟩ := List.mem_map.mp m
    exact plot_field (pz.sub _ mz)
  · rw [List.map_map]
    have : (nmOf ∘ fun z : Str => Dv.tup [.str z, .int 0, .int 1]) = id := rfl
    rw [this, List.map_id]
    exact pz.nd
theorem field_names {zs : List Str} : (zs.map fun z => Dv.tup [.str z, .int 0, .int 1]).map nmOf = zs := by
  rw [List.map_map]
  have : (nmOf ∘ fun z : Str => Dv.tup [.str z, .int 0, .int 1]) = id := rfl
  rw [this, List.map_id]
theorem gates_some {ds : List Dv} (h : ∃ d ∈ ds, hasSill d = true) : 1 ≤ ((ds.filter hasSill).map nmOf).length := by
  obtain ⟨d, m, e⟩ := h
  exact List.length_pos_of_mem (List.mem_map.mpr ⟨d, List.mem_filter.mpr ⟨m, e⟩, rfl⟩)

theorem cond_bnd {zs : List Str} (hz : ∀ z ∈ zs, z.length ≤ 8 ∧ word z) {d : Dv} (h : isCond zs d = true) : ∃ c : Cd, d = c.dv ∧ c.bnd := by
  unfold isCond at h
  split at h
  · rename_i a
    cases a with
    | str z =>
      have := List.mem_singleton.mp (of_decide_eq_true (show decide (z ∈ (["always"] : List Str)) = true from h))
      subst this
      exact ⟨.always, rfl, trivial⟩
    | _ => cases h
  · rename_i a b c
    rw [Bool.and_eq_true] at h
    cases a with
    | str z =>
      have := List.mem_singleton.mp (of_decide_eq_true (show decide (z ∈ (["day"] : List Str)) = true from h.1))
      subst this
      have h2 := h.2
      unfold isDay at h2
      split at h2
      · rename_i n m
        rw [Bool.and_eq_true, Bool.and_eq_true, Bool.and_eq_true] at h2
        have q1 := of_decide_eq_true h2.2.1
        have q2 := of_decide_eq_true h2.2.2
        have q3 := of_decide_eq_true h2.1.2
        exact ⟨.day n m, rfl, by omega, by omega⟩
      · cases h2
    | _ => cases h.1
  · rename_i a b
    cases a with
    | str z =>
      cases e : oneOf ["above", "below"] (.str z) with
      | true =>
        rw [e] at h
        have hb : isHeight b = true := h
        cases b with
        | int i =>
          have m := of_decide_eq_true (show decide (z ∈ (["above", "below"] : List Str)) = true from e)
          rcases List.mem_cons.mp m with rfl | m
          · exact ⟨.above i, rfl, hgt_abs hb⟩
          · have := List.mem_singleton.mp m
            subst this
            exact ⟨.below i, rfl, hgt_abs hb⟩
        | _ => cases hb
      | false =>
        rw [e] at h
        have h' : (oneOf ["wet", "dry"] (.str z) && oneOf zs b) = true := h
        rw [Bool.and_eq_true] at h'
        cases b with
        | str y =>
          have m := of_decide_eq_true (show decide (z ∈ (["wet", "dry"] : List Str)) = true from h'.1)
          rcases List.mem_cons.mp m with rfl | m
          · exact ⟨.wet y, rfl, hz y (of_decide_eq_true h'.2)⟩
          · have := List.mem_singleton.mp m
            subst this
            exact ⟨.dry y, rfl, hz y (of_decide_eq_true h'.2)⟩
        | _ => cases h'.2
    | _ => cases h
  · cases h
theorem conds_bnd {zs : List Str} (hz : ∀ z ∈ zs, z.length ≤ 8 ∧ word z) : ∀ {cs : List Dv}, (∀ c ∈ cs, isCond zs c = true) → ∃ ks : List Cd, cs = ks.map Cd.dv ∧ ∀ k ∈ ks, k.bnd
  | [], _ => ⟨[], rfl, fun k m => nomatch m⟩
  | c :: cs, h => by
    obtain ⟨k, rfl, hk⟩ := cond_bnd hz (h c List.mem_cons_self)
    obtain ⟨ks, rfl, hks⟩ := conds_bnd hz fun c m => h c (List.mem_cons_of_mem _ m)
    refine ⟨k :: ks, rfl, fun k' m => ?_⟩
    rcases List.mem_cons.mp m with rfl | m
    · exact hk
    · exact hks k' m
theorem words8 {zs : List Str} (h : ∀ z ∈ zs, z ∈ plots8 ∨ z ∈ fences8) : ∀ z ∈ zs, z.length ≤ 8 ∧ word z := fun z m => by
  have a : ∀ z ∈ plots8 ++ fences8, z.length ≤ 8 ∧ (z.cps.toList.all fun c => decide (c ≠ 32 ∧ c ≠ 10)) = true := by decide +kernel
  have mz : z ∈ plots8 ++ fences8 := by
    rcases h z m with h | h
    · exact List.mem_append_left _ h
    · exact List.mem_append_right _ h
  exact ⟨(a z mz).1, word_lit _ (a z mz).2⟩
theorem deed8 {a : Str} (h : oneOf ["open", "shut"] (.str a) = true) : a.length ≤ 8 ∧ word a := by
  have m := of_decide_eq_true (show decide (a ∈ (["open", "shut"] : List Str)) = true from h)
  have L : ∀ z ∈ (["open", "shut"] : List Str), z.length ≤ 8 ∧ (z.cps.toList.all fun c => decide (c ≠ 32 ∧ c ≠ 10)) = true := by decide +kernel
  exact ⟨(L a m).1, word_lit _ (L a m).2⟩
theorem dks_of {gs zs : List Str} (hz : ∀ z ∈ zs, z.length ≤ 8 ∧ word z) (hg : ∀ z ∈ gs, z.length ≤ 8 ∧ word z) : ∀ {xs : List Dv}, (∀ d ∈ xs, GoodX gs zs d) → ∃ dl : List Dk, xs = dl.map dkD ∧ ∀ d ∈ dl, DkOk d ∧ GoodX gs zs (dkD d)
  | [], _ => ⟨[], rfl, fun k m => nomatch m⟩
  | x :: xs, h => by
    have gx := h x List.mem_cons_self
    obtain ⟨a, g, cs, e, ha, mg, l1, l6, gc, _, _⟩ := gx.sh
    obtain ⟨ks, rfl, hks⟩ := conds_bnd hz fun c m => (gc c m).ok
    obtain ⟨dl, rfl, hd⟩ := dks_of hz hg fun d m => h d (List.mem_cons_of_mem _ m)
    rw [List.length_map] at l1 l6
    refine ⟨(a, g, ks) :: dl, by rw [e]; rfl, fun d m => ?_⟩
    rcases List.mem_cons.mp m with rfl | m
    · exact ⟨⟨deed8 ha, hg g mg, l1, l6, hks⟩, by rw [e] at gx; exact gx⟩
    · exact hd d m
theorem dksOk_of {gs zs : List Str} {dl : List Dk} (h : ∀ d ∈ dl, DkOk d ∧ GoodX gs zs (dkD d)) (l : dl.length ≤ 60) : DksOk gs zs dl := by
  refine ⟨fun d m => (h d m).1, l, ?_, ?_⟩
  · show (decide ((dl.map dkD).length ≤ 60) && (dl.map dkD).all (isDec gs zs)) = true
    rw [List.length_map, decide_eq_true l, List.all_eq_true.mpr fun x m => ?_]
    · rfl
    · obtain ⟨d, md, rfl⟩ := List.mem_map.mp m
      exact (h d md).2.ok
  · refine lst_small (fun x m => ?_) (by rw [List.length_map]; omega)
    obtain ⟨d, md, rfl⟩ := List.mem_map.mp m
    exact (h d md).2.sm
theorem ok_law {f : Addr} {fd : FuncData} (T : Txt w K mg C) (F : Fun K "law" "law" s_p_law f fd) : FnOk P w K mg base CX0 12 f fd ["_law_script"] (spLaw K) := by
  have G_l_land : Fc P w K mg base 3 "_law_land" ["_law_script"] (spLand K) := ok_l_land T
  have G_l_cell_at : Fc P w K mg base 1 "_law_cell_at" ["_law_script", "_law_k"] (spCell K) := ok_l_cell_at T
  have G_l_decree : Fc P w K mg base 3 "_law_decree" ["_law_cell", "_law_k", "_law_fields", "_law_gates"] spDecree := ok_l_decree T
  have G_l_mixed : Fc P w K mg base 1 "_law_mixed" ["_law_cell", "_law_k"] spMixed := ok_l_mixed T
  have G_l_stands : Fc P w K mg base 7 "_law_stands" ["_law_land_here", "_law_decrees"] (spStandsD C) := ok_l_stands T
  have G_land_pinit : Ic P w K mg base 6 C ["self", "fields", "dykes"] (spInit C) := ok_land_pinit T
  refine F.ok sc_p_law len1 (fun cdv A outer s H vs Q E hr h => ?_)
  obtain ⟨x, rfl, a, ns, rfl, hS, hl, q⟩ := h
  have big := big1000
  refine ⟨_, (@pss_cons _ _ _ _ _ (@ps_asg _ _ _ _ _ _ (@pe_c _ _ _ _ _ _ _ _ _ _ G_l_land (hr.mono (by decide)) (@pa_cons _ _ _ _ _ (pv 0) pa_nil (by rfl)) (by rfl) (by decide) (by rfl) (by rfl)) (@pg_tup _ _ _ _ _ _ rfl (@pgs_cons _ _ _ _ _ (@pg_name _ _ (1) _ sc_p_law.nd rfl (Or.inr rfl) (by first | exact .inl rfl | exact .inr rfl | assumption)) (@pgs_cons _ _ _ _ _ (@pg_name _ _ (2) _ sc_p_law.nd rfl (Or.inr rfl) (by first | exact .inl rfl | exact .inr rfl | assumption)) (@pgs_cons _ _ _ _ _ (@pg_name _ _ (3) _ sc_p_law.nd rfl (Or.inl rfl) (by first | exact .inl rfl | exact .inr rfl | assumption)) pgs_nil (by rfl)) (by rfl)) (by rfl)) (by rfl) (by rfl)) (by rfl) (by rfl) (by rfl)) (@pss_cons _ _ _ _ _ (@ps_set _ _ (4) _ _ _ _ sc_p_law.nd rfl (Or.inl rfl) (@pe_mk _ _ _ _ _ _ _ _ _ _ _ T.mg_Land G_land_pinit (hr.mono (by decide)) (@pa_cons _ _ _ _ _ (@pe_comp _ _ _ _ _ _ _ _ _ _ _ ["_law_name"] 1 [] rfl (@pi_list _ _ _ _ (pv 1)) (fun R => @pg_name _ _ (0) _ (show List.Nodup (["_law_name"] : List Str) by decide +kernel) rfl (Or.inl rfl) (by first | exact .inl rfl | exact .inr rfl | assumption)) (@gkeep_name _ _ (by decide)) (fun R => pifs_nil) (fun R => (@pe_tup _ _ _ _ _ (@pa_cons _ _ _ _ _ (pv 0) (@pa_cons _ _ _ _ _ pe_int (@pa_cons _ _ _ _ _ pe_int pa_nil (by rfl)) (by rfl)) (by rfl)))) (by rfl) (by rfl) (by rfl) (by rfl) (by rfl) (by rfl) (by rfl) (by intro _; rfl)) (@pa_cons _ _ _ _ _ (pv 3) pa_nil (by rfl)) (by rfl)) (by rfl) (by decide) (by rfl) (by rfl)) (by rfl) (by first | exact .inl rfl | exact .inr rfl | assumption)) (@pss_cons _ _ _ _ _ (@ps_set _ _ (5) _ _ _ _ sc_p_law.nd rfl (Or.inr rfl) (@pe_op _ _ _ _ _ _ _ _ op_cat (@pe_lst _ _ _ _ (@pa_cons _ _ _ _ _ (@pe_c _ _ _ _ _ _ _ _ _ _ G_l_cell_at (hr.mono (by decide)) (@pa_cons _ _ _ _ _ (pv 0) (@pa_cons _ _ _ _ _ pe_int pa_nil (by rfl)) (by rfl)) (by rfl) (by decide) (by rfl) (by rfl)) pa_nil (by rfl))) (@pe_slice _ _ _ _ _ _ _ _ _ _ (@sl_listB _ (K) rfl) (pv 0) (@po_some _ _ _ pe_int) (@po_some _ _ _ pe_int))) (by rfl) (by first | exact .inl rfl | exact .inr rfl | assumption)) (@pss_cons _ _ _ _ _ (@ps_setComp _ (6) _ _ _ _ _ _ _ _ _ _ _ _ _ sc_p_law.nd rfl ["_law_k", "_law_fields", "_law_gates", "_law_cells"] 1 [1, 2, 5] rfl (@pi_range1 _ _ _ _ _ _ rfl T.n_range (@pa_cons _ _ _ _ _ (@pe_callB _ _ _ _ _ _ _ _ _ (@call_len_seqB _ (K) rfl) rfl T.n_len boot_len' (@pa_cons _ _ _ _ _ (pv 5) pa_nil (by rfl)) (by decide) (by decide) (by rfl) (by rfl)) pa_nil (by rfl)) (by rfl)) (fun R => @pg_name _ _ (0) _ (show List.Nodup (["_law_k", "_law_fields", "_law_gates", "_law_cells"] : List Str) by decide +kernel) rfl (Or.inl rfl) (by first | exact .inl rfl | exact .inr rfl | assumption)) (@gkeep_name _ _ (by decide)) (fun R => pifs_nil) (fun R => (@pe_c _ _ _ _ _ _ _ _ _ _ G_l_decree (hr.mono (by decide)) (@pa_cons _ _ _ _ _ (@pe_ix _ _ _ _ _ _ _ (@ix_listB _ (K) rfl) (pv 3) (pv 0) (fun _ _ => rfl)) (@pa_cons _ _ _ _ _ (pv 0) (@pa_cons _ _ _ _ _ (pv 1) (@pa_cons _ _ _ _ _ (pv 2) pa_nil (by rfl)) (by rfl)) (by rfl)) (by rfl)) (by rfl) (by decide) (by rfl) (by rfl))) (by exact Or.inl rfl) (by first | exact .inl rfl | exact .inr rfl | assumption) (by rfl) (by rfl) (by rfl) (by rfl) (by rfl) (by rfl) (by rfl) (by rfl) (by intro _; rfl)) (@pss_cons _ _ _ _ _ (@ps_if _ _ _ _ _ _ _ _ (@PW.pt _ _ _ (@pw_or _ _ _ _ _ _ _ (@pt_not _ _ _ _ (@pt_val _ _ _ (@pe_c _ _ _ _ _ _ _ _ _ _ G_l_stands (hr.mono (by decide)) (@pa_cons _ _ _ _ _ (pv 4) (@pa_cons _ _ _ _ _ (pv 6) pa_nil (by rfl)) (by rfl)) (by rfl) (by decide) (by rfl) (by rfl)) (by intro _; rfl))) (@pw_or1 _ _ _ _ (@pt_not _ _ _ _ (@pt_val _ _ _ (@pe_c _ _ _ _ _ _ _ _ _ _ G_l_stands (hr.mono (by decide)) (@pa_cons _ _ _ _ _ (pv 4) (@pa_cons _ _ _ _ _ (@pe_lst _ _ _ _ pa_nil) pa_nil (by rfl)) (by rfl)) (by rfl) (by decide) (by rfl) (by rfl)) (by intro _; rfl)))))) (@pss_one _ _ _ (@ps_ret _ _ _ _ pe_bl)) pss_nil) (@pss_one _ _ _ (@ps_ret _ _ _ _ (@pe_c _ _ _ _ _ _ _ _ _ _ G_l_stands (hr.mono (by decide)) (@pa_cons _ _ _ _ _ (pv 4) (@pa_cons _ _ _ _ _ (@pe_rev _ _ _ _ _ _ _ (pv 6) (@pe_un _ _ _ _ _ _ un_neg pe_int)) pa_nil (by rfl)) (by rfl)) (by rfl) (by decide) (by rfl) (by rfl))))))))), ?_⟩
  refine ⟨_, rfl, _, rfl, a, ns, rfl, hS, hl, fun t0 lf lg lu zs us ds H1 S1 ht hf hg hu hi pz gd sub fo l8 => ?_⟩
  refine ⟨t0, _, rfl, SqT.of ht, rfl, _, _, rfl, _, _, rfl, _, _, rfl, rfl, ?_⟩
  have z6 := pz.l2
  have l40 := gd.l2
  refine ⟨_, rfl, lf, rfl, ⟨_, SqL.of hf⟩, ?_⟩
  refine comp_list (F := K) (xs := zs.map V.str) (by rw [List.length_map]; omega) (fun i ys H' => Same H1 H' ∧ IsL H' ((zs.take i).map fun z => .tup [.str z, .int 0, .int 1]) ys) ⟨Same.refl _, rfl⟩ ?_ ?_ ?_
  · rintro i ys H' hi' ⟨S, iy⟩
    have := iy.length
    rw [List.length_map, List.length_take] at this
    exact ⟨SqL.of (S _ _ hf), by omega⟩
  · rintro i xv ys H' K1 K2 hx ⟨S, iy⟩ k1 k2
    obtain ⟨z, ez⟩ : ∃ z, zs[i]? = some z := by
      have := (List.getElem?_eq_some_iff.mp hx).1
      rw [List.length_map] at this
      exact ⟨_, List.getElem?_eq_getElem this⟩
    rw [List.getElem?_map, ez] at hx
    cases hx
    refine ⟨_, rfl, small_le rfl, fun t ht => k1 _ _ ⟨S.trans (Same.upd ht), ?_⟩⟩
    rw [List.take_add_one, ez, List.map_append]
    have ist : Is (upd H' t (.tup [.str z, .int 0, .int 1])) (.tup [.str z, .int 0, .int 1]) (.ref t) := ⟨t, _, rfl, upd_same, _, _, rfl, rfl, _, _, rfl, rfl, _, _, rfl, rfl, rfl⟩
    exact L2.IsL.snoc ist (L2.IsL.same (Same.upd ht) _ _ iy)
  rintro fy H2 ⟨S2, ify⟩
  rw [List.length_map, List.take_of_length_le (Nat.le_refl _)] at ify
  intro pf hpf
  have S3 := Same.upd (o := .lst fy) hpf
  have ify3 := L2.IsL.same S3 _ _ ify
  have hpf3 : upd H2 pf (.lst fy) pf = some (.lst fy) := upd_same
  have T3 := S2.trans S3
  generalize upd H2 pf (.lst fy) = H3 at S3 ify3 hpf3 T3
  refine ⟨_, rfl, fun p dx np ndx nex => ?_⟩
  have S4' : Same H3 (upd (upd H3 dx (.own p)) p (.ins C dx [])) := fun b o e => by
    rw [upd_ne (ne_of_none e np), upd_ne (ne_of_none e ndx)]
    exact e
  have okf := plots_fields pz
  have okd : areDykes ("sea" :: (zs.map fun z => Dv.tup [.str z, .int 0, .int 1]).map nmOf) (.lst ds) = true := by
    rw [field_names]
    exact (goodD_iff _ _).mpr gd
  have allf : ∀ d ∈ (zs.map fun z => Dv.tup [.str z, .int 0, .int 1]), isField d = true := fun d m => by
    obtain ⟨z, mz, rfl⟩ := List.mem_map.mp m
    exact plot_field (pz.sub _ mz)
  have smf : small (.lst (zs.map fun z => Dv.tup [.str z, .int 0, .int 1])) = true := lst_small (fun d m => field_small (allf d m)) (by rw [List.length_map]; omega)
  have smd : small (.lst ds) = true := lst_small (fun d m => dyke_small (fs := zs.map fun z => Dv.tup [.str z, .int 0, .int 1]) allf (by rw [field_names]; exact gd.all d m)) (by omega)
  refine ⟨_, _, _, rfl, p, dx, _, ds, rfl, upd_same, ⟨pf, fy, rfl, S4' _ _ hpf3, L2.IsL.same S4' _ _ ify3⟩, ⟨lu, us, rfl, S4' _ _ (T3 _ _ hu), L2.IsL.same S4' _ _ (L2.IsL.same T3 _ _ hi)⟩, smf, smd, okf, okd, fun H4 L fr => ⟨rfl, ?_⟩⟩
  have S4 : Same H3 H4 := fun b o e => fr b o (S4' _ _ e) (ne_of_none e np)
  have T4 := T3.trans S4
  have hf4 := T4 _ _ hf
  have hg4 := T4 _ _ hg
  have hS4 := (S1.trans T4).seq hS
  clear S4' T3 T4 S4 fr ify3 hpf3 S3 ify S2 np ndx nex hpf hf hg hu hi ht S1
  refine ⟨_, rfl, _, _, rfl, a, ns, 2, rfl, rfl, hS4, hl, by decide, small_le rfl, fun p1 hp1 => ?_⟩
  have R1 := Same.upd (o := .lst [.int (ns.getD (2 : Int).toNat 0)]) hp1
  refine ⟨_, rfl, _, rfl, _, rfl, a, _, rfl, R1.seq hS4, fun p2 hp2 => ?_⟩
  have R2 := Same.upd (o := .lst (cutV (ns.map V.int) (some 3) (some 62))) hp2
  obtain ⟨cs, ecs, lcs, lcs1⟩ : ∃ cs : List Int, [V.int (ns.getD (2 : Int).toNat 0)] ++ cutV (ns.map V.int) (some 3) (some 62) = cs.map V.int ∧ cs.length ≤ 60 ∧ 1 ≤ cs.length := by
    refine ⟨ns.getD (2 : Int).toNat 0 :: (ns.drop (HT.sIx (ns.map V.int).length 0 (some 3))).take (HT.sIx (ns.map V.int).length (ns.map V.int).length (some 62) - HT.sIx (ns.map V.int).length 0 (some 3)), ?_, ?_, ?_⟩
    · rw [List.map_cons, List.map_take, List.map_drop]
      rfl
    · have e3 : HT.sIx (ns.map V.int).length 0 (some 3) = min 3 (ns.map V.int).length := HT.sIx_nat _ _ 3
      have e62 : HT.sIx (ns.map V.int).length (ns.map V.int).length (some 62) = min 62 (ns.map V.int).length := HT.sIx_nat _ _ 62
      rw [List.length_cons, List.length_take, List.length_drop, e3, e62, List.length_map]
      omega
    · rw [List.length_cons]
      omega
  refine ⟨p1, p2, _, _, rfl, rfl, R2 _ _ upd_same, upd_same, ?_, fun pc hpc => ?_⟩
  · have := cutV_length (ns.map V.int) (some 3) (some 62)
    rw [List.length_map] at this
    show 1 + _ ≤ _
    omega
  rw [ecs]
  have R3 := Same.upd (o := .lst (cs.map V.int)) hpc
  have U3 := R1.trans (R2.trans R3)
  have hpc5 : upd (upd (upd H4 p1 (.lst [.int (ns.getD (2 : Int).toNat 0)])) p2 (.lst (cutV (ns.map V.int) (some 3) (some 62)))) pc (.lst (cs.map V.int)) pc = some (.lst (cs.map V.int)) := upd_same
  have hf5 := U3 _ _ hf4
  have hg5 := U3 _ _ hg4
  have hS5 := U3.seq hS4
  have L5 := L.same U3
  generalize upd (upd (upd H4 p1 (.lst [.int (ns.getD (2 : Int).toNat 0)])) p2 (.lst (cutV (ns.map V.int) (some 3) (some 62)))) pc (.lst (cs.map V.int)) = H5 at hpc5 hf5 hg5 hS5 L5
  clear R1 R2 R3 U3 hp1 hp2 hpc hf4 hg4 hS4 L
  have g1 := gates_some fo
  have sg : ∀ g ∈ (ds.filter hasSill).map nmOf, g.length ≤ 1000 := fun g m => fence_small (gates_sub sub m)
  have fnm := field_names (zs := zs)
  refine ⟨_, rfl, pc, _, rfl, .inl (SqL.of hpc5), _, rfl, by rw [List.length_map]; omega, by rw [List.length_map]; omega, ?_⟩
  rw [List.length_map, Int.toNat_natCast]
  refine comp_range (lo := 0) (n := cs.length) (by omega) (fun i ys H' => Same H5 H' ∧ ∃ xs : List Dv, IsL H' xs ys ∧ (∀ d ∈ xs, GoodX ((ds.filter hasSill).map nmOf) zs d) ∧ xs.length = i) ⟨Same.refl _, [], rfl, (fun c h => by cases h), rfl⟩ ?_ ?_ ?_
  · rintro i ys H' ⟨S, xs, ix, _, lx⟩
    have := ix.length
    omega
  · rintro i ys H' K1 K2 hi ⟨S, xs, ix, gx, lx⟩ k1 k2
    obtain ⟨c, ec⟩ : ∃ c, cs[i]? = some c := ⟨_, List.getElem?_eq_getElem hi⟩
    have ea : atI (cs.map V.int) (0 + (i : Int)) = some (.int c) := by
      rw [Int.zero_add]
      exact atI_nat (by rw [List.getElem?_map, ec]; rfl)
    refine ⟨_, rfl, _, rfl, pc, _, _, .int c, rfl, rfl, SqL.of (S _ _ hpc5), ea, _, rfl, _, rfl, _, rfl, _, _, _, _, rfl, c, _, lf, lg, zs, _, rfl, rfl, by omega, by omega, rfl, S _ _ hf5, pz, rfl, S _ _ hg5, g1, sg, fun v d H6 S6 iv gd' => k1 _ _ ⟨S.trans S6, xs ++ [d], L2.IsL.snoc iv (L2.IsL.same S6 _ _ ix), ?_, by rw [List.length_append, lx]; rfl⟩⟩
    intro e m
    rcases List.mem_append.mp m with m | m
    · exact gx e m
    · rw [List.mem_singleton.mp m]
      exact gd'
  rintro ys H6 ⟨S6, xs, ix6, gx, lx⟩
  intro ld hld
  have R7 := Same.upd (o := .lst ys) hld
  have hld7 : upd H6 ld (.lst ys) ld = some (.lst ys) := upd_same
  have ix7 := L2.IsL.same R7 _ _ ix6
  have U7 := S6.trans R7
  have L7 := L5.same U7
  generalize upd H6 ld (.lst ys) = H7 at R7 hld7 ix7 U7 L7
  obtain ⟨dl, rfl, hd⟩ := dks_of (words8 fun z m => .inl (pz.sub z m)) (words8 fun z m => .inr (gates_sub sub m)) gx
  rw [List.length_map] at lx
  have D := dksOk_of hd (by omega)
  have D : DksOk ((ds.filter hasSill).map nmOf) ((zs.map fun z => Dv.tup [.str z, .int 0, .int 1]).map nmOf) dl := by rw [fnm]; exact D
  have D0 : DksOk ((ds.filter hasSill).map nmOf) ((zs.map fun z => Dv.tup [.str z, .int 0, .int 1]).map nmOf) [] := ⟨fun d m => (nomatch m), by decide, rfl, rfl⟩
  have Dr : DksOk ((ds.filter hasSill).map nmOf) ((zs.map fun z => Dv.tup [.str z, .int 0, .int 1]).map nmOf) dl.reverse := by
    rw [fnm]
    exact dksOk_of (fun d m => hd d (List.mem_reverse.mp m)) (by rw [List.length_reverse]; omega)
  refine ⟨_, rfl, _, rfl, _, _, rfl, p, ld, _, ds, dl, ys, rfl, rfl, L7, hld7, ix7, D, fun H8 S8 => ⟨_, rfl, ?_⟩⟩
  refine iteF ?_
  refine ⟨_, rfl, small_le rfl, fun l0 h0 => ?_⟩
  have S9 := Same.upd (o := .lst []) h0
  refine ⟨_, _, rfl, p, l0, _, ds, [], [], rfl, rfl, L7.same (S8.trans S9), upd_same, rfl, D0, fun H9 S9' => ⟨_, rfl, ?_⟩⟩
  refine iteF ?_
  have T9 := S8.trans (S9.trans S9')
  refine ⟨_, rfl, _, rfl, _, rfl, ld, ys, rfl, rfl, SqL.of (T9 _ _ hld7), fun lr hlr => ?_⟩
  have Sr := Same.upd (o := .lst ys.reverse) hlr
  refine ⟨_, _, rfl, p, lr, _, ds, dl.reverse, ys.reverse, rfl, rfl, L7.same (T9.trans Sr), upd_same, ?_, Dr, fun H10 _ => q H10⟩
  rw [List.map_reverse]
  exact L2.IsL.rev (L2.IsL.same (T9.trans Sr) _ _ ix7)
theorem law_mk {fa : Addr} (hmg : mg "law" = some (.ref fa)) (T : Txt w K mg C) :
    ∃ fd : FuncData, (∀ (s : Shared) (u : Value), BindsTo s fd ⟨[u], []⟩ [("_law_script", u)]) ∧ ∀ base : Heap, K.In base → base.Ns mainGlobals mg → FnOk P w K mg base CX0 12 fa fd ["_law_script"] (spLaw K) := by
  obtain ⟨f, fd, F, b, m⟩ := T.d_p_law.ex
  rw [hmg] at m
  cases m
  refine ⟨fd, fun s u => ?_, fun base _ _ => ok_law T F⟩
  obtain ⟨oc, od, kV, doc, pm, an, cdv, ct, osl, rfl, lk, hcd⟩ := F.ex
  exact .of_eq rfl

end
theorem txt_mk {w : World} {K : PySem.W.Frag} {h : Heap} {mg : Str → Option Value} (X : K.In h) (G : h.Ns mainGlobals mg)
    {C : Addr}
    {fm15 : Addr} {ocm15 kVm15 docm15 pmm15 cdm15 ctm15 : Value} {odm15 anm15 : Option Addr} {slm15 : Array (Option Value)}
    {fm16 : Addr} {ocm16 kVm16 docm16 pmm16 cdm16 ctm16 : Value} {odm16 anm16 : Option Addr} {slm16 : Array (Option Value)}
    {fm17 : Addr} {ocm17 kVm17 docm17 pmm17 cdm17 ctm17 : Value} {odm17 anm17 : Option Addr} {slm17 : Array (Option Value)}
    {fm18 : Addr} {ocm18 kVm18 docm18 pmm18 cdm18 ctm18 : Value} {odm18 anm18 : Option Addr} {slm18 : Array (Option Value)}
    {fm19 : Addr} {ocm19 kVm19 docm19 pmm19 cdm19 ctm19 : Value} {odm19 anm19 : Option Addr} {slm19 : Array (Option Value)}
    {fm20 : Addr} {ocm20 kVm20 docm20 pmm20 cdm20 ctm20 : Value} {odm20 anm20 : Option Addr} {slm20 : Array (Option Value)}
    {fm21 : Addr} {ocm21 kVm21 docm21 pmm21 cdm21 ctm21 : Value} {odm21 anm21 : Option Addr} {slm21 : Array (Option Value)}
    {fm22 : Addr} {ocm22 kVm22 docm22 pmm22 cdm22 ctm22 : Value} {odm22 anm22 : Option Addr} {slm22 : Array (Option Value)}
    {fm23 : Addr} {ocm23 kVm23 docm23 pmm23 cdm23 ctm23 : Value} {odm23 anm23 : Option Addr} {slm23 : Array (Option Value)}
    {f0 : Addr} {oc0 kV0 doc0 pm0 cd0 ct0 : Value} {od0 an0 : Option Addr} {sl0 : Array (Option Value)}
    {f1 : Addr} {oc1 kV1 doc1 pm1 cd1 ct1 : Value} {od1 an1 : Option Addr} {sl1 : Array (Option Value)}
    {f2 : Addr} {oc2 kV2 doc2 pm2 cd2 ct2 : Value} {od2 an2 : Option Addr} {sl2 : Array (Option Value)}
    {f3 : Addr} {oc3 kV3 doc3 pm3 cd3 ct3 : Value} {od3 an3 : Option Addr} {sl3 : Array (Option Value)}
    {f4 : Addr} {oc4 kV4 doc4 pm4 cd4 ct4 : Value} {od4 an4 : Option Addr} {sl4 : Array (Option Value)}
    {f5 : Addr} {oc5 kV5 doc5 pm5 cd5 ct5 : Value} {od5 an5 : Option Addr} {sl5 : Array (Option Value)}
    {f6 : Addr} {oc6 kV6 doc6 pm6 cd6 ct6 : Value} {od6 an6 : Option Addr} {sl6 : Array (Option Value)}
    {f7 : Addr} {oc7 kV7 doc7 pm7 cd7 ct7 : Value} {od7 an7 : Option Addr} {sl7 : Array (Option Value)}
    {f8 : Addr} {oc8 kV8 doc8 pm8 cd8 ct8 : Value} {od8 an8 : Option Addr} {sl8 : Array (Option Value)}
    {f9 : Addr} {oc9 kV9 doc9 pm9 cd9 ct9 : Value} {od9 an9 : Option Addr} {sl9 : Array (Option Value)}
    {f10 : Addr} {oc10 kV10 doc10 pm10 cd10 ct10 : Value} {od10 an10 : Option Addr} {sl10 : Array (Option Value)}
    {f11 : Addr} {oc11 kV11 doc11 pm11 cd11 ct11 : Value} {od11 an11 : Option Addr} {sl11 : Array (Option Value)}
    {f12 : Addr} {oc12 kV12 doc12 pm12 cd12 ct12 : Value} {od12 an12 : Option Addr} {sl12 : Array (Option Value)}
    {f13 : Addr} {oc13 kV13 doc13 pm13 cd13 ct13 : Value} {od13 an13 : Option Addr} {sl13 : Array (Option Value)}
    {f14 : Addr} {oc14 kV14 doc14 pm14 cd14 ct14 : Value} {od14 an14 : Option Addr} {sl14 : Array (Option Value)}
    {f15 : Addr} {oc15 kV15 doc15 pm15 cd15 ct15 : Value} {od15 an15 : Option Addr} {sl15 : Array (Option Value)}
    {f16 : Addr} {oc16 kV16 doc16 pm16 cd16 ct16 : Value} {od16 an16 : Option Addr} {sl16 : Array (Option Value)}
    {f17 : Addr} {oc17 kV17 doc17 pm17 cd17 ct17 : Value} {od17 an17 : Option Addr} {sl17 : Array (Option Value)}
    {f18 : Addr} {oc18 kV18 doc18 pm18 cd18 ct18 : Value} {od18 an18 : Option Addr} {sl18 : Array (Option Value)}
    {f19 : Addr} {oc19 kV19 doc19 pm19 cd19 ct19 : Value} {od19 an19 : Option Addr} {sl19 : Array (Option Value)}
    {f20 : Addr} {oc20 kV20 doc20 pm20 cd20 ct20 : Value} {od20 an20 : Option Addr} {sl20 : Array (Option Value)}
    {f21 : Addr} {oc21 kV21 doc21 pm21 cd21 ct21 : Value} {od21 an21 : Option Addr} {sl21 : Array (Option Value)}
    {f22 : Addr} {oc22 kV22 doc22 pm22 cd22 ct22 : Value} {od22 an22 : Option Addr} {sl22 : Array (Option Value)}
    {f23 : Addr} {oc23 kV23 doc23 pm23 cd23 ct23 : Value} {od23 an23 : Option Addr} {sl23 : Array (Option Value)}
    {f24 : Addr} {oc24 kV24 doc24 pm24 cd24 ct24 : Value} {od24 an24 : Option Addr} {sl24 : Array (Option Value)}
    {f25 : Addr} {oc25 kV25 doc25 pm25 cd25 ct25 : Value} {od25 an25 : Option Addr} {sl25 : Array (Option Value)}
    {f26 : Addr} {oc26 kV26 doc26 pm26 cd26 ct26 : Value} {od26 an26 : Option Addr} {sl26 : Array (Option Value)}
    {f27 : Addr} {oc27 kV27 doc27 pm27 cd27 ct27 : Value} {od27 an27 : Option Addr} {sl27 : Array (Option Value)}
    {f28 : Addr} {oc28 kV28 doc28 pm28 cd28 ct28 : Value} {od28 an28 : Option Addr} {sl28 : Array (Option Value)}
    {f29 : Addr} {oc29 kV29 doc29 pm29 cd29 ct29 : Value} {od29 an29 : Option Addr} {sl29 : Array (Option Value)}
    {f30 : Addr} {oc30 kV30 doc30 pm30 cd30 ct30 : Value} {od30 an30 : Option Addr} {sl30 : Array (Option Value)}
    {f31 : Addr} {oc31 kV31 doc31 pm31 cd31 ct31 : Value} {od31 an31 : Option Addr} {sl31 : Array (Option Value)}
    {f32 : Addr} {oc32 kV32 doc32 pm32 cd32 ct32 : Value} {od32 an32 : Option Addr} {sl32 : Array (Option Value)}
    {f33 : Addr} {oc33 kV33 doc33 pm33 cd33 ct33 : Value} {od33 an33 : Option Addr} {sl33 : Array (Option Value)}
    {f34 : Addr} {oc34 kV34 doc34 pm34 cd34 ct34 : Value} {od34 an34 : Option Addr} {sl34 : Array (Option Value)}
    {f35 : Addr} {oc35 kV35 doc35 pm35 cd35 ct35 : Value} {od35 an35 : Option Addr} {sl35 : Array (Option Value)}
    {f36 : Addr} {oc36 kV36 doc36 pm36 cd36 ct36 : Value} {od36 an36 : Option Addr} {sl36 : Array (Option Value)}
    {f37 : Addr} {oc37 kV37 doc37 pm37 cd37 ct37 : Value} {od37 an37 : Option Addr} {sl37 : Array (Option Value)}
    {f38 : Addr} {oc38 kV38 doc38 pm38 cd38 ct38 : Value} {od38 an38 : Option Addr} {sl38 : Array (Option Value)}
    {f39 : Addr} {oc39 kV39 doc39 pm39 cd39 ct39 : Value} {od39 an39 : Option Addr} {sl39 : Array (Option Value)}
    {at0 : Addr} {otd0 : Option Addr} {its0 : Array Value} {nnt0 : Nat} {slt0 : Array (Option Value)}
    {at1 : Addr} {otd1 : Option Addr} {its1 : Array Value} {nnt1 : Nat} {slt1 : Array (Option Value)}
    {at2 : Addr} {otd2 : Option Addr} {its2 : Array Value} {nnt2 : Nat} {slt2 : Array (Option Value)}
    {ad0 : Addr} {ess0 : Array DictEntry} {epp0 : Nat}
    {u0 : Value}
    {u1 : Value}
    {u2 : Value}
    {u3 : Value}
    {u4 : Value}
    {u5 : Value}
    {u6 : Value}
    {u7 : Value}
    {u8 : Value}
    {u9 : Value}
    {u10 : Value}
    {u11 : Value}
    (aC : PySem.W.nsIn K mainGlobals "Land" = some (some (.ref C))) (pgC : PySem.W.plainGet K C Str.empty = true) (hdC : PySem.W.hasDictIn K C = true) (poC : PySem.W.plainOver K C = true) (saC : PySem.W.findIn K (.ref C) "__setattr__" = some (some (.builtin "object.__setattr__"))) (mkC : PySem.W.makesIn K C = true) (kpC : PySem.W.keepIn K (.ref C) = true)
    (n_field_rows : PySem.W.findIn K (.ref C) "field_rows" = some none)
    (n_dyke_rows : PySem.W.findIn K (.ref C) "dyke_rows" = some none)
    (ma15 : PySem.W.findIn K (.ref C) "__init__" = some (some (.ref fm15))) (mi15 : PySem.W.isFn K (.ref fm15) = true) (ml15 : K.lookup fm15 = some ⟨ocm15, odm15, .func (PySem.W.fnOf "__init__" "Land.__init__" (defArgs s_land_pinit) (defBody s_land_pinit) (defScope s_land_pinit) .none kVm15 docm15 pmm15 anm15 cdm15 ctm15), slm15⟩) (mc15 : PySem.W.codeIn K cdm15 "Land.__init__" = true) (mk15 : PySem.W.keepIn K (.ref fm15) = true)
    (ma16 : PySem.W.findIn K (.ref C) "fields" = some (some (.ref fm16))) (mi16 : PySem.W.isFn K (.ref fm16) = true) (ml16 : K.lookup fm16 = some ⟨ocm16, odm16, .func (PySem.W.fnOf "fields" "Land.fields" (defArgs s_land_p_fields) (defBody s_land_p_fields) (defScope s_land_p_fields) .none kVm16 docm16 pmm16 anm16 cdm16 ctm16), slm16⟩) (mc16 : PySem.W.codeIn K cdm16 "Land.fields" = true) (mk16 : PySem.W.keepIn K (.ref fm16) = true)
    (ma17 : PySem.W.findIn K (.ref C) "dykes" = some (some (.ref fm17))) (mi17 : PySem.W.isFn K (.ref fm17) = true) (ml17 : K.lookup fm17 = some ⟨ocm17, odm17, .func (PySem.W.fnOf "dykes" "Land.dykes" (defArgs s_land_p_dykes) (defBody s_land_p_dykes) (defScope s_land_p_dykes) .none kVm17 docm17 pmm17 anm17 cdm17 ctm17), slm17⟩) (mc17 : PySem.W.codeIn K cdm17 "Land.dykes" = true) (mk17 : PySem.W.keepIn K (.ref fm17) = true)
    (ma18 : PySem.W.findIn K (.ref C) "field_names" = some (some (.ref fm18))) (mi18 : PySem.W.isFn K (.ref fm18) = true) (ml18 : K.lookup fm18 = some ⟨ocm18, odm18, .func (PySem.W.fnOf "field_names" "Land.field_names" (defArgs s_land_p_field_names) (defBody s_land_p_field_names) (defScope s_land_p_field_names) .none kVm18 docm18 pmm18 anm18 cdm18 ctm18), slm18⟩) (mc18 : PySem.W.codeIn K cdm18 "Land.field_names" = true) (mk18 : PySem.W.keepIn K (.ref fm18) = true)
    (ma19 : PySem.W.findIn K (.ref C) "dyke_names" = some (some (.ref fm19))) (mi19 : PySem.W.isFn K (.ref fm19) = true) (ml19 : K.lookup fm19 = some ⟨ocm19, odm19, .func (PySem.W.fnOf "dyke_names" "Land.dyke_names" (defArgs s_land_p_dyke_names) (defBody s_land_p_dyke_names) (defScope s_land_p_dyke_names) .none kVm19 docm19 pmm19 anm19 cdm19 ctm19), slm19⟩) (mc19 : PySem.W.codeIn K cdm19 "Land.dyke_names" = true) (mk19 : PySem.W.keepIn K (.ref fm19) = true)
    (ma20 : PySem.W.findIn K (.ref C) "sluices" = some (some (.ref fm20))) (mi20 : PySem.W.isFn K (.ref fm20) = true) (ml20 : K.lookup fm20 = some ⟨ocm20, odm20, .func (PySem.W.fnOf "sluices" "Land.sluices" (defArgs s_land_p_sluices) (defBody s_land_p_sluices) (defScope s_land_p_sluices) .none kVm20 docm20 pmm20 anm20 cdm20 ctm20), slm20⟩) (mc20 : PySem.W.codeIn K cdm20 "Land.sluices" = true) (mk20 : PySem.W.keepIn K (.ref fm20) = true)
    (ma21 : PySem.W.findIn K (.ref C) "ground" = some (some (.ref fm21))) (mi21 : PySem.W.isFn K (.ref fm21) = true) (ml21 : K.lookup fm21 = some ⟨ocm21, odm21, .func (PySem.W.fnOf "ground" "Land.ground" (defArgs s_land_p_ground) (defBody s_land_p_ground) (defScope s_land_p_ground) .none kVm21 docm21 pmm21 anm21 cdm21 ctm21), slm21⟩) (mc21 : PySem.W.codeIn K cdm21 "Land.ground" = true) (mk21 : PySem.W.keepIn K (.ref fm21) = true)
    (ma22 : PySem.W.findIn K (.ref C) "dues" = some (some (.ref fm22))) (mi22 : PySem.W.isFn K (.ref fm22) = true) (ml22 : K.lookup fm22 = some ⟨ocm22, odm22, .func (PySem.W.fnOf "dues" "Land.dues" (defArgs s_land_p_dues) (defBody s_land_p_dues) (defScope s_land_p_dues) .none kVm22 docm22 pmm22 anm22 cdm22 ctm22), slm22⟩) (mc22 : PySem.W.codeIn K cdm22 "Land.dues" = true) (mk22 : PySem.W.keepIn K (.ref fm22) = true)
    (ma23 : PySem.W.findIn K (.ref C) "dyke" = some (some (.ref fm23))) (mi23 : PySem.W.isFn K (.ref fm23) = true) (ml23 : K.lookup fm23 = some ⟨ocm23, odm23, .func (PySem.W.fnOf "dyke" "Land.dyke" (defArgs s_land_p_dyke) (defBody s_land_p_dyke) (defScope s_land_p_dyke) .none kVm23 docm23 pmm23 anm23 cdm23 ctm23), slm23⟩) (mc23 : PySem.W.codeIn K cdm23 "Land.dyke" = true) (mk23 : PySem.W.keepIn K (.ref fm23) = true)
    (a0 : PySem.W.nsIn K mainGlobals "_wall" = some (some (.ref f0))) (l0 : K.lookup f0 = some ⟨oc0, od0, .func (PySem.W.fnOf "_wall" "_wall" (defArgs s_p_wall) (defBody s_p_wall) (defScope s_p_wall) .none kV0 doc0 pm0 an0 cd0 ct0), sl0⟩) (c0 : PySem.W.codeIn K cd0 "_wall" = true) (k0 : PySem.W.keepIn K (.ref f0) = true)
    (a1 : PySem.W.nsIn K mainGlobals "is_whole" = some (some (.ref f1))) (l1 : K.lookup f1 = some ⟨oc1, od1, .func (PySem.W.fnOf "is_whole" "is_whole" (defArgs s_p_is_whole) (defBody s_p_is_whole) (defScope s_p_is_whole) .none kV1 doc1 pm1 an1 cd1 ct1), sl1⟩) (c1 : PySem.W.codeIn K cd1 "is_whole" = true) (k1 : PySem.W.keepIn K (.ref f1) = true)
    (a2 : PySem.W.nsIn K mainGlobals "is_name" = some (some (.ref f2))) (l2 : K.lookup f2 = some ⟨oc2, od2, .func (PySem.W.fnOf "is_name" "is_name" (defArgs s_p_is_name) (defBody s_p_is_name) (defScope s_p_is_name) .none kV2 doc2 pm2 an2 cd2 ct2), sl2⟩) (c2 : PySem.W.codeIn K cd2 "is_name" = true) (k2 : PySem.W.keepIn K (.ref f2) = true)
    (a3 : PySem.W.nsIn K mainGlobals "is_height" = some (some (.ref f3))) (l3 : K.lookup f3 = some ⟨oc3, od3, .func (PySem.W.fnOf "is_height" "is_height" (defArgs s_p_is_height) (defBody s_p_is_height) (defScope s_p_is_height) .none kV3 doc3 pm3 an3 cd3 ct3), sl3⟩) (c3 : PySem.W.codeIn K cd3 "is_height" = true) (k3 : PySem.W.keepIn K (.ref f3) = true)
    (a4 : PySem.W.nsIn K mainGlobals "is_amount" = some (some (.ref f4))) (l4 : K.lookup f4 = some ⟨oc4, od4, .func (PySem.W.fnOf "is_amount" "is_amount" (defArgs s_p_is_amount) (defBody s_p_is_amount) (defScope s_p_is_amount) .none kV4 doc4 pm4 an4 cd4 ct4), sl4⟩) (c4 : PySem.W.codeIn K cd4 "is_amount" = true) (k4 : PySem.W.keepIn K (.ref f4) = true)
    (a5 : PySem.W.nsIn K mainGlobals "is_one_of" = some (some (.ref f5))) (l5 : K.lookup f5 = some ⟨oc5, od5, .func (PySem.W.fnOf "is_one_of" "is_one_of" (defArgs s_p_is_one_of) (defBody s_p_is_one_of) (defScope s_p_is_one_of) .none kV5 doc5 pm5 an5 cd5 ct5), sl5⟩) (c5 : PySem.W.codeIn K cd5 "is_one_of" = true) (k5 : PySem.W.keepIn K (.ref f5) = true)
    (a6 : PySem.W.nsIn K mainGlobals "is_list_of" = some (some (.ref f6))) (l6 : K.lookup f6 = some ⟨oc6, od6, .func (PySem.W.fnOf "is_list_of" "is_list_of" (defArgs s_p_is_list_of) (defBody s_p_is_list_of) (defScope s_p_is_list_of) .none kV6 doc6 pm6 an6 cd6 ct6), sl6⟩) (c6 : PySem.W.codeIn K cd6 "is_list_of" = true) (k6 : PySem.W.keepIn K (.ref f6) = true)
    (a7 : PySem.W.nsIn K mainGlobals "is_tuple_of" = some (some (.ref f7))) (l7 : K.lookup f7 = some ⟨oc7, od7, .func (PySem.W.fnOf "is_tuple_of" "is_tuple_of" (defArgs s_p_is_tuple_of) (defBody s_p_is_tuple_of) (defScope s_p_is_tuple_of) .none kV7 doc7 pm7 an7 cd7 ct7), sl7⟩) (c7 : PySem.W.codeIn K cd7 "is_tuple_of" = true) (k7 : PySem.W.keepIn K (.ref f7) = true)
    (a8 : PySem.W.nsIn K mainGlobals "none_twice" = some (some (.ref f8))) (l8 : K.lookup f8 = some ⟨oc8, od8, .func (PySem.W.fnOf "none_twice" "none_twice" (defArgs s_p_none_twice) (defBody s_p_none_twice) (defScope s_p_none_twice) .none kV8 doc8 pm8 an8 cd8 ct8), sl8⟩) (c8 : PySem.W.codeIn K cd8 "none_twice" = true) (k8 : PySem.W.keepIn K (.ref f8) = true)
    (a9 : PySem.W.nsIn K mainGlobals "is_field" = some (some (.ref f9))) (l9 : K.lookup f9 = some ⟨oc9, od9, .func (PySem.W.fnOf "is_field" "is_field" (defArgs s_p_is_field) (defBody s_p_is_field) (defScope s_p_is_field) .none kV9 doc9 pm9 an9 cd9 ct9), sl9⟩) (c9 : PySem.W.codeIn K cd9 "is_field" = true) (k9 : PySem.W.keepIn K (.ref f9) = true)
    (a10 : PySem.W.nsIn K mainGlobals "are_fields" = some (some (.ref f10))) (l10 : K.lookup f10 = some ⟨oc10, od10, .func (PySem.W.fnOf "are_fields" "are_fields" (defArgs s_p_are_fields) (defBody s_p_are_fields) (defScope s_p_are_fields) .none kV10 doc10 pm10 an10 cd10 ct10), sl10⟩) (c10 : PySem.W.codeIn K cd10 "are_fields" = true) (k10 : PySem.W.keepIn K (.ref f10) = true)
    (a11 : PySem.W.nsIn K mainGlobals "are_sides" = some (some (.ref f11))) (l11 : K.lookup f11 = some ⟨oc11, od11, .func (PySem.W.fnOf "are_sides" "are_sides" (defArgs s_p_are_sides) (defBody s_p_are_sides) (defScope s_p_are_sides) .none kV11 doc11 pm11 an11 cd11 ct11), sl11⟩) (c11 : PySem.W.codeIn K cd11 "are_sides" = true) (k11 : PySem.W.keepIn K (.ref f11) = true)
    (a12 : PySem.W.nsIn K mainGlobals "is_sill" = some (some (.ref f12))) (l12 : K.lookup f12 = some ⟨oc12, od12, .func (PySem.W.fnOf "is_sill" "is_sill" (defArgs s_p_is_sill) (defBody s_p_is_sill) (defScope s_p_is_sill) .none kV12 doc12 pm12 an12 cd12 ct12), sl12⟩) (c12 : PySem.W.codeIn K cd12 "is_sill" = true) (k12 : PySem.W.keepIn K (.ref f12) = true)
    (a13 : PySem.W.nsIn K mainGlobals "is_dyke" = some (some (.ref f13))) (l13 : K.lookup f13 = some ⟨oc13, od13, .func (PySem.W.fnOf "is_dyke" "is_dyke" (defArgs s_p_is_dyke) (defBody s_p_is_dyke) (defScope s_p_is_dyke) .none kV13 doc13 pm13 an13 cd13 ct13), sl13⟩) (c13 : PySem.W.codeIn K cd13 "is_dyke" = true) (k13 : PySem.W.keepIn K (.ref f13) = true)
    (a14 : PySem.W.nsIn K mainGlobals "are_dykes" = some (some (.ref f14))) (l14 : K.lookup f14 = some ⟨oc14, od14, .func (PySem.W.fnOf "are_dykes" "are_dykes" (defArgs s_p_are_dykes) (defBody s_p_are_dykes) (defScope s_p_are_dykes) .none kV14 doc14 pm14 an14 cd14 ct14), sl14⟩) (c14 : PySem.W.codeIn K cd14 "are_dykes" = true) (k14 : PySem.W.keepIn K (.ref f14) = true)
    (a15 : PySem.W.nsIn K mainGlobals "number_within" = some (some (.ref f15))) (l15 : K.lookup f15 = some ⟨oc15, od15, .func (PySem.W.fnOf "number_within" "number_within" (defArgs s_p_number_within) (defBody s_p_number_within) (defScope s_p_number_within) .none kV15 doc15 pm15 an15 cd15 ct15), sl15⟩) (c15 : PySem.W.codeIn K cd15 "number_within" = true) (k15 : PySem.W.keepIn K (.ref f15) = true)
    (a16 : PySem.W.nsIn K mainGlobals "number_of" = some (some (.ref f16))) (l16 : K.lookup f16 = some ⟨oc16, od16, .func (PySem.W.fnOf "number_of" "number_of" (defArgs s_p_number_of) (defBody s_p_number_of) (defScope s_p_number_of) .none kV16 doc16 pm16 an16 cd16 ct16), sl16⟩) (c16 : PySem.W.codeIn K cd16 "number_of" = true) (k16 : PySem.W.keepIn K (.ref f16) = true)
    (a17 : PySem.W.nsIn K mainGlobals "is_day_of" = some (some (.ref f17))) (l17 : K.lookup f17 = some ⟨oc17, od17, .func (PySem.W.fnOf "is_day_of" "is_day_of" (defArgs s_p_is_day_of) (defBody s_p_is_day_of) (defScope s_p_is_day_of) .none kV17 doc17 pm17 an17 cd17 ct17), sl17⟩) (c17 : PySem.W.codeIn K cd17 "is_day_of" = true) (k17 : PySem.W.keepIn K (.ref f17) = true)
    (a18 : PySem.W.nsIn K mainGlobals "is_condition" = some (some (.ref f18))) (l18 : K.lookup f18 = some ⟨oc18, od18, .func (PySem.W.fnOf "is_condition" "is_condition" (defArgs s_p_is_condition) (defBody s_p_is_condition) (defScope s_p_is_condition) .none kV18 doc18 pm18 an18 cd18 ct18), sl18⟩) (c18 : PySem.W.codeIn K cd18 "is_condition" = true) (k18 : PySem.W.keepIn K (.ref f18) = true)
    (a19 : PySem.W.nsIn K mainGlobals "is_decree" = some (some (.ref f19))) (l19 : K.lookup f19 = some ⟨oc19, od19, .func (PySem.W.fnOf "is_decree" "is_decree" (defArgs s_p_is_decree) (defBody s_p_is_decree) (defScope s_p_is_decree) .none kV19 doc19 pm19 an19 cd19 ct19), sl19⟩) (c19 : PySem.W.codeIn K cd19 "is_decree" = true) (k19 : PySem.W.keepIn K (.ref f19) = true)
    (a20 : PySem.W.nsIn K mainGlobals "are_decrees" = some (some (.ref f20))) (l20 : K.lookup f20 = some ⟨oc20, od20, .func (PySem.W.fnOf "are_decrees" "are_decrees" (defArgs s_p_are_decrees) (defBody s_p_are_decrees) (defScope s_p_are_decrees) .none kV20 doc20 pm20 an20 cd20 ct20), sl20⟩) (c20 : PySem.W.codeIn K cd20 "are_decrees" = true) (k20 : PySem.W.keepIn K (.ref f20) = true)
    (a21 : PySem.W.nsIn K mainGlobals "show_condition" = some (some (.ref f21))) (l21 : K.lookup f21 = some ⟨oc21, od21, .func (PySem.W.fnOf "show_condition" "show_condition" (defArgs s_p_show_condition) (defBody s_p_show_condition) (defScope s_p_show_condition) .none kV21 doc21 pm21 an21 cd21 ct21), sl21⟩) (c21 : PySem.W.codeIn K cd21 "show_condition" = true) (k21 : PySem.W.keepIn K (.ref f21) = true)
    (a22 : PySem.W.nsIn K mainGlobals "show_decree" = some (some (.ref f22))) (l22 : K.lookup f22 = some ⟨oc22, od22, .func (PySem.W.fnOf "show_decree" "show_decree" (defArgs s_p_show_decree) (defBody s_p_show_decree) (defScope s_p_show_decree) .none kV22 doc22 pm22 an22 cd22 ct22), sl22⟩) (c22 : PySem.W.codeIn K cd22 "show_decree" = true) (k22 : PySem.W.keepIn K (.ref f22) = true)
    (a23 : PySem.W.nsIn K mainGlobals "show_decrees" = some (some (.ref f23))) (l23 : K.lookup f23 = some ⟨oc23, od23, .func (PySem.W.fnOf "show_decrees" "show_decrees" (defArgs s_p_show_decrees) (defBody s_p_show_decrees) (defScope s_p_show_decrees) .none kV23 doc23 pm23 an23 cd23 ct23), sl23⟩) (c23 : PySem.W.codeIn K cd23 "show_decrees" = true) (k23 : PySem.W.keepIn K (.ref f23) = true)
    (a24 : PySem.W.nsIn K mainGlobals "condition_in" = some (some (.ref f24))) (l24 : K.lookup f24 = some ⟨oc24, od24, .func (PySem.W.fnOf "condition_in" "condition_in" (defArgs s_p_condition_in) (defBody s_p_condition_in) (defScope s_p_condition_in) .none kV24 doc24 pm24 an24 cd24 ct24), sl24⟩) (c24 : PySem.W.codeIn K cd24 "condition_in" = true) (k24 : PySem.W.keepIn K (.ref f24) = true)
    (a25 : PySem.W.nsIn K mainGlobals "conditions_in" = some (some (.ref f25))) (l25 : K.lookup f25 = some ⟨oc25, od25, .func (PySem.W.fnOf "conditions_in" "conditions_in" (defArgs s_p_conditions_in) (defBody s_p_conditions_in) (defScope s_p_conditions_in) .none kV25 doc25 pm25 an25 cd25 ct25), sl25⟩) (c25 : PySem.W.codeIn K cd25 "conditions_in" = true) (k25 : PySem.W.keepIn K (.ref f25) = true)
    (a26 : PySem.W.nsIn K mainGlobals "decree_in" = some (some (.ref f26))) (l26 : K.lookup f26 = some ⟨oc26, od26, .func (PySem.W.fnOf "decree_in" "decree_in" (defArgs s_p_decree_in) (defBody s_p_decree_in) (defScope s_p_decree_in) .none kV26 doc26 pm26 an26 cd26 ct26), sl26⟩) (c26 : PySem.W.codeIn K cd26 "decree_in" = true) (k26 : PySem.W.keepIn K (.ref f26) = true)
    (a27 : PySem.W.nsIn K mainGlobals "read_decrees" = some (some (.ref f27))) (l27 : K.lookup f27 = some ⟨oc27, od27, .func (PySem.W.fnOf "read_decrees" "read_decrees" (defArgs s_p_read_decrees) (defBody s_p_read_decrees) (defScope s_p_read_decrees) .none kV27 doc27 pm27 an27 cd27 ct27), sl27⟩) (c27 : PySem.W.codeIn K cd27 "read_decrees" = true) (k27 : PySem.W.keepIn K (.ref f27) = true)
    (a28 : PySem.W.nsIn K mainGlobals "_law_cell_at" = some (some (.ref f28))) (l28 : K.lookup f28 = some ⟨oc28, od28, .func (PySem.W.fnOf "_law_cell_at" "_law_cell_at" (defArgs s_l_cell_at) (defBody s_l_cell_at) (defScope s_l_cell_at) .none kV28 doc28 pm28 an28 cd28 ct28), sl28⟩) (c28 : PySem.W.codeIn K cd28 "_law_cell_at" = true) (k28 : PySem.W.keepIn K (.ref f28) = true)
    (a29 : PySem.W.nsIn K mainGlobals "_law_mixed" = some (some (.ref f29))) (l29 : K.lookup f29 = some ⟨oc29, od29, .func (PySem.W.fnOf "_law_mixed" "_law_mixed" (defArgs s_l_mixed) (defBody s_l_mixed) (defScope s_l_mixed) .none kV29 doc29 pm29 an29 cd29 ct29), sl29⟩) (c29 : PySem.W.codeIn K cd29 "_law_mixed" = true) (k29 : PySem.W.keepIn K (.ref f29) = true)
    (a30 : PySem.W.nsIn K mainGlobals "_law_height" = some (some (.ref f30))) (l30 : K.lookup f30 = some ⟨oc30, od30, .func (PySem.W.fnOf "_law_height" "_law_height" (defArgs s_l_height) (defBody s_l_height) (defScope s_l_height) .none kV30 doc30 pm30 an30 cd30 ct30), sl30⟩) (c30 : PySem.W.codeIn K cd30 "_law_height" = true) (k30 : PySem.W.keepIn K (.ref f30) = true)
    (a31 : PySem.W.nsIn K mainGlobals "_law_plots" = some (some (.ref f31))) (l31 : K.lookup f31 = some ⟨oc31, od31, .func (PySem.W.fnOf "_law_plots" "_law_plots" (defArgs s_l_plots) (defBody s_l_plots) (defScope s_l_plots) .none kV31 doc31 pm31 an31 cd31 ct31), sl31⟩) (c31 : PySem.W.codeIn K cd31 "_law_plots" = true) (k31 : PySem.W.keepIn K (.ref f31) = true)
    (a32 : PySem.W.nsIn K mainGlobals "_law_fences" = some (some (.ref f32))) (l32 : K.lookup f32 = some ⟨oc32, od32, .func (PySem.W.fnOf "_law_fences" "_law_fences" (defArgs s_l_fences) (defBody s_l_fences) (defScope s_l_fences) .none kV32 doc32 pm32 an32 cd32 ct32), sl32⟩) (c32 : PySem.W.codeIn K cd32 "_law_fences" = true) (k32 : PySem.W.keepIn K (.ref f32) = true)
    (a33 : PySem.W.nsIn K mainGlobals "_law_land" = some (some (.ref f33))) (l33 : K.lookup f33 = some ⟨oc33, od33, .func (PySem.W.fnOf "_law_land" "_law_land" (defArgs s_l_land) (defBody s_l_land) (defScope s_l_land) .none kV33 doc33 pm33 an33 cd33 ct33), sl33⟩) (c33 : PySem.W.codeIn K cd33 "_law_land" = true) (k33 : PySem.W.keepIn K (.ref f33) = true)
    (a34 : PySem.W.nsIn K mainGlobals "_law_condition" = some (some (.ref f34))) (l34 : K.lookup f34 = some ⟨oc34, od34, .func (PySem.W.fnOf "_law_condition" "_law_condition" (defArgs s_l_condition) (defBody s_l_condition) (defScope s_l_condition) .none kV34 doc34 pm34 an34 cd34 ct34), sl34⟩) (c34 : PySem.W.codeIn K cd34 "_law_condition" = true) (k34 : PySem.W.keepIn K (.ref f34) = true)
    (a35 : PySem.W.nsIn K mainGlobals "_law_decree" = some (some (.ref f35))) (l35 : K.lookup f35 = some ⟨oc35, od35, .func (PySem.W.fnOf "_law_decree" "_law_decree" (defArgs s_l_decree) (defBody s_l_decree) (defScope s_l_decree) .none kV35 doc35 pm35 an35 cd35 ct35), sl35⟩) (c35 : PySem.W.codeIn K cd35 "_law_decree" = true) (k35 : PySem.W.keepIn K (.ref f35) = true)
    (a36 : PySem.W.nsIn K mainGlobals "_law_line" = some (some (.ref f36))) (l36 : K.lookup f36 = some ⟨oc36, od36, .func (PySem.W.fnOf "_law_line" "_law_line" (defArgs s_l_line) (defBody s_l_line) (defScope s_l_line) .none kV36 doc36 pm36 an36 cd36 ct36), sl36⟩) (c36 : PySem.W.codeIn K cd36 "_law_line" = true) (k36 : PySem.W.keepIn K (.ref f36) = true)
    (a37 : PySem.W.nsIn K mainGlobals "_law_same" = some (some (.ref f37))) (l37 : K.lookup f37 = some ⟨oc37, od37, .func (PySem.W.fnOf "_law_same" "_law_same" (defArgs s_l_same) (defBody s_l_same) (defScope s_l_same) .none kV37 doc37 pm37 an37 cd37 ct37), sl37⟩) (c37 : PySem.W.codeIn K cd37 "_law_same" = true) (k37 : PySem.W.keepIn K (.ref f37) = true)
    (a38 : PySem.W.nsIn K mainGlobals "_law_stands" = some (some (.ref f38))) (l38 : K.lookup f38 = some ⟨oc38, od38, .func (PySem.W.fnOf "_law_stands" "_law_stands" (defArgs s_l_stands) (defBody s_l_stands) (defScope s_l_stands) .none kV38 doc38 pm38 an38 cd38 ct38), sl38⟩) (c38 : PySem.W.codeIn K cd38 "_law_stands" = true) (k38 : PySem.W.keepIn K (.ref f38) = true)
    (a39 : PySem.W.nsIn K mainGlobals "law" = some (some (.ref f39))) (l39 : K.lookup f39 = some ⟨oc39, od39, .func (PySem.W.fnOf "law" "law" (defArgs s_p_law) (defBody s_p_law) (defScope s_p_law) .none kV39 doc39 pm39 an39 cd39 ct39), sl39⟩) (c39 : PySem.W.codeIn K cd39 "law" = true) (k39 : PySem.W.keepIn K (.ref f39) = true)
    (tg0 : PySem.W.nsIn K mainGlobals "DEEDS" = some (some (.ref at0))) (tl0 : K.lookup at0 = some ⟨.type "tuple", otd0, .seq its0 nnt0, slt0⟩) (tv0 : Vals [(.str "open"), (.str "shut")] its0.toList) (tz0 : its0.size ≤ sizeLine)
    (tg1 : PySem.W.nsIn K mainGlobals "TIDES" = some (some (.ref at1))) (tl1 : K.lookup at1 = some ⟨.type "tuple", otd1, .seq its1 nnt1, slt1⟩) (tv1 : Vals [(.str "above"), (.str "below")] its1.toList) (tz1 : its1.size ≤ sizeLine)
    (tg2 : PySem.W.nsIn K mainGlobals "WATERS" = some (some (.ref at2))) (tl2 : K.lookup at2 = some ⟨.type "tuple", otd2, .seq its2 nnt2, slt2⟩) (tv2 : Vals [(.str "wet"), (.str "dry")] its2.toList) (tz2 : its2.size ≤ sizeLine)
    (dg0 : PySem.W.nsIn K mainGlobals "WORD_COUNTS" = some (some (.ref ad0))) (dl0 : K.lookup ad0 = some ⟨.type "dict", none, .dict ess0 epp0, #[]⟩) (dv0 : GEnts w [(("always" : Str), (.int 1)), (("sea" : Str), (.int 3)), (("wet" : Str), (.int 2)), (("dry" : Str), (.int 2)), (("day" : Str), (.int 4))] ess0.toList) (dz0 : (ad0 == sysModules) = false)
    (g0 : PySem.W.nsIn K mainGlobals "SEA" = some (some u0)) (r0 : RelV (.str "sea") u0)
    (g1 : PySem.W.nsIn K mainGlobals "LETTERS" = some (some u1)) (r1 : RelV (.str "abcdefghijklmnopqrstuvwxyz") u1)
    (g2 : PySem.W.nsIn K mainGlobals "MOST_LETTERS" = some (some u2)) (r2 : RelV (.int 8) u2)
    (g3 : PySem.W.nsIn K mainGlobals "MOST_HEIGHT" = some (some u3)) (r3 : RelV (.int 1000000) u3)
    (g4 : PySem.W.nsIn K mainGlobals "MOST_AMOUNT" = some (some u4)) (r4 : RelV (.int 1000000) u4)
    (g5 : PySem.W.nsIn K mainGlobals "MOST_FIELDS" = some (some u5)) (r5 : RelV (.int 12) u5)
    (g6 : PySem.W.nsIn K mainGlobals "MOST_DYKES" = some (some u6)) (r6 : RelV (.int 40) u6)
    (g7 : PySem.W.nsIn K mainGlobals "FIGURES" = some (some u7)) (r7 : RelV (.str "0123456789") u7)
    (g8 : PySem.W.nsIn K mainGlobals "MOST_FIGURES" = some (some u8)) (r8 : RelV (.int 7) u8)
    (g9 : PySem.W.nsIn K mainGlobals "MOST_DECREES" = some (some u9)) (r9 : RelV (.int 60) u9)
    (g10 : PySem.W.nsIn K mainGlobals "MOST_CONDITIONS" = some (some u10)) (r10 : RelV (.int 6) u10)
    (g11 : PySem.W.nsIn K mainGlobals "MOST_ROUND" = some (some u11)) (r11 : RelV (.int 100) u11)
    (z0 : PySem.W.nsIn K mainGlobals "all" = some none)
    (z1 : PySem.W.nsIn K mainGlobals "bool" = some none)
    (z2 : PySem.W.nsIn K mainGlobals "dict" = some none)
    (z3 : PySem.W.nsIn K mainGlobals "int" = some none)
    (z4 : PySem.W.nsIn K mainGlobals "isinstance" = some none)
    (z5 : PySem.W.nsIn K mainGlobals "len" = some none)
    (z6 : PySem.W.nsIn K mainGlobals "list" = some none)
    (z7 : PySem.W.nsIn K mainGlobals "range" = some none)
    (z8 : PySem.W.nsIn K mainGlobals "set" = some none)
    (z9 : PySem.W.nsIn K mainGlobals "str" = some none)
    (z10 : PySem.W.nsIn K mainGlobals "tuple" = some none)   : Txt w K mg C :=
  ⟨⟨pgC, hdC, poC, saC⟩,
   PySem.W.mg_of X G aC,
   n_field_rows,
   n_dyke_rows,
   init_mk ma15 mi15 ml15 mc15 mk15 mkC kpC (fun _ _ _ _ _ _ us hl => match us, hl with | [_, _, _], _ => rfl),
   meth_mk ma16 mi16 ml16 mc16 mk16 (fun _ _ _ _ _ _ us hl => match us, hl with | [_], _ => rfl),
   meth_mk ma17 mi17 ml17 mc17 mk17 (fun _ _ _ _ _ _ us hl => match us, hl with | [_], _ => rfl),
   meth_mk ma18 mi18 ml18 mc18 mk18 (fun _ _ _ _ _ _ us hl => match us, hl with | [_], _ => rfl),
   meth_mk ma19 mi19 ml19 mc19 mk19 (fun _ _ _ _ _ _ us hl => match us, hl with | [_], _ => rfl),
   meth_mk ma20 mi20 ml20 mc20 mk20 (fun _ _ _ _ _ _ us hl => match us, hl with | [_], _ => rfl),
   meth_mk ma21 mi21 ml21 mc21 mk21 (fun _ _ _ _ _ _ us hl => match us, hl with | [_, _], _ => rfl),
   meth_mk ma22 mi22 ml22 mc22 mk22 (fun _ _ _ _ _ _ us hl => match us, hl with | [_, _], _ => rfl),
   meth_mk ma23 mi23 ml23 mc23 mk23 (fun _ _ _ _ _ _ us hl => match us, hl with | [_, _], _ => rfl),
   def_mk X G a0 l0 c0 k0 (fun _ _ _ _ _ _ us hl => match us, hl with | [_], _ => rfl),
   def_mk X G a1 l1 c1 k1 (fun _ _ _ _ _ _ us hl => match us, hl with | [_], _ => rfl),
   def_mk X G a2 l2 c2 k2 (fun _ _ _ _ _ _ us hl => match us, hl with | [_], _ => rfl),
   def_mk X G a3 l3 c3 k3 (fun _ _ _ _ _ _ us hl => match us, hl with | [_], _ => rfl),
   def_mk X G a4 l4 c4 k4 (fun _ _ _ _ _ _ us hl => match us, hl with | [_], _ => rfl),
   def_mk X G a5 l5 c5 k5 (fun _ _ _ _ _ _ us hl => match us, hl with | [_, _], _ => rfl),
   def_mk X G a6 l6 c6 k6 (fun _ _ _ _ _ _ us hl => match us, hl with | [_, _], _ => rfl),
   def_mk X G a7 l7 c7 k7 (fun _ _ _ _ _ _ us hl => match us, hl with | [_, _], _ => rfl),
   def_mk X G a8 l8 c8 k8 (fun _ _ _ _ _ _ us hl => match us, hl with | [_], _ => rfl),
   def_mk X G a9 l9 c9 k9 (fun _ _ _ _ _ _ us hl => match us, hl with | [_], _ => rfl),
   def_mk X G a10 l10 c10 k10 (fun _ _ _ _ _ _ us hl => match us, hl with | [_], _ => rfl),
   def_mk X G a11 l11 c11 k11 (fun _ _ _ _ _ _ us hl => match us, hl with | [_, _, _], _ => rfl),
   def_mk X G a12 l12 c12 k12 (fun _ _ _ _ _ _ us hl => match us, hl with | [_, _], _ => rfl),
   def_mk X G a13 l13 c13 k13 (fun _ _ _ _ _ _ us hl => match us, hl with | [_, _], _ => rfl),
   def_mk X G a14 l14 c14 k14 (fun _ _ _ _ _ _ us hl => match us, hl with | [_, _], _ => rfl),
   def_mk X G a15 l15 c15 k15 (fun _ _ _ _ _ _ us hl => match us, hl with | [_, _], _ => rfl),
   def_mk X G a16 l16 c16 k16 (fun _ _ _ _ _ _ us hl => match us, hl with | [_], _ => rfl),
   def_mk X G a17 l17 c17 k17 (fun _ _ _ _ _ _ us hl => match us, hl with | [_, _], _ => rfl),
   def_mk X G a18 l18 c18 k18 (fun _ _ _ _ _ _ us hl => match us, hl with | [_, _], _ => rfl),
   def_mk X G a19 l19 c19 k19 (fun _ _ _ _ _ _ us hl => match us, hl with | [_, _, _], _ => rfl),
   def_mk X G a20 l20 c20 k20 (fun _ _ _ _ _ _ us hl => match us, hl with | [_, _], _ => rfl),
   def_mk X G a21 l21 c21 k21 (fun _ _ _ _ _ _ us hl => match us, hl with | [_], _ => rfl),
   def_mk X G a22 l22 c22 k22 (fun _ _ _ _ _ _ us hl => match us, hl with | [_], _ => rfl),
   def_mk X G a23 l23 c23 k23 (fun _ _ _ _ _ _ us hl => match us, hl with | [_], _ => rfl),
   def_mk X G a24 l24 c24 k24 (fun _ _ _ _ _ _ us hl => match us, hl with | [_], _ => rfl),
   def_mk X G a25 l25 c25 k25 (fun _ _ _ _ _ _ us hl => match us, hl with | [_], _ => rfl),
   def_mk X G a26 l26 c26 k26 (fun _ _ _ _ _ _ us hl => match us, hl with | [_], _ => rfl),
   def_mk X G a27 l27 c27 k27 (fun _ _ _ _ _ _ us hl => match us, hl with | [_, _], _ => rfl),
   def_mk X G a28 l28 c28 k28 (fun _ _ _ _ _ _ us hl => match us, hl with | [_, _], _ => rfl),
   def_mk X G a29 l29 c29 k29 (fun _ _ _ _ _ _ us hl => match us, hl with | [_, _], _ => rfl),
   def_mk X G a30 l30 c30 k30 (fun _ _ _ _ _ _ us hl => match us, hl with | [_], _ => rfl),
   def_mk X G a31 l31 c31 k31 (fun _ _ _ _ _ _ us hl => match us, hl with | [_], _ => rfl),
   def_mk X G a32 l32 c32 k32 (fun _ _ _ _ _ _ us hl => match us, hl with | [_, _], _ => rfl),
   def_mk X G a33 l33 c33 k33 (fun _ _ _ _ _ _ us hl => match us, hl with | [_], _ => rfl),
   def_mk X G a34 l34 c34 k34 (fun _ _ _ _ _ _ us hl => match us, hl with | [_, _], _ => rfl),
   def_mk X G a35 l35 c35 k35 (fun _ _ _ _ _ _ us hl => match us, hl with | [_, _, _, _], _ => rfl),
   def_mk X G a36 l36 c36 k36 (fun _ _ _ _ _ _ us hl => match us, hl with | [_], _ => rfl),
   def_mk X G a37 l37 c37 k37 (fun _ _ _ _ _ _ us hl => match us, hl with | [_, _], _ => rfl),
   def_mk X G a38 l38 c38 k38 (fun _ _ _ _ _ _ us hl => match us, hl with | [_, _], _ => rfl),
   def_mk X G a39 l39 c39 k39 (fun _ _ _ _ _ _ us hl => match us, hl with | [_], _ => rfl),
   ⟨at0, PySem.W.mg_of X G tg0, fun _ => .inr ⟨_, its0, nnt0, tl0, rfl, rfl, tz0, tv0⟩⟩,
   ⟨at1, PySem.W.mg_of X G tg1, fun _ => .inr ⟨_, its1, nnt1, tl1, rfl, rfl, tz1, tv1⟩⟩,
   ⟨at2, PySem.W.mg_of X G tg2, fun _ => .inr ⟨_, its2, nnt2, tl2, rfl, rfl, tz2, tv2⟩⟩,
   ⟨ad0, PySem.W.mg_of X G dg0, ess0, epp0, dl0, dz0, dv0, by decide +kernel⟩,
   glob_mk X G g0 r0,
   glob_mk X G g1 r1,
   glob_mk X G g2 r2,
   glob_mk X G g3 r3,
   glob_mk X G g4 r4,
   glob_mk X G g5 r5,
   glob_mk X G g6 r6,
   glob_mk X G g7 r7,
   glob_mk X G g8 r8,
   glob_mk X G g9 r9,
   glob_mk X G g10 r10,
   glob_mk X G g11 r11,
   PySem.W.mg_none_of X G z0,
   PySem.W.mg_none_of X G z1,
   PySem.W.mg_none_of X G z2,
   PySem.W.mg_none_of X G z3,
   PySem.W.mg_none_of X G z4,
   PySem.W.mg_none_of X G z5,
   PySem.W.mg_none_of X G z6,
   PySem.W.mg_none_of X G z7,
   PySem.W.mg_none_of X G z8,
   PySem.W.mg_none_of X G z9,
   PySem.W.mg_none_of X G z10⟩
end K42
namespace PySem.W.Fast
def tw10790754938453835761 := 0
def tw9625702131830312283 := 0
def tw11408111303606703990 := 0
def tw2221451228414523275 := 0
def tw18076549156214040762 := 0
def tw4167565152716022017 := 0
def tw146242128836283488 := 0
def tw731003078923588769 := 0
def tw6213853320224807851 := 0
def tw17642337388506812811 := 0
def tw8247386116403493782 := 0
def tw14232339117389649736 := 0
def tw2794802975166950596 := 0
def tw373564155960520522 := 0
def tw13281462984225311439 := 0
def tw15730692426568426562 := 0
def tw13056516208719169552 := 0
def tw10840403904026013171 := 0
def tw5243879054231819421 := 0
def tw17259148962525907252 := 0
def tw5265905099273745478 := 0
def tw14190456750477735622 := 0
def tw9807322915857491283 := 0
def tw17225958124988537088 := 0
def tw7053115004564438302 := 0
def tw8892038948743256182 := 0
def tw11027043508291322544 := 0
def tw9726476085562090803 := 0
def tw17411252564314138680 := 0
def tw4876622807296909050 := 0
def tw617924975803527016 := 0
def tw18184987108774156389 := 0
def tw13973113555229660754 := 0
def tw5453450257485467916 := 0
def tw969249672986790160 := 0
def tw8950610485071423560 := 0
def tw17996265697323169452 := 0
def tw10938920098463263025 := 0
def tw1784612005928150613 := 0
def tw11721065187742862279 := 0
def tw16001244890217966609 := 0
def tw4571675088592947623 := 0
def tw3843389792579349583 := 0
def tw13732043241852210949 := 0
def tw9209035695992701385 := 0
def tw2671963017792363182 := 0
def tw15627321919727711823 := 0
def tw13594741285397672869 := 0
def tw16614791051628613952 := 0
def tw13746586333698424076 := 0
def tw12385237507719398890 := 0
def tw14386596287834637128 := 0
def tw9094814574794760505 := 0
def tw14940001194125384548 := 0
def tw3856640461103148785 := 0
def tw15252171339783514137 := 0
def tw6011972549006894804 := 0
def tw9033346671842137262 := 0
def tw9594025760394106439 := 0
def tw16382430681515072560 := 0
def tw11378550440821104285 := 0
def tw14204400360741102625 := 0
def tw16006756647738405143 := 0
def tw6927177179433023798 := 0
def tw15258393765460176415 := 0
def tw1966471915734772133 := 0
def tw8190507278526393559 := 0
def tw198620890176504018 := 0
def tw10244083785076686027 := 0
def tw2355240508186741460 := 0
def tw18389082131014164528 := 0
def tw6567986324350954940 := 0
def tw6592828396731800376 := 0
def tw9371808096530420679 := 0
def tw5008619212560641686 := 0
def tw9088701749329469682 := 0
def tw13747469879244303760 := 0
def tw6214477299420376586 := 0
def tw4033131390030223377 := 0
def tw14960609875430546474 := 0
def tw5987510256670193684 := 0
def tw4289112980818672885 := 0
def tw3922857046574902127 := 0
def tw12963439465599014367 := 0
def tw10175551806992662887 := 0
def tw14055436669642064736 := 0
def tw14499968234928361087 := 0
def tw14145175815193198030 := 0
def tw12441468920472610696 := 0
def tw10616006980517994018 := 0
def tw12336480287603297582 := 0
def tw974892401598039206 := 0
def tw12117716808738760894 := 0
def tw1382962223158077823 := 0
def tw14209341960845453760 := 0
def tw15246337126071841081 := 0
def tw725055327416650026 := 0
def tw5781450654031447041 := 0
def tw5699252656545656158 := 0
def tw18133164052325478309 := 0
def tw687896750262274341 := 0
def tw12239921745395840891 := 0
def tw15418051736823781009 := 0
def tw11556622387196285160 := 0
def tw4246468259572164552 := 0
def tw4265371177717778930 := 0
def tw3785448208624046192 := 0
def tw2082194935860732062 := 0
def tw10961338034399195394 := 0
def tw988833331341362082 := 0
def tw5685247427888612498 := 0
def tw7111136526261677824 := 0
def tw4963463668195253425 := 0
def tw1977571665771348560 := 0
def tw11863888804848405358 := 0
def tw14717443850342222455 := 0
def tw3976696367383316831 := 0
def tw10214594845028522814 := 0
def tw9871300248900866774 := 0
def tw504123637552858085 := 0
def tw15884598206072295922 := 0
def tw12257036223838363013 := 0
def tw10374209997635222352 := 0
def tw10364576146110331498 := 0
def tw6583559384194526974 := 0
def tw14871351318609698750 := 0
def tw12248402538407086257 := 0
def tw12534324005890592152 := 0
def tw14617962886325964997 := 0
def tw11931373491794290870 := 0
def tw9870060709198517479 := 0
def tw12965036738274401384 := 0
def tw14796026833523004341 := 0
def tw9145243898347824953 := 0
def tw16916397936703514424 := 0
def tw13772084470199760333 := 0
def tw7790053453669225876 := 0
def tw7585628279383433921 := 0
def tw15681594719816941286 := 0
def tw534134892749561677 := 0
def tw12067928932831540002 := 0
def tw13593060207377969823 := 0
def tw14695953022925844529 := 0
def tw7931765643674329848 := 0
def tw5739218448982382832 := 0
def tw3605626779450205518 := 0
def tw1698587470222760395 := 0
def tw429205474424460642 := 0
def tw13659961403056320300 := 0
def tw2254863693032073469 := 0
def tw2199981416507618577 := 0
def tw14758662761786476299 := 0
def tw4555567873110865310 := 0
def tw183769720457366582 := 0
def tw13895672561081655453 := 0
def tw3847535041928583370 := 0
def tw8882187835253518089 := 0
def tw16637458666491149046 := 0
def tw16455860861654690169 := 0
def tw15761126539359429999 := 0
def tw8226782362448865504 := 0
def tw522501938846044372 := 0
def tw2252511414891287841 := 0
def tw280633724481020544 := 0
def tw8334864462335713035 := 0
def tw7818434161805892105 := 0
def tw6261290459736648747 := 0
def tw3826020047342799847 := 0
def tw5189227464023622401 := 0
def tw17402140636599673387 := 0
def tw4695286308927004769 := 0
def tw11263279600784805587 := 0
def tw11593665232570086322 := 0
def tw12804135034157654033 := 0
def tw2929565987096734546 := 0
def tw13124256610831795966 := 0
def tw17131896916906364775 := 0
def tw8780164693050974201 := 0
def tw17266756206350160319 := 0
def tw17826095335550937156 := 0
def tw5890430033446883372 := 0
def tw5882277368082373786 := 0
def tw7217827384707013541 := 0
def tw15605092321116575443 := 0
def tw8876753939944695818 := 0
def tw12254625932133057587 := 0
def tw9071058294129906237 := 0
def tw17414950722510600023 := 0
def tw15740390864225646857 := 0
def tw753888264760646769 := 0
def tw1791463553589943348 := 0
def tw11224797276005458616 := 0
def tw10673623985029490711 := 0
def tw605885398424037728 := 0
def tw14915065148234973566 := 0
def tw10090813880398245828 := 0
def tw3199897100643244282 := 0
def tw12830912732570120128 := 0
def tw6794698425770522106 := 0
def tw12993696978405297989 := 0
def tw14679670534832566345 := 0
def tw10531958827575520703 := 0
def tw6847769860485882970 := 0
def tw3029930722421510821 := 0
def tw17919880911724013527 := 0
def tw14730065554197313857 := 0
def tw15082072605002974173 := 0
def tw6260486385009482422 := 0
def tw3051123084072606440 := 0
def tw2480444613920568424 := 0
def tw10573877725382826260 := 0
def tw14496645781378652966 := 0
def tw3855920194247280744 := 0
def tw17379533893919873087 := 0
def tw17108619626810219473 := 0
def tw1507770922814070978 := 0
def tw4868221716644523281 := 0
def tw9093868426376365343 := 0
def tw8414597616973736830 := 0
def tw14948419809213624402 := 0
def tw5755524798107491228 := 0
def tw15639219145112910733 := 0
def tw3904728980051798516 := 0
def tw8261241869821045557 := 0
def tw18381113597917894442 := 0
def tw16025371673689919054 := 0
def tw1456748025516730628 := 0
def tw10566683032232974321 := 0
def tw507565476986202363 := 0
def tw834577528118852038 := 0
def tw673337768434031620 := 0
def tw11226748540951008655 := 0
def tw14213938249582883511 := 0
def tw6442157107992745615 := 0
def tw4796116720633147170 := 0
def tw7805831690188017171 := 0
def tw10463441933603360259 := 0
def tw1347626159463319899 := 0
def tw2790234925766126941 := 0
def tw1992028342417465477 := 0
def tw12867111111067832980 := 0
def tw17172843287796805513 := 0
def tw15967382931186623268 := 0
def tw13083964456047067355 := 0
def tw15831716996799554466 := 0
def tw3297060573398702284 := 0
def tw7918941775650121378 := 0
def tw10164975705610446301 := 0
def tw17694577668045782989 := 0
def tw12348099154856543158 := 0
def tw350130531318575587 := 0
def tw6199445769528351806 := 0
def tw13036549074207735404 := 0
def tw9869022489167918817 := 0
def tw15353566140385201265 := 0
def tw15805784966824817585 := 0
def tw1707944593981694189 := 0
def tw15437135152112603807 := 0
def tw14607140782819300541 := 0
def tw4206182625768455346 := 0
def tw9213436380278857396 := 0
def tw12482914782613708476 := 0
def tw6771488632368758356 := 0
def tw12533378826746962621 := 0
def tw5625961372868946022 := 0
def tw4737750025023756807 := 0
def tw9085851102218161833 := 0
def tw11102302088168467866 := 0
def tw13301769880892412787 := 0
def tw7394141886065692705 := 0
def tw10505154011903458132 := 0
def tw7370235002284886827 := 0
def tw14486712378598984172 := 0
def tw13117358084915832279 := 0
def tw3975791461299046229 := 0
def tw11376973079057376890 := 0
def tw4960062891354608968 := 0
def tw116390210932529556 := 0
def tw17866462104942891557 := 0
def tw2279290373343360059 := 0
def tw6984420703163084866 := 0
def tw13731698454880872822 := 0
def tw5500186593683884226 := 0
def tw3302938397106613441 := 0
def tw11971534207275959987 := 0
def tw14631234597785412148 := 0
def tw8718032552225460834 := 0
def tw18375535000745723938 := 0
def tw11874908777643575388 := 0
def tw11346121261651159425 := 0
def tw3152710458866892744 := 0
def tw8756960572440969983 := 0
def tw9258863732682018790 := 0
def tw2805999882963017871 := 0
def tw10019170730128306339 := 0
def tw9356257825862066408 := 0
def tw5545292621255999649 := 0
def tw3752706118924465729 := 0
def tw8327745006020681364 := 0
def tw11013354458395709773 := 0
def tw13896187067377375385 := 0
def tw2998526899472096301 := 0
def tw17716886824595225189 := 0
def tw16407894674623878376 := 0
def tw17146731089495478709 := 0
def tw9281618297369450397 := 0
def tw5907289179834013851 := 0
def tw11964998578743343623 := 0
def tw7469597409602397979 := 0
def tw12781772000993158298 := 0
def tw8611259309951119158 := 0
def tw8051990648621511535 := 0
def tw14079013336716861912 := 0
def tw12905158552217419632 := 0
def tw10501388211400283217 := 0
def tw8624324532305433455 := 0
def tw15620972060291115321 := 0
def tw5057308922228583903 := 0
def tw819829413410122974 := 0
def tw15312045447305275611 := 0
def tw15368081038060239907 := 0
def tw16075004776420477624 := 0
def tw3826458365363803541 := 0
def tw16915667074773778988 := 0
def tw17407884946288951910 := 0
def tw14966324344928298615 := 0
def tw9979787509944063582 := 0
def tw14746667347358282703 := 0
def tw5694422287953465979 := 0
def tw10395491585770984479 := 0
def tw8465830846997103855 := 0
def tw1454909592675189654 := 0
def tw9727133196626800520 := 0
def tw11898478424583066493 := 0
def tw13492321761004871066 := 0
def tw14534066513112993146 := 0
def tw14796352508072216196 := 0
def tw9640905390646763484 := 0
def tw10158355517366063989 := 0
def tw15043479603515947083 := 0
def tw14461765392190828770 := 0
def tw7830541034590240861 := 0
def tw10074766672596514785 := 0
def tw5560676884044673656 := 0
def tw16386094414737961846 := 0
def tw9684211966487701129 := 0
def tw7827642043177417091 := 0
def tw7070918764131134424 := 0
def tw1855622645836991365 := 0
def tw17401283167268716358 := 0
def tw3737299572090558419 := 0
def tw9307044153950927088 := 0
def tw574052955677399642 := 0
def tw12515679449353616846 := 0
def tw522654286167390567 := 0
def tw14310239141649854975 := 0
def tw11049303585886974519 := 0
def tw15871908886401405817 := 0
def tw7664710073370318581 := 0
def tw2440850007924457984 := 0
def tw9760645260486148846 := 0
def tw6895177109013274948 := 0
def tw16337192882623649228 := 0
def tw15250879342265240793 := 0
def tw1553128405019704718 := 0
def tw2838671488635158609 := 0
def tw1396433452110842817 := 0
def tw7375393097309882871 := 0
def tw12444939446899750696 := 0
def tw16642318579998230960 := 0
def tw15599251764664683017 := 0
def tw12115268011104842346 := 0
def tw3906096485653081405 := 0
def tw12926433094224391939 := 0
def tw17226814441975664016 := 0
def tw16393662017638865804 := 0
def tw17123675409281280779 := 0
def tw14644411548729908485 := 0
def tw12546491864584766193 := 0
def tw6106115715478062506 := 0
def tw17236806216136888521 := 0
def tw2016982362746108730 := 0
def tw12286125935904787452 := 0
def tw16160814642585109477 := 0
def tw16167991971616701994 := 0
def tw4275598666563098651 := 0
def tw1974986066899770224 := 0
def tw1872134596242987272 := 0
def tw1225862356622288548 := 0
def tw16918164801902795465 := 0
def tw13008501081176575142 := 0
def tw2543109109053764514 := 0
def tw12154242292635762172 := 0
def tw3586882484349399768 := 0
def tw11633815333934493588 := 0
def tw13138663438435087268 := 0
def tw2221002842730445472 := 0
def tw1947391243717751175 := 0
def tw17888365261570550579 := 0
def tw4556251997916268306 := 0
def tw13128283030004982609 := 0
def tw13171617951517528832 := 0
def tw5287067309814425100 := 0
def tw7130097906423785509 := 0
def tw1870309384263186194 := 0
def tw14385057848220366057 := 0
def tw5424519142943645144 := 0
def tw1732833401630645478 := 0
def tw6873130619380261437 := 0
def tw16612790231084977980 := 0
def tw610370390371043008 := 0
def tw1405595983934873777 := 0
def tw1450307505683504715 := 0
def tw4731415902936005252 := 0
def tw14625883922518255926 := 0
def tw16352783309828504350 := 0
def tw6613505855207843286 := 0
def tw5153030770336064822 := 0
def tw8739102331098716501 := 0
def tw3575527728296615159 := 0
def tw12037918282459855737 := 0
def tw2232488947573895374 := 0
def tw467547740623485028 := 0
def tw17352354264272276767 := 0
def tw8766125176383603197 := 0
def tw10545075861147054021 := 0
def tw10857353947418657700 := 0
def tw12988699277442148943 := 0
def tw1824117270412962327 := 0
def tw4488191421682140359 := 0
def tw3644945489548522608 := 0
def tw3070867201446059773 := 0
def tw11400299865152308165 := 0
def tw18355501957447023991 := 0
def tw12923839669036278923 := 0
def tw4511657436295159057 := 0
def tw11139193793533171702 := 0
def tw114531977154119745 := 0
def tw8714018175763613146 := 0
def tw17258396966413949530 := 0
def tw6571088153992525142 := 0
def tw1684228047523396929 := 0
def tw13806614099379143471 := 0
def tw2981107381294822811 := 0
def tw2698084055235584821 := 0
def tw18257287080919545097 := 0
def tw17214723495700495518 := 0
def tw12106003541777563348 := 0
def tw17898433636038262004 := 0
def tw9601726104624542146 := 0
def tw17368747941398683084 := 0
def tw18200459265275322632 := 0
def tw5214570707024867651 := 0
def tw884804638017984428 := 0
def tw1766197411838522453 := 0
def tw15638656213032630365 := 0
def tw6978116833956038985 := 0
def tw12492187749628267052 := 0
def tw13828113496039067253 := 0
def tw7727301356311772725 := 0
def tw10171145586295494137 := 0
def tw1357591745540822989 := 0
def tw5330482010693300715 := 0
def tw15393857511960305765 := 0
def tw3126719832652935879 := 0
def tw15179543585655212824 := 0
def tw13709620953695168890 := 0
def tw5695026519816132622 := 0
def tw26701817323848597 := 0
def tw2758170254508306241 := 0
def tw17456469613593077097 := 0
def tw5881808761896721640 := 0
def tw4879811085761385451 := 0
def tw18445091879753122517 := 0
def tw15986076966232604605 := 0
def tw7640260212249298228 := 0
def tw15666786654045349375 := 0
def tw1271114452610929199 := 0
def tw5620112854662629572 := 0
def tw1759248030210746669 := 0
def tw7134872216379822447 := 0
def tw13326155064158690436 := 0
def tw11053685849360288931 := 0
def tw17090200548073694407 := 0
def tw5782088103040284832 := 0
def tw13056044060546836846 := 0
def tw2403250181277937180 := 0
def tw15584602842149376116 := 0
def tw2431559215058294705 := 0
def tw2840949950533043187 := 0
def tw6508855921779116481 := 0
def tw4405100680107624698 := 0
def tw12861904264797282730 := 0
def tw16888635244144132220 := 0
def tw7150103165694743402 := 0
def tw9218317687440032979 := 0
def tw1821971663324518671 := 0
def tw12508918548333962921 := 0
def tw11850944272435263042 := 0
def tw43452479280096778 := 0
def tw18383089348390726555 := 0
def tw13013382791745294340 := 0
def tw16322924886178869208 := 0
def tw13951481093543470926 := 0
def tw13584039262664459962 := 0
def tw7854739641172610693 := 0
def tw4635838704157349645 := 0
def tw15266979947600258872 := 0
def tw217353406413906781 := 0
def tw16637139396402250783 := 0
def tw9598363512718551498 := 0
def tw15629525737971919734 := 0
def tw6081160064614776919 := 0
def tw15569058616864589343 := 0
def tw16204916307636036290 := 0
def tw8598921746139837891 := 0
def tw6397386237838887860 := 0
def tw2793864462359581310 := 0
def tw6315138176431629655 := 0
def tw13533353458118122929 := 0
def tw3339100599406479258 := 0
def tw4504448903035259918 := 0
def tw12319791163634039961 := 0
def tw3043753182626108159 := 0
def tw16262335404403606876 := 0
def tw17486852608283206460 := 0
def tw6422854430202772234 := 0
def tw2829079886171441473 := 0
def tw5319328680853720708 := 0
def tw8575236089972733536 := 0
def tw14953205287649589306 := 0
def tw3621261017179106244 := 0
def tw2062011826595232879 := 0
def tw14205203418020807021 := 0
def tw6068690888844480333 := 0
def tw17995652357635900306 := 0
def tw2935366994816175055 := 0
def tw10480958833689563403 := 0
def tw14122762077367724538 := 0
def tw7358596029283319820 := 0
def tw8828997284374916908 := 0
def tw3586063436158065822 := 0
def tw15204856648335509020 := 0
def tw1455059168077878953 := 0
def tw17662355229665145358 := 0
def tw2555479858011755779 := 0
def tw3968415069618593007 := 0
def tw10619520667965297179 := 0
def tw7871128869578704769 := 0
def tw11240987471240205082 := 0
def tw7796227458612949589 := 0
def tw15919720245837292461 := 0
def tw13770156362198404864 := 0
def tw15300153355615405934 := 0
def tw11502859060276938918 := 0
def tw17172997588965557649 := 0
def tw15672123091216291795 := 0
def tw14586617230481689586 := 0
def tw10391040445693832889 := 0
def tw1436835245475997241 := 0
def tw7064265412589832894 := 0
def tw14744240519691882953 := 0
def tw9682186996039088803 := 0
def tw7174527992576639338 := 0
def tw2581722989317272805 := 0
def tw683839175861600078 := 0
def tw14765037372073699974 := 0
def tw14834248080494060454 := 0
def tw17402615622941174130 := 0
def tw6599409128148628749 := 0
def tw5249170831903688619 := 0
def tw53729396846662455 := 0
def tw13284354663122156394 := 0
def tw676230997670132230 := 0
def tw14304780738400382418 := 0
def tw15945055136380399282 := 0
def tw662097640894576955 := 0
def tw11021563164718962007 := 0
def tw3424333763615945931 := 0
def tw17171657992198716025 := 0
def tw17161273530443643567 := 0
def tw2463409749625467394 := 0
def tw16993820472630438021 := 0
def tw11806278229402543632 := 0
def tw14975503378738468869 := 0
def tw14135213927687836316 := 0
def tw2120097903997749995 := 0
def tw4917251393304443583 := 0
def tw1605255784362383313 := 0
def tw12817172074940679066 := 0
def tw6720267228833907727 := 0
def tw15534931494803226466 := 0
def tw6090477061290276409 := 0
def tw9646169691370719698 := 0
def tw1315974926623642787 := 0
def tw6692175617661658930 := 0
def tw7391810688973819561 := 0
def tw12416439792005722856 := 0
def tw16304892445457503383 := 0
def tw17361462163402505610 := 0
def tw2386420830998487997 := 0
def tw13542402865458107579 := 0
def tw9059393591446500375 := 0
def tw5655573066440565835 := 0
def tw11340932552813484907 := 0
def tw538982908771640162 := 0
def tw9277955661070607456 := 0
def tw18256446343101398077 := 0
def tw11962607006950685954 := 0
def tw8701438134857287721 := 0
def tw12813621660865269336 := 0
def tw1450448829741442213 := 0
def tw13266745466723112571 := 0
def tw3611187709463399747 := 0
def tw72426565806612005 := 0
def tw2581262462993002731 := 0
def tw14457317947168084762 := 0
def tw11277620006123923850 := 0
def tw7597741989674655847 := 0
def tw2449225172107162584 := 0
def tw13303767418528806433 := 0
def tw6384073850664434866 := 0
def tw17024539741350773391 := 0
def tw16123755376376163485 := 0
def tw4821842444750745914 := 0
def tw4428317708799854808 := 0
def tw1210254141704506684 := 0
def tw18172672006250963412 := 0
def tw2941642192941721793 := 0
def tw3155160002476396241 := 0
def tw14741262296045347038 := 0
def tw9818329594088288056 := 0
def tw16186129114569118890 := 0
def tw4633825594201282448 := 0
def tw14509424767208913824 := 0
def tw4510880120005281881 := 0
def tw15475208516144185580 := 0
def tw12775827508842617475 := 0
def tw7039133514272912669 := 0
def tw11732300423118460884 := 0
def tw11955441619328479542 := 0
def tw14705617371625175991 := 0
def tw5177449365730013453 := 0
def tw419399680814344970 := 0
def tw9314175935948949148 := 0
def tw9211743100664032183 := 0
def tw15457337136081066784 := 0
def tw5145245944056364811 := 0
def tw16054963937079271807 := 0
def tw14417641695955988385 := 0
def tw8428560441562689820 := 0
def tw17290707535875855355 := 0
def tw11710512757223443074 := 0
def tw16711326999042205458 := 0
def tw18338525728201303864 := 0
def tw12344270290834186594 := 0
def tw15103409306876620552 := 0
def tw3767917774240646456 := 0
def tw15621864741931462647 := 0
def tw4791838540402029226 := 0
def tw12115184802132734194 := 0
def tw1331692342902645956 := 0
def tw17490654978294691773 := 0
def tw14284856693957945105 := 0
def tw16276908550749088752 := 0
def tw11666294972663352305 := 0
def tw5285660772681573777 := 0
def tw10510235207364765323 := 0
def tw15470024809770161105 := 0
def tw8659967001664521439 := 0
def tw2513049931015030159 := 0
def tw14348043580298475838 := 0
def tw15415758469312252604 := 0
def tw3544033600670150371 := 0
def tw16588419809904431949 := 0
def tw3680497147686152040 := 0
def tw9354567389044867234 := 0
def tw9613144512541817220 := 0
def tw5279864263717610099 := 0
def tw702775162680986160 := 0
def tw9399235431307544406 := 0
def tw5478610838907923447 := 0
def tw10751632455624129255 := 0
def tw16003432044749388587 := 0
def tw11053166866775309578 := 0
def tw14183712684186602867 := 0
def tw14783176824353627070 := 0
def tw4221134792297556478 := 0
def tw1760046424938974156 := 0
def tw8985577189325223999 := 0
def tw6604673016760304193 := 0
def tw8379688596659900081 := 0
def tw15335643909656314550 := 0
def tw11975747209443143848 := 0
def tw11804259349021991502 := 0
def tw16521015283161138849 := 0
def tw3146271505323444076 := 0
def tw2375762794290402861 := 0
def tw13295006433334158062 := 0
def tw4080767360814501178 := 0
def tw18446319517726860552 := 0
def tw7118024181210351207 := 0
def tw7135702311417283718 := 0
def tw2109640507614061848 := 0
def tw5154381817130284587 := 0
def tw15429929827159175378 := 0
def tw13918445235048379150 := 0
def tw13607985012374906842 := 0
def tw12968957445132679763 := 0
def tw1914465956215472747 := 0
def tw2822099437461071336 := 0
def tw3013207252972550861 := 0
def tw11879129025786896483 := 0
def tw10216882681433796562 := 0
def tw6663877902495936268 := 0
def tw15775785870599867306 := 0
def tw6332369936041460598 := 0
def tw1322666899696471799 := 0
def tw10970176467656603390 := 0
def tw15506420569911430847 := 0
def tw16360885654180257025 := 0
def tw17828031979375413952 := 0
def tw2211913236653387291 := 0
def tw14200496850417978306 := 0
def tw8961052069790964177 := 0
def tw2529306728288181992 := 0
def tw6718809028744571439 := 0
def tw13007650764562997560 := 0
def tw4317012377957951447 := 0
def tw15051349970199440671 := 0
def tw15337240066300552031 := 0
def tw11142072478635256301 := 0
def tw12626779962579034147 := 0
def tw15812388961729362200 := 0
def tw14135870941106052395 := 0
def tw16797620475912413656 := 0
def tw16365292916069195443 := 0
def tw596069346582387605 := 0
def tw3641574182754155752 := 0
def tw18030064929570192714 := 0
def tw13820648121124908128 := 0
def tw4763575282003793794 := 0
def tw1448808800434589169 := 0
def tw6154122282830200186 := 0
def tw3705614053126292924 := 0
def tw10330615316485317563 := 0
def tw14541489512681171733 := 0
def tw16272960101580683850 := 0
def tw8470987715590066261 := 0
def tw8526344550809482880 := 0
def tw14935939417787678019 := 0
def tw6381026298840204441 := 0
def tw5758651467421593208 := 0
def tw181845369722853391 := 0
def tw1863906551549212441 := 0
def tw11621018022023642634 := 0
def tw11044435951385734026 := 0
def tw13114917299209616468 := 0
def tw937849928936826863 := 0
def tw8425075252200125747 := 0
def tw7028132865275189651 := 0
def tw4152454738783297506 := 0
def tw12627527679091064523 := 0
def tw3643653887646680387 := 0
def tw7448831235587531314 := 0
def tw17954597430877611974 := 0
def tw1760579365083158629 := 0
def tw550673284884545921 := 0
def tw8104812116310828560 := 0
def tw8153462891238138714 := 0
def tw10651809567240253569 := 0
def tw5393917104313845462 := 0
def tw13902831815808911173 := 0
def tw8420662022232882605 := 0
def tw3497672285304414939 := 0
def tw5995591135784129988 := 0
def tw12860521883938999490 := 0
def tw10022305289574708925 := 0
def tw8661594718605490593 := 0
def tw2405848970141857544 := 0
def tw4364075268003109006 := 0
def tw13895893347061977083 := 0
def tw2054670597095011485 := 0
def tw11653918433262926377 := 0
def tw10135148130381091352 := 0
def tw11324860457396368736 := 0
def tw16102984990129107321 := 0
def tw18370800447697969351 := 0
def tw14339335203540977792 := 0
def tw15691299834899292030 := 0
def tw9531312465442466853 := 0
def tw14251759024090773076 := 0
def tw4278079279758096197 := 0
def tw54987152143146248 := 0
def tw169559136042061209 := 0
def tw5705070924389823489 := 0
def tw8710700691040458820 := 0
def tw610469578317577069 := 0
def tw9009368833097799706 := 0
def tw1658333310837516681 := 0
def tw5305208102957707037 := 0
def tw7504935303583227620 := 0
def tw3943194283389436386 := 0
def tw14270686418990743698 := 0
def tw5348886262997462652 := 0
def tw15284277891220891449 := 0
def tw5006340264782876109 := 0
def tw18293608876920828742 := 0
def tw14576341717401975474 := 0
def tw13320875728052630272 := 0
def tw6526733156412848635 := 0
def tw14720529286680475255 := 0
def tw3647558856721173583 := 0
def tw15778041665921172133 := 0
def tw14910526433994856324 := 0
end PySem.W.Fast
open PySem PySem.W PyProof.Rows
set_option maxRecDepth 100000 in
set_option maxHeartbeats 0 in
theorem PySem.Challenge.cw_dykemoot_k42_decrees_written_and_read_holds : PySem.Challenge.rw_dykemoot_k42_decrees_written_and_read.Holds := by
  w_on; o_law; k_head; (case hw => w_witness2)
  k_fill
  refine L2.walk_law (l := PySem.Challenge.rw_dykemoot_k42_decrees_written_and_read) 12 ⟨rfl, by decide, by decide⟩ rfl rfl (fun w h Y => PySem.W.kIn_of Y) ?F
  case F =>
    intro w mg fa h KX G hmg
    refine' K42.law_mk hmg (K42.txt_mk KX G ?xaC ?xpgC ?xhdC ?xpoC ?xsaC ?xmkC ?xkpC ?xn_field_rows ?xn_dyke_rows ?xma15 ?xmi15 ?xml15 ?xmc15 ?xmk15 ?xma16 ?xmi16 ?xml16 ?xmc16 ?xmk16 ?xma17 ?xmi17 ?xml17 ?xmc17 ?xmk17 ?xma18 ?xmi18 ?xml18 ?xmc18 ?xmk18 ?xma19 ?xmi19 ?xml19 ?xmc19 ?xmk19 ?xma20 ?xmi20 ?xml20 ?xmc20 ?xmk20 ?xma21 ?xmi21 ?xml21 ?xmc21 ?xmk21 ?xma22 ?xmi22 ?xml22 ?xmc22 ?xmk22 ?xma23 ?xmi23 ?xml23 ?xmc23 ?xmk23 ?xa0 ?xl0 ?xc0 ?xk0 ?xa1 ?xl1 ?xc1 ?xk1 ?xa2 ?xl2 ?xc2 ?xk2 ?xa3 ?xl3 ?xc3 ?xk3 ?xa4 ?xl4 ?xc4 ?xk4 ?xa5 ?xl5 ?xc5 ?xk5 ?xa6 ?xl6 ?xc6 ?xk6 ?xa7 ?xl7 ?xc7 ?xk7 ?xa8 ?xl8 ?xc8 ?xk8 ?xa9 ?xl9 ?xc9 ?xk9 ?xa10 ?xl10 ?xc10 ?xk10 ?xa11 ?xl11 ?xc11 ?xk11 ?xa12 ?xl12 ?xc12 ?xk12 ?xa13 ?xl13 ?xc13 ?xk13 ?xa14 ?xl14 ?xc14 ?xk14 ?xa15 ?xl15 ?xc15 ?xk15 ?xa16 ?xl16 ?xc16 ?xk16 ?xa17 ?xl17 ?xc17 ?xk17 ?xa18 ?xl18 ?xc18 ?xk18 ?xa19 ?xl19 ?xc19 ?xk19 ?xa20 ?xl20 ?xc20 ?xk20 ?xa21 ?xl21 ?xc21 ?xk21 ?xa22 ?xl22 ?xc22 ?xk22 ?xa23 ?xl23 ?xc23 ?xk23 ?xa24 ?xl24 ?xc24 ?xk24 ?xa25 ?xl25 ?xc25 ?xk25 ?xa26 ?xl26 ?xc26 ?xk26 ?xa27 ?xl27 ?xc27 ?xk27 ?xa28 ?xl28 ?xc28 ?xk28 ?xa29 ?xl29 ?xc29 ?xk29 ?xa30 ?xl30 ?xc30 ?xk30 ?xa31 ?xl31 ?xc31 ?xk31 ?xa32 ?xl32 ?xc32 ?xk32 ?xa33 ?xl33 ?xc33 ?xk33 ?xa34 ?xl34 ?xc34 ?xk34 ?xa35 ?xl35 ?xc35 ?xk35 ?xa36 ?xl36 ?xc36 ?xk36 ?xa37 ?xl37 ?xc37 ?xk37 ?xa38 ?xl38 ?xc38 ?xk38 ?xa39 ?xl39 ?xc39 ?xk39 ?xtg0 ?xtl0 ?xtv0 ?xtz0 ?xtg1 ?xtl1 ?xtv1 ?xtz1 ?xtg2 ?xtl2 ?xtv2 ?xtz2 ?xdg0 ?xdl0 ?xdv0 ?xdz0 ?xg0 ?xr0 ?xg1 ?xr1 ?xg2 ?xr2 ?xg3 ?xr3 ?xg4 ?xr4 ?xg5 ?xr5 ?xg6 ?xr6 ?xg7 ?xr7 ?xg8 ?xr8 ?xg9 ?xr9 ?xg10 ?xr10 ?xg11 ?xr11 ?xz0 ?xz1 ?xz2 ?xz3 ?xz4 ?xz5 ?xz6 ?xz7 ?xz8 ?xz9 ?xz10)
    (case xaC => k_is)
    (case xpgC => k_is)
    (case xhdC => k_is)
    (case xpoC => k_is)
    (case xsaC => k_is)
    (case xmkC => k_is)
    (case xkpC => k_is)
    (case xn_field_rows => k_is)
    (case xn_dyke_rows => k_is)
    (case xma15 => k_is)
    (case xmi15 => k_is)
    (case xml15 => k_is)
    (case xmc15 => k_is)
    (case xmk15 => k_is)
    (case xma16 => k_is)
    (case xmi16 => k_is)
    (case xml16 => k_is)
    (case xmc16 => k_is)
    (case xmk16 => k_is)
    (case xma17 => k_is)
    (case xmi17 => k_is)
    (case xml17 => k_is)
    (case xmc17 => k_is)
    (case xmk17 => k_is)
    (case xma18 => k_is)
    (case xmi18 => k_is)
    (case xml18 => k_is)
    (case xmc18 => k_is)
    (case xmk18 => k_is)
    (case xma19 => k_is)
    (case xmi19 => k_is)
    (case xml19 => k_is)
    (case xmc19 => k_is)
    (case xmk19 => k_is)
    (case xma20 => k_is)
    (case xmi20 => k_is)
    (case xml20 => k_is)
    (case xmc20 => k_is)
    (case xmk20 => k_is)
    (case xma21 => k_is)
    (case xmi21 => k_is)
    (case xml21 => k_is)
    (case xmc21 => k_is)
    (case xmk21 => k_is)
    (case xma22 => k_is)
    (case xmi22 => k_is)
    (case xml22 => k_is)
    (case xmc22 => k_is)
    (case xmk22 => k_is)
    (case xma23 => k_is)
    (case xmi23 => k_is)
    (case xml23 => k_is)
    (case xmc23 => k_is)
    (case xmk23 => k_is)
    (case xa0 => k_is)
    (case xl0 => k_is)
    (case xc0 => k_is)
    (case xk0 => k_is)
    (case xa1 => k_is)
    (case xl1 => k_is)
    (case xc1 => k_is)
    (case xk1 => k_is)
    (case xa2 => k_is)
    (case xl2 => k_is)
    (case xc2 => k_is)
    (case xk2 => k_is)
    (case xa3 => k_is)
    (case xl3 => k_is)
    (case xc3 => k_is)
    (case xk3 => k_is)
    (case xa4 => k_is)
    (case xl4 => k_is)
    (case xc4 => k_is)
    (case xk4 => k_is)
    (case xa5 => k_is)
    (case xl5 => k_is)
    (case xc5 => k_is)
    (case xk5 => k_is)
    (case xa6 => k_is)
    (case xl6 => k_is)
    (case xc6 => k_is)
    (case xk6 => k_is)
    (case xa7 => k_is)
    (case xl7 => k_is)
    (case xc7 => k_is)
    (case xk7 => k_is)
    (case xa8 => k_is)
    (case xl8 => k_is)
    (case xc8 => k_is)
    (case xk8 => k_is)
    (case xa9 => k_is)
    (case xl9 => k_is)
    (case xc9 => k_is)
    (case xk9 => k_is)
    (case xa10 => k_is)
    (case xl10 => k_is)
    (case xc10 => k_is)
    (case xk10 => k_is)
    (case xa11 => k_is)
    (case xl11 => k_is)
    (case xc11 => k_is)
    (case xk11 => k_is)
    (case xa12 => k_is)
    (case xl12 => k_is)
    (case xc12 => k_is)
    (case xk12 => k_is)
    (case xa13 => k_is)
    (case xl13 => k_is)
    (case xc13 => k_is)
    (case xk13 => k_is)
    (case xa14 => k_is)
    (case xl14 => k_is)
    (case xc14 => k_is)
    (case xk14 => k_is)
    (case xa15 => k_is)
    (case xl15 => k_is)
    (case xc15 => k_is)
    (case xk15 => k_is)
    (case xa16 => k_is)
    (case xl16 => k_is)
    (case xc16 => k_is)
    (case xk16 => k_is)
    (case xa17 => k_is)
    (case xl17 => k_is)
    (case xc17 => k_is)
    (case xk17 => k_is)
    (case xa18 => k_is)
    (case xl18 => k_is)
    (case xc18 => k_is)
    (case xk18 => k_is)
    (case xa19 => k_is)
    (case xl19 => k_is)
    (case xc19 => k_is)
    (case xk19 => k_is)
    (case xa20 => k_is)
    (case xl20 => k_is)
    (case xc20 => k_is)
    (case xk20 => k_is)
    (case xa21 => k_is)
    (case xl21 => k_is)
    (case xc21 => k_is)
    (case xk21 => k_is)
    (case xa22 => k_is)
    (case xl22 => k_is)
    (case xc22 => k_is)
    (case xk22 => k_is)
    (case xa23 => k_is)
    (case xl23 => k_is)
    (case xc23 => k_is)
    (case xk23 => k_is)
    (case xa24 => k_is)
    (case xl24 => k_is)
    (case xc24 => k_is)
    (case xk24 => k_is)
    (case xa25 => k_is)
    (case xl25 => k_is)
    (case xc25 => k_is)
    (case xk25 => k_is)
    (case xa26 => k_is)
    (case xl26 => k_is)
    (case xc26 => k_is)
    (case xk26 => k_is)
    (case xa27 => k_is)
    (case xl27 => k_is)
    (case xc27 => k_is)
    (case xk27 => k_is)
    (case xa28 => k_is)
    (case xl28 => k_is)
    (case xc28 => k_is)
    (case xk28 => k_is)
    (case xa29 => k_is)
    (case xl29 => k_is)
    (case xc29 => k_is)
    (case xk29 => k_is)
    (case xa30 => k_is)
    (case xl30 => k_is)
    (case xc30 => k_is)
    (case xk30 => k_is)
    (case xa31 => k_is)
    (case xl31 => k_is)
    (case xc31 => k_is)
    (case xk31 => k_is)
    (case xa32 => k_is)
    (case xl32 => k_is)
    (case xc32 => k_is)
    (case xk32 => k_is)
    (case xa33 => k_is)
    (case xl33 => k_is)
    (case xc33 => k_is)
    (case xk33 => k_is)
    (case xa34 => k_is)
    (case xl34 => k_is)
    (case xc34 => k_is)
    (case xk34 => k_is)
    (case xa35 => k_is)
    (case xl35 => k_is)
    (case xc35 => k_is)
    (case xk35 => k_is)
    (case xa36 => k_is)
    (case xl36 => k_is)
    (case xc36 => k_is)
    (case xk36 => k_is)
    (case xa37 => k_is)
    (case xl37 => k_is)
    (case xc37 => k_is)
    (case xk37 => k_is)
    (case xa38 => k_is)
    (case xl38 => k_is)
    (case xc38 => k_is)
    (case xk38 => k_is)
    (case xa39 => k_is)
    (case xl39 => k_is)
    (case xc39 => k_is)
    (case xk39 => k_is)
    (case xtg0 => k_is)
    (case xtl0 => k_is)
    (case xtv0 => repeat (first | exact .nil | refine .cons ⟨_, rfl⟩ ?_))
    (case xtz0 => decide)
    (case xtg1 => k_is)
    (case xtl1 => k_is)
    (case xtv1 => repeat (first | exact .nil | refine .cons ⟨_, rfl⟩ ?_))
    (case xtz1 => decide)
    (case xtg2 => k_is)
    (case xtl2 => k_is)
    (case xtv2 => repeat (first | exact .nil | refine .cons ⟨_, rfl⟩ ?_))
    (case xtz2 => decide)
    (case xdg0 => k_is)
    (case xdl0 => k_is)
    (case xdv0 => repeat (first | exact .nil | refine .cons ⟨_, rfl, rfl, ⟨_, rfl⟩⟩ ?_))
    (case xdz0 => decide)
    (case xg0 => k_is)
    (case xr0 => exact ⟨_, rfl⟩)
    (case xg1 => k_is)
    (case xr1 => exact ⟨_, rfl⟩)
    (case xg2 => k_is)
    (case xr2 => exact ⟨_, rfl⟩)
    (case xg3 => k_is)
    (case xr3 => exact ⟨_, rfl⟩)
    (case xg4 => k_is)
    (case xr4 => exact ⟨_, rfl⟩)
    (case xg5 => k_is)
    (case xr5 => exact ⟨_, rfl⟩)
    (case xg6 => k_is)
    (case xr6 => exact ⟨_, rfl⟩)
    (case xg7 => k_is)
    (case xr7 => exact ⟨_, rfl⟩)
    (case xg8 => k_is)
    (case xr8 => exact ⟨_, rfl⟩)
    (case xg9 => k_is)
    (case xr9 => exact ⟨_, rfl⟩)
    (case xg10 => k_is)
    (case xr10 => exact ⟨_, rfl⟩)
    (case xg11 => k_is)
    (case xr11 => exact ⟨_, rfl⟩)
    (case xz0 => k_is)
    (case xz1 => k_is)
    (case xz2 => k_is)
    (case xz3 => k_is)
    (case xz4 => k_is)
    (case xz5 => k_is)
    (case xz6 => k_is)
    (case xz7 => k_is)
    (case xz8 => k_is)
    (case xz9 => k_is)
    (case xz10 => k_is)
