import PyProof.Rows.All
import Wide.All
import OpenK.AllK
import Wide.FinOn
import Lean
import PyProof.EqAt
import PyProof.EqKinds
import PyProof.TupleCall
import PyProof.StrBlockI
import PyProof.SliceList
import PyProof.StrLawsIn
import PyProof.StrLaws
import PyProof.MaxThree
import PyProof.DictValues
import KE.KItemsList
import KE.KEqDict
import PyProof.DictItems
import PyProof.MeetsDictList
import PySem.Challenge.RW_dykemoot_k47_no_season_no_level
set_option Elab.async false
set_option linter.all false
set_option maxRecDepth 100000
namespace L2
open PySem PySem.Spec PyProof.Rows
abbrev Key:=Sum Int Str
def tJ:Key → Value → Bool
 | .inl k,v=>Value.isInt k v
 | .inr x,v=>Value.isStrOf x v
def aNV (w:World):Key → Int
 | .inl k=>hashInt k
 | .inr x=>hashStr w x
theorem cY:∀ {k:Key} {v:Value},tJ k v = true → (∃ i t,k = Sum.inl i ∧ v = Value.int i t) ∨ (∃ x t,k = Sum.inr x ∧ v = Value.str x t)
 | .inl i,v,h=>by
  obtain ⟨t,e⟩:=Value.isInt_shape (k:=i) (v:=v) h
  exact .inl ⟨i,t,rfl,e⟩
 | .inr x,v,h=>by
  obtain ⟨t,e⟩:=Value.isStrOf_shape (x:=x) (v:=v) h
  exact .inr ⟨x,t,rfl,e⟩
theorem qN (i:Int) (t:Tok):tJ (.inl i) (.int i t) = true:=by simp [tJ,Value.isInt]
theorem qM (x:Str) (t:Tok):tJ (.inr x) (.str x t) = true:=by simp [tJ,Value.isStrOf]
theorem aKT (a b:Int):decide ((Sum.inl a:Key) = Sum.inl b) = (a == b):=by
 by_cases e:a = b
 ·subst e;simp
 ·have h:¬ (Sum.inl a:Key) = Sum.inl b:=fun q=>e (Sum.inl.inj q)
  rw [decide_eq_false h]
  exact (beq_eq_false_iff_ne.mpr e).symm
theorem aKQ (a b:Str):decide ((Sum.inr a:Key) = Sum.inr b) = decide (a = b):=by
 by_cases e:a = b
 ·subst e;simp
 ·have h:¬ (Sum.inr a:Key) = Sum.inr b:=fun q=>e (Sum.inr.inj q)
  rw [decide_eq_false h,decide_eq_false e]
theorem aKS (a:Int) (b:Str):decide ((Sum.inl a:Key) = Sum.inr b) = false:=decide_eq_false (fun q=>nomatch q)
theorem aKR (a:Str) (b:Int):decide ((Sum.inr a:Key) = Sum.inl b) = false:=decide_eq_false (fun q=>nomatch q)
def aZ (prog:Program) (w:World):PySem.KeyKind prog w Key where
 is:=tJ
 hash:=aNV w
 inj:=fun v a b ha hb=>by
  rcases cY ha with ⟨i,t,rfl,rfl⟩ | ⟨x,t,rfl,rfl⟩
  ·rcases cY hb with ⟨j,u,rfl,e⟩ | ⟨y,u,rfl,e⟩
   ·injection e with e1 _;rw [e1]
   ·exact nomatch e
  ·rcases cY hb with ⟨j,u,rfl,e⟩ | ⟨y,u,rfl,e⟩
   ·exact nomatch e
   ·injection e with e1 _;rw [e1]
 byValue:=fun k v h=>by
  rcases cY h with ⟨i,t,rfl,rfl⟩ | ⟨x,t,rfl,rfl⟩ <;> rfl
 pyHash:=fun hv h=>by
  rcases cY hv with ⟨i,t,rfl,rfl⟩ | ⟨x,t,rfl,rfl⟩
  ·exact wpAny_pyHash_int h
  ·exact wpAny_pyHash_str h
 eqBool:=fun hu hv h=>by
  rcases cY hu with ⟨i,t,rfl,rfl⟩ | ⟨x,t,rfl,rfl⟩
  ·rcases cY hv with ⟨j,u,rfl,rfl⟩ | ⟨y,u,rfl,rfl⟩
   ·rw [aKT] at h;exact wpAny_eqBool_int h
   ·rw [aKS] at h;exact SeqAt.EqAt.int_str i t y u _ _ _ _ h
  ·rcases cY hv with ⟨j,u,rfl,rfl⟩ | ⟨y,u,rfl,rfl⟩
   ·rw [aKR] at h;exact SeqAt.EqAt.str_int x t j u _ _ _ _ h
   ·rw [aKQ] at h;exact wpAny_eqBool_str h
 «strs»:=fun k x t v h=>by
  rcases cY h with ⟨i,u,rfl,e⟩ | ⟨y,u,rfl,e⟩
  ·exact nomatch e
  ·injection e with e1 _
   subst e1
   cases v <;> rfl
theorem yJ (prog:Program) (w:World) (i:Int) (t:Tok):(aZ prog w).is (.inl i) (.int i t) = true:=qN i t
theorem yI (prog:Program) (w:World) (x:Str) (t:Tok):(aZ prog w).is (.inr x) (.str x t) = true:=qM x t
end L2
namespace L2
open PySem PySem.Spec PyProof.Rows
inductive V where
 | non | bl (b:Bool) | int (i:Int) | str (x:Str) | byt (b:Array UInt8) | flt (b:UInt64) | ref (a:Addr) | ty (n:String)
 deriving DecidableEq
def bF:V → Value → Prop
 | .non,u=>u = Value.none
 | .bl b,u=>u = Value.bool b
 | .int i,u=>∃ t,u = Value.int i t
 | .str x,u=>∃ t,u = Value.str x t
 | .byt b,u=>∃ t,u = Value.bytes b t
 | .flt b,u=>∃ t,u = Value.float b t
 | .ref a,u=>u = Value.ref a
 | .ty n,u=>u = Value.type n
abbrev bH:List V → List Value → Prop:=Paired bF
theorem bH.length {xs:List V} {us:List Value} (r:bH xs us):xs.length = us.length:=Paired.length r
theorem bH.get:∀ {xs:List V} {us:List Value} {i:Nat} {x:V},bH xs us → xs[i]? = some x → ∃ u,us[i]? = some u ∧ bF x u
 | _,_,_,_,.nil,e=>by simp at e
 | _,_,0,_,.cons r _,e=>by simp at e;subst e;exact ⟨_,rfl,r⟩
 | _,_,i + 1,x,.cons _ t,e=>by
  obtain ⟨u,h1,h2⟩:=bH.get (i:=i) (x:=x) t (by simpa using e)
  exact ⟨u,by simpa using h1,h2⟩
theorem bH.append:∀ {xs ys:List V} {us ws:List Value},bH xs us → bH ys ws → bH (xs ++ ys) (us ++ ws)
 | _,_,_,_,.nil,s=>s
 | _,_,_,_,.cons r t,s=>.cons r (bH.append t s)
theorem bH.take:∀ {xs:List V} {us:List Value} (n:Nat),bH xs us → bH (xs.take n) (us.take n)
 | _,_,0,_=>.nil
 | _,_,_ + 1,.nil=>.nil
 | _,_,n + 1,.cons r t=>.cons r (bH.take n t)
theorem bH.drop:∀ {xs:List V} {us:List Value} (n:Nat),bH xs us → bH (xs.drop n) (us.drop n)
 | _,_,0,r=>r
 | _,_,_ + 1,.nil=>.nil
 | _,_,n + 1,.cons _ t=>bH.drop n t
def lZ:Option V → Option Value → Prop
 | some v,some u=>bF v u
 | none,none=>True
 | _,_=>False
def KV {κ:Type}:List (κ × V) → List (κ × Value) → Prop:=Paired fun (p:κ × V) (q:κ × Value)=>p.1 = q.1 ∧ bF p.2 q.2
def kV:Key → V
 | .inl i=>.int i
 | .inr x=>.str x
inductive HO where
 /-- a list -/
 | lst (xs:List V)
 /-- a tuple (never changes) -/
 | tup (xs:List V)
 /-- a dict whose keys are ints and texts;one whose keys are tuples of ints and texts (the empty one is both) -/
 | dK (kvs:List (Key × V)) | dT (kvs:List (List Key × V))
 /-- a set of ints: its members,its size -/
 | set (S:Int → Bool) (n:Nat)
 /-- an instance of the class at C,its dict at dx,its attributes -/
 | ins (C dx:Addr) (fs:List (Str × V))
 /-- the dict of the instance at x -/
 | own (x:Addr)
 /-- the dict of an exception -/
 | xd (fs:List (Str × V))
 /-- a bound method,f of x -/
 | met (f x:Addr)
 /-- a range object lo,lo + 1,.. below hi -/
 | rng (lo hi:Int)
 /-- a thing that is known to the object (the script;a dict while a loop walks it): read,never written while it is so -/
 | frz (o:Obj) (u:HO)
 /-- a aMZ object's table -/
 | tbl (ps:Array Value)
 /-- any other thing,by what is true of its one object (a def of one's own: aEC a S n:=HO.ext fun h=>..) -/
 | ext (φ:Heap → Prop)
abbrev Hp:=Addr → Option HO
def upd (H:Hp) (a:Addr) (o:HO):Hp:=fun b=>if b = a then some o else H b
theorem aB {H:Hp} {a:Addr} {o:HO}:upd H a o a = some o:=by unfold upd;rw [if_pos rfl]
theorem aT {H:Hp} {a b:Addr} {o:HO} (h:b ≠ a):upd H a o b = H b:=by unfold upd;rw [if_neg h]
theorem aBQ {H:Hp} {a b:Addr} {o u:HO} (h:H a = some o) (h':H b = some u) (d:o ≠ u):a ≠ b:=by
 intro e;subst e;rw [h] at h';exact d (Option.some.inj h')
theorem aQ {H:Hp} {a b:Addr} {o:HO} (h:H a = some o) (h':H b = none):a ≠ b:=by
 intro e;subst e;rw [h] at h';cases h'
def qU (h:Heap) (a:Addr) (its:Array Value):Prop:=∃ o,h.get? a = some o ∧ o.cls = .type "tuple" ∧ ∃ n,o.data = .seq its n ∧ o.dict = none
theorem qU.tup {h:Heap} {a:Addr} {its:Array Value} (x:qU h a its):IsTup h a its:=by
 obtain ⟨o,e,c,n,d,_⟩:=x
 exact ⟨o,e,c,n,d⟩
theorem qU.new (h:Heap) (its:Array Value):qU (h.push { cls:=.type "tuple",data:=.seq its }) h.objs.size its:=⟨_,Heap.get?_push_size _ rfl,rfl,_,rfl,rfl⟩
section
variable (P:Program) (w:World)
def cM (H:Hp) (h:Heap) (a:Addr):HO → Prop
 | .lst xs=>xs.length ≤ sizeLine ∧ ∃ (its:List Value) (n:Nat),bH xs its ∧ h.get? a = some { cls:=.type "list",data:=.seq its.toArray n }
 | .tup xs=>xs.length ≤ sizeLine ∧ ∃ its:List Value,bH xs its ∧ qU h a its.toArray
 | .dK kvs=>kvs.length ≤ sizeLine ∧ (a == sysModules) = false ∧ ∃ vs,KV kvs vs ∧ h.DictOf (aZ P w) a vs
 | .dT kvs=>kvs.length ≤ sizeLine ∧ (a == sysModules) = false ∧ ∃ xs:List (List Key × Addr × Value),
   Paired (fun (p:List Key × V) (q:List Key × Addr × Value)=>p.1 = q.1 ∧ H q.2.1 = some (.tup (p.1.map kV)) ∧ bF p.2 q.2.2) kvs xs ∧
   ∃ o es ep,h.get? a = some o ∧ o.ExactDict ∧ o.data = .dict es ep ∧ es.toList = xs.map (entryOfKey (tupleKind (aZ P w))) ∧ (xs.map (·.1)).Nodup
 | .set S n=>h.SetOf (intKind P w) a S n
 | .ins C dx fs=>H dx = some (.own a) ∧ fs.length ≤ 1000 ∧ dx ≠ a ∧ h.get? a = some (PySem.W.instObj C dx) ∧
   ∃ mA,h.Ns1 dx mA ∧ (∀ f,lZ (fs.lookup f) (mA f)) ∧ PySem.Within mA (fs.map (·.1))
 | .own _=>∃ o,h.get? a = some o
 | .xd fs=>∃ mA,h.Ns1 a mA ∧ ∀ f,lZ (fs.lookup f) (mA f)
 | .rng lo hi=>∃ t u v,h.get? a = some { cls:=.type "range",data:=.fields #[.int lo t,.int hi u,.int 1 v] }
 | .frz o u=>h.get? a = some o ∧ cM H h a u
 | .tbl ps=>h.get? a = some { cls:=.none,data:=.fields ps }
 | .met f x=>h.get? a = some (PySem.W.methodObj (.ref f) (.ref x))
 | .ext φ=>φ h ∧ (∃ o,h.get? a = some o) ∧ ∀ h1 h2:Heap,φ h1 → (∀ o,h1.get? a = some o → h2.get? a = some o) → φ h2
def HOk (H:Hp) (h:Heap):Prop:=∀ a o,H a = some o → cM P w H h a o
end
section
variable {P:Program} {w:World} {H H':Hp} {h h':Heap} {a:Addr} {o:HO}
theorem cM.lt (x:cM P w H h a o):a < h.objs.size:=by
 cases o with
 | lst xs=>obtain ⟨_,_,_,_,e⟩:=x;exact Heap.lt_size e
 | tup xs=>obtain ⟨_,_,_,_,e,_⟩:=x;exact Heap.lt_size e
 | dK kvs=>obtain ⟨_,_,_,_,o,_,_,e,_⟩:=x;exact Heap.lt_size e
 | dT kvs=>obtain ⟨_,_,_,_,o,_,_,e,_⟩:=x;exact Heap.lt_size e
 | set S n=>obtain ⟨o,_,_,_,e,_⟩:=x;exact Heap.lt_size e
 | ins C dx fs=>obtain ⟨_,_,_,e,_⟩:=x;exact Heap.lt_size e
 | own y=>obtain ⟨_,e⟩:=x;exact Heap.lt_size e
 | xd fs=>obtain ⟨_,⟨_,_,_,e,_⟩,_⟩:=x;exact Heap.lt_size e
 | rng lo hi=>obtain ⟨_,_,_,e⟩:=x;exact Heap.lt_size e
 | frz ob u=>obtain ⟨e,_⟩:=x;exact Heap.lt_size e
 | tbl ps=>exact Heap.lt_size (show h.get? a = some _ from x)
 | met f y=>exact Heap.lt_size (show h.get? a = some _ from x)
 | ext φ=>obtain ⟨_,⟨_,e⟩,_⟩:=x;exact Heap.lt_size e
theorem Paired.mapP {α β:Type} {F G:α → β → Prop}:∀ {l₁:List α} {l₂:List β},Paired F l₁ l₂ → (∀ a b,F a b → G a b) → Paired G l₁ l₂
 | _,_,.nil,_=>.nil
 | _,_,.cons r t,f=>.cons (f _ _ r) (Paired.mapP t f)
theorem cM.stay (x:cM P w H h a o) (k:∀ b u,(b = a ∨ H b = some (.own a)) → h.get? b = some u → h'.get? b = some u)
  (ho:∀ b,H b = some (.own a) → H' b = some (.own a)) (ht:∀ b xs,H b = some (.tup xs) → H' b = some (.tup xs)):cM P w H' h' a o:=by
 induction o with
 | lst xs=>obtain ⟨z,its,n,r,e⟩:=x;exact ⟨z,its,n,r,k _ _ (.inl rfl) e⟩
 | tup xs=>obtain ⟨z,its,r,ob,e,c⟩:=x;exact ⟨z,its,r,ob,k _ _ (.inl rfl) e,c⟩
 | dK kvs=>obtain ⟨z,y,vs,r,ob,es,ep,e,c⟩:=x;exact ⟨z,y,vs,r,ob,es,ep,k _ _ (.inl rfl) e,c⟩
 | dT kvs =>
  obtain ⟨z,y,xs,r,ob,es,ep,e,c⟩:=x
  exact ⟨z,y,xs,Paired.mapP r fun p q z=>⟨z.1,ht _ _ z.2.1,z.2.2⟩,ob,es,ep,k _ _ (.inl rfl) e,c⟩
 | set S n=>obtain ⟨ob,es,ep,t,e,c⟩:=x;exact ⟨ob,es,ep,t,k _ _ (.inl rfl) e,c⟩
 | ins C dx fs =>
  obtain ⟨d,z,ne,e,mA,⟨od,es,ep,e2,c⟩,r⟩:=x
  exact ⟨ho _ d,z,ne,k _ _ (.inl rfl) e,mA,⟨od,es,ep,k _ _ (.inr d) e2,c⟩,r⟩
 | own y=>obtain ⟨ob,e⟩:=x;exact ⟨ob,k _ _ (.inl rfl) e⟩
 | xd fs=>obtain ⟨mA,⟨od,es,ep,e,c⟩,r⟩:=x;exact ⟨mA,⟨od,es,ep,k _ _ (.inl rfl) e,c⟩,r⟩
 | rng lo hi=>obtain ⟨t,u,v,e⟩:=x;exact ⟨t,u,v,k _ _ (.inl rfl) e⟩
 | frz ob u ih=>obtain ⟨e,q⟩:=x;exact ⟨k _ _ (.inl rfl) e,ih q⟩
 | tbl ps =>
  have e:h.get? a = some { cls:=.none,data:=.fields ps }:=x
  show h'.get? a = some { cls:=.none,data:=.fields ps }
  exact k a _ (.inl rfl) e
 | met f y =>
  have e:h.get? a = some (PySem.W.methodObj (.ref f) (.ref y)):=x
  show h'.get? a = some (PySem.W.methodObj (.ref f) (.ref y))
  exact k a _ (.inl rfl) e
 | ext φ=>obtain ⟨p,⟨o,e⟩,st⟩:=x;exact ⟨st _ _ p fun o q=>k _ _ (.inl rfl) q,⟨o,k _ _ (.inl rfl) e⟩,st⟩
theorem HOk.lt (x:HOk P w H h) (e:H a = some o):a < h.objs.size:=(x a o e).lt
theorem HOk.fresh (x:HOk P w H h) (e:h.objs.size ≤ a):H a = none:=by
 cases q:H a with
 | none=>rfl
 | some u=>exact absurd (Nat.lt_of_lt_of_le (x.lt q) e) (Nat.lt_irrefl _)
theorem HOk.kept (x:HOk P w H h) (k:∀ b u,h.get? b = some u → h'.get? b = some u):HOk P w H h':=fun a o e =>
 (x a o e).stay (fun b u _ q=>k b u q) (fun _ q=>q) fun _ _ q=>q
theorem HOk.laid (x:HOk P w H h) (k:∀ b u,h.get? b = some u → h'.get? b = some u) (hp:h.objs.size ≤ a) (new:cM P w (upd H a o) h' a o):HOk P w (upd H a o) h':=fun b u e=>by
 have hn:=x.fresh hp
 by_cases hb:b = a
 ·subst hb;rw [aB] at e;cases e;exact new
 ·rw [aT hb] at e
  exact (x b u e).stay (fun c v _ q=>k c v q) (fun c q=>by rw [aT (aQ q hn)];exact q) fun c xs q=>by rw [aT (aQ q hn)];exact q
end
def Rd (H:Hp) (a:Addr) (u:HO):Prop:=H a = some u ∨ ∃ o,H a = some (.frz o u)
theorem Rd.ok {P:Program} {w:World} {H:Hp} {h:Heap} {a:Addr} {u:HO} (r:Rd H a u) (x:HOk P w H h):cM P w H h a u:=by
 rcases r with r | ⟨o,r⟩
 ·exact x a u r
 ·obtain ⟨_,q⟩:=x a _ r
  exact q
def Mut:Option HO → Prop
 | some (.lst _)=>True
 | some (.dK _)=>True
 | some (.dT _)=>True
 | some (.set _ _)=>True
 | some (.ins _ _ _)=>True
 | some (.ext _)=>True
 | _=>False
section
variable {P:Program} {w:World} {H:Hp} {h h':Heap} {x e:Addr} {o':HO}
theorem HOk.write (ok:HOk P w H h) (mu:Mut (H x)) (he:e = x ∨ H e = some (.own x)) (k:∀ b u,b ≠ e → h.get? b = some u → h'.get? b = some u) (heo:∃ u,h'.get? e = some u)
  (new:cM P w (upd H x o') h' x o'):HOk P w (upd H x o') h':=fun b u q=>by
 have nown:∀ c y,H c = some (.own y) → c ≠ x:=fun c y r z=>by subst z;rw [r] at mu;exact mu
 have ntup:∀ c xs,H c = some (.tup xs) → c ≠ x:=fun c xs r z=>by subst z;rw [r] at mu;exact mu
 by_cases hb:b = x
 ·subst hb;rw [aB] at q;cases q;exact new
 ·rw [aT hb] at q
  by_cases hbe:b = e
  ·have q':H b = some (.own x):=by
    rcases he with z | z
    ·exact absurd (hbe.trans z) hb
    ·rw [hbe];exact z
   rw [q] at q';cases q'
   obtain ⟨v,hv⟩:=heo
   exact ⟨v,by rw [hbe];exact hv⟩
  ·refine (ok b u q).stay (fun c v hc r=>k c v ?_ r) (fun c r=>by rw [aT (nown c b r)];exact r) fun c xs r=>by rw [aT (ntup c xs r)];exact r
   rcases hc with rfl | hc
   ·exact hbe
   ·rintro rfl
    rcases he with z | z
    ·exact nown c b hc z
    ·rw [hc] at z;cases z;exact hb rfl
end
structure Un (fs ex:List Addr) (H H':Hp) (h h':Heap):Prop where
 keep:∀ b o,h.get? b = some o → H b = none → b ∉ fs → b ∉ ex → h'.get? b = some o
 slot:∀ b o,h.get? b = some o → H b = none → b ∈ fs → b ∉ ex → ∃ sl,h'.get? b = some { o with slots:=sl }
 free:∀ b o,h.get? b = some o → H b = none → b ∉ ex → H' b = none
 there:∀ b o,h.get? b = some o → b ∉ ex → ∃ o',h'.get? b = some o'
 tups:∀ b xs,H b = some (.tup xs) → H' b = some (.tup xs)
 frzs:∀ b o u,H b = some (.frz o u) → H' b = some (.frz o u)
 tbls:∀ b ps,H b = some (.tbl ps) → ∃ more,H' b = some (.tbl (ps ++ more))
section
variable {fs fs' ex ex':List Addr} {H H1 H2:Hp} {h h1 h2 h':Heap} {a x e:Addr} {o:HO}
theorem Un.any (u:Un fs ex H H1 h h1) {b:Addr} {ob:Obj} (q:h.get? b = some ob) (n:H b = none) (hx:b ∉ ex):∃ sl,h1.get? b = some { ob with slots:=sl }:=by
 by_cases hb:b ∈ fs
 ·exact u.slot b ob q n hb hx
 ·exact ⟨ob.slots,u.keep b ob q n hb hx⟩
theorem Un.kept (k:∀ b u,h.get? b = some u → h'.get? b = some u):Un fs ex H H h h' :=
 ⟨fun b ob q _ _ _=>k b ob q,fun b ob q _ _ _=>⟨ob.slots,k b ob q⟩,fun _ _ _ n _=>n,fun b ob q _=>⟨ob,k b ob q⟩,fun _ _ q=>q,fun _ _ _ q=>q,fun _ ps q=>⟨#[],by rw [q];simp⟩⟩
theorem Un.refl:Un fs ex H H h h:=Un.kept fun _ _ q=>q
theorem Un.laid (k:∀ b u,h.get? b = some u → h'.get? b = some u) (hp:h.objs.size ≤ a) (hn:H a = none):Un fs ex H (upd H a o) h h' where
 keep:=fun b u q _ _ _=>k b u q
 slot:=fun b u q _ _ _=>⟨u.slots,k b u q⟩
 free:=fun b u q n _=>by rw [aT (Nat.ne_of_lt (Nat.lt_of_lt_of_le (Heap.lt_size q) hp))];exact n
 there:=fun b u q _=>⟨u,k b u q⟩
 tups:=fun b xs q=>by rw [aT (aQ q hn)];exact q
 frzs:=fun b u xs q=>by rw [aT (aQ q hn)];exact q
 tbls:=fun b ps q=>⟨#[],by rw [aT (aQ q hn),q];simp⟩
theorem Un.write (mu:Mut (H x)) (he:e = x ∨ H e = some (.own x)) (k:∀ b u,b ≠ e → h.get? b = some u → h'.get? b = some u) (heo:∃ u,h'.get? e = some u):Un fs ex H (upd H x o) h h':=by
 have hx:∀ b,H b = none → b ≠ x:=fun b n z=>by subst z;rw [n] at mu;exact mu
 have hb:∀ b,H b = none → b ≠ e:=fun b n z=>by
  subst z
  rcases he with r | r
  ·exact hx b n r
  ·rw [n] at r;cases r
 have hm:∀ b u,H b = some u → ¬ Mut (some u) → b ≠ x:=fun b u q nm z=>by subst z;rw [q] at mu;exact nm mu
 refine ⟨fun b u q n _ _=>k b u (hb b n) q,fun b u q n _ _=>⟨u.slots,k b u (hb b n) q⟩,fun b u q n _=>by rw [aT (hx b n)];exact n,fun b u q _=>?_,
  fun b xs q=>by rw [aT (hm b _ q fun z=>z)];exact q,fun b u xs q=>by rw [aT (hm b _ q fun z=>z)];exact q,fun b ps q=>⟨#[],by rw [aT (hm b _ q fun z=>z),q];simp⟩⟩
 by_cases hbe:b = e
 ·subst hbe;exact heo
 ·exact ⟨u,k b u hbe q⟩
end
def trk (h:Heap) (H:Hp):List Addr:=(List.range h.objs.size).filter fun a=>(H a).isSome
def wL (h:Heap) (H:Hp):Heap:=PySem.W.hideAll h (trk h H)
theorem aDF (h:Heap) (H:Hp):(wL h H).objs.size = h.objs.size:=PySem.W.hideAll_size _ _
theorem aGH {h:Heap} {H:Hp} {b:Addr} {o:Obj} (e:h.get? b = some o) (n:H b = none):(wL h H).get? b = some o :=
 PySem.W.hideAll_get _ e fun hm=>by
  have q:(H b).isSome = true:=(List.mem_filter.mp hm).2
  rw [n] at q;simp at q
theorem aIF {h:Heap} {H:Hp} {b:Addr} {o:Obj} (e:(wL h H).get? b = some o):h.get? b = some o ∧ H b = none:=by
 have e':h.get? b = some o:=PySem.W.of_hideAll (trk h H) e
 refine ⟨e',?_⟩
 cases q:H b with
 | none=>rfl
 | some x =>
  have hm:b ∈ trk h H:=List.mem_filter.mpr ⟨List.mem_range.mpr (Heap.lt_size e'),by simp [q]⟩
  have z:(wL h H).get? b = none:=PySem.W.hideAll_none (trk h H) hm
  rw [z] at e;cases e
def aIZ (g h:Heap) (L:Addr):List (Addr × Obj):=(List.range h.objs.size).filterMap fun a=>if a = L ∨ (g.get? a).isSome = true then none else (h.get? a).map fun o=>(a,o)
def rF (g h:Heap) (L d:Addr):List (Addr × Obj):=(aIZ g h L).filter fun p=>decide (p.1 ≠ d)
end L2
namespace L2
open PySem PySem.Spec PyProof.Rows
structure Mod (K:PySem.W.Frag) (mg:Str → Option Value) (base:Heap):Prop where
 kin:K.In base
 glob:base.Ns mainGlobals mg
 blt:∃ mb,base.Ns builtinsNs mb ∧ ∀ x:Str,x ≠ "__name__" → mb x = bootBuiltins x
 nolimit:base.NoLimit
structure Cx where
 prog:Program
 w:World
 K:PySem.W.Frag
 mg:Str → Option Value
 base:Heap
 A:Around
 N:List Str
 s₀:Shared
 H₀:Hp
 env:Env
 outer:List Env
 stack:List Env
 ex:List Addr
 fn:Str → Bool
 calm:Bool
 pn:List (Addr × Obj)
 xe:Value → Shared → Prop
def frs (l:List Env):List Addr:=l.filterMap (·.frame)
abbrev Cx.fs (X:Cx):List Addr:=frs X.outer
def Vis (sc:Scope) (x:Str):Prop:=sc.names.lookup x = some .local ∨ sc.names.lookup x = some .cell ∨ sc.names.lookup x = some .free
def Loc (sc:Scope) (x:Str):Prop:=sc.names.lookup x = some .local ∨ sc.names.lookup x = some .cell
def aOC (env:Env) (h:Heap) (m:Str → Option Value) (x:Str) (u:Value):Prop :=
 (env.kindOf x = some .local ∧ m x = some u) ∨ ((env.kindOf x = some .cell ∨ env.kindOf x = some .free) ∧ ∃ c,env.cells.lookup x = some c ∧ h.IsCell c (some u))
structure Cx.Ok (X:Cx):Prop where
 mod:Mod X.K X.mg X.base
 kind:X.env.scope.kind = .function
 glob:X.env.globals = mainGlobals
 blt:X.env.builtins = builtinsNs
 above:X.s₀.heap.objs.size ≤ X.env.locals
 inj:∀ x y c,X.env.cells.lookup x = some c → X.env.cells.lookup y = some c → x = y
 has:∀ x,(X.env.kindOf x = some .cell ∨ X.env.kindOf x = some .free) → ∃ c,X.env.cells.lookup x = some c
 cab:∀ x c,X.fn x = true → X.env.cells.lookup x = some c → X.s₀.heap.objs.size ≤ c
 hd:X.calm = true → X.A.handled = none
 frames:X.A.frames = some X.stack
 stk:X.stack = X.outer ∨ (X.stack = X.env :: X.outer ∧ X.env.frame = some X.env.locals)
 exf:∀ b ∈ X.ex,b ≠ X.env.locals ∧ ∀ x c,X.env.cells.lookup x = some c → c ≠ b
 bs:∀ b o,X.base.get? b = some o → X.s₀.heap.get? b = some o ∧ X.H₀ b = none
 bsz:X.base.objs.size ≤ X.s₀.heap.objs.size
 noex:∀ b o,X.base.get? b = some o → b ∉ X.ex
 exfs:∀ b ∈ X.ex,b ∉ X.fs
 funs:X.s₀.heap.FunFrames X.base X.outer
 frf:∀ b ∈ X.fs,X.H₀ b = none
structure Inv (X:Cx) (pins:List (Addr × Obj)) (σ:List (Option V)) (H:Hp) (s:Shared):Prop where
 ok:X.Ok
 os:s.os = X.s₀.os
 bare:AllBare s.gens
 base:Un X.fs X.ex X.H₀ H X.s₀.heap s.heap
 loc:∃ m,s.heap.Ns X.env.locals m ∧ ∀ (i:Nat) (x:Str) (v:V),X.N[i]? = some x → σ[i]? = some (some v) → Vis X.env.scope x → ∃ u,bF v u ∧ aOC X.env s.heap m x u
 cell:∀ x c,X.env.cells.lookup x = some c → ∃ v,s.heap.IsCell c v
 free:H X.env.locals = none
 freeC:∀ x c,X.env.cells.lookup x = some c → H c = none
 pin:∀ p ∈ X.pn ++ pins,s.heap.get? p.1 = some p.2 ∧ H p.1 = none ∧ p.1 ≠ X.env.locals ∧ p.1 ∉ X.fs ∧ ∀ v,p.2.data ≠ .cell v
 hok:HOk X.prog X.w H s.heap
 len:σ.length = X.N.length
section
variable {X:Cx} {pins:List (Addr × Obj)} {σ:List (Option V)} {H H':Hp} {s:Shared} {h':Heap}
theorem Cx.Ok.nofr (ok:X.Ok) {b:Addr} {o:Obj} (e:X.base.get? b = some o):b ∉ X.fs:=fun hb=>by
 have:=(ok.funs.mem hb).1
 rw [e] at this;cases this
theorem Inv.bs (I:Inv X pins σ H s):∀ b o,X.base.get? b = some o → s.heap.get? b = some o ∧ H b = none:=fun b o e =>
 ⟨I.base.keep b o (I.ok.bs b o e).1 (I.ok.bs b o e).2 (I.ok.nofr e) (I.ok.noex b o e),I.base.free b o (I.ok.bs b o e).1 (I.ok.bs b o e).2 (I.ok.noex b o e)⟩
theorem Inv.bk (I:Inv X pins σ H s):∀ b o,X.base.get? b = some o → s.heap.get? b = some o:=fun b o e=>(I.bs b o e).1
theorem Inv.mod (I:Inv X pins σ H s):Mod X.K X.mg X.base:=I.ok.mod
theorem Inv.kIn (I:Inv X pins σ H s):X.K.In s.heap:=I.ok.mod.kin.keeps I.bk
theorem Inv.fr (I:Inv X pins σ H s):∃ m,Fr X.base X.env.locals s.heap m :=
 let ⟨m,hn,_⟩:=I.loc
 ⟨m,hn,I.bk,Nat.le_trans I.ok.bsz I.ok.above⟩
theorem Inv.lt (I:Inv X pins σ H s):X.env.locals < s.heap.objs.size:=let ⟨_,hn,_⟩:=I.loc;hn.lt
theorem Inv.sz (I:Inv X pins σ H s):X.s₀.heap.objs.size ≤ s.heap.objs.size:=Nat.le_trans I.ok.above (Nat.le_of_lt I.lt)
theorem Inv.nofs (I:Inv X pins σ H s) {a:Addr} (h:s.heap.objs.size ≤ a):a ∉ X.fs:=fun hb=>by
 obtain ⟨_,o,ho,_⟩:=I.ok.funs.mem hb
 exact absurd (Nat.lt_of_lt_of_le (Heap.lt_size ho) (Nat.le_trans I.sz h)) (Nat.lt_irrefl _)
theorem Inv.cne (I:Inv X pins σ H s):∀ x c,X.env.cells.lookup x = some c → c ≠ X.env.locals:=fun x c e z=>by
 obtain ⟨v,o,ho,hd⟩:=I.cell x c e
 obtain ⟨m,⟨o',es,ep,ho',hd',_⟩,_⟩:=I.loc
 rw [z,ho'] at ho;cases ho;rw [hd'] at hd;cases hd
theorem Inv.funs (I:Inv X pins σ H s):s.heap.FunFrames X.base X.outer:=by
 have all:∀ (l:List Env),(∀ b ∈ frs l,b ∈ X.fs) → X.s₀.heap.FunFrames X.base l → s.heap.FunFrames X.base l:=by
  intro l
  induction l with
  | nil=>intro _ _;trivial
  | cons env r ih =>
   intro hs hl
   obtain ⟨hk,⟨L,o,hf,hn,ho,hd⟩,hr⟩:=hl
   have hL:L ∈ X.fs:=hs L (by unfold frs;rw [List.filterMap_cons,hf];exact List.mem_cons_self)
   obtain ⟨sl,e⟩:=I.base.slot L o ho (I.ok.frf L hL) hL fun z=>I.ok.exfs L z hL
   exact ⟨hk,⟨L,_,hf,hn,e,hd⟩,ih (fun b hb=>hs b (by unfold frs;rw [List.filterMap_cons,hf];exact List.mem_cons_of_mem _ hb)) hr⟩
 exact all X.outer (fun _ hb=>hb) I.ok.funs
theorem Inv.stack (I:Inv X pins σ H s):s.heap.FunFrames X.base X.stack:=by
 rcases I.ok.stk with e | ⟨e,hf⟩
 ·rw [e];exact I.funs
 ·rw [e]
  obtain ⟨m,hn,_⟩:=I.loc
  refine .cons (by rw [I.ok.kind];decide) hf hn ?_ I.funs
  exact Heap.get?_none_of_le (Nat.le_trans I.ok.bsz I.ok.above)
theorem Inv.stkSub (I:Inv X pins σ H s):∀ b ∈ frs X.stack,b ∈ X.env.locals :: X.fs:=fun b hb=>by
 rcases I.ok.stk with e | ⟨e,hf⟩
 ·rw [e] at hb;exact List.mem_cons_of_mem _ hb
 ·rw [e] at hb
  unfold frs at hb
  rw [List.filterMap_cons,hf] at hb
  exact hb
theorem Inv.stkFree (I:Inv X pins σ H s):∀ b ∈ frs X.stack,H b = none:=fun b hb=>by
 rcases List.mem_cons.mp (I.stkSub b hb) with e | hb
 ·rw [e];exact I.free
 ·obtain ⟨_,o,ho,_⟩:=I.ok.funs.mem hb
  exact I.base.free b o ho (I.ok.frf b hb) fun z=>I.ok.exfs b z hb
theorem Inv.step {g':Array GenState} {t':Nat} {d':Drawn} {ch:List Addr} (I:Inv X pins σ H s)
  (hch:∀ b ∈ ch,(b ∈ X.ex ∨ X.s₀.heap.objs.size ≤ b) ∧ b ≠ X.env.locals ∧ (∀ x c,X.env.cells.lookup x = some c → c ≠ b) ∧ ∀ p ∈ X.pn ++ pins,p.1 ≠ b)
  (keep:∀ b o,b ≠ X.env.locals → b ∉ X.fs → b ∉ ch → s.heap.get? b = some o → H b = none → h'.get? b = some o)
  (slot:∀ b o,b ≠ X.env.locals → b ∈ X.fs → b ∉ ch → s.heap.get? b = some o → H b = none → ∃ sl,h'.get? b = some { o with slots:=sl }) (free:∀ b o,b ∉ ch → s.heap.get? b = some o → H b = none → H' b = none)
  (there:∀ b o,b ∉ ch → s.heap.get? b = some o → ∃ o',h'.get? b = some o')
  (tups:∀ b xs,H b = some (.tup xs) → H' b = some (.tup xs)) (frzs:∀ b o u,H b = some (.frz o u) → H' b = some (.frz o u)) (tbls:∀ b ps,H b = some (.tbl ps) → ∃ more,H' b = some (.tbl (ps ++ more)))
  (ns:∀ m,s.heap.Ns X.env.locals m → h'.Ns X.env.locals m) (hok:HOk X.prog X.w H' h') (hg:AllBare g') :
  Inv X pins σ H' { s with heap:=h',gens:=g',drawn:=d',toks:=t' }:=by
 have neL:∀ b o,X.s₀.heap.get? b = some o → b ≠ X.env.locals:=fun b o e=>Nat.ne_of_lt (Nat.lt_of_lt_of_le (Heap.lt_size e) I.ok.above)
 have neC:∀ b o,X.s₀.heap.get? b = some o → b ∉ X.ex → b ∉ ch:=fun b o e hx hb=>by
  rcases (hch b hb).1 with z | z
  ·exact hx z
  ·exact absurd (Nat.lt_of_lt_of_le (Heap.lt_size e) z) (Nat.lt_irrefl _)
 have cellK:∀ x c,X.env.cells.lookup x = some c → ∀ v,s.heap.IsCell c v → h'.IsCell c v:=fun x c e v ⟨o,ho,hd⟩=>by
  have nch:c ∉ ch:=fun z=>(hch c z).2.2.1 x c e rfl
  by_cases hc:c ∈ X.fs
  ·obtain ⟨sl,q⟩:=slot c o (I.cne x c e) hc nch ho (I.freeC x c e)
   exact ⟨_,q,hd⟩
  ·exact ⟨o,keep c o (I.cne x c e) hc nch ho (I.freeC x c e),hd⟩
 refine ⟨I.ok,I.os,hg,⟨fun b o e n hb hx=>?_,fun b o e n hb hx=>?_,fun b o e n hx=>?_,fun b o e hx=>?_,fun b xs e=>tups b xs (I.base.tups b xs e),fun b o xs e=>frzs b o xs (I.base.frzs b o xs e),fun b ps e=>?_⟩,?_,fun x c e=>?_,?_,fun x c e=>?_,fun p hp=>?_,hok,I.len⟩
 ·exact keep b o (neL b o e) hb (neC b o e hx) (I.base.keep b o e n hb hx) (I.base.free b o e n hx)
 ·obtain ⟨sl,e1⟩:=I.base.slot b o e n hb hx
  obtain ⟨sl',e2⟩:=slot b _ (neL b o e) hb (neC b o e hx) e1 (I.base.free b o e n hx)
  exact ⟨sl',e2⟩
 ·obtain ⟨o',e1⟩:=I.base.there b o e hx
  exact free b o' (neC b o e hx) e1 (I.base.free b o e n hx)
 ·obtain ⟨o',e1⟩:=I.base.there b o e hx
  exact there b o' (neC b o e hx) e1
 ·obtain ⟨m1,e1⟩:=I.base.tbls b ps e
  obtain ⟨m2,e2⟩:=tbls b _ e1
  exact ⟨m1 ++ m2,by rw [e2,Array.append_assoc]⟩
 ·obtain ⟨m,hn,hl⟩:=I.loc
  refine ⟨m,ns m hn,fun i x v e1 e2 e3=>?_⟩
  obtain ⟨u,r,l⟩:=hl i x v e1 e2 e3
  refine ⟨u,r,?_⟩
  rcases l with l | ⟨k,c,e,z⟩
  ·exact .inl l
  ·exact .inr ⟨k,c,e,cellK x c e _ z⟩
 ·obtain ⟨v,z⟩:=I.cell x c e
  exact ⟨v,cellK x c e v z⟩
 ·obtain ⟨m,⟨o,_,_,ho,_⟩,_⟩:=I.loc
  exact free _ o (fun z=>(hch _ z).2.1 rfl) ho I.free
 ·obtain ⟨v,o,ho,hd⟩:=I.cell x c e
  exact free c o (fun z=>(hch c z).2.2.1 x c e rfl) ho (I.freeC x c e)
 ·obtain ⟨e,n,ne,nf,d⟩:=I.pin p hp
  have nch:p.1 ∉ ch:=fun z=>(hch p.1 z).2.2.2 p hp rfl
  exact ⟨keep p.1 p.2 ne nf nch e n,free p.1 p.2 nch e n,ne,nf,d⟩
theorem Inv.un {t':Nat} (I:Inv X pins σ H s) (u:Un X.fs [] H H' s.heap h') (hok:HOk X.prog X.w H' h'):Inv X pins σ H' { s with heap:=h',toks:=t' }:=by
 obtain ⟨m,⟨o,es,ep,ho,r⟩,_⟩:=id I.loc
 obtain ⟨sl,hL⟩:=u.any ho I.free (by simp)
 exact I.step (g':=s.gens) (d':=s.drawn) (ch:=[]) (fun _ z=>nomatch z) (fun b o _ hb _ e n=>u.keep b o e n hb (by simp)) (fun b o _ hb _ e n=>u.slot b o e n hb (by simp)) (fun b o _ e n=>u.free b o e n (by simp)) (fun b o _ e=>u.there b o e (by simp)) u.tups u.frzs u.tbls (fun m' hm=>by
  obtain ⟨o',es',ep',ho',r'⟩:=hm
  rw [ho] at ho';cases ho'
  exact ⟨_,es',ep',hL,r'⟩) hok I.bare
theorem Inv.call {g':Array GenState} {t':Nat} {d':Drawn} {ch:List Addr} (I:Inv X pins σ H s) (u:Un (frs X.stack) ch H H' s.heap h') (hok:HOk X.prog X.w H' h') (hg:AllBare g')
  (hch:∀ b ∈ ch,(b ∈ X.ex ∨ X.s₀.heap.objs.size ≤ b) ∧ b ≠ X.env.locals ∧ (∀ x c,X.env.cells.lookup x = some c → c ≠ b) ∧ ∀ p ∈ X.pn ++ pins,p.1 ≠ b) :
  Inv X pins σ H' { s with heap:=h',gens:=g',drawn:=d',toks:=t' }:=by
 obtain ⟨m,⟨o,es,ep,ho,r⟩,_⟩:=id I.loc
 obtain ⟨sl,hL⟩:=u.any ho I.free fun z=>(hch _ z).2.1 rfl
 exact I.step (ch:=ch) hch (fun b o hL hb hc e n=>u.keep b o e n (fun z=>(List.mem_cons.mp (I.stkSub b z)).elim hL hb) hc) (fun b o _ _ hc e n=>u.any e n hc) (fun b o hc e n=>u.free b o e n hc) (fun b o hc e=>u.there b o e hc) u.tups u.frzs u.tbls (fun m' hm=>by
  obtain ⟨o',es',ep',ho',r'⟩:=hm
  rw [ho] at ho';cases ho'
  exact ⟨_,es',ep',hL,r'⟩) hok hg
theorem Inv.turned {t':Nat} {it:Addr} (I:Inv X pins σ H s) (k:∀ b o,b ≠ it → s.heap.get? b = some o → h'.get? b = some o) (hn:H it = none) (hL:it ≠ X.env.locals)
  (h1:it ∈ X.ex ∨ X.s₀.heap.objs.size ≤ it) (h2:∀ x c,X.env.cells.lookup x = some c → c ≠ it) (h3:∀ p ∈ X.pn ++ pins,p.1 ≠ it):Inv X pins σ H { s with heap:=h',toks:=t' }:=by
 have nit:∀ b u,H b = some u → b ≠ it:=fun b u e z=>by rw [z,hn] at e;cases e
 refine I.step (g':=s.gens) (d':=s.drawn) (ch:=[it]) (fun b hb=>?_) (fun b o _ _ hc e _=>k b o (fun z=>hc (by simp [z])) e) (fun b o _ _ hc e _=>⟨o.slots,k b o (fun z=>hc (by simp [z])) e⟩) (fun _ _ _ _ n=>n)
  (fun b o hc e=>⟨o,k b o (fun z=>hc (by simp [z])) e⟩) (fun _ _ e=>e) (fun _ _ _ e=>e) (fun b ps e=>⟨#[],by rw [e];simp⟩) (fun m hm=>?_) (fun b u e=>?_) I.bare
 ·have e:b = it:=by simpa using hb
  subst e
  exact ⟨h1,hL,h2,h3⟩
 ·obtain ⟨o,es,ep,ho,r⟩:=hm
  exact ⟨o,es,ep,k _ o (Ne.symm hL) ho,r⟩
 ·refine (I.hok b u e).stay (fun c v hc q=>k c v ?_ q) (fun _ q=>q) fun _ _ q=>q
  rcases hc with z | z
  ·rw [z];exact nit b u e
  ·exact nit c _ z
theorem Inv.tok (I:Inv X pins σ H s) (t:Nat):Inv X pins σ H { s with toks:=t }:=I.un (h':=s.heap) (t':=t) Un.refl I.hok
theorem Inv.kept {t':Nat} (I:Inv X pins σ H s) (k:∀ b u,s.heap.get? b = some u → h'.get? b = some u):Inv X pins σ H { s with heap:=h',toks:=t' }:=I.un (Un.kept k) (I.hok.kept k)
theorem Inv.laid {a:Addr} {o:HO} {t':Nat} (I:Inv X pins σ H s) (k:∀ b u,s.heap.get? b = some u → h'.get? b = some u) (hp:s.heap.objs.size ≤ a) (new:cM X.prog X.w (upd H a o) h' a o) :
  Inv X pins σ (upd H a o) { s with heap:=h',toks:=t' }:=I.un (Un.laid k hp (I.hok.fresh hp)) (I.hok.laid k hp new)
theorem Inv.write {x e:Addr} {o:HO} {t':Nat} (I:Inv X pins σ H s) (mu:Mut (H x)) (he:e = x ∨ H e = some (.own x)) (k:∀ b u,b ≠ e → s.heap.get? b = some u → h'.get? b = some u) (heo:∃ u,h'.get? e = some u)
  (new:cM X.prog X.w (upd H x o) h' x o):Inv X pins σ (upd H x o) { s with heap:=h',toks:=t' }:=I.un (Un.write mu he k heo) (I.hok.write mu he k heo new)
theorem Inv.weak {σ':List (Option V)} (I:Inv X pins σ H s) (hl:σ'.length = σ.length) (w:∀ (i:Nat) v,σ'[i]? = some (some v) → σ[i]? = some (some v)):Inv X pins σ' H s :=
 ⟨I.ok,I.os,I.bare,I.base,let ⟨m,hn,hl'⟩:=I.loc;⟨m,hn,fun i x v e1 e2 e3=>hl' i x v e1 (w i v e2) e3⟩,I.cell,I.free,I.freeC,I.pin,I.hok,hl.trans I.len⟩
theorem Inv.pins_of {pins':List (Addr × Obj)} (I:Inv X pins σ H s) (h:∀ p ∈ pins',s.heap.get? p.1 = some p.2 ∧ H p.1 = none ∧ p.1 ≠ X.env.locals ∧ p.1 ∉ X.fs ∧ ∀ v,p.2.data ≠ .cell v):Inv X pins' σ H s :=
 ⟨I.ok,I.os,I.bare,I.base,I.loc,I.cell,I.free,I.freeC,fun p hp=>(List.mem_append.mp hp).elim (fun z=>I.pin p (List.mem_append_left _ z)) (h p),I.hok,I.len⟩
theorem tD {N:List Str} (hN:N.Nodup) {i j:Nat} {x:Str} (a:N[i]? = some x) (b:N[j]? = some x):i = j:=by
 obtain ⟨h1,e1⟩:=List.getElem?_eq_some_iff.mp a
 obtain ⟨h2,e2⟩:=List.getElem?_eq_some_iff.mp b
 exact (List.getElem_inj hN).mp (e1.trans e2.symm)
theorem aCH {M:Model} {A:Around} {E:Value → Shared → Prop} {i:Nat} {x:Str} {v:V} {u:Value} {Q:Unit → Shared → Prop} (I:Inv X pins σ H s) (hN:X.N.Nodup) (hi:X.N[i]? = some x) (hx:Loc X.env.scope x) (r:bF v u)
  (h:∀ s',Inv X pins (σ.set i (some v)) H s' → (∃ a,Heap.SameBut a s.heap s'.heap ∧ (a = X.env.locals ∨ X.env.cells.lookup x = some a)) → Q () s') (hf:X.fn x = true ∨ X.env.scope.names.lookup x = some .local:=by first | exact .inl rfl | exact .inr rfl | assumption):wpAny M A (storeName X.env x u) Q E s:=by
 obtain ⟨m,hn,hl⟩:=id I.loc
 have hcls:(X.env.scope.kind == .class || (X.env.scope.kind == .module && X.env.locals != X.env.globals)) = false:=by rw [I.ok.kind];rfl
 have hiσ:i < σ.length:=by rw [I.len];exact (List.getElem?_eq_some_iff.mp hi).1
 have cne:=I.cne
 have tracked:∀ {a:Addr} {h':Heap},(∃ o,s.heap.get? a = some o ∧ H a = none) → Heap.SameBut a s.heap h' → HOk X.prog X.w H h':=fun {a h'} ha hs b ob e=>by
  obtain ⟨_,_,hfree⟩:=ha
  refine (I.hok b ob e).stay (fun c w' hc q=>(hs.2 c ?_).trans q) (fun _ q=>q) fun _ _ q=>q
  rintro rfl
  rcases hc with rfl | hc
  ·rw [hfree] at e;cases e
  ·rw [hfree] at hc;cases hc
 rcases hx with hk | hk
 ·refine wpAny_storeName_local hk hn (fun h' hn' hs=>?_) hcls
  obtain ⟨oL,_,_,hoL,_⟩:=id hn
  refine h _ ⟨I.ok,I.os,I.bare,⟨fun b o e n hb hx=>?_,fun b o e n hb hx=>?_,I.base.free,fun b o e hx=>?_,I.base.tups,I.base.frzs,I.base.tbls⟩,⟨_,hn',fun j y v' e1 e2 e3=>?_⟩,fun y c e=>?_,I.free,I.freeC,fun p hp=>?_,tracked ⟨oL,hoL,I.free⟩ hs,by simpa using I.len⟩ ⟨_,hs,.inl rfl⟩
  ·exact (hs.2 b (Nat.ne_of_lt (Nat.lt_of_lt_of_le (Heap.lt_size e) I.ok.above))).trans (I.base.keep b o e n hb hx)
  ·obtain ⟨sl,e1⟩:=I.base.slot b o e n hb hx
   exact ⟨sl,(hs.2 b (Nat.ne_of_lt (Nat.lt_of_lt_of_le (Heap.lt_size e) I.ok.above))).trans e1⟩
  ·obtain ⟨o',e1⟩:=I.base.there b o e hx
   exact ⟨o',(hs.2 b (Nat.ne_of_lt (Nat.lt_of_lt_of_le (Heap.lt_size e) I.ok.above))).trans e1⟩
  ·by_cases hj:j = i
   ·subst hj
    rw [hi] at e1;cases e1
    rw [List.getElem?_set_self hiσ] at e2
    cases e2
    exact ⟨u,r,.inl ⟨hk,by simp⟩⟩
   ·rw [List.getElem?_set_ne (Ne.symm hj)] at e2
    obtain ⟨u',r',q⟩:=hl j y v' e1 e2 e3
    refine ⟨u',r',?_⟩
    rcases q with ⟨k,e⟩ | ⟨k,c,e,z⟩
    ·refine .inl ⟨k,?_⟩
     have:y ≠ x:=fun e=>hj (tD hN e1 (e ▸ hi))
     simp [this,e]
    ·exact .inr ⟨k,c,e,z.sameBut hs (cne y c e)⟩
  ·obtain ⟨w',z⟩:=I.cell y c e
   exact ⟨w',z.sameBut hs (cne y c e)⟩
  ·obtain ⟨e,n,ne,nf,d⟩:=I.pin p hp
   exact ⟨(hs.2 p.1 ne).trans e,n,ne,nf,d⟩
 ·have hfn:X.fn x = true:=by
   rcases hf with z | z
   ·exact z
   ·rw [z] at hk;cases hk
  obtain ⟨c,hc⟩:=I.ok.has x (.inl hk)
  obtain ⟨w',z⟩:=I.cell x c hc
  refine wpAny_storeName_cell I.ok.kind hk hc z (fun h' hc' hs=>?_)
  obtain ⟨oc,hoc,hocd⟩:=id z
  refine h { s with heap:=h' } ⟨I.ok,I.os,I.bare,⟨fun b o e n hb hx=>?_,fun b o e n hb hx=>?_,I.base.free,fun b o e hx=>?_,I.base.tups,I.base.frzs,I.base.tbls⟩,⟨m,hn.sameBut hs (Ne.symm (cne x c hc)),fun j y v' e1 e2 e3=>?_⟩,fun y c' e=>?_,I.free,I.freeC,fun p hp=>?_,tracked ⟨oc,hoc,I.freeC x c hc⟩ hs,by simpa using I.len⟩ ⟨c,hs,.inr hc⟩
  ·exact (hs.2 b (Nat.ne_of_lt (Nat.lt_of_lt_of_le (Heap.lt_size e) (I.ok.cab x c hfn hc)))).trans (I.base.keep b o e n hb hx)
  ·obtain ⟨sl,e1⟩:=I.base.slot b o e n hb hx
   exact ⟨sl,(hs.2 b (Nat.ne_of_lt (Nat.lt_of_lt_of_le (Heap.lt_size e) (I.ok.cab x c hfn hc)))).trans e1⟩
  ·obtain ⟨o',e1⟩:=I.base.there b o e hx
   exact ⟨o',(hs.2 b (Nat.ne_of_lt (Nat.lt_of_lt_of_le (Heap.lt_size e) (I.ok.cab x c hfn hc)))).trans e1⟩
  ·by_cases hj:j = i
   ·subst hj
    rw [hi] at e1;cases e1
    rw [List.getElem?_set_self hiσ] at e2
    cases e2
    exact ⟨u,r,.inr ⟨.inl hk,c,hc,hc'⟩⟩
   ·rw [List.getElem?_set_ne (Ne.symm hj)] at e2
    obtain ⟨u',r',q⟩:=hl j y v' e1 e2 e3
    refine ⟨u',r',?_⟩
    rcases q with q | ⟨k,c',e,z'⟩
    ·exact .inl q
    ·refine .inr ⟨k,c',e,z'.sameBut hs ?_⟩
     rintro rfl
     exact hj (tD hN e1 (I.ok.inj _ _ _ e hc ▸ hi))
  ·by_cases hcc:c' = c
   ·subst hcc;exact ⟨_,hc'⟩
   ·obtain ⟨w2,z2⟩:=I.cell y c' e
    exact ⟨w2,z2.sameBut hs hcc⟩
  ·obtain ⟨e,n,ne,nf,d⟩:=I.pin p hp
   refine ⟨(hs.2 p.1 ?_).trans e,n,ne,nf,d⟩
   intro q
   rw [q,hoc] at e
   have q':oc = p.2:=Option.some.inj e
   exact d w' (by rw [← q'];exact hocd)
theorem rV {M:Model} {A:Around} {E:Value → Shared → Prop} {i:Nat} {x:Str} {v:V} {u:Value} {Q:Unit → Shared → Prop} (I:Inv X pins σ H s) (hN:X.N.Nodup) (hi:X.N[i]? = some x) (hx:Loc X.env.scope x) (r:bF v u)
  (h:∀ s',Inv X pins (σ.set i (some v)) H s' → Q () s') (hf:X.fn x = true ∨ X.env.scope.names.lookup x = some .local:=by first | exact .inl rfl | exact .inr rfl | assumption):wpAny M A (storeName X.env x u) Q E s :=
 aCH I hN hi hx r (fun s' I' _=>h s' I') hf
theorem Inv.call' {s':Shared} {ch:List Addr} (I:Inv X pins σ H s) (ho:s'.os = s.os) (u:Un (frs X.stack) ch H H' s.heap s'.heap) (hok:HOk X.prog X.w H' s'.heap) (hg:AllBare s'.gens)
  (hch:∀ b ∈ ch,(b ∈ X.ex ∨ X.s₀.heap.objs.size ≤ b) ∧ b ≠ X.env.locals ∧ (∀ x c,X.env.cells.lookup x = some c → c ≠ b) ∧ ∀ p ∈ X.pn ++ pins,p.1 ≠ b):Inv X pins σ H' s':=by
 obtain ⟨h',g',d',t',o'⟩:=s'
 have e:o' = s.os:=ho
 subst e
 exact I.call (g':=g') (t':=t') (d':=d') u hok hg hch
end
abbrev XK:=Value → Option Addr → Hp → Prop
abbrev St:=List (Option V)
abbrev VK:=V → Hp → Prop
abbrev TE:=St → Hp → VK → Prop
abbrev TT:=St → Hp → (Bool → Hp → Prop) → Prop
abbrev TA:=St → Hp → (List V → Hp → Prop) → Prop
structure Ends where
 nx:St → Hp → Prop
 rt:VK
 bk:St → Hp → Prop:=fun _ _=>False
 ct:St → Hp → Prop:=fun _ _=>False
abbrev TS:=Ends → St → Hp → Prop
def EP (X:Cx) (pins:List (Addr × Obj)) (σ:St) (Q:VK) (u:Value) (s':Shared):Prop:=∃ v H',Inv X pins σ H' s' ∧ bF v u ∧ Q v H'
def TP (X:Cx) (pins:List (Addr × Obj)) (σ:St) (Q:Bool → Hp → Prop) (b:Bool) (s':Shared):Prop:=∃ H',Inv X pins σ H' s' ∧ Q b H'
def AP (X:Cx) (pins:List (Addr × Obj)) (σ:St) (Q:List V → Hp → Prop) (us:List Value) (s':Shared):Prop:=∃ vs H',Inv X pins σ H' s' ∧ bH vs us ∧ Q vs H'
def SP (X:Cx) (pins:List (Addr × Obj)) (D:Ends) (f:Flow) (s':Shared):Prop :=
 match f with
 | .next=>∃ σ' H',Inv X pins σ' H' s' ∧ D.nx σ' H'
 | .brk=>∃ σ' H',Inv X pins σ' H' s' ∧ D.bk σ' H'
 | .cont=>∃ σ' H',Inv X pins σ' H' s' ∧ D.ct σ' H'
 | .ret u=>∃ v σ' H',Inv X pins σ' H' s' ∧ bF v u ∧ D.rt v H'
def PE (X:Cx) (e:Expr) (t:TE):Prop :=
 ∀ (pins:List (Addr × Obj)) (s:Shared) (σ:St) (H:Hp) (Q:VK),Inv X pins σ H s → t σ H Q → wpAny (model X.prog X.w) X.A (eval e X.env) (EP X pins σ Q) X.xe s
def PT (X:Cx) (e:Expr) (t:TT):Prop :=
 ∀ (pins:List (Addr × Obj)) (s:Shared) (σ:St) (H:Hp) (Q:Bool → Hp → Prop),Inv X pins σ H s → t σ H Q → wpAny (model X.prog X.w) X.A (isTrue e X.env (eval e X.env)) (TP X pins σ Q) X.xe s
def PW (X:Cx) (e:Expr) (t:TT):Prop :=
 ∀ (whole:Sem Value) (pins:List (Addr × Obj)) (s:Shared) (σ:St) (H:Hp) (Q:Bool → Hp → Prop),Inv X pins σ H s → t σ H Q → wpAny (model X.prog X.w) X.A (isTrue e X.env whole) (TP X pins σ Q) X.xe s
theorem PW.pt {X:Cx} {e:Expr} {t:TT} (h:PW X e t):PT X e t:=h _
def PA (X:Cx) (es:List Expr) (t:TA):Prop :=
 ∀ (pos:Pos) (pins:List (Addr × Obj)) (s:Shared) (σ:St) (H:Hp) (Q:List V → Hp → Prop),Inv X pins σ H s → t σ H Q → wpAny (model X.prog X.w) X.A (spliced (backTo pos (starEach es X.env))) (AP X pins σ Q) X.xe s
def PS (X:Cx) (st:Stmt) (t:TS):Prop :=
 ∀ (pins:List (Addr × Obj)) (s:Shared) (σ:St) (H:Hp) (D:Ends),Inv X pins σ H s → t D σ H → wpAny (model X.prog X.w) X.A (exec st X.env) (SP X pins D) X.xe s
def PSs (X:Cx) (st:List Stmt) (t:TS):Prop :=
 ∀ (pins:List (Addr × Obj)) (s:Shared) (σ:St) (H:Hp) (D:Ends),Inv X pins σ H s → t D σ H → wpAny (model X.prog X.w) X.A (execs st X.env) (SP X pins D) X.xe s
theorem thn {α:Type} {t:Sem α} {Q Q':α → Shared → Prop} {M:Model} {A:Around} {E:Value → Shared → Prop} {s:Shared} (h:wpAny M A t Q E s) (hQ:∀ a s,Q a s → Q' a s):wpAny M A t Q' E s:=wpAny_mono h hQ fun _ _ x=>x
end L2
namespace L2
open PySem PySem.Spec PyProof.Rows
section
variable {X:Cx}
def aLK (i:Nat):TE:=fun σ H Q=>∃ v,σ[i]? = some (some v) ∧ Q v H
def tC (v:V):TE:=fun _ H Q=>Q v H
theorem aKJ {i:Nat} {x:Str} {pos:Pos} (hN:X.N[i]? = some x) (hv:Vis X.env.scope x) (hd:(x == ("__debug__":Str)) = false:=by decide) (hcd:(x == ("__classdict__":Str)) = false:=by decide):PE X (.Name x pos) (aLK i):=by
 intro pins s σ H Q I h
 obtain ⟨v,e,h⟩:=h
 obtain ⟨m,hn,hl⟩:=I.loc
 obtain ⟨u,r,l⟩:=hl i x v hN e hv
 have fin:EP X pins σ Q u s:=⟨v,H,I,r,h⟩
 rcases l with ⟨hk,hm⟩ | ⟨hk,c,hc,hcell⟩
 ·exact wpAny_Name (wpAny_loadName_local I.ok.kind hk hn hm fin) hd
 ·rcases hk with hk | hk
  ·exact wpAny_Name (wpAny_loadName_cell I.ok.kind hk hc hcell fin) hd
  ·exact wpAny_Name (wpAny_loadName_free I.ok.kind hk hc hcell fin hcd) hd
theorem aE {i j pos}:PE X (.Constant (.int i) j pos) (tC (.int i)):=fun _ _ _ H _ I h=>wpAny_Constant_int ⟨.int i,H,I.tok _,⟨_,rfl⟩,h⟩
theorem gS {b j pos}:PE X (.Constant (.bool b) j pos) (tC (.bl b)):=fun _ _ _ H _ I h=>Constant_bool ⟨.bl b,H,I,rfl,h⟩
theorem jX {j pos}:PE X (.Constant .none j pos) (tC .non):=fun _ _ _ H _ I h=>Constant_none ⟨.non,H,I,rfl,h⟩
theorem bJ {x j pos}:PE X (.Constant (.str x) j pos) (tC (.str x)):=fun _ _ _ H _ I h=>Calls.Constant_str ⟨.str x,H,I.tok _,⟨_,rfl⟩,h⟩
def Gl (X:Cx) (x:Str):Prop:=X.env.kindOf x = some .globalImplicit
theorem nR {E:Value → Shared → Prop} {pins:List (Addr × Obj)} {s:Shared} {σ:St} {H:Hp} {x:Str} {u:Value} {pos:Pos} {Q:Value → Shared → Prop} (I:Inv X pins σ H s) (hg:Gl X x) (hm:X.mg x = some u) (h:Q u s)
  (hd:(x == ("__debug__":Str)) = false:=by decide):wpAny (model X.prog X.w) X.A (eval (.Name x pos) X.env) Q E s :=
 Calls.Name_function_global I.ok.kind hg (Calls.loadGlobal_global (by rw [I.ok.glob];exact I.mod.glob.keeps I.bk) hm h) hd
theorem wJ {E:Value → Shared → Prop} {pins:List (Addr × Obj)} {s:Shared} {σ:St} {H:Hp} {x:Str} {u:Value} {pos:Pos} {Q:Value → Shared → Prop} (I:Inv X pins σ H s) (hg:Gl X x) (hm:X.mg x = none) (hv:bootBuiltins x = some u) (h:Q u s)
  (hn:x ≠ "__name__":=by decide) (hd:(x == ("__debug__":Str)) = false:=by decide):wpAny (model X.prog X.w) X.A (eval (.Name x pos) X.env) Q E s:=by
 obtain ⟨mb,h1,h2⟩:=I.mod.blt
 exact Calls.Name_function_global I.ok.kind hg (Calls.loadGlobal_builtin (by rw [I.ok.glob];exact I.mod.glob.keeps I.bk) hm (by rw [I.ok.blt];exact h1.keeps I.bk) ((h2 x hn).trans hv) h) hd
theorem jP {x:Str} {v:V} {u:Value} {pos:Pos} (hg:Gl X x) (hm:X.mg x = some u) (r:bF v u) (hd:(x == ("__debug__":Str)) = false:=by decide):PE X (.Name x pos) (tC v) :=
 fun _ _ _ H _ I h=>nR I hg hm ⟨v,H,I,r,h⟩ hd
theorem aIC {x:Str} {v:V} {u:Value} {pos:Pos} (hg:Gl X x) (hm:X.mg x = none) (hv:bootBuiltins x = some u) (r:bF v u) (hn:x ≠ "__name__":=by decide) (hd:(x == ("__debug__":Str)) = false:=by decide):PE X (.Name x pos) (tC v) :=
 fun _ _ _ H _ I h=>wJ I hg hm hv ⟨v,H,I,r,h⟩ hn hd
def t2I (ta tb:TE) (k:Int → Int → Hp → Prop):St → Hp → Prop:=fun σ H=>ta σ H fun x H1=>tb σ H1 fun y H2=>∃ i j,x = .int i ∧ y = .int j ∧ k i j H2
variable {a b:Expr} {ta tb:TE} {pos:Pos}
def PC (X:Cx) (op:CmpOp) (a b:Expr) (t:TE):Prop :=
 ∀ (pins:List (Addr × Obj)) (s:Shared) (σ:St) (H:Hp) (Q:VK),Inv X pins σ H s → t σ H Q →
  wpAny (model X.prog X.w) X.A (eval a X.env) (fun v s₁=>wpAny (model X.prog X.w) X.A (eval b X.env) (fun u s₂=>wpAny (model X.prog X.w) X.A (compareOp op v u) (EP X pins σ Q) X.xe s₂) X.xe s₁) X.xe s
def tCmp (p:Int → Int → Bool) (ta tb:TE):TE:=fun σ H Q=>t2I ta tb (fun i j H2=>Q (.bl (p i j)) H2) σ H
def tB (t:TE):TT:=fun σ H Q=>t σ H fun x H1=>∃ c,x = .bl c ∧ Q c H1
theorem aKG {op:CmpOp} {t:TE} (h:PC X op a b t) (h1:behindInMarks op b = false:=by first | exact nobehind _ (by decide) (by decide) | rfl):PT X (.Compare a [op] [b] pos) (tB t):=by
 intro pins s σ H Q I hw
 refine wpAny_isTrue_Compare1 (thn (h pins s σ H _ I hw) fun v s1 h1=>thn h1 fun u s2 h2=>thn h2 fun c s3 ⟨x,H1,I1,r1,q1⟩=>?_) h1
 obtain ⟨d,rfl,q⟩:=q1
 cases r1
 exact wpAny_truthy_bool ⟨H1,I1,q⟩
theorem cB {e:Expr} {t:TE} (h:PE X e t) (he:∀ whole,isTrue e X.env whole = (do let v ← whole;standAt e.pos;holding [v] (truthy v)):=by intro _;rfl):PT X e (tB t):=by
 intro pins s σ H Q I hw
 refine isTrue_plain (thn (h pins s σ H _ I hw) fun v s1 ⟨x,H1,I1,r1,q1⟩=>?_) (he _)
 obtain ⟨d,rfl,q⟩:=q1
 cases r1
 exact wpAny_truthy_bool ⟨H1,I1,q⟩
variable {tA tB':TT} {rF:List Expr}
def aNL (t u:TT):TT:=fun σ H Q=>t σ H fun c H1=>if c = true then u σ H1 Q else Q false H1
def tOr (t u:TT):TT:=fun σ H Q=>t σ H fun c H1=>if c = true then Q true H1 else u σ H1 Q
def aNF (t:TT):TT:=fun σ H Q=>t σ H fun c H1=>Q (!c) H1
theorem aHV (ha:PT X a tA):PW X (.BoolOp .And [a] pos) tA:=by
 intro wh pins s σ H Q I h
 refine isTrue_and (thn (ha pins s σ H Q I h) fun c s1 e=>?_)
 cases c with
 | true=>exact isTrue_and_nil e
 | false=>exact e
theorem jG (ha:PT X a tA):PW X (.BoolOp .Or [a] pos) tA:=by
 intro wh pins s σ H Q I h
 refine isTrue_or (thn (ha pins s σ H Q I h) fun c s1 e=>?_)
 cases c with
 | false=>exact isTrue_or_nil e
 | true=>exact e
theorem aKF (ha:PT X a tA) (hb:PW X (.BoolOp .And (b :: rF) pos) tB'):PW X (.BoolOp .And (a :: b :: rF) pos) (aNL tA tB'):=by
 intro wh pins s σ H Q I h
 refine isTrue_and (thn (ha pins s σ H _ I h) fun c s1 ⟨H1,I1,q1⟩=>?_)
 cases c with
 | true=>exact hb wh pins s1 σ H1 Q I1 q1
 | false=>exact ⟨H1,I1,q1⟩
theorem kJ (ha:PT X a tA) (hb:PW X (.BoolOp .Or (b :: rF) pos) tB'):PW X (.BoolOp .Or (a :: b :: rF) pos) (tOr tA tB'):=by
 intro wh pins s σ H Q I h
 refine isTrue_or (thn (ha pins s σ H _ I h) fun c s1 ⟨H1,I1,q1⟩=>?_)
 cases c with
 | true=>exact ⟨H1,I1,q1⟩
 | false=>exact hb wh pins s1 σ H1 Q I1 q1
theorem cU (ha:PT X a tA):PT X (.UnaryOp .Not a pos) (aNF tA):=by
 intro pins s σ H Q I h
 exact isTrue_not (ha pins s σ H (fun c H1=>Q (!c) H1) I h)
def aLT (ta tb:TE):TE:=fun σ H Q=>ta σ H fun x H1=>∃ c,x = .bl c ∧ if c = true then tb σ H1 Q else Q (.bl false) H1
def aNE (ta tb:TE):TE:=fun σ H Q=>ta σ H fun x H1=>∃ c,x = .bl c ∧ if c = true then Q (.bl true) H1 else tb σ H1 Q
def aLO (ta:TE):TE:=fun σ H Q=>ta σ H fun x H1=>∃ c,x = .bl c ∧ Q (.bl (!c)) H1
theorem dE {op} {t:TE} (h:PE X a t):PE X (.BoolOp op [a] pos) t:=fun pins s σ H Q I hw=>BoolOp_one (h pins s σ H Q I hw)
theorem cI (ha:PE X a ta) (hb:PE X (.BoolOp .And (b :: rF) pos) tb):PE X (.BoolOp .And (a :: b :: rF) pos) (aLT ta tb):=by
 intro pins s σ H Q I h
 refine BoolOp_and (thn (ha pins s σ H _ I h) fun v s1 ⟨x,H1,I1,r1,q1⟩=>?_)
 obtain ⟨c,rfl,q1⟩:=q1
 cases r1
 refine wpAny_truthy_bool ?_
 cases c with
 | true=>exact hb pins s1 σ H1 Q I1 q1
 | false=>exact ⟨.bl false,H1,I1,rfl,q1⟩
theorem aME (ha:PE X a ta) (hb:PE X (.BoolOp .Or (b :: rF) pos) tb):PE X (.BoolOp .Or (a :: b :: rF) pos) (aNE ta tb):=by
 intro pins s σ H Q I h
 refine BoolOp_or (thn (ha pins s σ H _ I h) fun v s1 ⟨x,H1,I1,r1,q1⟩=>?_)
 obtain ⟨c,rfl,q1⟩:=q1
 cases r1
 refine wpAny_truthy_bool ?_
 cases c with
 | false=>exact hb pins s1 σ H1 Q I1 q1
 | true=>exact ⟨.bl true,H1,I1,rfl,q1⟩
theorem zN (ha:PE X a ta):PE X (.UnaryOp .Not a pos) (aLO ta):=by
 intro pins s σ H Q I h
 refine UnaryOp_ (thn (ha pins s σ H _ I h) fun v s1 ⟨x,H1,I1,r1,q1⟩=>?_)
 obtain ⟨c,rfl,q1⟩:=q1
 cases r1
 exact not_of (wpAny_truthy_bool ⟨.bl (!c),H1,I1,rfl,q1⟩)
def tIf (t:TT) (ta tb:TE):TE:=fun σ H Q=>t σ H fun c H1=>if c = true then ta σ H1 Q else tb σ H1 Q
theorem aFO {c:Expr} (hc:PT X c tA) (ha:PE X a ta) (hb:PE X b tb):PE X (.IfExp c a b pos) (tIf tA ta tb):=by
 intro pins s σ H Q I h
 refine wpAny_IfExp (thn (hc pins s σ H _ I h) fun d s1 ⟨H1,I1,q1⟩=>?_)
 cases d with
 | true=>exact ha pins s1 σ H1 Q I1 q1
 | false=>exact hb pins s1 σ H1 Q I1 q1
end
end L2
namespace L2
open PySem PySem.Spec PyProof.Rows
def SqL (K:PySem.W.Frag) (H:Hp) (a:Addr) (xs:List V):Prop :=
 Rd H a (.lst xs) ∨
  ∃ (o:Obj) (its:Array Value) (n:Nat),K.lookup a = some o ∧ o.cls = .type "list" ∧ o.dict = none ∧ o.data = .seq its n ∧ its.size ≤ sizeLine ∧ bH xs its.toList
def SqT (K:PySem.W.Frag) (H:Hp) (a:Addr) (xs:List V):Prop :=
 Rd H a (.tup xs) ∨
  ∃ (o:Obj) (its:Array Value) (n:Nat),K.lookup a = some o ∧ o.cls = .type "tuple" ∧ o.data = .seq its n ∧ its.size ≤ sizeLine ∧ bH xs its.toList
def aOB:Value → Option V
 | .none=>some .non
 | .bool b=>some (.bl b)
 | .int i _=>some (.int i)
 | .str x _=>some (.str x)
 | .bytes b _=>some (.byt b)
 | .float b _=>some (.flt b)
 | .ref a=>some (.ref a)
 | .type n=>some (.ty n)
 | _=>none
theorem bF.abs {x:V} {u:Value} (r:bF x u):aOB u = some x:=by
 cases x with
 | non=>cases r;rfl
 | bl _=>cases r;rfl
 | int _=>obtain ⟨t,rfl⟩:=r;rfl
 | str _=>obtain ⟨t,rfl⟩:=r;rfl
 | byt _=>obtain ⟨t,rfl⟩:=r;rfl
 | flt _=>obtain ⟨t,rfl⟩:=r;rfl
 | ref _=>cases r;rfl
 | ty _=>cases r;rfl
theorem bF.inj {x y:V} {u:Value} (r:bF x u) (q:bF y u):x = y:=Option.some.inj (r.abs.symm.trans q.abs)
theorem bH.inj:∀ {xs ys:List V} {us:List Value},bH xs us → bH ys us → xs = ys
 | _,_,_,.nil,.nil=>rfl
 | _,_,_,.cons r t,.cons r' t'=>by rw [r.inj r',bH.inj t t']
section
variable {X:Cx} {pins:List (Addr × Obj)} {σ:St} {H:Hp} {s:Shared} {a:Addr} {xs ys:List V}
theorem SqL.of {K:PySem.W.Frag} (h:H a = some (.lst xs)):SqL K H a xs:=.inl (.inl h)
theorem SqT.of {K:PySem.W.Frag} (h:H a = some (.tup xs)):SqT K H a xs:=.inl (.inl h)
theorem Inv.list (I:Inv X pins σ H s) (h:SqL X.K H a xs):∃ its:List Value,bH xs its ∧ PlainL s.heap a its.toArray ∧ xs.length ≤ sizeLine:=by
 rcases h with h | ⟨o,its,n,hk,hc,hd,hs,hz,r⟩
 ·obtain ⟨z,its,n,r,e⟩:=h.ok I.hok
  exact ⟨its,r,⟨_,n,e,rfl,rfl,rfl⟩,z⟩
 ·refine ⟨its.toList,r,⟨o,n,I.kIn a o hk,hc,hd,by simpa using hs⟩,?_⟩
  have e:=r.length
  simp only [Array.length_toList] at e
  omega
theorem Inv.tuple (I:Inv X pins σ H s) (h:SqT X.K H a xs):∃ its:List Value,bH xs its ∧ IsTup s.heap a its.toArray ∧ xs.length ≤ sizeLine:=by
 rcases h with h | ⟨o,its,n,hk,hc,hs,hz,r⟩
 ·obtain ⟨z,its,r,p⟩:=h.ok I.hok
  exact ⟨its,r,p.tup,z⟩
 ·refine ⟨its.toList,r,⟨o,I.kIn a o hk,hc,n,by simpa using hs⟩,?_⟩
  have e:=r.length
  simp only [Array.length_toList] at e
  omega
theorem Inv.list_inj (I:Inv X pins σ H s) (h:SqL X.K H a xs) (h':SqL X.K H a ys):xs = ys:=by
 obtain ⟨its,r,⟨o,n,e,_,_,d⟩,_⟩:=I.list h
 obtain ⟨its',r',⟨o',n',e',_,_,d'⟩,_⟩:=I.list h'
 rw [e] at e';cases e'
 rw [d] at d'
 injection d' with d1 _
 have:its = its':=by simpa using congrArg Array.toList d1
 subst this
 exact r.inj r'
end
abbrev Cx.wish (X:Cx) (E:Value → Shared → Prop):Cx:={ X with xe:=E }
abbrev Cx.nox (X:Cx):Cx:=X.wish fun _ _=>False
theorem Cx.Ok.wish {X:Cx} (ok:X.Ok) (E:Value → Shared → Prop):(X.wish E).Ok :=
 ⟨ok.mod,ok.kind,ok.glob,ok.blt,ok.above,ok.inj,ok.has,ok.cab,ok.hd,ok.frames,ok.stk,ok.exf,ok.bs,ok.bsz,ok.noex,ok.exfs,ok.funs,ok.frf⟩
theorem Cx.Ok.unwish {X:Cx} {E:Value → Shared → Prop} (ok:(X.wish E).Ok):X.Ok :=
 ⟨ok.mod,ok.kind,ok.glob,ok.blt,ok.above,ok.inj,ok.has,ok.cab,ok.hd,ok.frames,ok.stk,ok.exf,ok.bs,ok.bsz,ok.noex,ok.exfs,ok.funs,ok.frf⟩
section
variable {X:Cx} {pins:List (Addr × Obj)} {σ:St} {H:Hp} {s:Shared} {E:Value → Shared → Prop}
theorem Inv.wish (I:Inv X pins σ H s) (E:Value → Shared → Prop):Inv (X.wish E) pins σ H s:=⟨I.ok.wish E,I.os,I.bare,I.base,I.loc,I.cell,I.free,I.freeC,I.pin,I.hok,I.len⟩
theorem Inv.unwish (I:Inv (X.wish E) pins σ H s):Inv X pins σ H s:=⟨I.ok.unwish,I.os,I.bare,I.base,I.loc,I.cell,I.free,I.freeC,I.pin,I.hok,I.len⟩
theorem SP.unwish {D:Ends} {f:Flow} {s':Shared} (h:SP (X.wish E) pins D f s'):SP X pins D f s':=by
 cases f with
 | next=>obtain ⟨σ',H',I,q⟩:=h;exact ⟨σ',H',I.unwish,q⟩
 | brk=>obtain ⟨σ',H',I,q⟩:=h;exact ⟨σ',H',I.unwish,q⟩
 | cont=>obtain ⟨σ',H',I,q⟩:=h;exact ⟨σ',H',I.unwish,q⟩
 | ret u=>obtain ⟨v,σ',H',I,r,q⟩:=h;exact ⟨v,σ',H',I.unwish,r,q⟩
theorem PSs.nox {st:List Stmt} {t:TS} (h:PSs X.nox st t):PSs X st t:=fun pins s σ H D I hw =>
 wpAny_mono (h pins s σ H D (I.wish _) hw) (fun _ _ q=>q.unwish) fun _ _ z=>False.elim z
end
section
variable {X:Cx} {st:Stmt} {rF:List Stmt} {t u:TS} {e:Expr} {te:TE} {pos:Pos}
def aLP:TS:=fun D σ H=>D.nx σ H
def iA (t u:TS):TS:=fun D σ H=>t { D with nx:=u D } σ H
theorem bG:PSs X [] aLP:=fun _ _ σ H _ I h=>wpAny_execs_nil ⟨σ,H,I,h⟩
theorem aG (h1:PS X st t) (h2:PSs X rF u):PSs X (st :: rF) (iA t u):=by
 intro pins s σ H D I h
 refine wpAny_execs_cons (thn (h1 pins s σ H { D with nx:=u D } I h) fun f s1 q=>?_)
 cases f with
 | next =>
  obtain ⟨σ',H',I',q⟩:=q
  exact h2 pins s1 σ' H' D I' q
 | ret v=>exact q
 | brk=>exact q
 | cont=>exact q
theorem aJ (h1:PS X st t):PSs X [st] t:=by
 intro pins s σ H D I h
 refine wpAny_execs_cons (thn (h1 pins s σ H D I h) fun f s1 q=>?_)
 cases f with
 | next=>exact wpAny_execs_nil q
 | ret v=>exact q
 | brk=>exact q
 | cont=>exact q
theorem Inv.quiet {pins:List (Addr × Obj)} {σ:St} {H:Hp} {s:Shared} (I:Inv X pins σ H s):interactive X.env = false:=by simp [interactive,I.ok.kind]
def aJI (te:TE):TS:=fun D σ H=>te σ H fun _ H1=>D.nx σ H1
theorem fZ (he:PE X e te) (hs:swapsWith e none pos.line X.env = pure false:=by rfl):PS X (.Expr e pos) (aJI te):=by
 intro pins s σ H D I h
 exact wpAny_Expr_any (thn (he pins s σ H _ I h) fun v s1 ⟨x,H1,I1,r1,q1⟩=>⟨σ,H1,I1,q1⟩) I.quiet hs
def aND (te:TE):TS:=fun D σ H=>te σ H D.rt
theorem aU (he:PE X e te):PS X (.Return (some e) pos) (aND te):=by
 intro pins s σ H D I h
 exact wpAny_Return_some (thn (he pins s σ H _ I h) fun v s1 ⟨x,H1,I1,r1,q1⟩=>⟨x,σ,H1,I1,r1,q1⟩)
def aHL (c:TT) (t u:TS):TS:=fun D σ H=>c σ H fun b H1=>if b = true then t D σ H1 else u D σ H1
theorem cQ {c:Expr} {a b:List Stmt} {tc:TT} (hc:PT X c tc) (ha:PSs X a t) (hb:PSs X b u):PS X (.If c a b pos) (aHL tc t u):=by
 intro pins s σ H D I h
 refine wpAny_If (thn (hc pins s σ H _ I h) fun d s1 ⟨H1,I1,q1⟩=>?_)
 cases d with
 | true=>exact ha pins s1 σ H1 D I1 q1
 | false=>exact hb pins s1 σ H1 D I1 q1
def aEH:TS:=fun _ _ _=>False
theorem kK:PS X st aEH:=fun _ _ _ _ _ _ h=>h.elim
theorem nL {sts:List Stmt}:PSs X sts aEH:=fun _ _ _ _ _ _ h=>h.elim
end
abbrev TG:=V → St → Hp → (St → Hp → Prop) → Prop
abbrev TGs:=List V → St → Hp → (St → Hp → Prop) → Prop
def PG (X:Cx) (target:Expr) (t:TG):Prop :=
 ∀ (pins:List (Addr × Obj)) (s:Shared) (σ:St) (H:Hp) (v:V) (u:Value) (Q:St → Hp → Prop),Inv X pins σ H s → bF v u → t v σ H Q →
  wpAny (model X.prog X.w) X.A (assign target X.env u) (fun _ s'=>∃ σ' H',Inv X pins σ' H' s' ∧ Q σ' H') X.xe s
def PGs (X:Cx) (ts:List Expr) (t:TGs):Prop :=
 ∀ (pins:List (Addr × Obj)) (s:Shared) (σ:St) (H:Hp) (vs:List V) (us:List Value) (Q:St → Hp → Prop),Inv X pins σ H s → bH vs us → t vs σ H Q →
  wpAny (model X.prog X.w) X.A (assignInOrder ((assignEach ts X.env).map (·.2)) us) (fun _ s'=>∃ σ' H',Inv X pins σ' H' s' ∧ Q σ' H') X.xe s
abbrev TSet:=V → V → V → Hp → (Hp → Prop) → Prop
abbrev TIp:=V → V → Hp → VK → Prop
section
variable {X:Cx} {pos:Pos}
def oH (i:Nat):TG:=fun v σ H Q=>Q (σ.set i (some v)) H
theorem aX {i:Nat} {x:Str} (hN:X.N.Nodup) (hi:X.N[i]? = some x) (hx:Loc X.env.scope x) (hf:X.fn x = true ∨ X.env.scope.names.lookup x = some .local:=by first | exact .inl rfl | exact .inr rfl | assumption):PG X (.Name x pos) (oH i):=by
 intro pins s σ H v u Q I r h
 exact wpAny_assign_Name (rV I hN hi hx r (fun s' I'=>⟨_,H,I',h⟩) hf)
def aMT:TGs:=fun vs σ H Q=>vs = [] ∧ Q σ H
def aJS (t:TG) (u:TGs):TGs:=fun vs σ H Q=>∃ v r,vs = v :: r ∧ t v σ H fun σ' H'=>u r σ' H' Q
theorem rM:PGs X [] aMT:=by
 intro pins s σ H vs us Q I r h
 obtain ⟨e,h⟩:=h
 subst e
 cases r
 exact assignInOrder_nil ⟨σ,H,I,h⟩
theorem eQ {e:Expr} {es:List Expr} {t:TG} {u:TGs} (h1:PG X e t) (h2:PGs X es u)
  (hs:(assignEach (e :: es) X.env).map (·.2) = assign e X.env :: (assignEach es X.env).map (·.2):=by rfl):PGs X (e :: es) (aJS t u):=by
 intro pins s σ H vs us Q I r h
 obtain ⟨v,vr,e1,h⟩:=h
 subst e1
 cases r with
 | cons r rr =>
  rw [hs]
  refine assignInOrder_cons (thn (h1 pins s σ H _ _ _ I r h) fun _ s1 ⟨σ1,H1,I1,q1⟩=>?_)
  exact h2 pins s1 σ1 H1 _ _ Q I1 rr q1
def aGM (K:PySem.W.Frag) (n:Nat) (t:TGs):TG:=fun v σ H Q=>∃ a xs,v = .ref a ∧ SqT K H a xs ∧ xs.length = n ∧ t xs σ H Q
theorem vX {es:List Expr} {k:Nat} {t:TGs} {n:Nat} (hc:X.calm = true) (h:PGs X es t)
  (hn:(assignEach es X.env).length = n:=by rfl) (hst:(assignEach es X.env).findIdx? (·.1) = none:=by rfl):PG X (.Tuple es k pos) (aGM X.K n t):=by
 intro pins s σ H v u Q I r hw
 obtain ⟨a,xs,e1,hq,hl,hw⟩:=hw
 subst e1
 cases r
 obtain ⟨its,rv,ht,hz⟩:=I.tuple hq
 refine assign_Tuple_tuple (I.ok.hd hc) ht (by simp [hn,← hl,rv.length]) hst fun h' hx=>?_
 have I1:Inv X pins σ H { s with heap:=h' }:=I.kept (t':=s.toks) fun b o e=>hx b o (Nat.ne_of_lt (Heap.lt_size e)) e
 exact h pins _ σ H xs _ Q I1 (by simpa using rv) hw
def aKD (te:TE) (g:TG):TS:=fun D σ H=>te σ H fun x H1=>g x σ H1 D.nx
theorem aKH {tg e:Expr} {te:TE} {g:TG} (he:PE X e te) (hg:PG X tg g) (hs:swapsWithSole [tg] e pos.line X.env = pure false:=by rfl) (hw:swappedStores [tg] e X.env = pure none:=by rfl)
  (h1:(assignEach [tg] X.env).map (·.2) = [assign tg X.env]:=by rfl):PS X (.Assign [tg] e pos) (aKD te g):=by
 intro pins s σ H D I h
 refine wpAny_Assign_stores (thn (he pins s σ H _ I h) fun v s1 ⟨x,H1,I1,r1,q1⟩=>?_) hs hw
 rw [h1]
 exact thn (hg pins s1 σ H1 x v _ I1 r1 q1) fun _ s2 q=>q
theorem bA {i:Nat} {x:Str} {e:Expr} {te:TE} {pos':Pos} (hN:X.N.Nodup) (hi:X.N[i]? = some x) (hx:Loc X.env.scope x) (he:PE X e te) (hs:swapsWith e (some (.Name x pos')) pos.line X.env = pure false:=by rfl) (hf:X.fn x = true ∨ X.env.scope.names.lookup x = some .local:=by first | exact .inl rfl | exact .inr rfl | assumption) :
  PS X (.Assign [.Name x pos'] e pos) (aKD te (oH i)):=by
 intro pins s σ H D I h
 refine wpAny_Assign_Name (thn (he pins s σ H _ I h) fun v s1 ⟨y,H1,I1,r1,q1⟩=>?_) hs
 exact rV I1 hN hi hx r1 (fun s2 I2=>⟨_,H1,I2,q1⟩) hf
end
section
variable {X:Cx} {pos:Pos}
end
structure It where
 go:Nat → Hp → Prop
 yld:Nat → Hp → V → Hp → Prop
 stop:Nat → Hp → Prop
def xB (X:Cx) (pins:List (Addr × Obj)) (H:Hp) (b:Addr):Prop :=
 H b = none ∧ b ≠ X.env.locals ∧ b ∉ X.fs ∧ (b ∈ X.ex ∨ X.s₀.heap.objs.size ≤ b) ∧ (∀ x c,X.env.cells.lookup x = some c → c ≠ b) ∧ ∀ p ∈ X.pn ++ pins,p.1 ≠ b
theorem Inv.fpOk {X:Cx} {pins:List (Addr × Obj)} {σ:St} {H H':Hp} {s:Shared} {b:Addr} (I:Inv X pins σ H s) (hb:s.heap.objs.size ≤ b) (hn:H' b = none):xB X pins H' b:=by
 refine ⟨hn,Nat.ne_of_gt (Nat.lt_of_lt_of_le I.lt hb),I.nofs hb,.inr (Nat.le_trans I.sz hb),fun x c e z=>?_,fun p hp z=>?_⟩
 ·obtain ⟨v,q⟩:=I.cell x c e
  exact absurd (Nat.lt_of_lt_of_le q.lt (by rw [z];exact hb)) (Nat.lt_irrefl _)
 ·exact absurd (Nat.lt_of_lt_of_le (Heap.lt_size (I.pin p hp).1) (by rw [z];exact hb)) (Nat.lt_irrefl _)
structure Turn (P:Program) (w:World) (K:PySem.W.Frag) (tg:Expr) (J:It) (fp:List Addr) (it:Addr) (tn:Nat → Heap → Prop):Prop where
 mem:it ∈ fp
 obj:∀ i h,tn i h → ∀ b ∈ fp,∃ o,h.get? b = some o ∧ ∀ v,o.data ≠ .cell v
 keep:∀ i h h',tn i h → (∀ b ∈ fp,∀ o,h.get? b = some o → h'.get? b = some o) → tn i h'
 item:∀ (X:Cx),X.prog = P → X.w = w → X.K = K → X.calm = true → ∀ (i:Nat) (pins:List (Addr × Obj)) (s:Shared) (σ:St) (H:Hp) (E:Value → Shared → Prop),Inv X pins σ H s → (∀ b ∈ fp,xB X pins H b) → tn i s.heap → J.go i H →
  wpAny (model P w) X.A (pyNext (.ref it)) (fun r s1=>∃ u,r = some u ∧
   wpAny (model P w) X.A (letOwnedTupleGo tg (.ref it) u) (fun _ s2=>∃ x H',Inv X pins σ H' s2 ∧ bF x u ∧ J.yld i H x H' ∧ tn (i + 1) s2.heap ∧ ∀ b ∈ fp,H' b = none) E s1) E s
 done:∀ (X:Cx),X.prog = P → X.w = w → X.K = K → X.calm = true → ∀ (i:Nat) (pins:List (Addr × Obj)) (s:Shared) (σ:St) (H:Hp) (E:Value → Shared → Prop),Inv X pins σ H s → (∀ b ∈ fp,xB X pins H b) → tn i s.heap → J.stop i H →
  wpAny (model P w) X.A (pyNext (.ref it)) (fun r s1=>r = none ∧ Inv X pins σ H s1) E s
 self:∀ (A:Around) (i:Nat) (s:Shared) (Q:Value → Shared → Prop) (E:Value → Shared → Prop),tn i s.heap → Q (.ref it) s → wpAny (model P w) A (pyIter (.ref it)) Q E s
abbrev TI:=St → Hp → (It → Hp → Prop) → Prop
def PIE (X:Cx) (pins:List (Addr × Obj)) (σ:St) (tg:Expr) (R:It → Hp → Prop) (itv:Value) (s2:Shared):Prop :=
 ∃ (it:Addr) (fp:List Addr) (tn:Nat → Heap → Prop) (J:It) (H':Hp),itv = .ref it ∧ Inv X pins σ H' s2 ∧ Turn X.prog X.w X.K tg J fp it tn ∧ tn 0 s2.heap ∧ (∀ b ∈ fp,xB X pins H' b) ∧ R J H'
def PI (X:Cx) (tg iter:Expr) (wi:TI):Prop :=
 ∀ (pins:List (Addr × Obj)) (s:Shared) (σ:St) (H:Hp) (R:It → Hp → Prop),Inv X pins σ H s → wi σ H R →
  wpAny (model X.prog X.w) X.A (eval iter X.env) (fun v s1=>wpAny (model X.prog X.w) X.A (pyIter v) (PIE X pins σ tg R) X.xe s1) X.xe s
theorem aBT {M:Model} {A:Around} {E:Value → Shared → Prop} {s:Shared} {tg:Expr} {it:Addr} {u:Value} {o:Obj} {n:String} {vs:Array Value} {Q:Unit → Shared → Prop} (ho:s.heap.get? it = some o) (hc:o.cls = .type n) (hd:o.data = .fields vs)
    (hn:["enumerate","zip","dict_itemiterator","dict_reverseitemiterator","odict_iterator","itertools.zip_longest","itertools.pairwise"].contains n = false) (hQ:Q () s):wpAny M A (letOwnedTupleGo tg (.ref it) u) Q E s:=by
  unfold letOwnedTupleGo
  cases tg <;> first
    | exact wpAny_pure hQ
    | (cases u <;> first
        | exact wpAny_pure hQ
        | (refine wpAny_bind (wpAny_load ho ?_)
           rw [hc,hd]
           show wpAny M A (if (["enumerate","zip","dict_itemiterator","dict_reverseitemiterator","odict_iterator","itertools.zip_longest","itertools.pairwise"].contains n && vs[0]? == some (rawInt _)) = true then _ else _) Q E s
           rw [if_neg (by intro h;rw [hn,Bool.false_and] at h;cases h)]
           exact wpAny_pure hQ))
def Itl (K:PySem.W.Frag) (a:Addr):It :=
 ⟨fun i H=>∃ xs x,SqL K H a xs ∧ xs[i]? = some x,fun i H x H'=>H' = H ∧ ∀ xs,SqL K H a xs → xs[i]? = some x,fun i H=>∃ xs,SqL K H a xs ∧ xs.length ≤ i⟩
def Itt (K:PySem.W.Frag) (a:Addr):It :=
 ⟨fun i H=>∃ xs x,SqT K H a xs ∧ xs[i]? = some x,fun i H x H'=>H' = H ∧ ∀ xs,SqT K H a xs → xs[i]? = some x,fun i H=>∃ xs,SqT K H a xs ∧ xs.length ≤ i⟩
def Itr (lo:Int) (n:Nat):It:=⟨fun i _=>i < n,fun i H x H'=>H' = H ∧ x = .int (lo + i),fun i _=>n ≤ i⟩
theorem aCF {P:Program} {w:World} {K:PySem.W.Frag} {tg:Expr} (a it:Addr):Turn P w K tg (Itl K a) [it] it (fun i h=>h.IsListIter it a i) where
 mem:=by simp
 obj:=fun i h st b hb=>by
  have e:b = it:=by simpa using hb
  subst e
  obtain ⟨o,e,c,d⟩:=st
  exact ⟨o,e,fun v z=>by rw [d] at z;cases z⟩
 keep:=fun i h h' st k=>st.at fun o e=>k it (by simp) o e
 item:=by
  intro X hP hw hK hc i pins s σ H E I hf st hg
  subst hP hw hK
  obtain ⟨xs,x,hq,hx⟩:=hg
  obtain ⟨its,rv,p,hz⟩:=I.list hq
  obtain ⟨u,hu,ru⟩:=rv.get hx
  obtain ⟨f0,f1,f2,f3,f4,f5⟩:=hf it (by simp)
  refine wpAny_pyNext_list_item st p.isList (x:=u) (by simpa using hu) fun h' st' sb=>?_
  have I1:Inv X pins σ H { s with heap:=h' }:=I.turned (t':=s.toks) (fun b o hb e=>(sb.2 b hb).trans e) f0 f1 f3 f4 f5
  obtain ⟨o,e,c,d⟩:=id st'
  exact ⟨u,rfl,aBT (s:={ s with heap:=h' }) e c d (by decide) ⟨x,H,I1,ru,⟨rfl,fun ys hy=>by rw [I.list_inj hy hq];exact hx⟩,st',fun b hb=>(hf b hb).1⟩⟩
 done:=by
  intro X hP hw hK hc i pins s σ H E I hf st hg
  subst hP hw hK
  obtain ⟨xs,hq,hx⟩:=hg
  obtain ⟨its,rv,p,hz⟩:=I.list hq
  obtain ⟨f0,f1,f2,f3,f4,f5⟩:=hf it (by simp)
  have hl:=rv.length
  exact wpAny_pyNext_list_end (I.ok.hd hc) st p.isList (by simp;omega) fun h' eb=>⟨rfl,I.turned (t':=s.toks) (fun b o hb e=>eb b o hb e) f0 f1 f3 f4 f5⟩
 self:=fun _ _ _ _ _ st h=>wpAny_pyIter_listiter st h
theorem zD {P:Program} {w:World} {K:PySem.W.Frag} {tg:Expr} (it:Addr) (lo:Int) (n:Nat):Turn P w K tg (Itr lo n) [it] it (fun i h=>IsRangeIter h it (lo + (i:Nat) * 1) ((n:Int) - (i:Nat)) 1) where
 mem:=by simp
 obj:=fun i h st b hb=>by
  have e:b = it:=by simpa using hb
  subst e
  exact ⟨_,st,fun v z=>by
   have z':Data.fields _ = Data.cell v:=z
   cases z'⟩
 keep:=fun i h h' st k=>k it (by simp) _ st
 item:=by
  intro X hP hw hK hc i pins s σ H E I hf st hg
  subst hP hw hK
  obtain ⟨f0,f1,f2,f3,f4,f5⟩:=hf it (by simp)
  have W:=Walks.range (prog:=X.prog) (w:=X.w) (I.ok.hd hc) it lo 1 n
  refine W.item i s _ _ hg st fun v h' tk hv st' kk=>?_
  obtain ⟨t,rfl⟩:=hv
  have I1:Inv X pins σ H { s with heap:=h',toks:=tk }:=I.turned (fun b o hb e=>kk b o (by simpa using hb) e) f0 f1 f3 f4 f5
  refine ⟨_,rfl,aBT (s:={ s with heap:=h',toks:=tk }) (n:="range_iterator") st' rfl rfl (by decide) ⟨.int (lo + i),H,I1,⟨t,?_⟩,⟨rfl,rfl⟩,st',fun b hb=>(hf b hb).1⟩⟩
  rw [Int.mul_one]
 done:=by
  intro X hP hw hK hc i pins s σ H E I hf st hg
  subst hP hw hK
  obtain ⟨f0,f1,f2,f3,f4,f5⟩:=hf it (by simp)
  exact wpAny_pyNext_range_end (I.ok.hd hc) st (by have:n ≤ i:=hg;omega) fun h' eb=>⟨rfl,I.turned (t':=s.toks) (fun b o hb e=>eb b o hb e) f0 f1 f3 f4 f5⟩
 self:=fun _ _ _ _ _ st h=>wpAny_pyIter_rangeiter st h
end L2
namespace L2
open PySem PySem.Spec PyProof.Rows
section
variable {X:Cx} {tg:Expr}
def aGG (K:PySem.W.Frag) (tl:TE):TI:=fun σ H R=>tl σ H fun x H1=>∃ a,x = .ref a ∧ (∃ xs,SqL K H1 a xs) ∧ R (Itl K a) H1
theorem bW {l:Expr} {tl:TE} (hl:PE X l tl):PI X tg l (aGG X.K tl):=by
 intro pins s σ H R I h
 refine thn (hl pins s σ H _ I h) fun v s1 ⟨x,H1,I1,r1,q1⟩=>?_
 obtain ⟨a,e,⟨xs,hq⟩,q⟩:=q1
 subst e
 cases r1
 obtain ⟨its,rv,p,hz⟩:=I1.list hq
 refine wpAny_pyIter_list p.isList ?_
 refine ⟨s1.heap.objs.size,[s1.heap.objs.size],_,_,H1,rfl,I1.kept (t':=s1.toks) fun b o e=>Heap.get?_push_of_some _ e,aCF a _,⟨_,Heap.get?_push_size _ rfl,rfl,rfl⟩,fun b hb=>?_,q⟩
 have e:b = s1.heap.objs.size:=by simpa using hb
 subst e
 exact I1.fpOk (Nat.le_refl _) (I1.hok.fresh (Nat.le_refl _))
theorem aFH {pins:List (Addr × Obj)} {σ:St} {H:Hp} {s:Shared} {R:It → Hp → Prop} {E:Value → Shared → Prop} {lo hi:Int} {t u v:Tok} {tk:Nat} (I:Inv X pins σ H s) (h1:-(2 ^ 62) ≤ lo) (h2:lo < 2 ^ 62) (h3:-(2 ^ 62) ≤ hi) (h4:hi < 2 ^ 62)
  (q:R (Itr lo (hi - lo).toNat) H):wpAny (model X.prog X.w) X.A (pyIter (.ref s.heap.objs.size)) (PIE X pins σ tg R) E { s with heap:=s.heap.push { cls:=.type "range",data:=.fields #[.int lo t,.int hi u,.int 1 v] },toks:=tk }:=by
 refine wpAny_pyIter_range (IsRange.new ..) (small_one h1 h2 h3 h4) ?_
 have I1:Inv X pins σ H { s with heap:=s.heap.push { cls:=.type "range",data:=.fields #[.int lo t,.int hi u,.int 1 v] },toks:=tk }:=I.kept fun b o e=>Heap.get?_push_of_some _ e
 refine ⟨(s.heap.push { cls:=.type "range",data:=.fields #[.int lo t,.int hi u,.int 1 v] }).objs.size,[(s.heap.push { cls:=.type "range",data:=.fields #[.int lo t,.int hi u,.int 1 v] }).objs.size],_,_,H,rfl,
  I1.kept (t':=tk) fun b o e=>Heap.get?_push_of_some _ e,zD _ lo (hi - lo).toNat,?_,fun b hb=>?_,q⟩
 ·have e1:lo + ((0:Nat):Int) * 1 = lo:=by simp
  have e2:(((hi - lo).toNat:Nat):Int) - ((0:Nat):Int) = Builtin.Range.rangeSize lo hi 1:=by rw [rangeSize_one];split <;> omega
  show IsRangeIter _ _ (lo + ((0:Nat):Int) * 1) ((((hi - lo).toNat:Nat):Int) - ((0:Nat):Int)) 1
  rw [e1,e2]
  exact Heap.get?_push_size _ rfl
 ·have e:b = (s.heap.push { cls:=.type "range",data:=.fields #[.int lo t,.int hi u,.int 1 v] }).objs.size:=by simpa using hb
  subst e
  exact I1.fpOk (Nat.le_refl _) (I1.hok.fresh (Nat.le_refl _))
def aMR (ta:TA):TI:=fun σ H R=>ta σ H fun vs H1=>∃ j:Int,vs = [.int j] ∧ -(2 ^ 62) ≤ j ∧ j < 2 ^ 62 ∧ R (Itr 0 j.toNat) H1
theorem fG {a:Expr} {ta:TA} {p pos:Pos} (hg:Gl X "range") (hm:X.mg "range" = none) (ha:PA X [a] ta) (hs:starEach [a] X.env = [(false,eval a X.env)]:=by rfl):PI X tg (.Call (.Name "range" p) [a] [] pos) (aMR ta):=by
 intro pins s σ H R I h
 refine Call_ (wJ I hg hm boot_range (PyProof.Rows.callWith_type1 (thn (ha pos pins s σ H _ I h) fun us s1 ⟨vs,H1,I1,r1,q1⟩=>?_) hs rfl))
 obtain ⟨j,e,q1,q2,q⟩:=q1
 subst e
 cases r1 with
 | cons r rr =>
  cases rr
  obtain ⟨t,rfl⟩:=r
  exact call_range_1 (aFH I1 (by omega) (by omega) q1 q2 (by simpa using q))
def aNH (wi:TI) (g:TG) (tb:TS):TS:=fun D σ H=>wi σ H fun J H1=>∃ W:Nat → Nat → St → Hp → Prop,(∃ m,W 0 m σ H1) ∧ ∀ i m σ H,W i m σ H →
 (J.stop i H ∧ D.nx σ H) ∨ (J.go i H ∧ ∃ N:St → Hp → Prop,(∀ σ' H',N σ' H' → ∃ m',m' < m ∧ W (i + 1) m' σ' H') ∧ ∀ x H',J.yld i H x H' → g x σ H' fun σ2 H2=>tb { D with nx:=N,ct:=N,bk:=D.nx } σ2 H2)
def mI (fp:List Addr) (h:Heap):List (Addr × Obj):=fp.filterMap fun b=>(h.get? b).map fun o=>(b,o)
theorem lI {fp:List Addr} {h:Heap} {b:Addr} {o:Obj} (hb:b ∈ fp) (e:h.get? b = some o):(b,o) ∈ mI fp h:=List.mem_filterMap.mpr ⟨b,hb,by rw [e];rfl⟩
theorem uW {fp:List Addr} {h:Heap} {p:Addr × Obj} (hp:p ∈ mI fp h):p.1 ∈ fp ∧ h.get? p.1 = some p.2:=by
 obtain ⟨b,hb,e⟩:=List.mem_filterMap.mp hp
 cases q:h.get? b with
 | none=>rw [q] at e;cases e
 | some o =>
  rw [q] at e
  have e':(b,o) = p:=Option.some.inj e
  subst e'
  exact ⟨hb,q⟩
theorem Inv.pinned {pins:List (Addr × Obj)} {σ:St} {H:Hp} {s:Shared} {fp:List Addr} (I:Inv X pins σ H s) (hf:∀ b ∈ fp,xB X pins H b) (ho:∀ b ∈ fp,∃ o,s.heap.get? b = some o ∧ ∀ v,o.data ≠ .cell v):Inv X (pins ++ mI fp s.heap) σ H s :=
 I.pins_of fun p hp=>(List.mem_append.mp hp).elim (fun z=>I.pin p (List.mem_append_right _ z)) fun z=>by
  obtain ⟨hb,e⟩:=uW z
  obtain ⟨f0,f1,f2,_⟩:=hf p.1 hb
  obtain ⟨o,e',d⟩:=ho p.1 hb
  rw [e] at e';cases e'
  exact ⟨e,f0,f1,f2,d⟩
theorem Inv.unpinned {pins pl:List (Addr × Obj)} {σ:St} {H:Hp} {s:Shared} (I:Inv X (pins ++ pl) σ H s):Inv X pins σ H s:=I.pins_of fun p hp=>I.pin p (List.mem_append_right _ (List.mem_append_left _ hp))
theorem gR {iter:Expr} {body:List Stmt} {wi:TI} {g:TG} {tb:TS} {pos:Pos} (hp:PassesOwn (model X.prog X.w) X.A X.env X.xe) (hc:X.calm = true) (hi:PI X tg iter wi) (hg:PG X tg g) (hb:PSs X body tb)
  (hs:∀ x,foldedSetIterable iter X.env x = pure x:=by intro _;rfl):PS X (.For tg iter body [] pos) (aNH wi g tb):=by
 intro pins s σ H D I h
 refine wpAny_For (thn (hi pins s σ H _ I h) fun v s1 h1=>thn h1 fun itv s2 h2=>?_) hs
 obtain ⟨it,fp,tn,J,H2,e,I2,T,st2,f2,W,⟨m0,w0⟩,turn⟩:=h2
 subst e
 have stat:∀ {H':Hp},(∀ b ∈ fp,H' b = none) → ∀ b ∈ fp,xB X pins H' b:=fun hn b hb=>⟨hn b hb,(f2 b hb).2⟩
 refine codeAny_forLoop_any (fun n s'=>∃ i σ' H',Inv X pins σ' H' s' ∧ tn i s'.heap ∧ (∀ b ∈ fp,H' b = none) ∧ W i n σ' H') ?_ m0 ⟨0,σ,H2,I2,st2,fun b hb=>(f2 b hb).1,w0⟩
 rintro n s3 ⟨i,σ3,H3,I3,st3,fr3,w3⟩
 rcases turn i n σ3 H3 w3 with ⟨stop,qn⟩ | ⟨go,N,hN,step⟩
 ·refine wpAny_passesOwn hp (thn (T.done X rfl rfl rfl hc i pins s3 σ3 H3 X.xe I3 (stat fr3) st3 stop) fun r s4 ⟨hr,I4⟩=>?_)
  subst hr
  exact wpAny_execs_nil ⟨σ3,H3,I4,qn⟩
 ·refine wpAny_passesOwn hp (thn (T.item X rfl rfl rfl hc i pins s3 σ3 H3 X.xe I3 (stat fr3) st3 go) fun r s4 ⟨u,hr,h4⟩=>?_)
  subst hr
  refine wpAny_passesOwn hp (thn h4 fun _ s5 ⟨x,H5,I5,r5,y5,st5,fr5⟩=>?_)
  have I5':=I5.pinned (stat fr5) (T.obj _ _ st5)
  refine wpAny_passesOwn hp (thn (hg _ s5 σ3 H5 x u _ I5' r5 (step x H5 y5)) fun _ s6 ⟨σ6,H6,I6,q6⟩=>?_)
  refine wpAny_passesOwn hp (thn (hb _ s6 σ6 H6 _ I6 q6) fun f s7 q7=>?_)
  have again:∀ {σ7:St} {H7:Hp},Inv X (pins ++ mI fp s5.heap) σ7 H7 s7 → N σ7 H7 → ∃ m,m < n ∧ ∃ i σ' H',Inv X pins σ' H' s7 ∧ tn i s7.heap ∧ (∀ b ∈ fp,H' b = none) ∧ W i m σ' H':=fun {σ7 H7} I7 n7=>by
   obtain ⟨m',hm,w7⟩:=hN σ7 H7 n7
   refine ⟨m',hm,i + 1,σ7,H7,I7.unpinned,T.keep _ _ _ st5 fun b hb o e=>(I7.pin (b,o) (List.mem_append_right _ (List.mem_append_right _ (lI hb e)))).1,fun b hb=>?_,w7⟩
   obtain ⟨o,e,d⟩:=T.obj _ _ st5 b hb
   exact (I7.pin (b,o) (List.mem_append_right _ (List.mem_append_right _ (lI hb e)))).2.1
  cases f with
  | next=>obtain ⟨σ7,H7,I7,n7⟩:=q7;exact again I7 n7
  | cont=>obtain ⟨σ7,H7,I7,n7⟩:=q7;exact again I7 n7
  | brk=>obtain ⟨σ7,H7,I7,q7⟩:=q7;exact ⟨σ7,H7,I7.unpinned,q7⟩
  | ret v=>obtain ⟨x7,σ7,H7,I7,r7,q7⟩:=q7;exact ⟨x7,σ7,H7,I7.unpinned,r7,q7⟩
end
theorem kT {K:PySem.W.Frag} {a:Addr} {xs:List V} {g:TG} {tb:TS} {D:Ends} {σ:St} {H:Hp} (Pv:Nat → St → Hp → Prop) (h0:Pv 0 σ H) (hl:∀ i σ H,i ≤ xs.length → Pv i σ H → SqL K H a xs)
  (hs:∀ i x σ H,xs[i]? = some x → Pv i σ H → g x σ H fun σ2 H2=>tb { D with nx:=Pv (i + 1),ct:=Pv (i + 1),bk:=D.nx } σ2 H2) (hd:∀ σ H,Pv xs.length σ H → D.nx σ H) :
  ∃ W:Nat → Nat → St → Hp → Prop,(∃ m,W 0 m σ H) ∧ ∀ i m σ H,W i m σ H →
   ((Itl K a).stop i H ∧ D.nx σ H) ∨ ((Itl K a).go i H ∧ ∃ N:St → Hp → Prop,(∀ σ' H',N σ' H' → ∃ m',m' < m ∧ W (i + 1) m' σ' H') ∧ ∀ x H',(Itl K a).yld i H x H' → g x σ H' fun σ2 H2=>tb { D with nx:=N,ct:=N,bk:=D.nx } σ2 H2):=by
 refine ⟨fun i m σ H=>m = xs.length - i ∧ i ≤ xs.length ∧ Pv i σ H,⟨xs.length,by simp,Nat.zero_le _,h0⟩,?_⟩
 rintro i m σ H ⟨rfl,hi,p⟩
 have q:=hl i σ H hi p
 by_cases hlt:i < xs.length
 ·refine .inr ⟨⟨xs,xs[i],q,by simp [hlt]⟩,Pv (i + 1),fun σ' H' p'=>⟨xs.length - (i + 1),by omega,rfl,hlt,p'⟩,fun x H' y=>?_⟩
  obtain ⟨e,y⟩:=y
  subst e
  exact hs i x σ _ (y xs q) p
 ·have e:i = xs.length:=by omega
  subst e
  exact .inl ⟨⟨xs,q,Nat.le_refl _⟩,hd σ H p⟩
theorem gG {lo:Int} {n:Nat} {g:TG} {tb:TS} {D:Ends} {σ:St} {H:Hp} (Pv:Nat → St → Hp → Prop) (h0:Pv 0 σ H)
  (hs:∀ i σ H,i < n → Pv i σ H → g (.int (lo + i)) σ H fun σ2 H2=>tb { D with nx:=Pv (i + 1),ct:=Pv (i + 1),bk:=D.nx } σ2 H2) (hd:∀ σ H,Pv n σ H → D.nx σ H) :
  ∃ W:Nat → Nat → St → Hp → Prop,(∃ m,W 0 m σ H) ∧ ∀ i m σ H,W i m σ H →
   ((Itr lo n).stop i H ∧ D.nx σ H) ∨ ((Itr lo n).go i H ∧ ∃ N:St → Hp → Prop,(∀ σ' H',N σ' H' → ∃ m',m' < m ∧ W (i + 1) m' σ' H') ∧ ∀ x H',(Itr lo n).yld i H x H' → g x σ H' fun σ2 H2=>tb { D with nx:=N,ct:=N,bk:=D.nx } σ2 H2):=by
 refine ⟨fun i m σ H=>m = n - i ∧ i ≤ n ∧ Pv i σ H,⟨n,by simp,Nat.zero_le _,h0⟩,?_⟩
 rintro i m σ H ⟨rfl,hi,p⟩
 by_cases hlt:i < n
 ·refine .inr ⟨hlt,Pv (i + 1),fun σ' H' p'=>⟨n - (i + 1),by omega,rfl,hlt,p'⟩,fun x H' y=>?_⟩
  obtain ⟨e,y⟩:=y
  subst e y
  exact hs i σ _ hlt p
 ·have e:i = n:=by omega
  subst e
  exact .inl ⟨Nat.le_refl _,hd σ H p⟩
end L2
namespace L2
open PySem PySem.Spec PyProof.Rows
abbrev R2:=V → V → Hp → VK → Prop
def OpR (X:Cx) (f:Value → Value → Sem Value) (r:R2):Prop :=
 ∀ (pins:List (Addr × Obj)) (s:Shared) (σ:St) (H:Hp) (x y:V) (v u:Value) (Q:VK),Inv X pins σ H s → bF x v → bF y u → r x y H Q →
  wpAny (model X.prog X.w) X.A (f v u) (EP X pins σ Q) X.xe s
def UnR (X:Cx) (f:Value → Sem Value) (r:V → Hp → VK → Prop):Prop :=
 ∀ (pins:List (Addr × Obj)) (s:Shared) (σ:St) (H:Hp) (x:V) (v:Value) (Q:VK),Inv X pins σ H s → bF x v → r x H Q →
  wpAny (model X.prog X.w) X.A (f v) (EP X pins σ Q) X.xe s
def gH (X:Cx) (f:Value) (r:List V → Hp → VK → Prop):Prop :=
 ∀ (pins:List (Addr × Obj)) (s:Shared) (σ:St) (H:Hp) (xs:List V) (us:List Value) (Q:VK),Inv X pins σ H s → bH xs us → r xs H Q →
  wpAny (model X.prog X.w) X.A (call f us) (EP X pins σ Q) X.xe s
def tOp (r:R2) (ta tb:TE):TE:=fun σ H Q=>ta σ H fun x H1=>tb σ H1 fun y H2=>r x y H2 Q
def tUn (r:V → Hp → VK → Prop) (ta:TE):TE:=fun σ H Q=>ta σ H fun x H1=>r x H1 Q
def rI (C:Int → Int → Prop) (g:Int → Int → V):R2:=fun x y H Q=>∃ i j,x = .int i ∧ y = .int j ∧ C i j ∧ Q (g i j) H
def rI0 (g:Int → Int → V):R2:=fun x y H Q=>∃ i j,x = .int i ∧ y = .int j ∧ Q (g i j) H
def rU (g:Int → V):V → Hp → VK → Prop:=fun x H Q=>∃ i,x = .int i ∧ Q (g i) H
section
variable {X:Cx} {a b c:Expr} {ta tb tc:TE} {pos:Pos}
theorem aLC (ha:PE X a ta) (hb:PE X b tb) {pins:List (Addr × Obj)} {s:Shared} {σ:St} {H:Hp} {R:V → V → Hp → Prop} (I:Inv X pins σ H s)
  (h:ta σ H fun x H1=>tb σ H1 fun y H2=>R x y H2) {Q:Value → Shared → Prop} {f:Value → Value → Sem Value}
  (hf:∀ v u s2 x y H2,Inv X pins σ H2 s2 → bF x v → bF y u → R x y H2 → wpAny (model X.prog X.w) X.A (f v u) Q X.xe s2) :
  wpAny (model X.prog X.w) X.A (eval a X.env) (fun v s₁=>wpAny (model X.prog X.w) X.A (eval b X.env) (fun u s₂=>wpAny (model X.prog X.w) X.A (f v u) Q X.xe s₂) X.xe s₁) X.xe s:=by
 refine thn (ha pins s σ H _ I h) fun v s1 ⟨x,H1,I1,r1,q1⟩=>?_
 refine thn (hb pins s1 σ H1 _ I1 q1) fun u s2 ⟨y,H2,I2,r2,q2⟩=>?_
 exact hf v u s2 x y H2 I2 r1 r2 q2
theorem aM {op:Operator} {r:R2} (ho:OpR X (binaryOp op) r) (ha:PE X a ta) (hb:PE X b tb):PE X (.BinOp a op b pos) (tOp r ta tb):=by
 intro pins s σ H Q I h
 exact wpAny_BinOp (aLC ha hb I h fun v u s2 x y H2 I2 rx ry q=>ho pins s2 σ H2 x y v u Q I2 rx ry q)
theorem aBN {op:UnaryOp} {r:V → Hp → VK → Prop} (ho:UnR X (unaryOp op) r) (ha:PE X a ta):PE X (.UnaryOp op a pos) (tUn r ta):=by
 intro pins s σ H Q I h
 exact UnaryOp_ (thn (ha pins s σ H _ I h) fun v s1 ⟨x,H1,I1,r1,q1⟩=>ho pins s1 σ H1 x v Q I1 r1 q1)
theorem opI {f:Value → Value → Sem Value} {C:Int → Int → Prop} {g:Int → Int → Int}
  (rule:∀ (i j:Int) (t u:Tok) (s:Shared) (Q:Value → Shared → Prop) (E:Value → Shared → Prop),C i j → Q (.int (g i j) s.toks) { s with toks:=s.toks + 1 } → wpAny (model X.prog X.w) X.A (f (.int i t) (.int j u)) Q E s) :
  OpR X f (rI C fun i j=>.int (g i j)):=by
 intro pins s σ H x y v u Q I rx ry h
 obtain ⟨i,j,rfl,rfl,hc,q⟩:=h
 obtain ⟨t,rfl⟩:=rx
 obtain ⟨t',rfl⟩:=ry
 exact rule i j t t' s _ _ hc ⟨.int (g i j),H,I.tok _,⟨_,rfl⟩,q⟩
theorem aMH {f:Value → Value → Sem Value} {g:Int → Int → Int}
  (rule:∀ (i j:Int) (t u:Tok) (s:Shared) (Q:Value → Shared → Prop) (E:Value → Shared → Prop),Q (.int (g i j) s.toks) { s with toks:=s.toks + 1 } → wpAny (model X.prog X.w) X.A (f (.int i t) (.int j u)) Q E s) :
  OpR X f (rI0 fun i j=>.int (g i j)):=by
 intro pins s σ H x y v u Q I rx ry h
 obtain ⟨i,j,rfl,rfl,q⟩:=h
 obtain ⟨t,rfl⟩:=rx
 obtain ⟨t',rfl⟩:=ry
 exact rule i j t t' s _ _ ⟨.int (g i j),H,I.tok _,⟨_,rfl⟩,q⟩
theorem aKO {f:Value → Value → Sem Value} {g:Int → Int → Bool}
  (rule:∀ (i j:Int) (t u:Tok) (s:Shared) (Q:Value → Shared → Prop) (E:Value → Shared → Prop),Q (.bool (g i j)) s → wpAny (model X.prog X.w) X.A (f (.int i t) (.int j u)) Q E s) :
  OpR X f (rI0 fun i j=>.bl (g i j)):=by
 intro pins s σ H x y v u Q I rx ry h
 obtain ⟨i,j,rfl,rfl,q⟩:=h
 obtain ⟨t,rfl⟩:=rx
 obtain ⟨t',rfl⟩:=ry
 exact rule i j t t' s _ _ ⟨.bl (g i j),H,I,rfl,q⟩
def aOD (i j:Int):Prop:=0 ≤ j ∧ j ≤ 1000000 ∧ i.natAbs < 2 ^ 64
def aLJ (i j:Int):Prop:=(-(2 ^ 64) < i ∧ i < 2 ^ 64) ∨ (-(2 ^ 64) < j ∧ j < 2 ^ 64)
theorem aLJ.ok {i j:Int} (h:aLJ i j):IntMulOk i j:=by
 rcases h with ⟨h1,h2⟩ | ⟨h1,h2⟩
 ·exact .of_left (intBits_le_64 h1 h2)
 ·exact .of_right (intBits_le_64 h1 h2)
theorem dY:OpR X (binaryOp .Add) (rI0 fun i j=>.int (i + j)):=aMH fun _ _ _ _ _ _ _ q=>add_int q
theorem jH:OpR X (binaryOp .Sub) (rI0 fun i j=>.int (i - j)):=aMH fun _ _ _ _ _ _ _ q=>sub_int q
theorem sQ:OpR X (binaryOp .Mult) (rI aLJ fun i j=>.int (i * j)):=opI fun _ _ _ _ _ _ _ hc q=>mul_int q hc.ok
theorem bQ:OpR X (binaryOp .Mod) (rI (fun _ j=>0 < j) fun i j=>.int (i % j)):=opI fun i j _ _ _ _ _ hc q=>by
 have h1:(0:Int) < j:=hc
 exact mod_int' (by omega) (by rw [Int.fmod_eq_emod_of_nonneg i (by omega)];exact q)
theorem dL:OpR X (binaryOp .Pow) (rI aOD fun i j=>.int (i ^ j.toNat)):=opI fun _ _ _ _ _ _ _ hc q=>pow_int_small hc.1 hc.2.1 hc.2.2 q
theorem unI {f:Value → Sem Value} {g:Int → Int}
  (rule:∀ (i:Int) (t:Tok) (s:Shared) (Q:Value → Shared → Prop) (E:Value → Shared → Prop),Q (.int (g i) s.toks) { s with toks:=s.toks + 1 } → wpAny (model X.prog X.w) X.A (f (.int i t)) Q E s) :
  UnR X f (rU fun i=>.int (g i)):=by
 intro pins s σ H x v Q I rx h
 obtain ⟨i,rfl,q⟩:=h
 obtain ⟨t,rfl⟩:=rx
 exact rule i t s _ _ ⟨.int (g i),H,I.tok _,⟨_,rfl⟩,q⟩
theorem vO:UnR X (unaryOp .USub) (rU fun i=>.int (-i)):=unI fun _ _ _ _ _ q=>neg_int q
end
def aLV:V → V → Bool
 | .non,.non=>true | .non,.int _=>true | .int _,.non=>true | .non,.bl _=>true | .bl _,.non=>true | .non,.str _=>true | .str _,.non=>true
 | .int _,.int _=>true | .bl _,.bl _=>true | .str _,.str _=>true | .byt _,.byt _=>true
 | .int _,.str _=>true | .str _,.int _=>true | .bl _,.str _=>true | .str _,.bl _=>true
 | _,_=>false
def rEq:R2:=fun x y H Q=>aLV x y = true ∧ Q (.bl (decide (x = y))) H
def rNe:R2:=fun x y H Q=>aLV x y = true ∧ Q (.bl (!decide (x = y))) H
theorem iS {i j:Int}:decide (V.int i = V.int j) = (i == j):=by
 rw [Bool.eq_iff_iff]
 simp
theorem aGY {i j:Bool}:decide (V.bl i = V.bl j) = (i == j):=by
 rw [Bool.eq_iff_iff]
 simp
theorem pY {i j:Str}:decide (V.str i = V.str j) = (i == j):=by
 rw [Bool.eq_iff_iff]
 simp
theorem aCA {i j:Array UInt8}:decide (V.byt i = V.byt j) = (i.toList == j.toList):=by
 rw [Bool.eq_iff_iff]
 cases i
 cases j
 simp
section
variable {X:Cx} {a b c:Expr} {ta tb tc:TE} {pos:Pos}
theorem cC {pins:List (Addr × Obj)} {σ:St} {H:Hp} {s:Shared} {Q:VK} {k k':Bool} (I:Inv X pins σ H s) (q:Q (.bl k) H) (e:k = k'):EP X pins σ Q (.bool k') s:=by
 subst e
 exact ⟨.bl k,H,I,rfl,q⟩
theorem jQ:OpR X (compareOp .Eq) rEq:=by
 intro pins s σ H x y v u Q I rx ry h
 obtain ⟨hs,q⟩:=h
 cases x with
 | non =>
  cases rx
  cases y with
  | non=>cases ry;exact PySem.EqNone.eq_none_none (cC I q (by simp))
  | bl j=>cases ry;exact PySem.EqNone.eq_none_bool (cC I q (by simp))
  | int j=>obtain ⟨t',rfl⟩:=ry;exact PySem.EqNone.eq_none_int (cC I q (by simp))
  | str j=>obtain ⟨t',rfl⟩:=ry;exact PySem.EqNone.eq_none_str (cC I q (by simp))
  | _=>exact absurd (show false = true from hs) Bool.false_ne_true
 | bl i =>
  cases rx
  cases y with
  | non=>cases ry;exact PySem.EqNone.eq_bool_none (cC I q (by simp))
  | bl j=>cases ry;exact eq_bool (cC I q aGY)
  | str j=>obtain ⟨t',rfl⟩:=ry;exact PySem.EqMixed.eq_bool_str (cC I q (by simp))
  | _=>exact absurd (show false = true from hs) Bool.false_ne_true
 | int i =>
  obtain ⟨t,rfl⟩:=rx
  cases y with
  | non=>cases ry;exact PySem.EqNone.eq_int_none (cC I q (by simp))
  | int j=>obtain ⟨t',rfl⟩:=ry;exact eq_int (cC I q iS)
  | str j=>obtain ⟨t',rfl⟩:=ry;exact PySem.EqMixed.eq_int_str (cC I q (by simp))
  | _=>exact absurd (show false = true from hs) Bool.false_ne_true
 | str i =>
  obtain ⟨t,rfl⟩:=rx
  cases y with
  | non=>cases ry;exact PySem.EqNone.eq_str_none (cC I q (by simp))
  | bl j=>cases ry;exact PySem.EqMixed.eq_str_bool (cC I q (by simp))
  | int j=>obtain ⟨t',rfl⟩:=ry;exact PySem.EqMixed.eq_str_int (cC I q (by simp))
  | str j=>obtain ⟨t',rfl⟩:=ry;exact eq_str (cC I q pY)
  | _=>exact absurd (show false = true from hs) Bool.false_ne_true
 | byt i =>
  obtain ⟨t,rfl⟩:=rx
  cases y with
  | byt j=>obtain ⟨t',rfl⟩:=ry;exact PySem.W.eq_bytes (cC I q aCA)
  | _=>exact absurd (show false = true from hs) Bool.false_ne_true
 | _=>cases y <;> exact absurd (show false = true from hs) Bool.false_ne_true
theorem uU:OpR X (compareOp .NotEq) rNe:=by
 intro pins s σ H x y v u Q I rx ry h
 obtain ⟨hs,q⟩:=h
 cases x with
 | non =>
  cases rx
  cases y with
  | non=>cases ry;exact PySem.EqNone.ne_none_none (cC I q (by simp))
  | bl j=>cases ry;exact PySem.EqNone.ne_none_bool (cC I q (by simp))
  | int j=>obtain ⟨t',rfl⟩:=ry;exact PySem.EqNone.ne_none_int (cC I q (by simp))
  | str j=>obtain ⟨t',rfl⟩:=ry;exact PySem.EqNone.ne_none_str (cC I q (by simp))
  | _=>exact absurd (show false = true from hs) Bool.false_ne_true
 | bl i =>
  cases rx
  cases y with
  | non=>cases ry;exact PySem.EqNone.ne_bool_none (cC I q (by simp))
  | bl j=>cases ry;exact ne_bool (cC I q (congrArg not aGY))
  | str j=>obtain ⟨t',rfl⟩:=ry;exact PySem.EqMixed.ne_bool_str (cC I q (by simp))
  | _=>exact absurd (show false = true from hs) Bool.false_ne_true
 | int i =>
  obtain ⟨t,rfl⟩:=rx
  cases y with
  | non=>cases ry;exact PySem.EqNone.ne_int_none (cC I q (by simp))
  | int j=>obtain ⟨t',rfl⟩:=ry;exact ne_int (cC I q (congrArg not iS))
  | str j=>obtain ⟨t',rfl⟩:=ry;exact PySem.EqMixed.ne_int_str (cC I q (by simp))
  | _=>exact absurd (show false = true from hs) Bool.false_ne_true
 | str i =>
  obtain ⟨t,rfl⟩:=rx
  cases y with
  | non=>cases ry;exact PySem.EqNone.ne_str_none (cC I q (by simp))
  | bl j=>cases ry;exact PySem.EqMixed.ne_str_bool (cC I q (by simp))
  | int j=>obtain ⟨t',rfl⟩:=ry;exact PySem.EqMixed.ne_str_int (cC I q (by simp))
  | str j=>obtain ⟨t',rfl⟩:=ry;exact ne_str (cC I q (congrArg not pY))
  | _=>exact absurd (show false = true from hs) Bool.false_ne_true
 | byt i =>
  obtain ⟨t,rfl⟩:=rx
  cases y with
  | byt j=>obtain ⟨t',rfl⟩:=ry;exact PySem.W.ne_bytes (cC I q (congrArg not aCA))
  | _=>exact absurd (show false = true from hs) Bool.false_ne_true
 | _=>cases y <;> exact absurd (show false = true from hs) Bool.false_ne_true
theorem uV:OpR X (compareOp .Lt) (rI0 fun i j=>.bl (decide (i < j))):=aKO fun _ _ _ _ _ _ _ q=>lt_int q
theorem mL:OpR X (compareOp .LtE) (rI0 fun i j=>.bl (decide (i ≤ j))):=aKO fun _ _ _ _ _ _ _ q=>le_int q
theorem aJQ:OpR X (compareOp .Gt) (rI0 fun i j=>.bl (decide (j < i))):=aKO fun _ _ _ _ _ _ _ q=>gt_int q
theorem aCT:OpR X (compareOp .In) (fun x y H Q=>∃ i j,x = .str i ∧ y = .str j ∧ Q (.bl (!(Builtin.Str.occurrences j i 0 j.length 1).isEmpty)) H):=by
 intro pins s σ H x y v u Q I rx ry h
 obtain ⟨i,j,rfl,rfl,q⟩:=h
 obtain ⟨t,rfl⟩:=rx
 obtain ⟨t',rfl⟩:=ry
 exact in_str (cC I q rfl)
theorem aFR:OpR X (compareOp .Is) (fun x y H Q=>y = .non ∧ Q (.bl (decide (x = .non))) H):=by
 intro pins s σ H x y v u Q I rx ry h
 obtain ⟨rfl,q⟩:=h
 cases ry
 refine is_none_gen (cC I q ?_)
 cases x <;> first
  | (cases rx;rfl)
  | (obtain ⟨t,rfl⟩:=rx;rfl)
theorem rN:OpR X (compareOp .IsNot) (fun x y H Q=>y = .non ∧ Q (.bl (!decide (x = .non))) H):=by
 intro pins s σ H x y v u Q I rx ry h
 obtain ⟨rfl,q⟩:=h
 cases ry
 refine isnot_none_gen (cC I q ?_)
 cases x <;> first
  | (cases rx;rfl)
  | (obtain ⟨t,rfl⟩:=rx;rfl)
theorem bR (b:Expr) {op:CmpOp} (h:op ≠ .In:=by decide) (h2:op ≠ .NotIn:=by decide):behindInMarks op b = false:=by
 have e1:(op == CmpOp.In) = false:=by cases op <;> first | rfl | exact absurd rfl h
 have e2:(op == CmpOp.NotIn) = false:=by cases op <;> first | rfl | exact absurd rfl h2
 cases b <;> simp [behindInMarks,e1,e2]
theorem cV {op:CmpOp} {r:R2} (ho:OpR X (compareOp op) r) (ha:PE X a ta) (hb:PE X b tb) (hm:behindInMarks op b = false):PE X (.Compare a [op] [b] pos) (tOp r ta tb):=by
 intro pins s σ H Q I h
 exact wpAny_Compare1 (aLC ha hb I h fun v u s2 x y H2 I2 rx ry q=>ho pins s2 σ H2 x y v u Q I2 rx ry q) hm
def aJH (t:TE):TT:=fun σ H Q=>t σ H fun x H'=>∃ k,x = .bl k ∧ Q k H'
theorem bZ {op:CmpOp} {r:R2} (ho:OpR X (compareOp op) r) (ha:PE X a ta) (hb:PE X b tb) (hm:behindInMarks op b = false):PT X (.Compare a [op] [b] pos) (aJH (tOp r ta tb)):=by
 intro pins s σ H Q I h
 refine wpAny_isTrue_Compare1 (thn (ha pins s σ H _ I h) fun v s1 ⟨x,H1,I1,r1,q1⟩=>thn (hb pins s1 σ H1 _ I1 q1) fun u s2 ⟨y,H2,I2,r2,q2⟩ =>
  thn (ho pins s2 σ H2 x y v u _ I2 r1 r2 q2) fun c s3 ⟨z,H3,I3,r3,k,e,q3⟩=>?_) hm
 subst e
 cases r3
 exact wpAny_truthy_bool ⟨H3,I3,q3⟩
def aEK (r r':R2) (ta tb tc:TE):TE:=fun σ H Q=>ta σ H fun x H1=>tb σ H1 fun y H2=>r x y H2 fun z H3=>∃ k,z = .bl k ∧
 (if k = true then tc σ H3 fun w' H4=>r' y w' H4 Q else Q (.bl false) H3)
theorem mK {op op':CmpOp} {r r':R2} (ho:OpR X (compareOp op) r) (ho':OpR X (compareOp op') r') (ha:PE X a ta) (hb:PE X b tb) (hc:PE X c tc)
  (hm:lastMarks [op,op'] [b,c] = false:=by with_unfolding_all rfl):PE X (.Compare a [op,op'] [b,c] pos) (aEK r r' ta tb tc):=by
 intro pins s σ H Q I h
 refine Compare_chain (thn (ha pins s σ H _ I h) fun v s1 ⟨x,H1,I1,r1,q1⟩=>chain_link (thn (hb pins s1 σ H1 _ I1 q1) fun u s2 ⟨y,H2,I2,r2,q2⟩ =>
  thn (ho pins s2 σ H2 x y v u _ I2 r1 r2 q2) fun d s3 ⟨z,H3,I3,r3,k,e,q3⟩=>?_)) hm
 subst e
 cases r3
 refine wpAny_truthy_bool ?_
 cases k with
 | false=>exact ite_ff ⟨.bl false,H3,I3,rfl,q3⟩
 | true=>exact ite_tt (chain_last (thn (hc pins s3 σ H3 _ I3 q3) fun w' s4 ⟨z',H4,I4,r4,q4⟩=>ho' pins s4 σ H4 y z' u w' Q I4 r2 r4 q4))
theorem aFI {op op':CmpOp} {r r':R2} (ho:OpR X (compareOp op) r) (ho':OpR X (compareOp op') r') (ha:PE X a ta) (hb:PE X b tb) (hc:PE X c tc)
  (hm:lastMarks [op,op'] [b,c] = false:=by with_unfolding_all rfl):PT X (.Compare a [op,op'] [b,c] pos) (aJH (aEK r r' ta tb tc)):=by
 intro pins s σ H Q I h
 refine isTrue_chain (thn (ha pins s σ H _ I h) fun v s1 ⟨x,H1,I1,r1,q1⟩=>test_link (thn (hb pins s1 σ H1 _ I1 q1) fun u s2 ⟨y,H2,I2,r2,q2⟩ =>
  thn (ho pins s2 σ H2 x y v u _ I2 r1 r2 q2) fun d s3 ⟨z,H3,I3,r3,k,e,q3⟩=>?_)) hm
 subst e
 cases r3
 refine wpAny_truthy_bool ?_
 cases k with
 | false =>
  obtain ⟨k',e',q'⟩:=q3
  cases e'
  exact ite_ff ⟨H3,I3,q'⟩
 | true =>
  refine ite_tt (test_last (thn (hc pins s3 σ H3 _ I3 q3) fun w' s4 ⟨z',H4,I4,r4,q4⟩=>thn (ho' pins s4 σ H4 y z' u w' _ I4 r2 r4 q4) fun d' s5 ⟨z2,H5,I5,r5,k2,e2,q5⟩=>?_))
  subst e2
  cases r5
  exact wpAny_truthy_bool ⟨H5,I5,q5⟩
theorem tI:(sizeLine:Nat) < 2 ^ 63:=by rw [sizeLine_eq];decide
theorem sR:OpR X (binaryOp .Add) (fun x y H Q=>∃ i j,x = .str i ∧ y = .str j ∧ i.length + j.length ≤ sizeLine ∧ Q (.str (i ++ j)) H):=by
 intro pins s σ H x y v u Q I rx ry h
 obtain ⟨i,j,rfl,rfl,hz,q⟩:=h
 obtain ⟨t,rfl⟩:=rx
 obtain ⟨t',rfl⟩:=ry
 exact add_str (fun t' tk=>⟨.str (i ++ j),H,I.tok _,⟨_,rfl⟩,q⟩) hz
theorem aAN {x:V} {us:List Value} (r:bH [x] us):∃ u,us = [u] ∧ bF x u:=by
 cases r with
 | cons r1 r2=>cases r2;exact ⟨_,rfl,r1⟩
theorem aJG {x y:V} {us:List Value} (r:bH [x,y] us):∃ u w',us = [u,w'] ∧ bF x u ∧ bF y w':=by
 cases r with
 | cons r1 r2 =>
  cases r2 with
  | cons r3 r4=>cases r4;exact ⟨_,_,rfl,r1,r3⟩
theorem iV (hc:X.calm = true):gH X (.builtin "max") (fun xs H Q=>∃ i j,xs = [.int i,.int j] ∧ Q (.int (if j > i then j else i)) H):=by
 intro pins s σ H xs us Q I r h
 obtain ⟨i,j,rfl,q⟩:=h
 obtain ⟨u,w',rfl,⟨t,rfl⟩,⟨t',rfl⟩⟩:=aJG r
 refine max_two_ints (I.ok.hd hc) fun h' tk k=>⟨_,H,I.kept k,?_,q⟩
 by_cases hj:j > i
 ·rw [if_pos hj,if_pos hj];exact ⟨_,rfl⟩
 ·rw [if_neg hj,if_neg hj];exact ⟨_,rfl⟩
theorem nW (hc:X.calm = true):gH X (.builtin "min") (fun xs H Q=>∃ i j,xs = [.int i,.int j] ∧ Q (.int (if j < i then j else i)) H):=by
 intro pins s σ H xs us Q I r h
 obtain ⟨i,j,rfl,q⟩:=h
 obtain ⟨u,w',rfl,⟨t,rfl⟩,⟨t',rfl⟩⟩:=aJG r
 refine min_two_ints (I.ok.hd hc) fun h' tk k=>⟨_,H,I.kept k,?_,q⟩
 by_cases hj:j < i
 ·rw [if_pos hj,if_pos hj];exact ⟨_,rfl⟩
 ·rw [if_neg hj,if_neg hj];exact ⟨_,rfl⟩
end
end L2
namespace L2
open PySem PySem.Spec PyProof.Rows
structure ObjM (h:Heap) (x dx C:Addr) (mA:Str → Option Value):Prop where
 obj:h.get? x = some (PySem.W.instObj C dx)
 ns:h.Ns1 dx mA
 ne:dx ≠ x
theorem aDA {h:Heap} {dx:Addr} {mA:Str → Option Value} (n:h.Ns1 dx mA):∃ od,h.get? dx = some od ∧ ∀ name,PySem.W.lookIn name od = some (mA name):=by
 obtain ⟨o,es,ep,ho,hd,hk,_,hm⟩:=n
 refine ⟨o,ho,fun name=>?_⟩
 have e:=hm name
 unfold nsFind findBy at e
 rw [← Array.find?_toList] at e
 unfold PySem.W.lookIn
 rw [hd]
 dsimp only
 split
 ·rename_i y q
  rw [q] at e
  exact congrArg some e
 ·rename_i q
  rw [q] at e
  have a:es.toList.any (·.refKey) = false:=by
   rw [List.any_eq_false]
   intro y hy
   obtain ⟨z,t,hkey⟩:=hk y (Array.mem_toList_iff.mp hy)
   simp [DictEntry.refKey,hkey]
  have a':¬ es.toList.any (·.refKey) = true:=by rw [a];exact Bool.false_ne_true
  rw [if_neg a']
  exact congrArg some e
theorem ObjM.look {h:Heap} {x dx C:Addr} {mA:Str → Option Value} (I:ObjM h x dx C mA):∃ od,PySem.W.InstAt h x (PySem.W.instObj C dx) C (some od) ∧ ∀ name,PySem.W.lookIn name od = some (mA name) :=
 let ⟨od,ho,hl⟩:=aDA I.ns
 ⟨od,⟨I.obj,rfl,rfl,ho⟩,hl⟩
section
variable {prog:Program} {w:World} {A:Around} {E:Value → Shared → Prop} {s:Shared} {K:PySem.W.Frag} {x dx C f:Addr} {mA:Str → Option Value} {name:Str} {v:Value}
theorem aIO {expr:Bool} {Q:Value → Shared → Prop} (X:K.In s.heap) (I:ObjM s.heap x dx C mA) (hg:PySem.W.plainGet K C name = true) (hh:PySem.W.hasDictIn K C = true)
  (ha:PySem.W.findIn K (.ref C) name = some none) (hv:mA name = some v) (hv':PySem.W.handedIn v = true) (h:Q v { s with toks:=s.toks + 1 }) :
  wpAny (model prog w) A (getAttr (.ref x) name expr) Q E s:=by
 obtain ⟨od,J,hl⟩:=I.look
 exact PySem.W.get_value X J (PySem.W.plainGet_of hg).1 (PySem.W.findObj_own hh ha rfl (by rw [hl,hv])) hv' h
theorem aGK {pl:Sem Bool} {Q:Value × List Value → Shared → Prop} (X:K.In s.heap) (I:ObjM s.heap x dx C mA) (hg:PySem.W.plainGet K C name = true)
  (hf:PySem.W.findIn K (.ref C) name = some (some (.ref f))) (ht:PySem.W.isFn K (.ref f) = true) (hv:mA name = none) (h:Q (.ref f,[.ref x]) s) :
  wpAny (model prog w) A (getMethod (.ref x) name pl) Q E s:=by
 obtain ⟨od,J,hl⟩:=I.look
 exact PySem.W.method_fn X J (PySem.W.plainGet_of hg).1 (PySem.W.plainGet_of hg).2 hf (beq_iff_eq.mp ht) (by show (PySem.W.lookIn name od).map (·.isSome) = some false;rw [hl,hv];rfl) h
theorem aHO {ns:List Str} {Q:Unit → Shared → Prop} (X:K.In s.heap) (I:ObjM s.heap x dx C mA)
  (hs:PySem.W.findIn K (.ref C) "__setattr__" = some (some (.builtin "object.__setattr__"))) (hp:PySem.W.plainOver K C = true) (ht:PySem.W.takerIn K C name = some none) (hh:PySem.W.hasDictIn K C = true)
  (hw:PySem.Within mA ns) (hsz:ns.length ≤ sizeLine)
  (h:∀ h',ObjM h' x dx C (fun y=>if y = name then some v else mA y) → Heap.SameBut dx s.heap h' → Q () { s with heap:=h',toks:=s.toks + 2 }) :
  wpAny (model prog w) A (setAttr (.ref x) name v) Q E s:=by
 obtain ⟨od,J,hl⟩:=I.look
 refine PySem.W.set_plain X J hs (PySem.W.osa_open (s:={ s with toks:=s.toks + 1 }) (r:=none) X J hp ht fun b=>?_)
 obtain ⟨cd,hc,hd'⟩:=PySem.W.any_some hh
 have hx:s.heap.get? x = some ⟨.ref C,some dx,.plain,#[]⟩:=I.obj
 refine wpAny_bind (wpAny_pure (wpAny_bind (wpAny_bind (wpAny_loadPart hx (wpAny_bind (PySem.W.Looks.here (s:={ s with toks:=s.toks + 1 }) (PySem.W.looks_clsIn X hc) ?_))))))
 rw [hd']
 refine wpAny_pure (a:=some dx) (wpAny_bind (wpAny_pure (wpAny_bind ?_)))
 refine wpAny_nsSet1 (s:={ s with toks:=s.toks + 1 }) I.ns fun h' hn2 hs2=>?_
 obtain ⟨oD,esD,epD,hoD,hdD,hcD⟩:=hn2.count (PySem.Within.cons name v hw)
 refine wpAny_bind (wpAny_lookBehind hoD (by rw [hdD];exact pastItsLine_dict (Nat.le_trans hcD (by rw [List.length_cons];omega))) ?_)
 exact wpAny_pure (h _ ⟨(hs2.2 _ (Ne.symm I.ne)).trans I.obj,hn2,I.ne⟩ hs2)
theorem yL {R:Result → Shared → Prop} {vs:List Value} {kw:List (Str × Value)} (X:K.In s.heap) (hm:PySem.W.makesIn K C = true)
  (hi:PySem.W.findIn K (.ref C) "__init__" = some (some (.ref f))) (hf:PySem.W.typeIn K (.ref f) = some (.type "function"))
  (h:codeAny (model prog w) (A.under (.builtin "type.__call__" ⟨.ref C :: vs,kw⟩)) (.call (.ref f) ⟨.ref (s.heap.objs.size + 1) :: vs,kw⟩) (PySem.W.InitBack (s.heap.objs.size + 1) R)
   { s with heap:=(s.heap.push PySem.W.emptyDict).push (PySem.W.instObj C s.heap.objs.size) }) :
  codeAny (model prog w) A (.call (.ref C) ⟨vs,kw⟩) R s:=by
 obtain ⟨hh,g,d,t,os⟩:=s
 exact PySem.W.make_core (PySem.W.makes_of X hm) (PySem.W.looks_findIn X hi) (fun self=>PySem.W.bind_fn X self hf) (.inl rfl) h
end
def cZ (f:Str) (v:V):List (Str × V) → List (Str × V)
 | []=>[(f,v)]
 | (g,x) :: r=>if g = f then (g,v) :: r else (g,x) :: cZ f v r
theorem aW (f g:Str) (v:V):∀ fs:List (Str × V),(cZ f v fs).lookup g = if g = f then some v else fs.lookup g
 | []=>by
  show List.lookup g [(f,v)] = _
  by_cases h:g = f
  ·have hb:(g == f) = true:=beq_iff_eq.mpr h
   simp only [List.lookup,hb,if_pos h]
  ·have hb:(g == f) = false:=beq_eq_false_iff_ne.mpr h
   simp only [List.lookup,hb,if_neg h]
 | (k,x) :: r=>by
  have ih:=aW f g v r
  rw [show cZ f v ((k,x) :: r) = (if k = f then (k,v) :: r else (k,x) :: cZ f v r) from rfl]
  by_cases hk:k = f
  ·rw [if_pos hk]
   by_cases h:g = k
   ·have hb:(g == k) = true:=beq_iff_eq.mpr h
    simp only [List.lookup,hb,if_pos (h.trans hk)]
   ·have hb:(g == k) = false:=beq_eq_false_iff_ne.mpr h
    simp only [List.lookup,hb,if_neg (fun e:g = f=>h (e.trans hk.symm))]
  ·rw [if_neg hk]
   by_cases h:g = k
   ·have hb:(g == k) = true:=beq_iff_eq.mpr h
    simp only [List.lookup,hb,if_neg (fun e:g = f=>hk (h.symm.trans e))]
   ·have hb:(g == k) = false:=beq_eq_false_iff_ne.mpr h
    simp only [List.lookup,hb]
    exact ih
theorem qK (f:Str) (v:V):∀ fs:List (Str × V),f ∈ (cZ f v fs).map (·.1) ∧ ∀ g,g ∈ fs.map (·.1) → g ∈ (cZ f v fs).map (·.1)
 | []=>⟨by simp [cZ],fun g h=>by simp at h⟩
 | (k,x) :: r=>by
  obtain ⟨i1,i2⟩:=qK f v r
  rw [show cZ f v ((k,x) :: r) = (if k = f then (k,v) :: r else (k,x) :: cZ f v r) from rfl]
  by_cases hk:k = f
  ·rw [if_pos hk]
   subst hk
   exact ⟨by simp,fun g h=>by simpa using h⟩
  ·rw [if_neg hk]
   refine ⟨?_,fun g h=>?_⟩
   ·rw [List.map_cons]
    exact List.mem_cons_of_mem _ i1
   ·rw [List.map_cons] at h ⊢
    rcases List.mem_cons.mp h with e | e
    ·exact List.mem_cons.mpr (.inl e)
    ·exact List.mem_cons_of_mem _ (i2 g e)
theorem qW (f:Str) (v:V):∀ fs:List (Str × V),(cZ f v fs).length ≤ fs.length + 1
 | []=>by simp [cZ]
 | (k,x) :: r=>by
  have ih:=qW f v r
  rw [show cZ f v ((k,x) :: r) = (if k = f then (k,v) :: r else (k,x) :: cZ f v r) from rfl]
  by_cases hk:k = f
  ·rw [if_pos hk,List.length_cons,List.length_cons];omega
  ·rw [if_neg hk,List.length_cons,List.length_cons];omega
theorem lZ.some_of {v:V} {o:Option Value} (r:lZ (some v) o):∃ u,o = some u ∧ bF v u:=by
 cases o with
 | none=>exact (show False from r).elim
 | some u=>exact ⟨u,rfl,r⟩
theorem lZ.none_of {o:Option Value} (r:lZ none o):o = none:=by
 cases o with
 | none=>rfl
 | some u=>exact (show False from r).elim
theorem aDG {v:V} {u:Value} (r:bF v u):PySem.W.handedIn u = true:=by
 cases v with
 | non=>cases (show u = Value.none from r);rfl
 | bl b=>cases (show u = Value.bool b from r);rfl
 | int i=>obtain ⟨t,e⟩:=(show ∃ t,u = Value.int i t from r);cases e;rfl
 | str x=>obtain ⟨t,e⟩:=(show ∃ t,u = Value.str x t from r);cases e;rfl
 | byt b=>obtain ⟨t,e⟩:=(show ∃ t,u = Value.bytes b t from r);cases e;rfl
 | flt b=>obtain ⟨t,e⟩:=(show ∃ t,u = Value.float b t from r);cases e;rfl
 | ref a=>cases (show u = Value.ref a from r);rfl
 | ty n=>cases (show u = Value.type n from r);rfl
section
variable {P:Program} {w:World} {H H':Hp} {h h':Heap} {a C dx:Addr} {fs fs':List (Str × V)}
theorem rQ (hok:HOk P w H h) (e:H a = some (.ins C dx fs)):∃ mA,ObjM h a dx C mA ∧ (∀ f,lZ (fs.lookup f) (mA f)) ∧ PySem.Within mA (fs.map (·.1)) ∧ fs.length ≤ 1000 ∧ H dx = some (.own a):=by
 obtain ⟨d,z,ne,ob,mA,n,r,q⟩:=(show cM P w H h a (.ins C dx fs) from hok a _ e)
 exact ⟨mA,⟨ob,n,ne⟩,r,q,z,d⟩
end
structure Cls (K:PySem.W.Frag) (C:Addr):Prop where
 pg:PySem.W.plainGet K C Str.empty = true
 hd:PySem.W.hasDictIn K C = true
 po:PySem.W.plainOver K C = true
 sa:PySem.W.findIn K (.ref C) "__setattr__" = some (some (.builtin "object.__setattr__"))
theorem Cls.get {K:PySem.W.Frag} {C:Addr} (c:Cls K C) (f:Str):PySem.W.plainGet K C f = true:=c.pg
def gD (K:PySem.W.Frag) (C:Addr) (f:Str):Prop:=PySem.W.findIn K (.ref C) f = some none
theorem gD.taker {K:PySem.W.Frag} {C:Addr} {f:Str} (n:gD K C f):PySem.W.takerIn K C f = some none:=by
 unfold PySem.W.takerIn
 rw [show PySem.W.findIn K (.ref C) f = some none from n]
 rfl
structure Con (K:PySem.W.Frag) (C:Addr) (f:Str) (v:V) (u:Value):Prop where
 at_:PySem.W.findIn K (.ref C) f = some (some u)
 rel:bF v u
 get:PySem.W.specialIn K u "__get__" = some none
 cp:PySem.W.copiedNames.contains f = false
structure Meth (K:PySem.W.Frag) (C:Addr) (m:Str) (f:Addr):Prop where
 at_:PySem.W.findIn K (.ref C) m = some (some (.ref f))
 fn:PySem.W.isFn K (.ref f) = true
 kp:PySem.W.keepIn K (.ref f) = true
section
variable {X:Cx} {pins:List (Addr × Obj)} {σ:St} {H:Hp} {s:Shared} {a C dx:Addr} {fs:List (Str × V)} {f:Str} {v:V} {A:Around} {E:Value → Shared → Prop}
theorem tO {b:Bool} {Q:Value → Shared → Prop} (I:Inv X pins σ H s) (e:H a = some (.ins C dx fs)) (c:Cls X.K C) (n:gD X.K C f) (l:fs.lookup f = some v)
  (h:∀ u s',Inv X pins σ H s' → bF v u → Q u s'):wpAny (model X.prog X.w) A (getAttr (.ref a) f b) Q E s:=by
 obtain ⟨mA,O,r,_,_,_⟩:=rQ I.hok e
 obtain ⟨u,hu,ru⟩:=lZ.some_of (v:=v) (o:=mA f) (by rw [← l];exact r f)
 exact aIO I.kIn O (c.get f) c.hd n hu (aDG ru) (h u _ (I.tok _) ru)
theorem oT {m:Str} {g:Addr} {pl:Sem Bool} {Q:Value × List Value → Shared → Prop} (I:Inv X pins σ H s) (e:H a = some (.ins C dx fs)) (c:Cls X.K C) (k:Meth X.K C m g) (l:fs.lookup m = none)
  (h:Q (.ref g,[.ref a]) s):wpAny (model X.prog X.w) A (getMethod (.ref a) m pl) Q E s:=by
 obtain ⟨mA,O,r,_,_,_⟩:=rQ I.hok e
 have hn:mA m = none:=lZ.none_of (by rw [← l];exact r m)
 exact aGK I.kIn O (c.get m) k.at_ k.fn hn h
theorem sF {y:V} {u:Value} {Q:Unit → Shared → Prop} (I:Inv X pins σ H s) (e:H a = some (.ins C dx fs)) (c:Cls X.K C) (n:gD X.K C f) (hl:fs.length < 1000) (ry:bF y u)
  (h:∀ s',Inv X pins σ (upd H a (.ins C dx (cZ f y fs))) s' → Q () s'):wpAny (model X.prog X.w) A (setAttr (.ref a) f u) Q E s:=by
 obtain ⟨mA,O,r,wi,_,ho⟩:=rQ I.hok e
 have hz:(fs.map (·.1)).length ≤ sizeLine:=by rw [List.length_map,sizeLine_eq];omega
 refine aHO I.kIn O c.sa c.po n.taker c.hd wi hz fun h' O' sb=>h _ ?_
 have hd:∃ o,h'.get? dx = some o:=let ⟨o,_,_,e',_⟩:=O'.ns;⟨o,e'⟩
 refine I.write (x:=a) (e:=dx) (by rw [e];exact True.intro) (.inr ho) (fun b q hb z=>(sb.2 b hb).trans z) hd ?_
 refine ⟨by rw [aT O.ne];exact ho,?_,O.ne,O'.obj,_,O'.ns,fun g=>?_,fun g hg=>?_⟩
 ·have:=qW f y fs;omega
 ·show lZ ((cZ f y fs).lookup g) (if g = f then some u else mA g)
  rw [aW]
  by_cases q:g = f
  ·rw [if_pos q,if_pos q];exact ry
  ·rw [if_neg q,if_neg q];exact r g
 ·by_cases q:g = f
  ·rw [q];exact (qK f y fs).1
  ·refine (qK f y fs).2 g (wi g fun z=>hg ?_)
   show (if g = f then some u else mA g) = none
   rw [if_neg q];exact z
theorem Inv.made (I:Inv X pins σ H s):Inv X pins σ (upd (upd H s.heap.objs.size (.own (s.heap.objs.size + 1))) (s.heap.objs.size + 1) (.ins C s.heap.objs.size []))
  { s with heap:=(s.heap.push PySem.W.emptyDict).push (PySem.W.instObj C s.heap.objs.size) }:=by
 have e1:(s.heap.push PySem.W.emptyDict).get? s.heap.objs.size = some PySem.W.emptyDict:=Heap.get?_push_size s.heap rfl
 have e2:((s.heap.push PySem.W.emptyDict).push (PySem.W.instObj C s.heap.objs.size)).get? (s.heap.objs.size + 1) = some (PySem.W.instObj C s.heap.objs.size):=by
  have:=Heap.get?_push_size (s.heap.push PySem.W.emptyDict) (o:=PySem.W.instObj C s.heap.objs.size) rfl
  rwa [Heap.size_push] at this
 have e3:(s.heap.push PySem.W.emptyDict).Ns s.heap.objs.size (fun _=>none):=⟨PySem.W.emptyDict,#[],_,e1,rfl,(fun e he=>absurd he (by simp)),fun _=>rfl⟩
 have I1:=I.laid (a:=s.heap.objs.size) (o:=.own (s.heap.objs.size + 1)) (h':=s.heap.push PySem.W.emptyDict) (t':=s.toks) (fun b u q=>Heap.get?_push_of_some _ q) (Nat.le_refl _) ⟨_,e1⟩
 refine I1.laid (a:=s.heap.objs.size + 1) (o:=.ins C s.heap.objs.size []) (t':=s.toks) (fun b u q=>Heap.get?_push_of_some _ q) (Nat.le_of_eq (Heap.size_push _ _)) ?_
 have ne:s.heap.objs.size ≠ s.heap.objs.size + 1:=Nat.ne_of_lt (Nat.lt_succ_self _)
 refine ⟨by rw [aT ne,aB],Nat.zero_le _,ne,e2,fun _=>none,(Heap.Ns1.of_empty e3).at fun o q=>Heap.get?_push_of_some _ q,fun _=>True.intro,fun y hy=>absurd rfl hy⟩
theorem aIY {prog:Program} {w:World} {env:Env} {e:Expr} {f:Str} {pos:Pos} {s:Shared} {Q:Value → Shared → Prop} (hb:attributeBase e f env (eval e env) = eval e env)
  (h:wpAny (model prog w) A (eval e env) (fun o s₁=>wpAny (model prog w) A (getAttr o f true) Q E s₁) E s):wpAny (model prog w) A (eval (.Attribute e f pos) env) Q E s :=
 Attribute_any_ h (by rw [arm_eval_Attribute,hb])
end
def aNI (K:PySem.W.Frag) (ta:TE) (f:Str):TE:=fun σ H Q=>ta σ H fun x H1=>∃ a C dx fs v,x = .ref a ∧ H1 a = some (.ins C dx fs) ∧ Cls K C ∧ gD K C f ∧ fs.lookup f = some v ∧ Q v H1
def aNN (K:PySem.W.Frag) (ta tv:TE) (f:Str):TS:=fun D σ H=>tv σ H fun y H1=>ta σ H1 fun x H2=>∃ a C dx fs,x = .ref a ∧ H2 a = some (.ins C dx fs) ∧ Cls K C ∧ gD K C f ∧ fs.length < 1000 ∧
 D.nx σ (upd H2 a (.ins C dx (cZ f y fs)))
def aLH (X:Cx) (op:Operator) (rd:V → V → Hp → VK → Prop):Prop :=
 ∀ (pins:List (Addr × Obj)) (s:Shared) (σ:St) (H:Hp) (x y:V) (u v:Value) (Q:VK),Inv X pins σ H s → bF x u → bF y v → rd x y H Q → wpAny (model X.prog X.w) X.A (inplaceOp op u v) (EP X pins σ Q) X.xe s
def aHP (K:PySem.W.Frag) (ta tv:TE) (rd:V → V → Hp → VK → Prop) (f:Str):TS:=fun D σ H=>ta σ H fun x H1=>∃ a C dx fs v,x = .ref a ∧ H1 a = some (.ins C dx fs) ∧ Cls K C ∧ gD K C f ∧ fs.lookup f = some v ∧
 tv σ H1 fun y H2=>rd v y H2 fun z H3=>∃ dx' fs',H3 a = some (.ins C dx' fs') ∧ fs'.length < 1000 ∧ D.nx σ (upd H3 a (.ins C dx' (cZ f z fs')))
section
variable {X:Cx} {o e value:Expr} {f:Str} {pos pos' tpos:Pos} {ta tv:TE}
theorem fL (he:PE X e ta) (hb:attributeBase e f X.env (eval e X.env) = eval e X.env):PE X (.Attribute e f pos) (aNI X.K ta f):=by
 intro pins s σ H Q I h
 refine aIY hb (thn (he pins s σ H _ I h) fun u s1 ⟨x,H1,I1,rx,a,C,dx,fs,v,ex,ea,c,n,l,q⟩=>?_)
 subst ex
 obtain rfl:u = Value.ref a:=rx
 exact tO I1 ea c n l fun u' s2 I2 ru=>⟨v,H1,I2,ru,q⟩
theorem jW (ha:PE X o ta) (hv:PE X value tv) (hs:swapsWith value (some (.Attribute o f pos')) pos.line X.env = pure false):PS X (.Assign [.Attribute o f pos'] value pos) (aNN X.K ta tv f):=by
 intro pins s σ H D I h
 refine plainObj_wpAny_Assign_Attribute (thn (hv pins s σ H _ I h) fun u s1 ⟨y,H1,I1,ry,q⟩=>thn (ha pins s1 σ H1 _ I1 q) fun ov s2 ⟨x,H2,I2,rx,a,C,dx,fs,ex,ea,c,n,l,q2⟩=>?_) hs
 subst ex
 obtain rfl:ov = Value.ref a:=rx
 exact sF I2 ea c n l ry fun s3 I3=>⟨σ,_,I3,q2⟩
theorem aCP {op:Operator} {rd:V → V → Hp → VK → Prop} (ha:PE X o ta) (hv:PE X value tv) (hop:aLH X op rd):PS X (.AugAssign (.Attribute o f tpos) op value pos) (aHP X.K ta tv rd f):=by
 intro pins s σ H D I h
 refine wpAny_AugAssign_AttributeAny (thn (ha pins s σ H _ I h) fun ov s1 ⟨x,H1,I1,rx,a,C,dx,fs,v,ex,ea,c,n,l,q⟩=>?_)
 subst ex
 obtain rfl:ov = Value.ref a:=rx
 refine tO I1 ea c n l fun u s2 I2 ru=>thn (hv pins s2 σ H1 _ I2 q) fun w3 s3 ⟨y,H2,I3,ry,q3⟩=>thn (hop pins s3 σ H2 v y u w3 _ I3 ru ry q3) fun w4 s4 ⟨z,H3,I4,rz,dx',fs',ea',l',q4⟩=>?_
 exact sF I4 ea' c n l' rz fun s5 I5=>⟨σ,_,I5,q4⟩
def aNR:V → V → Hp → VK → Prop:=fun x y H Q=>∃ i j,x = .int i ∧ y = .int j ∧ Q (.int (i + j)) H
theorem aGF:aLH X .Add aNR:=by
 rintro pins s σ H x y u v Q I rx ry ⟨i,j,rfl,rfl,q⟩
 obtain ⟨t,rfl⟩:=(show ∃ t,u = Value.int i t from rx)
 obtain ⟨t',rfl⟩:=(show ∃ t',v = Value.int j t' from ry)
 exact PyProof.Rows.iadd_int ⟨.int (i + j),H,I.tok _,⟨_,rfl⟩,q⟩
end
section
variable {X:Cx} {pins:List (Addr × Obj)} {σ:St} {H:Hp} {s:Shared} {A:Around} {E:Value → Shared → Prop} {Q:Value → Shared → Prop} {c:Value} {b:Bool}
inductive TyOf (K:PySem.W.Frag) (H:Hp):V → Value → Prop where
 | non:TyOf K H .non (.type "NoneType")
 | bl (x:Bool):TyOf K H (.bl x) (.type "bool")
 | int (i:Int):TyOf K H (.int i) (.type "int")
 | str (x:Str):TyOf K H (.str x) (.type "str")
 | flt (x:UInt64):TyOf K H (.flt x) (.type "float")
 | lst {a:Addr} {xs:List V} (e:H a = some (.lst xs)):TyOf K H (.ref a) (.type "list")
 | frz {a:Addr} {o:Obj} {xs:List V} (e:H a = some (.frz o (.lst xs))):TyOf K H (.ref a) (.type "list")
 | tup {a:Addr} {xs:List V} (e:H a = some (.tup xs)):TyOf K H (.ref a) (.type "tuple")
 | dK {a:Addr} {kvs:List (Key × V)} (e:H a = some (.dK kvs)):TyOf K H (.ref a) (.type "dict")
 | dT {a:Addr} {kvs:List (List Key × V)} (e:H a = some (.dT kvs)):TyOf K H (.ref a) (.type "dict")
 | ins {a C dx:Addr} {fs:List (Str × V)} (e:H a = some (.ins C dx fs)) (cl:Cls K C) (ha:PySem.W.findIn K (.ref C) "__class__" = some (some (.builtin "object.__class__")))
   (hn:PySem.W.specialIn K (.builtin "object.__class__") "__get__" = some (some (.builtin "getset_descriptor.__get__"))) (htk:PySem.W.takesIn K (.builtin "object.__class__") = some true)
   (hm:PySem.W.mroIn K C (.type "object") = some true):TyOf K H (.ref a) (.ref C)
theorem aDC {x:V} {u t:Value} (I:Inv X pins σ H s) (rx:bF x u) (ty:TyOf X.K H x t) (e:PySem.W.kitOne X.K t c = some b) (h:∀ tk,Q (.bool b) { s with toks:=tk }) :
  wpAny (model X.prog X.w) A (call (.builtin "isinstance") [u,c]) Q E s:=by
 cases ty with
 | non=>cases (show u = Value.none from rx);exact PySem.W.kia_one PySem.W.kitx_none I.kIn True.intro e (fun z=>nomatch z) h
 | bl y=>cases (show u = Value.bool y from rx);exact PySem.W.kia_one PySem.W.kitx_bool I.kIn True.intro e (fun z=>nomatch z) h
 | int i=>obtain ⟨t,q⟩:=(show ∃ t,u = Value.int i t from rx);cases q;exact PySem.W.kia_one PySem.W.kitx_int I.kIn True.intro e (fun z=>nomatch z) h
 | str y=>obtain ⟨t,q⟩:=(show ∃ t,u = Value.str y t from rx);cases q;exact PySem.W.kia_one PySem.W.kitx_str I.kIn True.intro e (fun z=>nomatch z) h
 | flt y=>obtain ⟨t,q⟩:=(show ∃ t,u = Value.float y t from rx);cases q;exact PySem.W.kia_one PySem.W.kitx_float I.kIn True.intro e (fun z=>nomatch z) h
 | @lst a xs ea =>
  cases (show u = Value.ref a from rx)
  obtain ⟨_,_,n,_,h1⟩:=(show cM X.prog X.w H s.heap a (.lst xs) from I.hok a _ ea)
  exact PySem.W.kia_one PySem.W.kitx_list I.kIn ⟨_,h1,rfl⟩ e (fun z=>nomatch z) h
 | @frz a ob xs ea =>
  cases (show u = Value.ref a from rx)
  obtain ⟨_,_,_,n,_,h1⟩:=(show cM X.prog X.w H s.heap a (.frz ob (.lst xs)) from I.hok a _ ea)
  exact PySem.W.kia_one PySem.W.kitx_list I.kIn ⟨_,h1,rfl⟩ e (fun z=>nomatch z) h
 | @tup a xs ea =>
  cases (show u = Value.ref a from rx)
  obtain ⟨_,_,_,p⟩:=(show cM X.prog X.w H s.heap a (.tup xs) from I.hok a _ ea)
  obtain ⟨o,h1,h2,_⟩:=p
  exact PySem.W.kia_one PySem.W.kitx_tuple I.kIn ⟨o,h1,h2⟩ e (fun z=>nomatch z) h
 | @dK a kvs ea =>
  cases (show u = Value.ref a from rx)
  obtain ⟨_,_,vs,_,p⟩:=(show cM X.prog X.w H s.heap a (.dK kvs) from I.hok a _ ea)
  obtain ⟨o,es,ep,h1,h2,_⟩:=p
  exact PySem.W.kia_one PySem.W.kitx_dict I.kIn ⟨o,h1,h2.1⟩ e (fun z=>nomatch z) h
 | @dT a kvs ea =>
  cases (show u = Value.ref a from rx)
  obtain ⟨_,_,xs,_,o,es,ep,h1,h2,_⟩:=(show cM X.prog X.w H s.heap a (.dT kvs) from I.hok a _ ea)
  exact PySem.W.kia_one PySem.W.kitx_dict I.kIn ⟨o,h1,h2.1⟩ e (fun z=>nomatch z) h
 | @ins a C dx fs ea cl ha hn htk hm =>
  cases (show u = Value.ref a from rx)
  obtain ⟨mA,O,_⟩:=rQ I.hok ea
  obtain ⟨od,J,_⟩:=O.look
  exact PySem.W.kia_one (PySem.W.kitx_own (cl.get _) cl.hd ha hn htk hm) I.kIn J e (fun z=>nomatch z) h
end
end L2
namespace L2
open PySem PySem.Spec PyProof.Rows
structure Room (k:Nat) (A:Around):Prop where
 hd:A.handled = none
 dp:A.depth + 3 * k + 5 < recursionLimit
 un:A.units + 16 * k + 200 < cLine
theorem Room.mono {j k:Nat} {A:Around} (r:Room k A) (h:j ≤ k):Room j A:=⟨r.hd,by have:=r.dp;omega,by have:=r.un;omega⟩
theorem Room.deeper {k:Nat} {A:Around} (r:Room (k + 1) A) (env:Env):Room k (A.deeper env) :=
 ⟨r.hd,by have:=r.dp;show A.depth + 1 + 3 * k + 5 < _;omega,by have:=r.un;show A.units + 3 + 16 * k + 200 < _;omega⟩
theorem zV {A:Around} {C:Addr} {us:List Value} {kw:List (Str × Value)}:(A.under (.builtin "type.__call__" ⟨.ref C :: us,kw⟩)).depth = A.depth + 1:=by
 first | rfl | simp [Around.under,Code.weight,Code.isCreation,Code.isGuard,Code.isCaller,Code.frames,Code.isFrame,guardIds]
theorem zU {A:Around} {C:Addr} {us:List Value} {kw:List (Str × Value)}:(A.under (.builtin "type.__call__" ⟨.ref C :: us,kw⟩)).units = A.units + 1:=by
 first | rfl | simp [Around.under,Code.cUnits,Code.frames,Code.isFrame]
theorem Room.make {k:Nat} {A:Around} (r:Room (k + 1) A) (C:Addr) (us:List Value) (kw:List (Str × Value)):Room k (A.under (.builtin "type.__call__" ⟨.ref C :: us,kw⟩)) :=
 ⟨r.hd,by have:=r.dp;rw [zV];omega,by have:=r.un;rw [zU];omega⟩
theorem Room.depth {k:Nat} {A:Around} (r:Room k A):A.depth < recursionLimit:=by have:=r.dp;omega
theorem Room.units {k:Nat} {A:Around} (r:Room k A):A.units + 64 < cLine:=by have:=r.un;omega
def aJZ:TA:=fun _ H Q=>Q [] H
def aLS (ta:TE) (tr:TA):TA:=fun σ H Q=>ta σ H fun x H1=>tr σ H1 fun xs H2=>Q (x :: xs) H2
section
variable {X:Cx} {e:Expr} {es:List Expr} {te:TE} {t:TA} {pos:Pos}
theorem aD:PA X [] aJZ:=fun _ _ _ _ H Q I h=>Calls.spliced_nil ⟨[],H,I,.nil,h⟩
theorem aA (ha:PE X e te) (hr:PA X es t) (hs:starEach (e :: es) X.env = (false,eval e X.env) :: starEach es X.env:=by rfl):PA X (e :: es) (aLS te t):=by
 intro pos pins s σ H Q I h
 rw [hs]
 show wpAny _ _ (spliced ((false,eval e X.env) :: backTo pos (starEach es X.env))) _ _ s
 refine Calls.spliced_cons (thn (ha pins s σ H _ I h) fun u s1 ⟨x,H1,I1,r1,q1⟩=>?_)
 exact thn (hr pos pins s1 σ H1 _ I1 q1) fun us s2 ⟨xs,H2,I2,r2,q2⟩=>⟨x :: xs,H2,I2,.cons r1 r2,q2⟩
def aNC (t:TA):TE:=fun σ H Q=>t σ H fun xs H1=>xs.length ≤ sizeLine ∧ ∀ p,H1 p = none → Q (.ref p) (upd H1 p (.tup xs))
def aNG (t:TA):TE:=fun σ H Q=>t σ H fun xs H1=>xs.length ≤ sizeLine ∧ ∀ p,H1 p = none → Q (.ref p) (upd H1 p (.lst xs))
theorem bI {x1} (h:PA X es t):PE X (.Tuple es x1 pos) (aNC t):=by
 intro pins s σ H Q I hq
 refine wpAny_Tuple_spliced (thn (h pos pins s σ H _ I hq) fun us s1 ⟨xs,H1,I1,r,z,q⟩=>⟨by rw [← r.length];exact z,?_⟩)
 have hf:H1 s1.heap.objs.size = none:=I1.hok.fresh (Nat.le_refl _)
 refine ⟨.ref s1.heap.objs.size,upd H1 s1.heap.objs.size (.tup xs),I1.laid (t':=s1.toks) (fun b u e=>Heap.get?_push_of_some _ e) (Nat.le_refl _) ?_,rfl,q _ hf⟩
 exact ⟨z,us,r,⟨_,Heap.get?_push_size _ rfl,rfl,_,rfl,rfl⟩⟩
theorem bK (h:PA X es t):PE X (.List es pos) (aNG t):=by
 intro pins s σ H Q I hq
 refine wpAny_List_spliced (thn (h pos pins s σ H _ I hq) fun us s1 ⟨xs,H1,I1,r,z,q⟩=>⟨by rw [← r.length];exact z,?_⟩)
 have hf:H1 s1.heap.objs.size = none:=I1.hok.fresh (Nat.le_refl _)
 refine ⟨.ref s1.heap.objs.size,upd H1 s1.heap.objs.size (.lst xs),I1.laid (t':=s1.toks) (fun b u e=>Heap.get?_push_of_some _ e) (Nat.le_refl _) ?_,rfl,q _ hf⟩
 exact ⟨z,us,0,r,Heap.get?_push_size _ rfl⟩
end
abbrev Sp:=List V → Hp → VK → XK → Prop
abbrev CXT:=List Env → Hp → Shared → XK → Value → Shared → Prop
structure Env0 (P:Program) (w:World) (K:PySem.W.Frag) (mg:Str → Option Value) (base:Heap) (A:Around) (outer:List Env) (s:Shared) (H:Hp):Prop where
 frames:A.frames = some outer
 mod:Mod K mg base
 bs:∀ b o,base.get? b = some o → s.heap.get? b = some o ∧ H b = none
 bsz:base.objs.size ≤ s.heap.objs.size
 funs:s.heap.FunFrames base outer
 frf:∀ b ∈ frs outer,H b = none
 hok:HOk P w H s.heap
 bare:AllBare s.gens
def CE (outer:List Env) (P:Program) (w:World) (H:Hp) (s:Shared) (Q:VK) (u:Value) (s':Shared):Prop :=
 ∃ v H',s'.os = s.os ∧ AllBare s'.gens ∧ Un (frs outer) [] H H' s.heap s'.heap ∧ HOk P w H' s'.heap ∧ bF v u ∧ Q v H'
def CR (CX:CXT) (outer:List Env) (P:Program) (w:World) (H:Hp) (s:Shared) (Q:VK) (E:XK) (r:Result) (s':Shared):Prop :=
 match r with
 | .ok (.ret u)=>CE outer P w H s Q u s'
 | .ok _=>False
 | .error e=>CX outer H s E e s'
structure FnOk (P:Program) (w:World) (K:PySem.W.Frag) (mg:Str → Option Value) (base:Heap) (CX:CXT) (k:Nat) (f:Addr) (fd:FuncData) (ps:List Str) (sp:Sp):Prop where
 len:∀ vs H Q E,sp vs H Q E → vs.length = ps.length
 run:∀ (A:Around) (outer:List Env) (s:Shared) (H:Hp) (args:Args) (us:List Value) (vs:List V) (Q:VK) (E:XK),Room k A → Env0 P w K mg base A outer s H → BindsTo s fd args (ps.zip us) → bH vs us → sp vs H Q E →
  codeAny (model P w) A (.call (.ref f) args) (CR CX outer P w H s Q E) s
theorem FnOk.imp {P:Program} {w:World} {K:PySem.W.Frag} {mg:Str → Option Value} {base:Heap} {CX:CXT} {k:Nat} {f:Addr} {fd:FuncData} {ps:List Str} {sp sp':Sp} (F:FnOk P w K mg base CX k f fd ps sp)
  (h:∀ vs H Q E,sp' vs H Q E → sp vs H Q E):FnOk P w K mg base CX k f fd ps sp' :=
 ⟨fun vs H Q E q=>F.len vs H Q E (h _ _ _ _ q),fun A outer s H args us vs Q E hr he hb hv hs=>F.run A outer s H args us vs Q E hr he hb hv (h _ _ _ _ hs)⟩
theorem Env0.make {P:Program} {w:World} {K:PySem.W.Frag} {mg:Str → Option Value} {base:Heap} {A:Around} {outer:List Env} {s:Shared} {H:Hp} (e:Env0 P w K mg base A outer s H) (C:Addr) (us:List Value) (kw:List (Str × Value)) :
  Env0 P w K mg base (A.under (.builtin "type.__call__" ⟨.ref C :: us,kw⟩)) outer s H:=⟨by first | exact e.frames | (simpa [Around.under,Code.envs,Code.isFrame,pushEnvs] using e.frames),e.mod,e.bs,e.bsz,e.funs,e.frf,e.hok,e.bare⟩
section
variable {X:Cx} {pins:List (Addr × Obj)} {σ:St} {H:Hp} {s s':Shared}
theorem Inv.env0 (I:Inv X pins σ H s):Env0 X.prog X.w X.K X.mg X.base X.A X.stack s H :=
 ⟨I.ok.frames,I.ok.mod,I.bs,Nat.le_trans I.ok.bsz I.sz,I.stack,I.stkFree,I.hok,I.bare⟩
theorem Inv.after {Q:VK} {u:Value} (I:Inv X pins σ H s) (h:CE X.stack X.prog X.w H s Q u s'):EP X pins σ Q u s':=by
 obtain ⟨v,H',os,bare,un,hok,r,q⟩:=h
 obtain ⟨hh,g,d,t,os'⟩:=s'
 obtain rfl:os' = s.os:=os
 exact ⟨v,H',I.call (h':=hh) (g':=g) (d':=d) (t':=t) (ch:=[]) un hok bare (fun b z=>absurd z (by simp)),r,q⟩
end
def aEL (sp:Sp) (dvs:List V) (E:XK) (t:TA):TE:=fun σ H Q=>t σ H fun vs H1=>sp (vs ++ dvs) H1 Q E
def xE (C:Addr) (m:Str) (sp:Sp) (dvs:List V) (E:XK) (ta:TE) (t:TA):TE:=fun σ H Q=>ta σ H fun x H1=>∃ a dx fs,x = .ref a ∧ H1 a = some (.ins C dx fs) ∧ fs.lookup m = none ∧
 t σ H1 fun vs H2=>sp (x :: (vs ++ dvs)) H2 Q E
def aEI (C:Addr) (sp:Sp) (dvs:List V) (E:XK) (t:TA):TE:=fun σ H Q=>t σ H fun vs H1=>∀ x dx,H1 x = none → H1 dx = none → dx ≠ x →
 sp (.ref x :: (vs ++ dvs)) (upd (upd H1 dx (.own x)) x (.ins C dx [])) (fun v H2=>v = .non ∧ Q (.ref x) H2) E
def gI (K:PySem.W.Frag) (fd:FuncData) (ps:List Str) (ds:List Value):Prop :=
 ∀ (s:Shared) (us:List Value),K.In s.heap → (us ++ ds).length = ps.length → BindsTo s fd ⟨us,[]⟩ (ps.zip (us ++ ds))
theorem gI.all {K:PySem.W.Frag} {fd:FuncData} {ps:List Str} (h:∀ us:List Value,us.length = ps.length → bindArgs fd ⟨us,[]⟩ = pure (ps.zip us)):gI K fd ps []:=fun s us _ hl=>by
 rw [List.append_nil] at hl ⊢
 exact .of_eq (h us hl)
def lP (CX:CXT) (X:Cx) (E:XK):Prop:=∀ (pins:List (Addr × Obj)) (σ:St) (H:Hp) (s:Shared) (e:Value) (s':Shared),Inv X pins σ H s → CX X.stack H s E e s' → X.xe e s'
section
variable {X:Cx} {CX:CXT} {k:Nat} {f C:Addr} {fd:FuncData} {ps:List Str} {sp:Sp} {dvs:List V} {ds:List Value} {E:XK} {x m:Str} {p pos apos:Pos} {e o:Expr} {es:List Expr} {ta:TE} {t:TA}
theorem zK {pins:List (Addr × Obj)} {σ:St} {H:Hp} {s:Shared} {Q:VK} {us:List Value} {vs:List V} (F:FnOk X.prog X.w X.K X.mg X.base CX k f fd ps sp) (hr:Room k X.A) (hb:gI X.K fd ps ds) (hd:bH dvs ds) (hx:lP CX X E)
  (I:Inv X pins σ H s) (r:bH vs us) (h:sp (vs ++ dvs) H Q E):wpAny (model X.prog X.w) X.A (call (.ref f) us) (EP X pins σ Q) X.xe s:=by
 have r2:bH (vs ++ dvs) (us ++ ds):=r.append hd
 have hl:(us ++ ds).length = ps.length:=by rw [← r2.length];exact F.len _ _ _ _ h
 refine wpAny_call (codeAny_mono (F.run X.A X.stack s H ⟨us,[]⟩ (us ++ ds) (vs ++ dvs) Q E hr I.env0 (hb s us I.kIn hl) r2 h) fun r s' hq=>?_)
 cases r with
 | error e=>exact hx pins σ H s e s' I hq
 | ok fl =>
  cases fl with
  | ret u=>exact I.after hq
  | next=>exact False.elim hq
  | brk=>exact False.elim hq
  | cont=>exact False.elim hq
theorem aBO (F:FnOk X.prog X.w X.K X.mg X.base CX k f fd ps sp) (hr:Room k X.A) (hg:Gl X x) (hm:X.mg x = some (.ref f)) (hk:PySem.W.keepIn X.K (.ref f) = true) (hb:gI X.K fd ps ds) (hd:bH dvs ds) (hx:lP CX X E)
  (ha:PA X (e :: es) t) (hdb:(x == ("__debug__":Str)) = false:=by decide) (he:starEach (e :: es) X.env = (false,eval e X.env) :: starEach es X.env:=by rfl) (hpl:(backTo pos (starEach es X.env)).any (·.1) = false:=by rfl) :
  PE X (.Call (.Name x p) (e :: es) [] pos) (aEL sp dvs E t):=by
 intro pins s σ H Q I h
 refine wpAny_Call_Name_kw (nR I hg hm ?_ hdb)
 refine PySem.W.callWith_K (h₀:=X.base) I.ok.mod.kin hk (thn (ha pos pins s σ H _ I h) fun us s1 ⟨vs,H1,I1,r,q⟩=>⟨I1.kIn,?_⟩) he hpl
 exact zK F hr hb hd hx I1 r q
theorem aHZ {pl:Sem Bool} (he:PE X o ta) (c:Cls X.K C) (hm:Meth X.K C m f) (F:FnOk X.prog X.w X.K X.mg X.base CX k f fd ps sp) (hr:Room k X.A) (hb:gI X.K fd ps ds) (hd:bH dvs ds) (hx:lP CX X E) (ha:PA X (e :: es) t)
  (hst:starEach (e :: es) X.env = (false,eval e X.env) :: starEach es X.env:=by rfl) (hpl:(backTo pos (starEach es X.env)).any (·.1) = false:=by rfl)
  (ht:eval (.Call (.Attribute o m apos) (e :: es) [] pos) X.env = (do
   let ov ← eval o X.env
   standAt apos.atName
   let (f,first) ← holding [ov] (getMethod ov m pl)
   callWith pos f first (backTo pos (starEach (e :: es) X.env)) (backToKw pos (keywordEach [] X.env))):=by rfl) :
  PE X (.Call (.Attribute o m apos) (e :: es) [] pos) (xE C m sp dvs E ta t):=by
 intro pins s σ H Q I h
 refine PySem.W.methodCall_KW (pl:=pl) (thn (he pins s σ H _ I h) fun u s1 ⟨x,H1,I1,rx,a,dx,fs,ex,ea,l,q⟩=>?_) ht
 subst ex
 obtain rfl:u = Value.ref a:=rx
 refine oT I1 ea c hm l ?_
 refine PySem.W.callWith_K (first:=[.ref a]) (h₀:=X.base) I.ok.mod.kin hm.kp (thn (ha pos pins s1 σ H1 _ I1 q) fun us s2 ⟨vs,H2,I2,r,q2⟩=>⟨I2.kIn,?_⟩) hst hpl
 exact zK (us:=.ref a :: us) (vs:=.ref a :: vs) F hr hb hd hx I2 (.cons rfl r) q2
theorem aFN {pl:Sem Bool} (he:PE X o ta) (c:Cls X.K C) (hm:Meth X.K C m f) (F:FnOk X.prog X.w X.K X.mg X.base CX k f fd ps sp) (hr:Room k X.A) (hb:gI X.K fd ps ds) (hd:bH dvs ds) (hx:lP CX X E)
  (ht:eval (.Call (.Attribute o m apos) [] [] pos) X.env = (do
   let ov ← eval o X.env
   standAt apos.atName
   let (f,first) ← holding [ov] (getMethod ov m pl)
   callWith pos f first (backTo pos (starEach [] X.env)) (backToKw pos (keywordEach [] X.env))):=by rfl) :
  PE X (.Call (.Attribute o m apos) [] [] pos) (xE C m sp dvs E ta aJZ):=by
 intro pins s σ H Q I h
 refine PySem.W.methodCall_KW (pl:=pl) (thn (he pins s σ H _ I h) fun u s1 ⟨x,H1,I1,rx,a,dx,fs,ex,ea,l,q⟩=>?_) ht
 subst ex
 obtain rfl:u = Value.ref a:=rx
 refine oT I1 ea c hm l ?_
 exact PySem.W.callWith_K0 (first:=[.ref a]) I1.kIn hm.kp (zK (us:=[.ref a]) (vs:=[.ref a]) F hr hb hd hx I1 (.cons rfl .nil) q)
structure Mk (K:PySem.W.Frag) (C f:Addr):Prop where
 makes:PySem.W.makesIn K C = true
 init:PySem.W.findIn K (.ref C) "__init__" = some (some (.ref f))
 fn:PySem.W.isFn K (.ref f) = true
 kp:PySem.W.keepIn K (.ref C) = true
theorem aFD {pins:List (Addr × Obj)} {σ:St} {H:Hp} {s:Shared} {Q:VK} {us:List Value} {vs:List V} (M:Mk X.K C f) (F:FnOk X.prog X.w X.K X.mg X.base CX k f fd ps sp) (hr:Room (k + 1) X.A) (hb:gI X.K fd ps ds) (hd:bH dvs ds)
  (hx:lP CX X E) (I:Inv X pins σ H s) (r:bH vs us)
  (h:∀ x dx,H x = none → H dx = none → dx ≠ x → sp (.ref x :: (vs ++ dvs)) (upd (upd H dx (.own x)) x (.ins C dx [])) (fun v H2=>v = .non ∧ Q (.ref x) H2) E) :
  wpAny (model X.prog X.w) X.A (call (.ref C) us) (EP X pins σ Q) X.xe s:=by
 have hq:=h (s.heap.objs.size + 1) s.heap.objs.size (I.hok.fresh (Nat.le_succ _)) (I.hok.fresh (Nat.le_refl _)) (Nat.ne_of_lt (Nat.lt_succ_self _))
 have I2:=Inv.made (C:=C) I
 have r2:bH (V.ref (s.heap.objs.size + 1) :: (vs ++ dvs)) (Value.ref (s.heap.objs.size + 1) :: (us ++ ds)):=.cons rfl (r.append hd)
 have hl:(Value.ref (s.heap.objs.size + 1) :: us ++ ds).length = ps.length:=by
  have e:=r2.length
  rw [F.len _ _ _ _ hq] at e
  exact e.symm
 refine wpAny_call (yL (f:=f) I.kIn M.makes M.init (beq_iff_eq.mp M.fn) (codeAny_mono (F.run _ X.stack _ _ ⟨Value.ref (s.heap.objs.size + 1) :: us,[]⟩ (Value.ref (s.heap.objs.size + 1) :: (us ++ ds)) _ _ E (hr.make C us [])
  (I2.env0.make C us []) (hb _ (Value.ref (s.heap.objs.size + 1) :: us) I2.kIn hl) r2 hq) fun r s' hq'=>?_))
 cases r with
 | error e=>exact hx pins σ _ _ e s' I2 hq'
 | ok fl =>
  cases fl with
  | ret u =>
   obtain ⟨v,H',I3,rv,ev,q3⟩:=I2.after hq'
   subst ev
   exact ⟨rv,⟨V.ref (s.heap.objs.size + 1),H',I3,rfl,q3⟩⟩
  | next=>exact False.elim hq'
  | brk=>exact False.elim hq'
  | cont=>exact False.elim hq'
theorem aIA (M:Mk X.K C f) (F:FnOk X.prog X.w X.K X.mg X.base CX k f fd ps sp) (hr:Room (k + 1) X.A) (hg:Gl X x) (hm:X.mg x = some (.ref C)) (hb:gI X.K fd ps ds) (hd:bH dvs ds) (hx:lP CX X E)
  (ha:PA X (e :: es) t) (hdb:(x == ("__debug__":Str)) = false:=by decide) (he:starEach (e :: es) X.env = (false,eval e X.env) :: starEach es X.env:=by rfl) (hpl:(backTo pos (starEach es X.env)).any (·.1) = false:=by rfl) :
  PE X (.Call (.Name x p) (e :: es) [] pos) (aEI C sp dvs E t):=by
 intro pins s σ H Q I h
 refine wpAny_Call_Name_kw (nR I hg hm ?_ hdb)
 refine PySem.W.callWith_K (h₀:=X.base) I.ok.mod.kin M.kp (thn (ha pos pins s σ H _ I h) fun us s1 ⟨vs,H1,I1,r,q⟩=>⟨I1.kIn,?_⟩) he hpl
 exact aFD M F hr hb hd hx I1 r q
end
section
variable {X:Cx} {CX:CXT} {k:Nat} {f C:Addr} {fd:FuncData} {ps ks:List Str} {sp:Sp} {E:XK} {x m:Str} {p pos apos kpos:Pos} {e o:Expr} {es:List Expr} {kws:List Keyword} {te ta:TE} {t tk:TA} {nm:Option Str}
structure KBinds (K:PySem.W.Frag) (fd:FuncData) (ps ks:List Str) (g:List Value → List Value → List Value) (gV:List V → List V → List V):Prop where
 to:∀ (s:Shared) (us ws:List Value),K.In s.heap → (g us ws).length = ps.length → BindsTo s fd ⟨us,ks.zip ws⟩ (ps.zip (g us ws))
 rel:∀ {vs:List V} {us:List Value} {zs:List V} {ws:List Value},bH vs us → bH zs ws → bH (gV vs zs) (g us ws)
variable {g:List Value → List Value → List Value} {gV:List V → List V → List V}
end
structure FnScope (N P:List Str) (sc:Scope):Prop where
 kind:sc.kind = .function
 co:sc.isCoroutine = false
 gen:sc.isGenerator = false
 nd:N.Nodup
 pre:N.take P.length = P
 par:∀ x ∈ P,sc.names.lookup x = some .local ∨ sc.names.lookup x = some .cell
 nofree:∀ y ∈ sc.names,y.2 ≠ .free
theorem vI {kindOf:Str → Option NameKind} {x:Str}:∀ {binds:List (Str × Value)} {m:Str → Option Value},(∀ v,(x,v) ∉ binds) → bindL kindOf binds m x = m x
 | [],_,_=>rfl
 | (n,v) :: r,m,h=>by
  unfold bindL
  rw [vI fun w hw=>h w (List.mem_cons_of_mem _ hw)]
  split
  ·have:x ≠ n:=by rintro rfl;exact h v List.mem_cons_self
   simp [this]
  ·rfl
theorem vK {kindOf:Str → Option NameKind} {x:Str}:∀ {binds:List (Str × Value)} {m:Str → Option Value},(∀ v,(x,v) ∉ binds) → bindC kindOf binds m x = m x
 | [],_,_=>rfl
 | (n,v) :: r,m,h=>by
  unfold bindC
  rw [vK fun w hw=>h w (List.mem_cons_of_mem _ hw)]
  split
  ·rfl
  ·have:x ≠ n:=by rintro rfl;exact h v List.mem_cons_self
   simp [this]
theorem vJ {kindOf:Str → Option NameKind} {x:Str} {v:Value}:∀ {P:List Str} {vs:List Value} {i:Nat} {m:Str → Option Value},P.Nodup → P[i]? = some x → vs[i]? = some v → kindOf x = some .local →
  bindL kindOf (P.zip vs) m x = some v
 | [],_,_,_,_,h,_,_=>by simp at h
 | _ :: _,[],_,_,_,_,h,_=>by simp at h
 | p :: P,w :: vs,0,m,nd,h1,h2,hk=>by
  simp at h1 h2;subst h1;subst h2
  show bindL kindOf ((p,w) :: P.zip vs) m p = _
  unfold bindL
  rw [vI fun v hv=>(List.nodup_cons.mp nd).1 (List.of_mem_zip hv).1,if_pos hk]
  simp
 | p :: P,w :: vs,i + 1,m,nd,h1,h2,hk=>by
  show bindL kindOf ((p,w) :: P.zip vs) m x = _
  unfold bindL
  exact vJ (i:=i) (List.nodup_cons.mp nd).2 (by simpa using h1) (by simpa using h2) hk
theorem vL {kindOf:Str → Option NameKind} {x:Str} {v:Value}:∀ {P:List Str} {vs:List Value} {i:Nat} {m:Str → Option Value},P.Nodup → P[i]? = some x → vs[i]? = some v → kindOf x ≠ some .local →
  bindC kindOf (P.zip vs) m x = some v
 | [],_,_,_,_,h,_,_=>by simp at h
 | _ :: _,[],_,_,_,_,h,_=>by simp at h
 | p :: P,w :: vs,0,m,nd,h1,h2,hk=>by
  simp at h1 h2;subst h1;subst h2
  show bindC kindOf ((p,w) :: P.zip vs) m p = _
  unfold bindC
  rw [vK fun v hv=>(List.nodup_cons.mp nd).1 (List.of_mem_zip hv).1,if_neg hk]
  simp
 | p :: P,w :: vs,i + 1,m,nd,h1,h2,hk=>by
  show bindC kindOf ((p,w) :: P.zip vs) m x = _
  unfold bindC
  exact vL (i:=i) (List.nodup_cons.mp nd).2 (by simpa using h1) (by simpa using h2) hk
def iB (N:List Str) (vs:List V):St:=vs.map some ++ List.replicate (N.length - vs.length) none
def kB (CX:CXT) (P:Program) (w:World) (K:PySem.W.Frag) (mg:Str → Option Value) (base:Heap) (N:List Str) (qual:Str) (scope:Scope) (f:Addr) (cd:Value) (A:Around) (outer:List Env) (s:Shared) (H:Hp) (E:XK):Cx where
 prog:=P
 w:=w
 K:=K
 mg:=mg
 base:=base
 A:=A.deeper (envOfC qual scope s.heap.objs.size f cd)
 N:=N
 s₀:=s
 H₀:=H
 env:=envOfC qual scope s.heap.objs.size f cd
 outer:=outer
 stack:=envOfC qual scope s.heap.objs.size f cd :: outer
 ex:=[]
 calm:=true
 fn:=fun _=>true
 pn:=[]
 xe:=fun e s'=>wpAny (model P w) (A.deeper (envOfC qual scope s.heap.objs.size f cd)) (leaving (envOfC qual scope s.heap.objs.size f cd) e) (fun _ s''=>CX outer H s E e s'') (fun e' s''=>CX outer H s E e' s'') s'
theorem yY {sc:Scope} {n:Nat} {x:Str} (h:sc.names.lookup x = some .cell):∃ c,(cellsFrom n sc.names []).lookup x = some c:=by
 have q:=PySem.W.cellsFrom_some sc.names n [] (.inl h)
 exact Option.isSome_iff_exists.mp q
theorem aDE {CX:CXT} {P:Program} {w:World} {K:PySem.W.Frag} {mg:Str → Option Value} {base:Heap} {N ps:List Str} {qual:Str} {scope:Scope} {f:Addr} {cd:Value} {A:Around} {outer:List Env} {s s1:Shared} {H:Hp} {E:XK} {us:List Value} {vs:List V}
  (S:FnScope N ps scope) (hd:A.handled = none) (e0:Env0 P w K mg base A outer s H) (hl:vs.length = ps.length) (r:bH vs us)
  (x:InCallC s s.heap.objs.size (bindL (envOfC qual scope s.heap.objs.size f cd).kindOf (ps.zip us) fun _=>none) (cellsFrom (s.heap.objs.size + 1) scope.names []) (bindC (envOfC qual scope s.heap.objs.size f cd).kindOf (ps.zip us) fun _=>none) s1) :
  Inv (kB CX P w K mg base N qual scope f cd A outer s H E) [] (iB N vs) H s1:=by
 have hpl:ps.length ≤ N.length:=by have:=congrArg List.length S.pre;rw [List.length_take] at this;omega
 obtain ⟨h1,tk,rfl,hk⟩:=x.done
 have noA:∀ b:Addr,b ∉ (kB CX P w K mg base N qual scope f cd A outer s H E).ex:=fun b z=>absurd (show b ∈ ([]:List Addr) from z) (by simp)
 refine ⟨⟨e0.mod,S.kind,rfl,rfl,Nat.le_refl _,fun y z c h1 h2=>?_,fun y hy=>?_,fun y c _ h=>?_,fun _=>hd,Around.frames_deeper e0.frames,.inr ⟨rfl,rfl⟩,fun b z=>absurd z (noA b),e0.bs,e0.bsz,fun b _ _=>noA b,fun b z=>absurd z (noA b),e0.funs,e0.frf⟩,
  rfl,e0.bare,Un.kept hk,⟨_,x.toInCall.ns,fun i y v h1 h2 h3=>?_⟩,fun y c h=>⟨_,x.cell y c h⟩,e0.hok.fresh (Nat.le_refl _),fun y c h=>?_,fun p hp=>absurd (show p ∈ ([]:List (Addr × Obj)) from hp) (by simp),e0.hok.kept hk,?_⟩
 ·exact name_of_addr x.apart (PySem.mem_of_lookup h1) (PySem.mem_of_lookup h2)
 ·have hy:scope.names.lookup y = some .cell ∨ scope.names.lookup y = some .free:=hy
  rcases hy with hy | hy
  ·exact yY hy
  ·exact absurd rfl (S.nofree _ (PySem.mem_of_lookup hy))
 ·exact Nat.le_of_lt (x.above y c (PySem.mem_of_lookup h))
 ·have hi:i < vs.length:=by
   unfold iB at h2
   by_cases hi:i < vs.length
   ·exact hi
   ·rw [List.getElem?_append_right (by simpa using hi)] at h2
    rw [List.getElem?_replicate] at h2
    split at h2 <;> cases h2
  have ha:vs[i]? = some v:=by
   unfold iB at h2
   rw [List.getElem?_append_left (by simpa using hi),List.getElem?_map] at h2
   cases e:vs[i]? with
   | none=>rw [e] at h2;cases h2
   | some a=>rw [e] at h2;cases h2;rfl
  obtain ⟨u,hu,rv⟩:=r.get ha
  have hp:ps[i]? = some y:=by
   rw [← S.pre,List.getElem?_take_of_lt (by omega)];exact h1
  have ndP:ps.Nodup:=by rw [← S.pre];exact S.nd.sublist (List.take_sublist _ _)
  refine ⟨u,rv,?_⟩
  rcases S.par y (List.mem_of_getElem? hp) with k | k
  ·exact .inl ⟨k,vJ ndP hp hu k⟩
  ·obtain ⟨c,e⟩:=yY (n:=s.heap.objs.size + 1) k
   refine .inr ⟨.inl k,c,e,?_⟩
   have q:=x.cell y c e
   rw [vL ndP hp hu (by show scope.names.lookup y ≠ _;rw [k];decide)] at q
   exact q
 ·exact e0.hok.fresh (Nat.le_of_lt (x.above y c (PySem.mem_of_lookup h)))
 ·unfold iB
  show _ = N.length
  rw [List.length_append,List.length_map,List.length_replicate]
  omega
theorem aJT {CX:CXT} {P:Program} {w:World} {K:PySem.W.Frag} {mg:Str → Option Value} {base:Heap} {k:Nat} {f:Addr} {name qual:Str} {params:Arguments} {body:List Stmt} {scope:Scope} {dV kV doc pm cdv ct oc:Value} {an od:Option Addr}
  {osl:Array (Option Value)} {N ps:List Str} {sp:Sp} (lk:K.lookup f = some ⟨oc,od,.func (PySem.W.fnOf name qual params body scope dV kV doc pm an cdv ct),osl⟩) (hcd:PySem.W.codeIn K cdv qual = true) (S:FnScope N ps scope)
  (len:∀ vs H Q E,sp vs H Q E → vs.length = ps.length)
  (hbody:∀ (A:Around) (outer:List Env) (s:Shared) (H:Hp) (vs:List V) (Q:VK) (E:XK),Room k (A.deeper (envOfC qual scope s.heap.objs.size f cdv)) → sp vs H Q E →
   ∃ t,PSs (kB CX P w K mg base N qual scope f cdv A outer s H E) body t ∧ t { nx:=fun _ H'=>Q .non H',rt:=Q } (iB N vs) H) :
  FnOk P w K mg base CX (k + 1) f (PySem.W.fnOf name qual params body scope dV kV doc pm an cdv ct) ps sp:=by
 refine ⟨len,fun A outer s H args us vs Q E hr e0 hb r hsp=>?_⟩
 have hl:=len _ _ _ _ hsp
 have KX:K.In s.heap:=e0.mod.kin.keeps fun b o e=>(e0.bs b o e).1
 have lim:s.heap.NoLimit:=e0.mod.nolimit.keeps fun b o e=>(e0.bs b o e).1
 have hkind:∀ y ∈ ps.zip us,scope.names.lookup y.1 = some .local ∨ (scope.names.lookup y.1 = some .cell ∧ ((cellsFrom (s.heap.objs.size + 1) scope.names []).lookup y.1).isSome = true):=fun ⟨n,v⟩ hy=>by
  rcases S.par n (List.of_mem_zip hy).1 with q | q
  ·exact .inl q
  ·exact .inr ⟨q,PySem.W.cellsFrom_some _ _ _ (.inl q)⟩
 refine codeAny_call_function hr.depth (KX _ _ lk) rfl S.co S.gen rfl (PySem.W.codeRec_of KX hcd) (hb _ _ _ _ ?_)
 refine wpAny_newFunctionEnv_cells S.kind hkind fun env he s1 x=>?_
 subst he
 refine ⟨lim.keeps x.toInCall.keep,codeAny_func ?_⟩
 obtain ⟨t,ht,hq⟩:=hbody A outer s H vs Q E (hr.deeper _) hsp
 have I:Inv (kB CX P w K mg base N qual scope f cdv A outer s H E) [] (iB N vs) H s1:=aDE S hr.hd e0 hl r x
 refine wpAny_mono (ht [] s1 (iB N vs) H _ I hq) (fun fl s' hs=>?_) fun e s' hs=>hs
 have fin:∀ {σ':St} {H':Hp} {v:V} {u:Value},Inv (kB CX P w K mg base N qual scope f cdv A outer s H E) [] σ' H' s' → bF v u → Q v H' → CE outer P w H s Q u s' :=
  fun {σ' H' v u} J rv q=>⟨v,H',J.os,J.bare,J.base,J.hok,rv,q⟩
 cases fl with
 | ret u =>
  obtain ⟨v,σ',H',J,rv,q⟩:=hs
  exact fin J rv q
 | next =>
  obtain ⟨σ',H',J,q⟩:=hs
  exact fin (v:=V.non) (u:=Value.none) J rfl q
 | brk =>
  obtain ⟨_,_,_,q⟩:=hs
  exact False.elim q
 | cont =>
  obtain ⟨_,_,_,q⟩:=hs
  exact False.elim q
end L2
namespace L2
open PySem PySem.Spec PyProof.Rows
section
variable {X:Cx} {x:Str} {p pos:Pos} {e:Expr} {es:List Expr} {t:TA} {id T:String} {r:List V → Hp → VK → Prop}
def tCB (r:List V → Hp → VK → Prop) (t:TA):TE:=fun σ H Q=>t σ H fun vs H1=>r vs H1 Q
theorem aR (hc:gH X (.builtin id) r) (hg:Gl X x) (hm:X.mg x = none) (hv:bootBuiltins x = some (.builtin id)) (ha:PA X (e :: es) t) (hn:x ≠ "__name__":=by decide) (hdb:(x == ("__debug__":Str)) = false:=by decide)
  (he:starEach (e :: es) X.env = (false,eval e X.env) :: starEach es X.env:=by rfl) (hpl:(backTo pos (starEach es X.env)).any (·.1) = false:=by rfl):PE X (.Call (.Name x p) (e :: es) [] pos) (tCB r t):=by
 intro pins s σ H Q I h
 refine wpAny_Call_Name_kw (wJ I hg hm hv ?_ hn hdb)
 exact PyProof.Rows.callWith_builtin1 (thn (ha pos pins s σ H _ I h) fun us s1 ⟨vs,H1,I1,r1,q1⟩=>hc pins s1 σ H1 vs us Q I1 r1 q1) he hpl
theorem cP (hc:gH X (.type T) r) (hg:Gl X x) (hm:X.mg x = none) (hv:bootBuiltins x = some (.type T)) (ha:PA X (e :: es) t) (hn:x ≠ "__name__":=by decide) (hdb:(x == ("__debug__":Str)) = false:=by decide)
  (he:starEach (e :: es) X.env = (false,eval e X.env) :: starEach es X.env:=by rfl) (hpl:(backTo pos (starEach es X.env)).any (·.1) = false:=by rfl):PE X (.Call (.Name x p) (e :: es) [] pos) (tCB r t):=by
 intro pins s σ H Q I h
 refine wpAny_Call_Name_kw (wJ I hg hm hv ?_ hn hdb)
 exact PyProof.Rows.callWith_type1 (thn (ha pos pins s σ H _ I h) fun us s1 ⟨vs,H1,I1,r1,q1⟩=>hc pins s1 σ H1 vs us Q I1 r1 q1) he hpl
end
end L2
namespace L2
open PySem PySem.Spec PyProof.Rows
section
variable {κ:Type} [DecidableEq κ]
def gJ (kvs:List (κ × V)) (k:κ):Option V:=(kvs.find? fun kv=>decide (kv.1 = k)).map (·.2)
def jV (kvs:List (κ × V)) (k:κ) (v:V):List (κ × V) :=
 if (kvs.any fun kv=>decide (kv.1 = k)) = true then kvs.map (fun kv=>if kv.1 = k then (kv.1,v) else kv) else kvs ++ [(k,v)]
def dropK (kvs:List (κ × V)) (k:κ):List (κ × V):=kvs.filter fun kv=>decide (kv.1 ≠ k)
theorem dN {p:κ × V} {r:List (κ × V)} {k:κ} (e:p.1 = k):gJ (p :: r) k = some p.2:=by simp [gJ,List.find?_cons,e]
theorem dO {p:κ × V} {r:List (κ × V)} {k:κ} (e:¬ p.1 = k):gJ (p :: r) k = gJ r k:=by simp [gJ,List.find?_cons,e]
theorem oX (k:κ):∀ kvs:List (κ × V),(kvs.any fun kv=>decide (kv.1 = k)) = (gJ kvs k).isSome
 | []=>rfl
 | p :: r=>by
  rw [List.any_cons]
  by_cases e:p.1 = k
  ·simp only [dN e,decide_eq_true e,Bool.true_or,Option.isSome_some]
  ·rw [dO e,decide_eq_false e,Bool.false_or];exact oX k r
theorem xC (k j:κ) (y:V):∀ kvs:List (κ × V),gJ (kvs.map fun kv=>if kv.1 = k then (kv.1,y) else kv) j = (gJ kvs j).map fun x=>if j = k then y else x
 | []=>rfl
 | p :: r=>by
  have ih:=xC k j y r
  rw [List.map_cons]
  by_cases h:p.1 = k
  ·rw [if_pos h]
   by_cases e:p.1 = j
   ·rw [dN (p:=(p.1,y)) e,dN e,Option.map_some,if_pos (e.symm.trans h)]
   ·rw [dO (p:=(p.1,y)) e,dO e,ih]
  ·rw [if_neg h]
   by_cases e:p.1 = j
   ·rw [dN (p:=p) e,dN e,Option.map_some,if_neg (fun z=>h (e.trans z))]
   ·rw [dO (p:=p) e,dO e,ih]
theorem uO (k j:κ) (y:V):∀ kvs:List (κ × V),gJ kvs k = none → gJ (kvs ++ [(k,y)]) j = if j = k then some y else gJ kvs j
 | [],_=>by
  by_cases e:k = j
  ·rw [if_pos e.symm];exact dN (p:=(k,y)) e
  ·rw [if_neg (fun z=>e z.symm)];exact dO (p:=(k,y)) e
 | p :: r,hn=>by
  rw [List.cons_append]
  have hk:¬ p.1 = k:=fun z=>by rw [dN z] at hn;cases hn
  rw [dO hk] at hn
  have ih:=uO k j y r hn
  by_cases e:p.1 = j
  ·rw [dN e,dN e,if_neg (fun z=>hk (e.trans z))]
  ·rw [dO e,dO e,ih]
theorem aED (kvs:List (κ × V)) (k j:κ) (y:V):gJ (jV kvs k y) j = if j = k then some y else gJ kvs j:=by
 unfold jV
 by_cases a:(kvs.any fun kv=>decide (kv.1 = k)) = true
 ·rw [if_pos a,xC]
  rw [oX] at a
  by_cases e:j = k
  ·obtain ⟨x,hx⟩:=Option.isSome_iff_exists.mp a
   rw [if_pos e,e,hx,Option.map_some,if_pos rfl]
  ·rw [if_neg e]
   cases gJ kvs j with
   | none=>rfl
   | some x=>rw [Option.map_some,if_neg e]
 ·rw [if_neg a]
  refine uO k j y kvs ?_
  rw [oX] at a
  cases q:gJ kvs k with
  | none=>rfl
  | some x=>rw [q] at a;exact (a rfl).elim
theorem jS (kvs:List (κ × V)) (k:κ) (v:V):(jV kvs k v).length ≤ kvs.length + 1:=by
 unfold jV
 split
 ·rw [List.length_map];omega
 ·rw [List.length_append,List.length_cons,List.length_nil];omega
theorem lZ.isSome_eq {o:Option V} {u:Option Value} (r:lZ o u):o.isSome = u.isSome:=by
 cases o with
 | none=>cases u with
  | none=>rfl
  | some _=>exact (show False from r).elim
 | some _=>cases u with
  | none=>exact (show False from r).elim
  | some _=>rfl
theorem lZ.getD {o:Option V} {u:Option Value} {d:V} {d':Value} (r:lZ o u) (rd:bF d d'):bF (o.getD d) (u.getD d'):=by
 cases o with
 | none=>cases u with
  | none=>exact rd
  | some _=>exact (show False from r).elim
 | some _=>cases u with
  | none=>exact (show False from r).elim
  | some _=>exact r
theorem KV.val {kvs:List (κ × V)} {vs:List (κ × Value)} (r:KV kvs vs) (k:κ):lZ (gJ kvs k) (valueAt vs k):=by
 unfold KV at r
 induction r with
 | nil=>exact True.intro
 | @cons p q ps qs h t ih =>
  obtain ⟨h1,h2⟩:=h
  by_cases e:p.1 = k
  ·have e':q.1 = k:=h1.symm.trans e
   have b:valueAt (q :: qs) k = some q.2:=by simp [valueAt,List.find?_cons,e']
   rw [dN e,b];exact h2
  ·have e':¬ q.1 = k:=fun z=>e (h1.trans z)
   have b:valueAt (q :: qs) k = valueAt qs k:=by simp [valueAt,List.find?_cons,e']
   rw [dO e,b];exact ih
theorem KV.any {kvs:List (κ × V)} {vs:List (κ × Value)} (r:KV kvs vs) (k:κ):(kvs.any fun kv=>decide (kv.1 = k)) = vs.any fun kv=>decide (kv.1 = k):=by
 unfold KV at r
 induction r with
 | nil=>rfl
 | cons h t ih=>rw [List.any_cons,List.any_cons,ih,h.1]
theorem KV.repl {kvs:List (κ × V)} {vs:List (κ × Value)} (r:KV kvs vs) (k:κ) {y:V} {u:Value} (ry:bF y u) :
  KV (kvs.map fun kv=>if kv.1 = k then (kv.1,y) else kv) (vs.map fun kv=>if kv.1 = k then (kv.1,u) else kv):=by
 unfold KV at r ⊢
 induction r with
 | nil=>exact .nil
 | @cons p q ps qs h t ih =>
  rw [List.map_cons,List.map_cons]
  refine .cons ?_ ih
  obtain ⟨h1,h2⟩:=h
  by_cases e:p.1 = k
  ·rw [if_pos e,if_pos (h1.symm.trans e)];exact ⟨h1,ry⟩
  ·rw [if_neg e,if_neg (fun z=>e (h1.trans z))];exact ⟨h1,h2⟩
theorem KV.put {kvs:List (κ × V)} {vs:List (κ × Value)} (r:KV kvs vs) (k:κ) {y:V} {u:Value} (ry:bF y u):KV (jV kvs k y) (stored vs k u):=by
 unfold jV stored
 rw [r.any k]
 by_cases e:(vs.any fun kv=>decide (kv.1 = k)) = true
 ·rw [if_pos e,if_pos e];exact r.repl k ry
 ·rw [if_neg e,if_neg e];exact Paired.snoc r ⟨rfl,ry⟩
theorem KV.keys {kvs:List (κ × V)} {vs:List (κ × Value)} (r:KV kvs vs):kvs.map (·.1) = vs.map (·.1):=by
 unfold KV at r
 induction r with
 | nil=>rfl
 | cons h t ih=>rw [List.map_cons,List.map_cons,ih,h.1]
theorem KV.length {kvs:List (κ × V)} {vs:List (κ × Value)} (r:KV kvs vs):kvs.length = vs.length:=Paired.length r
end
theorem tK {P:Program} {w:World} {k:Key} {u:Value} (r:bF (kV k) u):(aZ P w).is k u = true:=by
 cases k with
 | inl i=>obtain ⟨t,e⟩:=(show ∃ t,u = Value.int i t from r);subst e;exact yJ P w i t
 | inr x=>obtain ⟨t,e⟩:=(show ∃ t,u = Value.str x t from r);subst e;exact yI P w x t
theorem uZ {P:Program} {w:World}:∀ {ks:List Key} {us:List Value},bH (ks.map kV) us → ItemsAre (aZ P w) ks us
 | [],_,r=>by rw [List.map_nil] at r;cases r;exact .nil
 | k :: ks,_,r=>by
  rw [List.map_cons] at r
  cases r with
  | cons h t=>exact .cons (tK h) (uZ t)
abbrev KT (H:Hp):List (List Key × V) → List (List Key × Addr × Value) → Prop:=Paired fun p q=>p.1 = q.1 ∧ H q.2.1 = some (.tup (p.1.map kV)) ∧ bF p.2 q.2.2
theorem KT.val {H:Hp} {kvs:List (List Key × V)} {xs:List (List Key × Addr × Value)} (r:KT H kvs xs) (k:List Key):lZ (gJ kvs k) ((atKey xs k).map (·.2)):=by
 induction r with
 | nil=>exact True.intro
 | @cons p q ps qs h t ih =>
  obtain ⟨h1,_,h2⟩:=h
  by_cases e:p.1 = k
  ·have e':q.1 = k:=h1.symm.trans e
   have b:atKey (q :: qs) k = some q.2:=by simp [atKey,List.find?_cons,e']
   rw [dN e,b];exact h2
  ·have e':¬ q.1 = k:=fun z=>e (h1.trans z)
   have b:atKey (q :: qs) k = atKey qs k:=by simp [atKey,List.find?_cons,e']
   rw [dO e,b];exact ih
theorem KT.repl {H:Hp} {kvs:List (List Key × V)} {xs:List (List Key × Addr × Value)} (r:KT H kvs xs) (k:List Key) {y:V} {u:Value} (ry:bF y u) :
  KT H (kvs.map fun kv=>if kv.1 = k then (kv.1,y) else kv) (xs.map (putAt k u)):=by
 induction r with
 | nil=>exact .nil
 | @cons p q ps qs h t ih =>
  rw [List.map_cons,List.map_cons]
  refine .cons ?_ ih
  obtain ⟨h1,h2,h3⟩:=h
  unfold putAt
  by_cases e:p.1 = k
  ·rw [if_pos e,if_pos (h1.symm.trans e)];exact ⟨h1,h2,ry⟩
  ·rw [if_neg e,if_neg (fun z=>e (h1.trans z))];exact ⟨h1,h2,h3⟩
theorem KT.put {H:Hp} {kvs:List (List Key × V)} {xs:List (List Key × Addr × Value)} (r:KT H kvs xs) (k:List Key) {b:Addr} {y:V} {u:Value} (hb:H b = some (.tup (k.map kV))) (ry:bF y u) :
  KT H (jV kvs k y) (storedH xs k b u):=by
 have e:(kvs.any fun kv=>decide (kv.1 = k)) = (atKey xs k).isSome:=by
  rw [oX,(r.val k).isSome_eq,Option.isSome_map]
 unfold jV storedH
 rw [e]
 by_cases q:(atKey xs k).isSome = true
 ·rw [if_pos q,if_pos q];exact r.repl k ry
 ·rw [if_neg q,if_neg q];exact Paired.snoc r ⟨rfl,hb,ry⟩
theorem KT.keeps {H H':Hp} {kvs:List (List Key × V)} {xs:List (List Key × Addr × Value)} (r:KT H kvs xs) (ht:∀ b ys,H b = some (.tup ys) → H' b = some (.tup ys)):KT H' kvs xs :=
 Paired.mapP r fun _ _ z=>⟨z.1,ht _ _ z.2.1,z.2.2⟩
section
variable {P:Program} {w:World} {H:Hp} {h:Heap} {a:Addr}
theorem aJP {u:HO} (ok:HOk P w H h) (e:Rd H a u):cM P w H h a u:=e.ok ok
theorem tS {kvs:List (Key × V)} (ok:HOk P w H h) (e:Rd H a (.dK kvs)):kvs.length ≤ sizeLine ∧ (a == sysModules) = false ∧ ∃ vs,KV kvs vs ∧ h.DictOf (aZ P w) a vs :=
 show cM P w H h a (.dK kvs) from aJP ok e
theorem aJU {kvs:List (Key × V)} (ok:HOk P w H h) (e:H a = some (.dK kvs)):kvs.length ≤ sizeLine ∧ (a == sysModules) = false ∧ ∃ vs,KV kvs vs ∧ h.DictOf (aZ P w) a vs:=tS ok (.inl e)
theorem qL {ks:List Key} (ok:HOk P w H h) (e:H a = some (.tup (ks.map kV))):(tupleKind (aZ P w)).is h ks a:=by
 obtain ⟨_,its,r,o,h1,h2,n,h3,_⟩:=(show cM P w H h a (.tup (ks.map kV)) from ok a _ e)
 exact ⟨o,its.toArray,n,h1,h2,h3,by simpa using uZ r⟩
theorem tQ {kvs:List (List Key × V)} (ok:HOk P w H h) (e:Rd H a (.dT kvs)):kvs.length ≤ sizeLine ∧ (a == sysModules) = false ∧
  ∃ xs,KT H kvs xs ∧ h.DictOfH (tupleKind (aZ P w)) a xs:=by
 obtain ⟨z,y,xs,r,o,es,ep,h1,h2,h3,h4,h5⟩:=(show cM P w H h a (.dT kvs) from aJP ok e)
 refine ⟨z,y,xs,r,o,es,ep,h1,h2,h3,h4,fun x hx=>?_,h5⟩
 have all:∀ {l:List (List Key × V)} {m:List (List Key × Addr × Value)},KT H l m → ∀ x ∈ m,(tupleKind (aZ P w)).is h x.1 x.2.1:=by
  intro l m q
  induction q with
  | nil=>intro x hx;exact nomatch hx
  | @cons p q ps qs hq t ih =>
   intro x hx
   rcases List.mem_cons.mp hx with e | hx
   ·subst e
    exact qL ok (by rw [← hq.1];exact hq.2.1)
   ·exact ih x hx
 exact all r x hx
theorem aMW {kvs:List (List Key × V)} (ok:HOk P w H h) (e:H a = some (.dT kvs)):kvs.length ≤ sizeLine ∧ (a == sysModules) = false ∧
  ∃ xs,KT H kvs xs ∧ h.DictOfH (tupleKind (aZ P w)) a xs:=tQ ok (.inl e)
end
def oA (H:Hp) (a:Addr) (y:V) (r:Option V):Prop :=
 (∃ kvs k,Rd H a (.dK kvs) ∧ y = kV k ∧ r = gJ kvs k) ∨ ∃ kvs k b,Rd H a (.dT kvs) ∧ y = .ref b ∧ H b = some (.tup (k.map kV)) ∧ r = gJ kvs k
def aAK (H:Hp) (a:Addr) (y v:V) (H':Hp):Prop :=
 (∃ kvs k,H a = some (.dK kvs) ∧ y = kV k ∧ kvs.length < sizeLine ∧ H' = upd H a (.dK (jV kvs k v))) ∨
 ∃ kvs k b,H a = some (.dT kvs) ∧ y = .ref b ∧ H b = some (.tup (k.map kV)) ∧ kvs.length < sizeLine ∧ H' = upd H a (.dT (jV kvs k v))
theorem oA.k {H:Hp} {a:Addr} {kvs:List (Key × V)} {k:Key} (e:H a = some (.dK kvs)):oA H a (kV k) (gJ kvs k):=.inl ⟨kvs,k,.inl e,rfl,rfl⟩
theorem aAK.k {H:Hp} {a:Addr} {kvs:List (Key × V)} {k:Key} {v:V} (e:H a = some (.dK kvs)) (hl:kvs.length < sizeLine):aAK H a (kV k) v (upd H a (.dK (jV kvs k v))):=.inl ⟨kvs,k,e,rfl,hl,rfl⟩
section
variable {X:Cx} {pins:List (Addr × Obj)} {σ:St} {H:Hp} {s:Shared} {a:Addr} {y v:V} {u r:Value} {o:Option V} {A:Around} {E:Value → Shared → Prop}
theorem Inv.big (I:Inv X pins σ H s):sysModules < s.heap.objs.size:=by
 have h:mainGlobals < s.heap.objs.size:=(I.mod.glob.keeps I.bk).lt
 exact Nat.lt_trans (by decide) h
theorem vE {Q:Value → Shared → Prop} (hu:A.units + 1 < cLine) (I:Inv X pins σ H s) (g:oA H a y (some v)) (ry:bF y u) (h:∀ w' s',Inv X pins σ H s' → bF v w' → Q w' s') :
  wpAny (model X.prog X.w) A (getItem (.ref a) u) Q E s:=by
 rcases g with ⟨kvs,k,e,ey,l⟩ | ⟨kvs,k,b,e,ey,eb,l⟩
 ·subst ey
  obtain ⟨z,hd,vs,rel,dd⟩:=tS I.hok e
  obtain ⟨w',hw,rw'⟩:=lZ.some_of (v:=v) (o:=valueAt vs k) (by rw [l];exact rel.val k)
  exact wpAny_getItem_of (tK ry) dd.mapOf hw (h w' _ (I.tok _) rw')
 ·subst ey
  cases (show u = Value.ref b from ry)
  obtain ⟨z,hd,xs,rel,dd⟩:=tQ I.hok e
  obtain ⟨w',hw,rw'⟩:=lZ.some_of (v:=v) (o:=(atKey xs k).map (·.2)) (by rw [l];exact rel.val k)
  obtain ⟨p,hp,hp2⟩:=Option.map_eq_some_iff.mp hw
  refine wpAny_getItem_heap (tupleKind_room_in1 hu) (qL I.hok eb) dd hp ?_
  rw [hp2]
  exact h w' _ (I.tok _) rw'
theorem aNY {Q:Value → Shared → Prop} (hu:A.units + 1 < cLine) (I:Inv X pins σ H s) (g:oA H a y o) (ry:bF y u) (h:∀ s',Inv X pins σ H s' → Q (.bool o.isSome) s') :
  wpAny (model X.prog X.w) A (compareOp .In u (.ref a)) Q E s:=by
 rcases g with ⟨kvs,k,e,ey,l⟩ | ⟨kvs,k,b,e,ey,eb,l⟩
 ·subst ey
  obtain ⟨z,hd,vs,rel,dd⟩:=tS I.hok e
  refine wpAny_in_of (tK ry) hd dd.mapOf ?_
  rw [← (rel.val k).isSome_eq,← l]
  exact h _ (I.tok _)
 ·subst ey
  cases (show u = Value.ref b from ry)
  obtain ⟨z,hd,xs,rel,dd⟩:=tQ I.hok e
  refine wpAny_in_heap (tupleKind_room_in1 hu) (qL I.hok eb) hd dd ?_
  have q:=(rel.val k).isSome_eq
  rw [Option.isSome_map] at q
  rw [← q,← l]
  exact h _ (I.tok _)
theorem wR {h':Heap} {t':Nat} {ob:HO} (I:Inv X pins σ H s) (mu:Mut (H a)) (hs:Heap.SameBut a s.heap h') (he:∃ q,h'.get? a = some q) (new:cM X.prog X.w (upd H a ob) h' a ob) :
  Inv X pins σ (upd H a ob) { s with heap:=h',toks:=t' } :=
 I.write (x:=a) (e:=a) mu (.inl rfl) (fun b q hb z=>(hs.2 b hb).trans z) he new
theorem aGV {P:Program} {w:World} {H':Hp} {h':Heap} {kvs:List (Key × V)} {vs:List (Key × Value)} (z:kvs.length ≤ sizeLine) (hd:(a == sysModules) = false) (rel:KV kvs vs) (dd:h'.DictOf (aZ P w) a vs) :
  cM P w H' h' a (.dK kvs):=⟨z,hd,vs,rel,dd⟩
theorem vD {H':Hp} {Q:Unit → Shared → Prop} (hu:A.units + 1 < cLine) (I:Inv X pins σ H s) (g:aAK H a y v H') (ry:bF y u) (rv:bF v r) (h:∀ s',Inv X pins σ H' s' → Q () s') :
  wpAny (model X.prog X.w) A (setItem (.ref a) u r) Q E s:=by
 rcases g with ⟨kvs,k,e,ey,l,eH⟩ | ⟨kvs,k,b,e,ey,eb,l,eH⟩
 ·subst ey eH
  obtain ⟨z,hd,vs,rel,dd⟩:=aJU I.hok e
  have hz:vs.length ≤ sizeLine:=by rw [← rel.length];exact z
  have hl:(jV kvs k v).length ≤ sizeLine:=by have:=jS kvs k v;omega
  refine wpAny_setItem_pairs (hsz:=hz) (tK ry) dd fun h' dd' hs=>h _ ?_
  have he:∃ q,h'.get? a = some q:=let ⟨q,_,_,hq,_⟩:=dd';⟨q,hq⟩
  exact wR I (by rw [e];exact True.intro) hs he (aGV hl hd (rel.put k rv) dd')
 ·subst ey eH
  cases (show u = Value.ref b from ry)
  obtain ⟨z,hd,xs,rel,dd⟩:=aMW I.hok e
  have hz:xs.length ≤ sizeLine:=by rw [← Paired.length rel];exact z
  have hl:(jV kvs k v).length ≤ sizeLine:=by have:=jS kvs k v;omega
  refine wpAny_setItem_heap (hsz:=hz) (tupleKind_room_in1 hu) (qL I.hok eb) dd fun h' dd' hs=>h _ ?_
  obtain ⟨q,es,ep,hq,h2,h3,h4,_,h5⟩:=dd'
  refine wR I (by rw [e];exact True.intro) hs ⟨q,hq⟩ ⟨hl,hd,_,(rel.put k eb rv).keeps fun c ys ec=>?_,q,es,ep,hq,h2,h3,h4,h5⟩
  rw [aT (aBQ ec e (fun z=>nomatch z))]
  exact ec
end
section
variable {X:Cx} {pins:List (Addr × Obj)} {σ:St} {H:Hp} {s:Shared} {a:Addr} {kvs:List (Key × V)} {k:Key} {u:Value} {A:Around} {E:Value → Shared → Prop}
end
def aNB (i:Expr):Prop:=∀ ov iv,subscripted i false ov iv = operate [ov,iv] (getItem ov iv)
theorem aHM {prog:Program} {w:World} {A:Around} {E:Value → Shared → Prop} {s:Shared} {env:Env} {value slice:Expr} {pos:Pos} {T id:String} {Q:Value → Shared → Prop}
  (hl:typeLookup (.type T) "__getitem__" = pure (some (.builtin id))) (hs:aNB slice)
  (h:wpAny (model prog w) A (eval value env) (fun o s₁=>wpAny (model prog w) A (eval slice env) (fun i s₂=>s₂.TypeIs o T ∧ wpAny (model prog w) A (getItem o i) Q E s₂) E s₁) E s) :
  wpAny (model prog w) A (eval (.Subscript value slice pos) env) Q E s:=by
 refine Subscript_ (wpAny_mono h (fun o s₁ h₁=>wpAny_mono h₁ (fun i s₂ h₂=>?_) fun _ _ x=>x) fun _ _ x=>x)
 obtain ⟨hT,h₂⟩:=h₂
 unfold subscriptTail
 refine wpAny_bind ?_
 rw [getitemInPython_of_ne hT.not_modules]
 refine wpAny_bind (wpAny_specialOf hT hl ?_)
 have fin:wpAny (model prog w) A (subscripted slice false o i) (fun r s₃=>wpAny (model prog w) A (letTemporaryGo value o r >>= fun _=>pure r) Q E s₃) E s₂:=by
  rw [hs o i]
  exact wpAny_operating (wpAny_mono h₂ (fun r s₃ h₃=>wpAny_bind (wpAny_letTemporaryGo (wpAny_pure h₃))) fun _ _ x=>x)
 first
  | exact wpAny_pure (wpAny_bind fin)
  | exact wpAny_bind (wpAny_pure (wpAny_bind fin))
  | exact wpAny_bind fin
theorem yQ {X:Cx} {pins:List (Addr × Obj)} {σ:St} {H:Hp} {s:Shared} {a:Addr} {y:V} {o:Option V} (I:Inv X pins σ H s) (g:oA H a y o):s.TypeIs (.ref a) "dict":=by
 rcases g with ⟨kvs,k,e,_,_⟩ | ⟨kvs,k,b,e,_,_,_⟩
 ·obtain ⟨_,_,vs,_,dd⟩:=tS I.hok e
  exact dd.typeIs
 ·obtain ⟨_,_,xs,_,dd⟩:=tQ I.hok e
  exact dd.typeIs
def aLR (td ty:TE):TE:=fun σ H Q=>td σ H fun x H1=>ty σ H1 fun y H2=>∃ a v,x = .ref a ∧ oA H2 a y (some v) ∧ Q v H2
def aNJ (ty td:TE):TE:=fun σ H Q=>ty σ H fun y H1=>td σ H1 fun x H2=>∃ a o,x = .ref a ∧ oA H2 a y o ∧ Q (.bl o.isSome) H2
def aLW (td ty tv:TE):TS:=fun D σ H=>tv σ H fun v H1=>td σ H1 fun x H2=>ty σ H2 fun y H3=>∃ a H4,x = .ref a ∧ aAK H3 a y v H4 ∧ D.nx σ H4
def aLX (td ty tv:TE) (rd:V → V → Hp → VK → Prop):TS:=fun D σ H=>td σ H fun x H1=>ty σ H1 fun y H2=>∃ a v,x = .ref a ∧ oA H2 a y (some v) ∧
 tv σ H2 fun y2 H3=>rd v y2 H3 fun z H4=>∃ H5,aAK H4 a y z H5 ∧ D.nx σ H5
section
variable {X:Cx} {o i e value:Expr} {pos pos' tpos:Pos} {td ty tv:TE}
theorem pL (hu:X.A.units + 1 < cLine) (ho:PE X o td) (hi:PE X i ty) (hs:aNB i):PE X (.Subscript o i pos) (aLR td ty):=by
 intro pins s σ H Q I h
 refine aHM PySem.F.slot_dict_getitem.lookup hs (thn (ho pins s σ H _ I h) fun u s1 ⟨x,H1,I1,rx,q1⟩=>thn (hi pins s1 σ H1 _ I1 q1) fun iv s2 ⟨y,H2,I2,ry,a,v,ex,g,q2⟩=>?_)
 subst ex
 obtain rfl:u = Value.ref a:=rx
 exact ⟨yQ I2 g,vE hu I2 g ry fun w' s3 I3 rw'=>⟨v,H2,I3,rw',q2⟩⟩
theorem aKL (hu:X.A.units + 1 < cLine) (hi:PE X i ty) (ho:PE X o td):PC X .In i o (aNJ ty td):=by
 intro pins s σ H Q I h
 refine thn (hi pins s σ H _ I h) fun iv s1 ⟨y,H1,I1,ry,q1⟩=>thn (ho pins s1 σ H1 _ I1 q1) fun u s2 ⟨x,H2,I2,rx,a,ov,ex,g,q2⟩=>?_
 subst ex
 obtain rfl:u = Value.ref a:=rx
 exact aNY hu I2 g ry fun s3 I3=>⟨.bl ov.isSome,H2,I3,rfl,q2⟩
theorem aBL (hu:X.A.units + 1 < cLine) (ho:PE X o td) (hi:PE X i ty) (hv:PE X value tv) (hs:swapsWith value (some (.Subscript o i pos')) pos.line X.env = pure false) :
  PS X (.Assign [.Subscript o i pos'] value pos) (aLW td ty tv):=by
 intro pins s σ H D I h
 refine wpAny_Assign_Subscript (thn (hv pins s σ H _ I h) fun r s1 ⟨v,H1,I1,rv,q1⟩=>thn (ho pins s1 σ H1 _ I1 q1) fun u s2 ⟨x,H2,I2,rx,q2⟩=>thn (hi pins s2 σ H2 _ I2 q2) fun iv s3 ⟨y,H3,I3,ry,a,H4,ex,g,q3⟩=>?_) hs
 subst ex
 obtain rfl:u = Value.ref a:=rx
 exact vD hu I3 g ry rv fun s4 I4=>⟨σ,H4,I4,q3⟩
theorem aHW {op:Operator} {rd:V → V → Hp → VK → Prop} (hu:X.A.units + 1 < cLine) (ho:PE X o td) (hi:PE X i ty) (hv:PE X value tv) (hop:aLH X op rd)
  (ha:∀ ov iv new,augStore i ov iv new = (do holding [new,ov,iv] (setItem ov iv new);release [new,ov,iv] [];pure .next)):PS X (.AugAssign (.Subscript o i tpos) op value pos) (aLX td ty tv rd):=by
 intro pins s σ H D I h
 refine wpAny_AugAssign_SubscriptAny (thn (ho pins s σ H _ I h) fun u s1 ⟨x,H1,I1,rx,q1⟩=>thn (hi pins s1 σ H1 _ I1 q1) fun iv s2 ⟨y,H2,I2,ry,a,v,ex,g,q2⟩=>?_) ha
 subst ex
 obtain rfl:u = Value.ref a:=rx
 refine vE hu I2 g ry fun w' s3 I3 rw'=>thn (hv pins s3 σ H2 _ I3 q2) fun w2 s4 ⟨y2,H3,I4,ry2,q3⟩=>thn (hop pins s4 σ H3 v y2 w' w2 _ I4 rw' ry2 q3) fun w3 s5 ⟨z,H4,I5,rz,H5,g5,q4⟩=>?_
 exact vD hu I5 g5 ry rz fun s6 I6=>⟨σ,H5,I6,q4⟩
end
theorem yP {P:Program} {w:World} {H:Hp} (h:Heap) (hb:sysModules < h.objs.size):cM P w H (h.push { cls:=.type "dict",data:=.dict #[] }) h.objs.size (.dK []) :=
 ⟨Nat.zero_le _,beq_eq_false_iff_ne.mpr (Ne.symm (Nat.ne_of_lt hb)),[],.nil,Heap.DictOf.new h⟩
def aKA:TE:=fun _ H Q=>∀ p,H p = none → Q (.ref p) (upd H p (.dK []))
section
variable {X:Cx} {pos:Pos}
theorem xY:PE X (.Dict [] [] pos) aKA:=fun pins s σ H Q I h =>
 wpAny_Dict_empty ⟨.ref s.heap.objs.size,_,I.laid (a:=s.heap.objs.size) (o:=.dK []) (t':=s.toks) (fun _ _ q=>Heap.get?_push_of_some _ q) (Nat.le_refl _) (yP s.heap I.big),rfl,h _ (I.hok.fresh (Nat.le_refl _))⟩
end
def zE:List (TE × TE) → St → Hp → (List (V × V) → Hp → Prop) → Prop
 | [],_,H,Q=>Q [] H
 | (tk,tv) :: r,σ,H,Q=>tk σ H fun x H1=>tv σ H1 fun y H2=>zE r σ H2 fun ps H3=>Q ((x,y) :: ps) H3
abbrev VV:List (V × V) → List (Value × Value) → Prop:=Paired fun p q=>bF p.1 q.1 ∧ bF p.2 q.2
def PPs (X:Cx) (pos:Pos) (keys:List (Option Expr)) (values:List Expr) (trs:List (TE × TE)):Prop :=
 ∀ (pins:List (Addr × Obj)) (s:Shared) (σ:St) (H:Hp) (Q:List (V × V) → Hp → Prop),Inv X pins σ H s → zE trs σ H Q →
  wpAny (model X.prog X.w) X.A (evalPairs (pairTrees keys values X.env pos)) (fun vs s'=>∃ ps H',Inv X pins σ H' s' ∧ VV ps vs ∧ Q ps H') X.xe s
theorem aHX {X:Cx} {pos:Pos}:PPs X pos [] [] []:=fun pins s σ H Q I h=>pairTrees_nil_walk ⟨[],H,I,.nil,h⟩
theorem aFJ {X:Cx} {pos:Pos} {k v:Expr} {ks:List (Option Expr)} {vs:List Expr} {tk tv:TE} {trs:List (TE × TE)} (hk:PE X k tk) (hv:PE X v tv) (hr:PPs X pos ks vs trs) :
  PPs X pos (some k :: ks) (v :: vs) ((tk,tv) :: trs):=fun pins s σ H Q I h =>
 pairTrees_cons_walk (thn (hk pins s σ H _ I h) fun u s1 ⟨x,H1,I1,rx,q1⟩=>thn (hv pins s1 σ H1 _ I1 q1) fun w2 s2 ⟨y,H2,I2,ry,q2⟩ =>
  thn (hr pins s2 σ H2 _ I2 q2) fun ws s3 ⟨ps,H3,I3,rel,q3⟩=>⟨(x,y) :: ps,H3,I3,.cons ⟨rx,ry⟩ rel,q3⟩)
def mR (kvs more:List (Key × V)):List (Key × V):=more.foldl (fun acc kv=>jV acc kv.1 kv.2) kvs
theorem KV.merge:∀ {more:List (Key × V)} {rs:List (Key × Value)} {kvs:List (Key × V)} {vs:List (Key × Value)},KV more rs → KV kvs vs → KV (mR kvs more) (merged vs rs):=by
 intro more rs kvs vs r
 unfold KV at r
 induction r generalizing kvs vs with
 | nil=>intro q;exact q
 | @cons p q ps qs h t ih =>
  intro r0
  have e:KV (jV kvs p.1 p.2) (stored vs q.1 q.2):=by
   have:=r0.put p.1 h.2
   rw [← h.1];exact this
  exact ih e
theorem oE:∀ (more kvs:List (Key × V)),(mR kvs more).length ≤ kvs.length + more.length
 | [],kvs=>by show kvs.length ≤ kvs.length + 0;omega
 | p :: r,kvs=>by
  have h1:=oE r (jV kvs p.1 p.2)
  have h2:=jS kvs p.1 p.2
  show (mR (jV kvs p.1 p.2) r).length ≤ _
  rw [List.length_cons];omega
theorem tX {P:Program} {w:World}:∀ {kvs:List (Key × V)} {ws:List (Value × Value)},VV (kvs.map fun kv=>(kV kv.1,kv.2)) ws → ∃ rs,Carries (aZ P w) ws rs ∧ KV kvs rs
 | [],_,r=>by rw [List.map_nil] at r;cases r;exact ⟨[],True.intro,.nil⟩
 | p :: kvs,_,r=>by
  rw [List.map_cons] at r
  cases r with
  | @cons a b as bs h t =>
   obtain ⟨rs,c,q⟩:=tX (P:=P) (w:=w) t
   obtain ⟨b1,b2⟩:=b
   exact ⟨(p.1,b2) :: rs,⟨tK h.1,rfl,c⟩,.cons ⟨rfl,h.2⟩ q⟩
def aLQ (trs:List (TE × TE)):TE:=fun σ H Q=>∀ p,H p = none → zE trs σ (upd H p (.dK [])) fun ps H2=>H2 p = some (.dK []) ∧ ∃ kvs:List (Key × V),ps = kvs.map (fun kv=>(kV kv.1,kv.2)) ∧ kvs.length ≤ 15 ∧ Q (.ref p) (upd H2 p (.dK (mR [] kvs)))
theorem aIB {X:Cx} {pos:Pos} {keys:List (Option Expr)} {values:List Expr} {trs:List (TE × TE)} (h:PPs X pos keys values trs) (hall:keys.all (·.isSome) = true) (hl:keys.length = values.length) (h0:keys ≠ [])
  (h15:keys.length ≤ 15):PE X (.Dict keys values pos) (aLQ trs):=by
 intro pins s σ H Q I q
 have hn:=I.hok.fresh (Nat.le_refl s.heap.objs.size)
 have I1:=I.laid (a:=s.heap.objs.size) (o:=.dK []) (h':=s.heap.push { cls:=.type "dict",data:=.dict #[] }) (t':=s.toks) (fun _ _ q=>Heap.get?_push_of_some _ q) (Nat.le_refl _) (yP s.heap I.big)
 refine wpAny_Dict_walk (knd:=aZ X.prog X.w) hall hl h0 h15 (thn (h pins _ σ _ _ I1 (q _ hn)) fun ws s2 ⟨ps,H2,I2,rel,e,kvs,ep,lk,q2⟩=>?_)
 subst ep
 obtain ⟨rs,c,rk⟩:=tX (P:=X.prog) (w:=X.w) rel
 obtain ⟨z,hd,vs0,r0,dd⟩:=aJU I2.hok e
 cases r0
 refine ⟨rs,c,dd,fun h' dd' hs=>⟨.ref s.heap.objs.size,_,?_,rfl,q2⟩⟩
 have hz:(mR [] kvs).length ≤ sizeLine:=by
  have h1:=oE kvs []
  rw [List.length_nil] at h1
  rw [sizeLine_eq];omega
 have he:∃ q,h'.get? s.heap.objs.size = some q:=let ⟨q,_,_,hq,_⟩:=dd';⟨q,hq⟩
 exact wR I2 (by rw [e];exact True.intro) hs he (aGV hz hd (rk.merge .nil) dd')
structure M1 (X:Cx) (o:Expr) (m:Str) (apos:Pos) (e:Expr) (cpos:Pos):Prop where
 base:attributeBase o m X.env (eval o X.env) = eval o X.env
 few:((backTo cpos (starEach [e] X.env)).all (fun x=>!x.1) && (backToKw cpos (keywordEach [] X.env)).all (fun x=>x.1.isSome)
  && decide (([e]:List Expr).length + ([]:List Keyword).length + (if ([]:List Keyword).isEmpty then 0 else 1) < 30)) = true
 line:(apos.endLine == cpos.line) = true
 trees:backTo cpos (starEach [e] X.env) = [(false,eval e X.env)]
structure M2 (X:Cx) (o:Expr) (m:Str) (apos:Pos) (e f:Expr) (cpos:Pos):Prop where
 base:attributeBase o m X.env (eval o X.env) = eval o X.env
 few:((backTo cpos (starEach [e,f] X.env)).all (fun x=>!x.1) && (backToKw cpos (keywordEach [] X.env)).all (fun x=>x.1.isSome)
  && decide (([e,f]:List Expr).length + ([]:List Keyword).length + (if ([]:List Keyword).isEmpty then 0 else 1) < 30)) = true
 line:(apos.endLine == cpos.line) = true
 trees:backTo cpos (starEach [e,f] X.env) = [(false,eval e X.env),(false,eval f X.env)]
def IsD (H:Hp) (a:Addr):Prop:=(∃ kvs,Rd H a (.dK kvs)) ∨ ∃ kvs,Rd H a (.dT kvs)
theorem aGD {X:Cx} {pins:List (Addr × Obj)} {σ:St} {H:Hp} {s:Shared} {a:Addr} (I:Inv X pins σ H s) (d:IsD H a) :
  s.TypeIs (.ref a) "dict" ∧ (∀ b,Value.ref a = .ref b → ∃ ob,s.heap.get? b = some ob ∧ ob.dict = none) ∧ (a == sysModules) = false:=by
 rcases d with ⟨kvs,e⟩ | ⟨kvs,e⟩
 ·obtain ⟨_,hd,vs,_,dd⟩:=tS I.hok e
  refine ⟨dd.typeIs,fun b q=>?_,hd⟩
  cases q
  obtain ⟨ob,_,_,h1,h2,_⟩:=dd
  exact ⟨ob,h1,h2.2.1⟩
 ·obtain ⟨_,hd,xs,_,dd⟩:=tQ I.hok e
  refine ⟨dd.typeIs,fun b q=>?_,hd⟩
  cases q
  obtain ⟨ob,_,_,h1,h2,_⟩:=dd
  exact ⟨ob,h1,h2.2.1⟩
section
variable {X:Cx} {pins:List (Addr × Obj)} {σ:St} {H:Hp} {s:Shared} {a:Addr} {y d:V} {u r:Value} {o:Option V} {A:Around} {E:Value → Shared → Prop}
theorem aKY {Q:Value → Shared → Prop} (hu:A.units + 1 < cLine) (I:Inv X pins σ H s) (g:oA H a y o) (ry:bF y u) (h:∀ w' s',Inv X pins σ H s' → bF (o.getD .non) w' → Q w' s') :
  wpAny (model X.prog X.w) A (call (.builtin "dict.get") [.ref a,u]) Q E s:=by
 rcases g with ⟨kvs,k,e,ey,l⟩ | ⟨kvs,k,b,e,ey,eb,l⟩
 ·subst ey
  obtain ⟨z,hd,vs,rel,dd⟩:=tS I.hok e
  refine call_meetsIn PySem.F.slot_dict_get dd.typeIs PySem.F.entry_dict_get (PySem.F.args_dict_get_2 _ _) (meets_dict_get (aZ X.prog X.w) a (tK ry) hd) ⟨_,dd.mapOf,h _ _ (I.tok _) ?_⟩
  rw [l]
  exact (rel.val k).getD rfl
 ·subst ey
  cases (show u = Value.ref b from ry)
  obtain ⟨z,hd,xs,rel,dd⟩:=tQ I.hok e
  refine call_meetsIn PySem.F.slot_dict_get dd.typeIs PySem.F.entry_dict_get (PySem.F.args_dict_get_2 _ _) (meetsH_dict_get (tupleKind (aZ X.prog X.w)) a b hd) ⟨tupleKind_room_in1 hu,k,xs,qL I.hok eb,dd,h _ _ (I.tok _) ?_⟩
  rw [l]
  exact (rel.val k).getD rfl
theorem aKX {Q:Value → Shared → Prop} (hu:A.units + 1 < cLine) (I:Inv X pins σ H s) (g:oA H a y o) (ry:bF y u) (rd:bF d r) (h:∀ w' s',Inv X pins σ H s' → bF (o.getD d) w' → Q w' s') :
  wpAny (model X.prog X.w) A (call (.builtin "dict.get") [.ref a,u,r]) Q E s:=by
 rcases g with ⟨kvs,k,e,ey,l⟩ | ⟨kvs,k,b,e,ey,eb,l⟩
 ·subst ey
  obtain ⟨z,hd,vs,rel,dd⟩:=tS I.hok e
  refine call_meetsIn PySem.F.slot_dict_get dd.typeIs PySem.F.entry_dict_get (PySem.F.args_dict_get_3 _ _ _) (meets_dict_get_default (aZ X.prog X.w) a (tK ry) hd r) ⟨_,dd.mapOf,h _ _ (I.tok _) ?_⟩
  rw [l]
  exact (rel.val k).getD rd
 ·subst ey
  cases (show u = Value.ref b from ry)
  obtain ⟨z,hd,xs,rel,dd⟩:=tQ I.hok e
  refine call_meetsIn PySem.F.slot_dict_get dd.typeIs PySem.F.entry_dict_get (PySem.F.args_dict_get_3 _ _ _) (meetsH_dict_get_default (tupleKind (aZ X.prog X.w)) a b hd r) ⟨tupleKind_room_in1 hu,k,xs,qL I.hok eb,dd,h _ _ (I.tok _) ?_⟩
  rw [l]
  exact (rel.val k).getD rd
end
def aKC (td ty:TE):TE:=fun σ H Q=>td σ H fun x H1=>∃ a,x = .ref a ∧ IsD H1 a ∧ ty σ H1 fun y H2=>∃ o,oA H2 a y o ∧ Q (o.getD .non) H2
def aKB (td ty tx:TE):TE:=fun σ H Q=>td σ H fun x H1=>∃ a,x = .ref a ∧ IsD H1 a ∧ ty σ H1 fun y H2=>tx σ H2 fun z H3=>∃ o,oA H3 a y o ∧ Q (o.getD z) H3
section
variable {X:Cx} {o e f:Expr} {apos cpos:Pos} {td ty tx:TE}
theorem aFQ (hu:X.A.units + 1 < cLine) (ho:PE X o td) (he:PE X e ty) (m:M1 X o "get" apos e cpos):PE X (.Call (.Attribute o "get" apos) [e] [] cpos) (aKC td ty):=by
 intro pins s σ H Q I h
 refine wpAny_Call_method m.base m.few m.line PySem.F.plainAttrs_dict PySem.F.slot_dict_get PySem.F.type_dict_get (thn (ho pins s σ H _ I h) fun u s1 ⟨x,H1,I1,rx,a,ex,d,q1⟩=>?_)
 subst ex
 obtain rfl:u = Value.ref a:=rx
 obtain ⟨t1,t2,_⟩:=aGD I1 d
 refine ⟨t1,t2,?_⟩
 rw [m.trees]
 refine Calls.callWith_builtin rfl (Calls.evalArgs_plain (Calls.spliced_cons (thn (he pins s1 σ H1 _ I1 q1) fun iv s2 ⟨y,H2,I2,ry,ov,g,q2⟩=>Calls.spliced_nil ?_)))
 exact aKY hu I2 g ry fun w' s3 I3 rw'=>⟨_,H2,I3,rw',q2⟩
theorem aFP (hu:X.A.units + 1 < cLine) (ho:PE X o td) (he:PE X e ty) (hf:PE X f tx) (m:M2 X o "get" apos e f cpos):PE X (.Call (.Attribute o "get" apos) [e,f] [] cpos) (aKB td ty tx):=by
 intro pins s σ H Q I h
 refine wpAny_Call_method m.base m.few m.line PySem.F.plainAttrs_dict PySem.F.slot_dict_get PySem.F.type_dict_get (thn (ho pins s σ H _ I h) fun u s1 ⟨x,H1,I1,rx,a,ex,d,q1⟩=>?_)
 subst ex
 obtain rfl:u = Value.ref a:=rx
 obtain ⟨t1,t2,_⟩:=aGD I1 d
 refine ⟨t1,t2,?_⟩
 rw [m.trees]
 refine Calls.callWith_builtin rfl (Calls.evalArgs_plain (Calls.spliced_cons (thn (he pins s1 σ H1 _ I1 q1) fun iv s2 ⟨y,H2,I2,ry,q2⟩ =>
  Calls.spliced_cons (thn (hf pins s2 σ H2 _ I2 q2) fun fv s3 ⟨z,H3,I3,rz,ov,g,q3⟩=>Calls.spliced_nil ?_))))
 exact aKX hu I3 g ry rz fun w' s4 I4 rw'=>⟨_,H3,I4,rw',q3⟩
end
section
variable {X:Cx} {pins:List (Addr × Obj)} {σ:St} {H:Hp} {s:Shared} {a:Addr} {kvs:List (Key × V)} {A:Around} {E:Value → Shared → Prop}
end
section
variable {X:Cx} {pins:List (Addr × Obj)} {σ:St} {H:Hp} {s:Shared} {a:Addr} {y:V} {u:Value} {A:Around} {E:Value → Shared → Prop}
end
end L2
namespace HT
open PySem PyProof.Rows
def aMM:List Int → List Int → Bool
 | [],[]=>false
 | [],_ :: _=>true
 | _ :: _,[]=>false
 | x :: xs,y :: ys=>if x = y then aMM xs ys else decide (x < y)
section
open PySem.SeqAt
open PySem.AutoSeq1 (wpAny_loadPart')
open PySem.MeetsSeq PySem.MeetsSeq2 PySem.MeetsSeq3
end
section
variable {prog:Program} {w:World} {A:Around} {E:Value → Shared → Prop} {s:Shared}
def sIx (n d:Nat):Option Int → Nat
 | none=>d
 | some v=>if v < 0 then (v + (n:Int)).toNat else min v.toNat n
theorem sIx_none (n d:Nat):sIx n d none = d:=rfl
theorem sIx_nat (n d k:Nat):sIx n d (some (k:Int)) = min k n:=by
 show (if (k:Int) < 0 then ((k:Int) + (n:Int)).toNat else min (k:Int).toNat n) = min k n
 rw [if_neg (by omega),Int.toNat_natCast]
end
end HT
namespace L2
open PySem PySem.Spec PyProof.Rows
abbrev TO:=St → Hp → (Option Int → Hp → Prop) → Prop
def PO (X:Cx) (e:Option Expr) (t:TO):Prop :=
 ∀ (pins:List (Addr × Obj)) (s:Shared) (σ:St) (H:Hp) (Q:Option Int → Hp → Prop),Inv X pins σ H s → t σ H Q →
  wpAny (model X.prog X.w) X.A (evalPart e X.env) (fun u s'=>∃ o H',Inv X pins σ H' s' ∧ IsPart u o ∧ Q o H') X.xe s
def aHK:TO:=fun _ H Q=>Q none H
def aLN (t:TE):TO:=fun σ H Q=>t σ H fun x H1=>∃ i,x = .int i ∧ Q (some i) H1
section
variable {X:Cx} {e:Expr} {te:TE} {lo hi:Option Expr} {tl th:TO} {pos p2:Pos}
theorem pK:PO X none aHK:=by
 intro pins s σ H Q I h
 rw [evalPart_none]
 exact wpAny_pure ⟨none,H,I,.none,h⟩
theorem pJ (h:PE X e te):PO X (some e) (aLN te):=by
 intro pins s σ H Q I hw
 rw [evalPart_some]
 refine thn (h pins s σ H _ I hw) fun u s1 ⟨x,H1,I1,r1,q1⟩=>?_
 obtain ⟨i,rfl,q⟩:=q1
 obtain ⟨t,rfl⟩:=r1
 exact ⟨some i,H1,I1,.int i t,q⟩
def SlR (X:Cx) (r:V → Option Int → Option Int → Hp → VK → Prop):Prop :=
 ∀ (pins:List (Addr × Obj)) (s:Shared) (σ:St) (H:Hp) (x:V) (v vl vu:Value) (lo hi:Option Int) (sl:Addr) (Q:VK),Inv X pins σ H s → bF x v → s.heap.IsSliceOf sl vl vu .none → IsPart vl lo → IsPart vu hi → r x lo hi H Q →
  ∃ T id,typeLookup (.type T) "__getitem__" = pure (some (.builtin id)) ∧ s.TypeIs v T ∧ wpAny (model X.prog X.w) X.A (getItem v (.ref sl)) (EP X pins σ Q) X.xe s
def tSl (r:V → Option Int → Option Int → Hp → VK → Prop) (te:TE) (tl th:TO):TE:=fun σ H Q=>te σ H fun x H1=>tl σ H1 fun l H2=>th σ H2 fun u H3=>r x l u H3 Q
theorem mJ {r:V → Option Int → Option Int → Hp → VK → Prop} (hr:SlR X r) (he:PE X e te) (hl:PO X lo tl) (hu:PO X hi th):PE X (.Subscript e (.Slice lo hi none p2) pos) (tSl r te tl th):=by
 intro pins s σ H Q I h
 refine Subscript_ (thn (he pins s σ H _ I h) fun v s1 ⟨x,H1,I1,r1,q1⟩=>?_)
 refine wpAny_Slice (thn (hl pins s1 σ H1 _ I1 q1) fun vl s2 ⟨l,H2,I2,pl,q2⟩=>thn (hu pins s2 σ H2 _ I2 q2) fun vu s3 ⟨u,H3,I3,pu,q3⟩=>?_)
 rw [evalPart_none]
 refine wpAny_pure ?_
 have I4:Inv X pins σ H3 { s3 with heap:=s3.heap.push { cls:=.type "slice",data:=.fields #[vl,vu,.none] } }:=I3.kept (t':=s3.toks) fun b ob q=>Heap.get?_push_of_some _ q
 obtain ⟨T,id,hT,ht,hg⟩:=hr pins { s3 with heap:=s3.heap.push { cls:=.type "slice",data:=.fields #[vl,vu,.none] } } σ H3 x v vl vu l u s3.heap.objs.size Q I4 r1 (Heap.IsSliceOf.new ..) pl pu q3
 show wpAny (model X.prog X.w) X.A (subscriptTail e (.Slice lo hi none p2) v (.ref s3.heap.objs.size)) (EP X pins σ Q) X.xe { s3 with heap:=s3.heap.push { cls:=.type "slice",data:=.fields #[vl,vu,.none] } }
 exact tail_any (ops:=[.ref s3.heap.objs.size,v]) ht hT hg (by with_unfolding_all rfl)
def yV (xs:List V) (lo hi:Option Int):List V:=(xs.drop (HT.sIx xs.length 0 lo)).take (HT.sIx xs.length xs.length hi - HT.sIx xs.length 0 lo)
theorem yU (xs:List V) (lo hi:Option Int):(yV xs lo hi).length ≤ xs.length:=by
 unfold yV
 rw [List.length_take,List.length_drop]
 omega
end
end L2
namespace L2
open PySem PySem.Spec PyProof.Rows
def ixN (n:Nat) (i:Int):Option Nat:=if 0 ≤ i then (if i < n then some i.toNat else none) else if -(n:Int) ≤ i then some (i + n).toNat else none
def atI {α:Type} (xs:List α) (i:Int):Option α:=(ixN xs.length i).bind fun j=>xs[j]?
theorem aIN {n:Nat} {i:Int} {j:Nat} (h:ixN n i = some j):seqIndex? i n = some j ∧ j < n ∧ -(n:Int) ≤ i ∧ i < n:=by
 unfold ixN at h
 by_cases h0:0 ≤ i
 ·rw [if_pos h0] at h
  by_cases h1:i < n
  ·rw [if_pos h1] at h
   have e:i.toNat = j:=Option.some.inj h
   exact ⟨by rw [seqIndex_of h0 h1,e],by omega,by omega,h1⟩
  ·rw [if_neg h1] at h;cases h
 ·rw [if_neg h0] at h
  by_cases h1:-(n:Int) ≤ i
  ·rw [if_pos h1] at h
   have e:(i + n).toNat = j:=Option.some.inj h
   exact ⟨by rw [seqIndex_neg (by omega) h1,e],by omega,h1,by omega⟩
  ·rw [if_neg h1] at h;cases h
theorem wZ {α:Type} {xs:List α} {i:Int} {v:α} (h:atI xs i = some v):∃ j,seqIndex? i xs.length = some j ∧ xs[j]? = some v ∧ j < xs.length ∧ -(xs.length:Int) ≤ i ∧ i < xs.length:=by
 unfold atI at h
 cases e:ixN xs.length i with
 | none=>rw [e] at h;cases h
 | some j =>
  rw [e] at h
  obtain ⟨h1,h2,h3,h4⟩:=aIN e
  exact ⟨j,h1,h,h2,h3,h4⟩
theorem aK {α:Type} {xs:List α} {j:Nat} {v:α} (h:xs[j]? = some v):atI xs (j:Int) = some v:=by
 have hj:j < xs.length:=(List.getElem?_eq_some_iff.mp h).1
 have e:ixN xs.length (j:Int) = some j:=by
  unfold ixN
  rw [if_pos (by omega),if_pos (by omega)];simp
 unfold atI;rw [e];exact h
def aJB (b:Expr):Prop:=∀ o i,subscripted b false o i = operate [o,i] (getItem o i)
def IxR (X:Cx) (r:R2):Prop :=
 ∀ (value slice:Expr) (pins:List (Addr × Obj)) (s:Shared) (σ:St) (H:Hp) (x y:V) (v u:Value) (Q:VK),Inv X pins σ H s → bF x v → bF y u → r x y H Q →
  subscripted slice false v u = operate [v,u] (getItem v u) → wpAny (model X.prog X.w) X.A (subscriptTail value slice v u) (EP X pins σ Q) X.xe s
def MtR (X:Cx) (id:String) (r:V → List V → Hp → VK → Prop):Prop :=
 ∀ (pins:List (Addr × Obj)) (s:Shared) (σ:St) (H:Hp) (x:V) (xs:List V) (v:Value) (us:List Value) (Q:VK),Inv X pins σ H s → bF x v → bH xs us → r x xs H Q →
  wpAny (model X.prog X.w) X.A (call (.builtin id) (v :: us)) (EP X pins σ Q) X.xe s
section
variable {X:Cx} {a b:Expr} {ta tb:TE} {pos:Pos}
theorem aY {r:R2} (hr:IxR X r) (ha:PE X a ta) (hb:PE X b tb) (hs:aJB b):PE X (.Subscript a b pos) (tOp r ta tb):=by
 intro pins s σ H Q I h
 exact Subscript_ (aLC ha hb I h fun v u s2 x y H2 I2 rx ry q=>hr a b pins s2 σ H2 x y v u Q I2 rx ry q (hs _ _))
def aMB (K:PySem.W.Frag):R2:=fun x y H Q=>∃ p xs i v,x = .ref p ∧ y = .int i ∧ SqL K H p xs ∧ atI xs i = some v ∧ Q v H
def aMA (K:PySem.W.Frag):R2:=fun x y H Q=>∃ p xs i v,x = .ref p ∧ y = .int i ∧ SqT K H p xs ∧ atI xs i = some v ∧ Q v H
def aNP:R2:=fun x y H Q=>∃ z i c,x = .str z ∧ y = .int i ∧ z.length ≤ sizeLine ∧ atI z.cps.toList i = some c ∧ Q (.str ⟨#[c]⟩) H
theorem aIM:IxR X (aMB X.K):=by
 intro value slice pins s σ H x y v u Q I rx ry h hs
 obtain ⟨p,xs,i,z,rfl,rfl,hq,he,q⟩:=h
 cases rx
 obtain ⟨t,rfl⟩:=ry
 obtain ⟨its,r,pl,hz⟩:=I.list hq
 obtain ⟨j,h1,h2,h3,h4,h5⟩:=wZ he
 obtain ⟨w,ew,rw'⟩:=r.get h2
 have hl:=r.length
 have hn:=tI
 have fin:EP X pins σ Q w s:=⟨z,H,I,rw',q⟩
 by_cases h0:0 ≤ i
 ·have hj:i.toNat = j:=by
   rw [seqIndex_of h0 h5] at h1
   exact Option.some.inj h1
  exact item_listR pl.isList h0 (by omega) (by rw [hj];simpa using ew) fin hs
 ·have hj:(i + (its.toArray.size:Int)).toNat = j:=by
   rw [seqIndex_neg (by omega) h4] at h1
   rw [List.size_toArray,← hl]
   exact Option.some.inj h1
  exact subscriptTail_builtinR (x:=w) pl.isList.typeIs slot_list_getitem.lookup
   (wpAny_getItem_list_neg (Q:=fun r s'=>r = w ∧ EP X pins σ Q r s') pl.isList (by omega) (by rw [List.size_toArray] <;> omega) (by omega) (by rw [hj];simpa using ew) ⟨rfl,fin⟩) hs
theorem aKU:IxR X (aMA X.K):=by
 intro value slice pins s σ H x y v u Q I rx ry h hs
 obtain ⟨p,xs,i,z,rfl,rfl,hq,he,q⟩:=h
 cases rx
 obtain ⟨t,rfl⟩:=ry
 obtain ⟨its,r,pl,hz⟩:=I.tuple hq
 obtain ⟨j,h1,h2,h3,h4,h5⟩:=wZ he
 obtain ⟨w,ew,rw'⟩:=r.get h2
 have hl:=r.length
 have hn:=tI
 have fin:EP X pins σ Q w s:=⟨z,H,I,rw',q⟩
 exact subscriptTail_builtinR (x:=w) pl.typeIs slot_tuple_getitem.lookup
  (getItem_tuple (j:=j) (Q:=fun r s'=>r = w ∧ EP X pins σ Q r s') pl (by omega) (by omega) (by rw [List.size_toArray,← hl];exact h1) (by simpa using ew) ⟨rfl,fin⟩) hs
theorem aGA:IxR X aNP:=by
 intro value slice pins s σ H x y v u Q I rx ry h hs
 obtain ⟨z,i,c,rfl,rfl,hz,he,q⟩:=h
 obtain ⟨t,rfl⟩:=rx
 obtain ⟨t',rfl⟩:=ry
 obtain ⟨j,h1,h2,h3,h4,h5⟩:=wZ he
 have hl:z.cps.toList.length = z.length:=by simp [Str.length]
 rw [hl] at h1 h4 h5
 have hn:=tI
 exact tail_any (typeIs_str s z t) slot_str_getitem.lookup (getItem_str (c:=c) (by
  have e1:decide (i < -(2 ^ 63:Int)) = false:=decide_eq_false (by omega)
  have e2:decide (i ≥ 2 ^ 63) = false:=decide_eq_false (by omega)
  rw [e1,e2,Bool.or_false]) (by rw [h1];simpa using h2) ⟨.str ⟨#[c]⟩,H,I.tok _,⟨_,rfl⟩,q⟩) hs
theorem vT (lo hi:Option Int) (n:Nat):(sliceBounds lo hi none n).1 = ((HT.sIx n 0 lo:Nat):Int) ∧ (sliceBounds lo hi none n).2.1 = ((HT.sIx n n hi:Nat):Int) ∧ (sliceBounds lo hi none n).2.2 = 1:=by
 refine ⟨?_,?_,rfl⟩
 ·cases lo with
  | none=>simp [sliceBounds,HT.sIx]
  | some i =>
   simp only [sliceBounds,HT.sIx,Option.getD_none,show (1:Int) > 0 by decide,if_true]
   by_cases h:i < 0
   ·simp only [h,if_true] <;> omega
   ·simp only [h,if_false] <;> omega
 ·cases hi with
  | none=>simp [sliceBounds,HT.sIx]
  | some i =>
   simp only [sliceBounds,HT.sIx,Option.getD_none,show (1:Int) > 0 by decide,if_true]
   by_cases h:i < 0
   ·simp only [h,if_true] <;> omega
   ·simp only [h,if_false] <;> omega
theorem uA (its:List Value) (lo hi:Option Int):slicePick its.toArray lo hi none = ((its.drop (HT.sIx its.length 0 lo)).take (HT.sIx its.length its.length hi - HT.sIx its.length 0 lo)).toArray:=by
 obtain ⟨h1,h2,h3⟩:=vT lo hi its.toArray.size
 unfold slicePick
 rw [h1,h2,h3]
 simp only [sliceRange_one,pick_run,List.size_toArray] <;> rfl
def aLZ (K:PySem.W.Frag):V → Option Int → Option Int → Hp → VK → Prop:=fun x lo hi H Q=>∃ a xs,x = .ref a ∧ SqL K H a xs ∧ ∀ p,H p = none → Q (.ref p) (upd H p (.lst (yV xs lo hi)))
theorem aHN:SlR X (aLZ X.K):=by
 intro pins s σ H x v vl vu lo hi sl Q I rx hs pl pu h
 obtain ⟨a,xs,rfl,hx,q⟩:=h
 cases rx
 obtain ⟨its,r,ht,hz⟩:=I.list hx
 have hlen:=r.length
 refine ⟨"list",_,slot_list_getitem.lookup,ht.isList.typeIs,?_⟩
 refine wpAny_getItem_list_slice ht.isList hs pl pu .none (by simp) ?_ (by rw [List.size_toArray] <;> omega)
 rw [uA,← hlen]
 refine ⟨.ref s.heap.objs.size,_,I.laid (t':=s.toks) (o:=.lst (yV xs lo hi)) (fun b ob q=>Heap.get?_push_of_some _ q) (Nat.le_refl _) ?_,rfl,q _ (I.hok.fresh (Nat.le_refl _))⟩
 exact ⟨Nat.le_trans (yU xs lo hi) hz,_,0,(r.drop (HT.sIx xs.length 0 lo)).take (HT.sIx xs.length xs.length hi - HT.sIx xs.length 0 lo),Heap.get?_push_size _ rfl⟩
def pX:V → Bool
 | .non=>true
 | .bl _=>true
 | .int _=>true
 | .str _=>true
 | _=>false
def eqV:V → V → Bool
 | .non,.non=>true
 | .bl a,.bl b=>a == b
 | .bl a,.int b=>(if a then 1 else 0) == b
 | .int a,.bl b=>a == (if b then 1 else 0)
 | .int a,.int b=>a == b
 | .str a,.str b=>a == b
 | _,_=>false
theorem lM {A:Around} {s:Shared} {y x:V} {u v:Value} (ry:bF y u) (rx:bF x v) (fy:pX y = true) (fx:pX x = true):SeqAt.EqAt A s u v (eqV y x):=by
 cases y with
 | non =>
  cases ry
  cases x with
  | non=>cases rx;exact SeqAt.EqAt.same _
  | bl b=>cases rx;exact SeqAt.EqAt.none_bool b
  | int b=>obtain ⟨t,rfl⟩:=rx;exact SeqAt.EqAt.none_int b t
  | str b=>obtain ⟨t,rfl⟩:=rx;exact SeqAt.EqAt.none_str b t
  | _=>exact absurd (show false = true from fx) Bool.false_ne_true
 | bl a =>
  cases ry
  cases x with
  | non=>cases rx;exact SeqAt.EqAt.bool_none a
  | bl b=>cases rx;exact SeqAt.EqAt.bool_bool a b
  | int b=>obtain ⟨t,rfl⟩:=rx;exact SeqAt.EqAt.bool_int a b t
  | str b=>obtain ⟨t,rfl⟩:=rx;exact SeqAt.EqAt.bool_str a b t
  | _=>exact absurd (show false = true from fx) Bool.false_ne_true
 | int a =>
  obtain ⟨t',rfl⟩:=ry
  cases x with
  | non=>cases rx;exact SeqAt.EqAt.int_none a t'
  | bl b=>cases rx;exact SeqAt.EqAt.int_bool a t' b
  | int b=>obtain ⟨t,rfl⟩:=rx;exact SeqAt.EqAt.int_int a t' b t
  | str b=>obtain ⟨t,rfl⟩:=rx;exact SeqAt.EqAt.int_str a t' b t
  | _=>exact absurd (show false = true from fx) Bool.false_ne_true
 | str a =>
  obtain ⟨t',rfl⟩:=ry
  cases x with
  | non=>cases rx;exact SeqAt.EqAt.str_none a t'
  | bl b=>cases rx;exact SeqAt.EqAt.str_bool a t' b
  | int b=>obtain ⟨t,rfl⟩:=rx;exact SeqAt.EqAt.str_int a t' b t
  | str b=>obtain ⟨t,rfl⟩:=rx;exact SeqAt.EqAt.str_str a t' b t
  | _=>exact absurd (show false = true from fx) Bool.false_ne_true
 | _=>exact absurd (show false = true from fy) Bool.false_ne_true
def eqU (x:V) (u:Value):Bool:=match u with
 | .none=>eqV .non x
 | .bool b=>eqV (.bl b) x
 | .int i _=>eqV (.int i) x
 | .str z _=>eqV (.str z) x
 | _=>false
theorem aGS {x y:V} {u:Value} (r:bF y u) (f:pX y = true):eqU x u = eqV y x:=by
 cases y with
 | non=>cases r;rfl
 | bl b=>cases r;rfl
 | int i=>obtain ⟨t,rfl⟩:=r;rfl
 | str z=>obtain ⟨t,rfl⟩:=r;rfl
 | _=>exact absurd (show false = true from f) Bool.false_ne_true
theorem qA {x:V}:∀ {xs:List V} {us:List Value},bH xs us → xs.all pX = true → us.any (eqU x) = xs.any fun y=>eqV y x
 | _,_,.nil,_=>rfl
 | y :: xs,u :: us,.cons r t,f=>by
  rw [List.all_cons,Bool.and_eq_true] at f
  rw [List.any_cons,List.any_cons,aGS r f.1,qA t f.2]
theorem mS {A:Around} {s:Shared} {x:V} {v:Value} (rx:bF x v) (fx:pX x = true):∀ {xs:List V} {us:List Value},bH xs us → xs.all pX = true → ∀ u ∈ us,SeqAt.EqAt A s u v (eqU x u)
 | _,_,.nil,_=>fun u hu=>by cases hu
 | y :: xs,u :: us,.cons r t,f=>fun u' hu=>by
  rw [List.all_cons,Bool.and_eq_true] at f
  rcases List.mem_cons.mp hu with rfl | hu
  ·rw [aGS r f.1];exact lM r rx f.1 fx
  ·exact mS rx fx t f.2 u' hu
def inV (x:V) (xs:List V):Bool:=xs.any fun y=>eqV y x
def rIn (K:PySem.W.Frag) (neg:Bool):R2:=fun x y H Q=>∃ p xs,y = .ref p ∧ (SqL K H p xs ∨ SqT K H p xs) ∧ pX x = true ∧ xs.all pX = true ∧ Q (.bl (if neg then !inV x xs else inV x xs)) H
theorem aCU:OpR X (compareOp .In) (rIn X.K false):=by
 intro pins s σ H x y v u Q I rx ry h
 obtain ⟨p,xs,rfl,hq,fx,fs,q⟩:=h
 cases ry
 rcases hq with hq | hq
 ·obtain ⟨its,r,pl,hz⟩:=I.list hq
  refine SeqAt.in_listAt (eqU x) pl.isList (fun w hw=>mS rx fx r fs w (by simpa using hw)) ⟨.bl _,H,I,rfl,?_⟩
  rw [show its.toArray.any (eqU x) = its.any (eqU x) by simp,qA r fs]
  exact q
 ·obtain ⟨its,r,pl,hz⟩:=I.tuple hq
  refine SeqAt.in_tupleAt (eqU x) pl (fun w hw=>mS rx fx r fs w (by simpa using hw)) ⟨.bl _,H,I,rfl,?_⟩
  rw [show its.toArray.any (eqU x) = its.any (eqU x) by simp,qA r fs]
  exact q
theorem wA:OpR X (compareOp .NotIn) (rIn X.K true):=by
 intro pins s σ H x y v u Q I rx ry h
 obtain ⟨p,xs,rfl,hq,fx,fs,q⟩:=h
 cases ry
 rcases hq with hq | hq
 ·obtain ⟨its,r,pl,hz⟩:=I.list hq
  refine SeqAt.notIn_listAt (eqU x) pl.isList (fun w hw=>mS rx fx r fs w (by simpa using hw)) ⟨.bl _,H,I,rfl,?_⟩
  rw [show its.toArray.any (eqU x) = its.any (eqU x) by simp,qA r fs]
  exact q
 ·obtain ⟨its,r,pl,hz⟩:=I.tuple hq
  refine SeqAt.notIn_tupleAt (eqU x) pl (fun w hw=>mS rx fx r fs w (by simpa using hw)) ⟨.bl _,H,I,rfl,?_⟩
  rw [show its.toArray.any (eqU x) = its.any (eqU x) by simp,qA r fs]
  exact q
theorem wX:gH X (.builtin "len") (fun xs H Q=>∃ p ys,xs = [.ref p] ∧ (SqL X.K H p ys ∨ SqT X.K H p ys) ∧ Q (.int ys.length) H):=by
 intro pins s σ H xs us Q I r h
 obtain ⟨p,ys,rfl,hq,q⟩:=h
 obtain ⟨u,rfl,rx⟩:=aAN r
 cases rx
 have hn:=tI
 rcases hq with hq | hq
 ·obtain ⟨its,r',pl,hz⟩:=I.list hq
  have hlen:=r'.length
  exact Calls.call_len_list pl.isList (by simp only [List.size_toArray] <;> omega) ⟨.int ys.length,H,I.tok _,⟨s.toks + 1,by rw [List.size_toArray,hlen]⟩,q⟩
 ·obtain ⟨its,r',pl,hz⟩:=I.tuple hq
  have hlen:=r'.length
  exact len_tuple pl (by simp only [List.size_toArray] <;> omega) ⟨.int ys.length,H,I.tok _,⟨s.toks + 1,by rw [List.size_toArray,hlen]⟩,q⟩
theorem wW:gH X (.builtin "len") (fun xs H Q=>∃ z,xs = [.str z] ∧ z.length ≤ sizeLine ∧ Q (.int z.length) H):=by
 intro pins s σ H xs us Q I r h
 obtain ⟨z,rfl,hz,q⟩:=h
 obtain ⟨u,rfl,t,rfl⟩:=aAN r
 have hn:=tI
 exact len_str (by omega) ⟨.int z.length,H,I.tok _,⟨_,rfl⟩,q⟩
theorem wV:gH X (.type "list") (fun xs H Q=>∃ p ys,xs = [.ref p] ∧ (SqL X.K H p ys ∨ SqT X.K H p ys) ∧ ∀ l,H l = none → Q (.ref l) (upd H l (.lst ys))):=by
 intro pins s σ H xs us Q I r h
 obtain ⟨p,ys,rfl,hq,q⟩:=h
 obtain ⟨u,rfl,rx⟩:=aAN r
 cases rx
 have fin:∀ (its:List Value),bH ys its → ys.length ≤ sizeLine → ∀ (h':Heap) (c':Nat),(∀ b o',s.heap.get? b = some o' → h'.get? b = some o') →
   h'.get? s.heap.objs.size = some { cls:=.type "list",dict:=none,data:=.seq its.toArray c',slots:=#[] } → EP X pins σ Q (.ref s.heap.objs.size) { s with heap:=h' }:=fun its r' hz h' c' kp e =>
  ⟨.ref s.heap.objs.size,_,I.laid (t':=s.toks) kp (Nat.le_refl _) (show cM X.prog X.w _ h' _ (.lst ys) from ⟨hz,its,c',r',e⟩),rfl,q _ (I.hok.fresh (Nat.le_refl _))⟩
 rcases hq with hq | hq
 ·obtain ⟨its,r',pl,hz⟩:=I.list hq
  have hlen:=r'.length
  obtain ⟨o,ho,hc,n,hd⟩:=pl.isList
  exact call_list_seq p (.inl rfl) ho hc hd (fun h' c' kp e=>fin its r' hz h' c' kp e) (by simp only [List.size_toArray] <;> omega)
 ·obtain ⟨its,r',pl,hz⟩:=I.tuple hq
  have hlen:=r'.length
  obtain ⟨o,ho,hc,n,hd⟩:=pl
  exact call_list_seq p (.inr rfl) ho hc hd (fun h' c' kp e=>fin its r' hz h' c' kp e) (by simp only [List.size_toArray] <;> omega)
theorem oI:gH X (.type "tuple") (fun xs H Q=>∃ p ys,xs = [.ref p] ∧ ((SqL X.K H p ys ∧ ∀ l,H l = none → Q (.ref l) (upd H l (.tup ys))) ∨ (SqT X.K H p ys ∧ Q (.ref p) H))):=by
 intro pins s σ H xs us Q I r h
 obtain ⟨p,ys,rfl,h⟩:=h
 obtain ⟨u,rfl,rx⟩:=aAN r
 cases rx
 rcases h with ⟨hq,q⟩ | ⟨hq,q⟩
 ·obtain ⟨its,r',pl,hz⟩:=I.list hq
  have hlen:=r'.length
  refine call_tuple_list pl.isList (fun h' kp=>?_) (by simp only [List.size_toArray] <;> omega)
  have I1:Inv X pins σ H { s with heap:=h' }:=I.kept (t':=s.toks) kp
  have I2:Inv X pins σ (upd H h'.objs.size (.tup ys)) { s with heap:=h'.push { cls:=.type "tuple",data:=.seq its.toArray } } :=
   I1.laid (t':=s.toks) (fun b o e=>Heap.get?_push_of_some _ e) (Nat.le_refl _) (show cM X.prog X.w _ _ _ (.tup ys) from ⟨hz,its,r',qU.new _ _⟩)
  exact ⟨.ref h'.objs.size,_,I2,rfl,q _ (I1.hok.fresh (Nat.le_refl _))⟩
 ·obtain ⟨its,r',pl,hz⟩:=I.tuple hq
  exact call_tuple_same pl ⟨.ref p,H,I,rfl,q⟩
def tyV (K:PySem.W.Frag) (T:String) (x:V) (H:Hp):Prop:=match x with
 | .str _=>T = "str"
 | .int _=>T = "int"
 | .ref p=>(T = "list" ∧ ∃ xs,SqL K H p xs) ∨ (T = "tuple" ∧ ∃ o,K.lookup p = some o ∧ o.cls = .type "tuple" ∧ o.dict = none) ∨
   (T = "dict" ∧ ((∃ kvs,H p = some (.dK kvs)) ∨ ∃ kvs,H p = some (.dT kvs))) ∨ (T = "set" ∧ ∃ S n,H p = some (.set S n)) ∨ (T = "tuple" ∧ ∃ xs,H p = some (.tup xs))
 | _=>False
theorem aEG {pins:List (Addr × Obj)} {σ:St} {H:Hp} {s:Shared} {T:String} {x:V} {v:Value} (I:Inv X pins σ H s) (r:bF x v) (ty:tyV X.K T x H) :
  s.TypeIs v T ∧ ∀ a,v = .ref a → ∃ ob,s.heap.get? a = some ob ∧ ob.dict = none:=by
 cases x with
 | str z =>
  obtain ⟨t,rfl⟩:=r
  cases (show T = "str" from ty)
  exact ⟨typeIs_str s z t,fun _ e=>nomatch e⟩
 | int i =>
  obtain ⟨t,rfl⟩:=r
  cases (show T = "int" from ty)
  exact ⟨typeIs_int s i t,fun _ e=>nomatch e⟩
 | ref p =>
  cases r
  rcases ty with ⟨rfl,xs,hq⟩ | ⟨rfl,o,hk,hc,hd⟩ | ⟨rfl,hk⟩ | ⟨rfl,S,n,hk⟩ | ⟨rfl,xs,hk⟩
  ·obtain ⟨its,_,pl,_⟩:=I.list hq
   refine ⟨pl.isList.typeIs,fun a e=>?_⟩
   cases e
   obtain ⟨o,n,e,c,hd,_⟩:=pl
   exact ⟨o,e,hd⟩
  ·refine ⟨⟨o,I.kIn p o hk,hc⟩,fun a e=>?_⟩
   cases e
   exact ⟨o,I.kIn _ o hk,hd⟩
  ·have z:∃ o,s.heap.get? p = some o ∧ o.ExactDict:=by
    rcases hk with ⟨kvs,hk⟩ | ⟨kvs,hk⟩
    ·obtain ⟨_,_,_,_,o,_,_,e,ex,_⟩:=I.hok p _ hk
     exact ⟨o,e,ex⟩
    ·obtain ⟨_,_,_,_,o,_,_,e,ex,_⟩:=I.hok p _ hk
     exact ⟨o,e,ex⟩
   obtain ⟨o,e,ex⟩:=z
   refine ⟨⟨o,e,ex.1⟩,fun a e2=>?_⟩
   cases e2
   exact ⟨o,e,ex.2.1⟩
  ·obtain ⟨o,_,_,_,e,ex,_⟩:=I.hok p _ hk
   refine ⟨⟨o,e,ex.1⟩,fun a e2=>?_⟩
   cases e2
   exact ⟨o,e,ex.2.1⟩
  ·obtain ⟨_,_,_,o,e,hc,_,_,hd⟩:=(show cM X.prog X.w H s.heap p (.tup xs) from I.hok p _ hk)
   refine ⟨⟨o,e,hc⟩,fun a e2=>?_⟩
   cases e2
   exact ⟨o,e,hd⟩
 | _=>exact False.elim ty
def aNK (K:PySem.W.Frag) (T:String) (r:V → List V → Hp → VK → Prop) (to:TE):TE:=fun σ H Q=>to σ H fun x H1=>tyV K T x H1 ∧ r x [] H1 Q
def tBM (K:PySem.W.Frag) (T:String) (r:V → List V → Hp → VK → Prop) (to:TE) (t:TA):TE:=fun σ H Q=>to σ H fun x H1=>tyV K T x H1 ∧ t σ H1 fun xs H2=>r x xs H2 Q
variable {o e:Expr} {es:List Expr} {to:TE} {t:TA} {name:Str} {apos cpos:Pos} {T id:String} {r:V → List V → Hp → VK → Prop}
theorem aKK (pa:PlainAttrs T) (slot:Slot T name id) (hty:typeOf (.builtin id) = pure (.type "method_descriptor")) (hm:MtR X id r) (ho:PE X o to)
  (hbase:attributeBase o name X.env (eval o X.env) = eval o X.env:=by rfl) (hline:(apos.endLine == cpos.line) = true:=by rfl):PE X (.Call (.Attribute o name apos) [] [] cpos) (aNK X.K T r to):=by
 intro pins s σ H Q I h
 refine wpAny_Call_method0_late hbase hline (thn (ho pins s σ H _ I h) fun v s1 ⟨x,H1,I1,r1,ty,q1⟩=>?_)
 obtain ⟨h1,h2⟩:=aEG I1 r1 ty
 exact ⟨T,id,pa,slot,hty,h1,h2,Calls.callWith_builtin rfl (PySem.evalArgs_none (hm pins s1 σ H1 x [] v [] Q I1 r1 .nil q1))⟩
theorem qV (pa:PlainAttrs T) (slot:Slot T name id) (hty:typeOf (.builtin id) = pure (.type "method_descriptor")) (hm:MtR X id r) (ho:PE X o to) (ha:PA X (e :: es) t)
  (hbase:attributeBase o name X.env (eval o X.env) = eval o X.env:=by rfl)
  (hfew:((backTo cpos (starEach (e :: es) X.env)).all (fun x=>!x.1) && (backToKw cpos (keywordEach [] X.env)).all (fun x=>x.1.isSome)
   && decide ((e :: es).length + ([]:List Keyword).length + (if ([]:List Keyword).isEmpty then 0 else 1) < 30)) = true:=by rfl)
  (hline:(apos.endLine == cpos.line) = true:=by rfl) (hs:starEach (e :: es) X.env = (false,eval e X.env) :: starEach es X.env:=by rfl) (hplain:(backTo cpos (starEach es X.env)).any (·.1) = false:=by rfl) :
  PE X (.Call (.Attribute o name apos) (e :: es) [] cpos) (tBM X.K T r to t):=by
 intro pins s σ H Q I h
 refine wpAny_Call_method_late hbase hfew hline rfl (thn (ho pins s σ H _ I h) fun v s1 ⟨x,H1,I1,r1,ty,q1⟩=>?_)
 obtain ⟨h1,h2⟩:=aEG I1 r1 ty
 refine ⟨T,id,pa,slot,hty,h1,h2,?_⟩
 have hA:=ha cpos pins s1 σ H1 _ I1 q1
 rw [hs] at hA ⊢
 refine Calls.callWith_builtin (by show (false || (backTo cpos (starEach es X.env)).any (·.1)) = false;rw [hplain] <;> rfl) (Calls.evalArgs_plain ?_)
 exact thn hA fun us s2 ⟨vs,H2,I2,r2,q2⟩=>hm pins s2 σ H2 x vs v us Q I2 r1 r2 q2
end
end L2
namespace L2
open PySem PySem.Spec PyProof.Rows
def MtM (X:Cx) (id:String) (r:V → List V → Hp → VK → Prop):Prop :=
 ∀ (pins:List (Addr × Obj)) (s:Shared) (σ:St) (H:Hp) (x:V) (xs:List V) (v:Value) (us:List Value) (Q:VK),Inv X pins σ H s → bF x v → bH xs us → r x xs H Q →
  wpAny (model X.prog X.w) X.A (call (.builtin id) (v :: us)) (EP X pins σ Q) X.xe s
theorem bH.one:∀ {x:V} {us:List Value},bH [x] us → ∃ u,us = [u] ∧ bF x u
 | _,_,.cons r .nil=>⟨_,rfl,r⟩
theorem bH.two:∀ {x y:V} {us:List Value},bH [x,y] us → ∃ u v,us = [u,v] ∧ bF x u ∧ bF y v
 | _,_,_,.cons r (.cons q .nil)=>⟨_,_,rfl,r,q⟩
theorem bH.zero:∀ {us:List Value},bH [] us → us = []
 | _,.nil=>rfl
theorem bH.rep {xs:List V} {us:List Value} (h:bH xs us):∀ k:Nat,bH (List.replicate k xs).flatten (List.replicate k us).flatten
 | 0=>.nil
 | k + 1=>by
  rw [List.replicate_succ,List.replicate_succ,List.flatten_cons,List.flatten_cons]
  exact bH.append h (bH.rep h k)
theorem vB (its:List Value):∀ (k:Nat) (acc:List Value),
  List.foldl (fun x1 x2=>x1 ++ x2) acc.toArray (List.replicate k its.toArray) = (acc ++ (List.replicate k its).flatten).toArray
 | 0,acc=>by simp
 | k + 1,acc=>by
  have e:acc.toArray ++ its.toArray = (acc ++ its).toArray:=by simp
  have e2:(acc ++ its) ++ (List.replicate k its).flatten = acc ++ (List.replicate (k + 1) its).flatten:=by
   rw [List.replicate_succ,List.flatten_cons,List.append_assoc]
  rw [← e2,← vB its k (acc ++ its),← e,List.replicate_succ,List.foldl_cons]
section
variable {X:Cx} {pins:List (Addr × Obj)} {σ:St} {H:Hp} {s:Shared} {l b:Addr} {xs ys zs:List V}
theorem Inv.lset {its its':List Value} {n:Nat} {f:Array Value → Array Value} {t':Nat} (I:Inv X pins σ H s) (hH:H l = some (.lst xs))
  (e:s.heap.get? l = some { cls:=.type "list",data:=.seq its.toArray n }) (hf:f its.toArray = its'.toArray) (hv:bH ys its') (hz:ys.length ≤ sizeLine) :
  Inv X pins σ (upd H l (.lst ys)) { s with heap:=s.heap.update l (Obj.mapSeq f),toks:=t' }:=by
 have q:=PySem.IsL.update e f
 rw [hf] at q
 refine I.write (x:=l) (e:=l) (by rw [hH];exact trivial) (.inl rfl) (fun b' u hb hu=>(Heap.get?_update_other s.heap (Obj.mapSeq f) (Ne.symm hb)).trans hu) ⟨_,q⟩ ?_
 exact ⟨hz,its',_,hv,q⟩
theorem Inv.lnew {its:List Value} {t':Nat} (I:Inv X pins σ H s) (hv:bH ys its) (hz:ys.length ≤ sizeLine) :
  Inv X pins σ (upd H s.heap.objs.size (.lst ys)) { s with heap:=s.heap.push { cls:=.type "list",data:=.seq its.toArray },toks:=t' } :=
 I.laid (fun _ _ q=>Heap.get?_push_of_some _ q) (Nat.le_refl _) ⟨hz,its,0,hv,Heap.get?_push_size _ rfl⟩
theorem Inv.fresh (I:Inv X pins σ H s):H s.heap.objs.size = none:=I.hok.fresh (Nat.le_refl _)
theorem Inv.lstM (I:Inv X pins σ H s) (hH:H l = some (.lst xs)):xs.length ≤ sizeLine ∧ ∃ (its:List Value) (n:Nat),bH xs its ∧ xs.length = its.length ∧ s.heap.get? l = some { cls:=.type "list",data:=.seq its.toArray n }:=by
 obtain ⟨z,its,n,r,e⟩:=I.hok l _ hH
 exact ⟨z,its,n,r,r.length,e⟩
theorem aFS {n:Nat} (h:n ≤ sizeLine):Builtin.List.listTooLong n = false:=by
 unfold Builtin.List.listTooLong
 exact decide_eq_false (by omega)
end
section
variable {X:Cx}
def aHU:V → List V → Hp → VK → Prop:=fun x vs H Q=>∃ l xs y,x = .ref l ∧ vs = [y] ∧ H l = some (.lst xs) ∧ xs.length < sizeLine ∧ Q .non (upd H l (.lst (xs ++ [y])))
theorem gZ:MtM X "list.append" aHU:=by
 intro pins s σ H x vs v us Q I rx rv h
 obtain ⟨l,xs,y,rfl,rfl,hH,hz,q⟩:=h
 cases rx
 obtain ⟨u,rfl,ru⟩:=rv.one
 obtain ⟨z,its,n,r,hl,e⟩:=I.lstM hH
 refine call_meets F.slot_list_append ⟨_,e,rfl⟩ F.entry_list_append (F.args_list_append_2 _ _) (PySem.list_append l its.toArray n u (by rw [List.size_toArray];omega)) ⟨e,?_⟩
 refine ⟨.non,_,I.lset (its':=its ++ [u]) hH e (by simp) (r.append (.cons ru .nil)) ?_,rfl,q⟩
 rw [List.length_append,List.length_singleton]
 omega
def aNQ:R2:=fun x y H Q=>∃ l b xs zs,x = .ref l ∧ y = .ref b ∧ H l = some (.lst xs) ∧ H b = some (.lst zs) ∧ xs.length + zs.length ≤ sizeLine ∧ ∀ p,H p = none → Q (.ref p) (upd H p (.lst (xs ++ zs)))
theorem iN:OpR X (binaryOp .Add) aNQ:=by
 intro pins s σ H x y v u Q I rx ry h
 obtain ⟨l,b,xs,zs,rfl,rfl,hH,hB,hz,q⟩:=h
 cases rx
 cases ry
 obtain ⟨z,its,n,r,hl,e⟩:=I.lstM hH
 obtain ⟨z2,its2,n2,r2,hl2,e2⟩:=I.lstM hB
 refine PySem.P.add_list e e2 ?_ (by rw [List.size_toArray,List.size_toArray];omega)
 have ea:its.toArray ++ its2.toArray = (its ++ its2).toArray:=by simp
 rw [ea]
 exact ⟨.ref _,_,I.lnew (t':=s.toks) (r.append r2) (by rw [List.length_append];omega),rfl,q _ I.fresh⟩
def aNO:R2:=fun x y H Q=>∃ l k xs,x = .ref l ∧ y = .int k ∧ H l = some (.lst xs) ∧ -(2 ^ 63) ≤ k ∧ k < 2 ^ 63 ∧ xs.length * k.toNat ≤ sizeLine ∧
 ∀ p,H p = none → Q (.ref p) (upd H p (.lst (List.replicate k.toNat xs).flatten))
theorem aIK {α:Type} (xs:List α) (k:Nat):(List.replicate k xs).flatten.length = k * xs.length:=by
 induction k with
 | zero=>simp
 | succ k ih=>rw [List.replicate_succ,List.flatten_cons,List.length_append,ih,Nat.succ_mul,Nat.add_comm]
theorem aKM:OpR X (binaryOp .Mult) aNO:=by
 intro pins s σ H x y v u Q I rx ry h
 obtain ⟨l,k,xs,rfl,rfl,hH,h1,h2,hz,q⟩:=h
 cases rx
 obtain ⟨t,rfl⟩:=ry
 obtain ⟨z,its,n,r,hl,e⟩:=I.lstM hH
 have hlen:its.toArray.size * k.toNat ≤ sizeLine:=by rw [List.size_toArray,← hl];exact hz
 have hcap:¬ its.toArray.size * k.toNat > (2 ^ 63 - 1) / 8:=by
  have:(sizeLine:Nat) ≤ (2 ^ 63 - 1) / 8:=by decide
  omega
 have hfit:¬ (!Builtin.List.listFitsIndex k) = true:=by
  rw [fitsIndex_both h1 h2]
  exact Bool.false_ne_true
 have hlong:¬ Builtin.List.listTooLong (its.toArray.size * k.toNat) = true:=by
  rw [aFS hlen]
  exact Bool.false_ne_true
 have hnew:List.foldl (fun x1 x2=>x1 ++ x2) #[] (List.replicate (if its.toArray.isEmpty = true then 0 else k.toNat) its.toArray) = (List.replicate k.toNat its).flatten.toArray:=by
  have f0:∀ m:Nat,List.foldl (fun x1 x2=>x1 ++ x2) #[] (List.replicate m its.toArray) = (List.replicate m its).flatten.toArray:=fun m=>by
   have:=vB its m []
   rw [List.nil_append] at this
   exact this
  rw [f0]
  cases its with
  | nil=>simp
  | cons a r'=>rw [if_neg (by simp)]
 refine wpAny_binaryOp_repeat_ref (T:="list") (U:="int") (by decide) ⟨_,e,rfl⟩ (fun s'=>typeIs_int s' k t) noFill_list_mul F.fills_int_mul F.slot_int_rmul repeat_list F.slot_int_index.lookup
  (call_meets F.slot_int_rmul (typeIs_int s k t) F.entry_int_rmul (F.args_int_rmul_2 _ _) (int___rmul___int_list k t l its.toArray n)
   ⟨e,rfl,⟨_,e,rfl⟩,call_meets F.slot_list_mul ⟨_,e,rfl⟩ F.entry_list_mul (F.args_list_mul_2 _ _) (AutoListH.list___mul___list_int_3 l its.toArray n k t hfit hcap hlong) ⟨e,?_⟩⟩)
 rw [hnew]
 exact ⟨.ref _,_,I.lnew (t':=s.toks) (r.rep k.toNat) (by rw [aIK,Nat.mul_comm];exact hz),rfl,q _ I.fresh⟩
end
section
variable {prog:Program} {w:World} {A:Around} {E:Value → Shared → Prop} {s:Shared}
end
section
variable {X:Cx}
end
end L2
namespace Att
open PySem PySem.W PySem.Calls PyProof.Rows
theorem rK {P:Params} {h:Heap}:∀ (ns:List Int) (vs:List Value),WellAll P h vs (ns.map WData.int) → IntsAre vs ns:=by
 intro ns
 induction ns with
 | nil =>
  intro vs w
  rw [List.map_nil] at w
  cases w
  exact .nil
 | cons n ns ih =>
  intro vs w
  rw [List.map_cons] at w
  cases w with
  | cons a b =>
   cases a
   exact .cons _ _ (ih _ b)
theorem aCM {l:OpenLaw} {n:Nat} (hn:l.most = some n) {P:Params} {h:Heap} {args:List WData} {vals:List Value}
  (hpre:l.row.toRowW.claim.pre args = true) (hwl:WellAll P h vals args) :
  ∃ a vs ns,vals = [Value.ref a] ∧ args = [WData.list (ns.map WData.int)] ∧ h.get? a = some { cls:=.type "list",data:=.seq vs.toArray } ∧ IntsAre vs ns ∧ ns.length ≤ n:=by
 have hsh:WShape.hasAll [] args [.list .int] = true:=(pre_splitW hpre).1
 have hc:l.pre.holds [] { args:=args } = true:=(pre_splitW hpre).2
 obtain ⟨d,r,rfl,h1,h2⟩:=hasAllW_cons hsh
 obtain rfl:=hasAllW_nil h2
 obtain ⟨xs,rfl,h3⟩:=hasW_list h1
 obtain ⟨ns,rfl⟩:=items_int h3
 have hlen:ns.length ≤ n:=by
  unfold OpenLaw.pre at hc
  have h4:(WTm.not (.lt (.lit (.int (n:Int))) (.len (.arg 0)))).holds [] { args:=[.list (ns.map .int)] } = true:=by
   have h4:=(holds_andW hc).1
   rw [hn] at h4
   exact h4
  have h5:=condW_of h4 (w_not (w_lt w_lit (w_len_list (w_arg rfl))))
  rw [List.length_map] at h5
  refine Nat.le_of_not_lt fun q=>?_
  have q':(n:Int) < ((ns.length:Nat):Int):=by omega
  first
   | (rw [decide_eq_true q'] at h5;exact absurd h5 (by decide))
   | (simp at h5;omega)
 cases hwl with
 | cons w1 w2 =>
  cases w2
  cases w1 with
  | list ho hall=>exact ⟨_,_,ns,rfl,rfl,ho,rK ns _ hall,hlen⟩
theorem aCQ (l:OpenLaw) (args:List WData):l.row.toRowW.claim.post args (.bool true) args = true :=
 postW_of (r:=l.row.toRowW) (X:=(true == true))
  (show WShape.has [] (.bool true) .bool = true by first | rfl | decide | simp [WShape.has,WShape.arms,WShape.armsAll])
  (show (WTm.eq .res (.lit (.bool true))).value [] { args:=args,res:=some (.bool true),after:=args } = some (.bool (true == true)) from w_eq_bool (w_res rfl) w_lit) rfl
theorem attach_call {l:OpenLaw} {n:Nat} {q:Program} {loose:List Str} {XP:(Str → Option Value) → Heap → Prop} {YP:World → Heap → Prop} {d:DefRec}
  (hn:l.most = some n) (hdf:d.params.defaults = [])
  (call:∀ (w:World) (s₀ s₁:Shared) (mg mb:Str → Option Value) (fa:Addr) (o:Obj) (pm cd doc:Value) (a:Addr) (vs:List Value) (ns:List Int),
   Ground q loose [] XP w s₀ mg mb s₁.heap → YP w s₁.heap →
   s₁.heap.get? fa = some o → o.data = .func (docDef d.name d.params d.body d.scope pm cd doc) → s₁.heap.CodeRec cd d.name → mg d.name = some (.ref fa) →
   s₁.heap.get? a = some { cls:=.type "list",data:=.seq vs.toArray } → IntsAre vs ns → ns.length ≤ n → s₁.gens = #[] →
   codeAny (model l.prog w) callerA (.call (.ref fa) ⟨[.ref a],[]⟩) (fun r s'=>r = .ok (.ret (.bool true)) ∧ OldK s₁.heap s'.heap ∧ s'.os = s₁.os ∧ AllBare s'.gens) s₁) :
  WalkO q loose XP YP l.row.toRowW d [] (fun f vs=>PySem.call f vs):=by
 intro w s₀ s₁ mg mb G Y fa o pm cd doc dV kV ho hd hcd hD hmg hg args vals as hpre hlay hrd hwl hlo
 obtain rfl:dV = .none:=Dflts.none hD hdf
 obtain rfl:kV = .none:=Dflts.noKw hD
 obtain ⟨a,vs,ns,rfl,rfl,hobj,hints,hlen⟩:=aCM hn hpre hwl
 refine enter_call (codeAny_mono (call w s₀ s₁ mg mb fa o pm cd doc a vs ns G Y ho (fd_plain hd) hcd hmg hobj hints hlen hg) fun r s' hq=>?_)
 obtain ⟨rfl,h2,h3,h4⟩:=hq
 exact ⟨.inl ⟨.bool true,.bool true,[],rfl,fun _=>rfl,.bool true,aCQ l _,fun _=>⟨List.Pairwise.nil,fun _ hm=>(nomatch hm)⟩⟩,h2,h3,h4⟩
section
variable {prog:Program} {w:World} {A:Around} {E:Value → Shared → Prop} {s:Shared} {K:Frag}
def noObjs (h:Heap):Heap:={ h with objs:=#[] }
def ledger (h:Heap) (L d:Addr):List (Addr × Obj):=(List.range h.objs.size).filterMap fun a=>if a = L ∨ a = d then none else (h.get? a).map fun o=>(a,o)
end
end Att
namespace L2
open PySem PySem.Spec PyProof.Rows
theorem uN:∀ {vs:List Value} {ns:List Int},IntsAre vs ns → bH (ns.map V.int) vs
 | _,_,.nil=>.nil
 | _,_,.cons n t h=>.cons ⟨t,rfl⟩ (uN h)
def aLG (H:Hp):Prop:=∀ b,H b = none ∨ ∃ o xs,H b = some (.frz o (.lst xs))
theorem aFV {P:Program} {w:World} {K:PySem.W.Frag} {mg mb:Str → Option Value} {CX:CXT} {k:Nat} {fa a:Addr} {fd:FuncData} {x:Str} {sp:Sp} {s₁:Shared} {vs:List Value} {ns:List Int}
  (KX:K.In s₁.heap) (hns:s₁.heap.Ns mainGlobals mg) (hb:s₁.heap.Ns builtinsNs mb) (hbb:∀ x:Str,x ≠ "__name__" → mb x = bootBuiltins x) (hlim:s₁.heap.NoLimit) (hg:s₁.gens = #[])
  (ha:s₁.heap.get? a = some { cls:=.type "list",data:=.seq vs.toArray }) (hi:IntsAre vs ns) (hl:ns.length ≤ sizeLine) (hr:Room k callerA)
  (F:∀ base:Heap,K.In base → base.Ns mainGlobals mg → FnOk P w K mg base CX k fa fd [x] sp) (hbind:∀ (s:Shared) (u:Value),BindsTo s fd ⟨[u],[]⟩ [(x,u)])
  (hsp:∀ H:Hp,aLG H → SqL K H a (ns.map V.int) → sp [.ref a] H (fun v _=>v = .bl true) fun _ _ _=>False)
  (hCX:∀ H e s',CX [] H s₁ (fun _ _ _=>False) e s' → False) :
  codeAny (model P w) callerA (.call (.ref fa) ⟨[.ref a],[]⟩) (fun r s'=>r = .ok (.ret (.bool true)) ∧ OldK s₁.heap s'.heap ∧ s'.os = s₁.os ∧ AllBare s'.gens) s₁:=by
 have rv:=uN hi
 have lenV:=hi.length
 have core:∀ H:Hp,aLG H → SqL K H a (ns.map V.int) → HOk P w H s₁.heap → (∀ b,H b ≠ none → b = a) → (H a ≠ none → K.lookup a = none) →
   codeAny (model P w) callerA (.call (.ref fa) ⟨[.ref a],[]⟩) (fun r s'=>r = .ok (.ret (.bool true)) ∧ OldK s₁.heap s'.heap ∧ s'.os = s₁.os ∧ AllBare s'.gens) s₁:=by
  intro H hO hS hok hA hK
  have base_of:∀ {b:Addr} {o:Obj},s₁.heap.get? b = some o → H b = none → (wL s₁.heap H).get? b = some o:=fun e n=>aGH e n
  have noA:∀ {b:Addr} {o:Obj} {es:Array DictEntry} {ep:Nat},s₁.heap.get? b = some o → o.data = .dict es ep → H b = none:=fun {b o es ep} e d=>by
   cases q:H b with
   | none=>rfl
   | some u =>
    have e':b = a:=hA b (by rw [q];simp)
    subst e'
    rw [ha] at e;cases e
    have d':Data.seq vs.toArray _ = Data.dict es ep:=d
    cases d'
  have nsK:∀ {b:Addr} {m:Str → Option Value},s₁.heap.Ns b m → (wL s₁.heap H).Ns b m:=fun {b m} ⟨o,es,ep,e,d,r⟩=>⟨o,es,ep,base_of e (noA e d),d,r⟩
  have hKb:K.In (wL s₁.heap H):=fun b o e=>base_of (KX b o e) (by
   cases q:H b with
   | none=>rfl
   | some u =>
    have e':b = a:=hA b (by rw [q];simp)
    subst e'
    rw [hK (by rw [q];simp)] at e;cases e)
  have hM:Mod K mg (wL s₁.heap H):=⟨hKb,nsK hns,⟨mb,nsK hb,hbb⟩,let ⟨mc,h1,h2⟩:=hlim;⟨mc,nsK h1,h2⟩⟩
  have e0:Env0 P w K mg (wL s₁.heap H) callerA [] s₁ H:=⟨rfl,hM,fun b o e=>aIF e,Nat.le_of_eq (aDF _ _),trivial,fun b hb=>absurd (show b ∈ ([]:List Addr) from hb) (by simp),hok,.of_eq hg⟩
  refine codeAny_mono ((F _ hKb (nsK hns)).run callerA [] s₁ H ⟨[.ref a],[]⟩ [.ref a] [.ref a] _ _ hr e0 (hbind s₁ (.ref a)) (.cons rfl .nil) (hsp H hO hS)) fun r s' h=>?_
  cases r with
  | error e=>exact (hCX H e s' h).elim
  | ok fl =>
   cases fl with
   | next=>exact False.elim h
   | brk=>exact False.elim h
   | cont=>exact False.elim h
   | ret u =>
    obtain ⟨v,H',os,bare,un,hok',r',q⟩:=h
    have q':v = .bl true:=q
    subst q'
    obtain rfl:u = Value.bool true:=r'
    refine ⟨rfl,OldK.of_keep fun b o e=>?_,os,bare⟩
    cases q:H b with
    | none=>exact un.keep b o e q (by intro z;exact absurd (show b ∈ ([]:List Addr) from z) (by simp)) (by simp)
    | some u =>
     rcases hO b with z | ⟨ob,xs,z⟩
     ·rw [q] at z;cases z
     ·have z2:=un.frzs b ob _ z
      obtain ⟨e1,_⟩:=hok b _ z
      obtain ⟨e2,_⟩:=hok' b _ z2
      rw [e] at e1;cases e1
      exact e2
 cases hk:K.lookup a with
 | some o =>
  have e:=KX a o hk
  rw [ha] at e
  cases e
  refine core (fun _=>none) (fun _=>.inl rfl) (.inr ⟨_,vs.toArray,_,hk,rfl,rfl,rfl,by rw [List.size_toArray,lenV];exact hl,by simpa using rv⟩) (fun b u z=>by have z':(none:Option HO) = some u:=z;cases z') (fun b z=>absurd rfl z) fun z=>absurd rfl z
 | none =>
  refine core (fun b=>if b = a then some (.frz { cls:=.type "list",data:=.seq vs.toArray } (.lst (ns.map V.int))) else none) (fun b=>?_) (.inl (.inr ⟨{ cls:=.type "list",data:=.seq vs.toArray },if_pos rfl⟩)) (fun b u z=>?_) (fun b z=>?_) fun _=>hk
  ·by_cases hb:b = a
   ·exact .inr ⟨_,_,if_pos hb⟩
   ·exact .inl (if_neg hb)
  ·by_cases hb:b = a
   ·have z':=(if_pos hb).symm.trans z
    cases z'
    subst hb
    exact ⟨ha,by rw [List.length_map];exact hl,vs,_,rv,ha⟩
   ·have z':=(if_neg hb).symm.trans z
    cases z'
  ·by_cases hb:b = a
   ·exact hb
   ·exact absurd (if_neg hb) z
end L2
namespace L2
open PySem PySem.Spec PyProof.Rows
theorem walk_of {l:PySem.W.OpenLaw} {n k:Nat} {q:Program} {loose:List Str} {XP:(Str → Option Value) → Heap → Prop} {YP:World → Heap → Prop} {d:DefRec} {K:Params → PySem.W.Frag} {CX:World → CXT} {sp:World → Sp} {x:Str}
  (hn:l.most = some n) (hn2:n ≤ sizeLine) (hdf:d.params.defaults = []) (hr:Room k callerA)
  (hY:∀ (w:World) (h:Heap),YP w h → (K w.params).In h)
  (F:∀ (w:World) (mg:Str → Option Value) (fa:Addr) (h:Heap),(K w.params).In h → h.Ns mainGlobals mg → mg d.name = some (.ref fa) →
   ∃ fd:FuncData,(∀ (s:Shared) (u:Value),BindsTo s fd ⟨[u],[]⟩ [(x,u)]) ∧
    ∀ base:Heap,(K w.params).In base → base.Ns mainGlobals mg → FnOk l.prog w (K w.params) mg base (CX w) k fa fd [x] (sp w))
  (hsp:∀ (w:World) (H:Hp) (a:Addr) (ns:List Int),ns.length ≤ n → aLG H → SqL (K w.params) H a (ns.map V.int) → sp w [.ref a] H (fun v _=>v = .bl true) fun _ _ _=>False)
  (hCX:∀ (w:World) (H:Hp) (s:Shared) (e:Value) (s':Shared),CX w [] H s (fun _ _ _=>False) e s' → False) :
  PySem.W.WalkO q loose XP YP l.row.toRowW d [] (fun f vs=>PySem.call f vs):=by
 refine Att.attach_call hn hdf fun w s₀ s₁ mg mb fa o pm cd doc a vs ns G Y ho hd hcd hmg hobj hints hlen hg=>?_
 have KX:=hY w _ Y
 obtain ⟨fd,hb,hF⟩:=F w mg fa _ KX G.T.g hmg
 exact aFV KX G.T.g G.T.b G.T.builtins G.T.nolimit hg hobj hints (Nat.le_trans hlen hn2) hr hF hb (fun H hO hS=>hsp w H a ns hlen hO hS) fun H e s'=>hCX w H s₁ e s'
end L2
namespace L2
open PySem PySem.Spec PyProof.Rows
def dJ (s:Stmt) (j:Nat):Stmt:=match s with
 | .ClassDef _ _ _ body _ _ _ _ _ _ _=>body.getD j (.Pass ⟨0,0,0,0⟩)
 | _=>.Pass ⟨0,0,0,0⟩
def aP (s:Stmt):Arguments:=match s with
 | .FunctionDef _ a _ _ _ _ _ _ _ _=>a
 | _=>{ posonlyargs:=[],args:=[],vararg:=none,kwonlyargs:=[],kw_defaults:=[],kwarg:=none,defaults:=[] }
def aN (s:Stmt):List Stmt:=match s with
 | .FunctionDef _ _ b _ _ _ _ _ _ _=>b
 | _=>[]
def aF (s:Stmt):Scope:=match s with
 | .FunctionDef _ _ _ _ _ _ sc _ _ _=>sc
 | _=>{ kind:=.function,names:=[],isGenerator:=false,isCoroutine:=false }
abbrev CX0:CXT:=fun _ _ _ _ _ _=>False
abbrev E0:XK:=fun _ _ _=>False
theorem aBP {X:Cx}:lP CX0 X E0:=fun _ _ _ _ _ _ _ h=>h.elim
structure Fun (K:PySem.W.Frag) (x qual:Str) (st:Stmt) (f:Addr) (fd:FuncData):Prop where
 ex:∃ (oc:Value) (od:Option Addr) (kV doc pm:Value) (an:Option Addr) (cdv ct:Value) (osl:Array (Option Value)),
  fd = PySem.W.fnOf x qual (aP st) (aN st) (aF st) .none kV doc pm an cdv ct ∧ K.lookup f = some ⟨oc,od,.func fd,osl⟩ ∧ PySem.W.codeIn K cdv qual = true
 kp:PySem.W.keepIn K (.ref f) = true
section
variable {P:Program} {w:World} {K:PySem.W.Frag} {mg:Str → Option Value} {base:Heap}
theorem Fun.ok {x qual:Str} {st:Stmt} {f:Addr} {fd:FuncData} {N ps:List Str} {k:Nat} {sp:Sp} (F:Fun K x qual st f fd) (S:FnScope N ps (aF st)) (len:∀ vs H Q E,sp vs H Q E → vs.length = ps.length)
  (hbody:∀ (cdv:Value) (A:Around) (outer:List Env) (s:Shared) (H:Hp) (vs:List V) (Q:VK) (E:XK),Room k (A.deeper (envOfC qual (aF st) s.heap.objs.size f cdv)) → sp vs H Q E →
   ∃ t,PSs (kB CX0 P w K mg base N qual (aF st) f cdv A outer s H E).nox (aN st) t ∧ t { nx:=fun _ H'=>Q .non H',rt:=Q } (iB N vs) H):FnOk P w K mg base CX0 (k + 1) f fd ps sp:=by
 obtain ⟨oc,od,kV,doc,pm,an,cdv,ct,osl,rfl,lk,hcd⟩:=F.ex
 refine aJT lk hcd S len fun A outer s H vs Q E hr hsp=>?_
 obtain ⟨t,h,q⟩:=hbody cdv A outer s H vs Q E hr hsp
 exact ⟨t,h.nox,q⟩
theorem Fun.binds {x qual:Str} {st:Stmt} {f:Addr} {fd:FuncData} {ps:List Str} (F:Fun K x qual st f fd)
  (h:∀ (kV doc pm:Value) (an:Option Addr) (cdv ct:Value) (us:List Value),us.length = ps.length → bindArgs (PySem.W.fnOf x qual (aP st) (aN st) (aF st) .none kV doc pm an cdv ct) ⟨us,[]⟩ = pure (ps.zip us)):gI K fd ps []:=by
 obtain ⟨oc,od,kV,doc,pm,an,cdv,ct,osl,rfl,lk,hcd⟩:=F.ex
 exact .all (h kV doc pm an cdv ct)
theorem qO {x qual:Str} {st:Stmt} {f:Addr} {oc:Value} {od an:Option Addr} {osl:Array (Option Value)} {kV doc pm cdv ct:Value} (l:K.lookup f = some ⟨oc,od,.func (PySem.W.fnOf x qual (aP st) (aN st) (aF st) .none kV doc pm an cdv ct),osl⟩)
  (c:PySem.W.codeIn K cdv qual = true) (k:PySem.W.keepIn K (.ref f) = true):Fun K x qual st f (PySem.W.fnOf x qual (aP st) (aN st) (aF st) .none kV doc pm an cdv ct):=⟨⟨oc,od,kV,doc,pm,an,cdv,ct,osl,rfl,l,c⟩,k⟩
end
theorem pV {A:Around} {k:Nat} (hr:Room k A):A.units + 1 < cLine:=Nat.lt_of_le_of_lt (Nat.add_le_add_left (by decide:1 ≤ 64) _) hr.units
section
variable {X:Cx}
theorem pv (i:Nat) {x:Str} {pos:Pos} (hN:X.N[i]? = some x:=by rfl) (hv:Vis X.env.scope x:=by first | exact Or.inl rfl | exact Or.inr (Or.inl rfl) | exact Or.inr (Or.inr rfl)) (hd:(x == ("__debug__":Str)) = false:=by decide)
  (hcd:(x == ("__classdict__":Str)) = false:=by decide):PE X (.Name x pos) (aLK i):=aKJ hN hv hd hcd
end
theorem bS {A B:Prop} (h:B):if false = true then A else B:=by
 rw [if_neg Bool.false_ne_true]
 exact h
theorem cL {A B:Prop} (h:A):if true = true then A else B:=by
 rw [if_pos rfl]
 exact h
theorem kP {c A B:Prop} [Decidable c] (h1:c → A) (h2:¬ c → B):if c then A else B:=by
 by_cases h:c
 ·rw [if_pos h]
  exact h1 h
 ·rw [if_neg h]
  exact h2 h
def aH (H H':Hp):Prop:=∀ b o,H b = some o → H' b = some o
theorem aH.refl (H:Hp):aH H H:=fun _ _ h=>h
theorem aH.trans {H H1 H2:Hp} (a:aH H H1) (b:aH H1 H2):aH H H2:=fun c o h=>b c o (a c o h)
theorem aH.free {H H':Hp} (e:aH H H') {l:Addr} (h:H' l = Option.none):H l = Option.none:=by
 cases q:H l with
 | none=>rfl
 | some o =>
  rw [e l o q] at h
  cases h
theorem aH.seq {K:PySem.W.Frag} {H H':Hp} {a:Addr} {xs:List V} (e:aH H H') (h:SqL K H a xs):SqL K H' a xs:=by
 rcases h with (h | ⟨o,h⟩) | h
 ·exact .inl (.inl (e _ _ h))
 ·exact .inl (.inr ⟨o,e _ _ h⟩)
 ·exact .inr h
end L2
namespace L2
open PySem PySem.Spec PyProof.Rows
section
variable {X:Cx}
end
section
variable {κ:Type} [DecidableEq κ]
end
end L2
namespace Tx
open PySem PySem.Builtin PySem.Builtin.Str
def cl (n d:Nat):Option Int → Nat
 | none=>d
 | some i=>(max 0 (min (if i < 0 then i + n else i) n)).toNat
theorem cl_nat (n d k:Nat):cl n d (some (k:Int)) = min k n:=by
 show (max 0 (min (if (k:Int) < 0 then (k:Int) + n else (k:Int)) n)).toNat = min k n
 rw [if_neg (by omega)]
 omega
theorem aJV (n d:Nat) (hd:d ≤ n):∀ o,cl n d o ≤ n
 | none=>hd
 | some i=>by
  show (max 0 (min (if i < 0 then i + n else i) n)).toNat ≤ n
  omega
theorem aAA (lo hi:Option Int) (n:Nat):strSliceIndices lo hi 1 n = (List.range (cl n n hi - cl n 0 lo)).map (cl n 0 lo + ·):=by
 have h1:∀ (v:Option Int) (d:Nat),d ≤ n → (match v with | none=>(d:Int) | some i=>if (1:Int) > 0 then max 0 (min (if i < 0 then i + n else i) n) else max (-1) (min (if i < 0 then i + n else i) (n - 1))) = ((cl n d v:Nat):Int):=by
  intro v d hd
  cases v with
  | none=>rfl
  | some i =>
   show (if (1:Int) > 0 then max 0 (min (if i < 0 then i + n else i) n) else max (-1) (min (if i < 0 then i + n else i) (n - 1))) = (((max 0 (min (if i < 0 then i + n else i) n)).toNat:Nat):Int)
   rw [if_pos (by decide)]
   omega
 rw [← sliceRange_one]
 unfold strSliceIndices
 have a:=h1 lo 0 (Nat.zero_le _)
 have b:=h1 hi n (Nat.le_refl _)
 simp only [show (1:Int) > 0 by decide,if_true] at a b ⊢
 congr 1
theorem slice_codes (x:Str) (lo hi:Option Int):(Txt.slice x lo hi).cps.toList = (x.cps.toList.drop (cl x.length 0 lo)).take (cl x.length x.length hi - cl x.length 0 lo):=by
 unfold Txt.slice
 rw [aAA]
 split
 ·rename_i h
  have h':cl x.length x.length hi - cl x.length 0 lo = x.length:=by
   have:=(Bool.and_eq_true_iff.mp h).2
   have:=beq_iff_eq.mp this
   simpa using this
  have h2:=aJV x.length x.length (Nat.le_refl _) hi
  have h4:=aJV x.length 0 (Nat.zero_le _) lo
  have h3:cl x.length 0 lo = 0:=by omega
  rw [h',h3,List.drop_zero,List.take_of_length_le]
  show x.cps.toList.length ≤ x.cps.size
  simp
 ·rw [pick_run]
theorem app_codes (a b:Str):(a ++ b).cps.toList = a.cps.toList ++ b.cps.toList:=by
 simp [Str.cps_append]
theorem app_len (a b:Str):(a ++ b).length = a.length + b.length:=Str.length_append a b
end Tx
set_option maxHeartbeats 4000000
namespace L2
open PySem PySem.Spec PyProof.Rows
theorem mX {env:Env} {f:(Str × NameKind) → List (Str × Addr) → Sem (ForInStep (List (Str × Addr)))}
  (hf:∀ n k cs,f (n,k) cs = if (k == NameKind.free) = true then (cellOf env n >>= fun c=>pure (ForInStep.yield ((n,c) :: cs))) else pure (ForInStep.yield cs)) :
  ∀ (names:List (Str × NameKind)) (acc:List (Str × Addr)),
  (∀ y ∈ names,y.2 = .free → ∃ c,env.cells.lookup y.1 = some c) →
  (∀ x c,acc.lookup x = some c → env.cells.lookup x = some c) →
  ∃ cl,forIn names acc f = (pure cl:Sem _) ∧ (∀ x c,cl.lookup x = some c → env.cells.lookup x = some c) ∧ (∀ x c,acc.lookup x = some c → ∃ d,cl.lookup x = some d) ∧
   ∀ x,(x,NameKind.free) ∈ names → ∃ c,cl.lookup x = some c
 | [],acc,_,ha=>⟨acc,rfl,ha,fun x c e=>⟨c,e⟩,fun x m=>absurd m (by simp)⟩
 | (n,k) :: r,acc,hn,ha=>by
  have hr:∀ y ∈ r,y.2 = .free → ∃ c,env.cells.lookup y.1 = some c:=fun y hy=>hn y (List.mem_cons_of_mem _ hy)
  by_cases hk:k = .free
  ·subst hk
   obtain ⟨c,hc⟩:=hn (n,.free) List.mem_cons_self rfl
   have hcell:cellOf env n = pure c:=by
    have hc':env.cells.lookup n = some c:=hc
    unfold cellOf
    rw [hc']
   have ha':∀ x d,List.lookup x ((n,c) :: acc) = some d → env.cells.lookup x = some d:=fun x d e=>by
    by_cases hx:(x == n) = true
    ·rw [List.lookup_cons,hx] at e
     obtain rfl:=beq_iff_eq.mp hx
     cases e
     exact hc
    ·have hx':(x == n) = false:=by simpa using hx
     rw [List.lookup_cons,hx'] at e
     exact ha x d e
   obtain ⟨cl,e1,e2,e3,e4⟩:=mX hf r ((n,c) :: acc) hr ha'
   refine ⟨cl,?_,e2,fun x d e=>?_,fun x m=>?_⟩
   ·rw [List.forIn_cons,hf,if_pos (beq_self_eq_true _),hcell,pure_bind,pure_bind]
    exact e1
   ·by_cases hx:(x == n) = true
    ·exact e3 x c (by rw [List.lookup_cons,hx])
    ·have hx':(x == n) = false:=by simpa using hx
     exact e3 x d (by rw [List.lookup_cons,hx'];exact e)
   ·rcases List.mem_cons.mp m with q | q
    ·have q':x = n:=congrArg Prod.fst q
     subst q'
     exact e3 x c (by rw [List.lookup_cons,beq_self_eq_true])
    ·exact e4 x q
  ·have hk':(k == NameKind.free) = false:=by simpa using hk
   obtain ⟨cl,e1,e2,e3,e4⟩:=mX hf r acc hr ha
   refine ⟨cl,?_,e2,e3,fun x m=>?_⟩
   ·rw [List.forIn_cons,hf,hk',if_neg Bool.false_ne_true,pure_bind]
    exact e1
   ·rcases List.mem_cons.mp m with q | q
    ·exact absurd (congrArg Prod.snd q).symm hk
    ·exact e4 x q
theorem tW {scope:Scope} {env:Env} (h:∀ y ∈ scope.names,y.2 = .free → ∃ c,env.cells.lookup y.1 = some c) :
  ∃ cl,closureFor scope env = pure cl ∧ (∀ x c,cl.lookup x = some c → env.cells.lookup x = some c) ∧ ∀ x,(x,NameKind.free) ∈ scope.names → ∃ c,cl.lookup x = some c:=by
 obtain ⟨cl,e1,e2,_,e4⟩:=mX (env:=env) (f:=fun (x:Str × NameKind) cs=>match x with | (name,kind)=>if (kind == NameKind.free) = true then (cellOf env name >>= fun c=>pure (ForInStep.yield ((name,c) :: cs))) else pure (ForInStep.yield cs)) (fun n k cs=>rfl) scope.names [] h (fun x c e=>by cases e)
 refine ⟨cl,?_,e2,e4⟩
 have:closureFor scope env = (forIn scope.names [] (fun (x:Str × NameKind) cs=>match x with | (name,kind)=>if (kind == NameKind.free) = true then (cellOf env name >>= fun c=>pure (ForInStep.yield ((name,c) :: cs))) else pure (ForInStep.yield cs)) >>= fun cs=>pure cs):=by
  first | rfl | (unfold closureFor;rfl) | (unfold closureFor;simp only [pure_bind,bind_pure])
 rw [this,e1,pure_bind]
theorem iR {env:Env}:∀ {names:List (Str × NameKind)} {x:Str},names.lookup x = some .free →
  (names.map fun (n,k)=>if (k == NameKind.free && env.scope.kind == .function && env.kindOf n == some .cell) then (n,NameKind.cell) else (n,k)).lookup x = some .cell ∨
  (names.map fun (n,k)=>if (k == NameKind.free && env.scope.kind == .function && env.kindOf n == some .cell) then (n,NameKind.cell) else (n,k)).lookup x = some .free
 | [],_,h=>by simp at h
 | (n,k) :: r,x,h=>by
  have ih:=@iR env r x
  show List.lookup x ((if (k == NameKind.free && env.scope.kind == .function && env.kindOf n == some .cell) = true then (n,NameKind.cell) else (n,k)) :: _) = _ ∨ List.lookup x ((if (k == NameKind.free && env.scope.kind == .function && env.kindOf n == some .cell) = true then (n,NameKind.cell) else (n,k)) :: _) = _
  cases hx:x == n with
  | true =>
   simp only [List.lookup_cons,hx] at h
   cases h
   by_cases hc:(NameKind.free == NameKind.free && env.scope.kind == .function && env.kindOf n == some .cell) = true
   ·rw [if_pos hc];left;simp only [List.lookup_cons,hx]
   ·rw [if_neg hc];right;simp only [List.lookup_cons,hx]
  | false =>
   simp only [List.lookup_cons,hx] at h
   by_cases hc:(k == NameKind.free && env.scope.kind == .function && env.kindOf n == some .cell) = true
   ·rw [if_pos hc];simp only [List.lookup_cons,hx];exact ih h
   ·rw [if_neg hc];simp only [List.lookup_cons,hx];exact ih h
theorem kI {env:Env}:∀ {names:List (Str × NameKind)} {x:Str},(∀ y ∈ names,y.2 ≠ .cell) →
  ((names.map fun (n,k)=>if (k == NameKind.free && env.scope.kind == .function && env.kindOf n == some .cell) then (n,NameKind.cell) else (n,k)).lookup x = some .cell ∨
  (names.map fun (n,k)=>if (k == NameKind.free && env.scope.kind == .function && env.kindOf n == some .cell) then (n,NameKind.cell) else (n,k)).lookup x = some .free) → (x,NameKind.free) ∈ names
 | [],_,_,h=>by rcases h with h | h <;> simp at h
 | (n,k) :: r,x,hn,h=>by
  have ih:=@kI env r x (fun y hy=>hn y (List.mem_cons_of_mem _ hy))
  have h':List.lookup x ((if (k == NameKind.free && env.scope.kind == .function && env.kindOf n == some .cell) = true then (n,NameKind.cell) else (n,k)) :: (r.map fun (n,k)=>if (k == NameKind.free && env.scope.kind == .function && env.kindOf n == some .cell) then (n,NameKind.cell) else (n,k))) = some .cell ∨
   List.lookup x ((if (k == NameKind.free && env.scope.kind == .function && env.kindOf n == some .cell) = true then (n,NameKind.cell) else (n,k)) :: (r.map fun (n,k)=>if (k == NameKind.free && env.scope.kind == .function && env.kindOf n == some .cell) then (n,NameKind.cell) else (n,k))) = some .free:=h
  cases hx:x == n with
  | true =>
   obtain rfl:=beq_iff_eq.mp hx
   have hk:k = .free:=by
    by_cases hc:(k == NameKind.free && env.scope.kind == .function && env.kindOf x == some .cell) = true
    ·have:=(Bool.and_eq_true_iff.mp (Bool.and_eq_true_iff.mp hc).1).1
     exact beq_iff_eq.mp this
    ·rw [if_neg hc] at h'
     simp only [List.lookup_cons,hx] at h'
     rcases h' with e | e
     ·cases e;exact absurd rfl (hn (x,.cell) List.mem_cons_self)
     ·cases e;rfl
   subst hk
   exact List.mem_cons_self
  | false =>
   refine List.mem_cons_of_mem _ (ih ?_)
   by_cases hc:(k == NameKind.free && env.scope.kind == .function && env.kindOf n == some .cell) = true
   ·rw [if_pos hc] at h';simp only [List.lookup_cons,hx] at h';exact h'
   ·rw [if_neg hc] at h';simp only [List.lookup_cons,hx] at h';exact h'
structure BlkR where
 cl:List (Str × Addr)
 C:Addr
 s₀:Shared
 H₀:Hp
 ex:List Addr
abbrev blk (X:Cx) (scope:Scope) (N':List Str) (R:BlkR):Cx :=
 { prog:=X.prog,w:=X.w,K:=X.K,mg:=X.mg,base:=X.base,A:=X.A,N:=N',s₀:=R.s₀,H₀:=R.H₀,env:=compEnvC scope R.cl R.C X.env,outer:=X.stack,stack:=X.stack,ex:=R.ex,fn:=fun _=>false,calm:=X.calm,pn:=[],xe:=fun _ _=>False }
def aHJ (X:Cx) (ifs:List Expr) (t:TT):Prop :=
 ∀ (pins:List (Addr × Obj)) (s:Shared) (σ:St) (H:Hp) (Q:Bool → Hp → Prop),Inv X pins σ H s → t σ H Q →
  wpAny (model X.prog X.w) X.A (forIn ifs true fun c r=>if r = true then do let ok ← isTrue c X.env (eval c X.env);pure (ForInStep.yield ok) else pure (ForInStep.yield r)) (TP X pins σ Q) X.xe s
def aLM:TT:=fun _ H Q=>Q true H
theorem cH {X:Cx}:aHJ X [] aLM:=fun pins s σ H Q I h=>wpAny_tests_nil ⟨H,I,h⟩
theorem iH {X:Cx} {c:Expr} {t:TT} (h:PT X c t):aHJ X [c] t:=fun pins s σ H Q I hw=>wpAny_tests_one (h pins s σ H Q I hw)
def zC (nt:Nat) (g:TG):Prop:=∀ x σ H Q,g x σ H Q → g x σ H fun σ2 H2=>Q σ2 H2 ∧ σ2.length = σ.length ∧ ∀ i,nt ≤ i → σ2[i]? = σ[i]?
theorem bC {nt i:Nat} (h:i < nt):zC nt (oH i):=fun x σ H Q q =>
 ⟨q,by simp,fun j hj=>List.getElem?_set_ne (by omega)⟩
def nC (nt:Nat) (cap:List Nat) (σ:St):St:=List.replicate nt none ++ cap.map fun j=>(σ[j]?).join
theorem aEB {nt:Nat} {cap:List Nat} {σ:St}:(nC nt cap σ).length = nt + cap.length:=by simp [nC]
theorem vH {nt:Nat} {cap:List Nat} {σ:St} {i:Nat} {v:V} (h:(nC nt cap σ)[i]? = some (some v)):∃ j,nt ≤ i ∧ cap[i - nt]? = some j ∧ σ[j]? = some (some v):=by
 unfold nC at h
 by_cases hi:i < nt
 ·rw [List.getElem?_append_left (by simpa using hi),List.getElem?_replicate] at h
  rw [if_pos hi] at h
  cases h
 ·rw [List.getElem?_append_right (by simp;omega),List.length_replicate,List.getElem?_map] at h
  cases e:cap[i - nt]? with
  | none=>rw [e] at h;cases h
  | some j =>
   rw [e] at h
   refine ⟨j,by omega,rfl,?_⟩
   have h':(σ[j]?).join = some v:=by simpa using h
   cases q:σ[j]? with
   | none=>rw [q] at h';cases h'
   | some o=>rw [q] at h';cases o with
    | none=>cases h'
    | some z=>cases h';rfl
theorem tV {prog:Program} {w:World} {A:Around} {R:Result → Shared → Prop} {s:Shared} {elt target iter:Expr} {ifs:List Expr} {scope:Scope} {pos:Pos} {it acc:Value} {env:Env} (I:Nat → Shared → Prop)
  (turn:∀ n s,I n s → wpAny (model prog w) A (pyNext it) (fun r s₁=>match r with
   | none=>R (.ok .next) s₁
   | some v=>wpAny (model prog w) A (letOwnedTupleGo target it v) (fun _ s₁=>wpAny (model prog w) A (assign target env v) (fun _ s₂ =>
     wpAny (model prog w) A (forIn ifs true fun c r=>if r = true then do let ok ← isTrue c env (eval c env);pure (ForInStep.yield ok) else pure (ForInStep.yield r)) (fun ok s₃ =>
      if ok = true then wpAny (model prog w) A (eval elt env) (fun x s₄ =>
       wpAny (model prog w) A (call (.builtin "list.append") [acc,x]) (fun _ s₅=>∃ m,m < n ∧ I m s₅) (notedBy (model prog w) A env fun e s'=>R (.error e) s') s₄) (notedBy (model prog w) A env fun e s'=>R (.error e) s') s₃
      else ∃ m,m < n ∧ I m s₃) (notedBy (model prog w) A env fun e s'=>R (.error e) s') s₂) (notedBy (model prog w) A env fun e s'=>R (.error e) s') s₁) (notedBy (model prog w) A env fun e s'=>R (.error e) s') s₁) (notedBy (model prog w) A env fun e s'=>R (.error e) s') s)
  (n:Nat) (h:I n s) :
  codeAny (model prog w) A (.compLoop (.ListComp elt [⟨target,iter,ifs,0⟩] scope pos) 0 it acc env) R s:=by
 refine codeAny_loop rfl I (fun n s hI=>?_) n h
 show wpAny _ A ((compTurn (.ListComp elt [⟨target,iter,ifs,0⟩] scope pos) 0 it acc env).onRaise (fun x=>do noteFrame x env;theTreesLotGoes x)) _ _ s
 refine wpAny_noted ?_
 rw [compTurn_list]
 refine wpAny_bind (wpAny_standAt (wpAny_bind (wpAny_mono (turn n s hI) (fun r s₁ h₁=>?_) fun _ _ h'=>h')))
 cases r with
 | none=>exact wpAny_pure h₁
 | some v =>
  refine wpAny_bind (wpAny_mono h₁ (fun _ s₁' h₁'=>?_) fun _ _ h'=>h')
  refine wpAny_bind (wpAny_mono h₁' (fun _ s₂ h₂=>wpAny_bind (wpAny_mono h₂ (fun ok s₃ h₃=>?_) fun _ _ h'=>h')) fun _ _ h'=>h')
  cases ok with
  | false=>exact wpAny_pure ⟨rfl,h₃⟩
  | true =>
   exact wpAny_bind (wpAny_bind (wpAny_mono h₃ (fun x s₄ h₄=>wpAny_bind (wpAny_mono h₄ (fun _ s₅ h₅=>wpAny_pure (wpAny_pure ⟨rfl,h₅⟩)) fun _ _ h'=>h')) fun _ _ h'=>h'))
abbrev CW:=Nat → Nat → List V → Hp → Prop
def uP (σb:St) (J:It) (g:TG) (tt:TT) (te:TE) (W:CW) (fin:List V → Hp → Prop) (i m:Nat) (ys:List V) (H:Hp):Prop :=
 (J.stop i H ∧ fin ys H) ∨
 (J.go i H ∧ ys.length < sizeLine ∧ ∀ x H',J.yld i H x H' → g x σb H' fun σ2 H2=>tt σ2 H2 fun b H3 =>
  if b = true then te σ2 H3 fun y H4=>∃ m',m' < m ∧ W (i + 1) m' (ys ++ [y]) H4 else ∃ m',m' < m ∧ W (i + 1) m' ys H3)
structure BlkEnd (X:Cx) (pins:List (Addr × Obj)) (H:Hp) (C:Addr) (s:Shared):Prop where
 ns:∃ m,s.heap.Ns C m
 fr:H C = none
 ne:C ≠ X.env.locals
 ab:X.s₀.heap.objs.size ≤ C
 cl:∀ x c,X.env.cells.lookup x = some c → c ≠ C
 pn:∀ p ∈ X.pn ++ pins,p.1 ≠ C
theorem tU {X:Cx} {pins:List (Addr × Obj)} {σ:St} {s₂:Shared} {H₂:Hp} {elt iter tg:Expr} {ifs:List Expr} {scope:Scope} {pos:Pos} {N':List Str} {nt:Nat} {cap:List Nat} {g:TG} {tt:TT} {te:TE} {cl:List (Str × Addr)}
  {it:Addr} {fp:List Addr} {tn:Nat → Heap → Prop} {J:It} {Q:List V → Hp → Prop} {E:Value → Shared → Prop}
  (hc:X.calm = true) (I₂:Inv X pins σ H₂ s₂) (T:Turn X.prog X.w X.K tg J fp it tn) (st:tn 0 s₂.heap) (hf:∀ b ∈ fp,xB X pins H₂ b)
  (hclk:∀ x c,cl.lookup x = some c → X.env.cells.lookup x = some c) (hclh:∀ x,(x,NameKind.free) ∈ scope.names → ∃ c,cl.lookup x = some c)
  (hcell:∀ y ∈ scope.names,y.2 ≠ .cell) (hkind:scope.kind = .function)
  (hfr:∀ y ∈ scope.names,y.2 = .free → (X.env.kindOf y.1 = some .cell ∨ X.env.kindOf y.1 = some .free))
  (hN:N'.length = nt + cap.length) (hcapN:∀ (k j:Nat),cap[k]? = some j → N'[nt + k]? = X.N[j]?) (hcapF:∀ x ∈ N'.drop nt,scope.names.lookup x = some .free)
  (hg:∀ R,PG (blk X scope N' R) tg g) (hgk:zC nt g) (ht:∀ R,aHJ (blk X scope N' R) ifs tt) (he:∀ R,PE (blk X scope N' R) elt te)
  (h:∃ W:CW,(∃ m,W 0 m [] H₂) ∧ ∀ i m ys H,W i m ys H → uP (nC nt cap σ) J g tt te W Q i m ys H)
  {RR:Value → Addr → Result → Shared → Prop}
  (hRR:∀ D C s' H' ys,H' D = none → Q ys H' → Inv X pins σ (upd H' D (.lst ys)) s' → BlkEnd X pins (upd H' D (.lst ys)) C s' → RR (.ref D) C (.ok .next) s') :
  wpAny (model X.prog X.w) X.A (newList []) (fun acc s₃=>wpAny (model X.prog X.w) X.A (newFunctionEnv scope X.env.globals cl [] X.env.qual none .none (some X.env)) (fun cenv s₄ =>
   codeAny (model X.prog X.w) X.A (.compStart (.ListComp elt [⟨tg,iter,ifs,0⟩] scope pos) 0 (.ref it) acc { cenv with scope:=relabel scope X.env }) (RR acc cenv.locals) s₄) E s₃) E s₂:=by
 obtain ⟨W,⟨m0,w0⟩,turn⟩:=h
 refine wpAny_newObj_type (wpAny_newFunctionEnv hcell (by intro y hy;simp at hy) (fun h₁ hns₁ hsb₁=>?_) hkind)
 dsimp only at hns₁ hsb₁ ⊢
 generalize hH2:s₂.heap.push { cls:=.type "list",dict:=none,data:=.seq ([]:List Value).toArray } = Hx at hns₁ hsb₁ ⊢
 have hC:Hx.objs.size = s₂.heap.objs.size + 1:=by rw [← hH2,Heap.size_push]
 generalize hD:s₂.heap.objs.size = D at hC ⊢
 generalize hCC:Hx.objs.size = C at hns₁ hsb₁ hC ⊢
 have hDC:D ≠ C:=by omega
 have below:∀ b,b < s₂.heap.objs.size → b ≠ C ∧ b ≠ D:=fun b hb=>by omega
 have old:∀ b o,s₂.heap.get? b = some o → h₁.get? b = some o:=fun b o e=>hsb₁.extBut b o (below b (Heap.lt_size e)).1 (Heap.get?_push_of_some _ (hH2 ▸ Heap.get?_push_of_some _ e))
 have hacc:h₁.get? D = some { cls:=.type "list",data:=.seq ([]:List Value).toArray }:=hsb₁.extBut _ _ hDC (Heap.get?_push_of_some _ (by rw [← hH2,← hD];exact Heap.get?_push_size _ rfl))
 have freshD:H₂ D = none:=I₂.hok.fresh (by omega)
 have freshC:H₂ C = none:=I₂.hok.fresh (by omega)
 have fpo:∀ b ∈ fp,∃ o,s₂.heap.get? b = some o ∧ ∀ v,o.data ≠ .cell v:=T.obj 0 _ st
 have fplt:∀ b ∈ fp,b < s₂.heap.objs.size:=fun b hb=>let ⟨o,e,_⟩:=fpo b hb;Heap.lt_size e
 have celllt:∀ x c,X.env.cells.lookup x = some c → c < s₂.heap.objs.size:=fun x c e=>let ⟨v,z⟩:=I₂.cell x c e;z.lt
 have pinlt:∀ p ∈ X.pn ++ pins,p.1 < s₂.heap.objs.size:=fun p hp=>Heap.lt_size (I₂.pin p hp).1
 let R:BlkR:=⟨cl,C,s₂,H₂,fp⟩
 have okb:(blk X scope N' R).Ok:={
  mod:=I₂.mod
  kind:=hkind
  glob:=I₂.ok.glob
  blt:=I₂.ok.blt
  above:=(by show s₂.heap.objs.size ≤ C;omega)
  inj:=fun x y c e1 e2=>I₂.ok.inj x y c (hclk x c e1) (hclk y c e2)
  has:=fun x hx=>hclh x (kI hcell hx)
  cab:=fun x c hx _=>by cases hx
  hd:=I₂.ok.hd
  frames:=I₂.ok.frames
  stk:=.inl rfl
  exf:=fun b hb=>⟨(below b (fplt b hb)).1,fun x c e=>(hf b hb).2.2.2.2.1 x c (hclk x c e)⟩
  bs:=I₂.bs
  bsz:=Nat.le_trans I₂.ok.bsz I₂.sz
  noex:=fun b o e hb=>by
   rcases (hf b hb).2.2.2.1 with z | z
   ·exact I₂.ok.noex b o e z
   ·exact absurd (Nat.lt_of_lt_of_le (Heap.lt_size e) (Nat.le_trans I₂.ok.bsz z)) (Nat.lt_irrefl _)
  exfs:=fun b hb z=>by
   rcases List.mem_cons.mp (I₂.stkSub b z) with q | q
   ·exact (hf b hb).2.1 q
   ·exact (hf b hb).2.2.1 q
  funs:=I₂.stack
  frf:=I₂.stkFree }
 have nofs:∀ a,s₂.heap.objs.size ≤ a → a ∉ frs X.stack:=fun a ha z=>by
  rcases List.mem_cons.mp (I₂.stkSub a z) with q | q
  ·exact absurd (Nat.lt_of_lt_of_le I₂.lt ha) (by rw [q];exact Nat.lt_irrefl _)
  ·exact I₂.nofs ha q
 have hDle:s₂.heap.objs.size ≤ D:=by omega
 have hCle:s₂.heap.objs.size ≤ C:=by omega
 have stat:∀ {H':Hp} {ob:Obj},(∀ b ∈ fp,H' b = none) → ∀ b ∈ fp,xB (blk X scope N' R) [(D,ob)] H' b:=fun {H' ob} hn b hb =>
  ⟨hn b hb,(below b (fplt b hb)).1,okb.exfs b hb,.inl hb,fun x c e=>(hf b hb).2.2.2.2.1 x c (hclk x c e),fun p hp=>by
   have e:p = (D,ob):=by simpa using hp
   rw [e]
   exact Ne.symm (below b (fplt b hb)).2⟩
 have entry:∀ tk,Inv (blk X scope N' R) [(D,{ cls:=.type "list",data:=.seq ([]:List Value).toArray })] (nC nt cap σ) H₂ { s₂ with heap:=h₁,toks:=tk }:=fun tk=>{
  ok:=okb
  os:=rfl
  bare:=I₂.bare
  base:=Un.kept old
  loc:=by
   refine ⟨_,hns₁,fun i x v e1 e2 e3=>?_⟩
   obtain ⟨j,hi,hj,hv⟩:=vH e2
   have hx:X.N[j]? = some x:=by
    rw [← hcapN _ _ hj,show nt + (i - nt) = i by omega]
    exact e1
   have hxm:x ∈ N'.drop nt:=by
    refine List.mem_of_getElem? (i:=i - nt) ?_
    rw [List.getElem?_drop,show nt + (i - nt) = i by omega]
    exact e1
   have hfree:=hcapF x hxm
   have hmem:(x,NameKind.free) ∈ scope.names:=by
    have:∀ (l:List (Str × NameKind)),l.lookup x = some .free → (x,NameKind.free) ∈ l:=by
     intro l
     induction l with
     | nil=>intro q;cases q
     | cons a r ih =>
      intro q
      obtain ⟨n,k⟩:=a
      cases hxn:x == n with
      | true =>
       rw [List.lookup_cons,hxn] at q
       obtain rfl:=beq_iff_eq.mp hxn
       cases q
       exact List.mem_cons_self
      | false =>
       rw [List.lookup_cons,hxn] at q
       exact List.mem_cons_of_mem _ (ih q)
    exact this _ hfree
   have hk:=hfr (x,.free) hmem rfl
   obtain ⟨m,hn,hl⟩:=I₂.loc
   have vis:Vis X.env.scope x:=by
    rcases hk with k | k
    ·exact .inr (.inl k)
    ·exact .inr (.inr k)
   obtain ⟨u,ru,lk⟩:=hl j x v hx hv vis
   refine ⟨u,ru,?_⟩
   rcases lk with ⟨k,_⟩ | ⟨k,c,hc1,hc2⟩
   ·exfalso
    rcases hk with z | z
    ·rw [z] at k;cases k
    ·rw [z] at k;cases k
   ·obtain ⟨d,hd⟩:=hclh x hmem
    have hd':=hclk x d hd
    rw [hc1] at hd'
    cases hd'
    refine .inr ⟨iR hfree,c,hd,?_⟩
    obtain ⟨o,ho,hdat⟩:=hc2
    exact ⟨o,old c o ho,hdat⟩
  cell:=fun x c e=>by
   obtain ⟨v,o,ho,hdat⟩:=I₂.cell x c (hclk x c e)
   exact ⟨v,o,old c o ho,hdat⟩
  free:=freshC
  freeC:=fun x c e=>I₂.freeC x c (hclk x c e)
  pin:=fun p hp=>by
   have e:p = (D,{ cls:=.type "list",data:=.seq ([]:List Value).toArray }):=by simpa using hp
   subst e
   exact ⟨hacc,freshD,hDC,nofs D hDle,fun v z=>by cases z⟩
  hok:=I₂.hok.kept old
  len:=by rw [aEB,hN] }
 have loop:∀ tk,codeAny (model X.prog X.w) X.A (.compLoop (.ListComp elt [⟨tg,iter,ifs,0⟩] scope pos) 0 (.ref it) (.ref D) (compEnvC scope cl C X.env)) (RR (.ref D) C) { s₂ with heap:=h₁,toks:=tk }:=by
  intro tk
  refine tV (fun n s'=>∃ i ys H' its k,Inv (blk X scope N' R) [(D,{ cls:=.type "list",data:=.seq its.toArray k })] (nC nt cap σ) H' s' ∧ tn i s'.heap ∧ (∀ b ∈ fp,H' b = none) ∧ bH ys its ∧ ys.length ≤ sizeLine ∧ W i n ys H') ?_ m0
   ⟨0,[],H₂,[],0,entry tk,T.keep _ _ _ st fun b hb o e=>old b o e,fun b hb=>(hf b hb).1,.nil,Nat.zero_le _,w0⟩
  rintro n s3 ⟨i,ys,H3,its,k,I3,st3,fr3,rv,hz,w3⟩
  have pD:=I3.pin (D,{ cls:=.type "list",data:=.seq its.toArray k }) (by simp)
  rcases turn i n ys H3 w3 with ⟨stop,qn⟩ | ⟨go,hlt,step⟩
  ·-- the end
   refine wpAny_mono (T.done (blk X scope N' R) rfl rfl rfl hc i _ s3 _ H3 (fun _ _=>False) I3 (stat fr3) st3 stop) (fun r s4 ⟨hr,I4⟩=>?_) fun _ _ z=>z.elim
   subst hr
   have pD4:=I4.pin (D,{ cls:=.type "list",data:=.seq its.toArray k }) (by simp)
   have b4:Un (frs X.stack) fp H₂ H3 s₂.heap s4.heap:=I4.base
   have u4:Un (frs X.stack) fp H₂ (upd H3 D (.lst ys)) s₂.heap s4.heap:={
    keep:=b4.keep
    slot:=b4.slot
    free:=fun b o e n hx=>by
     rw [aT (below b (Heap.lt_size e)).2]
     exact b4.free b o e n hx
    there:=b4.there
    tups:=fun b xs e=>by
     have z:=b4.tups b xs e
     rw [aT (aQ z pD4.2.1)]
     exact z
    frzs:=fun b o u e=>by
     have z:=b4.frzs b o u e
     rw [aT (aQ z pD4.2.1)]
     exact z
    tbls:=fun b ps e=>by
     obtain ⟨more,z⟩:=b4.tbls b ps e
     exact ⟨more,by rw [aT (aQ z pD4.2.1)];exact z⟩ }
   have hok4:HOk X.prog X.w (upd H3 D (.lst ys)) s4.heap:=fun b u e=>by
    by_cases hb:b = D
    ·subst hb
     rw [aB] at e
     cases e
     exact ⟨hz,its,k,rv,pD4.1⟩
    ·rw [aT hb] at e
     exact (I4.hok b u e).stay (fun c v _ q=>q) (fun c q=>by rw [aT (aQ q pD4.2.1)];exact q) fun c xs q=>by rw [aT (aQ q pD4.2.1)];exact q
   have I5:Inv X pins σ (upd H3 D (.lst ys)) s4:=I₂.call' I4.os u4 hok4 I4.bare fun b hb=>⟨(hf b hb).2.2.2.1,(hf b hb).2.1,(hf b hb).2.2.2.2.1,(hf b hb).2.2.2.2.2⟩
   refine hRR D C s4 H3 ys pD4.2.1 qn I5 ?_
   obtain ⟨m,hn,_⟩:=I4.loc
   exact ⟨⟨m,hn⟩,by rw [aT (Ne.symm hDC)];exact I4.free,fun z=>absurd I₂.lt (by rw [← z];exact Nat.not_lt.mpr hCle),Nat.le_trans I₂.sz hCle,fun x c e=>Nat.ne_of_lt (Nat.lt_of_lt_of_le (celllt x c e) hCle),fun p hp=>Nat.ne_of_lt (Nat.lt_of_lt_of_le (pinlt p hp) hCle)⟩
  ·-- a turn
   refine wpAny_mono (T.item (blk X scope N' R) rfl rfl rfl hc i _ s3 _ H3 (fun _ _=>False) I3 (stat fr3) st3 go) (fun r s4 ⟨u,hr,h4⟩=>?_) fun _ _ z=>z.elim
   subst hr
   refine wpAny_mono h4 (fun _ s5 ⟨x,H5,I5,r5,y5,st5,fr5⟩=>?_) fun _ _ z=>z.elim
   have I5':=I5.pinned (stat fr5) (T.obj _ _ st5)
   refine wpAny_mono (hg R _ s5 _ H5 x u _ I5' r5 (hgk _ _ _ _ (step x H5 y5))) (fun _ s6 ⟨σ6,H6,I6,q6,l6,k6⟩=>?_) fun _ _ z=>z.elim
   refine wpAny_mono (ht R _ s6 σ6 H6 _ I6 q6) (fun ok s7 ⟨H7,I7,q7⟩=>?_) fun _ _ z=>z.elim
   have weak:∀ {H8:Hp} {s8:Shared} {ps:List (Addr × Obj)},Inv (blk X scope N' R) ps σ6 H8 s8 → Inv (blk X scope N' R) ps (nC nt cap σ) H8 s8:=fun I8=>I8.weak (by rw [l6]) fun j v e=>by
    obtain ⟨_,hj,_,_⟩:=vH e
    rw [k6 j hj]
    exact e
   have tnK:∀ {H8:Hp} {s8:Shared} {σ8:St},Inv (blk X scope N' R) ([(D,{ cls:=.type "list",data:=.seq its.toArray k })] ++ mI fp s5.heap) σ8 H8 s8 → tn (i + 1) s8.heap ∧ ∀ b ∈ fp,H8 b = none:=fun {H8 s8 σ8} I8 =>
    ⟨T.keep _ _ _ st5 fun b hb o e=>(I8.pin (b,o) (List.mem_append_right _ (List.mem_append_right _ (lI hb e)))).1,fun b hb=>by
     obtain ⟨o,e,_⟩:=T.obj _ _ st5 b hb
     exact (I8.pin (b,o) (List.mem_append_right _ (List.mem_append_right _ (lI hb e)))).2.1⟩
   cases ok with
   | false =>
    rw [if_neg Bool.false_ne_true] at q7 ⊢
    obtain ⟨m',hm,w7⟩:=q7
    exact ⟨m',hm,i + 1,ys,H7,its,k,weak I7.unpinned,(tnK I7).1,(tnK I7).2,rv,hz,w7⟩
   | true =>
    rw [if_pos rfl] at q7 ⊢
    refine wpAny_mono (he R _ s7 σ6 H7 _ I7 q7) (fun xv s8 ⟨y,H8,I8,ry,q8⟩=>?_) fun _ _ z=>z.elim
    obtain ⟨m',hm,w8⟩:=q8
    have pD8:=I8.pin (D,{ cls:=.type "list",data:=.seq its.toArray k }) (by simp)
    have hsz:its.toArray.size ≤ sizeLine:=by rw [List.size_toArray,← rv.length];omega
    refine wpAny_list_append_plain (hsz:=hsz) ⟨k,pD8.1⟩ fun h9 hl9 hs9=>?_
    obtain ⟨k9,hl9⟩:=hl9
    have tn8:=tnK I8
    have I8':Inv (blk X scope N' R) (mI fp s5.heap) (nC nt cap σ) H8 s8:=(weak I8).pins_of fun p hp=>I8.pin p (List.mem_append_right _ (List.mem_append_right _ hp))
    have I9:Inv (blk X scope N' R) (mI fp s5.heap) (nC nt cap σ) H8 { s8 with heap:=h9 }:=I8'.turned (it:=D) (t':=s8.toks) (fun b o hb e=>hs9.extBut b o hb e) pD8.2.1 pD8.2.2.1 (.inr hDle)
     (fun x c e=>Nat.ne_of_lt (Nat.lt_of_lt_of_le (celllt x c (hclk x c e)) hDle)) fun p hp=>by
      have hp':p ∈ mI fp s5.heap:=by simpa using hp
      exact Nat.ne_of_lt (Nat.lt_of_lt_of_le (fplt p.1 (uW hp').1) hDle)
    have e9:h9.get? D = some { cls:=.type "list",data:=.seq (its ++ [xv]).toArray k9 }:=by
     rw [hl9]
     simp
    refine ⟨m',hm,i + 1,ys ++ [y],H8,its ++ [xv],k9,I9.pins_of fun p hp=>?_,T.keep _ _ _ tn8.1 fun b hb o e=>hs9.extBut b o (Nat.ne_of_lt (Nat.lt_of_lt_of_le (fplt b hb) hDle)) e,tn8.2,rv.append (.cons ry .nil),by rw [List.length_append];exact hlt,w8⟩
    have e:p = (D,{ cls:=.type "list",data:=.seq (its ++ [xv]).toArray k9 }):=by simpa using hp
    subst e
    exact ⟨e9,pD8.2.1,pD8.2.2.1,pD8.2.2.2.1,fun v z=>by cases z⟩
 exact codeAny_compStart_list (loop _) (T.self _ 0 _ _ _ (T.keep _ _ _ st fun b hb o e=>old b o e) (loop _))
def aJJ (nt:Nat) (cap:List Nat) (wi:TI) (g:TG) (tt:TT) (te:TE):TE:=fun σ H Q=>wi σ H fun J H1=>∃ W:CW,(∃ m,W 0 m [] H1) ∧ ∀ i m ys H,W i m ys H → uP (nC nt cap σ) J g tt te W (fun ys H'=>∀ p,H' p = none → Q (.ref p) (upd H' p (.lst ys))) i m ys H
theorem jU {α:Type} {l:List α} {p:α → Bool} (h:l.all p = true):∀ x ∈ l,p x = true:=fun x hx=>List.all_eq_true.mp h x hx
theorem cJ {X:Cx} {elt iter tg:Expr} {ifs:List Expr} {scope:Scope} {pos:Pos} {wi:TI} {g:TG} {tt:TT} {te:TE} (N':List Str) (nt:Nat) (cap:List Nat)
  (hc:X.calm = true) (hi:PI X tg iter wi) (hg:∀ R,PG (blk X scope N' R) tg g) (hgk:zC nt g) (ht:∀ R,aHJ (blk X scope N' R) ifs tt) (he:∀ R,PE (blk X scope N' R) elt te)
  (hcell:(scope.names.all fun y=>!(y.2 == .cell)) = true:=by rfl) (hkind:scope.kind = .function:=by rfl)
  (hnames:(scope.names.all fun y=>!(y.2 == .local) || (scope.names.lookup y.1 == some .local)) = true:=by rfl)
  (hfr:(scope.names.all fun y=>!(y.2 == .free) || (X.env.kindOf y.1 == some .cell || X.env.kindOf y.1 == some .free)) = true:=by rfl)
  (hN:N'.length = nt + cap.length:=by rfl) (hcapN:(cap.map fun j=>X.N[j]?) = (N'.drop nt).map some:=by rfl) (hcapF:((N'.drop nt).all fun x=>scope.names.lookup x == some .free) = true:=by rfl)
  (hs:∀ x,foldedSetIterable iter X.env x = pure x:=by intro _;rfl) :
  PE X (.ListComp elt [⟨tg,iter,ifs,0⟩] scope pos) (aJJ nt cap wi g tt te):=by
 intro pins s σ H Q I h
 have hfr':∀ y ∈ scope.names,y.2 = .free → (X.env.kindOf y.1 = some .cell ∨ X.env.kindOf y.1 = some .free):=fun y hy e=>by
  have z:=jU hfr y hy
  rw [e] at z
  have z':(X.env.kindOf y.1 == some .cell || X.env.kindOf y.1 == some .free) = true:=z
  rcases Bool.or_eq_true_iff.mp z' with q | q
  ·exact .inl (beq_iff_eq.mp q)
  ·exact .inr (beq_iff_eq.mp q)
 have hcell':∀ y ∈ scope.names,y.2 ≠ .cell:=fun y hy e=>by
  have z:=jU hcell y hy
  rw [e] at z
  cases z
 obtain ⟨cl,hcl,hclk,hclh⟩:=tW (scope:=scope) (env:=X.env) fun y hy e=>I.ok.has y.1 (hfr' y hy e)
 have hnames':∀ y ∈ scope.names,y.2 = .local → scope.names.lookup y.1 = some .local:=fun y hy e=>by
  have z:=jU hnames y hy
  rw [e] at z
  exact beq_iff_eq.mp z
 have hcapN':∀ (k j:Nat),cap[k]? = some j → N'[nt + k]? = X.N[j]?:=fun k j e=>by
  have z:=congrArg (fun l:List (Option Str)=>l[k]?) hcapN
  simp only [List.getElem?_map,e,Option.map_some,List.getElem?_drop] at z
  cases q:N'[nt + k]? with
  | none=>rw [q] at z;cases z
  | some x=>rw [q] at z;exact (Option.some.inj z).symm
 rw [eval_ListComp]
 refine wpAny_comprehension_free (use:=none) rfl hs hcl hkind hnames' (thn (hi pins s σ H _ I h) fun v s1 h1=>thn h1 fun itv s2 h2=>?_)
 obtain ⟨it,fp,tn,J,H2,e,I2,T,st2,f2,hw⟩:=h2
 subst e
 refine tU (RR:=fun acc C=>compPost (model X.prog X.w) X.A X.xe none (EP X pins σ Q) acc C) hc I2 T st2 f2 hclk hclh hcell' hkind hfr' hN hcapN' (fun x hx=>beq_iff_eq.mp (jU hcapF x hx)) hg hgk ht he hw ?_
 intro D C s' H' ys hD q I' B
 obtain ⟨m,hn⟩:=B.ns
 refine ⟨m,hn,fun h' hs'=>⟨.ref D,_,I'.turned (it:=C) (t':=s'.toks) (fun b o hb e=>hs'.extBut b o hb e) B.fr B.ne (.inr B.ab) B.cl B.pn,rfl,q D hD⟩⟩
end L2
namespace L2
open PySem PySem.Spec PyProof.Rows
section
variable {X:Cx}
def aIX:V → Option Value
 | .ty n=>some (.type n)
 | .ref a=>some (.ref a)
 | _=>none
theorem yX {y:V} {c u:Value} (h:aIX y = some c) (r:bF y u):u = c:=by
 cases y with
 | ty n=>cases h;exact r
 | ref a=>cases h;exact r
 | non=>cases h
 | bl b=>cases h
 | int i=>cases h
 | str x=>cases h
 | byt b=>cases h
 | flt b=>cases h
theorem yZ:gH X (.builtin "isinstance") (fun xs H Q=>∃ x y c t b,xs = [x,y] ∧ aIX y = some c ∧ TyOf X.K H x t ∧ PySem.W.kitOne X.K t c = some b ∧ Q (.bl b) H):=by
 intro pins s σ H xs us Q I r h
 obtain ⟨x,y,c,t,b,rfl,hc,ty,e,q⟩:=h
 obtain ⟨u,v,rfl,ru,rv⟩:=bH.two r
 obtain rfl:=yX hc rv
 exact aDC I ru ty e fun tk=>⟨.bl b,H,I.tok tk,rfl,q⟩
theorem qY:∀ {bs:List Bool} {us:List Value},bH (bs.map V.bl) us → LSm.BoolsAre us bs
 | [],us,r=>by
  rw [List.map_nil] at r
  cases r
  exact .nil
 | b :: bs,us,r=>by
  rw [List.map_cons] at r
  cases r with
  | cons r1 r2 =>
   cases r1
   exact .cons b (qY r2)
theorem gU (hc:X.calm = true):gH X (.builtin "all") (fun xs H Q=>∃ (p:Addr) (bs:List Bool),xs = [.ref p] ∧ SqL X.K H p (bs.map V.bl) ∧ Q (.bl (bs.all id)) H):=by
 intro pins s σ H xs us Q I r h
 obtain ⟨p,bs,rfl,hq,q⟩:=h
 obtain ⟨u,rfl,ru⟩:=bH.one r
 cases ru
 obtain ⟨its,rv,pl,hz⟩:=I.list hq
 obtain ⟨m,F⟩:=I.fr
 have hb:=qY rv
 have hl:=pl.isList
 have hlt:p < s.heap.objs.size:=by obtain ⟨_,e,_⟩:=hl;exact Heap.lt_size e
 refine call_all_walk (wpAny_pyIter_list hl ?_)
 refine ⟨s.heap.objs.size,[s.heap.objs.size,p],[s.heap.objs.size],its.toArray.size,_,_,fun i=>(bs[i]?).getD true,rfl,Walks.list (A:=X.A.in1) (I.ok.hd hc) _ p (Nat.ne_of_lt hlt) its.toArray,
  ⟨⟨_,Heap.get?_push_size _ rfl,rfl,rfl⟩,hl.push _⟩,fun i v s' Q' E' hP hQ=>?_,fun h' tk hk=>?_⟩
 ·obtain ⟨b,e,rfl⟩:=hb.get i v (by simpa using hP)
  simp only [e,Option.getD_some] at hQ
  exact wpAny_truthy_bool hQ
 ·have e:((List.range its.toArray.size).all fun i=>(bs[i]?).getD true) = bs.all id:=by
   rw [List.size_toArray,hb.length];exact LSm.range_all bs
  rw [e]
  exact ⟨.bl _,H,I.kept (LSm.kept_iter hk),rfl,q⟩
theorem aEX:SlR X (fun x lo hi H Q=>∃ z,x = .str z ∧ z.length ≤ sizeLine ∧ Q (.str (Txt.slice z lo hi)) H):=by
 intro pins s σ H x v vl vu lo hi sl Q I rx hs pl pu h
 obtain ⟨z,rfl,hz,q⟩:=h
 obtain ⟨t,rfl⟩:=rx
 refine ⟨"str",_,F.slot_str_getitem.lookup,typeIs_str _ _ _,?_⟩
 have fin:∀ (t':Tok) (k:Nat),EP X pins σ Q (.str (Txt.slice z lo hi) t') { s with toks:=k }:=fun t' k=>⟨.str _,H,I.tok k,⟨t',rfl⟩,q⟩
 cases pl with
 | none =>
  cases pu with
  | none=>exact wpAny_getItem_str_slice (l:=none) (u:=none) (st:=none) hs rfl (post_val_or_str ⟨Nat.le_trans (Txt.slice_le z _ _) hz,fun t' k=>fin t' k⟩)
  | int j uj=>exact wpAny_getItem_str_slice (l:=none) (u:=some (j,uj)) (st:=none) hs rfl (post_val_or_str ⟨Nat.le_trans (Txt.slice_le z _ _) hz,fun t' k=>fin t' k⟩)
 | int i ui =>
  cases pu with
  | none=>exact wpAny_getItem_str_slice (l:=some (i,ui)) (u:=none) (st:=none) hs rfl (post_val_or_str ⟨Nat.le_trans (Txt.slice_le z _ _) hz,fun t' k=>fin t' k⟩)
  | int j uj=>exact wpAny_getItem_str_slice (l:=some (i,ui)) (u:=some (j,uj)) (st:=none) hs rfl (post_val_or_str ⟨Nat.le_trans (Txt.slice_le z _ _) hz,fun t' k=>fin t' k⟩)
theorem bE:OpR X (binaryOp .FloorDiv) (rI (fun _ j=>0 < j ∧ j.natAbs.log2 < 9000) fun i j=>.int (i / j)):=opI fun i j _ _ _ _ _ hc q=>by
 have h1:(0:Int) < j:=hc.1
 exact floordiv_int (by omega) (by rw [Int.fdiv_eq_ediv_of_nonneg i (by omega)];exact q) (.inl (PyProof.noPylong_of_log2 hc.2))
def Its (x:Str):It where
 go:=fun i _=>i < x.cps.size
 yld:=fun i H v H'=>H' = H ∧ ∃ c,x.cps[i]? = some c ∧ v = .str ⟨#[c]⟩
 stop:=fun i _=>i = x.cps.size
theorem xD {P:Program} {w:World} {K:PySem.W.Frag} {tg:Expr} (it:Addr) (x:Str) (t:Tok) (ty:String)
  (W:∀ A:Around,A.handled = none → Walks P w A it [it] [it] x.cps.size (SignAt x) (fun i h=>h.IsStrIter it ty x t i))
  (hn:["enumerate","zip","dict_itemiterator","dict_reverseitemiterator","odict_iterator","itertools.zip_longest","itertools.pairwise"].contains ty = false)
  (self:∀ (A:Around) (i:Nat) (s:Shared) (Q:Value → Shared → Prop) (E:Value → Shared → Prop),s.heap.IsStrIter it ty x t i → Q (.ref it) s → wpAny (model P w) A (pyIter (.ref it)) Q E s) :
  Turn P w K tg (Its x) [it] it (fun i h=>h.IsStrIter it ty x t i) where
 mem:=by simp
 obj:=fun i h st b hb=>by
  have e:b = it:=by simpa using hb
  subst e
  obtain ⟨o,e,c,d⟩:=st
  exact ⟨o,e,fun v z=>by rw [d] at z;cases z⟩
 keep:=fun i h h' st k=>let ⟨o,ho,r⟩:=st;⟨o,k it (by simp) o ho,r⟩
 item:=by
  intro X hP hw hK hc i pins s σ H E I hf st hg
  subst hP hw hK
  obtain ⟨f0,f1,f2,f3,f4,f5⟩:=hf it (by simp)
  refine (W X.A (I.ok.hd hc)).item i s _ _ hg st fun v h' tk hv st' kk=>?_
  obtain ⟨c,u,hx,rfl⟩:=hv
  have I1:Inv X pins σ H { s with heap:=h',toks:=tk }:=I.turned (fun b o hb e=>kk b o (by simpa using hb) e) f0 f1 f3 f4 f5
  obtain ⟨o,e,cc,d⟩:=id st'
  exact ⟨_,rfl,aBT (s:={ s with heap:=h',toks:=tk }) e cc d hn ⟨.str ⟨#[c]⟩,H,I1,⟨u,rfl⟩,⟨rfl,c,hx,rfl⟩,st',fun b hb=>(hf b hb).1⟩⟩
 done:=by
  intro X hP hw hK hc i pins s σ H E I hf st hg
  subst hP hw hK
  obtain ⟨f0,f1,f2,f3,f4,f5⟩:=hf it (by simp)
  have hg':i = x.cps.size:=hg
  subst hg'
  exact (W X.A (I.ok.hd hc)).done s _ _ st fun h' tk kk=>⟨rfl,I.turned (fun b o hb e=>kk b o (by simpa using hb) e) f0 f1 f3 f4 f5⟩
 self:=self
def aNX (tl:TE):TI:=fun σ H R=>tl σ H fun x H1=>∃ z,x = .str z ∧ R (Its z) H1
theorem aKI {tg l:Expr} {tl:TE} (hl:PE X l tl):PI X tg l (aNX tl):=by
 intro pins s σ H R I h
 refine thn (hl pins s σ H _ I h) fun v s1 ⟨x,H1,I1,r1,q1⟩=>?_
 obtain ⟨z,e,q⟩:=q1
 subst e
 obtain ⟨t,rfl⟩:=r1
 have fp:∀ b ∈ [s1.heap.objs.size],xB X pins H1 b:=fun b hb=>by
  have e:b = s1.heap.objs.size:=by simpa using hb
  subst e
  exact I1.fpOk (Nat.le_refl _) (I1.hok.fresh (Nat.le_refl _))
 cases ha:z.cps.all (· < 128)
 ·refine wpAny_pyIter_wide ha ?_
  exact ⟨s1.heap.objs.size,[s1.heap.objs.size],_,_,H1,rfl,I1.kept (t':=s1.toks) fun b o e=>Heap.get?_push_of_some _ e,xD _ z t "str_iterator" (fun A hA=>Walks.strWide hA _ z t) (by decide) (fun A i s Q E st h=>wpAny_pyIter_striter_wide st h),
   ⟨_,Heap.get?_push_size _ rfl,rfl,rfl⟩,fp,q⟩
 ·refine wpAny_pyIter_ascii ha ?_
  exact ⟨s1.heap.objs.size,[s1.heap.objs.size],_,_,H1,rfl,I1.kept (t':=s1.toks) fun b o e=>Heap.get?_push_of_some _ e,xD _ z t "str_ascii_iterator" (fun A hA=>Walks.strAscii hA _ z t) (by decide) (fun A i s Q E st h=>wpAny_pyIter_striter_ascii st h),
   ⟨_,Heap.get?_push_size _ rfl,rfl,rfl⟩,fp,q⟩
end
theorem aHB {σb:St} {x:Str} {g:TG} {tt:TT} {te:TE} {fin:List V → Hp → Prop} {H:Hp} (hz:x.cps.size ≤ sizeLine) (Pv:Nat → List V → Hp → Prop) (h0:Pv 0 [] H) (hl:∀ i ys H,Pv i ys H → ys.length ≤ i)
  (hs:∀ i c ys H (K:VK) (K':Hp → Prop),x.cps[i]? = some c → Pv i ys H → (∀ y H4,Pv (i + 1) (ys ++ [y]) H4 → K y H4) → (∀ H3,Pv (i + 1) ys H3 → K' H3) →
   g (.str ⟨#[c]⟩) σb H fun σ2 H2=>tt σ2 H2 fun b H3=>if b = true then te σ2 H3 K else K' H3)
  (hd:∀ ys H,Pv x.cps.size ys H → fin ys H):∃ W:CW,(∃ m,W 0 m [] H) ∧ ∀ i m ys H,W i m ys H → uP σb (Its x) g tt te W fin i m ys H:=by
 refine ⟨fun i m ys H=>m = x.cps.size - i ∧ i ≤ x.cps.size ∧ Pv i ys H,⟨x.cps.size,by simp,Nat.zero_le _,h0⟩,?_⟩
 rintro i m ys H ⟨rfl,hi,p⟩
 by_cases hlt:i < x.cps.size
 ·refine .inr ⟨hlt,?_,fun v H' y=>?_⟩
  ·have:=hl i ys H p;omega
  ·obtain ⟨e,c,hx,rfl⟩:=y
   subst e
   exact hs i c ys _ _ _ hx p (fun y H4 q=>⟨x.cps.size - (i + 1),by omega,rfl,hlt,q⟩) fun H3 q=>⟨x.cps.size - (i + 1),by omega,rfl,hlt,q⟩
 ·have e:i = x.cps.size:=by omega
  subst e
  exact .inl ⟨rfl,hd ys H p⟩
theorem bM {F:PySem.W.Frag} {a:Addr} {xs:List V} {σb:St} {g:TG} {tt:TT} {te:TE} {fin:List V → Hp → Prop} {H:Hp} (hz:xs.length ≤ sizeLine) (Pv:Nat → List V → Hp → Prop) (h0:Pv 0 [] H)
  (hl:∀ i ys H,i ≤ xs.length → Pv i ys H → SqL F H a xs ∧ ys.length ≤ i)
  (hs:∀ i x ys H (K:VK) (K':Hp → Prop),xs[i]? = some x → Pv i ys H → (∀ y H4,Pv (i + 1) (ys ++ [y]) H4 → K y H4) → (∀ H3,Pv (i + 1) ys H3 → K' H3) →
   g x σb H fun σ2 H2=>tt σ2 H2 fun b H3=>if b = true then te σ2 H3 K else K' H3)
  (hd:∀ ys H,Pv xs.length ys H → fin ys H):∃ W:CW,(∃ m,W 0 m [] H) ∧ ∀ i m ys H,W i m ys H → uP σb (Itl F a) g tt te W fin i m ys H:=by
 refine ⟨fun i m ys H=>m = xs.length - i ∧ i ≤ xs.length ∧ Pv i ys H,⟨xs.length,by simp,Nat.zero_le _,h0⟩,?_⟩
 rintro i m ys H ⟨rfl,hi,p⟩
 obtain ⟨q,ql⟩:=hl i ys H hi p
 by_cases hlt:i < xs.length
 ·refine .inr ⟨⟨xs,xs[i],q,by simp [hlt]⟩,by omega,fun x H' y=>?_⟩
  obtain ⟨e,y⟩:=y
  subst e
  exact hs i x ys _ _ _ (y xs q) p (fun y H4 q=>⟨xs.length - (i + 1),by omega,rfl,hlt,q⟩) fun H3 q=>⟨xs.length - (i + 1),by omega,rfl,hlt,q⟩
 ·have e:i = xs.length:=by omega
  subst e
  exact .inl ⟨⟨xs,q,Nat.le_refl _⟩,hd ys H p⟩
theorem aAH {lo:Int} {n:Nat} {σb:St} {g:TG} {tt:TT} {te:TE} {fin:List V → Hp → Prop} {H:Hp} (hz:n ≤ sizeLine) (Pv:Nat → List V → Hp → Prop) (h0:Pv 0 [] H) (hl:∀ i ys H,Pv i ys H → ys.length ≤ i)
  (hs:∀ i ys H (K:VK) (K':Hp → Prop),i < n → Pv i ys H → (∀ y H4,Pv (i + 1) (ys ++ [y]) H4 → K y H4) → (∀ H3,Pv (i + 1) ys H3 → K' H3) →
   g (.int (lo + i)) σb H fun σ2 H2=>tt σ2 H2 fun b H3=>if b = true then te σ2 H3 K else K' H3)
  (hd:∀ ys H,Pv n ys H → fin ys H):∃ W:CW,(∃ m,W 0 m [] H) ∧ ∀ i m ys H,W i m ys H → uP σb (Itr lo n) g tt te W fin i m ys H:=by
 refine ⟨fun i m ys H=>m = n - i ∧ i ≤ n ∧ Pv i ys H,⟨n,by simp,Nat.zero_le _,h0⟩,?_⟩
 rintro i m ys H ⟨rfl,hi,p⟩
 by_cases hlt:i < n
 ·refine .inr ⟨hlt,?_,fun v H' y=>?_⟩
  ·have:=hl i ys H p;omega
  ·obtain ⟨e,y⟩:=y
   subst e y
   exact hs i ys _ _ _ hlt p (fun y H4 q=>⟨n - (i + 1),by omega,rfl,hlt,q⟩) fun H3 q=>⟨n - (i + 1),by omega,rfl,hlt,q⟩
 ·have e:i = n:=by omega
  subst e
  exact .inl ⟨Nat.le_refl _,hd ys H p⟩
end L2
namespace L2
open PySem PySem.Spec PyProof.Rows
structure DefAt (K:PySem.W.Frag) (mg:Str → Option Value) (x:Str) (st:Stmt) (ps:List Str):Prop where
 ex:∃ (f:Addr) (fd:FuncData),Fun K x x st f fd ∧ gI K fd ps [] ∧ mg x = some (.ref f)
structure Fc (P:Program) (w:World) (K:PySem.W.Frag) (mg:Str → Option Value) (base:Heap) (k:Nat) (x:Str) (ps:List Str) (sp:Sp):Prop where
 ex:∃ (f:Addr) (fd:FuncData),FnOk P w K mg base CX0 k f fd ps sp ∧ gI K fd ps [] ∧ mg x = some (.ref f) ∧ PySem.W.keepIn K (.ref f) = true
section
variable {P:Program} {w:World} {K:PySem.W.Frag} {mg:Str → Option Value} {base:Heap}
theorem DefAt.fc {x:Str} {st:Stmt} {N ps:List Str} {k:Nat} {sp:Sp} (D:DefAt K mg x st ps) (S:FnScope N ps (aF st)) (len:∀ vs H Q E,sp vs H Q E → vs.length = ps.length)
  (hbody:∀ (f:Addr) (cdv:Value) (A:Around) (outer:List Env) (s:Shared) (H:Hp) (vs:List V) (Q:VK) (E:XK),Room k (A.deeper (envOfC x (aF st) s.heap.objs.size f cdv)) → sp vs H Q E →
   ∃ t,PSs (kB CX0 P w K mg base N x (aF st) f cdv A outer s H E).nox (aN st) t ∧ t { nx:=fun _ H'=>Q .non H',rt:=Q } (iB N vs) H):Fc P w K mg base (k + 1) x ps sp:=by
 obtain ⟨f,fd,F,b,m⟩:=D.ex
 exact ⟨f,fd,F.ok S len fun cdv A outer s H vs Q E hr h=>hbody f cdv A outer s H vs Q E hr h,b,m,F.kp⟩
theorem bO {h:Heap} {x:Str} {st:Stmt} {ps:List Str} {f:Addr} {oc:Value} {od an:Option Addr} {osl:Array (Option Value)} {kV doc pm cdv ct:Value} (X:K.In h) (G:h.Ns mainGlobals mg)
  (a:PySem.W.nsIn K mainGlobals x = some (some (.ref f))) (l:K.lookup f = some ⟨oc,od,.func (PySem.W.fnOf x x (aP st) (aN st) (aF st) .none kV doc pm an cdv ct),osl⟩)
  (c:PySem.W.codeIn K cdv x = true) (k:PySem.W.keepIn K (.ref f) = true)
  (hb:∀ (kV doc pm:Value) (an:Option Addr) (cdv ct:Value) (us:List Value),us.length = ps.length → bindArgs (PySem.W.fnOf x x (aP st) (aN st) (aF st) .none kV doc pm an cdv ct) ⟨us,[]⟩ = pure (ps.zip us)):DefAt K mg x st ps :=
 ⟨f,_,qO l c k,(qO l c k).binds hb,PySem.W.mg_of X G a⟩
end
section
variable {X:Cx} {k:Nat} {ps:List Str} {sp:Sp} {x:Str} {p pos:Pos} {e:Expr} {es:List Expr} {t:TA}
theorem bN (F:Fc X.prog X.w X.K X.mg X.base k x ps sp) (hr:Room k X.A) (ha:PA X (e :: es) t) (hg:Gl X x:=by rfl) (hdb:(x == ("__debug__":Str)) = false:=by decide)
  (he:starEach (e :: es) X.env = (false,eval e X.env) :: starEach es X.env:=by rfl) (hpl:(backTo pos (starEach es X.env)).any (·.1) = false:=by rfl) :
  PE X (.Call (.Name x p) (e :: es) [] pos) (aEL sp [] E0 t):=by
 obtain ⟨f,fd,G,b,m,kp⟩:=F.ex
 exact aBO G hr hg m kp b .nil aBP ha hdb he hpl
end
def sp1 (f:V → Hp → VK → Prop):Sp:=fun vs H Q _=>∃ x,vs = [x] ∧ f x H Q
def sp2 (f:V → V → Hp → VK → Prop):Sp:=fun vs H Q _=>∃ x y,vs = [x,y] ∧ f x y H Q
def sp3 (f:V → V → V → Hp → VK → Prop):Sp:=fun vs H Q _=>∃ x y z,vs = [x,y,z] ∧ f x y z H Q
theorem lY {f:V → Hp → VK → Prop}:∀ vs H Q E,sp1 f vs H Q E → vs.length = 1:=fun vs H Q E ⟨x,e,_⟩=>by rw [e];rfl
theorem jM {f:V → V → Hp → VK → Prop}:∀ vs H Q E,sp2 f vs H Q E → vs.length = 2:=fun vs H Q E ⟨x,y,e,_⟩=>by rw [e];rfl
theorem aFU {f:V → V → V → Hp → VK → Prop}:∀ vs H Q E,sp3 f vs H Q E → vs.length = 3:=fun vs H Q E ⟨x,y,z,e,_⟩=>by rw [e];rfl
theorem bB:bootBuiltins "isinstance" = some (.builtin "isinstance"):=by decide +kernel
theorem fJ:bootBuiltins "all" = some (.builtin "all"):=by decide +kernel
theorem cG:bootBuiltins "len" = some (.builtin "len"):=by decide +kernel
theorem iW:bootBuiltins "max" = some (.builtin "max"):=by decide +kernel
theorem nX:bootBuiltins "min" = some (.builtin "min"):=by decide +kernel
theorem qT:bootBuiltins "str" = some (.type "str"):=by decide +kernel
theorem aEA:bootBuiltins "int" = some (.type "int"):=by decide +kernel
theorem aAI:bootBuiltins "bool" = some (.type "bool"):=by decide +kernel
theorem dI:bootBuiltins "list" = some (.type "list"):=by decide +kernel
theorem nB:bootBuiltins "tuple" = some (.type "tuple"):=by decide +kernel
theorem gC:bootBuiltins "dict" = some (.type "dict"):=by decide +kernel
theorem aDZ:bootBuiltins "set" = some (.type "set"):=by decide +kernel
inductive Pl (K:PySem.W.Frag) (H:Hp):V → Prop where
 | non:Pl K H .non
 | bl (b:Bool):Pl K H (.bl b)
 | int (i:Int):Pl K H (.int i)
 | str (x:Str):Pl K H (.str x)
 | lst {a:Addr} {xs:List V} (e:H a = some (.lst xs)):Pl K H (.ref a)
 | frz {a:Addr} {o:Obj} {xs:List V} (e:H a = some (.frz o (.lst xs))):Pl K H (.ref a)
 | tup {a:Addr} {xs:List V} (e:H a = some (.tup xs)):Pl K H (.ref a)
 | dK {a:Addr} {kvs:List (Key × V)} (e:H a = some (.dK kvs)):Pl K H (.ref a)
theorem iI (K:PySem.W.Frag) (n:String):PySem.W.kitOne K (.type n) (.type n) = some true:=by
 unfold PySem.W.kitOne
 rw [if_pos (by simp)]
end L2
namespace L2
open PySem PySem.Spec PyProof.Rows
def iQ (mg:Str → Option Value) (x:Str) (v:V):Prop:=∃ u,mg x = some u ∧ bF v u
theorem oP {X:Cx} {x:Str} {v:V} {pos:Pos} (h:iQ X.mg x v) (hg:Gl X x:=by rfl) (hd:(x == ("__debug__":Str)) = false:=by decide):PE X (.Name x pos) (tC v):=by
 obtain ⟨u,hm,r⟩:=h
 exact jP hg hm r hd
theorem hW {K:PySem.W.Frag} {mg:Str → Option Value} {h:Heap} {x:Str} {v:V} {u:Value} (X:K.In h) (G:h.Ns mainGlobals mg) (a:PySem.W.nsIn K mainGlobals x = some (some u)) (r:bF v u):iQ mg x v:=⟨u,PySem.W.mg_of X G a,r⟩
end L2
namespace L2
open PySem PySem.Spec PyProof.Rows
def qQ:HO → Bool
 | .lst _=>true
 | .dK _=>true
 | .set _ _=>true
 | .ext _=>true
 | .rng _ _=>true
 | _=>false
def iK (H' H'':Hp):Prop:=∀ b,H'' b = H' b ∨ (H'' b = none ∧ ∃ o,H' b = some o ∧ qQ o = true)
theorem iK.refl (H:Hp):iK H H:=fun _=>.inl rfl
theorem iK.trans {H1 H2 H3:Hp} (a:iK H1 H2) (b:iK H2 H3):iK H1 H3:=fun c=>by
 rcases b c with e | ⟨e,o,q,d⟩
 ·rcases a c with e' | ⟨e',o,q,d⟩
  ·exact .inl (e.trans e')
  ·exact .inr ⟨e.trans e',o,q,d⟩
 ·rcases a c with e' | ⟨e',_⟩
  ·exact .inr ⟨e,o,e' ▸ q,d⟩
  ·rw [e'] at q;cases q
theorem iK.new {H:Hp} {p:Addr} {o:HO} (h:H p = none) (d:qQ o = true):iK (upd H p o) H:=fun b=>by
 by_cases hb:b = p
 ·subst hb
  exact .inr ⟨h,o,aB,d⟩
 ·exact .inl (aT hb).symm
theorem iK.lst {H:Hp} {p:Addr} {xs:List V} (h:H p = none):iK (upd H p (.lst xs)) H:=iK.new h rfl
def dZ (Q:VK):VK:=fun v H'=>∃ H'',iK H' H'' ∧ Q v H''
theorem dZ.of {Q:VK} {v:V} {H H':Hp} (d:iK H' H) (q:Q v H):dZ Q v H':=⟨H,d,q⟩
theorem HOk.drop {P:Program} {w:World} {H' H'':Hp} {h:Heap} (d:iK H' H'') (ok:HOk P w H' h):HOk P w H'' h:=fun b o e=>by
 have e':H' b = some o:=by
  rcases d b with z | ⟨z,_⟩
  ·exact z.symm.trans e
  ·rw [z] at e;cases e
 refine (ok b o e').stay (fun _ _ _ q=>q) (fun c q=>?_) fun c xs q=>?_
 ·rcases d c with z | ⟨_,o',z',dr⟩
  ·exact z.trans q
  ·rw [q] at z';cases z';cases dr
 ·rcases d c with z | ⟨_,o',z',dr⟩
  ·exact z.trans q
  ·rw [q] at z';cases z';cases dr
theorem Un.drop {fs ex:List Addr} {H H' H'':Hp} {h h':Heap} (d:iK H' H'') (u:Un fs ex H H' h h'):Un fs ex H H'' h h' where
 keep:=u.keep
 slot:=u.slot
 free:=fun b o e n hx=>by
  rcases d b with z | ⟨z,_⟩
  ·exact z.trans (u.free b o e n hx)
  ·exact z
 there:=u.there
 tups:=fun b xs e=>by
  have q:=u.tups b xs e
  rcases d b with z | ⟨_,o',z',dr⟩
  ·exact z.trans q
  ·rw [q] at z';cases z';cases dr
 frzs:=fun b o v e=>by
  have q:=u.frzs b o v e
  rcases d b with z | ⟨_,o',z',dr⟩
  ·exact z.trans q
  ·rw [q] at z';cases z';cases dr
 tbls:=fun b ps e=>by
  obtain ⟨m,q⟩:=u.tbls b ps e
  rcases d b with z | ⟨_,o',z',dr⟩
  ·exact ⟨m,z.trans q⟩
  ·rw [q] at z';cases z';cases dr
theorem FnOk.drop {P:Program} {w:World} {K:PySem.W.Frag} {mg:Str → Option Value} {base:Heap} {k:Nat} {f:Addr} {fd:FuncData} {ps:List Str} {sp:Sp} (len:∀ vs H Q E,sp vs H Q E → vs.length = ps.length)
  (F:FnOk P w K mg base CX0 k f fd ps (fun vs H Qd E=>∃ Q,sp vs H Q E ∧ Qd = dZ Q)):FnOk P w K mg base CX0 k f fd ps sp:=by
 refine ⟨len,fun A outer s H args us vs Q E hr he hb hv hs=>codeAny_mono (F.run A outer s H args us vs (dZ Q) E hr he hb hv ⟨Q,hs,rfl⟩) fun r s' h=>?_⟩
 cases r with
 | error e=>exact h
 | ok fl =>
  cases fl with
  | ret u =>
   obtain ⟨v,H',os,bare,un,hok,rv,H'',d,q⟩:=h
   exact ⟨v,H'',os,bare,un.drop d,hok.drop d,rv,q⟩
  | next=>exact h
  | brk=>exact h
  | cont=>exact h
theorem DefAt.fcD {P:Program} {w:World} {K:PySem.W.Frag} {mg:Str → Option Value} {base:Heap} {x:Str} {st:Stmt} {N ps:List Str} {k:Nat} {sp:Sp} (D:DefAt K mg x st ps) (S:FnScope N ps (aF st)) (len:∀ vs H Q E,sp vs H Q E → vs.length = ps.length)
  (hbody:∀ (f:Addr) (cdv:Value) (A:Around) (outer:List Env) (s:Shared) (H:Hp) (vs:List V) (Q:VK) (E:XK),Room k (A.deeper (envOfC x (aF st) s.heap.objs.size f cdv)) → sp vs H Q E →
   ∃ t,PSs (kB CX0 P w K mg base N x (aF st) f cdv A outer s H E).nox (aN st) t ∧ t { nx:=fun _ H'=>dZ Q .non H',rt:=dZ Q } (iB N vs) H):Fc P w K mg base (k + 1) x ps sp:=by
 obtain ⟨f,fd,F,b,m⟩:=D.ex
 refine ⟨f,fd,FnOk.drop len (F.ok S (fun vs H Q E ⟨Q',h,_⟩=>len vs H Q' E h) fun cdv A outer s H vs Q E hr ⟨Q',h,e⟩=>?_),b,m,F.kp⟩
 subst e
 exact hbody f cdv A outer s H vs Q' E hr h
end L2
namespace L2
open PySem PySem.Spec PyProof.Rows
theorem aH.upd {H:Hp} {p:Addr} {o:HO} (h:H p = none):aH H (upd H p o):=fun b u e=>by
 rw [aT (aQ e h)]
 exact e
def aBA (K:PySem.W.Frag):Sp:=sp1 fun x H Q=>∃ (a:Addr) (ns:List Int),x = .ref a ∧ SqL K H a (ns.map V.int) ∧ ns.length ≤ 63 ∧ ∀ H',Q (.bl true) H'
theorem walk_law {l:PySem.W.OpenLaw} {q:Program} {loose:List Str} {XP:(Str → Option Value) → Heap → Prop} {YP:World → Heap → Prop} {d:DefRec} {K:Params → PySem.W.Frag} (k:Nat) (hr:Room k callerA) (hn:l.most = some 63) (hdf:d.params.defaults = [])
  (hY:∀ (w:World) (h:Heap),YP w h → (K w.params).In h)
  (F:∀ (w:World) (mg:Str → Option Value) (fa:Addr) (h:Heap),(K w.params).In h → h.Ns mainGlobals mg → mg d.name = some (.ref fa) →
   ∃ fd:FuncData,(∀ (s:Shared) (u:Value),BindsTo s fd ⟨[u],[]⟩ [("_law_script",u)]) ∧ ∀ base:Heap,(K w.params).In base → base.Ns mainGlobals mg → FnOk l.prog w (K w.params) mg base CX0 k fa fd ["_law_script"] (aBA (K w.params))) :
  PySem.W.WalkO q loose XP YP l.row.toRowW d [] (fun f vs=>PySem.call f vs) :=
 L2.walk_of (n:=63) (k:=k) (x:="_law_script") (CX:=fun _=>CX0) (sp:=fun w=>aBA (K w.params)) hn (by decide) hdf hr hY F (fun _ _ a ns hl _ hS=>⟨_,rfl,a,ns,rfl,hS,hl,fun _=>rfl⟩) fun _ _ _ _ _ z=>z
end L2
namespace L2
open PySem PySem.Spec PyProof.Rows
theorem kL {X:Cx} {x:Str} {n:String} {pos:Pos} (hm:X.mg x = none) (hv:bootBuiltins x = some (.type n)) (hg:Gl X x:=by rfl) (hn:x ≠ "__name__":=by decide) (hd:(x == ("__debug__":Str)) = false:=by decide):PE X (.Name x pos) (tC (.ty n)) :=
 aIC hg hm hv rfl hn hd
end L2
namespace L2
theorem aI {n:Nat} (h:Nat.ble n 1000 = true):n ≤ PySem.sizeLine:=Nat.le_trans (Nat.le_of_ble_eq_true h) (by decide)
end L2
namespace L2
open PySem PySem.Spec PyProof.Rows
def Ite (K:PySem.W.Frag) (a:Addr):It where
 go:=fun i H=>∃ xs x,SqL K H a xs ∧ xs[i]? = some x
 yld:=fun i H v H'=>∃ p x,H p = none ∧ v = .ref p ∧ H' = upd H p (.tup [.int i,x]) ∧ ∀ ys,SqL K H a ys → ys[i]? = some x
 stop:=fun i H=>∃ xs,SqL K H a xs ∧ xs.length ≤ i
end L2
namespace L2
open PySem PySem.Spec PyProof.Rows
inductive Dv where
 | non | bl (b:Bool) | int (i:Int) | str (x:Str) | lst (ds:List Dv) | tup (ds:List Dv) | dct (ks:List Key) (ds:List Dv)
mutual
def Is (H:Hp):Dv → V → Prop
 | .non,v=>v = .non
 | .bl b,v=>v = .bl b
 | .int i,v=>v = .int i
 | .str x,v=>v = .str x
 | .lst ds,v=>∃ a vs,v = .ref a ∧ H a = some (.lst vs) ∧ IsL H ds vs
 | .tup ds,v=>∃ a vs,v = .ref a ∧ H a = some (.tup vs) ∧ IsL H ds vs
 | .dct ks ds,v=>∃ a vs,v = .ref a ∧ H a = some (.dK (ks.zip vs)) ∧ vs.length = ks.length ∧ IsL H ds vs
def IsL (H:Hp):List Dv → List V → Prop
 | [],vs=>vs = []
 | d :: ds,vs=>∃ v r,vs = v :: r ∧ Is H d v ∧ IsL H ds r
end
def aKV:HO → Bool
 | .lst _=>true
 | .tup _=>true
 | .dK _=>true
 | _=>false
def aCD (H H':Hp):Prop:=∀ b o,H b = some o → aKV o = true → H' b = some o
mutual
theorem Is.sameD {H H':Hp} (S:aCD H H'):∀ (d:Dv) (v:V),Is H d v → Is H' d v
 | .non,_,h=>h
 | .bl _,_,h=>h
 | .int _,_,h=>h
 | .str _,_,h=>h
 | .lst ds,_,⟨a,vs,e,o,h⟩=>⟨a,vs,e,S _ _ o rfl,IsL.sameD S ds vs h⟩
 | .tup ds,_,⟨a,vs,e,o,h⟩=>⟨a,vs,e,S _ _ o rfl,IsL.sameD S ds vs h⟩
 | .dct ks ds,_,⟨a,vs,e,o,l,h⟩=>⟨a,vs,e,S _ _ o rfl,l,IsL.sameD S ds vs h⟩
theorem IsL.sameD {H H':Hp} (S:aCD H H'):∀ (ds:List Dv) (vs:List V),IsL H ds vs → IsL H' ds vs
 | [],_,h=>h
 | d :: ds,_,⟨v,r,e,h,t⟩=>⟨v,r,e,Is.sameD S d v h,IsL.sameD S ds r t⟩
end
theorem Is.same {H H':Hp} (S:aH H H') (d:Dv) (v:V) (h:Is H d v):Is H' d v:=Is.sameD (fun b o e _=>S b o e) d v h
theorem IsL.same {H H':Hp} (S:aH H H') (ds:List Dv) (vs:List V) (h:IsL H ds vs):IsL H' ds vs:=IsL.sameD (fun b o e _=>S b o e) ds vs h
mutual
def oS:Dv → Bool
 | .lst _=>false
 | .dct _ _=>false
 | .tup ds=>pW ds
 | _=>true
def pW:List Dv → Bool
 | []=>true
 | d :: ds=>oS d && pW ds
end
def nG (H H':Hp):Prop:=∀ a xs,H a = some (.tup xs) → H' a = some (.tup xs)
mutual
theorem Is.keep {H H':Hp} (S:nG H H'):∀ (d:Dv) (v:V),oS d = true → Is H d v → Is H' d v
 | .non,_,_,h=>h
 | .bl _,_,_,h=>h
 | .int _,_,_,h=>h
 | .str _,_,_,h=>h
 | .lst ds,_,f,_=>by cases f
 | .tup ds,_,f,⟨a,vs,e,o,h⟩=>⟨a,vs,e,S _ _ o,IsL.keep S ds vs f h⟩
 | .dct ks ds,_,f,_=>by cases f
theorem IsL.keep {H H':Hp} (S:nG H H'):∀ (ds:List Dv) (vs:List V),pW ds = true → IsL H ds vs → IsL H' ds vs
 | [],_,_,h=>h
 | d :: ds,_,f,⟨v,r,e,h,t⟩=>⟨v,r,e,Is.keep S d v (Bool.and_eq_true_iff.mp f).1 h,IsL.keep S ds r (Bool.and_eq_true_iff.mp f).2 t⟩
end
mutual
def deq:Dv → Dv → Bool
 | .non,.non=>true
 | .bl a,.bl b=>a == b
 | .bl a,.int b=>(if a then 1 else 0) == b
 | .int a,.bl b=>a == (if b then 1 else 0)
 | .int a,.int b=>a == b
 | .str a,.str b=>a == b
 | .lst a,.lst b=>uK a b
 | .tup a,.tup b=>uK a b
 | _,_=>false
def uK:List Dv → List Dv → Bool
 | [],[]=>true
 | a :: r,b :: q=>deq a b && uK r q
 | _,_=>false
end
mutual
def aV:Nat → Dv → Bool
 | _,.dct _ _=>false
 | 0,.lst _=>false
 | 0,.tup _=>false
 | n + 1,.lst ds=>cN n ds
 | n + 1,.tup ds=>cN n ds
 | _,_=>true
def cN:Nat → List Dv → Bool
 | _,[]=>true
 | n,d :: ds=>aV n d && cN n ds
end
mutual
theorem mZ:∀ (n:Nat) (d:Dv),aV n d = true → deq d d = true
 | _,.non,_=>rfl
 | _,.bl b,_=>beq_self_eq_true b
 | _,.int i,_=>beq_self_eq_true i
 | _,.str x,_=>beq_self_eq_true x
 | 0,.lst ds,f=>by simp [aV] at f
 | 0,.tup ds,f=>by simp [aV] at f
 | n + 1,.lst ds,f=>qR n ds (by simpa [aV] using f)
 | n + 1,.tup ds,f=>qR n ds (by simpa [aV] using f)
 | n,.dct ks ds,f=>by simp [aV] at f
theorem qR:∀ (n:Nat) (ds:List Dv),cN n ds = true → uK ds ds = true
 | _,[],_=>rfl
 | n,d :: ds,f=>by
  rw [cN,Bool.and_eq_true] at f
  show (deq d d && uK ds ds) = true
  rw [mZ n d f.1,qR n ds f.2];rfl
end
theorem IsL.length {H:Hp}:∀ {ds:List Dv} {vs:List V},IsL H ds vs → vs.length = ds.length
 | [],_,h=>by rw [show _ = [] from h];rfl
 | d :: ds,_,⟨v,r,e,_,t⟩=>by rw [e,List.length_cons,List.length_cons,IsL.length t]
mutual
theorem Is.inj {H:Hp}:∀ (d e:Dv) (v:V),Is H d v → Is H e v → (∃ n,aV n d = true) → (∃ n,aV n e = true) → d = e
 | .non,e,v,h,h',_,_=>by
  cases e <;> simp_all [Is]
 | .bl b,e,v,h,h',_,_=>by
  cases e <;> simp_all [Is]
 | .int b,e,v,h,h',_,_=>by
  cases e <;> simp_all [Is]
 | .str b,e,v,h,h',_,_=>by
  cases e <;> simp_all [Is]
 | .lst ds,e,v,⟨a,vs,q,o,h⟩,h',⟨n,f⟩,⟨m,g⟩=>by
  subst q
  cases e with
  | lst es =>
   obtain ⟨a',vs',q',o',h'⟩:=h'
   cases q'
   rw [o] at o'
   cases o'
   cases n with
   | zero=>simp [aV] at f
   | succ n =>
    cases m with
    | zero=>simp [aV] at g
    | succ m=>rw [IsL.inj ds es vs h h' ⟨n,by simpa [aV] using f⟩ ⟨m,by simpa [aV] using g⟩]
  | tup es =>
   obtain ⟨a',vs',q',o',h'⟩:=h'
   cases q'
   rw [o] at o'
   cases o'
  | dct ks es=>simp [aV] at g
  | _=>simp_all [Is]
 | .tup ds,e,v,⟨a,vs,q,o,h⟩,h',⟨n,f⟩,⟨m,g⟩=>by
  subst q
  cases e with
  | tup es =>
   obtain ⟨a',vs',q',o',h'⟩:=h'
   cases q'
   rw [o] at o'
   cases o'
   cases n with
   | zero=>simp [aV] at f
   | succ n =>
    cases m with
    | zero=>simp [aV] at g
    | succ m=>rw [IsL.inj ds es vs h h' ⟨n,by simpa [aV] using f⟩ ⟨m,by simpa [aV] using g⟩]
  | lst es =>
   obtain ⟨a',vs',q',o',h'⟩:=h'
   cases q'
   rw [o] at o'
   cases o'
  | dct ks es=>simp [aV] at g
  | _=>simp_all [Is]
 | .dct ks ds,e,v,_,h',⟨n,f⟩,_=>by simp [aV] at f
theorem IsL.inj {H:Hp}:∀ (ds es:List Dv) (vs:List V),IsL H ds vs → IsL H es vs → (∃ n,cN n ds = true) → (∃ n,cN n es = true) → ds = es
 | [],es,vs,h,h',_,_=>by
  rw [show vs = [] from h] at h'
  cases es with
  | nil=>rfl
  | cons e es=>obtain ⟨v,r,q,_⟩:=h';cases q
 | d :: ds,es,vs,⟨v,r,q,h,t⟩,h',⟨n,f⟩,⟨m,g⟩=>by
  subst q
  cases es with
  | nil=>cases (show v :: r = [] from h')
  | cons e es =>
   obtain ⟨v',r',q',h',t'⟩:=h'
   cases q'
   rw [cN,Bool.and_eq_true] at f g
   rw [Is.inj d e v h h' ⟨n,f.1⟩ ⟨m,g.1⟩,IsL.inj ds es r t t' ⟨n,f.2⟩ ⟨m,g.2⟩]
end
theorem IsL.get {H:Hp}:∀ {ds:List Dv} {vs:List V} {i:Nat} {d:Dv},IsL H ds vs → ds[i]? = some d → ∃ v,vs[i]? = some v ∧ Is H d v
 | [],_,_,_,_,e=>by simp at e
 | d :: ds,_,0,d',⟨v,r,e,h,t⟩,q=>by
  simp at q
  subst q e
  exact ⟨v,rfl,h⟩
 | d :: ds,_,i + 1,d',⟨v,r,e,h,t⟩,q=>by
  subst e
  obtain ⟨u,h1,h2⟩:=IsL.get (i:=i) t (by simpa using q)
  exact ⟨u,by simpa using h1,h2⟩
theorem oV:∀ (ds es:List Dv),ds.length = es.length → (List.range ds.length).all (fun j=>deq (ds.getD j .non) (es.getD j .non)) = uK ds es
 | [],[],_=>rfl
 | d :: ds,e :: es,h=>by
  have ih:=oV ds es (by simpa using h)
  rw [List.length_cons,List.range_succ_eq_map,List.all_cons,List.all_map]
  show (deq d e && (List.range ds.length).all (fun j=>deq (ds.getD j .non) (es.getD j .non))) = (deq d e && uK ds es)
  rw [ih]
 | [],_ :: _,h=>by simp at h
 | _ :: _,[],h=>by simp at h
theorem tT:∀ (ds es:List Dv),ds.length ≠ es.length → uK ds es = false
 | [],[],h=>absurd rfl h
 | d :: ds,e :: es,h=>by
  show (deq d e && uK ds es) = false
  rw [tT ds es (fun q=>h (by simp [q]))]
  simp
 | [],_ :: _,_=>rfl
 | _ :: _,[],_=>rfl
theorem mY:∀ {n:Nat} {ds:List Dv} {i:Nat} {d:Dv},cN n ds = true → ds[i]? = some d → aV n d = true
 | n,[],_,_,_,e=>by simp at e
 | n,d :: ds,0,d',f,e=>by
  simp at e
  subst e
  rw [cN,Bool.and_eq_true] at f
  exact f.1
 | n,d :: ds,i + 1,d',f,e=>by
  rw [cN,Bool.and_eq_true] at f
  exact mY (i:=i) f.2 (by simpa using e)
theorem IsL.snoc {H:Hp} {d:Dv} {v:V} (h:Is H d v):∀ {ds:List Dv} {vs:List V},IsL H ds vs → IsL H (ds ++ [d]) (vs ++ [v])
 | [],_,e=>by
  rw [show _ = [] from e]
  exact ⟨v,[],rfl,h,rfl⟩
 | d' :: ds,_,⟨v',r,e,h',t⟩=>by
  subst e
  exact ⟨v',r ++ [v],rfl,h',IsL.snoc h t⟩
theorem IsL.take {H:Hp}:∀ (n:Nat) {ds:List Dv} {vs:List V},IsL H ds vs → IsL H (ds.take n) (vs.take n)
 | 0,_,_,_=>rfl
 | n + 1,[],_,e=>by rw [show _ = [] from e];exact rfl
 | n + 1,d :: ds,_,⟨v,r,e,h,t⟩=>by
  subst e
  exact ⟨v,r.take n,rfl,h,IsL.take n t⟩
theorem IsL.strs (H:Hp):∀ zs:List Str,IsL H (zs.map Dv.str) (zs.map V.str)
 | []=>rfl
 | z :: zs=>⟨.str z,zs.map V.str,rfl,rfl,IsL.strs H zs⟩
theorem fE:∀ {ds:List Dv},(∀ d ∈ ds,oS d = true) → pW ds = true
 | [],_=>rfl
 | d :: ds,h=>by
  rw [pW,h d List.mem_cons_self,fE fun e m=>h e (List.mem_cons_of_mem _ m)]
  rfl
theorem nG.lst {H:Hp} {l:Addr} {xs:List V} {o:HO} (h:H l = some (.lst xs)):nG H (upd H l o):=fun a ys e=>by
 have:a ≠ l:=aBQ e h (by intro z;cases z)
 rw [aT this]
 exact e
theorem aH.over {H H':Hp} {l:Addr} {o:HO} (S:aH H H') (hl:H l = none):aH H (L2.upd H' l o):=fun b u e=>by
 rw [aT (aQ e hl)]
 exact S b u e
theorem lL {n:Nat}:∀ {ds:List Dv},(∀ d ∈ ds,aV n d = true) → cN n ds = true
 | [],_=>by rw [cN]
 | d :: ds,h=>by
  rw [cN,h d List.mem_cons_self,lL fun e m=>h e (List.mem_cons_of_mem _ m)]
  rfl
inductive View (s:Shared) (H:Hp):Dv → Value → Prop where
 | non:View s H .non .none
 | bl (b:Bool):View s H (.bl b) (.bool b)
 | int (i:Int) (t:Tok):View s H (.int i) (.int i t)
 | str (x:Str) (t:Tok):View s H (.str x) (.str x t)
 | lst {ds:List Dv} {l:Addr} {its:List Value} {vs:List V} (hl:s.heap.IsList l its.toArray) (r:bH vs its) (h:IsL H ds vs):View s H (.lst ds) (.ref l)
 | tup {ds:List Dv} {l:Addr} {its:List Value} {vs:List V} (hl:s.heap.IsTuple l its.toArray) (r:bH vs its) (h:IsL H ds vs):View s H (.tup ds) (.ref l)
section
variable {X:Cx} {pins:List (Addr × Obj)} {σ:St} {H:Hp} {s:Shared}
theorem Is.view (I:Inv X pins σ H s) {n:Nat} {d:Dv} {v:V} {u:Value} (f:aV n d = true) (h:Is H d v) (r:bF v u):View s H d u:=by
 cases d with
 | non=>cases (show v = .non from h);cases r;exact .non
 | bl b=>cases (show v = .bl b from h);cases r;exact .bl b
 | int b=>cases (show v = .int b from h);obtain ⟨t,rfl⟩:=r;exact .int b t
 | str b=>cases (show v = .str b from h);obtain ⟨t,rfl⟩:=r;exact .str b t
 | lst ds =>
  obtain ⟨a,vs,rfl,o,h⟩:=h
  cases r
  obtain ⟨its,rv,pl,hz⟩:=I.list (SqL.of o)
  exact .lst pl.isList rv h
 | tup ds =>
  obtain ⟨a,vs,rfl,o,h⟩:=h
  cases r
  obtain ⟨its,rv,pl,hz⟩:=I.tuple (SqT.of o)
  exact .tup pl rv h
 | dct ks ds=>simp [aV] at f
open PySem.SeqAt in
theorem lJ {n:Nat} {A:Around} (hu:A.units + n < cLine)
  (ih:∀ (d e:Dv) (v v':V) (u u':Value) (A:Around),A.units + n < cLine → aV n d = true → aV n e = true → Is H d v → Is H e v' → bF v u → bF v' u' → EqAt A s u u' (deq d e))
  {ds es:List Dv} {vs vs':List V} {its its':List Value} (f:cN n ds = true) (g:cN n es = true) (h:IsL H ds vs) (h':IsL H es vs') (r:bH vs its) (r':bH vs' its')
  (j:Nat) (h1:j < its.toArray.size) (h2:j < its'.toArray.size):EqAt A s its.toArray[j] its'.toArray[j] (deq (ds.getD j .non) (es.getD j .non)):=by
 have l1:=r.length
 have l2:=r'.length
 have l3:=h.length
 have l4:=h'.length
 rw [List.size_toArray] at h1 h2
 have e1:ds[j]? = some (ds.getD j .non):=by
  rw [List.getD_eq_getElem?_getD,List.getElem?_eq_getElem (by omega)];rfl
 have e2:es[j]? = some (es.getD j .non):=by
  rw [List.getD_eq_getElem?_getD,List.getElem?_eq_getElem (by omega)];rfl
 obtain ⟨v,q1,i1⟩:=h.get e1
 obtain ⟨v',q2,i2⟩:=h'.get e2
 obtain ⟨u,p1,k1⟩:=r.get q1
 obtain ⟨u',p2,k2⟩:=r'.get q2
 have z1:its.toArray[j] = u:=by
  have:=List.getElem?_eq_some_iff.mp p1
  obtain ⟨_,e⟩:=this
  simpa using e
 have z2:its'.toArray[j] = u':=by
  have:=List.getElem?_eq_some_iff.mp p2
  obtain ⟨_,e⟩:=this
  simpa using e
 rw [z1,z2]
 exact ih _ _ v v' u u' A hu (mY f e1) (mY g e2) i1 i2 k1 k2
open PySem.SeqAt in
theorem aFG (I:Inv X pins σ H s) {n:Nat}
  (ih:∀ (d e:Dv) (v v':V) (u u':Value) (A:Around),A.units + n < cLine → aV n d = true → aV n e = true → Is H d v → Is H e v' → bF v u → bF v' u' → EqAt A s u u' (deq d e))
  (d e:Dv) (v v':V) (u u':Value) (A:Around) (hu:A.units + (n + 1) < cLine) (f:aV (n + 1) d = true) (g:aV (n + 1) e = true) (h:Is H d v) (h':Is H e v') (r:bF v u) (r':bF v' u') :
  RcAt A s u u' (deq d e) ∧ RcNeAt A s u u' (!deq d e):=by
 have hu0:A.units < cLine:=by omega
 have hu1:A.in1.units + n < cLine:=by show A.units + 1 + n < cLine;omega
 have w:=Is.view I f h r
 have w':=Is.view I g h' r'
 cases w with
 | non =>
  cases w' with
  | non=>exact ⟨RcAt.none_none,RcNeAt.none_none⟩
  | bl b=>exact ⟨RcAt.none_bool _,RcNeAt.none_bool _⟩
  | int b t=>exact ⟨RcAt.none_int _ _,RcNeAt.none_int _ _⟩
  | str b t=>exact ⟨RcAt.none_str _ _,RcNeAt.none_str _ _⟩
  | lst hl _ _=>exact ⟨RcAt.none_list hl hu0,RcNeAt.none_list hl hu0⟩
  | tup hl _ _=>exact ⟨RcAt.none_tuple hl hu0,RcNeAt.none_tuple hl hu0⟩
 | bl a =>
  cases w' with
  | non=>exact ⟨RcAt.bool_none _,RcNeAt.bool_none _⟩
  | bl b=>exact ⟨RcAt.bool_bool _ _,RcNeAt.bool_bool _ _⟩
  | int b t=>exact ⟨RcAt.bool_int _ _ _,RcNeAt.bool_int _ _ _⟩
  | str b t=>exact ⟨RcAt.bool_str _ _ _,RcNeAt.bool_str _ _ _⟩
  | lst hl _ _=>exact ⟨RcAt.bool_list _ hl hu0,RcNeAt.bool_list _ hl hu0⟩
  | tup hl _ _=>exact ⟨RcAt.bool_tuple _ hl hu0,RcNeAt.bool_tuple _ hl hu0⟩
 | int a t =>
  cases w' with
  | non=>exact ⟨RcAt.int_none _ _,RcNeAt.int_none _ _⟩
  | bl b=>exact ⟨RcAt.int_bool _ _ _,RcNeAt.int_bool _ _ _⟩
  | int b t=>exact ⟨RcAt.int_int _ _ _ _,RcNeAt.int_int _ _ _ _⟩
  | str b t=>exact ⟨RcAt.int_str _ _ _ _,RcNeAt.int_str _ _ _ _⟩
  | lst hl _ _=>exact ⟨RcAt.int_list _ _ hl hu0,RcNeAt.int_list _ _ hl hu0⟩
  | tup hl _ _=>exact ⟨RcAt.int_tuple _ _ hl hu0,RcNeAt.int_tuple _ _ hl hu0⟩
 | str a t =>
  cases w' with
  | non=>exact ⟨RcAt.str_none _ _,RcNeAt.str_none _ _⟩
  | bl b=>exact ⟨RcAt.str_bool _ _ _,RcNeAt.str_bool _ _ _⟩
  | int b t=>exact ⟨RcAt.str_int _ _ _ _,RcNeAt.str_int _ _ _ _⟩
  | str b t=>exact ⟨RcAt.str_str _ _ _ _,RcNeAt.str_str _ _ _ _⟩
  | lst hl _ _=>exact ⟨RcAt.str_list _ _ hl hu0,RcNeAt.str_list _ _ hl hu0⟩
  | tup hl _ _=>exact ⟨RcAt.str_tuple _ _ hl hu0,RcNeAt.str_tuple _ _ hl hu0⟩
 | @lst ds l its vs hl rv hi =>
  cases w' with
  | non=>exact ⟨RcAt.list_none hl hu0,RcNeAt.list_none hl hu0⟩
  | bl b=>exact ⟨RcAt.list_bool _ hl hu0,RcNeAt.list_bool _ hl hu0⟩
  | int b t=>exact ⟨RcAt.list_int _ _ hl hu0,RcNeAt.list_int _ _ hl hu0⟩
  | str b t=>exact ⟨RcAt.list_str _ _ hl hu0,RcNeAt.list_str _ _ hl hu0⟩
  | @lst es l' its' vs' hl' rv' hi' =>
   have f':cN n ds = true:=by simpa [aV] using f
   have g':cN n es = true:=by simpa [aV] using g
   have l1:=rv.length
   have l2:=rv'.length
   have l3:=hi.length
   have l4:=hi'.length
   by_cases hq:ds.length = es.length
   ·have hsz:its.toArray.size = its'.toArray.size:=by rw [List.size_toArray,List.size_toArray];omega
    have key:(List.range its.toArray.size).all (fun j=>deq (ds.getD j .non) (es.getD j .non)) = deq (.lst ds) (.lst es):=by
     rw [List.size_toArray,show its.length = ds.length by omega]
     exact oV ds es hq
    rw [← key]
    exact ⟨RcAt.lists hl hl' hsz hu0 (lJ hu1 ih f' g' hi hi' rv rv'),RcNeAt.lists hl hl' hsz hu0 (lJ hu1 ih f' g' hi hi' rv rv')⟩
   ·have key:deq (.lst ds) (.lst es) = false:=tT ds es hq
    have hsz:(its.toArray.size != its'.toArray.size) = true:=by
     rw [List.size_toArray,List.size_toArray,bne_iff_ne];omega
    rw [key]
    exact ⟨RcAt.lists_lengths hl hl' hsz hu0,RcNeAt.lists_lengths hl hl' hsz hu0⟩
  | tup hl' _ _=>exact ⟨RcAt.list_tuple hl hl' hu0,RcNeAt.list_tuple hl hl' hu0⟩
 | @tup ds l its vs hl rv hi =>
  cases w' with
  | non=>exact ⟨RcAt.tuple_none hl hu0,RcNeAt.tuple_none hl hu0⟩
  | bl b=>exact ⟨RcAt.tuple_bool _ hl hu0,RcNeAt.tuple_bool _ hl hu0⟩
  | int b t=>exact ⟨RcAt.tuple_int _ _ hl hu0,RcNeAt.tuple_int _ _ hl hu0⟩
  | str b t=>exact ⟨RcAt.tuple_str _ _ hl hu0,RcNeAt.tuple_str _ _ hl hu0⟩
  | lst hl' _ _=>exact ⟨RcAt.tuple_list hl hl' hu0,RcNeAt.tuple_list hl hl' hu0⟩
  | @tup es l' its' vs' hl' rv' hi' =>
   have f':cN n ds = true:=by simpa [aV] using f
   have g':cN n es = true:=by simpa [aV] using g
   have l1:=rv.length
   have l2:=rv'.length
   have l3:=hi.length
   have l4:=hi'.length
   have key:((List.range (min its.toArray.size its'.toArray.size)).all (fun j=>deq (ds.getD j .non) (es.getD j .non)) && its.toArray.size == its'.toArray.size) = deq (.tup ds) (.tup es):=by
    rw [List.size_toArray,List.size_toArray,show its.length = ds.length by omega,show its'.length = es.length by omega]
    show _ = uK ds es
    by_cases hq:ds.length = es.length
    ·rw [← hq,Nat.min_self,oV ds es hq]
     simp
    ·rw [tT ds es hq,beq_eq_false_iff_ne.mpr hq]
     simp
   rw [← key]
   exact ⟨RcAt.tuples hl hl' hu0 (lJ hu1 ih f' g' hi hi' rv rv'),RcNeAt.tuples hl hl' hu0 (lJ hu1 ih f' g' hi hi' rv rv')⟩
open PySem.SeqAt in
theorem Is.eqAt (I:Inv X pins σ H s):∀ (n:Nat) (d e:Dv) (v v':V) (u u':Value) (A:Around),A.units + n < cLine → aV n d = true → aV n e = true → Is H d v → Is H e v' → bF v u → bF v' u' → EqAt A s u u' (deq d e):=by
 intro n
 induction n with
 | zero =>
  intro d e v v' u u' A hu f g h h' r r'
  cases d with
  | lst _=>simp [aV] at f
  | tup _=>simp [aV] at f
  | dct _ _=>simp [aV] at f
  | non =>
   cases e with
   | lst _=>simp [aV] at g
   | tup _=>simp [aV] at g
   | dct _ _=>simp [aV] at g
   | _=>cases h;cases h';exact lM r r' rfl rfl
  | bl b =>
   cases e with
   | lst _=>simp [aV] at g
   | tup _=>simp [aV] at g
   | dct _ _=>simp [aV] at g
   | _=>cases h;cases h';exact lM r r' rfl rfl
  | int b =>
   cases e with
   | lst _=>simp [aV] at g
   | tup _=>simp [aV] at g
   | dct _ _=>simp [aV] at g
   | _=>cases h;cases h';exact lM r r' rfl rfl
  | str b =>
   cases e with
   | lst _=>simp [aV] at g
   | tup _=>simp [aV] at g
   | dct _ _=>simp [aV] at g
   | _=>cases h;cases h';exact lM r r' rfl rfl
 | succ n ih =>
  intro d e v v' u u' A hu f g h h' r r'
  have rc:=(aFG I ih d e v v' u u' A hu f g h h' r r').1
  have w:=Is.view I f h r
  have w':=Is.view I g h' r'
  have fin:∀ (l l':Addr),u = .ref l → u' = .ref l' → EqAt A s u u' (deq d e):=by
   rintro l l' rfl rfl
   by_cases hq:l = l'
   ·subst hq
    have e1:v = .ref l:=r.inj (show bF (.ref l) (.ref l) from rfl)
    have e2:v' = .ref l:=r'.inj (show bF (.ref l) (.ref l) from rfl)
    subst e1 e2
    have e3:=Is.inj d e _ h h' ⟨_,f⟩ ⟨_,g⟩
    subst e3
    rw [mZ _ d f]
    exact EqAt.same _
   ·exact EqAt.of_refs hq rc
  cases w with
  | lst hl _ _ =>
   cases w' with
   | lst hl' _ _=>exact fin _ _ rfl rfl
   | tup hl' _ _=>exact fin _ _ rfl rfl
   | non=>exact EqAt.list_none hl (by omega)
   | bl b=>exact EqAt.list_bool _ hl (by omega)
   | int b t=>exact EqAt.list_int _ _ hl (by omega)
   | str b t=>exact EqAt.list_str _ _ hl (by omega)
  | tup hl _ _ =>
   cases w' with
   | lst hl' _ _=>exact fin _ _ rfl rfl
   | tup hl' _ _=>exact fin _ _ rfl rfl
   | non=>exact EqAt.tuple_none hl (by omega)
   | bl b=>exact EqAt.tuple_bool _ hl (by omega)
   | int b t=>exact EqAt.tuple_int _ _ hl (by omega)
   | str b t=>exact EqAt.tuple_str _ _ hl (by omega)
  | non =>
   cases w' with
   | lst hl' _ _=>exact EqAt.none_list hl' (by omega)
   | tup hl' _ _=>exact EqAt.none_tuple hl' (by omega)
   | _=>cases h;cases h';exact lM r r' rfl rfl
  | bl b =>
   cases w' with
   | lst hl' _ _=>exact EqAt.bool_list _ hl' (by omega)
   | tup hl' _ _=>exact EqAt.bool_tuple _ hl' (by omega)
   | _=>cases h;cases h';exact lM r r' rfl rfl
  | int b t =>
   cases w' with
   | lst hl' _ _=>exact EqAt.int_list _ _ hl' (by omega)
   | tup hl' _ _=>exact EqAt.int_tuple _ _ hl' (by omega)
   | _=>cases h;cases h';exact lM r r' rfl rfl
  | str b t =>
   cases w' with
   | lst hl' _ _=>exact EqAt.str_list _ _ hl' (by omega)
   | tup hl' _ _=>exact EqAt.str_tuple _ _ hl' (by omega)
   | _=>cases h;cases h';exact lM r r' rfl rfl
end
def aHT (neg:Bool):R2:=fun x y H Q=>∃ d e,Is H d x ∧ Is H e y ∧ aV 30 d = true ∧ aV 30 e = true ∧ Q (.bl (if neg then !deq d e else deq d e)) H
theorem zP {X:Cx} (hu:X.A.units + 64 < cLine):OpR X (compareOp .Eq) (aHT false):=by
 intro pins s σ H x y v u Q I rx ry h
 obtain ⟨d,e,h,h',f,g,q⟩:=h
 exact (aFG (n:=29) I (Is.eqAt I 29) d e x y v u X.A (by omega) f g h h' rx ry).1 _ _ _ _ ⟨.bl _,H,I,rfl,q⟩
theorem zO {X:Cx} (hu:X.A.units + 64 < cLine):OpR X (compareOp .NotEq) (aHT true):=by
 intro pins s σ H x y v u Q I rx ry h
 obtain ⟨d,e,h,h',f,g,q⟩:=h
 exact (aFG (n:=29) I (Is.eqAt I 29) d e x y v u X.A (by omega) f g h h' rx ry).2 _ _ _ _ ⟨.bl _,H,I,rfl,q⟩
end L2
namespace L2
open PySem PySem.Spec PyProof.Rows
instance keyMem (k:Key) (l:List Key):Decidable (k ∈ l):=decidable_of_iff (l.any (fun x=>decide (x = k)) = true) (by simp)
def eL (key:Nat → Key):Nat → List Key
 | 0=>[]
 | i + 1=>if key i ∈ eL key i then eL key i else eL key i ++ [key i]
theorem rP (key:Nat → Key):∀ i,(eL key i).length ≤ i
 | 0=>Nat.le_refl _
 | i + 1=>by
  have ih:=rP key i
  show (if key i ∈ eL key i then eL key i else eL key i ++ [key i]).length ≤ i + 1
  split
  ·omega
  ·rw [List.length_append,List.length_singleton];omega
theorem yK (key:Nat → Key) (k:Key):∀ i,k ∈ eL key i ↔ ∃ j,j < i ∧ key j = k
 | 0=>by
  constructor
  ·intro h;cases h
  ·rintro ⟨j,h,_⟩;omega
 | i + 1=>by
  have ih:=yK key k i
  show k ∈ (if key i ∈ eL key i then eL key i else eL key i ++ [key i]) ↔ _
  have step:(k ∈ eL key i ∨ k = key i) ↔ ∃ j,j < i + 1 ∧ key j = k:=by
   rw [ih]
   constructor
   ·rintro (⟨j,h,e⟩ | e)
    ·exact ⟨j,by omega,e⟩
    ·exact ⟨i,by omega,e.symm⟩
   ·rintro ⟨j,h,e⟩
    by_cases hj:j = i
    ·subst hj;exact .inr e.symm
    ·exact .inl ⟨j,by omega,e⟩
  rw [← step]
  split
  ·rename_i h
   constructor
   ·exact .inl
   ·rintro (h' | rfl)
    ·exact h'
    ·exact h
  ·rw [List.mem_append,List.mem_singleton]
theorem uX (key:Nat → Key):∀ n,(eL key n).length = n ↔ ∀ i j,i < j → j < n → key i ≠ key j
 | 0=>⟨fun _ i j _ h=>absurd h (Nat.not_lt_zero _),fun _=>rfl⟩
 | n + 1=>by
  have ih:=uX key n
  have le:=rP key n
  have mm:=yK key (key n) n
  show (if key n ∈ eL key n then eL key n else eL key n ++ [key n]).length = n + 1 ↔ _
  split
  ·rename_i h
   constructor
   ·intro e;omega
   ·intro e
    obtain ⟨j,hj,q⟩:=mm.mp h
    exact absurd q (e j n hj (Nat.lt_succ_self n))
  ·rename_i h
   rw [List.length_append,List.length_singleton,Nat.add_right_cancel_iff,ih]
   constructor
   ·intro e i j hi hj
    by_cases q:j = n
    ·subst q
     exact fun z=>h (mm.mpr ⟨i,hi,z⟩)
    ·exact e i j hi (by omega)
   ·intro e i j hi hj
    exact e i j hi (by omega)
def uL (ks:List Key):List Key:=eL (fun i=>ks.getD i (.inl 0)) ks.length
theorem aDQ (ks:List Key):(uL ks).length = ks.length ↔ ks.Nodup:=by
 unfold uL
 rw [uX,List.nodup_iff_pairwise_ne,List.pairwise_iff_getElem]
 constructor
 ·intro h i j hi hj hij
  have:=h i j hij hj
  simpa [List.getD_eq_getElem?_getD,hi,hj] using this
 ·intro h i j hij hj
  have hi:i < ks.length:=by omega
  have:=h i j hi hj hij
  simpa [List.getD_eq_getElem?_getD,hi,hj] using this
theorem aIR (ks:List Key):(uL ks).length ≤ ks.length:=rP _ _
def aEC (P:Program) (w:World) (a:Addr) (S:Key → Bool) (n:Nat):HO:=.ext fun h=>h.SetOf (aZ P w) a S n
theorem aEC.ok {P:Program} {w:World} {H:Hp} {h:Heap} {a:Addr} {S:Key → Bool} {n:Nat} (x:h.SetOf (aZ P w) a S n):cM P w H h a (aEC P w a S n) :=
 ⟨x,let ⟨o,_,_,_,ho,_⟩:=x;⟨o,ho⟩,fun _ _ ⟨o,es,ep,t,ho,r⟩ k=>⟨o,es,ep,t,k o ho,r⟩⟩
theorem aFZ {P:Program} {w:World} {k:Key} {v:Value} (h:(aZ P w).is k v = true):v.scannable = true:=by
 rcases cY h with ⟨i,t,rfl,rfl⟩ | ⟨x,t,rfl,rfl⟩ <;> rfl
section
variable {P:Program} {w:World} {A:Around} {R:Result → Shared → Prop} {I:Addr} {fp wr:List Addr} {G:Array GenState → Array GenState → Prop} {n:Nat} {Pv:Nat → Value → Prop} {Stt:Nat → Shared → Prop}
theorem zI {h:Heap} {a:Addr} {S S':Key → Bool} {n n':Nat} (x:h.SetOf (aZ P w) a S n) (e:∀ k,S k = S' k) (q:n = n'):h.SetOf (aZ P w) a S' n':=by
 obtain rfl:S = S':=funext e
 subst q
 exact x
theorem aFC (W:WalksS P w A.in1 I fp wr G n Pv Stt) (D:Addr) (hD:D ∉ fp) (key:Nat → Key) (hv:∀ i v,Pv i v → (aZ P w).is (key i) v = true) (hb:n + 1 < scanBound) (fin:∀ s s',Moved (D :: wr) G s s' → s'.heap.SetOf (aZ P w) D (fun k=>decide (k ∈ eL key n)) (eL key n).length → True) :
  ∀ (m i:Nat) (s:Shared),n - i = m → i ≤ n → Stt i s → s.heap.SetOf (aZ P w) D (fun k=>decide (k ∈ eL key i)) (eL key i).length →
   (∀ s',Moved (D :: wr) G s s' → s'.heap.SetOf (aZ P w) D (fun k=>decide (k ∈ eL key n)) (eL key n).length → R (.ok (.ret .none)) s') →
   codeAny (model P w) A (.builtin "set.update.loop" ⟨[.ref D,.ref I],[]⟩) R s:=by
 have hDw:D ∉ wr:=fun z=>hD (W.sub _ z)
 have sub:∀ b ∈ wr,b ∈ D :: wr:=fun b z=>List.mem_cons_of_mem _ z
 have moved:∀ {s s':Shared} {S:Key → Bool} {c:Nat},Moved wr G s s' → s.heap.SetOf (aZ P w) D S c → s'.heap.SetOf (aZ P w) D S c:=fun mv ⟨o,es,ep,t,ho,r⟩=>⟨o,es,ep,t,mv.heap D _ hDw ho,r⟩
 intro m
 induction m with
 | zero =>
  intro i s e1 e2 st hS hR
  obtain rfl:i = n:=by omega
  refine codeAny_builtin PyProof.Rows.F.entry_set_update_loop ?_
  rw [Around.under_plainId PyProof.Rows.F.plain_set_update_loop _]
  show wpAny _ A.in1 (pyNext (.ref I) >>= _) _ _ s
  refine wpAny_bind (W.done s _ _ st fun s' mv=>?_)
  exact wpAny_pure (hR s' (mv.mono sub) (moved mv hS))
 | succ m ih =>
  intro i s e1 e2 st hS hR
  have lt:i < n:=by omega
  refine codeAny_builtin PyProof.Rows.F.entry_set_update_loop ?_
  rw [Around.under_plainId PyProof.Rows.F.plain_set_update_loop _]
  show wpAny _ A.in1 (pyNext (.ref I) >>= _) _ _ s
  refine wpAny_bind (W.item i s _ _ lt st fun v s' pv st' mv=>?_)
  have hk:=hv i v pv
  have hS1:=moved mv hS
  show wpAny _ A.in1 (holding [v] (setAdd D v) >>= _) _ _ s'
  refine wpAny_bind (wpAny_holding ?_)
  unfold setAdd
  refine wpAny_holding (wpAny_bind ((aZ P w).pyHash (k:=key i) hk ?_))
  have room:(eL key i).length + 1 < scanBound:=by have:=rP key i;omega
  refine wpAny_setAddHashed_of (knd:=aZ P w) (s:={ s' with toks:=s'.toks + 1 }) hk (aFZ hk) hS1 room fun h' sb hS2=>?_
  have hS3:h'.SetOf (aZ P w) D (fun k=>decide (k ∈ eL key (i + 1))) (eL key (i + 1)).length:=by
   refine zI hS2 (fun k=>?_) ?_
   ·show (decide (k ∈ eL key i) || decide (k = key i)) = decide (k ∈ if key i ∈ eL key i then eL key i else eL key i ++ [key i])
    by_cases z:key i ∈ eL key i
    ·rw [if_pos z]
     by_cases y:k = key i
     ·subst y;simp [z]
     ·simp [y]
    ·rw [if_neg z]
     simp
   ·show (if decide (key i ∈ eL key i) = true then (eL key i).length else (eL key i).length + 1) = (if key i ∈ eL key i then eL key i else eL key i ++ [key i]).length
    by_cases z:key i ∈ eL key i
    ·rw [if_pos z,if_pos (decide_eq_true z)]
    ·rw [if_neg z,if_neg (by simpa using z)]
     simp
  refine wpAny_pure ⟨plainId_quiet PyProof.Rows.F.plain_set_update_loop _,ih (i + 1) _ (by omega) lt (W.frame _ s' _ _ st' (Nat.le_succ _) fun b hb o e=>?_) hS3 fun s2 mv2 hS4=>?_⟩
  ·rw [sb.2 b (fun z:b = D=>hD (by rw [← z];exact hb))]
   exact e
  ·refine hR s2 (Moved.trans W.gtrans ((mv.mono sub).then_heap (Nat.le_succ _) fun b o hb e=>?_) mv2) hS4
   rw [sb.2 b (fun z:b = D=>hb (by rw [z];exact List.mem_cons_self))]
   exact e
end
section
variable {P:Program} {w:World} {A:Around} {E:Value → Shared → Prop} {s:Shared}
abbrev tF (led:Bool):Obj:={ cls:=.type "set",dict:=none,data:=.set #[] 0 (.fresh 0 0 led) }
set_option maxHeartbeats 8000000 in
theorem xQ {l:Addr} {its:List Value} {ks:List Key} {Q:Value → Shared → Prop} (hh:A.handled = none) (hl:s.heap.IsList l its.toArray) (hk:∀ i v,its[i]? = some v → (aZ P w).is (ks.getD i (.inl 0)) v = true) (hn:its.length = ks.length) (hb:its.length + 1 < scanBound)
  (h:∀ (h':Heap) (tk:Nat),h'.SetOf (aZ P w) s.heap.objs.size (fun k=>decide (k ∈ uL ks)) (uL ks).length → (∀ b o,s.heap.get? b = some o → h'.get? b = some o) → Q (.ref s.heap.objs.size) { s with heap:=h',toks:=tk }) :
  wpAny (model P w) A (call (.type "set") [.ref l]) Q E s:=by
 obtain ⟨c,tl,hmro⟩:=PySem.F.called_set.mro
 have m1:=PySem.F.called_set.made
 have m2:=PySem.F.called_set.sub
 refine wpAny_call (codeAny_of_tree ?_)
 show wpAny _ _ (callAny (.type "set") _) _ _ _
 refine wpAny_pure ⟨Code.quiet_builtin _ (by decide +kernel),codeAny_builtin PySem.F.entry_type_call ?_⟩
 rw [Around.under_plain (weight_type_call_type "set" [.ref l] []) rfl]
 have m3:=PySem.F.called_set.notType
 have m4:=PySem.F.called_set.canCreate
 have m5:=PySem.F.typeCall_set_1 (.ref l)
 repeat (any_goals (first | assumption | wp_step))
 refine codeAny_mono (code_set_new_1 (.ref l) (E:=E) (Q₁:=fun ob s1=>∃ led:Bool,ob = .ref s.heap.objs.size ∧ s1 = { s with heap:=s.heap.push (tF led) }) fun led=>⟨led,rfl,rfl⟩) fun r s1 hr=>?_
 cases r with
 | error e=>exact hr
 | ok fl =>
  cases fl with
  | ret ob =>
   obtain ⟨led,rfl,rfl⟩:=hr
   have hS:(s.heap.push (tF led)).get? s.heap.objs.size = some (tF led):=Heap.get?_push_size _ rfl
   have hT:Shared.TypeIs { s with heap:=s.heap.push (tF led) } (.ref s.heap.objs.size) "set":=⟨_,hS,rfl⟩
   have m6:=PySem.F.called_set.init.lookup
   have m7:=PySem.F.called_set.init.bind (.ref s.heap.objs.size)
   repeat (any_goals (first | assumption | wp_step))
   refine codeAny_mono (codeAny_call_builtin (R:=wants (fun r s2=>r = .none ∧ ∃ h' tk,s2 = { s with heap:=h',toks:=tk } ∧ h'.SetOf (aZ P w) s.heap.objs.size (fun k=>decide (k ∈ uL ks)) (uL ks).length ∧ (∀ b o,s.heap.get? b = some o → h'.get? b = some o)) E)
    PySem.F.called_set.init.plain PySem.F.entry_set_init (check_set_init_1 hT ?_)) fun r2 s2 hr2=>?_
   ·obtain ⟨⟨oc,od,oda,osl⟩,hol,hcl,nl,hdl⟩:=hl
    simp only at hcl hdl
    subst hcl hdl
    have hol1:(s.heap.push (tF led)).get? l = some { cls:=.type "list",dict:=od,data:=.seq its.toArray nl,slots:=osl }:=Heap.get?_push_of_some _ hol
    have m8:=PySem.F.sub_list_set
    have m9:=PySem.F.sub_list_frozenset
    have m10:(Value.type "list" == Value.type "dict") = false:=by decide
    have hl1:(s.heap.push (tF led)).IsList l its.toArray:=⟨_,hol1,rfl,nl,rfl⟩
    have lS:l < s.heap.objs.size:=Heap.lt_size hol
    unfold Builtin.«set.__init__» noKeywords Builtin.Frozenset.updateFrom
    generalize hPI:pyIter = PI
    wp_walk
    subst hPI
    refine wpAny_pyIter_list hl1 (wpAny_bind (wpAny_runValue ?_))
    have hh3:A.in1.in1.in1.handled = none:=by simp [hh]
    have nI:l ≠ (s.heap.push (tF led)).objs.size:=by rw [Heap.size_push];exact Nat.ne_of_lt (Nat.lt_succ_of_lt lS)
    have nS:s.heap.objs.size ∉ [(s.heap.push (tF led)).objs.size,l]:=by
     rw [Heap.size_push]
     simp only [List.mem_cons,List.mem_singleton,List.not_mem_nil,or_false,not_or]
     exact ⟨Nat.ne_of_lt (Nat.lt_succ_self _),Nat.ne_of_gt lS⟩
    have sz:its.toArray.size = ks.length:=by rw [List.size_toArray,hn]
    refine aFC ((Walks.list hh3 _ l nI its.toArray).toS) s.heap.objs.size nS (fun i=>ks.getD i (.inl 0)) (fun i v pv=>hk i v (by simpa using pv)) (by rw [List.size_toArray];exact hb) (fun _ _ _ _=>trivial) (its.toArray.size - 0) 0 _ (by omega) (Nat.zero_le _)
     ⟨⟨_,Heap.get?_push_size _ rfl,rfl,rfl⟩,(hl1.push _)⟩ ?_ ?_
    ·have g:((s.heap.push (tF led)).push { cls:=.type "list_iterator",data:=.fields #[.ref l,.int 0 0] }).get? s.heap.objs.size = some (tF led):=Heap.get?_push_of_some _ hS
     exact ⟨_,#[],0,_,g,⟨rfl,rfl,rfl⟩,rfl,fun e he=>by simp at he,fun k=>by simp [eL],by decide,by rfl,rfl⟩
    ·intro s3 mv hS3
     obtain ⟨h3,g3,d3,t3,o3⟩:=s3
     have e1:g3 = s.gens:=mv.gens
     have e2:d3 = s.drawn:=mv.drawn
     have e3:o3 = s.os:=mv.os
     subst e1 e2 e3
     rw [sz] at hS3
     show wpAny _ _ _ _ _ _
     refine wpAny_pure ?_
     show wpAny _ _ (ret Value.none) _ _ _
     refine wpAny_pure ⟨rfl,h3,t3,rfl,hS3,fun b o e=>?_⟩
     have lb:=Heap.lt_size e
     have b1:b ≠ s.heap.objs.size:=Nat.ne_of_lt lb
     have b2:b ≠ (s.heap.push (tF led)).objs.size:=by rw [Heap.size_push];exact Nat.ne_of_lt (Nat.lt_succ_of_lt lb)
     exact mv.heap b o (by simp only [List.mem_cons,List.mem_singleton,List.not_mem_nil,or_false,not_or];exact ⟨b1,b2⟩) (Heap.get?_push_of_some _ (Heap.get?_push_of_some _ e))
   ·cases r2 with
    | error e=>exact hr2
    | ok f2 =>
     cases f2 with
     | ret r =>
      obtain ⟨rfl,h',tk,rfl,hS2,hk2⟩:=hr2
      repeat (any_goals (first | assumption | wp_step))
      exact h _ _ hS2 hk2
     | _=>exact hr2.elim
  | _=>exact hr.elim
end
section
variable {X:Cx}
theorem aBR {P:Program} {w:World}:∀ {ks:List Key} {us:List Value},bH (ks.map kV) us → ∀ i v,us[i]? = some v → (aZ P w).is (ks.getD i (.inl 0)) v = true
 | [],us,r,i,v,e=>by
  rw [List.map_nil] at r
  cases r
  simp at e
 | k :: ks,us,r,i,v,e=>by
  rw [List.map_cons] at r
  cases r with
  | cons r1 r2 =>
   cases i with
   | zero =>
    simp at e
    subst e
    cases k with
    | inl z=>obtain ⟨t,rfl⟩:=r1;exact qN z t
    | inr z=>obtain ⟨t,rfl⟩:=r1;exact qM z t
   | succ i =>
    have:=aBR (P:=P) (w:=w) r2 i v (by simpa using e)
    simpa using this
theorem uM (hc:X.calm = true):gH X (.type "set") (fun xs H Q=>∃ (p:Addr) (ks:List Key),xs = [.ref p] ∧ SqL X.K H p (ks.map kV) ∧ ks.length ≤ 1000 ∧
  ∀ l,H l = none → Q (.ref l) (upd H l (aEC X.prog X.w l (fun k=>decide (k ∈ uL ks)) (uL ks).length))):=by
 intro pins s σ H xs us Q I r h
 obtain ⟨p,ks,rfl,hq,hn,q⟩:=h
 obtain ⟨u,rfl,ru⟩:=bH.one r
 cases ru
 obtain ⟨its,rv,pl,hz⟩:=I.list hq
 have hlen:=rv.length
 rw [List.length_map] at hlen
 refine xQ (ks:=ks) (I.ok.hd hc) pl.isList (aBR rv) hlen.symm (by unfold scanBound;omega) fun h' tk hS hk=>?_
 exact ⟨.ref s.heap.objs.size,_,I.laid (t':=tk) hk (Nat.le_refl _) (aEC.ok hS),rfl,q _ (I.hok.fresh (Nat.le_refl _))⟩
theorem call_len_set:gH X (.builtin "len") (fun xs H Q=>∃ l S n,xs = [.ref l] ∧ H l = some (aEC X.prog X.w l S n) ∧ n ≤ 1000 ∧ Q (.int n) H):=by
 intro pins s σ H xs us Q I r h
 obtain ⟨l,S,n,rfl,e,hn,q⟩:=h
 obtain ⟨u,rfl,ru⟩:=bH.one r
 cases ru
 obtain ⟨⟨o,es,ep,t,ho,hex,hd,hel,hmem,hb,hf,hes⟩,_⟩:=I.hok l _ e
 refine PySem.call_len_set ho hex hd hf (by rw [hes];omega) ⟨.int n,H,I.tok _,⟨s.toks + 1,by rw [hes]⟩,q⟩
end
end L2
namespace L2
open PySem PySem.Spec PyProof.Rows
section
variable {X:Cx}
theorem uY {k:Key} {v:Value} (h:tJ k v = true):bF (kV k) v:=by
 rcases cY h with ⟨i,t,rfl,rfl⟩ | ⟨x,t,rfl,rfl⟩
 ·exact ⟨t,rfl⟩
 ·exact ⟨t,rfl⟩
theorem vN:∀ {xs:List V} {us:List Value},us.length = xs.length → (∀ (j:Nat) (u:Value) (x:V),us[j]? = some u → xs[j]? = some x → bF x u) → bH xs us
 | [],[],_,_=>.nil
 | x :: xs,u :: us,hl,h=>.cons (h 0 u x rfl rfl) (vN (by simpa using hl) fun j v y e1 e2=>h (j + 1) v y (by simpa using e1) (by simpa using e2))
 | [],_ :: _,hl,_=>by simp at hl
 | _ :: _,[],hl,_=>by simp at hl
theorem KV.get:∀ {kvs:List (Key × V)} {vs:List (Key × Value)} {i:Nat} {p:Key × Value},KV kvs vs → vs[i]? = some p → ∃ q,kvs[i]? = some q ∧ q.1 = p.1 ∧ bF q.2 p.2
 | _,_,_,_,.nil,e=>by simp at e
 | _,_,0,_,.cons r _,e=>by simp at e;subst e;exact ⟨_,rfl,r.1,r.2⟩
 | _,_,i + 1,p,.cons _ t,e=>by
  obtain ⟨q,h1,h2⟩:=KV.get (i:=i) (p:=p) t (by simpa using e)
  exact ⟨q,by simpa using h1,h2⟩
theorem tY (hc:X.calm = true):gH X (.type "list") (fun xs H Q=>∃ p kvs,xs = [.ref p] ∧ Rd H p (.dK kvs) ∧ ∀ l,H l = none → Q (.ref l) (upd H l (.lst (kvs.map fun kv=>kV kv.1)))):=by
 intro pins s σ H xs us Q I r h
 obtain ⟨p,kvs,rfl,hq,q⟩:=h
 obtain ⟨u,rfl,ru⟩:=bH.one r
 cases ru
 obtain ⟨hz,lo,vs,kv,hD⟩:=hq.ok I.hok
 obtain ⟨ep,hat⟩:=hD.dictAt
 have hl:=KV.length kv
 refine PySem.W.kdl_call (PySem.W.kdl_dict (knd:=aZ X.prog X.w) (kvs:=vs) (ep:=ep) lo) (I.ok.hd hc) hat (by omega) fun h' tk acc c hk hg hi=>?_
 refine ⟨.ref s.heap.objs.size,_,I.laid (t':=tk) hk (Nat.le_refl _) (show cM X.prog X.w _ h' _ (.lst (kvs.map fun kv=>kV kv.1)) from ⟨by rw [List.length_map];exact hz,acc.toList,c,?_,by simpa using hg⟩),rfl,q _ (I.hok.fresh (Nat.le_refl _))⟩
 refine vN (by rw [List.length_map,Array.length_toList,hi.1,hl]) fun j u x e1 e2=>?_
 obtain ⟨k,y,e3,e4⟩:=hi.2 j u (by rw [← Array.getElem?_toList];exact e1)
 obtain ⟨z,e5,e6,_⟩:=KV.get kv e3
 rw [List.getElem?_map,e5] at e2
 have e2':kV z.1 = x:=by simpa using e2
 subst e2'
 rw [show z.1 = k from e6]
 exact uY e4
def zB (v d:Addr):HO:=.ext fun h=>h.IsValuesView v d
theorem zB.ok {P:Program} {w:World} {H:Hp} {h:Heap} {v d:Addr} (x:h.IsValuesView v d):cM P w H h v (zB v d) :=
 ⟨x,let ⟨o,ho,_⟩:=x;⟨o,ho⟩,fun _ _ ⟨o,ho,r⟩ k=>⟨o,k o ho,r⟩⟩
theorem aCY:MtR X "dict.values" (fun x vs H Q=>∃ d kvs,x = .ref d ∧ vs = [] ∧ Rd H d (.dK kvs) ∧ ∀ v,H v = none → Q (.ref v) (upd H v (zB v d))):=by
 intro pins s σ H x vs v us Q I rx rv h
 obtain ⟨d,kvs,rfl,rfl,hq,q⟩:=h
 cases rx
 have hus:=rv.zero
 subst hus
 obtain ⟨hz,lo,ws,kv,hD⟩:=hq.ok I.hok
 refine call_meetsIn PySem.F.slot_dict_values hD.typeIs PySem.F.entry_dict_values (PySem.F.args_dict_values_1 _) (meets_dict_values (aZ X.prog X.w) d lo) ⟨⟨ws,hD⟩,?_⟩
 exact ⟨.ref s.heap.objs.size,_,I.laid (t':=s.toks) (fun b ob e=>Heap.get?_push_of_some _ e) (Nat.le_refl _) (zB.ok ⟨_,Heap.get?_push_size _ rfl,rfl,rfl⟩),rfl,q _ (I.hok.fresh (Nat.le_refl _))⟩
theorem qS (hc:X.calm = true):gH X (.type "list") (fun xs H Q=>∃ v d kvs,xs = [.ref v] ∧ H v = some (zB v d) ∧ Rd H d (.dK kvs) ∧ ∀ l,H l = none → Q (.ref l) (upd H l (.lst (kvs.map (·.2))))):=by
 intro pins s σ H xs us Q I r h
 obtain ⟨v,d,kvs,rfl,ev,hq,q⟩:=h
 obtain ⟨u,rfl,ru⟩:=bH.one r
 cases ru
 obtain ⟨hz,lo,vs,kv,hD⟩:=hq.ok I.hok
 obtain ⟨hv,_⟩:=I.hok v _ ev
 obtain ⟨ep,hat⟩:=hD.dictAt
 have hl:=KV.length kv
 refine PySem.W.kdl_call (PySem.W.kdl_values (knd:=aZ X.prog X.w) (kvs:=vs) (ep:=ep)) (I.ok.hd hc) ⟨hv,hat⟩ (by omega) fun h' tk acc c hk hg hi=>?_
 refine ⟨.ref s.heap.objs.size,_,I.laid (t':=tk) hk (Nat.le_refl _) (show cM X.prog X.w _ h' _ (.lst (kvs.map (·.2))) from ⟨by rw [List.length_map];exact hz,acc.toList,c,?_,by simpa using hg⟩),rfl,q _ (I.hok.fresh (Nat.le_refl _))⟩
 refine vN (by rw [List.length_map,Array.length_toList,hi.1,hl]) fun j u x e1 e2=>?_
 obtain ⟨k,e3⟩:=hi.2 j u (by rw [← Array.getElem?_toList];exact e1)
 obtain ⟨z,e5,_,e6⟩:=KV.get kv e3
 rw [List.getElem?_map,e5] at e2
 have e2':z.2 = x:=by simpa using e2
 subst e2'
 exact e6
end
section
variable {X:Cx} {e se:Expr} {te ts:TE} {p2 pos:Pos}
end
end L2
namespace L2
open PySem PySem.Spec PyProof.Rows
theorem tH:typeLookup (.type "list") "keys" = pure none:=by rw [typeLookup_type,builtinLookup_eq_fast];kernel_rfl
section
variable {P:Program} {w:World} {A:Around} {E:Value → Shared → Prop} {s:Shared}
theorem wH {a:Addr} {xs:Array Value} {k:Nat} {sl:Array (Option Value)} {Q:Option Value → Shared → Prop} (hA:A.handled = none) (hx:s.heap.get? a = some { cls:=.type "list",dict:=none,data:=.seq xs k,slots:=sl })
  (h:∀ h' tk,(∀ b o,s.heap.get? b = some o → h'.get? b = some o) → Q none { s with heap:=h',toks:=tk }):wpAny (model P w) A (getAttr? (.ref a) "keys") Q E s:=by
 obtain ⟨hp,g,d,tk,os⟩:=s
 have hT:∀ tk',(⟨hp,g,d,tk',os⟩:Shared).TypeIs (.ref a) "list":=fun _=>⟨_,hx,rfl⟩
 have f1:=sub_AttributeError
 have f3:=F.slot_list_getattribute.lookup
 have f4:=F.slot_list_getattribute.bind (.ref a)
 have f5:=am_list_getattr_none
 unfold getAttr? getAttrBy? getAttrBy
 repeat (any_goals (first | assumption | exact hT _ | ((with_reducible show wpAny _ _ (call (Value.builtin "list.__getattribute__") _ _) _ _ _);refine call_meets F.slot_list_getattribute (hT _) am_entry_list_getattribute (F.args_list_getattribute_2 _ _) (meets_getattribute_miss_list a xs k sl "keys" _ tH (by decide +kernel)) ⟨hx,hA,fun h' tk' e hx'=>?_⟩) | wp_step))
 obtain ⟨t',u',he⟩:=hx'.there
 show wpAny _ _ (getattributeRaised _ _ _ _ _ _ _) _ _ _
 unfold getattributeRaised
 repeat (any_goals (first | assumption | wp_step))
 exact h _ _ hx'.keeps
end
theorem mB:entryFor table "dict.update.loop" = some Builtin.«dict.update.loop»:=entryFor_of_tree (by kernel_rfl)
theorem gK:plainId "dict.update.loop" = true:=by decide +kernel
section
variable {P:Program} {w:World} {A:Around} {R:Result → Shared → Prop} {I:Addr} {fp wr:List Addr} {G:Array GenState → Array GenState → Prop} {n:Nat} {Pv:Nat → Value → Prop} {Stt:Nat → Shared → Prop}
theorem aDP (W:WalksS P w A.in1 I fp wr G n Pv Stt) (D:Addr) (hD:D ∉ fp) (res:Value) (kvs:List (Key × Value)) (hn:kvs.length = n) (hz:n ≤ sizeLine) (s₀:Shared)
  (hv:∀ (i:Nat) (v:Value),Pv i v → ∃ (a:Addr) (k:Key) (kv x:Value) (ob:Obj) (c:Nat),v = .ref a ∧ a ∉ D :: wr ∧ s₀.heap.get? a = some ob ∧ ob.cls = .type "tuple" ∧ ob.data = .seq #[kv,x] c ∧ kvs[i]? = some (k,x) ∧ (aZ P w).is k kv = true) :
  ∀ (m i:Nat) (s:Shared),n - i = m → i ≤ n → Stt i s → (∀ b o,b ∉ D :: wr → s₀.heap.get? b = some o → s.heap.get? b = some o) → s.heap.DictOf (aZ P w) D (merged [] (kvs.take i)) →
   (∀ s',Moved (D :: wr) G s s' → s'.heap.DictOf (aZ P w) D (merged [] kvs) → R (.ok (.ret res)) s') →
   codeAny (model P w) A (.builtin "dict.update.loop" ⟨[.ref D,.ref I,rawInt i,res],[]⟩) R s:=by
 have hDw:D ∉ wr:=fun z=>hD (W.sub _ z)
 have sub:∀ b ∈ wr,b ∈ D :: wr:=fun b z=>List.mem_cons_of_mem _ z
 have moved:∀ {s s':Shared} {l:List (Key × Value)},Moved wr G s s' → s.heap.DictOf (aZ P w) D l → s'.heap.DictOf (aZ P w) D l:=fun mv ⟨o,es,ep,ho,r⟩=>⟨o,es,ep,mv.heap D _ hDw ho,r⟩
 intro m
 induction m with
 | zero =>
  intro i s e1 e2 st kp hS hR
  obtain rfl:i = n:=by omega
  rw [List.take_of_length_le (by omega)] at hS
  refine codeAny_builtin mB ?_
  rw [Around.under_plainId gK _]
  show wpAny _ A.in1 (pyNext (.ref I) >>= _) _ _ s
  refine wpAny_bind (W.done s _ _ st fun s' mv=>?_)
  show wpAny _ A.in1 (Builtin.Dict.addKeywords D [] >>= _) _ _ s'
  refine wpAny_bind (wpAny_pure ?_)
  exact wpAny_pure (hR s' (mv.mono sub) (moved mv hS))
 | succ m ih =>
  intro i s e1 e2 st kp hS hR
  have lt:i < n:=by omega
  refine codeAny_builtin mB ?_
  rw [Around.under_plainId gK _]
  show wpAny _ A.in1 (pyNext (.ref I) >>= _) _ _ s
  refine wpAny_bind (W.item i s _ _ lt st fun v s' pv st' mv=>?_)
  obtain ⟨a,k,kv,x,ob,c,rfl,ha,hg,hc,hd,hi,hk⟩:=hv i v pv
  have hS1:=moved mv hS
  have hg1:s'.heap.get? a = some ob:=mv.heap a ob (fun z=>ha (sub a z)) (kp a ob ha hg)
  have hT:s'.TypeIs (.ref a) "tuple":=⟨ob,hg1,hc⟩
  refine wpAny_bind (wpAny_holding (wpAny_bind (wpAny_tryCatch ?_)))
  unfold Builtin.Dict.pairItems
  refine wpAny_bind (wpAny_typeOf hT ?_)
  rw [if_pos (by decide)]
  refine wpAny_bind (wpAny_seqItems hg1 hd (wpAny_pure ?_))
  show wpAny _ _ (holding [kv,x] (dictSet D kv x)) _ _ s'
  refine wpAny_holding (wpAny_dictSet_pairs hk hS1 (fun h' hS2 sb=>?_) ?_)
  ·have e:merged [] (kvs.take (i + 1)) = stored (merged [] (kvs.take i)) k x:=merged_take_succ [] kvs i (k,x) hi
   rw [← e] at hS2
   refine wpAny_pure ⟨plainId_quiet gK _,ih (i + 1) _ (by omega) lt (W.frame _ s' _ _ st' (Nat.le_succ _) fun b hb o e=>?_) (fun b o hb e=>?_) hS2 fun s2 mv2 hS4=>?_⟩
   ·rw [sb.2 b (fun z:b = D=>hD (by rw [← z];exact hb))]
    exact e
   ·rw [sb.2 b (fun z:b = D=>hb (by rw [z];exact List.mem_cons_self))]
    exact mv.heap b o (fun z=>hb (sub b z)) (kp b o hb e)
   ·refine hR s2 (Moved.trans W.gtrans ((mv.mono sub).then_heap (Nat.le_succ _) fun b o hb e=>?_) mv2) hS4
    rw [sb.2 b (fun z:b = D=>hb (by rw [z];exact List.mem_cons_self))]
    exact e
  ·have:=merged_length_le ([]:List (Key × Value)) (kvs.take i)
   rw [List.length_take] at this
   simp only [List.length_nil] at this
   omega
end
section
variable {P:Program} {w:World} {A:Around} {E:Value → Shared → Prop} {s:Shared}
theorem uJ {l:Addr} {its:List Value} {kvs:List (Key × Value)} {Q:Value → Shared → Prop} (hh:A.handled = none) (hl:PlainL s.heap l its.toArray) (hn:its.length = kvs.length) (hz:its.length ≤ sizeLine)
  (hv:∀ (i:Nat) (v:Value),its[i]? = some v → ∃ (a:Addr) (k:Key) (kv x:Value) (ob:Obj) (c:Nat),v = .ref a ∧ s.heap.get? a = some ob ∧ ob.cls = .type "tuple" ∧ ob.data = .seq #[kv,x] c ∧ kvs[i]? = some (k,x) ∧ (aZ P w).is k kv = true)
  (h:∀ (h':Heap) (tk:Nat),h'.DictOf (aZ P w) s.heap.objs.size (merged [] kvs) → (∀ b o,s.heap.get? b = some o → h'.get? b = some o) → Q (.ref s.heap.objs.size) { s with heap:=h',toks:=tk }) :
  wpAny (model P w) A (call (.type "dict") [.ref l]) Q E s:=by
 refine callType_codes (Q₁:=fun (obj:Value) (s₁:Shared)=>obj = Value.ref s.heap.objs.size ∧ s₁ = { s with heap:=s.heap.push { cls:=.type "dict",data:=.dict #[] } }) F.kt_called_dict (F.kt_typeCall_dict_1 _) F.entry_dict_init (kt_code_dict_new _ ⟨rfl,rfl⟩) ?_
 rintro obj s₁ ⟨rfl,rfl⟩
 have hnew:(s.heap.push { cls:=.type "dict",data:=.dict #[] }).DictOf (aZ P w) s.heap.objs.size []:=Heap.DictOf.new s.heap
 obtain ⟨⟨oc,od,oda,osl⟩,nl,hol,hcl,hod,hdl⟩:=id hl
 simp only at hcl hod hdl
 subst hcl hod hdl
 have lS:l < s.heap.objs.size:=Heap.lt_size hol
 have hol1:=Heap.get?_push_of_some (h:=s.heap) { cls:=.type "dict",data:=.dict #[] } hol
 refine ⟨hnew.typeIs,F.args_dict_init_2 _ _,?_⟩
 unfold Builtin.«dict.__init__»
 refine wpAny_bind ?_
 unfold Builtin.Dict.selfAndRest
 refine wpAny_bind (wpAny_notOrdered_dict hnew.typeIs ?_)
 show wpAny _ _ (pure (s.heap.objs.size,[Value.ref l])) _ _ _
 refine wpAny_pure ?_
 show wpAny _ _ (Builtin.Dict.updateFrom "dict.__init__" s.heap.objs.size (.ref l) [] .none) _ _ _
 unfold Builtin.Dict.updateFrom
 refine wpAny_bind (wpAny_typeOf (T:="list") ⟨_,hol1,rfl⟩ ?_)
 rw [if_pos (by decide)]
 refine wpAny_bind (wH (by simp [hh]) hol1 fun h1 t1 k1=>?_)
 show wpAny _ _ (rule _ >>= _) _ _ _
 refine wpAny_bind (wpAny_rule ?_)
 have hol2:=k1 _ _ hol1
 have hl2:h1.IsList l its.toArray:=⟨_,hol2,rfl,nl,rfl⟩
 refine wpAny_bind (wpAny_pyIter_list (s:={ s with heap:=h1,toks:=t1 }) hl2 ?_)
 have sz1:s.heap.objs.size < h1.objs.size:=by
  obtain ⟨o,es,ep,ho,_⟩:=hnew
  exact Heap.lt_size (k1 _ _ ho)
 have nI:l ≠ h1.objs.size:=Nat.ne_of_lt (Heap.lt_size hol2)
 have nD:s.heap.objs.size ∉ [h1.objs.size,l]:=by
  simp only [List.mem_cons,List.mem_singleton,List.not_mem_nil,or_false,not_or]
  exact ⟨Nat.ne_of_lt sz1,Nat.ne_of_gt lS⟩
 refine wpAny_pure ⟨plainId_quiet gK _,?_⟩
 have hh2:A.in1.in1.handled = none:=by simp [hh]
 refine aDP ((Walks.list hh2 _ l nI its.toArray).toS) s.heap.objs.size nD .none kvs (by rw [List.size_toArray,hn]) (by rw [List.size_toArray];exact hz) { s with heap:=h1.push { cls:=.type "list_iterator",data:=.fields #[.ref l,.int 0 0] },toks:=t1 } (fun i v pv=>?_) (its.toArray.size - 0) 0 _ (by omega) (Nat.zero_le _)
  ⟨⟨_,Heap.get?_push_size _ rfl,rfl,rfl⟩,(hl2.push _)⟩ (fun _ _ _ e=>e) ?_ ?_
 ·obtain ⟨a,k,kv,x,ob,c,rfl,hg,hc,hd,hi,hk⟩:=hv i v (by simpa using pv)
  have la:=Heap.lt_size hg
  refine ⟨a,k,kv,x,ob,c,rfl,?_,Heap.get?_push_of_some _ (k1 _ _ (Heap.get?_push_of_some _ hg)),hc,hd,hi,hk⟩
  simp only [List.mem_cons,List.mem_singleton,List.not_mem_nil,or_false,not_or]
  exact ⟨Nat.ne_of_lt la,Nat.ne_of_lt (Nat.lt_trans la sz1)⟩
 ·obtain ⟨o,es,ep,ho,r⟩:=hnew
  exact ⟨o,es,ep,Heap.get?_push_of_some _ (k1 _ _ ho),r⟩
 ·intro s3 mv hS3
  obtain ⟨h3,g3,d3,t3,o3⟩:=s3
  have e1:g3 = s.gens:=mv.gens
  have e2:d3 = s.drawn:=mv.drawn
  have e3:o3 = s.os:=mv.os
  subst e1 e2 e3
  refine ⟨rfl,h h3 t3 hS3 fun b o e=>?_⟩
  have lb:=Heap.lt_size e
  refine mv.heap b o ?_ (Heap.get?_push_of_some _ (k1 _ _ (Heap.get?_push_of_some _ e)))
  simp only [List.mem_cons,List.mem_singleton,List.not_mem_nil,or_false,not_or]
  exact ⟨Nat.ne_of_lt lb,Nat.ne_of_lt (Nat.lt_trans lb sz1)⟩
end
def cA (H:Hp) (ys:List V) (kvs:List (Key × V)):Prop:=Paired (fun (y:V) (kv:Key × V)=>∃ a,y = .ref a ∧ H a = some (.tup [kV kv.1,kv.2])) ys kvs
theorem cA.nil (H:Hp):cA H [] []:=Paired.nil
theorem cA.len {H:Hp} {ys:List V} {kvs:List (Key × V)} (h:cA H ys kvs):ys.length = kvs.length:=Paired.length h
theorem cA.same {H H':Hp} (S:aH H H'):∀ {ys:List V} {kvs:List (Key × V)},cA H ys kvs → cA H' ys kvs
 | _,_,Paired.nil=>Paired.nil
 | _,_,Paired.cons ⟨a,e,o⟩ t=>Paired.cons ⟨a,e,S _ _ o⟩ (cA.same S t)
theorem cA.snoc {H:Hp} {ys:List V} {kvs:List (Key × V)} {p:Addr} {k:Key} {v:V} (h:cA H ys kvs) (hp:H p = none):cA (upd H p (.tup [kV k,v])) (ys ++ [.ref p]) (kvs ++ [(k,v)]) :=
 Paired.snoc (h.same (aH.upd hp)) ⟨p,rfl,aB⟩
section
variable {X:Cx}
theorem aHR {P:Program} {w:World} {k:Key} {u:Value} (r:bF (kV k) u):(aZ P w).is k u = true:=by
 cases k with
 | inl z=>obtain ⟨t,rfl⟩:=r;exact qN z t
 | inr z=>obtain ⟨t,rfl⟩:=r;exact qM z t
theorem pM {pins:List (Addr × Obj)} {σ:St} {H:Hp} {s:Shared} (I:Inv X pins σ H s):∀ {ys:List V} {kvs:List (Key × V)} {its:List Value},cA H ys kvs → bH ys its →
  ∃ vk:List (Key × Value),KV kvs vk ∧ its.length = vk.length ∧ ∀ (i:Nat) (v:Value),its[i]? = some v → ∃ (a:Addr) (k:Key) (kv x:Value) (ob:Obj) (c:Nat),v = .ref a ∧ s.heap.get? a = some ob ∧ ob.cls = .type "tuple" ∧ ob.data = .seq #[kv,x] c ∧ vk[i]? = some (k,x) ∧ (aZ X.prog X.w).is k kv = true
 | _,_,_,Paired.nil,Paired.nil=>⟨[],Paired.nil,rfl,fun i v e=>by simp at e⟩
 | _,(k,v0) :: kvs,u :: its,Paired.cons ⟨a,e,o⟩ t,Paired.cons r rs=>by
  obtain ⟨vk,h1,h2,h3⟩:=pM I t rs
  subst e
  cases r
  obtain ⟨tis,rt,⟨ob,g,hc,c,hd⟩,_⟩:=I.tuple (SqT.of o)
  obtain ⟨ku,xu,rfl,rk,rx⟩:=bH.two rt
  refine ⟨(k,xu) :: vk,Paired.cons ⟨rfl,rx⟩ h1,by simp [h2],fun i v e=>?_⟩
  cases i with
  | zero =>
   simp at e
   subst e
   exact ⟨a,k,ku,xu,ob,c,rfl,g,hc,hd,rfl,aHR rk⟩
  | succ i =>
   obtain ⟨a',k',kv',x',ob',c',q⟩:=h3 i v (by simpa using e)
   exact ⟨a',k',kv',x',ob',c',by simpa using q⟩
theorem dM (hc:X.calm = true):gH X (.type "dict") (fun xs H Q=>∃ (p:Addr) (ys:List V) (kvs:List (Key × V)),xs = [.ref p] ∧ SqL X.K H p ys ∧ cA H ys kvs ∧ kvs.length ≤ 1000 ∧ (kvs.map (·.1)).Nodup ∧ ∀ l,H l = none → Q (.ref l) (upd H l (.dK kvs))):=by
 intro pins s σ H xs us Q I r h
 obtain ⟨p,ys,kvs,rfl,hq,hp,hn,nd,q⟩:=h
 obtain ⟨u,rfl,ru⟩:=bH.one r
 cases ru
 obtain ⟨its,rv,pl,hz⟩:=I.list hq
 obtain ⟨vk,kv,el,hv⟩:=pM I hp rv
 have big:(1000:Nat) ≤ sizeLine:=by decide
 have l1:=KV.length kv
 have ek:vk.map (·.1) = kvs.map (·.1):=(KV.keys kv).symm
 refine uJ (kvs:=vk) (I.ok.hd hc) pl el (by omega) hv fun h' tk hD hk=>?_
 rw [merged_nil_of_nodup vk (by rw [ek];exact nd)] at hD
 refine ⟨.ref s.heap.objs.size,_,I.laid (t':=tk) hk (Nat.le_refl _) (show cM X.prog X.w _ h' _ (.dK kvs) from ⟨by omega,?_,vk,kv,hD⟩),rfl,q _ (I.hok.fresh (Nat.le_refl _))⟩
 have b:=I.big
 exact beq_eq_false_iff_ne.mpr (Nat.ne_of_gt b)
end
end L2
namespace L2
open PySem PySem.Spec PyProof.Rows
structure MethAt (K:PySem.W.Frag) (C:Addr) (m qual:Str) (st:Stmt) (ps:List Str):Prop where
 ex:∃ (f:Addr) (fd:FuncData),Fun K m qual st f fd ∧ gI K fd ps [] ∧ Meth K C m f
structure InitAt (K:PySem.W.Frag) (C:Addr) (qual:Str) (st:Stmt) (ps:List Str):Prop where
 ex:∃ (f:Addr) (fd:FuncData),Fun K "__init__" qual st f fd ∧ gI K fd ps [] ∧ Mk K C f
structure Mc (P:Program) (w:World) (K:PySem.W.Frag) (mg:Str → Option Value) (base:Heap) (k:Nat) (C:Addr) (m:Str) (ps:List Str) (sp:Sp):Prop where
 ex:∃ (f:Addr) (fd:FuncData),FnOk P w K mg base CX0 k f fd ps sp ∧ gI K fd ps [] ∧ Meth K C m f
structure Ic (P:Program) (w:World) (K:PySem.W.Frag) (mg:Str → Option Value) (base:Heap) (k:Nat) (C:Addr) (ps:List Str) (sp:Sp):Prop where
 ex:∃ (f:Addr) (fd:FuncData),FnOk P w K mg base CX0 k f fd ps sp ∧ gI K fd ps [] ∧ Mk K C f
section
variable {P:Program} {w:World} {K:PySem.W.Frag} {mg:Str → Option Value} {base:Heap} {C:Addr} {m qual:Str} {st:Stmt} {N ps:List Str} {k:Nat} {sp:Sp}
theorem MethAt.mc (D:MethAt K C m qual st ps) (S:FnScope N ps (aF st)) (len:∀ vs H Q E,sp vs H Q E → vs.length = ps.length)
  (hbody:∀ (f:Addr) (cdv:Value) (A:Around) (outer:List Env) (s:Shared) (H:Hp) (vs:List V) (Q:VK) (E:XK),Room k (A.deeper (envOfC qual (aF st) s.heap.objs.size f cdv)) → sp vs H Q E →
   ∃ t,PSs (kB CX0 P w K mg base N qual (aF st) f cdv A outer s H E).nox (aN st) t ∧ t { nx:=fun _ H'=>Q .non H',rt:=Q } (iB N vs) H):Mc P w K mg base (k + 1) C m ps sp:=by
 obtain ⟨f,fd,F,b,mm⟩:=D.ex
 exact ⟨f,fd,F.ok S len fun cdv A outer s H vs Q E hr h=>hbody f cdv A outer s H vs Q E hr h,b,mm⟩
theorem InitAt.ic (D:InitAt K C qual st ps) (S:FnScope N ps (aF st)) (len:∀ vs H Q E,sp vs H Q E → vs.length = ps.length)
  (hbody:∀ (f:Addr) (cdv:Value) (A:Around) (outer:List Env) (s:Shared) (H:Hp) (vs:List V) (Q:VK) (E:XK),Room k (A.deeper (envOfC qual (aF st) s.heap.objs.size f cdv)) → sp vs H Q E →
   ∃ t,PSs (kB CX0 P w K mg base N qual (aF st) f cdv A outer s H E).nox (aN st) t ∧ t { nx:=fun _ H'=>Q .non H',rt:=Q } (iB N vs) H):Ic P w K mg base (k + 1) C ps sp:=by
 obtain ⟨f,fd,F,b,mm⟩:=D.ex
 exact ⟨f,fd,F.ok S len fun cdv A outer s H vs Q E hr h=>hbody f cdv A outer s H vs Q E hr h,b,mm⟩
theorem Mc.imp {sp':Sp} (F:Mc P w K mg base k C m ps sp) (h:∀ vs H Q E,sp' vs H Q E → sp vs H Q E):Mc P w K mg base k C m ps sp':=by
 obtain ⟨f,fd,G,b,mm⟩:=F.ex
 exact ⟨f,fd,G.imp h,b,mm⟩
theorem eB {f:Addr} {oc:Value} {od an:Option Addr} {osl:Array (Option Value)} {kV doc pm cdv ct:Value} (a:PySem.W.findIn K (.ref C) m = some (some (.ref f))) (i:PySem.W.isFn K (.ref f) = true)
  (l:K.lookup f = some ⟨oc,od,.func (PySem.W.fnOf m qual (aP st) (aN st) (aF st) .none kV doc pm an cdv ct),osl⟩) (c:PySem.W.codeIn K cdv qual = true) (kp:PySem.W.keepIn K (.ref f) = true)
  (hb:∀ (kV doc pm:Value) (an:Option Addr) (cdv ct:Value) (us:List Value),us.length = ps.length → bindArgs (PySem.W.fnOf m qual (aP st) (aN st) (aF st) .none kV doc pm an cdv ct) ⟨us,[]⟩ = pure (ps.zip us)):MethAt K C m qual st ps :=
 ⟨f,_,qO l c kp,(qO l c kp).binds hb,⟨a,i,kp⟩⟩
theorem aBS {f:Addr} {oc:Value} {od an:Option Addr} {osl:Array (Option Value)} {kV doc pm cdv ct:Value} (a:PySem.W.findIn K (.ref C) "__init__" = some (some (.ref f))) (i:PySem.W.isFn K (.ref f) = true)
  (l:K.lookup f = some ⟨oc,od,.func (PySem.W.fnOf "__init__" qual (aP st) (aN st) (aF st) .none kV doc pm an cdv ct),osl⟩) (c:PySem.W.codeIn K cdv qual = true) (kp:PySem.W.keepIn K (.ref f) = true)
  (mk:PySem.W.makesIn K C = true) (kc:PySem.W.keepIn K (.ref C) = true)
  (hb:∀ (kV doc pm:Value) (an:Option Addr) (cdv ct:Value) (us:List Value),us.length = ps.length → bindArgs (PySem.W.fnOf "__init__" qual (aP st) (aN st) (aF st) .none kV doc pm an cdv ct) ⟨us,[]⟩ = pure (ps.zip us)):InitAt K C qual st ps :=
 ⟨f,_,qO l c kp,(qO l c kp).binds hb,⟨mk,a,i,kc⟩⟩
end
section
variable {X:Cx} {k:Nat} {ps:List Str} {sp:Sp} {x m:Str} {p pos apos:Pos} {o e:Expr} {es:List Expr} {ta:TE} {t:TA} {C:Addr}
theorem aCR {pl:Sem Bool} (c:Cls X.K C) (F:Mc X.prog X.w X.K X.mg X.base k C m ps sp) (hr:Room k X.A) (ho:PE X o ta) (ha:PA X (e :: es) t)
  (hst:starEach (e :: es) X.env = (false,eval e X.env) :: starEach es X.env:=by rfl) (hpl:(backTo pos (starEach es X.env)).any (·.1) = false:=by rfl)
  (ht:eval (.Call (.Attribute o m apos) (e :: es) [] pos) X.env = (do
   let ov ← eval o X.env
   standAt apos.atName
   let (f,first) ← holding [ov] (getMethod ov m pl)
   callWith pos f first (backTo pos (starEach (e :: es) X.env)) (backToKw pos (keywordEach [] X.env))):=by rfl) :
  PE X (.Call (.Attribute o m apos) (e :: es) [] pos) (xE C m sp [] E0 ta t):=by
 obtain ⟨f,fd,G,b,mm⟩:=F.ex
 exact aHZ (pl:=pl) ho c mm G hr b .nil aBP ha hst hpl ht
theorem gF {pl:Sem Bool} (c:Cls X.K C) (F:Mc X.prog X.w X.K X.mg X.base k C m ps sp) (hr:Room k X.A) (ho:PE X o ta)
  (ht:eval (.Call (.Attribute o m apos) [] [] pos) X.env = (do
   let ov ← eval o X.env
   standAt apos.atName
   let (f,first) ← holding [ov] (getMethod ov m pl)
   callWith pos f first (backTo pos (starEach [] X.env)) (backToKw pos (keywordEach [] X.env))):=by rfl) :
  PE X (.Call (.Attribute o m apos) [] [] pos) (xE C m sp [] E0 ta aJZ):=by
 obtain ⟨f,fd,G,b,mm⟩:=F.ex
 exact aFN (pl:=pl) ho c mm G hr b .nil aBP ht
theorem aFM (hm:X.mg x = some (.ref C)) (F:Ic X.prog X.w X.K X.mg X.base k C ps sp) (hr:Room (k + 1) X.A) (ha:PA X (e :: es) t) (hg:Gl X x:=by rfl) (hdb:(x == ("__debug__":Str)) = false:=by decide)
  (he:starEach (e :: es) X.env = (false,eval e X.env) :: starEach es X.env:=by rfl) (hpl:(backTo pos (starEach es X.env)).any (·.1) = false:=by rfl) :
  PE X (.Call (.Name x p) (e :: es) [] pos) (aEI C sp [] E0 t):=by
 obtain ⟨f,fd,G,b,mm⟩:=F.ex
 exact aIA mm G hr hg hm b .nil aBP ha hdb he hpl
end
section
variable {X:Cx} {K:PySem.W.Frag}
theorem aS (e:X.K = K):IxR X (aMA K):=by subst e;exact aKU
theorem bY (e:X.K = K):IxR X (aMB K):=by subst e;exact aIM
theorem sD (e:X.K = K):SlR X (aLZ K):=by subst e;exact aHN
theorem gX (e:X.K = K):OpR X (compareOp .In) (rIn K false):=by subst e;exact aCU
theorem uE (e:X.K = K):OpR X (compareOp .NotIn) (rIn K true):=by subst e;exact wA
theorem bL (e:X.K = K):gH X (.builtin "len") (fun xs H Q=>∃ p ys,xs = [.ref p] ∧ (SqL K H p ys ∨ SqT K H p ys) ∧ Q (.int ys.length) H):=by subst e;exact wX
theorem cO (e:X.K = K):gH X (.builtin "isinstance") (fun xs H Q=>∃ x y c t b,xs = [x,y] ∧ aIX y = some c ∧ TyOf K H x t ∧ PySem.W.kitOne K t c = some b ∧ Q (.bl b) H):=by subst e;exact yZ
theorem hZ (e:X.K = K):gH X (.type "list") (fun xs H Q=>∃ p ys,xs = [.ref p] ∧ (SqL K H p ys ∨ SqT K H p ys) ∧ ∀ l,H l = none → Q (.ref l) (upd H l (.lst ys))):=by subst e;exact wV
end
theorem iM {j:Int} (h:decide (0 < j) = true):0 < j:=of_decide_eq_true h
end L2
namespace L2
open PySem PySem.Spec PyProof.Rows
theorem lE {X:Cx} {i:Nat} {x:Str} {elt iter tg:Expr} {ifs:List Expr} {scope:Scope} {pos pos' cpos:Pos} {wi:TI} {g:TG} {tt:TT} {te:TE} (hXN:X.N.Nodup) (hix:X.N[i]? = some x) (N':List Str) (nt:Nat) (cap:List Nat)
  (hc:X.calm = true) (hi:PI X tg iter wi) (hg:∀ R,PG (blk X scope N' R) tg g) (hgk:zC nt g) (ht:∀ R,aHJ (blk X scope N' R) ifs tt) (he:∀ R,PE (blk X scope N' R) elt te)
  (hx:Loc X.env.scope x:=by exact Or.inl rfl) (hfn:X.fn x = true ∨ X.env.scope.names.lookup x = some .local:=by first | exact .inl rfl | exact .inr rfl | assumption)
  (hsw:swapsWith (.ListComp elt [⟨tg,iter,ifs,0⟩] scope cpos) (some (.Name x pos')) pos.line X.env = pure true:=by rfl)
  (hcell:(scope.names.all fun y=>!(y.2 == .cell)) = true:=by rfl) (hkind:scope.kind = .function:=by rfl)
  (hnames:(scope.names.all fun y=>!(y.2 == .local) || (scope.names.lookup y.1 == some .local)) = true:=by rfl)
  (hfr:(scope.names.all fun y=>!(y.2 == .free) || (X.env.kindOf y.1 == some .cell || X.env.kindOf y.1 == some .free)) = true:=by rfl)
  (hN:N'.length = nt + cap.length:=by rfl) (hcapN:(cap.map fun j=>X.N[j]?) = (N'.drop nt).map some:=by rfl) (hcapF:((N'.drop nt).all fun x=>scope.names.lookup x == some .free) = true:=by rfl)
  (hs:∀ x,foldedSetIterable iter X.env x = pure x:=by intro _;rfl) :
  PS X (.Assign [.Name x pos'] (.ListComp elt [⟨tg,iter,ifs,0⟩] scope cpos) pos) (aKD (aJJ nt cap wi g tt te) (oH i)):=by
 intro pins s σ H Ds I h
 have hfr':∀ y ∈ scope.names,y.2 = .free → (X.env.kindOf y.1 = some .cell ∨ X.env.kindOf y.1 = some .free):=fun y hy e=>by
  have z:=jU hfr y hy
  rw [e] at z
  have z':(X.env.kindOf y.1 == some .cell || X.env.kindOf y.1 == some .free) = true:=z
  rcases Bool.or_eq_true_iff.mp z' with q | q
  ·exact .inl (beq_iff_eq.mp q)
  ·exact .inr (beq_iff_eq.mp q)
 have hcell':∀ y ∈ scope.names,y.2 ≠ .cell:=fun y hy e=>by
  have z:=jU hcell y hy
  rw [e] at z
  cases z
 obtain ⟨cl,hcl,hclk,hclh⟩:=tW (scope:=scope) (env:=X.env) fun y hy e=>I.ok.has y.1 (hfr' y hy e)
 have hnames':∀ y ∈ scope.names,y.2 = .local → scope.names.lookup y.1 = some .local:=fun y hy e=>by
  have z:=jU hnames y hy
  rw [e] at z
  exact beq_iff_eq.mp z
 have hcapN':∀ (k j:Nat),cap[k]? = some j → N'[nt + k]? = X.N[j]?:=fun k j e=>by
  have z:=congrArg (fun l:List (Option Str)=>l[k]?) hcapN
  simp only [List.getElem?_map,e,Option.map_some,List.getElem?_drop] at z
  cases q:N'[nt + k]? with
  | none=>rw [q] at z;cases z
  | some x=>rw [q] at z;exact (Option.some.inj z).symm
 rw [exec_Assign_Name_used _ _ _ _ hsw]
 refine wpAny_bind (wpAny_standAt (wpAny_bind ?_))
 show wpAny _ X.A (do let _ ← comprehension (.ListComp elt [⟨tg,iter,ifs,0⟩] scope cpos) scope X.env _ (newList []) false (eval iter X.env) (some (assign (.Name x pos') X.env))) _ _ s
 refine wpAny_bind (wpAny_mono (wpAny_comprehension_free (use:=some (assign (.Name x pos') X.env)) (Q:=fun _ s'=>SP X pins Ds .next s') rfl hs hcl hkind hnames'
  (thn (hi pins s σ H _ I h) fun v s1 h1=>thn h1 fun itv s2 h2=>?_)) (fun _ s' hq=>wpAny_pure (wpAny_pure hq)) fun _ _ e=>e)
 obtain ⟨it,fp,tn,J,H2,e,I2,T,st2,f2,hw⟩:=h2
 subst e
 refine tU (RR:=fun acc C=>compPost (model X.prog X.w) X.A X.xe (some (assign (.Name x pos') X.env)) (fun _ s'=>SP X pins Ds .next s') acc C) hc I2 T st2 f2 hclk hclh hcell' hkind hfr' hN hcapN' (fun x hx=>beq_iff_eq.mp (jU hcapF x hx)) hg hgk ht he hw ?_
 intro D C s' H' ys hD q I' B
 obtain ⟨m,hn⟩:=B.ns
 obtain ⟨oC,es,ep,hoC,hdC,hrest⟩:=id hn
 have nofs:C ∉ X.fs:=fun hb=>by
  obtain ⟨_,o,ho,_⟩:=I'.ok.funs.mem hb
  exact absurd (Nat.lt_of_lt_of_le (Heap.lt_size ho) B.ab) (Nat.lt_irrefl _)
 have IC:Inv X ((C,oC) :: pins) σ (upd H' D (.lst ys)) s':=I'.pins_of fun p hp=>by
  rcases List.mem_cons.mp hp with rfl | hp
  ·exact ⟨hoC,B.fr,B.ne,nofs,fun v z=>by rw [hdC] at z;cases z⟩
  ·exact I'.pin p (List.mem_append_right _ hp)
 show wpAny _ X.A (assign (.Name x pos') X.env (.ref D)) _ _ _
 refine thn (aX hXN hix hx hfn ((C,oC) :: pins) s' σ (upd H' D (.lst ys)) (.ref D) (.ref D) Ds.nx IC rfl (q D hD)) fun _ s'' h''=>?_
 obtain ⟨σ2,H3,I3,q3⟩:=h''
 have pC:=I3.pin (C,oC) (List.mem_append_right _ List.mem_cons_self)
 refine ⟨m,hn.at' (fun o e=>?_),fun h4 hs4=>⟨σ2,H3,?_,q3⟩⟩
 ·rw [hoC] at e
  cases e
  exact pC.1
 ·have I4:Inv X pins σ2 H3 s'':=I3.pins_of fun p hp=>I3.pin p (List.mem_append_right _ (List.mem_cons_of_mem _ hp))
  exact I4.turned (it:=C) (t':=s''.toks) (fun b o hb e=>hs4.extBut b o hb e) pC.2.1 B.ne (.inr B.ab) B.cl B.pn
end L2
namespace L2
open PySem PySem.Spec PyProof.Rows
section
variable {X:Cx}
end
structure InstC (K:PySem.W.Frag) (C:Addr):Prop where
 ha:PySem.W.findIn K (.ref C) "__class__" = some (some (.builtin "object.__class__"))
 hn:PySem.W.specialIn K (.builtin "object.__class__") "__get__" = some (some (.builtin "getset_descriptor.__get__"))
 htk:PySem.W.takesIn K (.builtin "object.__class__") = some true
 hm:PySem.W.mroIn K C (.type "object") = some true
theorem MethAt.mcD {P:Program} {w:World} {K:PySem.W.Frag} {mg:Str → Option Value} {base:Heap} {C:Addr} {m qual:Str} {st:Stmt} {N ps:List Str} {k:Nat} {sp:Sp} (D:MethAt K C m qual st ps) (S:FnScope N ps (aF st)) (len:∀ vs H Q E,sp vs H Q E → vs.length = ps.length)
  (hbody:∀ (f:Addr) (cdv:Value) (A:Around) (outer:List Env) (s:Shared) (H:Hp) (vs:List V) (Q:VK) (E:XK),Room k (A.deeper (envOfC qual (aF st) s.heap.objs.size f cdv)) → sp vs H Q E →
   ∃ t,PSs (kB CX0 P w K mg base N qual (aF st) f cdv A outer s H E).nox (aN st) t ∧ t { nx:=fun _ H'=>dZ Q .non H',rt:=dZ Q } (iB N vs) H):Mc P w K mg base (k + 1) C m ps sp:=by
 obtain ⟨f,fd,F,b,mm⟩:=D.ex
 refine ⟨f,fd,FnOk.drop len (F.ok S (fun vs H Q E ⟨Q',h,_⟩=>len vs H Q' E h) fun cdv A outer s H vs Q E hr ⟨Q',h,e⟩=>?_),b,mm⟩
 subst e
 exact hbody f cdv A outer s H vs Q' E hr h
theorem iK.under {H:Hp} {p q:Addr} {o u:HO} (hp:H p = none) (d:qQ o = true) (hq:L2.upd H p o q = none):iK (L2.upd (L2.upd H p o) q u) (L2.upd H q u):=fun b=>by
 by_cases hb:b = q
 ·subst hb
  left
  rw [aB,aB]
 ·rw [aT hb,aT hb]
  by_cases hc:b = p
  ·subst hc
   right
   exact ⟨hp,o,aB,d⟩
  ·left
   rw [aT hc]
end L2
namespace Ld
open PySem L2
def hE (c:Nat):Bool:=decide (97 ≤ c) && decide (c ≤ 122)
def fC (z:Str):Bool:=decide (1 ≤ z.length) && decide (z.length ≤ 8) && !decide (z = "sea") && z.cps.toList.all hE
def isInt:Dv → Bool
 | .int _=>true
 | _=>false
def aGE:Dv → Bool
 | .bl _=>true
 | _=>false
def aMP:Dv → Bool
 | .str _=>true
 | _=>false
def aMQ:Dv → Bool
 | .lst _=>true
 | _=>false
def aMO:Dv → Bool
 | .tup _=>true
 | _=>false
def rR (n:Int):Dv → Bool
 | .tup ds=>decide ((ds.length:Int) = n)
 | _=>false
def aML (n:Int):Dv → Bool
 | .lst ds=>decide (1 ≤ ds.length) && decide ((ds.length:Int) ≤ n)
 | _=>false
def oR:Dv → Bool
 | .str z=>fC z
 | _=>false
def hgt (i:Int):Bool:=decide (-1000000 ≤ i) && decide (i ≤ 1000000)
def amt (i:Int):Bool:=decide (0 ≤ i) && decide (i ≤ 1000000)
def bT:Dv → Bool
 | .int i=>hgt i
 | _=>false
def kQ:Dv → Bool
 | .int i=>amt i
 | _=>false
def bD (zs:List Str):Dv → Bool
 | .str z=>decide (z ∈ zs)
 | _=>false
def cR:Dv → Option Str
 | .tup (.str z :: _)=>some z
 | _=>none
def cD:Dv → Bool
 | .tup [a,b,c]=>oR a && (bT b && kQ c)
 | _=>false
def kX:Dv → Bool
 | .lst ds=>(decide (1 ≤ ds.length) && decide (ds.length ≤ 12)) && (ds.all cD && decide ((ds.map cR).Nodup))
 | _=>false
def nE (zs:List Str) (a b:Dv):Bool:=bD zs a && (bD zs b && !deq a b)
def mU (c:Dv):Dv → Bool
 | .non=>true
 | .int i=>hgt i && (match c with | .int j=>decide (i < j) | _=>false)
 | _=>false
def dA (zs:List Str):Dv → Bool
 | .tup [n,a,b,c,r,s]=>oR n && nE zs a b && (bT c && (kQ r && mU c s))
 | _=>false
def nF (zs:List Str):Dv → Bool
 | .lst ds=>(decide (1 ≤ ds.length) && decide (ds.length ≤ 40)) && (ds.all (dA zs) && decide ((ds.map cR).Nodup))
 | _=>false
mutual
def bP:Dv → Bool
 | .str z=>decide (z.length ≤ 1000)
 | .lst ds=>decide (ds.length ≤ 1000) && eT ds
 | .tup ds=>decide (ds.length ≤ 1000) && eT ds
 | _=>true
def eT:List Dv → Bool
 | []=>true
 | d :: ds=>bP d && eT ds
end
theorem gB:∀ {ds:List Dv} {d:Dv},eT ds = true → d ∈ ds → bP d = true
 | [],_,_,m=>by cases m
 | e :: ds,d,f,m=>by
  rw [eT,Bool.and_eq_true] at f
  rcases List.mem_cons.mp m with rfl | m
  ·exact f.1
  ·exact gB f.2 m
theorem qC {ds:List Dv} (h:bP (.tup ds) = true):eT ds = true:=(Bool.and_eq_true_iff.mp (show (decide (ds.length ≤ 1000) && eT ds) = true from h)).2
theorem oW (K:PySem.W.Frag) {H:Hp} {d:Dv} {x:V} (h:Is H d x):∃ t,TyOf K H x t ∧ PySem.W.kitOne K t (.type "int") = some (isInt d || aGE d) ∧ PySem.W.kitOne K t (.type "bool") = some (aGE d) ∧
  PySem.W.kitOne K t (.type "str") = some (aMP d) ∧ PySem.W.kitOne K t (.type "list") = some (aMQ d) ∧ PySem.W.kitOne K t (.type "tuple") = some (aMO d):=by
 cases d with
 | non=>cases (show x = .non from h);exact ⟨_,.non,rfl,rfl,rfl,rfl,rfl⟩
 | bl b=>cases (show x = .bl b from h);exact ⟨_,.bl b,rfl,iI _ _,rfl,rfl,rfl⟩
 | int i=>cases (show x = .int i from h);exact ⟨_,.int i,iI _ _,rfl,rfl,rfl,rfl⟩
 | str z=>cases (show x = .str z from h);exact ⟨_,.str z,rfl,rfl,iI _ _,rfl,rfl⟩
 | lst ds=>obtain ⟨a,vs,rfl,e,_⟩:=h;exact ⟨_,.lst e,rfl,rfl,rfl,iI _ _,rfl⟩
 | tup ds=>obtain ⟨a,vs,rfl,e,_⟩:=h;exact ⟨_,.tup e,rfl,rfl,rfl,rfl,iI _ _⟩
 | dct ks ds=>obtain ⟨a,vs,rfl,e,_⟩:=h;exact ⟨_,.dK e,rfl,rfl,rfl,rfl,rfl⟩
theorem wI:("abcdefghijklmnopqrstuvwxyz":Str).cps.toList = [97,98,99,100,101,102,103,104,105,106,107,108,109,110,111,112,113,114,115,116,117,118,119,120,121,122]:=by decide +kernel
theorem aAB (c:Nat):(!(Builtin.Str.occurrences ("abcdefghijklmnopqrstuvwxyz":Str) ⟨#[c]⟩ 0 ("abcdefghijklmnopqrstuvwxyz":Str).length 1).isEmpty) = hE c:=by
 rw [PySem.StrLaws.found_one,wI]
 have h1:∀ d,d ∈ ([97,98,99,100,101,102,103,104,105,106,107,108,109,110,111,112,113,114,115,116,117,118,119,120,121,122]:List Nat) → 97 ≤ d ∧ d ≤ 122:=by decide
 have h2:∀ k,k < 26 → (97 + k) ∈ ([97,98,99,100,101,102,103,104,105,106,107,108,109,110,111,112,113,114,115,116,117,118,119,120,121,122]:List Nat):=by decide
 unfold hE
 by_cases h:97 ≤ c ∧ c ≤ 122
 ·have e:=h2 (c - 97) (by omega)
  rw [show 97 + (c - 97) = c by omega] at e
  rw [decide_eq_true e,decide_eq_true h.1,decide_eq_true h.2]
  rfl
 ·have e:¬ c ∈ ([97,98,99,100,101,102,103,104,105,106,107,108,109,110,111,112,113,114,115,116,117,118,119,120,121,122]:List Nat):=fun m=>h (h1 c m)
  rw [decide_eq_false e]
  by_cases h':97 ≤ c
  ·rw [decide_eq_true h',decide_eq_false (fun z=>h ⟨h',z⟩)]
   rfl
  ·rw [decide_eq_false h']
   rfl
def aL (d:Dv):Str:=(cR d).getD ""
def kO (d:Dv):Key:=.inr (aL d)
theorem aGQ {d:Dv} {z:Str} (h:cR d = some z):aL d = z:=by unfold aL;rw [h];rfl
def oF (d1 d2:Addr):List (Str × V):=cZ "dyke_rows" (.ref d2) (cZ "field_rows" (.ref d1) [])
theorem aMU:¬ (("field_rows":Str) = "dyke_rows"):=by decide +kernel
theorem nT (d1 d2:Addr):(oF d1 d2).lookup ("field_rows":Str) = some (.ref d1):=by
 unfold oF
 rw [aW,if_neg aMU,aW,if_pos rfl]
theorem aIL (d1 d2:Addr):(oF d1 d2).lookup ("dyke_rows":Str) = some (.ref d2):=by
 unfold oF
 rw [aW,if_pos rfl]
theorem eR (d1 d2:Addr) {m:Str} (h1:¬ m = "dyke_rows") (h2:¬ m = "field_rows"):(oF d1 d2).lookup m = none:=by
 unfold oF
 rw [aW,if_neg h1,aW,if_neg h2]
 all_goals rfl
def qB (H:Hp) (a:Addr) (ds:List Dv):Prop:=∃ kvs,H a = some (.dK kvs) ∧ kvs.map (·.1) = ds.map kO ∧ IsL H ds (kvs.map (·.2))
theorem qB.same {H H':Hp} (S:aH H H') {a:Addr} {ds:List Dv} (h:qB H a ds):qB H' a ds:=by
 obtain ⟨kvs,e,k,i⟩:=h
 exact ⟨kvs,S _ _ e,k,IsL.same S _ _ i⟩
structure LandAt (C:Addr) (H:Hp) (x:Addr) (fs ds:List Dv):Prop where
 ex:∃ dx d1 d2,H x = some (.ins C dx (oF d1 d2)) ∧ qB H d1 fs ∧ qB H d2 ds
 okf:kX (.lst fs) = true
 okd:nF ("sea" :: fs.map aL) (.lst ds) = true
theorem LandAt.same {C:Addr} {H H':Hp} (S:aH H H') {x:Addr} {fs ds:List Dv} (h:LandAt C H x fs ds):LandAt C H' x fs ds:=by
 obtain ⟨⟨dx,d1,d2,e,t1,t2⟩,a,b⟩:=h
 exact ⟨⟨dx,d1,d2,S _ _ e,t1.same S,t2.same S⟩,a,b⟩
theorem aAO:∀ {kvs:List (Key × V)} {H:Hp} {ds:List Dv} {d:Dv},kvs.map (·.1) = ds.map kO → IsL H ds (kvs.map (·.2)) → (ds.map aL).Nodup → d ∈ ds → ∃ v,gJ kvs (.inr (aL d)) = some v ∧ Is H d v
 | [],_,[],_,_,_,_,m=>by cases m
 | [],_,_ :: _,_,e,_,_,_=>by simp at e
 | _ :: _,_,[],_,_,_,_,m=>by cases m
 | (k,v) :: kvs,H,d0 :: ds,d,e,i,n,m=>by
  obtain ⟨v',r,e1,h0,t⟩:=i
  rw [List.map_cons] at e1
  cases e1
  rw [List.map_cons,List.map_cons,List.cons.injEq] at e
  have ek:k = kO d0:=e.1
  rw [List.map_cons,List.nodup_cons] at n
  by_cases q:aL d = aL d0
  ·have:d = d0:=by
    rcases List.mem_cons.mp m with rfl | m
    ·rfl
    ·exact absurd (List.mem_map.mpr ⟨d,m,q⟩) n.1
   subst this
   refine ⟨v,?_,h0⟩
   unfold gJ
   rw [List.find?_cons,ek]
   simp [kO]
  ·have m':d ∈ ds:=by
    rcases List.mem_cons.mp m with rfl | m
    ·exact absurd rfl q
    ·exact m
   obtain ⟨u,e2,h2⟩:=aAO (kvs:=kvs) e.2 t n.2 m'
   refine ⟨u,?_,h2⟩
   unfold gJ at e2 ⊢
   have hk:¬ k = Sum.inr (aL d):=by
    rw [ek]
    intro z
    exact q (Sum.inr.inj z).symm
   rw [List.find?_cons,decide_eq_false (show ¬ (k,v).1 = Sum.inr (aL d) from hk)]
   exact e2
theorem kU:∀ {ds:List Dv} {p:Dv → Bool},(∀ d,p d = true → ∃ z,cR d = some z) → ds.all p = true → ds.map cR = (ds.map aL).map some
 | [],_,_,_=>rfl
 | d :: ds,p,hp,h=>by
  rw [List.all_cons,Bool.and_eq_true] at h
  obtain ⟨z,e⟩:=hp d h.1
  rw [List.map_cons,List.map_cons,List.map_cons,kU hp h.2,aGQ e,e]
theorem gY (zs:List Str):(zs.map some).Nodup ↔ zs.Nodup:=by
 induction zs with
 | nil=>simp
 | cons z zs ih =>
  rw [List.map_cons,List.nodup_cons,List.nodup_cons,ih]
  simp
theorem cE {d:Dv} (h:cD d = true):∃ z g e,d = .tup [.str z,.int g,.int e] ∧ fC z = true ∧ hgt g = true ∧ amt e = true:=by
 unfold cD at h
 split at h
 ·rename_i a b c
  rw [Bool.and_eq_true,Bool.and_eq_true] at h
  obtain ⟨h1,h2,h3⟩:=h
  cases a with
  | str z =>
   cases b with
   | int g =>
    cases c with
    | int e=>exact ⟨z,g,e,rfl,h1,h2,h3⟩
    | _=>cases h3
   | _=>cases h2
  | _=>cases h1
 ·cases h
theorem qX (d:Dv) (h:cD d = true):∃ z,cR d = some z:=by
 obtain ⟨z,_,_,rfl,_⟩:=cE h
 exact ⟨z,rfl⟩
theorem bX {zs:List Str} {d:Dv} (h:dA zs d = true):∃ n a b c r s,d = .tup [.str n,.str a,.str b,.int c,.int r,s] ∧ fC n = true ∧ a ∈ zs ∧ b ∈ zs ∧ a ≠ b ∧ hgt c = true ∧ amt r = true ∧ mU (.int c) s = true:=by
 unfold dA at h
 split at h
 ·rename_i n a b c r s
  rw [Bool.and_eq_true,Bool.and_eq_true,Bool.and_eq_true,Bool.and_eq_true] at h
  obtain ⟨⟨h1,h2⟩,h3,h4,h5⟩:=h
  unfold nE at h2
  rw [Bool.and_eq_true,Bool.and_eq_true] at h2
  obtain ⟨h6,h7,h8⟩:=h2
  cases n with
  | str n =>
   cases a with
   | str a =>
    cases b with
    | str b =>
     cases c with
     | int c =>
      cases r with
      | int r =>
       refine ⟨n,a,b,c,r,s,rfl,h1,of_decide_eq_true h6,of_decide_eq_true h7,?_,h3,h4,h5⟩
       intro z
       subst z
       have:(!(a == a)) = true:=h8
       rw [beq_self_eq_true] at this
       cases this
      | _=>cases h4
     | _=>cases h3
    | _=>cases h7
   | _=>cases h6
  | _=>cases h1
 ·cases h
theorem tP {zs:List Str} (d:Dv) (h:dA zs d = true):∃ z,cR d = some z:=by
 obtain ⟨z,_,_,_,_,_,rfl,_⟩:=bX h
 exact ⟨z,rfl⟩
structure GoodF (fs:List Dv):Prop where
 l1:1 ≤ fs.length
 l2:fs.length ≤ 12
 all:∀ d ∈ fs,cD d = true
 nd:(fs.map aL).Nodup
structure GoodD (zs:List Str) (ds:List Dv):Prop where
 l1:1 ≤ ds.length
 l2:ds.length ≤ 40
 all:∀ d ∈ ds,dA zs d = true
 nd:(ds.map aL).Nodup
theorem nV (fs:List Dv):kX (.lst fs) = true ↔ GoodF fs:=by
 show ((decide (1 ≤ fs.length) && decide (fs.length ≤ 12)) && (fs.all cD && decide ((fs.map cR).Nodup))) = true ↔ _
 rw [Bool.and_eq_true,Bool.and_eq_true,Bool.and_eq_true,decide_eq_true_iff,decide_eq_true_iff,decide_eq_true_iff]
 constructor
 ·rintro ⟨⟨a,b⟩,c,d⟩
  rw [kU qX c,gY] at d
  exact ⟨a,b,List.all_eq_true.mp c,d⟩
 ·rintro ⟨a,b,c,d⟩
  have c':=List.all_eq_true.mpr c
  refine ⟨⟨a,b⟩,c',?_⟩
  rw [kU qX c',gY]
  exact d
theorem kS (zs:List Str) (ds:List Dv):nF zs (.lst ds) = true ↔ GoodD zs ds:=by
 show ((decide (1 ≤ ds.length) && decide (ds.length ≤ 40)) && (ds.all (dA zs) && decide ((ds.map cR).Nodup))) = true ↔ _
 rw [Bool.and_eq_true,Bool.and_eq_true,Bool.and_eq_true,decide_eq_true_iff,decide_eq_true_iff,decide_eq_true_iff]
 constructor
 ·rintro ⟨⟨a,b⟩,c,d⟩
  rw [kU tP c,gY] at d
  exact ⟨a,b,List.all_eq_true.mp c,d⟩
 ·rintro ⟨a,b,c,d⟩
  have c':=List.all_eq_true.mpr c
  refine ⟨⟨a,b⟩,c',?_⟩
  rw [kU tP c',gY]
  exact d
def mV:Dv → Bool
 | .non=>true
 | _=>false
def aO:Dv → Bool
 | .tup [_,_,_,_,_,s]=>!mV s
 | _=>false
theorem pU {H:Hp} {d:Dv} {v:V} (h:Is H d v):decide (v = .non) = mV d:=by
 cases d with
 | non=>cases (show v = .non from h);rfl
 | bl b=>cases (show v = .bl b from h);exact decide_eq_false (by intro z;cases z)
 | int b=>cases (show v = .int b from h);exact decide_eq_false (by intro z;cases z)
 | str b=>cases (show v = .str b from h);exact decide_eq_false (by intro z;cases z)
 | lst b=>obtain ⟨a,vs,rfl,_⟩:=h;exact decide_eq_false (by intro z;cases z)
 | tup b=>obtain ⟨a,vs,rfl,_⟩:=h;exact decide_eq_false (by intro z;cases z)
 | dct b c=>obtain ⟨a,vs,rfl,_⟩:=h;exact decide_eq_false (by intro z;cases z)
theorem kC:∀ {ds:List Dv},(∀ d ∈ ds,bP d = true) → eT ds = true
 | [],_=>rfl
 | d :: ds,h=>by
  rw [eT,h d List.mem_cons_self,kC fun e m=>h e (List.mem_cons_of_mem _ m)]
  rfl
end Ld
namespace Mt02
open PySem L2 Ld
def aOA (i:Nat):Nat:=if i < 18 then 97 + i else 98 + i
def rst (c:Int):Nat → Int
 | 0=>c / 3
 | j + 1=>rst c j / 25
def num (o:Nat → Int) (c p b:Int) (k j:Nat):Int:=if (j:Int) = b then c / 17 + ((k:Int) / 25) else if (j:Int) = p then c / 11 + (k:Int) else o j
def aMZ (o:Nat → Int) (c p b:Int) (k j:Nat):Nat:=aOA (num o c p b k j % 25).toNat
def nm (o:Nat → Int) (c p b:Int) (n k:Nat):Str:=⟨((List.range n).map (aMZ o c p b k)).toArray⟩
structure Names (zs:List Str) (n:Nat):Prop where
 len:zs.length = n
 nd:zs.Nodup
 good:∀ z ∈ zs,fC z = true
end Mt02
namespace Mt04
open PySem L2 Ld
def aHA:Dv → Int
 | .tup [_,_,_,.int c,_,_]=>c
 | _=>0
def hOf:Dv → Int
 | .tup [_,.int h]=>h
 | _=>0
def aIV (ds:List Dv) (z:Str):Int:=(ds.find? fun d=>decide (aL d = z)).elim 0 aHA
def aGC (ds:List Dv):Dv → Bool
 | .tup [.str z,.int h]=>decide (z ∈ ds.map aL) && (hgt h && decide (aIV ds z ≤ h))
 | _=>false
def areWorks (ds:List Dv):Dv → Bool
 | .lst ws=>ws.all (aGC ds) && decide ((ws.map cR).Nodup)
 | _=>false
structure GoodW (ds ws:List Dv):Prop where
 all:∀ d ∈ ws,aGC ds d = true
 nd:(ws.map aL).Nodup
def wAt (ws:List Dv) (z:Str):Option Int:=(ws.find? fun d=>decide (aL d = z)).map hOf
def aNS (ws:List Dv):Dv → Dv
 | .tup [.str n,a,b,.int c,r,s]=>.tup [.str n,a,b,.int ((wAt ws n).getD c),r,s]
 | d=>d
def raisedD (ds ws:List Dv):List Dv:=ds.map (aNS ws)
def kvOf (d:Dv):Key × V:=(kO d,.int (hOf d))
end Mt04
namespace Mt22
open PySem L2 Ld
structure St where
 nm:Str
 near:Str
 far:Str
 h:Int
abbrev Lo:=Str → Option Int
def sea:Str:="sea"
def lo0:Lo:=fun z=>if z = sea then some (-1000000) else none
def pH (lo:Lo) (s:St):Lo:=match lo s.near with
 | none=>lo
 | some a=>fun z=>if z = s.far then some (match lo s.far with | none=>max a s.h | some b=>min (max a s.h) b) else lo z
def aLY (S:List St) (lo:Lo):Lo:=S.foldl pH lo
def oO (S:List St):Nat → Lo
 | 0=>lo0
 | n + 1=>aLY S (oO S n)
inductive Walk (S:List St):Nat → Str → Int → Prop
 | sea:Walk S 0 Mt22.sea (-1000000)
 | step {k:Nat} {a:Int} {s:St} (w:Walk S k s.near a) (m:s ∈ S):Walk S (k + 1) s.far (max a s.h)
def Le (lo lo':Lo):Prop:=∀ z c,lo' z = some c → ∃ d,lo z = some d ∧ d ≤ c
def Att (S:List St) (lo:Lo):Prop:=∀ z c,lo z = some c → ∃ k,Walk S k z c
inductive Path (S:List St):List Str → Str → Int → Prop
 | sea:Path S [] Mt22.sea (-1000000)
 | step {p:List Str} {a:Int} {s:St} (w:Path S p s.near a) (m:s ∈ S) (n:s.far ∉ p):Path S (s.far :: p) s.far (max a s.h)
structure Flood (S:List St) (lo:Lo):Prop where
 att:Att S lo
 low:∀ k v b,Walk S k v b → ∃ c,lo v = some c ∧ c ≤ b
inductive Come (S:List St) (L:Int):Str → Prop
 | sea:Come S L Mt22.sea
 | step {s:St} (w:Come S L s.near) (m:s ∈ S) (h:s.h < L):Come S L s.far
end Mt22
namespace MtF
open PySem L2 Ld Mt04 Mt22
def aEZ:Dv → Dv
 | .tup [_,_,_,_,_,s]=>s
 | _=>.non
def aJR:Dv → Int
 | .int i=>i
 | _=>0
def aIE:Dv → Str
 | .tup [_,.str a,_,_,_,_]=>a
 | _=>""
def vZ:Dv → Str
 | .tup [_,_,.str b,_,_,_]=>b
 | _=>""
def iL (op:List Str) (d:Dv):Int:=if aL d ∈ op then aJR (aEZ d) else aHA d
def wO:Dv → Int
 | .tup [_,.int g,_]=>g
 | _=>0
def eG (fs:List Dv) (z:Str):Int:=(fs.find? fun d=>decide (aL d = z)).elim 0 wO
theorem wP {ds:List Dv} (nd:(ds.map aL).Nodup) {d:Dv} (m:d ∈ ds):(ds.find? fun e=>decide (aL e = aL d)) = some d:=by
 induction ds with
 | nil=>cases m
 | cons e ds ih =>
  rw [List.map_cons,List.nodup_cons] at nd
  rw [List.find?_cons]
  rcases List.mem_cons.mp m with rfl | m
  ·rw [decide_eq_true rfl]
  ·have hne:aL e ≠ aL d:=fun c=>nd.1 (c ▸ List.mem_map.mpr ⟨d,m,rfl⟩)
   rw [decide_eq_false hne]
   exact ih nd.2 m
theorem vA {fs:List Dv} (nd:(fs.map aL).Nodup) {d:Dv} (m:d ∈ fs):eG fs (aL d) = wO d:=by
 show (fs.find? fun e=>decide (aL e = aL d)).elim 0 wO = _
 rw [wP nd m]
 rfl
def gL (fs:List Dv) (op:List Str) (d:Dv) (near far:Str):List Mt22.St:=if far = "sea" then [] else [⟨aL d,near,far,max (iL op d) (eG fs far)⟩]
def nJ (fs:List Dv) (op:List Str) (d:Dv):List Mt22.St:=gL fs op d (aIE d) (vZ d) ++ gL fs op d (vZ d) (aIE d)
def dD (fs ds:List Dv) (op:List Str):List Mt22.St:=ds.flatMap (nJ fs op)
def mC (s:Mt22.St):Dv:=.tup [.str s.nm,.str s.near,.str s.far,.int s.h]
def flo (fs ds:List Dv) (op:List Str):Mt22.Lo:=oO (dD fs ds op) fs.length
def aCS:Option Int → V
 | some i=>.int i
 | none=>.non
theorem xF (fs:List Dv) (op:List Str) (d:Dv):(nJ fs op d).length ≤ 2:=by
 unfold nJ gL
 rw [List.length_append]
 split <;> split <;> simp
theorem oK (fs:List Dv) (op:List Str):∀ ds:List Dv,(dD fs ds op).length ≤ 2 * ds.length
 | []=>Nat.le_refl _
 | d :: ds=>by
  have h1:=xF fs op d
  have h2:=oK fs op ds
  unfold dD at h2 ⊢
  rw [List.flatMap_cons,List.length_append,List.length_cons]
  omega
end MtF
namespace Mt21
open PySem L2 Ld Mt02
def ab (i:Int):Nat:=97 + (i % 26).toNat
theorem vM (i:Int):hE (ab i) = true:=by
 have h0:=Int.emod_nonneg i (show (26:Int) ≠ 0 by decide)
 have h1:=Int.emod_lt_of_pos i (show (0:Int) < 26 by decide)
 unfold ab hE
 rw [decide_eq_true (by omega),decide_eq_true (by omega)]
 rfl
theorem aJA:("abcdefghijklmnopqrstuvwxyz":Str).cps.toList = (List.range 26).map fun i=>97 + i:=by decide +kernel
theorem aJX (i:Int):atI ("abcdefghijklmnopqrstuvwxyz":Str).cps.toList (i % 26) = some (ab i):=by
 have h0:=Int.emod_nonneg i (show (26:Int) ≠ 0 by decide)
 have h1:=Int.emod_lt_of_pos i (show (0:Int) < 26 by decide)
 obtain ⟨k,hk⟩:=Int.eq_ofNat_of_zero_le h0
 unfold ab
 rw [hk,aJA]
 refine aK ?_
 rw [List.getElem?_map,List.getElem?_range (by omega)]
 rfl
def sS (i:Int):Str:=⟨#[ab i]⟩
theorem tL:∀ (ys:List Str) (acc:Array Nat),(ys.foldl (fun acc p=>acc ++ ("":Str).cps ++ p.cps) acc).toList = acc.toList ++ (ys.map fun y=>y.cps.toList).flatten
 | [],acc=>by simp
 | y :: ys,acc=>by
  rw [List.foldl_cons,tL ys]
  have:("":Str).cps = #[]:=by decide +kernel
  rw [this]
  simp
theorem zZ (ys:List Str):(Txt.join "" ys).cps.toList = (ys.map fun y=>y.cps.toList).flatten:=by
 cases ys with
 | nil =>
  show (Str.empty.cps).toList = []
  decide +kernel
 | cons y ys =>
  show (List.foldl (fun acc p=>acc ++ ("":Str).cps ++ p.cps) y.cps ys).toList = _
  rw [tL]
  simp
theorem rS (z:Str) (k:Nat) (h:k ≤ z.length):(Txt.slice z none (some (k:Int))).cps.toList = z.cps.toList.take k:=by
 rw [Tx.slice_codes,Tx.cl_nat]
 show (z.cps.toList.drop 0).take (min k z.length - 0) = _
 rw [List.drop_zero,Nat.sub_zero,Nat.min_eq_left h]
theorem tR (z:Str) (k:Nat) (h:k ≤ z.length):(Txt.slice z (some (k:Int)) none).cps.toList = z.cps.toList.drop k:=by
 rw [Tx.slice_codes,Tx.cl_nat,Nat.min_eq_left h]
 show (z.cps.toList.drop k).take (z.length - k) = _
 rw [List.take_of_length_le]
 rw [List.length_drop]
 show z.cps.toList.length - k ≤ z.length - k
 simp [Str.length]
theorem iU (z:Str):z.length = z.cps.toList.length:=by simp [Str.length]
theorem yG {f:Nat → Str} {n:Nat} (h:∀ k l,k < n → l < n → f k = f l → k = l):((List.range n).map f).Nodup:=by
 rw [List.nodup_iff_pairwise_ne,List.pairwise_map]
 refine List.Pairwise.imp_of_mem ?_ (List.pairwise_lt_range (n:=n))
 intro k l hk hl hkl he
 have:=h k l (List.mem_range.mp hk) (List.mem_range.mp hl) he
 omega
structure Put (z b:Str) (at':Nat) (x y:Int):Prop where
 codes:z.cps.toList = b.cps.toList.take at' ++ [ab x,ab y] ++ b.cps.toList.drop at'
end Mt21
namespace Mt05
open PySem L2 Ld Mt02
def noS (z:Str):Prop:=¬ (115:Nat) ∈ z.cps.toList
structure NamesS (zs:List Str) (n:Nat):Prop where
 nm:Names zs n
 nos:∀ z ∈ zs,noS z
end Mt05
namespace Mt23
open PySem L2 Ld Mt02 Mt04 Mt22 MtF
def noHigher:Option Int → Option Int → Bool
 | some a,none=>true
 | some a,some b=>decide (a ≤ b)
 | none,none=>true
 | none,some _=>false
def StepsLe (S S':List Mt22.St):Prop:=∀ s ∈ S',∃ t ∈ S,t.near = s.near ∧ t.far = s.far ∧ t.h ≤ s.h
def aNM (d:Dv):Bool:=decide (Mt22.sea ∈ [aIE d,vZ d])
def firsts (ds:List Dv) (op:List Str):List Int:=(ds.filter aNM).map (iL op)
end Mt23
namespace L2
open PySem PySem.Spec PyProof.Rows
section
variable {X:Cx}
end
end L2
namespace L2
open PySem PySem.Spec PyProof.Rows
section
variable {X:Cx}
end
def xA (nt:Nat) (u:TGs):Prop:=∀ vs σ H Q,u vs σ H Q → u vs σ H fun σ2 H2=>Q σ2 H2 ∧ σ2.length = σ.length ∧ ∀ i,nt ≤ i → σ2[i]? = σ[i]?
theorem aAC {nt:Nat}:xA nt aMT:=fun vs σ H Q ⟨e,q⟩=>⟨e,q,rfl,fun _ _=>rfl⟩
theorem mW {nt i:Nat} {u:TGs} (h:i < nt) (hu:xA nt u):xA nt (aJS (oH i) u):=fun vs σ H Q ⟨v,r,e,q⟩=>by
 have q':=hu r (σ.set i (some v)) H Q q
 have ef:(fun (σ2:St) (H2:Hp)=>Q σ2 H2 ∧ σ2.length = (σ.set i (some v)).length ∧ ∀ j,nt ≤ j → σ2[j]? = (σ.set i (some v))[j]?) = (fun (σ2:St) (H2:Hp)=>Q σ2 H2 ∧ σ2.length = σ.length ∧ ∀ j,nt ≤ j → σ2[j]? = σ[j]?):=by
  funext σ2 H2
  rw [List.length_set]
  have:(∀ j,nt ≤ j → σ2[j]? = (σ.set i (some v))[j]?) = (∀ j,nt ≤ j → σ2[j]? = σ[j]?):=by
   refine propext ⟨fun h1 j hj=>?_,fun h1 j hj=>?_⟩
   ·rw [h1 j hj,List.getElem?_set_ne (by omega)]
   ·rw [h1 j hj,List.getElem?_set_ne (by omega)]
  rw [this]
 rw [ef] at q'
 exact ⟨v,r,e,q'⟩
theorem aDH {nt n:Nat} {K:PySem.W.Frag} {u:TGs} (hu:xA nt u):zC nt (aGM K n u):=fun x σ H Q ⟨a,xs,e,hq,hl,q⟩=>⟨a,xs,e,hq,hl,hu xs σ H Q q⟩
theorem aHY {X:Cx} {pos:Pos} {es:List Expr} {k:Nat} {t:TGs} {n:Nat} {K:PySem.W.Frag} (e:X.K = K) (hc:X.calm = true) (h:PGs X es t)
  (hn:(assignEach es X.env).length = n:=by rfl) (hst:(assignEach es X.env).findIdx? (·.1) = none:=by rfl):PG X (.Tuple es k pos) (aGM K n t):=by subst e;exact vX hc h hn hst
end L2
namespace L2
open PySem PySem.Spec PyProof.Rows
section
variable {X:Cx}
end
end L2
namespace L2
open PySem PySem.Spec PyProof.Rows
section
variable {X:Cx} {e:Expr} {t:TA} {p1 p2:Pos} {pos1 pos2:Pos}
end
end L2
namespace L2
open PySem PySem.Spec PyProof.Rows
theorem rT:∀ {ys:List Str} {us:List Value},bH (ys.map V.str) us → StrsAre us ys
 | [],us,r=>by
  rw [List.map_nil] at r
  cases r
  exact .nil
 | b :: bs,us,r=>by
  rw [List.map_cons] at r
  cases r with
  | cons r1 r2 =>
   obtain ⟨t,rfl⟩:=r1
   exact .cons b t (rT r2)
section
variable {X:Cx}
theorem aII:MtR X "str.join" (fun x vs H Q=>∃ z p ys,x = .str z ∧ vs = [.ref p] ∧ SqL X.K H p (ys.map V.str) ∧ (ys.map fun y=>y.length).sum + ys.length * z.length ≤ 16777216 ∧ Q (.str (Txt.join z ys)) H):=by
 intro pins s σ H x xs v us Q I rx r h
 obtain ⟨z,p,ys,rfl,rfl,hq,hz,q⟩:=h
 obtain ⟨t,rfl⟩:=rx
 obtain ⟨u,rfl,ru⟩:=bH.one r
 cases ru
 obtain ⟨its,rv,pl,hl⟩:=I.list hq
 exact join_list pl.isList (rT rv) hz fun t' k=>⟨.str _,H,I.tok k,⟨_,rfl⟩,q⟩
end
end L2
namespace L2
open PySem PySem.Spec PyProof.Rows
section
variable {X:Cx}
end
end L2
namespace L2
open PySem PySem.Spec PyProof.Rows
section
variable {prog:Program} {w:World} {A:Around} {R:Result → Shared → Prop} {I S:Addr} {fp wr:List Addr} {n:Nat} {P:Nat → Value → Prop} {St:Nat → Heap → Prop}
end
section
variable {prog:Program} {w:World} {A:Around} {E:Value → Shared → Prop} {s:Shared}
end
section
variable {X:Cx}
end
end L2
namespace L2
open PySem PySem.Spec PyProof.Rows
def Itd (d:Addr) (o:Obj) (kvs:List (Key × V)):It :=
 ⟨fun i H=>H d = some (.frz o (.dK kvs)) ∧ i < kvs.length,fun i H x H'=>H' = H ∧ ∃ kv,kvs[i]? = some kv ∧ x = kV kv.1,fun i H=>H d = some (.frz o (.dK kvs)) ∧ kvs.length ≤ i⟩
theorem aCG {P:Program} {w:World} {K:PySem.W.Frag} {tg:Expr} {d it:Addr} {o:Obj} {kvs:List (Key × V)} {vs:List (Key × Value)} {ep:Nat} {h0:Heap} (kv:KV kvs vs) (hd0:h0.get? d = some o) (hat:h0.DictAt (aZ P w) d vs ep) :
  Turn P w K tg (Itd d o kvs) [it] it (fun i h=>h.IsKeyIter it d i vs.length ep) where
 mem:=by simp
 obj:=fun i h st b hb=>by
  have e:b = it:=by simpa using hb
  subst e
  obtain ⟨ob,e,c,dd⟩:=st
  exact ⟨ob,e,fun v z=>by rw [dd] at z;cases z⟩
 keep:=fun i h h' st k=>st.at fun ob e=>k it (by simp) ob e
 item:=by
  intro X hP hw hK hc i pins s σ H E I hf st hg
  subst hP hw hK
  obtain ⟨hH,hi⟩:=hg
  obtain ⟨f0,f1,f2,f3,f4,f5⟩:=hf it (by simp)
  have hget:s.heap.get? d = some o:=(show cM X.prog X.w H s.heap d (.frz o (.dK kvs)) from I.hok d _ hH).1
  have hat':=hat.at' (h':=s.heap) fun ob e=>by rw [hd0] at e;cases e;exact hget
  have hl:=KV.length kv
  obtain ⟨⟨k,v⟩,hx⟩:∃ p,vs[i]? = some p:=⟨_,List.getElem?_eq_getElem (by omega)⟩
  obtain ⟨q,eq,e1,e2⟩:=KV.get kv hx
  refine wpAny_pyNext_dict_item st hat' hx fun key h' hkey st' sb=>?_
  have I1:Inv X pins σ H { s with heap:=h' }:=I.turned (t':=s.toks) (fun b ob hb e=>(sb.2 b hb).trans e) f0 f1 f3 f4 f5
  obtain ⟨ob,e,c,dd⟩:=id st'
  refine ⟨key,rfl,aBT (s:={ s with heap:=h' }) e c dd (by decide) ⟨kV q.1,H,I1,?_,⟨rfl,q,eq,rfl⟩,st',fun b hb=>(hf b hb).1⟩⟩
  rw [show q.1 = k from e1]
  exact uY hkey
 done:=by
  intro X hP hw hK hc i pins s σ H E I hf st hg
  subst hP hw hK
  obtain ⟨hH,hi⟩:=hg
  obtain ⟨f0,f1,f2,f3,f4,f5⟩:=hf it (by simp)
  have hget:s.heap.get? d = some o:=(show cM X.prog X.w H s.heap d (.frz o (.dK kvs)) from I.hok d _ hH).1
  have hat':=hat.at' (h':=s.heap) fun ob e=>by rw [hd0] at e;cases e;exact hget
  have hl:=KV.length kv
  exact wpAny_pyNext_dict_end (I.ok.hd hc) st hat' (List.getElem?_eq_none (by omega)) fun h' eb=>⟨rfl,I.turned (t':=s.toks) (fun b ob hb e=>eb b ob hb e) f0 f1 f3 f4 f5⟩
 self:=fun _ _ _ _ _ st h=>wpAny_pyIter_keyiter st h
section
variable {X:Cx} {tg:Expr}
def aMS (td:TE):TI:=fun σ H R=>td σ H fun x H1=>∃ d kvs,x = .ref d ∧ H1 d = some (.dK kvs) ∧ ∀ o,R (Itd d o kvs) (upd H1 d (.frz o (.dK kvs)))
theorem aBM {l:Expr} {tl:TE} (hl:PE X l tl):PI X tg l (aMS tl):=by
 intro pins s σ H R I h
 refine thn (hl pins s σ H _ I h) fun v s1 ⟨x,H1,I1,r1,q1⟩=>?_
 obtain ⟨d,kvs,e,hH,q⟩:=q1
 subst e
 cases r1
 have hok:=I1.hok d _ hH
 obtain ⟨hz,lo,vs,kv,hD⟩:=id hok
 obtain ⟨ep,hat⟩:=hD.dictAt
 obtain ⟨o,es,ho,_⟩:=id hat
 refine wpAny_pyIter_dict lo hat ?_
 have I2:Inv X pins σ (upd H1 d (.frz o (.dK kvs))) s1:=I1.write (x:=d) (e:=d) (o:=.frz o (.dK kvs)) (h':=s1.heap) (t':=s1.toks) (by rw [hH];exact trivial) (.inl rfl) (fun _ _ _ q=>q) ⟨o,ho⟩ ⟨ho,hz,lo,vs,kv,hD⟩
 refine ⟨s1.heap.objs.size,[s1.heap.objs.size],_,_,upd H1 d (.frz o (.dK kvs)),rfl,I2.kept (t':=s1.toks) fun b ob e=>Heap.get?_push_of_some _ e,aCG kv ho hat,⟨_,Heap.get?_push_size _ rfl,rfl,rfl⟩,fun b hb=>?_,q o⟩
 have e:b = s1.heap.objs.size:=by simpa using hb
 subst e
 exact I2.fpOk (Nat.le_refl _) (I2.hok.fresh (Nat.le_refl _))
theorem vF {d:Addr} {o:Obj} {kvs:List (Key × V)} {σb:St} {g:TG} {tt:TT} {te:TE} {fin:List V → Hp → Prop} {H:Hp} (hz:kvs.length ≤ sizeLine) (Pv:Nat → List V → Hp → Prop) (h0:Pv 0 [] H)
  (hl:∀ i ys H,i ≤ kvs.length → Pv i ys H → H d = some (.frz o (.dK kvs)) ∧ ys.length ≤ i)
  (hs:∀ i kv ys H (K:VK) (K':Hp → Prop),kvs[i]? = some kv → Pv i ys H → (∀ y H4,Pv (i + 1) (ys ++ [y]) H4 → K y H4) → (∀ H3,Pv (i + 1) ys H3 → K' H3) →
   g (kV kv.1) σb H fun σ2 H2=>tt σ2 H2 fun b H3=>if b = true then te σ2 H3 K else K' H3)
  (hd:∀ ys H,Pv kvs.length ys H → fin ys H):∃ W:CW,(∃ m,W 0 m [] H) ∧ ∀ i m ys H,W i m ys H → uP σb (Itd d o kvs) g tt te W fin i m ys H:=by
 refine ⟨fun i m ys H=>m = kvs.length - i ∧ i ≤ kvs.length ∧ Pv i ys H,⟨kvs.length,by simp,Nat.zero_le _,h0⟩,?_⟩
 rintro i m ys H ⟨rfl,hi,p⟩
 obtain ⟨q,ql⟩:=hl i ys H hi p
 by_cases hlt:i < kvs.length
 ·refine .inr ⟨⟨q,hlt⟩,by omega,fun x H' y=>?_⟩
  obtain ⟨e,kv,ek,ex⟩:=y
  subst e ex
  exact hs i kv ys _ _ _ ek p (fun y H4 q=>⟨kvs.length - (i + 1),by omega,rfl,hlt,q⟩) fun H3 q=>⟨kvs.length - (i + 1),by omega,rfl,hlt,q⟩
 ·have e:i = kvs.length:=by omega
  subst e
  exact .inl ⟨⟨q,Nat.le_refl _⟩,hd ys H p⟩
end
end L2
namespace L2
open PySem PySem.Spec PyProof.Rows
section
variable {X:Cx}
end
end L2
namespace L2
open PySem PySem.Spec PyProof.Rows
def CX2 (P:Program) (w:World):CXT:=fun outer H s E e s'=>∃ (ea:Addr) (cls a0:Value) (B:Heap) (H':Hp),e = .ref ea ∧ s'.os = s.os ∧ AllBare s'.gens ∧ Un (frs outer) [] H H' s.heap s'.heap ∧ HOk P w H' s'.heap ∧
 Heap.FlyingW B outer ea cls a0 s'.heap ∧ (∀ b o o',s.heap.get? b = some o → s'.heap.get? b = some o' → b ∉ frs outer → B.get? b = some o') ∧ (∀ b o',H' b ≠ none → s'.heap.get? b = some o' → B.get? b = some o') ∧ E cls none H'
section
variable {X:Cx} {pins:List (Addr × Obj)} {σ:St} {H H':Hp} {s s':Shared} {B h2:Heap} {ea:Addr} {cls a0:Value}
theorem aGN (I:Inv X pins σ H s) (u:Un (frs X.stack) [] H H' s.heap s'.heap) (hB:∀ b o o',s.heap.get? b = some o → s'.heap.get? b = some o' → b ∉ frs X.stack → B.get? b = some o')
  (k:B.StaysIn h2) (us:s'.heap.UpToSlots h2):Un (frs X.stack) [] H H' s.heap h2 where
 keep:=fun b o e n hb hx=>k b o (hB b o o e (u.keep b o e n hb hx) hb)
 slot:=fun b o e n hb hx=>by
  obtain ⟨sl,e1⟩:=u.slot b o e n hb hx
  obtain ⟨_,o1,e2,hd⟩:=I.stack.mem hb
  rw [e] at e2
  cases e2
  obtain ⟨sl',e3⟩:=us b _ e1 hd
  exact ⟨sl',e3⟩
 free:=u.free
 there:=fun b o e hx=>by
  obtain ⟨o',e1⟩:=u.there b o e hx
  by_cases hb:b ∈ frs X.stack
  ·obtain ⟨_,o1,e2,hd⟩:=I.stack.mem hb
   rw [e] at e2
   cases e2
   obtain ⟨sl,e3⟩:=u.slot b o e (I.stkFree b hb) hb hx
   obtain ⟨sl',e4⟩:=us b _ e3 hd
   exact ⟨_,e4⟩
  ·exact ⟨o',k b o' (hB b o o' e e1 hb)⟩
 tups:=u.tups
 frzs:=u.frzs
 tbls:=u.tbls
theorem aBW {P:Program} {w:World} (ok:HOk P w H' s'.heap) (hT:∀ b o',H' b ≠ none → s'.heap.get? b = some o' → B.get? b = some o') (k:B.StaysIn h2):HOk P w H' h2:=fun a o e =>
 (ok a o e).stay (fun b v hb q=>k b v (hT b v (by
  rcases hb with rfl | hb
  ·rw [e];simp
  ·rw [hb];simp) q)) (fun _ q=>q) fun _ _ q=>q
theorem aBV (I:Inv X pins σ H s) (os:s'.os = s.os) (bare:AllBare s'.gens) (u:Un (frs X.stack) [] H H' s.heap s'.heap) (ok:HOk X.prog X.w H' s'.heap) (hB:∀ b o o',s.heap.get? b = some o → s'.heap.get? b = some o' → b ∉ frs X.stack → B.get? b = some o')
  (hT:∀ b o',H' b ≠ none → s'.heap.get? b = some o' → B.get? b = some o') (k:B.StaysIn h2) (us:s'.heap.UpToSlots h2):Inv X pins σ H' { s' with heap:=h2 } :=
 I.call' (s':={ s' with heap:=h2 }) (ch:=[]) os (aGN I u hB k us) (aBW ok hT k) bare fun b z=>absurd z (by simp)
end
theorem cM.has {P:Program} {w:World} {H:Hp} {h:Heap} {a:Addr} {o:HO} (x:cM P w H h a o):∃ u,h.get? a = some u:=by
 cases o with
 | lst xs=>obtain ⟨_,_,_,_,e⟩:=x;exact ⟨_,e⟩
 | tup xs=>obtain ⟨_,_,_,ob,e,_⟩:=x;exact ⟨_,e⟩
 | dK kvs=>obtain ⟨_,_,_,_,o,_,_,e,_⟩:=x;exact ⟨_,e⟩
 | dT kvs=>obtain ⟨_,_,_,_,o,_,_,e,_⟩:=x;exact ⟨_,e⟩
 | set S n=>obtain ⟨o,_,_,_,e,_⟩:=x;exact ⟨_,e⟩
 | ins C dx fs=>obtain ⟨_,_,_,e,_⟩:=x;exact ⟨_,e⟩
 | own y=>obtain ⟨_,e⟩:=x;exact ⟨_,e⟩
 | xd fs=>obtain ⟨_,⟨_,_,_,e,_⟩,_⟩:=x;exact ⟨_,e⟩
 | rng lo hi=>obtain ⟨_,_,_,e⟩:=x;exact ⟨_,e⟩
 | frz ob u=>obtain ⟨e,_⟩:=x;exact ⟨_,e⟩
 | tbl ps=>exact ⟨_,show h.get? a = some _ from x⟩
 | met f y=>exact ⟨_,show h.get? a = some _ from x⟩
 | ext φ=>obtain ⟨_,⟨_,e⟩,_⟩:=x;exact ⟨_,e⟩
theorem HOk.has {P:Program} {w:World} {H:Hp} {h:Heap} {a:Addr} (x:HOk P w H h) (e:H a ≠ none):∃ u,h.get? a = some u:=by
 cases q:H a with
 | none=>exact absurd q e
 | some o=>exact (x a o q).has
section
variable {P:Program} {w:World} {K:PySem.W.Frag} {mg:Str → Option Value} {base:Heap} {N:List Str} {qual:Str} {scope:Scope} {f:Addr} {cd:Value} {A:Around} {outer:List Env} {s:Shared} {H:Hp} {E:XK}
theorem aBU {pins:List (Addr × Obj)} {σ:St} {H1 H':Hp} {s1 s':Shared} {B h2:Heap} {ea:Addr} {cls a0:Value} (I:Inv (kB (CX2 P w) P w K mg base N qual scope f cd A outer s H E) pins σ H1 s1) (os:s'.os = s1.os) (bare:AllBare s'.gens)
  (u:Un (frs (envOfC qual scope s.heap.objs.size f cd :: outer)) [] H1 H' s1.heap s'.heap) (ok:HOk P w H' s'.heap) (hB:∀ b o o',s1.heap.get? b = some o → s'.heap.get? b = some o' → b ∉ frs (envOfC qual scope s.heap.objs.size f cd :: outer) → B.get? b = some o')
  (hT:∀ b o',H' b ≠ none → s'.heap.get? b = some o' → B.get? b = some o') (fl:Heap.FlyingW B outer ea cls a0 h2) (us:s'.heap.UpToSlots h2) (q:E cls none H'):CX2 P w outer H s E (.ref ea) { s' with heap:=h2 }:=by
 have J:=aBV (h2:=h2) I os bare u ok hB hT fl.1 us
 refine ⟨ea,cls,a0,B,H',rfl,J.os,J.bare,J.base,J.hok,fl,fun b o o' e e' nb=>?_,fun b o' n e'=>?_,q⟩
 ·obtain ⟨o1,e1⟩:=I.base.there b o e (fun z=>absurd z (by simp [kB]))
  obtain ⟨o2,e2⟩:=u.there b o1 e1 (by simp)
  have hb:b ∉ frs (envOfC qual scope s.heap.objs.size f cd :: outer):=fun z=>by
   have lt:b < s.heap.objs.size:=Heap.lt_size e
   have z':b ∈ s.heap.objs.size :: frs outer:=z
   rcases List.mem_cons.mp z' with r | r
   ·exact absurd lt (by rw [r];exact Nat.lt_irrefl _)
   ·exact nb r
  have e3:=hB b o1 o2 e1 e2 hb
  have e4:=fl.1 b o2 e3
  rw [show h2.get? b = some o' from e'] at e4
  cases e4
  exact e3
 ·obtain ⟨o2,e2⟩:=ok.has n
  have e3:=hT b o2 n e2
  have e4:=fl.1 b o2 e3
  rw [show h2.get? b = some o' from e'] at e4
  cases e4
  exact e3
theorem aID:lP (CX2 P w) (kB (CX2 P w) P w K mg base N qual scope f cd A outer s H E) E:=fun pins σ H1 s1 e s' I h=>by
 obtain ⟨ea,cls,a0,B,H',rfl,os,bare,u,ok,fl,hB,hT,q⟩:=h
 exact wpAny_leaves_onW (env:=envOfC qual scope s.heap.objs.size f cd) (outer:=outer) I.ok.frames rfl fl fun h2 fl2 us=>aBU I os bare u ok hB hT fl2 us q
theorem aHS {pins:List (Addr × Obj)} {σ:St} {H1:Hp} {s1:Shared} {h1:Heap} {e:Addr} {cls:Value} {args:List Value} (I:Inv (kB (CX2 P w) P w K mg base N qual scope f cd A outer s H E) pins σ H1 s1) (hx:Heap.MadeExcOf s1.heap h1 e cls args) (q:E cls none H1) :
  (kB (CX2 P w) P w K mg base N qual scope f cd A outer s H E).xe (.ref e) { s1 with heap:=h1 }:=by
 have S:s1.heap.FunFrames base (envOfC qual scope s.heap.objs.size f cd :: outer):=I.stack
 have hin:∀ v ∈ envOfC qual scope s.heap.objs.size f cd :: outer,∀ b,v.frame = some b → b ∈ frs (envOfC qual scope s.heap.objs.size f cd :: outer):=fun v hv b hb=>List.mem_filterMap.mpr ⟨v,hv,hb⟩
 refine wpAny_leaves_madeW (base:=PySem.W.hideAll s1.heap (frs (envOfC qual scope s.heap.objs.size f cd :: outer))) (h:=s1.heap) (env:=envOfC qual scope s.heap.objs.size f cd) (outer:=outer) I.ok.frames rfl (fun b o z=>PySem.W.of_hideAll _ z) (PySem.W.funFrames_hide S hin) hx fun h2 t fl _ _ us=>?_
 refine aBU (s1:=s1) (s':={ s1 with heap:=h1 }) I rfl I.bare (Un.kept hx.keeps) (I.hok.kept hx.keeps) (fun b o o' e1 e2 nb=>?_) (fun b o' n e2=>?_) fl us q
 ·have e3:=hx.keeps b o e1
  rw [show h1.get? b = some o' from e2] at e3
  cases e3
  exact PySem.W.hideAll_get _ e1 nb
 ·obtain ⟨o,e1⟩:=I.hok.has n
  have e3:=hx.keeps b o e1
  rw [show h1.get? b = some o' from e2] at e3
  cases e3
  exact PySem.W.hideAll_get _ e1 fun z=>n (I.stkFree b z)
end
end L2
namespace L2
open PySem PySem.Spec PyProof.Rows
abbrev aJF:List Value:=[.type "ValueError",.type "Exception",.type "BaseException",.type "object"]
structure ExcC (K:PySem.W.Frag) (C:Addr):Prop where
 q:PySem.W.excIn K C aJF "ValueError.__new__" = true
theorem ExcC.own {K:PySem.W.Frag} {C:Addr} {h:Heap} {x:Str} {mg:Str → Option Value} (E:ExcC K C) (X:K.In h) (hm:mg x = some (.ref C)):OwnCls x C aJF "ValueError.__new__" mg h:=by
 refine ⟨hm,?_⟩
 have q:=E.q
 unfold PySem.W.excIn at q
 split at q
 ·rename_i d2 c2 l2 look
  split at q
  ·rename_i C2 tl a0 a1 a2 a3 id2 a5 em es
   have q1:=Bool.and_eq_true_iff.mp q
   have q2:=Bool.and_eq_true_iff.mp q1.1
   have q3:=Bool.and_eq_true_iff.mp q2.1
   have q4:=Bool.and_eq_true_iff.mp q3.1
   have q5:=Bool.and_eq_true_iff.mp q4.1
   obtain rfl:C2 = C:=beq_iff_eq.mp q5.1
   obtain rfl:id2 = "ValueError.__new__":=beq_iff_eq.mp q5.2
   obtain ⟨c_1,c_2,c_3,c_4,c_5,c_6,c_7,c_8,c_9,c_10,c_11⟩:=c2
   obtain rfl:c_3 = .ref C2 :: tl:=em
   obtain rfl:c_11 = false:=by simpa using q4.2
   obtain ⟨ll⟩:=l2
   obtain rfl:ll = [a0,a1,a2,a3,some (.builtin "ValueError.__new__"),a5]:=es
   exact ⟨tl,c_4,c_1,c_5,c_2,c_6,c_7,c_8,c_9,c_10,d2,a0,a1,a2,a3,a5,_,X _ _ look,.of_isNs (PySem.W.isNs_of_in X q2.2),PySem.W.nsMap_none_of_in X q2.2 (beq_iff_eq.mp q1.2),PySem.W.tail_of_in X q3.2⟩
  ·cases q
 ·cases q
def aHI (X:Cx) (E:XK):Prop:=∀ (pins:List (Addr × Obj)) (σ:St) (H:Hp) (s:Shared) (h1:Heap) (e:Addr) (cls:Value) (args:List Value),Inv X pins σ H s → Heap.MadeExcOf s.heap h1 e cls args → E cls none H → X.xe (.ref e) { s with heap:=h1 }
theorem qF {P:Program} {w:World} {K:PySem.W.Frag} {mg:Str → Option Value} {base:Heap} {N:List Str} {qual:Str} {scope:Scope} {f:Addr} {cd:Value} {A:Around} {outer:List Env} {s:Shared} {H:Hp} {E:XK} :
  aHI (kB (CX2 P w) P w K mg base N qual scope f cd A outer s H E) E:=fun _ _ _ _ _ _ _ _ I hx q=>aHS I hx q
section
variable {X:Cx} {C:Addr} {x:Str} {E:XK} {np cpos pos:Pos} {e:Expr} {es:List Expr} {t:TA}
def aJY (C:Addr) (E:XK) (t:TA):TS:=fun _ σ H=>t σ H fun vs H1=>vs.length ≤ sizeLine ∧ E (.ref C) none H1
theorem sN (hm:X.mg x = some (.ref C)) (EC:ExcC X.K C) (hc:X.calm = true) (R:aHI X E) (ha:PA X (e :: es) t) (hg:Gl X x:=by rfl) (hdb:(x == ("__debug__":Str)) = false:=by decide)
  (he:starEach (e :: es) X.env = (false,eval e X.env) :: starEach es X.env:=by rfl) (hpl:(backTo cpos (starEach es X.env)).any (·.1) = false:=by rfl) :
  PS X (.Raise (some (.Call (.Name x np) (e :: es) [] cpos)) none pos) (aJY C E t):=by
 intro pins s σ H D I h
 obtain ⟨tl,N,nm,qn,bs,hdct,sn,sub,ab,col,dd,k0,k1,k2,k3,k5,mN,hC,hN,hni,T⟩:=(EC.own I.ok.mod.kin hm).obj
 refine wpAny_Raise_call_subT (C:=C) (N:=N) (nm:=nm) (q:=qn) (bs:=bs) (bm:=tl) (hdct:=hdct) (sn:=sn) (sub:=sub) (ab:=ab) (col:=col) (dd:=dd) (k0:=k0) (k1:=k1) (k2:=k2) (k3:=k3) (k5:=k5)
  PySem.F.excBase_ValueError (mN:=mN) (T.hasType PySem.F.excBase_ValueError.hasBase) (I.ok.hd hc) ?_ hni (nR I hg hm ⟨rfl,?_⟩ hdb)
 ·rw [he]
  show (false || (backTo cpos (starEach es X.env)).any (·.1)) = false
  rw [hpl]
  rfl
 ·have g:=ha cpos pins s σ H _ I h
  rw [he] at g ⊢
  refine Calls.evalArgs_plain (thn g fun us s2 ⟨vs,H2,I2,rv,hz,q⟩=>?_)
  exact ⟨rfl,by rw [← rv.length];exact hz,I2.bk _ _ hC,hN.keeps I2.bk,T.keeps I2.bk,fun h1 ea hx=>R pins σ H2 s2 h1 ea _ _ I2 hx q⟩
end
def CAt (X:Cx) (pins:List (Addr × Obj)) (σ:St) (E:XK) (e:Value) (s':Shared):Prop:=∃ s1 H1,Inv X pins σ H1 s1 ∧ CX2 X.prog X.w X.stack H1 s1 E e s'
abbrev TX:=XK → TE
def PX (X:Cx) (e:Expr) (t:TX):Prop :=
 ∀ (pins:List (Addr × Obj)) (s:Shared) (σ:St) (H:Hp) (Q:VK) (E:XK),Inv X pins σ H s → t E σ H Q → wpAny (model X.prog X.w) X.A (eval e X.env) (EP X pins σ Q) (CAt X pins σ E) s
section
variable {X:Cx} {k:Nat} {f C:Addr} {fd:FuncData} {ps:List Str} {sp:Sp} {E:XK} {x m:Str} {p pos apos:Pos} {e o:Expr} {es:List Expr} {ta:TE} {t:TA}
theorem EP.unwish {pins:List (Addr × Obj)} {σ:St} {Q:VK} {u:Value} {s':Shared} {F:Value → Shared → Prop} (h:EP (X.wish F) pins σ Q u s'):EP X pins σ Q u s':=by
 obtain ⟨v,H',I,r,q⟩:=h
 exact ⟨v,H',I.unwish,r,q⟩
theorem aHQ {pins:List (Addr × Obj)} {σ:St} {H:Hp} {s:Shared} {Q:VK} {us:List Value} {vs:List V} (F:FnOk X.prog X.w X.K X.mg X.base (CX2 X.prog X.w) k f fd ps sp) (hr:Room k X.A) (hb:gI X.K fd ps [])
  (I:Inv X pins σ H s) (r:bH vs us) (h:sp vs H Q E):wpAny (model X.prog X.w) X.A (call (.ref f) us) (EP X pins σ Q) (CAt X pins σ E) s:=by
 have I':Inv (X.wish (CAt X pins σ E)) pins σ H s:=I.wish _
 have hl:(us ++ []).length = ps.length:=by rw [List.append_nil,← r.length];exact F.len _ _ _ _ h
 have hb':=hb s us I.kIn hl
 rw [List.append_nil] at hb'
 refine wpAny_call (codeAny_mono (F.run X.A X.stack s H ⟨us,[]⟩ us vs Q E hr I.env0 hb' r h) fun z s' hq=>?_)
 cases z with
 | error e=>exact ⟨s,H,I,hq⟩
 | ok fl =>
  cases fl with
  | ret u=>exact I.after hq
  | next=>exact False.elim hq
  | brk=>exact False.elim hq
  | cont=>exact False.elim hq
theorem aCO {pins:List (Addr × Obj)} {σ:St} {H:Hp} {s:Shared} {Q:VK} {us:List Value} {vs:List V} (M:Mk X.K C f) (F:FnOk X.prog X.w X.K X.mg X.base (CX2 X.prog X.w) k f fd ps sp) (hr:Room (k + 1) X.A) (hb:gI X.K fd ps [])
  (I:Inv X pins σ H s) (r:bH vs us) (h:∀ x dx,H x = none → H dx = none → dx ≠ x → sp (.ref x :: vs) (upd (upd H dx (.own x)) x (.ins C dx [])) (fun v H2=>v = .non ∧ Q (.ref x) H2) E) :
  wpAny (model X.prog X.w) X.A (call (.ref C) us) (EP X pins σ Q) (CAt X pins σ E) s:=by
 have hq:=h (s.heap.objs.size + 1) s.heap.objs.size (I.hok.fresh (Nat.le_succ _)) (I.hok.fresh (Nat.le_refl _)) (Nat.ne_of_lt (Nat.lt_succ_self _))
 have I2:=Inv.made (C:=C) I
 have r2:bH (V.ref (s.heap.objs.size + 1) :: vs) (Value.ref (s.heap.objs.size + 1) :: us):=.cons rfl r
 have hl:(Value.ref (s.heap.objs.size + 1) :: us ++ []).length = ps.length:=by
  rw [List.append_nil,← r2.length]
  exact F.len _ _ _ _ hq
 have hb':=hb _ (Value.ref (s.heap.objs.size + 1) :: us) I2.kIn hl
 rw [List.append_nil] at hb'
 refine wpAny_call (yL (f:=f) I.kIn M.makes M.init (beq_iff_eq.mp M.fn) (codeAny_mono (F.run _ X.stack _ _ ⟨Value.ref (s.heap.objs.size + 1) :: us,[]⟩ (Value.ref (s.heap.objs.size + 1) :: us) _ _ E (hr.make C us [])
  (I2.env0.make C us []) hb' r2 hq) fun z s' hq'=>?_))
 cases z with
 | error e=>exact ⟨_,_,I2,hq'⟩
 | ok fl =>
  cases fl with
  | ret u =>
   obtain ⟨v,H',I3,rv,ev,q3⟩:=I2.after hq'
   subst ev
   exact ⟨rv,⟨V.ref (s.heap.objs.size + 1),H',I3,rfl,q3⟩⟩
  | next=>exact False.elim hq'
  | brk=>exact False.elim hq'
  | cont=>exact False.elim hq'
end
end L2
namespace L2
open PySem PySem.Spec PyProof.Rows
structure FcX (P:Program) (w:World) (K:PySem.W.Frag) (mg:Str → Option Value) (base:Heap) (k:Nat) (x:Str) (ps:List Str) (sp:Sp):Prop where
 ex:∃ (f:Addr) (fd:FuncData),FnOk P w K mg base (CX2 P w) k f fd ps sp ∧ gI K fd ps [] ∧ mg x = some (.ref f) ∧ PySem.W.keepIn K (.ref f) = true
structure McX (P:Program) (w:World) (K:PySem.W.Frag) (mg:Str → Option Value) (base:Heap) (k:Nat) (C:Addr) (m:Str) (ps:List Str) (sp:Sp):Prop where
 ex:∃ (f:Addr) (fd:FuncData),FnOk P w K mg base (CX2 P w) k f fd ps sp ∧ gI K fd ps [] ∧ Meth K C m f
structure IcX (P:Program) (w:World) (K:PySem.W.Frag) (mg:Str → Option Value) (base:Heap) (k:Nat) (C:Addr) (ps:List Str) (sp:Sp):Prop where
 ex:∃ (f:Addr) (fd:FuncData),FnOk P w K mg base (CX2 P w) k f fd ps sp ∧ gI K fd ps [] ∧ Mk K C f
section
variable {P:Program} {w:World} {K:PySem.W.Frag} {mg:Str → Option Value} {base:Heap} {C:Addr} {x m qual:Str} {st:Stmt} {N ps:List Str} {k:Nat} {sp sp':Sp}
theorem Fun.okX {f:Addr} {fd:FuncData} (F:Fun K x qual st f fd) (S:FnScope N ps (aF st)) (len:∀ vs H Q E,sp vs H Q E → vs.length = ps.length)
  (hbody:∀ (cdv:Value) (A:Around) (outer:List Env) (s:Shared) (H:Hp) (vs:List V) (Q:VK) (E:XK),Room k (A.deeper (envOfC qual (aF st) s.heap.objs.size f cdv)) → sp vs H Q E →
   ∃ t,PSs (kB (CX2 P w) P w K mg base N qual (aF st) f cdv A outer s H E) (aN st) t ∧ t { nx:=fun _ H'=>Q .non H',rt:=Q } (iB N vs) H):FnOk P w K mg base (CX2 P w) (k + 1) f fd ps sp:=by
 obtain ⟨oc,od,kV,doc,pm,an,cdv,ct,osl,rfl,lk,hcd⟩:=F.ex
 exact aJT lk hcd S len fun A outer s H vs Q E hr hsp=>hbody cdv A outer s H vs Q E hr hsp
theorem DefAt.fcX (D:DefAt K mg x st ps) (S:FnScope N ps (aF st)) (len:∀ vs H Q E,sp vs H Q E → vs.length = ps.length)
  (hbody:∀ (f:Addr) (cdv:Value) (A:Around) (outer:List Env) (s:Shared) (H:Hp) (vs:List V) (Q:VK) (E:XK),Room k (A.deeper (envOfC x (aF st) s.heap.objs.size f cdv)) → sp vs H Q E →
   ∃ t,PSs (kB (CX2 P w) P w K mg base N x (aF st) f cdv A outer s H E) (aN st) t ∧ t { nx:=fun _ H'=>Q .non H',rt:=Q } (iB N vs) H):FcX P w K mg base (k + 1) x ps sp:=by
 obtain ⟨f,fd,F,b,mm⟩:=D.ex
 exact ⟨f,fd,F.okX S len fun cdv A outer s H vs Q E hr h=>hbody f cdv A outer s H vs Q E hr h,b,mm,F.kp⟩
theorem MethAt.mcX (D:MethAt K C m qual st ps) (S:FnScope N ps (aF st)) (len:∀ vs H Q E,sp vs H Q E → vs.length = ps.length)
  (hbody:∀ (f:Addr) (cdv:Value) (A:Around) (outer:List Env) (s:Shared) (H:Hp) (vs:List V) (Q:VK) (E:XK),Room k (A.deeper (envOfC qual (aF st) s.heap.objs.size f cdv)) → sp vs H Q E →
   ∃ t,PSs (kB (CX2 P w) P w K mg base N qual (aF st) f cdv A outer s H E) (aN st) t ∧ t { nx:=fun _ H'=>Q .non H',rt:=Q } (iB N vs) H):McX P w K mg base (k + 1) C m ps sp:=by
 obtain ⟨f,fd,F,b,mm⟩:=D.ex
 exact ⟨f,fd,F.okX S len fun cdv A outer s H vs Q E hr h=>hbody f cdv A outer s H vs Q E hr h,b,mm⟩
theorem InitAt.icX (D:InitAt K C qual st ps) (S:FnScope N ps (aF st)) (len:∀ vs H Q E,sp vs H Q E → vs.length = ps.length)
  (hbody:∀ (f:Addr) (cdv:Value) (A:Around) (outer:List Env) (s:Shared) (H:Hp) (vs:List V) (Q:VK) (E:XK),Room k (A.deeper (envOfC qual (aF st) s.heap.objs.size f cdv)) → sp vs H Q E →
   ∃ t,PSs (kB (CX2 P w) P w K mg base N qual (aF st) f cdv A outer s H E) (aN st) t ∧ t { nx:=fun _ H'=>Q .non H',rt:=Q } (iB N vs) H):IcX P w K mg base (k + 1) C ps sp:=by
 obtain ⟨f,fd,F,b,mm⟩:=D.ex
 exact ⟨f,fd,F.okX S len fun cdv A outer s H vs Q E hr h=>hbody f cdv A outer s H vs Q E hr h,b,mm⟩
end
section
variable {X:Cx} {k:Nat} {C:Addr} {ps:List Str} {sp:Sp} {E:XK} {x m:Str} {p pos apos:Pos} {e o:Expr} {es:List Expr} {ta:TE} {t:TA}
theorem PA.cat {pins:List (Addr × Obj)} {σ:St} {H:Hp} {s:Shared} {Q:List V → Hp → Prop} {F:Value → Shared → Prop} (ha:PA X.nox es t) (I:Inv X pins σ H s) (h:t σ H Q):wpAny (model X.prog X.w) X.A (spliced (backTo pos (starEach es X.env))) (AP X pins σ Q) F s :=
 wpAny_mono (ha pos pins s σ H Q (I.wish _) h) (fun _ _ ⟨vs,H',I',r,q⟩=>⟨vs,H',I'.unwish,r,q⟩) fun _ _ z=>False.elim z
theorem PE.cat {pins:List (Addr × Obj)} {σ:St} {H:Hp} {s:Shared} {Q:VK} {F:Value → Shared → Prop} (ha:PE X.nox e ta) (I:Inv X pins σ H s) (h:ta σ H Q):wpAny (model X.prog X.w) X.A (eval e X.env) (EP X pins σ Q) F s :=
 wpAny_mono (ha pins s σ H Q (I.wish _) h) (fun _ _ z=>z.unwish) fun _ _ z=>False.elim z
theorem aMC (hm:X.mg x = some (.ref C)) (F:IcX X.prog X.w X.K X.mg X.base k C ps sp) (hr:Room (k + 1) X.A) (ha:PA X.nox (e :: es) t) (hg:Gl X x:=by rfl) (hdb:(x == ("__debug__":Str)) = false:=by decide)
  (he:starEach (e :: es) X.env = (false,eval e X.env) :: starEach es X.env:=by rfl) (hpl:(backTo pos (starEach es X.env)).any (·.1) = false:=by rfl) :
  PX X (.Call (.Name x p) (e :: es) [] pos) (fun E=>aEI C sp [] E t):=by
 intro pins s σ H Q E I h
 obtain ⟨f,fd,G,b,mm⟩:=F.ex
 refine wpAny_Call_Name_kw (nR I hg hm ?_ hdb)
 refine PySem.W.callWith_K (h₀:=X.base) I.ok.mod.kin mm.kp (thn (ha.cat I h) fun us s1 ⟨vs,H1,I1,r,q⟩=>⟨I1.kIn,?_⟩) he hpl
 simp only [List.append_nil] at q
 exact aCO mm G hr b I1 r q
theorem aMD {pl:Sem Bool} (c:Cls X.K C) (F:McX X.prog X.w X.K X.mg X.base k C m ps sp) (hr:Room k X.A) (ho:PE X.nox o ta) (ha:PA X.nox (e :: es) t)
  (hst:starEach (e :: es) X.env = (false,eval e X.env) :: starEach es X.env:=by rfl) (hpl:(backTo pos (starEach es X.env)).any (·.1) = false:=by rfl)
  (ht:eval (.Call (.Attribute o m apos) (e :: es) [] pos) X.env = (do
   let ov ← eval o X.env
   standAt apos.atName
   let (f,first) ← holding [ov] (getMethod ov m pl)
   callWith pos f first (backTo pos (starEach (e :: es) X.env)) (backToKw pos (keywordEach [] X.env))):=by rfl) :
  PX X (.Call (.Attribute o m apos) (e :: es) [] pos) (fun E=>xE C m sp [] E ta t):=by
 intro pins s σ H Q E I h
 obtain ⟨f,fd,G,b,mm⟩:=F.ex
 refine PySem.W.methodCall_KW (pl:=pl) (thn (ho.cat I h) fun u s1 ⟨y,H1,I1,ry,a,dx,fs,ex,ea,l,q⟩=>?_) ht
 subst ex
 obtain rfl:u = Value.ref a:=ry
 refine oT I1 ea c mm l ?_
 refine PySem.W.callWith_K (first:=[.ref a]) (h₀:=X.base) I.ok.mod.kin mm.kp (thn (ha.cat I1 q) fun us s2 ⟨vs,H2,I2,r,q2⟩=>⟨I2.kIn,?_⟩) hst hpl
 simp only [List.append_nil] at q2
 exact aHQ (us:=.ref a :: us) (vs:=.ref a :: vs) G hr b I2 (.cons rfl r) q2
abbrev TB:=XK → TS
def PB (X:Cx) (body:List Stmt) (t:TB):Prop :=
 ∀ (pins:List (Addr × Obj)) (s:Shared) (σ:St) (H:Hp) (D:Ends) (E:XK),Inv X pins σ H s → t E D σ H → wpAny (model X.prog X.w) X.A (execs body X.env) (SP X pins D) (CAt X pins σ E) s
theorem vY {t:TX} (he:PX X e t) (hs:swapsWith e none pos.line X.env = pure false:=by rfl):PB X [.Expr e pos] (fun E=>aJI (t E)):=by
 intro pins s σ H D E I h
 refine wpAny_execs_cons (wpAny_Expr_any (thn (he pins s σ H _ E I h) fun v s1 ⟨y,H1,I1,r1,q1⟩=>?_) I.quiet hs)
 exact wpAny_execs_nil ⟨σ,H1,I1,q1⟩
theorem aMG {c:Expr} {a b:List Stmt} {tc:TT} {ta tb:TB} (hc:PT X.nox c tc) (ha:PB X a ta) (hb:PB X b tb):PB X [.If c a b pos] (fun E=>aHL tc (ta E) (tb E)):=by
 intro pins s σ H D E I h
 have go:wpAny (model X.prog X.w) X.A (exec (.If c a b pos) X.env) (SP X pins D) (CAt X pins σ E) s:=by
  refine wpAny_If (wpAny_mono (hc pins s σ H _ (I.wish _) h) (fun d s1 ⟨H1,I1,q1⟩=>?_) fun _ _ z=>False.elim z)
  cases d with
  | true=>exact ha pins s1 σ H1 D E I1.unwish q1
  | false=>exact hb pins s1 σ H1 D E I1.unwish q1
 refine wpAny_execs_cons (thn go fun f s2 q=>?_)
 cases f with
 | next=>exact wpAny_execs_nil q
 | ret v=>exact q
 | brk=>exact q
 | cont=>exact q
end
end L2
namespace L2
open PySem PySem.Spec PyProof.Rows
abbrev Cx.held (X:Cx) (ea:Addr):Cx:={ X with A:=X.A.mark (some (.ref ea)),calm:=false,xe:=fun _ _=>False }
section
variable {X:Cx} {pins:List (Addr × Obj)} {σ:St} {H H':Hp} {s s':Shared} {ea:Addr}
theorem Cx.Ok.held (ok:X.Ok) (ea:Addr):(X.held ea).Ok :=
 ⟨ok.mod,ok.kind,ok.glob,ok.blt,ok.above,ok.inj,ok.has,ok.cab,fun z=>absurd z (by simp),ok.frames,ok.stk,ok.exf,ok.bs,ok.bsz,ok.noex,ok.exfs,ok.funs,ok.frf⟩
theorem Inv.held (I:Inv X pins σ H s) (ea:Addr):Inv (X.held ea) pins σ H s:=⟨I.ok.held ea,I.os,I.bare,I.base,I.loc,I.cell,I.free,I.freeC,I.pin,I.hok,I.len⟩
theorem Inv.unheld (ok:X.Ok) (I:Inv (X.held ea) pins σ H s):Inv X pins σ H s:=⟨ok,I.os,I.bare,I.base,I.loc,I.cell,I.free,I.freeC,I.pin,I.hok,I.len⟩
theorem SP.unheld (ok:X.Ok) {D:Ends} {f:Flow} (h:SP (X.held ea) pins D f s'):SP X pins D f s':=by
 cases f with
 | next=>obtain ⟨σ',H',I,q⟩:=h;exact ⟨σ',H',I.unheld ok,q⟩
 | brk=>obtain ⟨σ',H',I,q⟩:=h;exact ⟨σ',H',I.unheld ok,q⟩
 | cont=>obtain ⟨σ',H',I,q⟩:=h;exact ⟨σ',H',I.unheld ok,q⟩
 | ret u=>obtain ⟨v,σ',H',I,r,q⟩:=h;exact ⟨v,σ',H',I.unheld ok,r,q⟩
end
theorem aCZ {M:Model} {B h:Heap} {l:List Env} {ea:Addr} {cls a0:Value} (fl:Heap.FlyingW B l ea cls a0 h):PySem.W.Looks M h (typeOf (.ref ea)) cls:=by
 obtain ⟨ob,hob,hc⟩:=fl.there
 subst hc
 exact (PySem.W.Looks.ld hob).andThen .now
section
variable {X:Cx} {C:Addr} {x:Str} {np hpos pos:Pos} {body suite:List Stmt} {b₀:Stmt} {tb:TB} {ts:TS}
end
end L2
namespace L2
open PySem PySem.Spec PyProof.Rows
def aMV (a:Addr) (cls:Value) (h:Heap):Prop:=∃ o vs,h.get? a = some o ∧ o.cls = cls ∧ o.data = .fields vs
def nZ (a:Addr) (cls:Value):HO:=.ext (aMV a cls)
theorem Un.new {fs ex:List Addr} {H H':Hp} {h h':Heap} {a:Addr} {o:HO} (u:Un fs ex H H' h h') (n:H' a = none) (nn:h.get? a = none):Un fs ex H (upd H' a o) h h' where
 keep:=u.keep
 slot:=u.slot
 free:=fun b ob e nb hx=>by
  rw [aT (fun z=>by rw [z,nn] at e;cases e)]
  exact u.free b ob e nb hx
 there:=u.there
 tups:=fun b xs e=>by rw [aT (aQ (u.tups b xs e) n)];exact u.tups b xs e
 frzs:=fun b ob v e=>by rw [aT (aQ (u.frzs b ob v e) n)];exact u.frzs b ob v e
 tbls:=fun b ps e=>by
  obtain ⟨m,q⟩:=u.tbls b ps e
  exact ⟨m,by rw [aT (aQ q n)];exact q⟩
theorem HOk.new {P:Program} {w:World} {H:Hp} {h:Heap} {a:Addr} {o:HO} (ok:HOk P w H h) (n:H a = none) (new:cM P w (upd H a o) h a o):HOk P w (upd H a o) h:=fun b u e=>by
 by_cases hb:b = a
 ·subst hb
  rw [aB] at e
  cases e
  exact new
 ·rw [aT hb] at e
  exact (ok b u e).stay (fun _ _ _ q=>q) (fun c q=>by rw [aT (aQ q n)];exact q) fun c xs q=>by rw [aT (aQ q n)];exact q
section
variable {X:Cx} {pins:List (Addr × Obj)} {σ:St} {H H':Hp} {s s':Shared} {B h2:Heap} {ea:Addr} {cls a0:Value}
theorem aGO (I:Inv X pins σ H s) (os:s'.os = s.os) (bare:AllBare s'.gens) (u:Un (frs X.stack) [] H H' s.heap s'.heap) (ok:HOk X.prog X.w H' s'.heap) (hB:∀ b o o',s.heap.get? b = some o → s'.heap.get? b = some o' → b ∉ frs X.stack → B.get? b = some o')
  (hT:∀ b o',H' b ≠ none → s'.heap.get? b = some o' → B.get? b = some o') (fl:Heap.FlyingW B X.stack ea cls a0 h2) (us:s'.heap.UpToSlots h2):H' ea = none ∧ Inv X pins σ (upd H' ea (nZ ea cls)) { s' with heap:=h2 }:=by
 obtain ⟨oe,ws,he,hc,hd,_⟩:=fl.first
 have u2:=aGN I u hB fl.1 us
 have k2:=aBW (h2:=h2) ok hT fl.1
 have n:H' ea = none:=by
  cases q:H' ea with
  | none=>rfl
  | some o =>
   have q':H' ea ≠ none:=by rw [q];simp
   obtain ⟨o2,e2⟩:=ok.has q'
   have:=hT ea o2 q' e2
   rw [fl.2.1] at this
   cases this
 have nn:s.heap.get? ea = none:=by
  cases q:s.heap.get? ea with
  | none=>rfl
  | some o =>
   obtain ⟨o2,e2⟩:=u.there ea o q (by simp)
   by_cases hb:ea ∈ frs X.stack
   ·obtain ⟨_,o1,e1,nd⟩:=fl.2.2.1.mem hb
    rw [he] at e1
    cases e1
    exact absurd hd (nd ws)
   ·have:=hB ea o o2 q e2 hb
    rw [fl.2.1] at this
    cases this
 refine ⟨n,I.call' (s':={ s' with heap:=h2 }) (ch:=[]) os (u2.new n nn) (k2.new n ?_) bare fun b z=>absurd z (by simp)⟩
 exact ⟨⟨oe,ws,he,hc,hd⟩,⟨oe,he⟩,fun h1 h3 ⟨o,vs,e1,e2,e3⟩ k=>⟨o,vs,k o e1,e2,e3⟩⟩
theorem nQ {M:Model} {A:Around} {E:Value → Shared → Prop} {i:Nat} {n:Str} {pos:Pos} {Q:Unit → Shared → Prop} (I:Inv X pins σ H s) (hN:X.N.Nodup) (hi:X.N[i]? = some n) (hk:X.env.scope.names.lookup n = some .local)
  (h:∀ s',Inv X pins (σ.set i none) H s' → Q () s'):wpAny M A (do bindName X.env n .none;unbindBehindTheSuite X.env n pos) Q E s:=by
 obtain ⟨m,hn,hl⟩:=id I.loc
 have hcls:(X.env.scope.kind == .class || (X.env.scope.kind == .module && X.env.locals != X.env.globals)) = false:=by rw [I.ok.kind];rfl
 have hiσ:i < σ.length:=by rw [I.len];exact (List.getElem?_eq_some_iff.mp hi).1
 obtain ⟨oL,_,_,hoL,_⟩:=id hn
 have neL:∀ b o,X.s₀.heap.get? b = some o → b ≠ X.env.locals:=fun b o e=>Nat.ne_of_lt (Nat.lt_of_lt_of_le (Heap.lt_size e) I.ok.above)
 refine PySem.wpAny_nameGoes_keeps hk hn hcls fun h' v hn' hs=>h _ ?_
 refine ⟨I.ok,I.os,I.bare,⟨fun b o e nb hb hx=>?_,fun b o e nb hb hx=>?_,I.base.free,fun b o e hx=>?_,I.base.tups,I.base.frzs,I.base.tbls⟩,⟨_,hn',fun j y v' e1 e2 e3=>?_⟩,fun y c e=>?_,I.free,I.freeC,fun p hp=>?_,fun b ob e=>?_,by simpa using I.len⟩
 ·exact (hs.2 b (neL b o e)).trans (I.base.keep b o e nb hb hx)
 ·obtain ⟨sl,e1⟩:=I.base.slot b o e nb hb hx
  exact ⟨sl,(hs.2 b (neL b o e)).trans e1⟩
 ·obtain ⟨o',e1⟩:=I.base.there b o e hx
  exact ⟨o',(hs.2 b (neL b o e)).trans e1⟩
 ·have hj:j ≠ i:=fun z=>by
   subst z
   rw [List.getElem?_set_self hiσ] at e2
   cases e2
  rw [List.getElem?_set_ne (Ne.symm hj)] at e2
  obtain ⟨u',r',q⟩:=hl j y v' e1 e2 e3
  refine ⟨u',r',?_⟩
  rcases q with ⟨k,e⟩ | ⟨k,c,e,z⟩
  ·refine .inl ⟨k,?_⟩
   have ny:y ≠ n:=fun z=>hj (tD hN e1 (z ▸ hi))
   show (if y = n then v else m y) = some u'
   rw [if_neg ny]
   exact e
  ·exact .inr ⟨k,c,e,z.sameBut hs (I.cne y c e)⟩
 ·obtain ⟨w',z⟩:=I.cell y c e
  exact ⟨w',z.sameBut hs (I.cne y c e)⟩
 ·obtain ⟨e,nb,ne,nf,d⟩:=I.pin p hp
  exact ⟨(hs.2 p.1 ne).trans e,nb,ne,nf,d⟩
 ·refine (I.hok b ob e).stay (fun c w' hc q=>(hs.2 c ?_).trans q) (fun _ q=>q) fun _ _ q=>q
  rintro rfl
  rcases hc with rfl | hc
  ·rw [I.free] at e;cases e
  ·rw [I.free] at hc;cases hc
end
section
variable {X:Cx} {C:Addr} {x n:Str} {np hpos pos:Pos} {body suite:List Stmt} {b₀:Stmt} {tb:TB} {ts:TS} {i:Nat}
def Ends.gone (D:Ends) (i:Nat):Ends:={ nx:=fun σ H=>D.nx (σ.set i none) H,rt:=D.rt,bk:=fun σ H=>D.bk (σ.set i none) H,ct:=fun σ H=>D.ct (σ.set i none) H }
def aLL (K:PySem.W.Frag) (C:Addr) (i:Nat) (tb:TB) (ts:TS):TS:=fun D σ H=>tb (fun cls _ H1=>PySem.W.exmOne K cls (.ref C) = some true ∧ ∀ ea,H1 ea = none → ts (D.gone i) (σ.set i (some (.ref ea))) (upd H1 ea (nZ ea cls))) D σ H
theorem aBK (hN:X.N.Nodup) (hi:X.N[i]? = some n) (hk:X.env.scope.names.lookup n = some .local) (hm:X.mg x = some (.ref C)) (hb:PB X body tb) (hs:∀ ea,PSs (X.held ea) (b₀ :: suite) ts) (hg:Gl X x:=by rfl) (hdb:(x == ("__debug__":Str)) = false:=by decide)
  (hst:X.stack = X.env :: X.outer:=by rfl) (hf:X.env.frame = some X.env.locals:=by rfl) :
  PS X (.Try body [.ExceptHandler (some (.Name x np)) (some n) (b₀ :: suite) hpos] [] [] pos) (aLL X.K C i tb ts):=by
 intro pins s σ H D I h
 refine wpAny_Try_except (wpAny_mono (hb pins s σ H D _ I h) (fun f s1 q=>?_) fun e s1 q=>?_)
 ·cases f with
  | next=>exact wpAny_execs_nil q
  | ret v=>exact q
  | brk=>exact q
  | cont=>exact q
 ·obtain ⟨s0,H0,I0,ea,cls,a0,B,H',rfl,os,bare,u,ok,fl,hB,hT,em,q⟩:=q
  have hfr:X.A.frames = some (X.env :: X.outer):=hst ▸ I.ok.frames
  have fl':Heap.FlyingW B (X.env :: X.outer) ea cls a0 s1.heap:=hst ▸ fl
  refine wpAny_looks_onW hfr hf fl' fun h4 held us4=>?_
  refine wpAny_landsW held fun h5 fl5 us5=>?_
  have J5:=aBV I0 os bare u ok hB hT fl5.1 (us4.trans us5)
  refine wpAny_handleBy_cons (codeAny_handlers_test (nR (X:=X.held ea) (J5.held ea) hg hm ?_ hdb)) (by intro z;cases z)
  refine (PySem.W.exm_one J5.kIn (aCZ fl5) em).here ?_
  refine codeAny_handlers_suite_as ?_
  refine lands_againW fl5 fun h6 fl6 us6=>?_
  obtain ⟨n6,J6⟩:=aGO I0 os bare u ok hB hT (hst.symm ▸ fl6) ((us4.trans us5).trans us6)
  refine rV (X:=X.held ea) (i:=i) (v:=.ref ea) (J6.held ea) hN hi (.inl hk) rfl (fun s7 I7=>?_) (.inr hk)
  refine wpAny_mono (hs ea pins s7 _ _ (D.gone i) I7 (q ea n6)) (fun f s8 z=>?_) fun _ _ z=>False.elim z
  have z':=z.unheld (X:=X) I.ok
  cases f with
  | next =>
   obtain ⟨σ',H2,I2,q2⟩:=z'
   exact nQ I2 hN hi hk fun s9 I9=>⟨_,H2,I9,q2⟩
  | brk =>
   obtain ⟨σ',H2,I2,q2⟩:=z'
   exact nQ I2 hN hi hk fun s9 I9=>⟨_,H2,I9,q2⟩
  | cont =>
   obtain ⟨σ',H2,I2,q2⟩:=z'
   exact nQ I2 hN hi hk fun s9 I9=>⟨_,H2,I9,q2⟩
  | ret v =>
   obtain ⟨y,σ',H2,I2,r2,q2⟩:=z'
   exact nQ I2 hN hi hk fun s9 I9=>⟨y,_,H2,I9,r2,q2⟩
end
end L2
namespace L2
open PySem PySem.Spec PyProof.Rows
section
open PySem.W PySem.Calls PySem.Builtin PySem.Builtin.ObjectAttr PySem.Builtin.Getset_descriptor
variable {prog:Program} {w:World} {A:Around} {E:Value → Shared → Prop} {s:Shared} {K:PySem.W.Frag} {x C:Addr}
theorem zW {M:Model} {h:Heap} {a g:Value} {name:Str} (X:K.In h) (ha:findIn K (.ref C) name = some (some a)) (hg:specialIn K a "__get__" = some (some g)) (ht:takesIn K a = some true) :
  Looks M h (find (.ref x) (.ref C) name) (.bind g a) :=
 (looks_findIn (M:=M) X ha).andThen ((show Looks M h (getOf (some a)) (some g) from looks_specialIn X hg).andThen
  ((show Looks M h (dataDescriptor? (some a) (some g)) (some (g,a)) from (looks_takesIn (M:=M) X ht).andThen .now).andThen (Looks.tag .now)))
theorem aHC {R:Result → Shared → Prop} {tp:Value} (X:K.In s.heap) (L0:Looks (model prog w) s.heap (typeOf (.ref x)) (.ref C)) (hm:mroIn K C (.type "object") = some true) (h:R (.ok (.ret (.ref C))) s) :
  codeAny (model prog w) A (.call (.builtin "getset_descriptor.__get__") ⟨[.builtin "object.__class__",.ref x,tp],[]⟩) R s:=by
 have L1:=looks_mroIn (M:=model prog w) X hm
 obtain ⟨h2,g2,d2,t2,o2⟩:=s
 refine codeAny_call_builtin KF.slot_gs.plain KF.entry_gs (KF.slot_gs.check _ _ _ _ _ _ _ _ KF.type_class (KF.args_gs _ _ _) (?_))
 unfold Builtin.«getset_descriptor.__get__»
 unfold descrGet;rw [dga_obj];refine wpAny_bind (wpAny_pure ?_)
 unfold descrGetter descrCheckInstance;unfold descrNameAndClass isInstance
 simp only [KF.owner_class]
 repeat lk
 refine ⟨Code.quiet_builtin _ (by decide +kernel),(codeAny_builtin KF.entry_class ?_)⟩
 unfold Builtin.«object.__class__»;unfold shownTypeOf
 repeat lk
 exact h
end
structure ExA (K:PySem.W.Frag) (C:Addr):Prop where
 ex:ExcC K C
 em:PySem.W.exmOne K (.ref C) (.ref C) = some true
structure ExI (K:PySem.W.Frag) (C:Addr):Prop extends ExA K C where
 pg:PySem.W.plainGet K C "__class__" = true
 ic:InstC K C
end L2
namespace L2
open PySem PySem.Spec PyProof.Rows
section
open PySem.W PySem.Calls PySem.Builtin PySem.Builtin.ObjectAttr PySem.Builtin.Getset_descriptor
variable {prog:Program} {w:World} {A:Around} {E:Value → Shared → Prop} {s:Shared} {K:PySem.W.Frag} {x C:Addr}
theorem wT {Q:Option Value → Shared → Prop} (X:K.In s.heap) (L0:Looks (model prog w) s.heap (typeOf (.ref x)) (.ref C)) (hga:findIn K (.ref C) "__getattribute__" = some (some (.builtin "BaseException.__getattribute__"))) (hgt:findIn K (.ref C) "__getattr__" = some none)
  (hB:mroIn K C (.type "BaseException") = some true) (I:InstC K C) (h:Q (some (.ref C)) { s with toks:=s.toks + 1 }):wpAny (model prog w) A (getAttr? (.ref x) "__class__") Q E s:=by
 have LG:=looks_findIn (M:=model prog w) X hga
 have LF:=zW (M:=model prog w) (x:=x) X I.ha I.hn I.htk
 have LH:=looks_findIn (M:=model prog w) X hgt
 have LB:=looks_mroIn (M:=model prog w) X hB
 have X':=X
 obtain ⟨h2,g2,d2,t2,o2⟩:=s
 unfold getAttr?;unfold getAttrBy?;unfold getAttrBy
 refine wpAny_bind (wpAny_mkText (wpAny_bind (wpAny_attempt (wpAny_holding (wpAny_bind (L0.at (wpAny_bind (LG.at (?_)))))))))
 have hx2:(Value.builtin "BaseException.__getattribute__" == Value.builtin "object.__getattribute__") = false:=by decide +kernel
 dsimp only
 rw [hx2,Bool.and_false,if_neg Bool.false_ne_true]
 unfold getAttrByItsOwn hookBefore
 refine wpAny_bind (show wpAny _ _ (typeLookup (.ref C) "__getattr__") _ _ _ from LH.at ?_)
 refine wpAny_bind (wpAny_attempt (wpAny_holding ?_))
 show wpAny _ _ (boundAndCalled _ _ _) _ _ _
 unfold boundAndCalled
 refine wpAny_bind (wpAny_of_eq (PySem.F.attr_ValueError.ga.bind (.ref x)) ?_)
 show wpAny _ _ (call (.builtin "BaseException.__getattribute__") [.ref x,.str "__class__" t2]) _ _ _
 refine wpAny_call (codeAny_call_builtin PySem.F.attr_ValueError.ga.plain F.entry_bexc_ga ?_)
 have hk:builtinKind "BaseException.__getattribute__" = some .slot:=by decide +kernel
 have hsp:splitId "BaseException.__getattribute__" = some ("BaseException","__getattribute__"):=by decide +kernel
 have hargs:=F.args_bexc_ga (.ref x) (.str "__class__" t2)
 simp only [checkBuiltinCall,hk,hsp]
 refine wpAny_bind ?_
 unfold isInstance
 refine wpAny_bind (L0.at (LB.at ?_))
 rw [if_neg (by decide)]
 refine wpAny_of_eq hargs ?_
 unfold Builtin.«object.__getattribute__»
 refine wpAny_bind (wpAny_pure ?_)
 refine wpAny_bind (wpAny_pure ?_)
 refine wpAny_bind (L0.at ?_)
 refine wpAny_bind (LF.at ?_)
 dsimp only
 show wpAny _ _ (holding [.builtin "object.__class__"] (call (.builtin "getset_descriptor.__get__") [.builtin "object.__class__",.ref x,.ref C]) >>= ret) _ _ _
 refine wpAny_bind (wpAny_holding (wpAny_call (aHC (s:=⟨h2,g2,d2,t2 + 1,o2⟩) X' L0 I.hm (?_))))
 refine wpAny_pure ?_
 dsimp only
 exact handed_on rfl (wpAny_pure h)
end
structure ExJ (K:PySem.W.Frag) (C:Addr):Prop extends ExA K C where
 ga:PySem.W.findIn K (.ref C) "__getattribute__" = some (some (.builtin "BaseException.__getattribute__"))
 gt:PySem.W.findIn K (.ref C) "__getattr__" = some none
 mb:PySem.W.mroIn K C (.type "BaseException") = some true
 ic:InstC K C
theorem aFY {K:PySem.W.Frag} {a C:Addr} (e:ExJ K C):PySem.W.KitX K (.ref a) (.ref C) (aMV a (.ref C)) where
 ty:=fun M h X ⟨o,vs,q,c,d⟩=>c ▸ (PySem.W.Looks.ld q).andThen .now
 it:=fun M h X _=>by
  have q:=e.em
  unfold PySem.W.exmOne at q
  split at q
  ·exact (PySem.W.kit_cls (M:=M) X q).2.1
  ·cases q
 ne:=fun h tp dd its n sl X htp=>by
  obtain ⟨tl,N,nm,qn,bs,hdct,sn,sub,ab,col,d2,k0,k1,k2,k3,k5,mN,hC,_⟩:=(e.ex.own (x:="") (mg:=fun _=>some (.ref C)) X rfl).obj
  refine Bool.eq_false_iff.mpr fun q=>?_
  have z:C = tp:=Value.ref.inj (beq_iff_eq.mp q)
  rw [z,htp] at hC
  have w:=congrArg Obj.data (Option.some.inj hC)
  exact absurd w (by intro w;cases w)
 ca:=fun X ⟨o,vs,q,c,d⟩ k=>wT X (c ▸ (PySem.W.Looks.ld q).andThen .now) e.ga e.gt e.mb e.ic k
theorem fI {X:Cx} {K:PySem.W.Frag} (eK:X.K = K):gH X (.builtin "isinstance") (fun xs H Q=>∃ a y c C b,xs = [.ref a,y] ∧ aIX y = some c ∧ H a = some (nZ a (.ref C)) ∧ ExJ K C ∧ PySem.W.kitOne K (.ref C) c = some b ∧ Q (.bl b) H):=by
 subst eK
 intro pins s σ H xs us Q I r h
 obtain ⟨a,y,c,C,b,rfl,hc,ha,e,k,q⟩:=h
 obtain ⟨u,v,rfl,ru,rv⟩:=bH.two r
 obtain rfl:=yX hc rv
 cases ru
 obtain ⟨p,_,_⟩:=(show cM X.prog X.w H s.heap a (nZ a (.ref C)) from I.hok a _ ha)
 exact PySem.W.kia_one (aFY e) I.kIn p k (fun z=>nomatch z) fun tk=>⟨.bl b,H,I.tok tk,rfl,q⟩
end L2
namespace L2
open PySem PySem.Spec PyProof.Rows
section
variable {X:Cx} {k:Nat} {ps:List Str} {sp:Sp} {x:Str} {p pos:Pos} {e:Expr} {es:List Expr} {t:TA} {E:XK}
theorem aMF (F:FcX X.prog X.w X.K X.mg X.base k x ps sp) (hr:Room k X.A) (hx:lP (CX2 X.prog X.w) X E) (ha:PA X (e :: es) t) (hg:Gl X x:=by rfl) (hdb:(x == ("__debug__":Str)) = false:=by decide)
  (he:starEach (e :: es) X.env = (false,eval e X.env) :: starEach es X.env:=by rfl) (hpl:(backTo pos (starEach es X.env)).any (·.1) = false:=by rfl):PE X (.Call (.Name x p) (e :: es) [] pos) (aEL sp [] E t):=by
 obtain ⟨f,fd,G,b,m,kp⟩:=F.ex
 exact aBO G hr hg m kp b .nil hx ha hdb he hpl
end
end L2
namespace L2
open PySem PySem.Spec PyProof.Rows
section
variable {X:Cx} {tg:Expr}
end
end L2
namespace L2
open PySem PySem.Spec PyProof.Rows
def Itw (d:Addr) (o:Obj) (kvs:List (Key × V)):It :=
 ⟨fun i H=>H d = some (.frz o (.dK kvs)) ∧ i < kvs.length,fun i H x H'=>H' = H ∧ ∃ kv,kvs[i]? = some kv ∧ x = kv.2,fun i H=>H d = some (.frz o (.dK kvs)) ∧ kvs.length ≤ i⟩
section
variable {X:Cx} {tg:Expr}
end
end L2
namespace L2
open PySem PySem.Spec PyProof.Rows
def aJC (H:Hp):List Addr → List (Key × V) → Prop
 | [],kvs=>kvs = []
 | a :: as,kvs=>∃ k v r,kvs = (k,v) :: r ∧ H a = some (.tup [kV k,v]) ∧ aJC H as r
section
variable {P:Program} {w:World} {fs:List Addr} {H0 H:Hp} {h h':Heap}
end
section
variable {X:Cx}
def aFL:V → Bool
 | .int _=>true
 | .non=>true
 | _=>false
theorem aFK {v:V} (h:aFL v = true) {H:Hp}:∃ d,Is H d v ∧ aV 30 d = true ∧ deq d d = true:=by
 cases v with
 | int i=>exact ⟨.int i,rfl,rfl,mZ 30 _ rfl⟩
 | non=>exact ⟨.non,rfl,rfl,mZ 30 _ rfl⟩
 | _=>cases h
theorem aKN (hu:X.A.units + 64 < cLine):OpR X (compareOp .Eq) (fun x y H Q=>∃ (a b:Addr) (kvs:List (Key × V)),x = .ref a ∧ y = .ref b ∧ Rd H a (.dK kvs) ∧ Rd H b (.dK kvs) ∧ (∀ p ∈ kvs,aFL p.2 = true) ∧ Q (.bl true) H):=by
 intro pins s σ H x y v u Q I rx ry h
 obtain ⟨a,b,kvs,rfl,rfl,ha,hb,hp,q⟩:=h
 cases rx
 cases ry
 obtain ⟨hz,lo,ws,kv,hD⟩:=ha.ok I.hok
 obtain ⟨hz2,lo2,ws2,kv2,hD2⟩:=hb.ok I.hok
 have nd:(ws2.map (·.1)).Nodup:=by
  obtain ⟨_,_,_,_,_,_,_,_,hn⟩:=hD2
  exact hn
 have l1:=KV.length kv
 have l2:=KV.length kv2
 have hits:∀ (n:Nat),n ≤ ws.length → PySem.W.KeqHits X.A.in1 s ws2 (ws.drop (ws.length - n)) true:=fun n=>by
  induction n with
  | zero=>intro _;rw [Nat.sub_zero,List.drop_length];exact .nil
  | succ n ih =>
   intro hn
   have hi:ws.length - (n + 1) < ws.length:=by omega
   rw [List.drop_eq_getElem_cons hi]
   have e1:ws.length - (n + 1) + 1 = ws.length - n:=by omega
   rw [e1]
   obtain ⟨⟨k1,v1⟩,f1⟩:∃ p,ws[ws.length - (n + 1)]? = some p:=⟨_,List.getElem?_eq_getElem hi⟩
   obtain ⟨⟨k2,v2⟩,f2⟩:∃ p,ws2[ws.length - (n + 1)]? = some p:=⟨_,List.getElem?_eq_getElem (by omega)⟩
   obtain ⟨p1,g1,c1,r1⟩:=KV.get kv f1
   obtain ⟨p2,g2,c2,r2⟩:=KV.get kv2 f2
   rw [g1] at g2
   cases g2
   have ek:k1 = k2:=c1.symm.trans c2
   subst ek
   have eg:ws[ws.length - (n + 1)] = (k1,v1):=by
    rw [List.getElem?_eq_getElem hi] at f1
    exact Option.some.inj f1
   rw [eg]
   obtain ⟨d,i1,fd,dd⟩:=aFK (hp p1 (List.mem_of_getElem? g1)) (H:=H)
   have at1:=Is.eqAt I 30 d d p1.2 p1.2 v1 v2 X.A.in1 (by have:X.A.in1.units = X.A.units + 1:=rfl;omega) fd fd i1 i1 r1 r2
   rw [dd] at at1
   exact .hit (e:=true) (b:=true) (valueAt_of_get nd f2) at1 (ih (by omega))
 refine PySem.W.keq_eq (r:=true) lo lo2 hD hD2 (by omega) (fun _=>by have:=hits ws.length (Nat.le_refl _);rwa [Nat.sub_self,List.drop_zero] at this) ?_
 rw [show (ws.length == ws2.length) = true from beq_iff_eq.mpr (by omega)]
 exact ⟨.bl true,H,I,rfl,q⟩
end
end L2
namespace L2
open PySem PySem.Spec PyProof.Rows
section
variable {X:Cx} {o:Expr} {to:TE} {name:Str} {apos cpos:Pos} {id:String} {r:V → List V → Hp → VK → Prop}
end
end L2
namespace L2
open PySem PySem.Spec PyProof.Rows
section
variable {X:Cx}
theorem tZ:gH X (.type "dict") (fun xs H Q=>∃ (p:Addr) (kvs:List (Key × V)),xs = [.ref p] ∧ H p = some (.dK kvs) ∧ ∀ l,H l = none → Q (.ref l) (upd H l (.dK kvs))):=by
 intro pins s σ H xs us Q I r h
 obtain ⟨p,kvs,rfl,hp,q⟩:=h
 obtain ⟨u,rfl,ru⟩:=bH.one r
 cases ru
 obtain ⟨hz,lo,ws,kv,hD⟩:=(show cM X.prog X.w H s.heap p (.dK kvs) from I.hok p _ hp)
 have l1:=KV.length kv
 refine kt_call_dict lo hD (by omega) fun h' hD' hs=>?_
 have k:∀ b o,s.heap.get? b = some o → h'.get? b = some o:=fun b o e=>(hs.2 b (Nat.ne_of_lt (Heap.lt_size e))).trans (Heap.get?_push_of_some _ e)
 refine ⟨.ref s.heap.objs.size,_,I.laid (t':=s.toks) k (Nat.le_refl _) (show cM X.prog X.w _ h' _ (.dK kvs) from ⟨hz,?_,ws,kv,hD'⟩),rfl,q _ (I.hok.fresh (Nat.le_refl _))⟩
 have b:=I.big
 exact beq_eq_false_iff_ne.mpr (Nat.ne_of_gt b)
end
end L2
namespace Mt46
open PySem L2 Ld Mt21
def units:List Int:=[1,3,5,7,9,11,15,17,19,21,23,25]
theorem aEE:∀ u ∈ units,∀ d ∈ List.range 26,d ≠ 0 → ((d:Int) * u) % 26 ≠ 0:=by decide +kernel
theorem aLF {i j:Int} (e:ab i = ab j):i % 26 = j % 26:=by
 unfold ab at e
 have h1:=Int.emod_nonneg i (show (26:Int) ≠ 0 by decide)
 have h2:=Int.emod_nonneg j (show (26:Int) ≠ 0 by decide)
 omega
theorem aAP {u r:Int} (hu:u ∈ units) {k l:Nat} (hl:l < 26) (h:k < l) (e:ab ((k:Int) * u + r) = ab ((l:Int) * u + r)):False:=by
 have e1:=(Int.emod_eq_emod_iff_emod_sub_eq_zero).mp (aLF e.symm)
 have e2:(l:Int) * u + r - ((k:Int) * u + r) = ((l - k:Nat):Int) * u:=by
  rw [Int.ofNat_sub (by omega),Int.sub_mul]
  omega
 rw [e2] at e1
 exact aEE u hu (l - k) (List.mem_range.mpr (by omega)) (by omega) e1
theorem aEF {u r:Int} (hu:u ∈ units) {k l:Nat} (hk:k < 26) (hl:l < 26) (e:ab ((k:Int) * u + r) = ab ((l:Int) * u + r)):k = l:=by
 rcases Nat.lt_trichotomy k l with h | h | h
 ·exact (aAP hu hl h e).elim
 ·exact h
 ·exact (aAP hu hk h e.symm).elim
theorem zX (a:Str):∀ l:List Str,l.Nodup → l.length ≤ (l.filter fun z=>!decide (z = a)).length + 1
 | [],_=>by simp
 | z :: l,nd=>by
  rw [List.nodup_cons] at nd
  by_cases h:z = a
  ·have e:(l.filter fun z=>!decide (z = a)) = l:=by
    rw [List.filter_eq_self]
    intro y my
    have:y ≠ a:=fun e=>nd.1 (by rw [h,← e];exact my)
    simp [this]
   rw [List.filter_cons_of_neg (by simp [h]),e]
   simp
  ·rw [List.filter_cons_of_pos (by simp [h])]
   have:=zX a l nd.2
   simp only [List.length_cons]
   omega
structure Nm (zs:List Str):Prop where
 nd:zs.Nodup
 nm:∀ z ∈ zs,fC z = true
 l1:25 ≤ zs.length
 l2:zs.length ≤ 26
theorem aMJ {b:Str} {sz pl:Nat} {u r:Int} {g:Nat → Str} (hb:b.cps.toList.all hE = true) (hl:b.length = sz) (h1:1 ≤ sz) (h8:sz ≤ 8) (hp:pl < sz) (hu:u ∈ units)
  (pu:∀ k,k < 26 → (g k).cps.toList = b.cps.toList.take pl ++ [ab ((k:Int) * u + r)] ++ b.cps.toList.drop (pl + 1)):Nm (((List.range 26).map g).filter fun z=>!decide (z = "sea")):=by
 have bl:b.cps.toList.length = sz:=by rw [← iU];exact hl
 have lg:∀ k,k < 26 → (g k).length = sz:=fun k hk=>by
  rw [iU,pu k hk,List.length_append,List.length_append,List.length_take,List.length_drop,bl]
  show min pl sz + 1 + (sz - (pl + 1)) = sz
  omega
 have nd:((List.range 26).map g).Nodup:=yG fun k l hk hl e=>by
  have e1:(g k).cps.toList = (g l).cps.toList:=by rw [e]
  rw [pu k hk,pu l hl,List.append_assoc,List.append_assoc] at e1
  have e2:=List.append_cancel_left e1
  rw [List.singleton_append,List.singleton_append] at e2
  exact aEF hu hk hl (List.cons.inj e2).1
 have ln:=zX "sea" _ nd
 rw [List.length_map,List.length_range] at ln
 have lf:=List.length_filter_le (fun z=>!decide (z = ("sea":Str))) ((List.range 26).map g)
 rw [List.length_map,List.length_range] at lf
 refine ⟨nd.sublist List.filter_sublist,fun z mz=>?_,by omega,lf⟩
 obtain ⟨m1,m2⟩:=List.mem_filter.mp mz
 obtain ⟨k,mk,rfl⟩:=List.mem_map.mp m1
 have hk:=List.mem_range.mp mk
 have all:(g k).cps.toList.all hE = true:=by
  rw [pu k hk,List.all_append,List.all_append]
  have hb':=List.all_eq_true.mp hb
  rw [List.all_eq_true.mpr fun x m=>hb' x (List.mem_of_mem_take m),List.all_eq_true.mpr fun x m=>hb' x (List.mem_of_mem_drop m)]
  simp [vM]
 unfold fC
 rw [lg k hk,decide_eq_true h1,decide_eq_true h8,m2,all]
 rfl
theorem aNZ {i:Int} (h0:0 ≤ i) (h1:i < 12):∃ u ∈ units,atI ([.int 1,.int 3,.int 5,.int 7,.int 9,.int 11,.int 15,.int 17,.int 19,.int 21,.int 23,.int 25]:List V) i = some (.int u):=by
 obtain ⟨k,rfl⟩:=Int.eq_ofNat_of_zero_le h0
 have hk:k < 12:=by omega
 have hk2:k < units.length:=hk
 refine ⟨units[k],List.getElem_mem hk2,aK ?_⟩
 show (units.map V.int)[k]? = some (V.int units[k])
 rw [List.getElem?_map,List.getElem?_eq_getElem hk2]
 rfl
end Mt46
namespace L2
open PySem PySem.Spec PyProof.Rows
section
variable {prog:Program} {w:World} {A:Around} {E:Value → Shared → Prop} {s:Shared}
end
section
variable {X:Cx} {pos:Pos}
end
end L2
namespace L2
open PySem PySem.Spec PyProof.Rows
section
variable {X:Cx} {K:PySem.W.Frag}
theorem sO {ex:Expr} {T:String} {r:V → List V → Hp → VK → Prop} {to:TE} {ta:TA} (e:X.K = K) (h:PE X ex (tBM X.K T r to ta)):PE X ex (tBM K T r to ta):=e ▸ h
theorem bV {tg l:Expr} {tl:TE} (e:X.K = K) (h:PI X tg l (aGG X.K tl)):PI X tg l (aGG K tl):=e ▸ h
theorem zM {pos:Pos} {es:List Expr} {k n:Nat} {t:TGs} (e:X.K = K) (m:Nat) (en:n = m) (h:PG X (.Tuple es k pos) (aGM X.K n t)):PG X (.Tuple es k pos) (aGM K m t):=by
 subst e
 subst en
 exact h
theorem yN {i:Nat} {v:V} {tb:TS} {D:Ends} {σ:St} {H:Hp} (h:∀ D':Ends,(∀ σ' H',D.nx σ' H' → D'.nx σ' H') → tb D' (σ.set i (some v)) H):oH i v σ H fun σ2 H2=>tb D σ2 H2:=h D fun _ _ x=>x
theorem aEJ {g:TG} {x:V} {tb:TS} {D:Ends} {σ:St} {H:Hp} (h:∀ D':Ends,(∀ σ' H',D.nx σ' H' → D'.nx σ' H') → g x σ H fun σ2 H2=>tb D' σ2 H2):g x σ H fun σ2 H2=>tb D σ2 H2:=h D fun _ _ x=>x
theorem kD {a b:TS} {D:Ends} {σ:St} {H:Hp} (h:∀ u:TS,(∀ D' σ' H',b D' σ' H' → u D' σ' H') → iA a u D σ H):iA a b D σ H:=h b fun _ _ _ x=>x
theorem xT {a1 a2 b:TS} {D:Ends} {σ:St} {H:Hp} (h:∀ u:TS,(∀ D' σ' H',b D' σ' H' → u D' σ' H') → iA a1 (iA a2 u) D σ H):iA a1 (iA a2 b) D σ H:=h b fun _ _ _ x=>x
theorem xS {a1 a2 a3 b:TS} {D:Ends} {σ:St} {H:Hp} (h:∀ u:TS,(∀ D' σ' H',b D' σ' H' → u D' σ' H') → iA a1 (iA a2 (iA a3 u)) D σ H):iA a1 (iA a2 (iA a3 b)) D σ H:=h b fun _ _ _ x=>x
theorem xR {a1 a2 a3 a4 b:TS} {D:Ends} {σ:St} {H:Hp} (h:∀ u:TS,(∀ D' σ' H',b D' σ' H' → u D' σ' H') → iA a1 (iA a2 (iA a3 (iA a4 u))) D σ H):iA a1 (iA a2 (iA a3 (iA a4 b))) D σ H:=h b fun _ _ _ x=>x
end
end L2
namespace Mt46
open PySem L2 Ld Mt21
def noSuch:Str:="nosuchxx"
theorem wF:noSuch.cps.toList = [110,111,115,117,99,104,120,120]:=by decide +kernel
theorem aLE {i:Int} {n:Nat} (h:ab i = n) (h1:97 ≤ n):i % 26 = (n:Int) - 97:=by
 unfold ab at h
 have h0:=Int.emod_nonneg i (show (26:Int) ≠ 0 by decide)
 omega
theorem aIH {b s:Str} {sz pl:Nat} {q:Int} {x:Nat} (bc:b.cps.toList = (List.range sz).map fun (j:Nat)=>ab (q + (j:Int) * (j:Int))) (hp:pl < sz) (h8:sz ≤ 8) (hs:s.cps.toList = b.cps.toList.take pl ++ [x] ++ b.cps.toList.drop (pl + 1)):s ≠ noSuch:=fun e=>by
 have e1:s.cps.toList = [110,111,115,117,99,104,120,120]:=by rw [e];exact wF
 have l1:s.cps.toList.length = sz:=by
  rw [hs,List.length_append,List.length_append,List.length_take,List.length_drop,bc,List.length_map,List.length_range]
  show min pl sz + 1 + (sz - (pl + 1)) = sz
  omega
 have l8:sz = 8:=by rw [← l1,e1];rfl
 subst l8
 have get:∀ j:Nat,j < 8 → j ≠ pl → s.cps.toList[j]? = some (ab (q + (j:Int) * (j:Int))):=fun j hj hn=>by
  have hb:b.cps.toList[j]? = some (ab (q + (j:Int) * (j:Int))):=by
   rw [bc,List.getElem?_map,List.getElem?_range hj]
   rfl
  have lb:b.cps.toList.length = 8:=by rw [bc,List.length_map,List.length_range]
  rw [hs]
  by_cases h:j < pl
  ·rw [List.append_assoc,List.getElem?_append_left (by rw [List.length_take,lb];omega),List.getElem?_take,if_pos h]
   exact hb
  ·rw [List.getElem?_append_right (by rw [List.length_append,List.length_take,lb];show min pl 8 + 1 ≤ j;omega),List.length_append,List.length_take,lb,List.getElem?_drop]
   show b.cps.toList[pl + 1 + (j - (min pl 8 + 1))]? = _
   rw [show pl + 1 + (j - (min pl 8 + 1)) = j by omega]
   exact hb
 have at':∀ (j n:Nat),j < 8 → j ≠ pl → ([110,111,115,117,99,104,120,120]:List Nat)[j]? = some n → 97 ≤ n → (q + (j:Int) * (j:Int)) % 26 = (n:Int) - 97:=fun j n hj hn he h1=>by
  have:=get j hj hn
  rw [e1,he] at this
  exact aLE (Option.some.inj this).symm h1
 by_cases p1:pl = 1
 ·have a0:=at' 0 110 (by omega) (by omega) rfl (by omega)
  have a2:=at' 2 115 (by omega) (by omega) rfl (by omega)
  omega
 ·by_cases p2:pl = 2
  ·have a0:=at' 0 110 (by omega) (by omega) rfl (by omega)
   have a3:=at' 3 117 (by omega) (by omega) rfl (by omega)
   omega
  ·have a1:=at' 1 111 (by omega) (by omega) rfl (by omega)
   have a2:=at' 2 115 (by omega) (by omega) rfl (by omega)
   omega
end Mt46
namespace K47
open PySem L2
local macro_rules | `(tactic| trivial)=>`(tactic| first | exact .inl rfl | exact .inr rfl | assumption)
def top (i:Nat):Stmt:=PySem.Challenge.pw_dykemoot_k47_no_season_no_level.main.body.getD i (.Pass ⟨0,0,0,0⟩)
abbrev pG:Stmt:=top 0
abbrev gN:Stmt:=top 15
theorem uB:FnScope ["thing"] ["thing"] (aF gN):=⟨rfl,rfl,rfl,by decide +kernel,rfl,by decide +kernel,by decide +kernel⟩
abbrev iD:Stmt:=top 16
theorem vV:FnScope ["thing"] ["thing"] (aF iD):=⟨rfl,rfl,rfl,by decide +kernel,rfl,by decide +kernel,by decide +kernel⟩
abbrev fO:Stmt:=top 17
theorem sG:FnScope ["thing"] ["thing"] (aF fO):=⟨rfl,rfl,rfl,by decide +kernel,rfl,by decide +kernel,by decide +kernel⟩
abbrev fR:Stmt:=top 18
theorem sJ:FnScope ["thing"] ["thing"] (aF fR):=⟨rfl,rfl,rfl,by decide +kernel,rfl,by decide +kernel,by decide +kernel⟩
abbrev fN:Stmt:=top 19
theorem mF:FnScope ["thing","names"] ["thing","names"] (aF fN):=⟨rfl,rfl,rfl,by decide +kernel,rfl,by decide +kernel,by decide +kernel⟩
abbrev eZ:Stmt:=top 20
theorem rC:FnScope ["thing","most"] ["thing","most"] (aF eZ):=⟨rfl,rfl,rfl,by decide +kernel,rfl,by decide +kernel,by decide +kernel⟩
abbrev eN:Stmt:=top 21
theorem qD:FnScope ["thing","length"] ["thing","length"] (aF eN):=⟨rfl,rfl,rfl,by decide +kernel,rfl,by decide +kernel,by decide +kernel⟩
abbrev eY:Stmt:=top 22
theorem rB:FnScope ["rows"] ["rows"] (aF eY):=⟨rfl,rfl,rfl,by decide +kernel,rfl,by decide +kernel,by decide +kernel⟩
abbrev gO:Stmt:=top 23
theorem uC:FnScope ["thing"] ["thing"] (aF gO):=⟨rfl,rfl,rfl,by decide +kernel,rfl,by decide +kernel,by decide +kernel⟩
abbrev fA:Stmt:=top 24
theorem rD:FnScope ["thing"] ["thing"] (aF fA):=⟨rfl,rfl,rfl,by decide +kernel,rfl,by decide +kernel,by decide +kernel⟩
abbrev fS:Stmt:=top 25
theorem sK:FnScope ["one","other","sides"] ["one","other","sides"] (aF fS):=⟨rfl,rfl,rfl,by decide +kernel,rfl,by decide +kernel,by decide +kernel⟩
abbrev iC:Stmt:=top 26
theorem vU:FnScope ["thing","crown"] ["thing","crown"] (aF iC):=⟨rfl,rfl,rfl,by decide +kernel,rfl,by decide +kernel,by decide +kernel⟩
abbrev iE:Stmt:=top 27
theorem vW:FnScope ["thing","sides"] ["thing","sides"] (aF iE):=⟨rfl,rfl,rfl,by decide +kernel,rfl,by decide +kernel,by decide +kernel⟩
abbrev fT:Stmt:=top 28
theorem sL:FnScope ["thing","sides"] ["thing","sides"] (aF fT):=⟨rfl,rfl,rfl,by decide +kernel,rfl,by decide +kernel,by decide +kernel⟩
abbrev gP:Stmt:=dJ (top 29) 0
theorem uD:FnScope ["self","fields","dykes"] ["self","fields","dykes"] (aF gP):=⟨rfl,rfl,rfl,by decide +kernel,rfl,by decide +kernel,by decide +kernel⟩
abbrev fY:Stmt:=dJ (top 29) 1
abbrev fB:Stmt:=dJ (top 29) 2
theorem rE:FnScope ["self"] ["self"] (aF fB):=⟨rfl,rfl,rfl,by decide +kernel,rfl,by decide +kernel,by decide +kernel⟩
abbrev cW:Stmt:=dJ (top 29) 3
theorem lX:FnScope ["self"] ["self"] (aF cW):=⟨rfl,rfl,rfl,by decide +kernel,rfl,by decide +kernel,by decide +kernel⟩
abbrev eA:Stmt:=dJ (top 29) 4
abbrev eF:Stmt:=dJ (top 29) 5
theorem pE:FnScope ["self"] ["self"] (aF eF):=⟨rfl,rfl,rfl,by decide +kernel,rfl,by decide +kernel,by decide +kernel⟩
abbrev eP:Stmt:=dJ (top 29) 6
theorem qE:FnScope ["self","field"] ["self","field"] (aF eP):=⟨rfl,rfl,rfl,by decide +kernel,rfl,by decide +kernel,by decide +kernel⟩
abbrev hV:Stmt:=dJ (top 29) 7
abbrev hU:Stmt:=dJ (top 29) 8
abbrev fX:Stmt:=dJ (top 29) 9
abbrev dW:Stmt:=top 31
theorem iY:FnScope ["land","thing","sluices"] ["land","thing"] (aF dW):=⟨rfl,rfl,rfl,by decide +kernel,rfl,by decide +kernel,by decide +kernel⟩
abbrev jA:Stmt:=top 32
theorem xU:FnScope ["land","opened"] ["land","opened"] (aF jA):=⟨rfl,rfl,rfl,by decide +kernel,rfl,by decide +kernel,by decide +kernel⟩
abbrev eD:Stmt:=top 33
theorem dP:FnScope ["land","stand_of","steps","dyke","near","far"] ["land","stand_of"] (aF eD):=⟨rfl,rfl,rfl,by decide +kernel,rfl,by decide +kernel,by decide +kernel⟩
abbrev dU:Stmt:=top 34
theorem bU:FnScope ["land","opened","steps","lowest","turn","name","near","far","height","reached"] ["land","opened"] (aF dU):=⟨rfl,rfl,rfl,by decide +kernel,rfl,by decide +kernel,by decide +kernel⟩
abbrev fQ:Stmt:=top 42
theorem sI:FnScope ["number","turn"] ["number","turn"] (aF fQ):=⟨rfl,rfl,rfl,by decide +kernel,rfl,by decide +kernel,by decide +kernel⟩
abbrev eE:Stmt:=top 43
theorem pB:FnScope ["thing","fields"] ["thing","fields"] (aF eE):=⟨rfl,rfl,rfl,by decide +kernel,rfl,by decide +kernel,by decide +kernel⟩
abbrev fP:Stmt:=top 44
theorem sH:FnScope ["thing","sluices","fields"] ["thing","sluices","fields"] (aF fP):=⟨rfl,rfl,rfl,by decide +kernel,rfl,by decide +kernel,by decide +kernel⟩
abbrev eO:Stmt:=top 45
theorem gW:FnScope ["land","thing","sluices","fields"] ["land","thing"] (aF eO):=⟨rfl,rfl,rfl,by decide +kernel,rfl,by decide +kernel,by decide +kernel⟩
abbrev dX:Stmt:=top 46
theorem iZ:FnScope ["land","thing"] ["land","thing"] (aF dX):=⟨rfl,rfl,rfl,by decide +kernel,rfl,by decide +kernel,by decide +kernel⟩
abbrev jC:Stmt:=top 47
theorem xW:FnScope ["decrees"] ["decrees"] (aF jC):=⟨rfl,rfl,rfl,by decide +kernel,rfl,by decide +kernel,by decide +kernel⟩
abbrev dC:Stmt:=top 48
theorem mG:FnScope ["condition","level","wet","day"] ["condition","level","wet","day"] (aF dC):=⟨rfl,rfl,rfl,by decide +kernel,rfl,by decide +kernel,by decide +kernel⟩
abbrev kE:Stmt:=top 49
theorem zJ:FnScope ["decree","level","wet","day"] ["decree","level","wet","day"] (aF kE):=⟨rfl,rfl,rfl,by decide +kernel,rfl,by decide +kernel,by decide +kernel⟩
abbrev fM:Stmt:=top 50
theorem iX:FnScope ["land","decrees","opened","level","wet","day","stand_open","decree"] ["land","decrees","opened","level","wet","day"] (aF fM):=⟨rfl,rfl,rfl,by decide +kernel,rfl,by decide +kernel,by decide +kernel⟩
abbrev jB:Stmt:=top 52
theorem xV:FnScope ["height","ground","level","was_wet"] ["height","ground","level","was_wet"] (aF jB):=⟨rfl,rfl,rfl,by decide +kernel,rfl,by decide +kernel,by decide +kernel⟩
abbrev eX:Stmt:=top 53
theorem lR:FnScope ["land","opened","level","before","heights"] ["land","opened","level","before"] (aF eX):=⟨rfl,rfl,rfl,by decide +kernel,rfl,by decide +kernel,by decide +kernel⟩
abbrev eU:Stmt:=dJ (top 54) 0
theorem lQ:FnScope ["self","land","decrees"] ["self","land","decrees"] (aF eU):=⟨rfl,rfl,rfl,by decide +kernel,rfl,by decide +kernel,by decide +kernel⟩
abbrev eW:Stmt:=dJ (top 54) 1
theorem fV:FnScope ["self","level","land","name"] ["self","level"] (aF eW):=⟨rfl,rfl,rfl,by decide +kernel,rfl,by decide +kernel,by decide +kernel⟩
abbrev eM:Stmt:=dJ (top 54) 2
theorem fF:FnScope ["self","levels","told","level"] ["self","levels"] (aF eM):=⟨rfl,rfl,rfl,by decide +kernel,rfl,by decide +kernel,by decide +kernel⟩
abbrev dS:Stmt:=dJ (top 54) 3
theorem oM:FnScope ["self"] ["self"] (aF dS):=⟨rfl,rfl,rfl,by decide +kernel,rfl,by decide +kernel,by decide +kernel⟩
abbrev eV:Stmt:=dJ (top 54) 4
theorem rA:FnScope ["self"] ["self"] (aF eV):=⟨rfl,rfl,rfl,by decide +kernel,rfl,by decide +kernel,by decide +kernel⟩
abbrev eC:Stmt:=dJ (top 54) 5
theorem pA:FnScope ["self"] ["self"] (aF eC):=⟨rfl,rfl,rfl,by decide +kernel,rfl,by decide +kernel,by decide +kernel⟩
abbrev dB:Stmt:=dJ (top 54) 6
theorem mE:FnScope ["self"] ["self"] (aF dB):=⟨rfl,rfl,rfl,by decide +kernel,rfl,by decide +kernel,by decide +kernel⟩
abbrev fW:Stmt:=dJ (top 54) 7
abbrev kG:Stmt:=top 56
theorem oN:FnScope ["_law_script","_law_k","_law_number"] ["_law_script","_law_k"] (aF kG):=⟨rfl,rfl,rfl,by decide +kernel,rfl,by decide +kernel,by decide +kernel⟩
abbrev kF:Stmt:=top 57
theorem eJ:FnScope ["_law_cell","_law_letters","_law_size","_law_place","_law_by","_law_base","_law_found","_law_k","_law_sign"] ["_law_cell"] (aF kF):=⟨rfl,rfl,rfl,by decide +kernel,rfl,by decide +kernel,by decide +kernel⟩
abbrev jE:Stmt:=top 58
theorem xX:FnScope ["_law_cell"] ["_law_cell"] (aF jE):=⟨rfl,rfl,rfl,by decide +kernel,rfl,by decide +kernel,by decide +kernel⟩
abbrev jF:Stmt:=top 59
theorem gE:FnScope ["_law_script","_law_most","_law_names_here","_law_fields_here","_law_k","_law_cell","_law_dues"] ["_law_script","_law_most"] (aF jF):=⟨rfl,rfl,rfl,by decide +kernel,rfl,by decide +kernel,by decide +kernel⟩
abbrev kH:Stmt:=top 60
theorem cT:FnScope ["_law_script","_law_at","_law_most","_law_fields_here","_law_names_here","_law_sides","_law_dykes_here","_law_k","_law_cell","_law_one","_law_others","_law_other","_law_crown","_law_rate","_law_sill"] ["_law_script","_law_at","_law_most","_law_fields_here"] (aF kH):=⟨rfl,rfl,rfl,by decide +kernel,rfl,by decide +kernel,by decide +kernel⟩
abbrev iG:Stmt:=top 61
theorem dR:FnScope ["_law_script","_law_at","_law_most","_law_fields_here","_law_dykes_here","_law_sluices","_law_decrees_here","_law_k","_law_cell","_law_conditions","_law_j","_law_spot"] ["_law_script","_law_at","_law_most","_law_fields_here","_law_dykes_here"] (aF iG):=⟨rfl,rfl,rfl,by decide +kernel,rfl,by decide +kernel,by decide +kernel⟩
abbrev fU:Stmt:=top 62
theorem dG:FnScope ["_law_cell","_law_fields_here","_law_height_here","_law_name","_law_turn","_law_some"] ["_law_cell","_law_fields_here"] (aF fU):=⟨rfl,rfl,rfl,by decide +kernel,rfl,by decide +kernel,by decide +kernel⟩
abbrev jD:Stmt:=top 65
theorem cK:FnScope ["_law_decrees_here","_law_dykes_here","_law_fields_here","_law_cell","_law_some","_law_bare","_law_good","_law_deed","_law_name","_law_conditions","_law_odd","_law_bad","_law_at"] ["_law_decrees_here","_law_dykes_here","_law_fields_here","_law_cell"] (aF jD):=⟨rfl,rfl,rfl,by decide +kernel,rfl,by decide +kernel,by decide +kernel⟩
abbrev iF:Stmt:=top 66
theorem pF:FnScope ["_law_land","_law_decrees_here","e"] ["_law_land","_law_decrees_here"] (aF iF):=⟨rfl,rfl,rfl,by decide +kernel,rfl,by decide +kernel,by decide +kernel⟩
abbrev gQ:Stmt:=top 67
theorem oB:FnScope ["_law_season","_law_levels","_law_together","e"] ["_law_season","_law_levels","_law_together"] (aF gQ):=⟨rfl,rfl,rfl,by decide +kernel,rfl,by decide +kernel,by decide +kernel⟩
abbrev mH:Stmt:=top 68
theorem aCN:FnScope ["_law_one","_law_other"] ["_law_one","_law_other"] (aF mH):=⟨rfl,rfl,rfl,by decide +kernel,rfl,by decide +kernel,by decide +kernel⟩
abbrev nK:Stmt:=top 69
theorem dQ:FnScope ["_law_script","_law_fields_here","_law_dykes_here","_law_decrees_here","_law_land","_law_k","_law_season","_law_other","_law_odd","_law_cell","_law_level","_law_bad","_law_several"] ["_law_script"] (aF nK):=⟨rfl,rfl,rfl,by decide +kernel,rfl,by decide +kernel,by decide +kernel⟩
structure Txt (K:PySem.W.Frag) (mg:Str → Option Value) (C:Addr):Prop where
 cl_Land:Cls K C
 mg_Land:mg "Land" = some (.ref C)
 a_field_rows:gD K C "field_rows"
 a_dyke_rows:gD K C "dyke_rows"
 i_Land:InitAt K C "Land.__init__" gP ["self","fields","dykes"]
 m_land_p_fields:MethAt K C "fields" "Land.fields" fY ["self"]
 m_land_p_dykes:MethAt K C "dykes" "Land.dykes" fB ["self"]
 m_land_p_field_names:MethAt K C "field_names" "Land.field_names" cW ["self"]
 m_land_p_dyke_names:MethAt K C "dyke_names" "Land.dyke_names" eA ["self"]
 m_land_p_sluices:MethAt K C "sluices" "Land.sluices" eF ["self"]
 m_land_p_ground:MethAt K C "ground" "Land.ground" eP ["self","field"]
 m_land_p_dues:MethAt K C "dues" "Land.dues" hV ["self","field"]
 m_land_p_dyke:MethAt K C "dyke" "Land.dyke" hU ["self","name"]
 m_land_p_raised:MethAt K C "raised" "Land.raised" fX ["self","works"]
 k_Season:∃ C_Season:Addr,Cls K C_Season ∧ mg "Season" = some (.ref C_Season) ∧ gD K C_Season "on_land" ∧ gD K C_Season "own_decrees" ∧ gD K C_Season "open_names" ∧ gD K C_Season "wet_names" ∧ gD K C_Season "day_count" ∧ gD K C_Season "wet_counts" ∧ InitAt K C_Season "Season.__init__" eU ["self","land","decrees"] ∧ MethAt K C_Season "day" "Season.day" eW ["self","level"] ∧ MethAt K C_Season "days" "Season.days" eM ["self","levels"] ∧ MethAt K C_Season "opened" "Season.opened" dS ["self"] ∧ MethAt K C_Season "wet" "Season.wet" eV ["self"] ∧ MethAt K C_Season "count" "Season.count" eC ["self"] ∧ MethAt K C_Season "wet_days" "Season.wet_days" dB ["self"] ∧ MethAt K C_Season "onto" "Season.onto" fW ["self","land"]
 xs:∃ c_NoDecree c_NoLevel c_DykeError:Addr,(ExJ K c_NoDecree) ∧ (ExJ K c_NoLevel) ∧ mg "NoDecree" = some (.ref c_NoDecree) ∧ mg "NoLevel" = some (.ref c_NoLevel) ∧ mg "DykeError" = some (.ref c_DykeError) ∧ PySem.W.kitOne K (.ref c_NoDecree) (.ref c_DykeError) = some true ∧ PySem.W.kitOne K (.ref c_NoDecree) (.ref c_NoDecree) = some true ∧ PySem.W.kitOne K (.ref c_NoDecree) (.type "ValueError") = some true ∧ PySem.W.kitOne K (.ref c_NoDecree) (.ref c_NoLevel) = some false ∧ PySem.W.kitOne K (.ref c_NoLevel) (.ref c_DykeError) = some true ∧ PySem.W.kitOne K (.ref c_NoLevel) (.ref c_NoLevel) = some true ∧ PySem.W.kitOne K (.ref c_NoLevel) (.type "ValueError") = some true ∧ PySem.W.kitOne K (.ref c_NoLevel) (.ref c_NoDecree) = some false ∧ PySem.W.exmOne K (.ref c_NoDecree) (.ref c_DykeError) = some true ∧ PySem.W.exmOne K (.ref c_NoLevel) (.ref c_DykeError) = some true
 d_p_wall:DefAt K mg "_wall" pG ["k"]
 d_p_is_whole:DefAt K mg "is_whole" gN ["thing"]
 d_p_is_name:DefAt K mg "is_name" iD ["thing"]
 d_p_is_height:DefAt K mg "is_height" fO ["thing"]
 d_p_is_amount:DefAt K mg "is_amount" fR ["thing"]
 d_p_is_one_of:DefAt K mg "is_one_of" fN ["thing","names"]
 d_p_is_list_of:DefAt K mg "is_list_of" eZ ["thing","most"]
 d_p_is_tuple_of:DefAt K mg "is_tuple_of" eN ["thing","length"]
 d_p_none_twice:DefAt K mg "none_twice" eY ["rows"]
 d_p_is_field:DefAt K mg "is_field" gO ["thing"]
 d_p_are_fields:DefAt K mg "are_fields" fA ["thing"]
 d_p_are_sides:DefAt K mg "are_sides" fS ["one","other","sides"]
 d_p_is_sill:DefAt K mg "is_sill" iC ["thing","crown"]
 d_p_is_dyke:DefAt K mg "is_dyke" iE ["thing","sides"]
 d_p_are_dykes:DefAt K mg "are_dykes" fT ["thing","sides"]
 d_p_check_sluices:DefAt K mg "check_sluices" dW ["land","thing"]
 d_p_stands:DefAt K mg "stands" jA ["land","opened"]
 d_p_steps_inland:DefAt K mg "steps_inland" eD ["land","stand_of"]
 d_p_flood_heights:DefAt K mg "flood_heights" dU ["land","opened"]
 d_p_is_day_of:DefAt K mg "is_day_of" fQ ["number","turn"]
 d_p_is_condition:DefAt K mg "is_condition" eE ["thing","fields"]
 d_p_is_decree:DefAt K mg "is_decree" fP ["thing","sluices","fields"]
 d_p_are_decrees:DefAt K mg "are_decrees" eO ["land","thing"]
 d_p_check_decrees:DefAt K mg "check_decrees" dX ["land","thing"]
 d_p_copied:DefAt K mg "copied" jC ["decrees"]
 d_p_condition_holds:DefAt K mg "condition_holds" dC ["condition","level","wet","day"]
 d_p_holds:DefAt K mg "holds" kE ["decree","level","wet","day"]
 d_p_opened_by:DefAt K mg "opened_by" fM ["land","decrees","opened","level","wet","day"]
 d_p_is_wet:DefAt K mg "is_wet" jB ["height","ground","level","was_wet"]
 d_p_wet_fields:DefAt K mg "wet_fields" eX ["land","opened","level","before"]
 d_l_mixed:DefAt K mg "_law_mixed" kG ["_law_script","_law_k"]
 d_l_names:DefAt K mg "_law_names" kF ["_law_cell"]
 d_l_height:DefAt K mg "_law_height" jE ["_law_cell"]
 d_l_fields:DefAt K mg "_law_fields" jF ["_law_script","_law_most"]
 d_l_dykes:DefAt K mg "_law_dykes" kH ["_law_script","_law_at","_law_most","_law_fields_here"]
 d_l_decrees:DefAt K mg "_law_decrees" iG ["_law_script","_law_at","_law_most","_law_fields_here","_law_dykes_here"]
 d_l_condition:DefAt K mg "_law_condition" fU ["_law_cell","_law_fields_here"]
 d_l_spoilt:DefAt K mg "_law_spoilt" jD ["_law_decrees_here","_law_dykes_here","_law_fields_here","_law_cell"]
 d_l_refused:DefAt K mg "_law_refused" iF ["_law_land","_law_decrees_here"]
 d_l_no_level:DefAt K mg "_law_no_level" gQ ["_law_season","_law_levels","_law_together"]
 d_l_same:DefAt K mg "_law_same" mH ["_law_one","_law_other"]
 d_p_law:DefAt K mg "law" nK ["_law_script"]
 g_DEEDS:∃ a,mg "DEEDS" = some (.ref a) ∧ ∀ H:Hp,SqT K H a [(.str "open"),(.str "shut")]
 g_TIDES:∃ a,mg "TIDES" = some (.ref a) ∧ ∀ H:Hp,SqT K H a [(.str "above"),(.str "below")]
 g_WATERS:∃ a,mg "WATERS" = some (.ref a) ∧ ∀ H:Hp,SqT K H a [(.str "wet"),(.str "dry")]
 g_SEA:iQ mg "SEA" (.str "sea")
 g_LETTERS:iQ mg "LETTERS" (.str "abcdefghijklmnopqrstuvwxyz")
 g_MOST_LETTERS:iQ mg "MOST_LETTERS" (.int 8)
 g_MOST_HEIGHT:iQ mg "MOST_HEIGHT" (.int 1000000)
 g_MOST_AMOUNT:iQ mg "MOST_AMOUNT" (.int 1000000)
 g_MOST_FIELDS:iQ mg "MOST_FIELDS" (.int 12)
 g_MOST_DYKES:iQ mg "MOST_DYKES" (.int 40)
 g_MOST_DECREES:iQ mg "MOST_DECREES" (.int 60)
 g_MOST_CONDITIONS:iQ mg "MOST_CONDITIONS" (.int 6)
 g_MOST_ROUND:iQ mg "MOST_ROUND" (.int 100)
 n_ValueError:mg "ValueError" = none
 n_all:mg "all" = none
 n_bool:mg "bool" = none
 n_dict:mg "dict" = none
 n_int:mg "int" = none
 n_isinstance:mg "isinstance" = none
 n_len:mg "len" = none
 n_list:mg "list" = none
 n_max:mg "max" = none
 n_min:mg "min" = none
 n_range:mg "range" = none
 n_set:mg "set" = none
 n_str:mg "str" = none
 n_tuple:mg "tuple" = none
section
variable {P:Program} {w:World} {K:PySem.W.Frag} {mg:Str → Option Value} {base:Heap} {C:Addr}
open Ld
theorem cF:(1000:Nat) ≤ sizeLine:=by decide
def rL:Sp:=sp1 fun x H Q=>∃ d,Is H d x ∧ Q (.bl (isInt d)) H
theorem jZ (T:Txt K mg C):Fc P w K mg base 1 "is_whole" ["thing"] rL:=by
 refine T.d_p_is_whole.fc uB lY (fun f cdv A outer s H vs Q E hr h=>?_)
 obtain ⟨x,rfl,d,hd,q⟩:=h
 obtain ⟨t,ty,e1,e2,_⟩:=oW K hd
 refine ⟨_,(aJ (@aU _ _ _ _ (@cI _ _ _ _ _ _ _ (@aR _ _ _ _ _ _ _ _ _ (@cO _ (K) rfl) rfl T.n_isinstance bB (aA (pv 0) (aA (@kL _ _ _ _ T.n_int aEA (by rfl) (by decide) (by decide)) aD)) (by decide) (by decide) (by rfl) (by rfl)) (@dE _ _ _ _ _ (@zN _ _ _ _ (@aR _ _ _ _ _ _ _ _ _ (@cO _ (K) rfl) rfl T.n_isinstance bB (aA (pv 0) (aA (@kL _ _ _ _ T.n_bool aAI (by rfl) (by decide) (by decide)) aD)) (by decide) (by decide) (by rfl) (by rfl))))))),?_⟩
 refine ⟨_,rfl,_,_,_,t,_,rfl,rfl,ty,e1,_,rfl,?_⟩
 refine kP (fun h=>?_) (fun h=>?_)
 ·refine ⟨_,rfl,_,_,_,t,_,rfl,rfl,ty,e2,_,rfl,?_⟩
  have e:(!aGE d) = isInt d:=by cases d <;> simp_all [isInt,aGE]
  rw [e]
  exact q
 ·have e:isInt d = false:=by cases d <;> simp_all [isInt,aGE]
  rw [e] at q
  exact q
def zG:Sp:=sp1 fun x H Q=>∃ d,Is H d x ∧ bP d = true ∧ Q (.bl (oR d)) H
theorem pQ (T:Txt K mg C):Fc P w K mg base 1 "is_name" ["thing"] zG:=by
 refine T.d_p_is_name.fcD vV lY (fun f cdv A outer s H vs Q E hr h=>?_)
 obtain ⟨x,rfl,d,hd,hz,q⟩:=h
 obtain ⟨t,ty,e1,e2,e3,_⟩:=oW K hd
 have big:=cF
 refine ⟨_,(aG (@cQ _ _ _ _ _ _ _ _ (@PW.pt _ _ _ (@kJ _ _ _ _ _ _ _ (@cU _ _ _ _ (@cB _ _ _ (@aR _ _ _ _ _ _ _ _ _ (@cO _ (K) rfl) rfl T.n_isinstance bB (aA (pv 0) (aA (@kL _ _ _ _ T.n_str qT (by rfl) (by decide) (by decide)) aD)) (by decide) (by decide) (by rfl) (by rfl)) (by intro _;rfl))) (@jG _ _ _ _ (@cU _ _ _ _ (@aFI _ _ _ _ _ _ _ _ _ _ _ _ mL mL aE (@aR _ _ _ _ _ _ _ _ _ wW rfl T.n_len cG (aA (pv 0) aD) (by decide) (by decide) (by rfl) (by rfl)) (@oP _ _ _ _ T.g_MOST_LETTERS (by rfl) (by decide)) (by with_unfolding_all rfl)))))) (aJ (@aU _ _ _ _ gS)) bG) (aJ (@aU _ _ _ _ (@cI _ _ _ _ _ _ _ (@cV _ _ _ _ _ _ _ _ uU (pv 0) (@oP _ _ _ _ T.g_SEA (by rfl) (by decide)) (@bR _ _ (by decide) (by decide))) (@dE _ _ _ _ _ (@aR _ _ _ _ _ _ _ _ _ (@gU _ rfl) rfl T.n_all fJ (aA (@cJ _ _ _ _ _ _ _ _ _ _ _ ["sign"] 1 [] rfl (@aKI _ _ _ _ (pv 0)) (fun R=>@aX _ _ (0) _ (show List.Nodup (["sign"]:List Str) by decide +kernel) rfl (Or.inl rfl) (by trivial)) (@bC _ _ (by decide)) (fun R=>cH) (fun R=>(@cV _ _ _ _ _ _ _ _ aCT (pv 0) (@oP _ _ _ _ T.g_LETTERS (by rfl) (by decide)) (by with_unfolding_all rfl))) (by rfl) (by rfl) (by rfl) (by rfl) (by rfl) (by rfl) (by rfl) (by intro _;rfl)) aD) (by decide) (by decide) (by rfl) (by rfl))))))),?_⟩
 refine ⟨_,rfl,_,_,_,t,_,rfl,rfl,ty,e3,_,rfl,?_⟩
 cases d with
 | str z =>
  cases (show x = .str z from hd)
  have hz:z.length ≤ 1000:=of_decide_eq_true hz
  have q:Q (.bl (fC z)) H:=q
  have hzs:z.length ≤ sizeLine:=by omega
  refine bS ?_
  refine ⟨_,rfl,z,rfl,hzs,_,_,rfl,rfl,_,rfl,?_⟩
  refine kP (fun h1=>?_) (fun h1=>?_)
  ·refine ⟨_,_,rfl,rfl,_,rfl,?_⟩
   have h1':1 ≤ z.length:=by
    have:=of_decide_eq_true h1
    omega
   refine kP (fun h2=>?_) (fun h2=>?_)
   ·have e:fC z = false:=by
     have h2':¬ z.length ≤ 8:=by
      intro h3
      have:((z.length:Nat):Int) ≤ 8:=by omega
      simp [this] at h2
     simp [fC,h2']
    rw [e] at q
    exact dZ.of (.refl _) q
   ·have h2':z.length ≤ 8:=by
     have h3:decide (((z.length:Nat):Int) ≤ 8) = true:=by
      cases h4:decide (((z.length:Nat):Int) ≤ 8) with
      | true=>rfl
      | false=>exact absurd (by rw [h4];rfl) h2
     have:=of_decide_eq_true h3
     omega
    refine ⟨_,rfl,rfl,_,rfl,?_⟩
    refine kP (fun h3=>?_) (fun h3=>?_)
    ·have h3':¬ z = "sea":=by
      intro h4
      subst h4
      simp at h3
     refine ⟨_,rfl,z,rfl,?_⟩
     refine aHB (Nat.le_trans hz (by decide)) (fun i ys H'=>H' = H ∧ ys = (z.cps.toList.take i).map fun c=>V.bl (hE c)) ⟨rfl,rfl⟩ ?_ ?_ ?_
     ·rintro i ys H' ⟨_,rfl⟩
      rw [List.length_map,List.length_take]
      omega
     ·rintro i c ys H' K1 K2 hc ⟨rfl,rfl⟩ k1 k2
      refine ⟨_,rfl,_,_,rfl,rfl,k1 _ _ ⟨rfl,?_⟩⟩
      have hc':z.cps.toList[i]? = some c:=by simpa using hc
      rw [List.take_add_one,hc',aAB]
      simp
     ·rintro ys H' ⟨rfl,rfl⟩
      intro p hp'
      refine ⟨p,z.cps.toList.map hE,rfl,SqL.of ?_,?_⟩
      ·rw [aB,List.take_of_length_le (by simp),List.map_map]
       rfl
      ·refine ⟨H',iK.lst hp',?_⟩
       have e:fC z = (z.cps.toList.map hE).all id:=by
        rw [List.all_map]
        simp [fC,h1',h2',h3']
       rw [← e]
       exact q
    ·have e:fC z = false:=by
      have h4:z = "sea":=by
       apply Classical.byContradiction
       intro h5
       exact h3 (by simp [h5])
      subst h4
      simp [fC]
     rw [e] at q
     exact dZ.of (.refl _) q
  ·have e:fC z = false:=by
    have h1':¬ 1 ≤ z.length:=by
     intro h3
     exact h1 (decide_eq_true (by omega))
    simp [fC,h1']
   rw [e] at q
   exact ⟨_,rfl,dZ.of (.refl _) q⟩
 | non=>exact dZ.of (.refl _) q
 | bl b=>exact dZ.of (.refl _) q
 | int i=>exact dZ.of (.refl _) q
 | lst a=>exact dZ.of (.refl _) q
 | tup a=>exact dZ.of (.refl _) q
 | dct a b=>exact dZ.of (.refl _) q
def gM:Sp:=sp1 fun x H Q=>∃ d,Is H d x ∧ Q (.bl (bT d)) H
theorem cX (T:Txt K mg C):Fc P w K mg base 2 "is_height" ["thing"] gM:=by
 have G_p_is_whole:Fc P w K mg base 1 "is_whole" ["thing"] rL:=jZ T
 refine T.d_p_is_height.fc sG lY (fun f cdv A outer s H vs Q E hr h=>?_)
 obtain ⟨x,rfl,d,hd,q⟩:=h
 refine ⟨_,(aJ (@aU _ _ _ _ (@cI _ _ _ _ _ _ _ (@bN _ _ _ _ _ _ _ _ _ _ G_p_is_whole (hr.mono (by decide)) (aA (pv 0) aD) (by rfl) (by decide) (by rfl) (by rfl)) (@dE _ _ _ _ _ (@mK _ _ _ _ _ _ _ _ _ _ _ _ mL mL (@aBN _ _ _ _ _ _ vO (@oP _ _ _ _ T.g_MOST_HEIGHT (by rfl) (by decide))) (pv 0) (@oP _ _ _ _ T.g_MOST_HEIGHT (by rfl) (by decide)) (by with_unfolding_all rfl)))))),?_⟩
 refine ⟨_,rfl,_,rfl,d,hd,_,rfl,?_⟩
 cases d with
 | int i =>
  cases (show x = .int i from hd)
  refine cL ?_
  have q:Q (.bl (decide (-1000000 ≤ i) && decide (i ≤ 1000000))) H:=q
  refine ⟨_,rfl,_,rfl,_,_,rfl,rfl,_,rfl,?_⟩
  refine kP (fun h1=>?_) (fun h1=>?_)
  ·refine ⟨_,_,rfl,rfl,?_⟩
   rw [decide_eq_true (show -1000000 ≤ i from of_decide_eq_true h1),Bool.true_and] at q
   exact q
  ·rw [show decide (-1000000 ≤ i) = false from by simpa using h1,Bool.false_and] at q
   exact q
 | _=>exact bS q
def sC:Sp:=sp1 fun x H Q=>∃ d,Is H d x ∧ Q (.bl (kQ d)) H
theorem mP (T:Txt K mg C):Fc P w K mg base 2 "is_amount" ["thing"] sC:=by
 have G_p_is_whole:Fc P w K mg base 1 "is_whole" ["thing"] rL:=jZ T
 refine T.d_p_is_amount.fc sJ lY (fun f cdv A outer s H vs Q E hr h=>?_)
 obtain ⟨x,rfl,d,hd,q⟩:=h
 refine ⟨_,(aJ (@aU _ _ _ _ (@cI _ _ _ _ _ _ _ (@bN _ _ _ _ _ _ _ _ _ _ G_p_is_whole (hr.mono (by decide)) (aA (pv 0) aD) (by rfl) (by decide) (by rfl) (by rfl)) (@dE _ _ _ _ _ (@mK _ _ _ _ _ _ _ _ _ _ _ _ mL mL aE (pv 0) (@oP _ _ _ _ T.g_MOST_AMOUNT (by rfl) (by decide)) (by with_unfolding_all rfl)))))),?_⟩
 refine ⟨_,rfl,_,rfl,d,hd,_,rfl,?_⟩
 cases d with
 | int i =>
  cases (show x = .int i from hd)
  refine cL ?_
  have q:Q (.bl (decide (0 ≤ i) && decide (i ≤ 1000000))) H:=q
  refine ⟨_,rfl,_,_,rfl,rfl,_,rfl,?_⟩
  refine kP (fun h1=>?_) (fun h1=>?_)
  ·refine ⟨_,_,rfl,rfl,?_⟩
   rw [decide_eq_true (show 0 ≤ i from of_decide_eq_true h1),Bool.true_and] at q
   exact q
  ·rw [show decide (0 ≤ i) = false from by simpa using h1,Bool.false_and] at q
   exact q
 | _=>exact bS q
def vR (K:PySem.W.Frag):Sp:=sp2 fun x y H Q=>∃ (d:Dv) (p:Addr) (zs:List Str),Is H d x ∧ y = .ref p ∧ SqL K H p (zs.map V.str) ∧ Q (.bl (bD zs d)) H
theorem lK (z:Str) (zs:List Str):inV (.str z) (zs.map V.str) = decide (z ∈ zs):=by
 unfold inV
 rw [Bool.eq_iff_iff,List.any_eq_true,decide_eq_true_iff]
 constructor
 ·rintro ⟨y,hy,e⟩
  obtain ⟨u,hu,rfl⟩:=List.mem_map.mp hy
  have e':(u == z) = true:=e
  rw [← beq_iff_eq.mp e']
  exact hu
 ·intro h
  exact ⟨_,List.mem_map.mpr ⟨z,h,rfl⟩,beq_self_eq_true z⟩
theorem hG (zs:List Str):(zs.map V.str).all pX = true:=by
 rw [List.all_eq_true]
 intro y hy
 obtain ⟨u,_,rfl⟩:=List.mem_map.mp hy
 rfl
theorem mO (T:Txt K mg C):Fc P w K mg base 1 "is_one_of" ["thing","names"] (vR K):=by
 refine T.d_p_is_one_of.fc mF jM (fun f cdv A outer s H vs Q E hr h=>?_)
 obtain ⟨x,y,rfl,d,p,zs,hd,rfl,hp,q⟩:=h
 obtain ⟨t,ty,e1,e2,e3,_⟩:=oW K hd
 refine ⟨_,(aJ (@aU _ _ _ _ (@cI _ _ _ _ _ _ _ (@aR _ _ _ _ _ _ _ _ _ (@cO _ (K) rfl) rfl T.n_isinstance bB (aA (pv 0) (aA (@kL _ _ _ _ T.n_str qT (by rfl) (by decide) (by decide)) aD)) (by decide) (by decide) (by rfl) (by rfl)) (@dE _ _ _ _ _ (@cV _ _ _ _ _ _ _ _ (@gX _ (K) rfl) (pv 0) (pv 1) (by with_unfolding_all rfl)))))),?_⟩
 refine ⟨_,rfl,_,_,_,t,_,rfl,rfl,ty,e3,_,rfl,?_⟩
 cases d with
 | str z =>
  cases (show x = .str z from hd)
  refine cL ⟨_,rfl,_,rfl,p,_,rfl,.inl hp,rfl,hG zs,?_⟩
  show Q (.bl (inV (.str z) (zs.map V.str))) H
  rw [lK]
  exact q
 | _=>exact bS q
def oZ:Sp:=sp2 fun x y H Q=>∃ (d:Dv) (n:Int),Is H d x ∧ y = .int n ∧ Q (.bl (aML n d)) H
theorem iO (T:Txt K mg C):Fc P w K mg base 1 "is_list_of" ["thing","most"] oZ:=by
 refine T.d_p_is_list_of.fc rC jM (fun f cdv A outer s H vs Q E hr h=>?_)
 obtain ⟨x,y,rfl,d,n,hd,rfl,q⟩:=h
 obtain ⟨t,ty,e1,e2,e3,e4,_⟩:=oW K hd
 refine ⟨_,(aJ (@aU _ _ _ _ (@cI _ _ _ _ _ _ _ (@aR _ _ _ _ _ _ _ _ _ (@cO _ (K) rfl) rfl T.n_isinstance bB (aA (pv 0) (aA (@kL _ _ _ _ T.n_list dI (by rfl) (by decide) (by decide)) aD)) (by decide) (by decide) (by rfl) (by rfl)) (@dE _ _ _ _ _ (@mK _ _ _ _ _ _ _ _ _ _ _ _ mL mL aE (@aR _ _ _ _ _ _ _ _ _ (@bL _ (K) rfl) rfl T.n_len cG (aA (pv 0) aD) (by decide) (by decide) (by rfl) (by rfl)) (pv 1) (by with_unfolding_all rfl)))))),?_⟩
 refine ⟨_,rfl,_,_,_,t,_,rfl,rfl,ty,e4,_,rfl,?_⟩
 cases d with
 | lst ds =>
  obtain ⟨a,vs,rfl,o,hl⟩:=hd
  have hlen:=hl.length
  have q:Q (.bl (decide (1 ≤ ds.length) && decide ((ds.length:Int) ≤ n))) H:=q
  refine cL ⟨_,rfl,a,vs,rfl,.inl (SqL.of o),_,_,rfl,rfl,_,rfl,?_⟩
  rw [hlen]
  refine kP (fun h1=>?_) (fun h1=>?_)
  ·refine ⟨_,rfl,_,_,rfl,rfl,?_⟩
   have h1':1 ≤ ds.length:=by have:=of_decide_eq_true h1;omega
   rw [decide_eq_true h1',Bool.true_and] at q
   exact q
  ·have h1':¬ 1 ≤ ds.length:=fun c=>h1 (decide_eq_true (by omega))
   rw [decide_eq_false h1',Bool.false_and] at q
   exact q
 | _=>exact bS q
def oY:Sp:=sp2 fun x y H Q=>∃ (d:Dv) (n:Int),Is H d x ∧ y = .int n ∧ Q (.bl (rR n d)) H
theorem fH (T:Txt K mg C):Fc P w K mg base 1 "is_tuple_of" ["thing","length"] oY:=by
 refine T.d_p_is_tuple_of.fc qD jM (fun f cdv A outer s H vs Q E hr h=>?_)
 obtain ⟨x,y,rfl,d,n,hd,rfl,q⟩:=h
 obtain ⟨t,ty,e1,e2,e3,e4,e5⟩:=oW K hd
 refine ⟨_,(aJ (@aU _ _ _ _ (@cI _ _ _ _ _ _ _ (@aR _ _ _ _ _ _ _ _ _ (@cO _ (K) rfl) rfl T.n_isinstance bB (aA (pv 0) (aA (@kL _ _ _ _ T.n_tuple nB (by rfl) (by decide) (by decide)) aD)) (by decide) (by decide) (by rfl) (by rfl)) (@dE _ _ _ _ _ (@cV _ _ _ _ _ _ _ _ jQ (@aR _ _ _ _ _ _ _ _ _ (@bL _ (K) rfl) rfl T.n_len cG (aA (pv 0) aD) (by decide) (by decide) (by rfl) (by rfl)) (pv 1) (@bR _ _ (by decide) (by decide))))))),?_⟩
 refine ⟨_,rfl,_,_,_,t,_,rfl,rfl,ty,e5,_,rfl,?_⟩
 cases d with
 | tup ds =>
  obtain ⟨a,vs,rfl,o,hl⟩:=hd
  have hlen:=hl.length
  have q:Q (.bl (decide ((ds.length:Int) = n))) H:=q
  refine cL ⟨_,rfl,a,vs,rfl,.inr (SqT.of o),_,rfl,rfl,?_⟩
  rw [hlen]
  have e:decide (V.int (ds.length:Int) = V.int n) = decide ((ds.length:Int) = n):=by rw [iS,Bool.eq_iff_iff];simp
  rw [e]
  exact q
 | _=>exact bS q
def vP:Sp:=sp1 fun x H Q=>∃ (p:Addr) (vs:List V) (ds:List Dv) (zs:List Str),x = .ref p ∧ H p = some (.lst vs) ∧ IsL H ds vs ∧ ds.map cR = zs.map some ∧ zs.length ≤ 1000 ∧ Q (.bl (decide zs.Nodup)) H
theorem aDK {H:Hp} {d:Dv} {v:V} {z:Str} (h:Is H d v) (e:cR d = some z):∃ a r,v = .ref a ∧ H a = some (.tup (.str z :: r)):=by
 cases d with
 | tup ds =>
  cases ds with
  | nil=>cases e
  | cons d0 ds =>
   cases d0 with
   | str y =>
    cases e
    obtain ⟨a,vs,rfl,o,v0,r,rfl,h0,_⟩:=h
    cases (show v0 = .str z from h0)
    exact ⟨a,r,rfl,o⟩
   | _=>cases e
 | _=>cases e
theorem nN (zs:List Str):(zs.map (Sum.inr:Str → Key)).Nodup ↔ zs.Nodup:=by
 induction zs with
 | nil=>simp
 | cons z zs ih =>
  rw [List.map_cons,List.nodup_cons,List.nodup_cons,ih]
  simp
theorem aIJ (zs:List Str):(zs.map (Sum.inr:Str → Key)).map kV = zs.map V.str:=by
 rw [List.map_map];rfl
theorem lV (T:Txt K mg C):Fc P w K mg base 1 "none_twice" ["rows"] vP:=by
 refine T.d_p_none_twice.fcD rB lY (fun f cdv A outer s H vs Q E hr h=>?_)
 obtain ⟨x,rfl,p,us,ds,zs,rfl,hp,hi,hz,hn,q⟩:=h
 have big:=cF
 have l1:=hi.length
 have l2:ds.length = zs.length:=by have:=congrArg List.length hz;simpa using this
 refine ⟨_,(aJ (@aU _ _ _ _ (@cV _ _ _ _ _ _ _ _ jQ (@aR _ _ _ _ _ _ _ _ _ call_len_set rfl T.n_len cG (aA (@cP _ _ _ _ _ _ _ _ _ (@uM _ rfl) rfl T.n_set aDZ (aA (@cJ _ _ _ _ _ _ _ _ _ _ _ ["row"] 1 [] rfl (@bV _ (K) _ _ _ rfl (@bW _ _ _ _ (pv 0))) (fun R=>@aX _ _ (0) _ (show List.Nodup (["row"]:List Str) by decide +kernel) rfl (Or.inl rfl) (by trivial)) (@bC _ _ (by decide)) (fun R=>cH) (fun R=>(@aY _ _ _ _ _ _ _ (@aS _ (K) rfl) (pv 0) aE (fun _ _=>rfl))) (by rfl) (by rfl) (by rfl) (by rfl) (by rfl) (by rfl) (by rfl) (by intro _;rfl)) aD) (by decide) (by decide) (by rfl) (by rfl)) aD) (by decide) (by decide) (by rfl) (by rfl)) (@aR _ _ _ _ _ _ _ _ _ (@bL _ (K) rfl) rfl T.n_len cG (aA (pv 0) aD) (by decide) (by decide) (by rfl) (by rfl)) (@bR _ _ (by decide) (by decide))))),?_⟩
 refine ⟨_,rfl,p,rfl,⟨_,SqL.of hp⟩,?_⟩
 refine bM (F:=K) (xs:=us) (by omega) (fun i ys H'=>H' = H ∧ ys = (zs.take i).map V.str) ⟨rfl,rfl⟩ ?_ ?_ ?_
 ·rintro i ys H' hi' ⟨rfl,rfl⟩
  exact ⟨SqL.of hp,by rw [List.length_map,List.length_take];omega⟩
 ·rintro i x ys H' K1 K2 hx ⟨rfl,rfl⟩ k1 k2
  have hil:i < us.length:=(List.getElem?_eq_some_iff.mp hx).1
  obtain ⟨d,ed⟩:∃ d,ds[i]? = some d:=⟨_,List.getElem?_eq_getElem (by omega)⟩
  obtain ⟨z,ez⟩:∃ z,zs[i]? = some z:=⟨_,List.getElem?_eq_getElem (by omega)⟩
  obtain ⟨v,ev,iv⟩:=hi.get ed
  rw [hx] at ev
  cases ev
  have ef:cR d = some z:=by
   have:=congrArg (fun l=>l[i]?) hz
   simpa [ed,ez] using this
  obtain ⟨a,r,rfl,o⟩:=aDK iv ef
  refine ⟨_,rfl,a,_,0,.str z,rfl,rfl,SqT.of o,aK (j:=0) rfl,k1 _ _ ⟨rfl,?_⟩⟩
  rw [List.take_add_one,ez]
  simp
 ·rintro ys H' ⟨rfl,rfl⟩
  intro p1 hp1
  have hys:(zs.take us.length).map V.str = (zs.map (Sum.inr:Str → Key)).map kV:=by
   rw [List.take_of_length_le (by omega),aIJ]
  refine ⟨p1,zs.map Sum.inr,rfl,SqL.of (by rw [aB,hys]),by rw [List.length_map];exact hn,fun p2 hp2=>?_⟩
  have hle:=aIR (zs.map (Sum.inr:Str → Key))
  rw [List.length_map] at hle
  have np:p ≠ p1:=aQ hp hp1
  have np2:p ≠ p2:=aQ (show upd H' p1 _ p = _ from (aT np).trans hp) hp2
  refine ⟨p2,_,_,rfl,aB,by omega,_,rfl,p,us,rfl,.inl (SqL.of (by rw [aT np2,aT np];exact hp)),rfl,?_⟩
  have e:decide (V.int ((uL (zs.map (Sum.inr:Str → Key))).length:Int) = V.int (us.length:Int)) = decide zs.Nodup:=by
   rw [iS,Bool.eq_iff_iff,decide_eq_true_iff,← nN,← aDQ,List.length_map,beq_iff_eq]
   omega
  rw [e]
  exact dZ.of ((iK.new hp2 rfl).trans (iK.lst hp1)) q
def aBE:Sp:=sp1 fun x H Q=>∃ d,Is H d x ∧ bP d = true ∧ Q (.bl (cD d)) H
theorem uF (T:Txt K mg C):Fc P w K mg base 3 "is_field" ["thing"] aBE:=by
 have G_p_is_tuple_of:Fc P w K mg base 1 "is_tuple_of" ["thing","length"] oY:=fH T
 have G_p_is_name:Fc P w K mg base 1 "is_name" ["thing"] zG:=pQ T
 have G_p_is_height:Fc P w K mg base 2 "is_height" ["thing"] gM:=cX T
 have G_p_is_amount:Fc P w K mg base 2 "is_amount" ["thing"] sC:=mP T
 refine T.d_p_is_field.fc uC lY (fun f cdv A outer s H vs Q E hr h=>?_)
 obtain ⟨x,rfl,d,hd,hs,q⟩:=h
 refine ⟨_,(aG (@cQ _ _ _ _ _ _ _ _ (@cU _ _ _ _ (@cB _ _ _ (@bN _ _ _ _ _ _ _ _ _ _ G_p_is_tuple_of (hr.mono (by decide)) (aA (pv 0) (aA aE aD)) (by rfl) (by decide) (by rfl) (by rfl)) (by intro _;rfl))) (aJ (@aU _ _ _ _ gS)) bG) (aJ (@aU _ _ _ _ (@cI _ _ _ _ _ _ _ (@bN _ _ _ _ _ _ _ _ _ _ G_p_is_name (hr.mono (by decide)) (aA (@aY _ _ _ _ _ _ _ (@aS _ (K) rfl) (pv 0) aE (fun _ _=>rfl)) aD) (by rfl) (by decide) (by rfl) (by rfl)) (@cI _ _ _ _ _ _ _ (@bN _ _ _ _ _ _ _ _ _ _ G_p_is_height (hr.mono (by decide)) (aA (@aY _ _ _ _ _ _ _ (@aS _ (K) rfl) (pv 0) aE (fun _ _=>rfl)) aD) (by rfl) (by decide) (by rfl) (by rfl)) (@dE _ _ _ _ _ (@bN _ _ _ _ _ _ _ _ _ _ G_p_is_amount (hr.mono (by decide)) (aA (@aY _ _ _ _ _ _ _ (@aS _ (K) rfl) (pv 0) aE (fun _ _=>rfl)) aD) (by rfl) (by decide) (by rfl) (by rfl)))))))),?_⟩
 refine ⟨_,rfl,_,_,rfl,d,3,hd,rfl,_,rfl,?_⟩
 by_cases h3:∃ a b c,d = .tup [a,b,c]
 ·obtain ⟨a,b,c,rfl⟩:=h3
  obtain ⟨t,us,rfl,o,va,r1,rfl,ha,vb,r2,rfl,hb,vc,r3,rfl,hc,h0⟩:=hd
  cases (show r3 = [] from h0)
  have sa:bP a = true:=by
   exact gB (qC hs) List.mem_cons_self
  have q:Q (.bl (oR a && (bT b && kQ c))) H:=q
  refine bS ⟨_,rfl,t,_,0,va,rfl,rfl,SqT.of o,aK (j:=0) rfl,_,rfl,a,ha,sa,_,rfl,?_⟩
  cases ea:oR a with
  | false=>rw [ea] at q;exact bS q
  | true =>
   rw [ea,Bool.true_and] at q
   refine cL ⟨_,rfl,t,_,1,vb,rfl,rfl,SqT.of o,aK (j:=1) rfl,_,rfl,b,hb,_,rfl,?_⟩
   cases eb:bT b with
   | false=>rw [eb] at q;exact bS q
   | true =>
    rw [eb,Bool.true_and] at q
    exact cL ⟨_,rfl,t,_,2,vc,rfl,rfl,SqT.of o,aK (j:=2) rfl,_,rfl,c,hc,q⟩
 ·have e1:cD d = false:=by
   unfold cD
   split
   ·rename_i a b c
    exact absurd ⟨a,b,c,rfl⟩ h3
   ·rfl
  have e2:rR 3 d = false:=by
   cases d with
   | tup ds =>
    refine decide_eq_false (fun e=>?_)
    have e':ds.length = 3:=by omega
    match ds,e',h3 with
    | [a,b,c],_,h3=>exact h3 ⟨a,b,c,rfl⟩
   | _=>rfl
  dsimp only
  rw [e2]
  rw [e1] at q
  exact cL q
theorem qP {p:Dv → Bool} (hp:∀ d,p d = true → ∃ z,cR d = some z):∀ {ds:List Dv},ds.all p = true → ∃ zs:List Str,ds.map cR = zs.map some
 | [],_=>⟨[],rfl⟩
 | d :: ds,h=>by
  rw [List.all_cons,Bool.and_eq_true] at h
  obtain ⟨z,e⟩:=hp d h.1
  obtain ⟨zs,e2⟩:=qP hp h.2
  exact ⟨z :: zs,by rw [List.map_cons,List.map_cons,e,e2]⟩
theorem uI (d:Dv) (h:cD d = true):∃ z,cR d = some z:=by
 unfold cD at h
 split at h
 ·rename_i a b c
  rw [Bool.and_eq_true] at h
  cases a with
  | str z=>exact ⟨z,rfl⟩
  | _=>cases h.1
 ·cases h
def xO:Sp:=sp1 fun x H Q=>∃ d,Is H d x ∧ bP d = true ∧ Q (.bl (kX d)) H
theorem rJ (T:Txt K mg C):Fc P w K mg base 4 "are_fields" ["thing"] xO:=by
 have G_p_is_list_of:Fc P w K mg base 1 "is_list_of" ["thing","most"] oZ:=iO T
 have G_p_is_field:Fc P w K mg base 3 "is_field" ["thing"] aBE:=uF T
 have G_p_none_twice:Fc P w K mg base 1 "none_twice" ["rows"] vP:=lV T
 refine T.d_p_are_fields.fcD rD lY (fun f cdv A outer s H vs Q E hr h=>?_)
 obtain ⟨x,rfl,d,hd,hs,q⟩:=h
 have big:=cF
 refine ⟨_,(aJ (@aU _ _ _ _ (@cI _ _ _ _ _ _ _ (@bN _ _ _ _ _ _ _ _ _ _ G_p_is_list_of (hr.mono (by decide)) (aA (pv 0) (aA (@oP _ _ _ _ T.g_MOST_FIELDS (by rfl) (by decide)) aD)) (by rfl) (by decide) (by rfl) (by rfl)) (@cI _ _ _ _ _ _ _ (@aR _ _ _ _ _ _ _ _ _ (@gU _ rfl) rfl T.n_all fJ (aA (@cJ _ _ _ _ _ _ _ _ _ _ _ ["row"] 1 [] rfl (@bV _ (K) _ _ _ rfl (@bW _ _ _ _ (pv 0))) (fun R=>@aX _ _ (0) _ (show List.Nodup (["row"]:List Str) by decide +kernel) rfl (Or.inl rfl) (by trivial)) (@bC _ _ (by decide)) (fun R=>cH) (fun R=>(@bN _ _ _ _ _ _ _ _ _ _ G_p_is_field (hr.mono (by decide)) (aA (pv 0) aD) (by rfl) (by decide) (by rfl) (by rfl))) (by rfl) (by rfl) (by rfl) (by rfl) (by rfl) (by rfl) (by rfl) (by intro _;rfl)) aD) (by decide) (by decide) (by rfl) (by rfl)) (@dE _ _ _ _ _ (@bN _ _ _ _ _ _ _ _ _ _ G_p_none_twice (hr.mono (by decide)) (aA (pv 0) aD) (by rfl) (by decide) (by rfl) (by rfl))))))),?_⟩
 refine ⟨_,rfl,_,_,rfl,d,12,hd,rfl,_,rfl,?_⟩
 cases d with
 | lst ds =>
  obtain ⟨p,us,rfl,o,hi⟩:=hd
  have l1:=hi.length
  have hs':=Bool.and_eq_true_iff.mp (show (decide (ds.length ≤ 1000) && eT ds) = true from hs)
  have l2:ds.length ≤ 1000:=of_decide_eq_true hs'.1
  have q:Q (.bl ((decide (1 ≤ ds.length) && decide (ds.length ≤ 12)) && (ds.all cD && decide ((ds.map cR).Nodup)))) H:=q
  have e0:(decide (1 ≤ ds.length) && decide ((ds.length:Int) ≤ 12)) = (decide (1 ≤ ds.length) && decide (ds.length ≤ 12)):=by
   congr 1
   rw [Bool.eq_iff_iff,decide_eq_true_iff,decide_eq_true_iff]
   omega
  show if (decide (1 ≤ ds.length) && decide ((ds.length:Int) ≤ 12)) = true then _ else _
  rw [e0]
  refine kP (fun h1=>?_) (fun h1=>?_)
  ·rw [h1,Bool.true_and] at q
   refine ⟨_,rfl,p,rfl,⟨_,SqL.of o⟩,?_⟩
   refine bM (F:=K) (xs:=us) (by omega) (fun i ys H'=>H' = H ∧ ys = (ds.take i).map fun d=>V.bl (cD d)) ⟨rfl,rfl⟩ ?_ ?_ ?_
   ·rintro i ys H' hi' ⟨rfl,rfl⟩
    exact ⟨SqL.of o,by rw [List.length_map,List.length_take];omega⟩
   ·rintro i x ys H' K1 K2 hx ⟨rfl,rfl⟩ k1 k2
    have hil:i < us.length:=(List.getElem?_eq_some_iff.mp hx).1
    obtain ⟨d,ed⟩:∃ d,ds[i]? = some d:=⟨_,List.getElem?_eq_getElem (by omega)⟩
    obtain ⟨v,ev,iv⟩:=hi.get ed
    rw [hx] at ev
    cases ev
    refine ⟨_,rfl,_,rfl,d,iv,gB hs'.2 (List.mem_of_getElem? ed),k1 _ _ ⟨rfl,?_⟩⟩
    rw [List.take_add_one,ed]
    simp
   ·rintro ys H' ⟨rfl,rfl⟩
    intro p1 hp1
    have np:p ≠ p1:=aQ o hp1
    refine ⟨p1,ds.map cD,rfl,SqL.of ?_,_,rfl,?_⟩
    ·rw [aB,List.take_of_length_le (by omega),List.map_map]
     rfl
    have e1:(ds.map cD).all id = ds.all cD:=by rw [List.all_map];rfl
    rw [e1]
    refine kP (fun h2=>?_) (fun h2=>?_)
    ·rw [h2,Bool.true_and] at q
     obtain ⟨zs,ez⟩:=qP uI h2
     have l3:zs.length = ds.length:=by have:=congrArg List.length ez;simpa using this.symm
     refine ⟨_,rfl,_,rfl,p,us,ds,zs,rfl,by rw [aT np];exact o,IsL.same (aH.upd hp1) _ _ hi,ez,by omega,?_⟩
     have e2:decide zs.Nodup = decide (ds.map cR).Nodup:=by rw [ez,Bool.eq_iff_iff,decide_eq_true_iff,decide_eq_true_iff,gY]
     rw [e2]
     exact dZ.of (iK.lst hp1) q
    ·have h2':ds.all cD = false:=by simpa using h2
     rw [h2'] at q
     exact dZ.of (iK.lst hp1) q
  ·have h1':(decide (1 ≤ ds.length) && decide (ds.length ≤ 12)) = false:=by simpa using h1
   rw [h1'] at q
   exact dZ.of (.refl _) q
 | _=>exact bS (dZ.of (.refl _) q)
def aAT (K:PySem.W.Frag):Sp:=sp3 fun x y u H Q=>∃ (a b:Dv) (p:Addr) (zs:List Str),Is H a x ∧ Is H b y ∧ u = .ref p ∧ SqL K H p (zs.map V.str) ∧ Q (.bl (nE zs a b)) H
theorem sW (T:Txt K mg C):Fc P w K mg base 2 "are_sides" ["one","other","sides"] (aAT K):=by
 have G_p_is_one_of:Fc P w K mg base 1 "is_one_of" ["thing","names"] (vR K):=mO T
 refine T.d_p_are_sides.fc sK aFU (fun f cdv A outer s H vs Q E hr h=>?_)
 obtain ⟨x,y,u,rfl,a,b,p,zs,ha,hb,rfl,hp,q⟩:=h
 refine ⟨_,(aJ (@aU _ _ _ _ (@cI _ _ _ _ _ _ _ (@bN _ _ _ _ _ _ _ _ _ _ G_p_is_one_of (hr.mono (by decide)) (aA (pv 0) (aA (pv 2) aD)) (by rfl) (by decide) (by rfl) (by rfl)) (@cI _ _ _ _ _ _ _ (@bN _ _ _ _ _ _ _ _ _ _ G_p_is_one_of (hr.mono (by decide)) (aA (pv 1) (aA (pv 2) aD)) (by rfl) (by decide) (by rfl) (by rfl)) (@dE _ _ _ _ _ (@cV _ _ _ _ _ _ _ _ uU (pv 0) (pv 1) (@bR _ _ (by decide) (by decide)))))))),?_⟩
 have q:Q (.bl (bD zs a && (bD zs b && !deq a b))) H:=q
 refine ⟨_,rfl,_,rfl,_,_,rfl,a,p,zs,ha,rfl,hp,_,rfl,?_⟩
 cases ea:bD zs a with
 | false=>rw [ea] at q;exact bS q
 | true =>
  rw [ea,Bool.true_and] at q
  refine cL ⟨_,rfl,_,rfl,_,_,rfl,b,p,zs,hb,rfl,hp,_,rfl,?_⟩
  cases eb:bD zs b with
  | false=>rw [eb] at q;exact bS q
  | true =>
   rw [eb,Bool.true_and] at q
   cases a with
   | str z =>
    cases b with
    | str z' =>
     cases (show x = .str z from ha)
     cases (show y = .str z' from hb)
     refine cL ⟨_,rfl,_,rfl,rfl,?_⟩
     have e:(!decide (V.str z = V.str z')) = !deq (.str z) (.str z'):=by rw [pY];rfl
     rw [e]
     exact q
    | _=>cases eb
   | _=>cases ea
def aEP:Sp:=sp2 fun x y H Q=>∃ (d:Dv) (j:Int),Is H d x ∧ y = .int j ∧ Q (.bl (mU (.int j) d)) H
theorem wB (T:Txt K mg C):Fc P w K mg base 3 "is_sill" ["thing","crown"] aEP:=by
 have G_p_is_height:Fc P w K mg base 2 "is_height" ["thing"] gM:=cX T
 refine T.d_p_is_sill.fc vU jM (fun f cdv A outer s H vs Q E hr h=>?_)
 obtain ⟨x,y,rfl,d,j,hd,rfl,q⟩:=h
 refine ⟨_,(aJ (@aU _ _ _ _ (@aME _ _ _ _ _ _ _ (@cV _ _ _ _ _ _ _ _ aFR (pv 0) jX (@bR _ _ (by decide) (by decide))) (@dE _ _ _ _ _ (@cI _ _ _ _ _ _ _ (@bN _ _ _ _ _ _ _ _ _ _ G_p_is_height (hr.mono (by decide)) (aA (pv 0) aD) (by rfl) (by decide) (by rfl) (by rfl)) (@dE _ _ _ _ _ (@cV _ _ _ _ _ _ _ _ uV (pv 0) (pv 1) (@bR _ _ (by decide) (by decide))))))))),?_⟩
 refine ⟨_,rfl,rfl,_,rfl,?_⟩
 cases d with
 | non =>
  cases (show x = .non from hd)
  rw [decide_eq_true rfl]
  exact cL q
 | int i =>
  cases (show x = .int i from hd)
  rw [decide_eq_false (show ¬ V.int i = V.non by intro z;cases z)]
  refine bS ⟨_,rfl,_,rfl,.int i,rfl,_,rfl,?_⟩
  have q:Q (.bl (hgt i && decide (i < j))) H:=q
  show if hgt i = true then _ else _
  cases e:hgt i with
  | false=>rw [e] at q;exact bS q
  | true=>rw [e,Bool.true_and] at q;exact cL ⟨_,rfl,_,rfl,_,_,rfl,rfl,q⟩
 | bl b =>
  cases (show x = .bl b from hd)
  rw [decide_eq_false (show ¬ V.bl b = V.non by intro z;cases z)]
  exact bS ⟨_,rfl,_,rfl,.bl b,rfl,_,rfl,bS q⟩
 | str b =>
  cases (show x = .str b from hd)
  rw [decide_eq_false (show ¬ V.str b = V.non by intro z;cases z)]
  exact bS ⟨_,rfl,_,rfl,.str b,rfl,_,rfl,bS q⟩
 | lst b =>
  obtain ⟨a,us,rfl,o⟩:=id hd
  rw [decide_eq_false (show ¬ V.ref a = V.non by intro z;cases z)]
  exact bS ⟨_,rfl,_,rfl,.lst b,hd,_,rfl,bS q⟩
 | tup b =>
  obtain ⟨a,us,rfl,o⟩:=id hd
  rw [decide_eq_false (show ¬ V.ref a = V.non by intro z;cases z)]
  exact bS ⟨_,rfl,_,rfl,.tup b,hd,_,rfl,bS q⟩
 | dct b c =>
  obtain ⟨a,us,rfl,o⟩:=id hd
  rw [decide_eq_false (show ¬ V.ref a = V.non by intro z;cases z)]
  exact bS ⟨_,rfl,_,rfl,.dct b c,hd,_,rfl,bS q⟩
def aEU (K:PySem.W.Frag):Sp:=sp2 fun x y H Q=>∃ (d:Dv) (p:Addr) (zs:List Str),Is H d x ∧ bP d = true ∧ y = .ref p ∧ SqL K H p (zs.map V.str) ∧ Q (.bl (dA zs d)) H
theorem wC (T:Txt K mg C):Fc P w K mg base 4 "is_dyke" ["thing","sides"] (aEU K):=by
 have G_p_is_tuple_of:Fc P w K mg base 1 "is_tuple_of" ["thing","length"] oY:=fH T
 have G_p_is_name:Fc P w K mg base 1 "is_name" ["thing"] zG:=pQ T
 have G_p_are_sides:Fc P w K mg base 2 "are_sides" ["one","other","sides"] (aAT K):=sW T
 have G_p_is_height:Fc P w K mg base 2 "is_height" ["thing"] gM:=cX T
 have G_p_is_amount:Fc P w K mg base 2 "is_amount" ["thing"] sC:=mP T
 have G_p_is_sill:Fc P w K mg base 3 "is_sill" ["thing","crown"] aEP:=wB T
 refine T.d_p_is_dyke.fc vW jM (fun f cdv A outer s H vs Q E hr h=>?_)
 obtain ⟨x,y,rfl,d,p,zs,hd,hs,rfl,hp,q⟩:=h
 refine ⟨_,(aG (@cQ _ _ _ _ _ _ _ _ (@PW.pt _ _ _ (@kJ _ _ _ _ _ _ _ (@cU _ _ _ _ (@cB _ _ _ (@bN _ _ _ _ _ _ _ _ _ _ G_p_is_tuple_of (hr.mono (by decide)) (aA (pv 0) (aA aE aD)) (by rfl) (by decide) (by rfl) (by rfl)) (by intro _;rfl))) (@kJ _ _ _ _ _ _ _ (@cU _ _ _ _ (@cB _ _ _ (@bN _ _ _ _ _ _ _ _ _ _ G_p_is_name (hr.mono (by decide)) (aA (@aY _ _ _ _ _ _ _ (@aS _ (K) rfl) (pv 0) aE (fun _ _=>rfl)) aD) (by rfl) (by decide) (by rfl) (by rfl)) (by intro _;rfl))) (@jG _ _ _ _ (@cU _ _ _ _ (@cB _ _ _ (@bN _ _ _ _ _ _ _ _ _ _ G_p_are_sides (hr.mono (by decide)) (aA (@aY _ _ _ _ _ _ _ (@aS _ (K) rfl) (pv 0) aE (fun _ _=>rfl)) (aA (@aY _ _ _ _ _ _ _ (@aS _ (K) rfl) (pv 0) aE (fun _ _=>rfl)) (aA (pv 1) aD))) (by rfl) (by decide) (by rfl) (by rfl)) (by intro _;rfl))))))) (aJ (@aU _ _ _ _ gS)) bG) (aJ (@aU _ _ _ _ (@cI _ _ _ _ _ _ _ (@bN _ _ _ _ _ _ _ _ _ _ G_p_is_height (hr.mono (by decide)) (aA (@aY _ _ _ _ _ _ _ (@aS _ (K) rfl) (pv 0) aE (fun _ _=>rfl)) aD) (by rfl) (by decide) (by rfl) (by rfl)) (@cI _ _ _ _ _ _ _ (@bN _ _ _ _ _ _ _ _ _ _ G_p_is_amount (hr.mono (by decide)) (aA (@aY _ _ _ _ _ _ _ (@aS _ (K) rfl) (pv 0) aE (fun _ _=>rfl)) aD) (by rfl) (by decide) (by rfl) (by rfl)) (@dE _ _ _ _ _ (@bN _ _ _ _ _ _ _ _ _ _ G_p_is_sill (hr.mono (by decide)) (aA (@aY _ _ _ _ _ _ _ (@aS _ (K) rfl) (pv 0) aE (fun _ _=>rfl)) (aA (@aY _ _ _ _ _ _ _ (@aS _ (K) rfl) (pv 0) aE (fun _ _=>rfl)) aD)) (by rfl) (by decide) (by rfl) (by rfl)))))))),?_⟩
 refine ⟨_,rfl,_,_,rfl,d,6,hd,rfl,_,rfl,?_⟩
 by_cases h6:∃ n a b c r l,d = .tup [n,a,b,c,r,l]
 ·obtain ⟨n,a,b,c,r,l,rfl⟩:=h6
  obtain ⟨t,us,rfl,o,v0,r0,rfl,i0,v1,r1,rfl,i1,v2,r2,rfl,i2,v3,r3,rfl,i3,v4,r4,rfl,i4,v5,r5,rfl,i5,h0⟩:=hd
  cases (show r5 = [] from h0)
  have sn:bP n = true:=by
   exact gB (qC hs) List.mem_cons_self
  have q:Q (.bl (oR n && nE zs a b && (bT c && (kQ r && mU c l)))) H:=q
  have at_:∀ (j:Nat) (v:V),([v0,v1,v2,v3,v4,v5]:List V)[j]? = some v → atI [v0,v1,v2,v3,v4,v5] (j:Int) = some v:=fun j v e=>aK e
  refine bS ⟨_,rfl,t,_,0,v0,rfl,rfl,SqT.of o,at_ 0 _ rfl,_,rfl,n,i0,sn,_,rfl,?_⟩
  cases en:oR n with
  | false=>rw [en] at q;exact cL q
  | true =>
   rw [en,Bool.true_and] at q
   refine bS ⟨_,rfl,t,_,1,v1,rfl,rfl,SqT.of o,at_ 1 _ rfl,_,rfl,t,_,2,v2,rfl,rfl,SqT.of o,at_ 2 _ rfl,_,rfl,_,_,_,rfl,a,b,p,zs,i1,i2,rfl,hp,_,rfl,?_⟩
   cases es:nE zs a b with
   | false=>rw [es] at q;exact cL q
   | true =>
    rw [es,Bool.true_and] at q
    refine bS ⟨_,rfl,t,_,3,v3,rfl,rfl,SqT.of o,at_ 3 _ rfl,_,rfl,c,i3,_,rfl,?_⟩
    cases ec:bT c with
    | false=>rw [ec] at q;exact bS q
    | true =>
     rw [ec,Bool.true_and] at q
     refine cL ⟨_,rfl,t,_,4,v4,rfl,rfl,SqT.of o,at_ 4 _ rfl,_,rfl,r,i4,_,rfl,?_⟩
     cases er:kQ r with
     | false=>rw [er] at q;exact bS q
     | true =>
      rw [er,Bool.true_and] at q
      cases c with
      | int j =>
       cases (show v3 = .int j from i3)
       exact cL ⟨_,rfl,t,_,5,v5,rfl,rfl,SqT.of o,at_ 5 _ rfl,_,rfl,t,_,3,_,rfl,rfl,SqT.of o,at_ 3 _ rfl,_,_,rfl,l,j,i5,rfl,q⟩
      | _=>cases ec
 ·have e1:dA zs d = false:=by
   unfold dA
   split
   ·rename_i n a b c r l
    exact absurd ⟨n,a,b,c,r,l,rfl⟩ h6
   ·rfl
  have e2:rR 6 d = false:=by
   cases d with
   | tup ds =>
    refine decide_eq_false (fun e=>?_)
    have e':ds.length = 6:=by omega
    match ds,e',h6 with
    | [n,a,b,c,r,l],_,h6=>exact h6 ⟨n,a,b,c,r,l,rfl⟩
   | _=>rfl
  dsimp only
  rw [e2]
  rw [e1] at q
  exact cL q
theorem wK {zs:List Str} (d:Dv) (h:dA zs d = true):∃ z,cR d = some z:=by
 unfold dA at h
 split at h
 ·rename_i n a b c r l
  rw [Bool.and_eq_true,Bool.and_eq_true] at h
  cases n with
  | str z=>exact ⟨z,rfl⟩
  | _=>cases h.1.1
 ·cases h
def aBF (K:PySem.W.Frag):Sp:=sp2 fun x y H Q=>∃ (d:Dv) (p:Addr) (zs:List Str),Is H d x ∧ bP d = true ∧ y = .ref p ∧ H p = some (.lst (zs.map V.str)) ∧ Q (.bl (nF zs d)) H
theorem sX (T:Txt K mg C):Fc P w K mg base 5 "are_dykes" ["thing","sides"] (aBF K):=by
 have G_p_is_list_of:Fc P w K mg base 1 "is_list_of" ["thing","most"] oZ:=iO T
 have G_p_is_dyke:Fc P w K mg base 4 "is_dyke" ["thing","sides"] (aEU K):=wC T
 have G_p_none_twice:Fc P w K mg base 1 "none_twice" ["rows"] vP:=lV T
 refine T.d_p_are_dykes.fcD sL jM (fun f cdv A outer s H vs Q E hr h=>?_)
 obtain ⟨x,y,rfl,d,p0,zs0,hd,hs,rfl,hp0,q⟩:=h
 have big:=cF
 refine ⟨_,(aJ (@aU _ _ _ _ (@cI _ _ _ _ _ _ _ (@bN _ _ _ _ _ _ _ _ _ _ G_p_is_list_of (hr.mono (by decide)) (aA (pv 0) (aA (@oP _ _ _ _ T.g_MOST_DYKES (by rfl) (by decide)) aD)) (by rfl) (by decide) (by rfl) (by rfl)) (@cI _ _ _ _ _ _ _ (@aR _ _ _ _ _ _ _ _ _ (@gU _ rfl) rfl T.n_all fJ (aA (@cJ _ _ _ _ _ _ _ _ _ _ _ ["row","sides"] 1 [1] rfl (@bV _ (K) _ _ _ rfl (@bW _ _ _ _ (pv 0))) (fun R=>@aX _ _ (0) _ (show List.Nodup (["row","sides"]:List Str) by decide +kernel) rfl (Or.inl rfl) (by trivial)) (@bC _ _ (by decide)) (fun R=>cH) (fun R=>(@bN _ _ _ _ _ _ _ _ _ _ G_p_is_dyke (hr.mono (by decide)) (aA (pv 0) (aA (pv 1) aD)) (by rfl) (by decide) (by rfl) (by rfl))) (by rfl) (by rfl) (by rfl) (by rfl) (by rfl) (by rfl) (by rfl) (by intro _;rfl)) aD) (by decide) (by decide) (by rfl) (by rfl)) (@dE _ _ _ _ _ (@bN _ _ _ _ _ _ _ _ _ _ G_p_none_twice (hr.mono (by decide)) (aA (pv 0) aD) (by rfl) (by decide) (by rfl) (by rfl))))))),?_⟩
 refine ⟨_,rfl,_,_,rfl,d,40,hd,rfl,_,rfl,?_⟩
 cases d with
 | lst ds =>
  obtain ⟨p,us,rfl,o,hi⟩:=hd
  have l1:=hi.length
  have hs':=Bool.and_eq_true_iff.mp (show (decide (ds.length ≤ 1000) && eT ds) = true from hs)
  have l2:ds.length ≤ 1000:=of_decide_eq_true hs'.1
  have q:Q (.bl ((decide (1 ≤ ds.length) && decide (ds.length ≤ 40)) && (ds.all (dA zs0) && decide ((ds.map cR).Nodup)))) H:=q
  have e0:(decide (1 ≤ ds.length) && decide ((ds.length:Int) ≤ 40)) = (decide (1 ≤ ds.length) && decide (ds.length ≤ 40)):=by
   congr 1
   rw [Bool.eq_iff_iff,decide_eq_true_iff,decide_eq_true_iff]
   omega
  show if (decide (1 ≤ ds.length) && decide ((ds.length:Int) ≤ 40)) = true then _ else _
  rw [e0]
  refine kP (fun h1=>?_) (fun h1=>?_)
  ·rw [h1,Bool.true_and] at q
   refine ⟨_,rfl,p,rfl,⟨_,SqL.of o⟩,?_⟩
   refine bM (F:=K) (xs:=us) (by omega) (fun i ys H'=>H' = H ∧ ys = (ds.take i).map fun d=>V.bl (dA zs0 d)) ⟨rfl,rfl⟩ ?_ ?_ ?_
   ·rintro i ys H' hi' ⟨rfl,rfl⟩
    exact ⟨SqL.of o,by rw [List.length_map,List.length_take];omega⟩
   ·rintro i x ys H' K1 K2 hx ⟨rfl,rfl⟩ k1 k2
    have hil:i < us.length:=(List.getElem?_eq_some_iff.mp hx).1
    obtain ⟨d,ed⟩:∃ d,ds[i]? = some d:=⟨_,List.getElem?_eq_getElem (by omega)⟩
    obtain ⟨v,ev,iv⟩:=hi.get ed
    rw [hx] at ev
    cases ev
    refine ⟨_,rfl,_,rfl,_,_,rfl,d,p0,zs0,iv,gB hs'.2 (List.mem_of_getElem? ed),rfl,SqL.of hp0,k1 _ _ ⟨rfl,?_⟩⟩
    rw [List.take_add_one,ed]
    simp
   ·rintro ys H' ⟨rfl,rfl⟩
    intro p1 hp1
    have np:p ≠ p1:=aQ o hp1
    refine ⟨p1,ds.map (dA zs0),rfl,SqL.of ?_,_,rfl,?_⟩
    ·rw [aB,List.take_of_length_le (by omega),List.map_map]
     rfl
    have e1:(ds.map (dA zs0)).all id = ds.all (dA zs0):=by rw [List.all_map];rfl
    rw [e1]
    refine kP (fun h2=>?_) (fun h2=>?_)
    ·rw [h2,Bool.true_and] at q
     obtain ⟨zs,ez⟩:=qP wK h2
     have l3:zs.length = ds.length:=by have:=congrArg List.length ez;simpa using this.symm
     refine ⟨_,rfl,_,rfl,p,us,ds,zs,rfl,by rw [aT np];exact o,IsL.same (aH.upd hp1) _ _ hi,ez,by omega,?_⟩
     have e2:decide zs.Nodup = decide (ds.map cR).Nodup:=by rw [ez,Bool.eq_iff_iff,decide_eq_true_iff,decide_eq_true_iff,gY]
     rw [e2]
     exact dZ.of (iK.lst hp1) q
    ·have h2':ds.all (dA zs0) = false:=by simpa using h2
     rw [h2'] at q
     exact dZ.of (iK.lst hp1) q
  ·have h1':(decide (1 ≤ ds.length) && decide (ds.length ≤ 40)) = false:=by simpa using h1
   rw [h1'] at q
   exact dZ.of (.refl _) q
 | _=>exact bS (dZ.of (.refl _) q)
def aES (C:Addr):Sp:=sp3 fun x v1 v2 H Q=>∃ (p dx:Addr) (fs ds:List Dv),x = .ref p ∧ H p = some (.ins C dx []) ∧ Is H (.lst fs) v1 ∧ Is H (.lst ds) v2 ∧ bP (.lst fs) = true ∧ bP (.lst ds) = true ∧
 kX (.lst fs) = true ∧ nF ("sea" :: fs.map aL) (.lst ds) = true ∧ ∀ H',LandAt C H' p fs ds → (∀ b o,H b = some o → b ≠ p → H' b = some o) → Q .non H'
def rY (C:Addr) (sel:List Dv → List Dv → List Dv):Sp:=sp1 fun x H Q=>∃ (p:Addr) (fs ds:List Dv),x = .ref p ∧ LandAt C H p fs ds ∧ ∀ (l:Addr) (vs:List V) (H':Hp),aH H H' → H l = none → H' l = some (.lst vs) → IsL H' (sel fs ds) vs → Q (.ref l) H'
def lB (C:Addr) (sel:List Dv → List Dv → List Str):Sp:=sp1 fun x H Q=>∃ (p:Addr) (fs ds:List Dv),x = .ref p ∧ LandAt C H p fs ds ∧ ∀ (l:Addr) (H':Hp),aH H H' → H l = none → H' l = some (.lst ((sel fs ds).map V.str)) → Q (.ref l) H'
def aAW (C:Addr) (sel:List Dv → List Dv → List Dv):Sp:=sp1 fun x H Q=>∃ (p:Addr) (fs ds:List Dv),x = .ref p ∧ LandAt C H p fs ds ∧ ∀ (l:Addr) (vs:List V),H l = none → IsL H (sel fs ds) vs → Q (.ref l) (upd H l (.lst vs))
def aAS (C:Addr) (sel:List Dv → List Dv → List Str):Sp:=sp1 fun x H Q=>∃ (p:Addr) (fs ds:List Dv),x = .ref p ∧ LandAt C H p fs ds ∧ ∀ (l:Addr),H l = none → Q (.ref l) (upd H l (.lst ((sel fs ds).map V.str)))
theorem aFF {C:Addr} {sel:List Dv → List Dv → List Dv}:∀ vs H Q E,rY C sel vs H Q E → aAW C sel vs H Q E:=by
 rintro vs H Q E ⟨x,rfl,p,fs,ds,rfl,L,q⟩
 exact ⟨_,rfl,p,fs,ds,rfl,L,fun l us hl hi=>q l us _ (aH.upd hl) hl aB (IsL.same (aH.upd hl) _ _ hi)⟩
theorem aEN {C:Addr} {sel:List Dv → List Dv → List Str}:∀ vs H Q E,lB C sel vs H Q E → aAS C sel vs H Q E:=by
 rintro vs H Q E ⟨x,rfl,p,fs,ds,rfl,L,q⟩
 exact ⟨_,rfl,p,fs,ds,rfl,L,fun l hl=>q l _ (aH.upd hl) hl aB⟩
theorem qJ (T:Txt K mg C):Mc P w K mg base 1 C "dykes" ["self"] (aAW C fun _ ds=>ds):=by
 refine T.m_land_p_dykes.mcD rE lY (fun f cdv A outer s H vs Q E hr h=>?_)
 obtain ⟨x,rfl,p,fs,ds,rfl,L,q⟩:=h
 obtain ⟨dx,d1,d2,hx,t1,⟨k1,h1,e1,i1⟩⟩:=L.ex
 refine ⟨_,(aJ (@aU _ _ _ _ (@cP _ _ _ _ _ _ _ _ _ (@qS _ rfl) rfl T.n_list dI (aA (@aKK _ _ _ _ _ _ _ _ _ PySem.F.plainAttrs_dict PySem.F.slot_dict_values PySem.F.type_dict_values aCY (@fL _ _ _ _ _ (pv 0) rfl) (by rfl) (by rfl)) aD) (by decide) (by decide) (by rfl) (by rfl)))),?_⟩
 refine ⟨_,rfl,p,C,dx,_,_,rfl,hx,T.cl_Land,T.a_dyke_rows,aIL _ _,.inr (.inr (.inl ⟨rfl,.inl ⟨_,h1⟩⟩)),d2,k1,rfl,rfl,.inl h1,fun v hv=>?_⟩
 have nv:d2 ≠ v:=aQ h1 hv
 refine ⟨v,d2,k1,rfl,aB,.inl (by rw [aT nv];exact h1),fun l hl=>?_⟩
 exact dZ.of (iK.under hv rfl hl) (q l _ ((aH.upd hv).free hl) i1)
theorem iP (T:Txt K mg C):Mc P w K mg base 1 C "dykes" ["self"] (rY C fun _ ds=>ds):=(qJ T).imp aFF
theorem zY {kvs:List (Key × V)} {ds:List Dv} (e:kvs.map (·.1) = ds.map kO):(kvs.map fun kv=>kV kv.1) = (ds.map aL).map V.str:=by
 have h:(kvs.map fun kv=>kV kv.1) = (kvs.map (·.1)).map kV:=by rw [List.map_map];rfl
 rw [h,e,List.map_map,List.map_map]
 rfl
theorem lG (T:Txt K mg C):Mc P w K mg base 1 C "field_names" ["self"] (aAS C fun fs _=>fs.map aL):=by
 refine T.m_land_p_field_names.mc lX lY (fun f cdv A outer s H vs Q E hr h=>?_)
 obtain ⟨x,rfl,p,fs,ds,rfl,L,q⟩:=h
 obtain ⟨dx,d1,d2,hx,⟨k1,h1,e1,i1⟩,t2⟩:=L.ex
 refine ⟨_,(aJ (@aU _ _ _ _ (@cP _ _ _ _ _ _ _ _ _ (@tY _ rfl) rfl T.n_list dI (aA (@fL _ _ _ _ _ (pv 0) rfl) aD) (by decide) (by decide) (by rfl) (by rfl)))),?_⟩
 refine ⟨_,rfl,p,C,dx,_,_,rfl,hx,T.cl_Land,T.a_field_rows,nT _ _,d1,k1,rfl,.inl h1,fun l hl=>?_⟩
 have:=q l hl
 rw [zY e1]
 exact this
theorem eS (T:Txt K mg C):Mc P w K mg base 1 C "field_names" ["self"] (lB C fun fs _=>fs.map aL):=(lG T).imp aEN
theorem jO {H:Hp} {n a b:Str} {c r:Int} {s:Dv} {v:V} (h:Is H (.tup [.str n,.str a,.str b,.int c,.int r,s]) v):∃ t vs,v = .ref t ∧ H t = some (.tup [.str n,.str a,.str b,.int c,.int r,vs]) ∧ Is H s vs:=by
 obtain ⟨t,us,rfl,o,v0,r0,rfl,i0,v1,r1,rfl,i1,v2,r2,rfl,i2,v3,r3,rfl,i3,v4,r4,rfl,i4,v5,r5,rfl,i5,h0⟩:=h
 cases (show r5 = [] from h0)
 cases (show v0 = _ from i0)
 cases (show v1 = _ from i1)
 cases (show v2 = _ from i2)
 cases (show v3 = _ from i3)
 cases (show v4 = _ from i4)
 exact ⟨t,v5,rfl,o,i5⟩
theorem kW {H:Hp} {n:Str} {g e:Int} {v:V} (h:Is H (.tup [.str n,.int g,.int e]) v):∃ t,v = .ref t ∧ H t = some (.tup [.str n,.int g,.int e]):=by
 obtain ⟨t,us,rfl,o,v0,r0,rfl,i0,v1,r1,rfl,i1,v2,r2,rfl,i2,h0⟩:=h
 cases (show r2 = [] from h0)
 cases (show v0 = _ from i0)
 cases (show v1 = _ from i1)
 cases (show v2 = _ from i2)
 exact ⟨t,rfl,o⟩
theorem gT (T:Txt K mg C):Mc P w K mg base 2 C "sluices" ["self"] (lB C fun _ ds=>(ds.filter aO).map aL):=by
 have G_land_p_dykes:Mc P w K mg base 1 C "dykes" ["self"] (rY C fun _ ds=>ds):=iP T
 refine T.m_land_p_sluices.mc pE lY (fun f cdv A outer s H vs Q E hr h=>?_)
 obtain ⟨x,rfl,p,fs,ds,rfl,L,q⟩:=h
 have big:=cF
 obtain ⟨dx,d1,d2,hx,_⟩:=L.ex
 have gd:=(kS _ _).mp L.okd
 refine ⟨_,(aJ (@aU _ _ _ _ (@cJ _ _ _ _ _ _ _ _ _ _ _ ["dyke"] 1 [] rfl (@bV _ (K) _ _ _ rfl (@bW _ _ _ _ (@gF _ _ _ _ _ _ _ _ _ _ _ T.cl_Land G_land_p_dykes (hr.mono (by decide)) (pv 0) (by rfl)))) (fun R=>@aX _ _ (0) _ (show List.Nodup (["dyke"]:List Str) by decide +kernel) rfl (Or.inl rfl) (by trivial)) (@bC _ _ (by decide)) (fun R=>@iH _ _ _ (@bZ _ _ _ _ _ _ _ _ rN (@aY _ _ _ _ _ _ _ (@aS _ (K) rfl) (pv 0) aE (fun _ _=>rfl)) jX (@bR _ _ (by decide) (by decide)))) (fun R=>(@aY _ _ _ _ _ _ _ (@aS _ (K) rfl) (pv 0) aE (fun _ _=>rfl))) (by rfl) (by rfl) (by rfl) (by rfl) (by rfl) (by rfl) (by rfl) (by intro _;rfl)))),?_⟩
 refine ⟨_,rfl,p,dx,_,rfl,hx,eR _ _ (by decide +kernel) (by decide +kernel),_,rfl,p,fs,ds,rfl,L,fun l us H1 S1 fl hl hi=>?_⟩
 have hi:IsL H1 ds us:=hi
 have l1:=hi.length
 have l2:=gd.l2
 refine ⟨l,rfl,⟨_,SqL.of hl⟩,?_⟩
 refine bM (F:=K) (xs:=us) (by omega) (fun i ys H'=>H' = H1 ∧ ys = (((ds.take i).filter aO).map aL).map V.str ∧ ys.length ≤ i) ⟨rfl,rfl,Nat.le_refl _⟩ ?_ ?_ ?_
 ·rintro i ys H' hi' ⟨rfl,rfl,hy⟩
  exact ⟨SqL.of hl,hy⟩
 ·rintro i x ys H' K1 K2 hx ⟨rfl,rfl,hy⟩ k1 k2
  have hil:i < us.length:=(List.getElem?_eq_some_iff.mp hx).1
  obtain ⟨d,ed⟩:∃ d,ds[i]? = some d:=⟨_,List.getElem?_eq_getElem (by omega)⟩
  obtain ⟨v,ev,iv⟩:=hi.get ed
  rw [hx] at ev
  cases ev
  obtain ⟨n,a,b,c,r,sl,rfl,_⟩:=bX (gd.all d (List.mem_of_getElem? ed))
  obtain ⟨t,vs,rfl,o,iss⟩:=jO iv
  refine ⟨_,rfl,t,_,5,vs,rfl,rfl,SqT.of o,aK (j:=5) rfl,rfl,_,rfl,?_⟩
  rw [pU iss]
  have e0:aO (.tup [.str n,.str a,.str b,.int c,.int r,sl]) = !mV sl:=rfl
  cases e:mV sl with
  | true =>
   refine bS (k2 _ ⟨rfl,?_,by omega⟩)
   rw [List.take_add_one,ed]
   simp [e0,e]
  | false =>
   refine cL ⟨_,rfl,t,_,0,.str n,rfl,rfl,SqT.of o,aK (j:=0) rfl,k1 _ _ ⟨rfl,?_,by rw [List.length_append,List.length_singleton];omega⟩⟩
   rw [List.take_add_one,ed]
   simp [e0,e,aL,cR]
 ·rintro ys H' ⟨rfl,rfl,hy⟩
  intro l2 hl2
  refine q l2 _ (S1.trans (aH.upd hl2)) (S1.free hl2) ?_
  rw [aB,List.take_of_length_le (by omega)]
theorem dH {C:Addr} {H:Hp} {p:Addr} {fs ds:List Dv} (L:LandAt C H p fs ds):GoodF fs ∧ GoodD ("sea" :: fs.map aL) ds:=⟨(nV _).mp L.okf,(kS _ _).mp L.okd⟩
def sA (C:Addr):Sp:=sp2 fun x y H Q=>∃ (p:Addr) (fs ds:List Dv) (z:Str) (g e:Int),x = .ref p ∧ y = .str z ∧ LandAt C H p fs ds ∧ Dv.tup [.str z,.int g,.int e] ∈ fs ∧ Q (.int g) H
theorem kN (T:Txt K mg C):Mc P w K mg base 1 C "ground" ["self","field"] (sA C):=by
 refine T.m_land_p_ground.mc qE jM (fun f cdv A outer s H vs Q E hr h=>?_)
 obtain ⟨x,y,rfl,p,fs,ds,z,g,e,rfl,rfl,L,m,q⟩:=h
 have hu:=pV hr
 obtain ⟨dx,d1,d2,hx,⟨k1,h1,e1,i1⟩,t2⟩:=L.ex
 obtain ⟨v,ev,iv⟩:=aAO e1 i1 (dH L).1.nd m
 obtain ⟨t,rfl,o⟩:=kW iv
 refine ⟨_,(aJ (@aU _ _ _ _ (@aY _ _ _ _ _ _ _ (@aS _ (K) rfl) (@pL _ _ _ _ _ _ hu (@fL _ _ _ _ _ (pv 0) rfl) (pv 1) (fun _ _=>rfl)) aE (fun _ _=>rfl)))),?_⟩
 refine ⟨_,rfl,p,C,dx,_,_,rfl,hx,T.cl_Land,T.a_field_rows,nT _ _,_,rfl,d1,.ref t,rfl,?_,t,_,1,.int g,rfl,rfl,SqT.of o,aK (j:=1) rfl,q⟩
 rw [← ev]
 exact oA.k (k:=Sum.inr z) h1
theorem aAM {α β:Type}:∀ {xs:List α} {ys:List β},xs.length = ys.length → (xs.zip ys).map (·.1) = xs
 | [],[],_=>rfl
 | x :: xs,y :: ys,h=>by rw [List.zip_cons_cons,List.map_cons,aAM (by simpa using h)]
 | [],_ :: _,h=>by simp at h
 | _ :: _,[],h=>by simp at h
theorem aAL {α β:Type}:∀ {xs:List α} {ys:List β},xs.length = ys.length → (xs.zip ys).map (·.2) = ys
 | [],[],_=>rfl
 | x :: xs,y :: ys,h=>by rw [List.zip_cons_cons,List.map_cons,aAL (by simpa using h)]
 | [],_ :: _,h=>by simp at h
 | _ :: _,[],h=>by simp at h
def dF (ds:List Dv) (us:List V):List (Key × V):=(ds.map kO).zip us
theorem lF {ds:List Dv} {us:List V} (h:us.length = ds.length):(dF ds us).map (·.1) = ds.map kO:=aAM (by rw [List.length_map];exact h.symm)
theorem sP {ds:List Dv} {us:List V} (h:us.length = ds.length):(dF ds us).map (·.2) = us:=aAL (by rw [List.length_map];exact h.symm)
theorem nM {ds:List Dv} {us:List V} (h:us.length = ds.length):(dF ds us).length = us.length:=by
 unfold dF
 rw [List.length_zip,List.length_map]
 omega
theorem xZ {ds:List Dv} {us:List V} {i:Nat} {d:Dv} {v:V} (e1:ds[i]? = some d) (e2:us[i]? = some v):(dF ds us)[i]? = some (kO d,v):=by
 unfold dF
 rw [List.getElem?_zip_eq_some]
 exact ⟨by rw [List.getElem?_map,e1];rfl,e2⟩
theorem nU {ds:List Dv} (h:(ds.map aL).Nodup):(ds.map kO).Nodup:=by
 have e:ds.map kO = (ds.map aL).map Sum.inr:=by rw [List.map_map];rfl
 rw [e,nN]
 exact h
theorem uG (T:Txt K mg C):Ic P w K mg base 6 C ["self","fields","dykes"] (aES C):=by
 have G_p_are_fields:Fc P w K mg base 4 "are_fields" ["thing"] xO:=rJ T
 have G_p_are_dykes:Fc P w K mg base 5 "are_dykes" ["thing","sides"] (aBF K):=sX T
 refine T.i_Land.ic uD aFU (fun f cdv A outer s H vs Q E hr h=>?_)
 obtain ⟨x,v1,v2,rfl,p,dx,fs,ds,rfl,hx,hf,hd,sf,sd,okf,okd,q⟩:=h
 have big:=cF
 have gf:=(nV _).mp okf
 have gd:=(kS _ _).mp okd
 have lf:=gf.l2
 have ld:=gd.l2
 obtain ⟨a1,us,rfl,o1,i1⟩:=id hf
 obtain ⟨a2,ws,rfl,o2,i2⟩:=id hd
 have l1:=i1.length
 have l2:=i2.length
 refine ⟨_,(aG (@cQ _ _ _ _ _ _ _ _ (@cU _ _ _ _ (@cB _ _ _ (@bN _ _ _ _ _ _ _ _ _ _ G_p_are_fields (hr.mono (by decide)) (aA (pv 1) aD) (by rfl) (by decide) (by rfl) (by rfl)) (by intro _;rfl))) (aJ kK) bG) (aG (@cQ _ _ _ _ _ _ _ _ (@cU _ _ _ _ (@cB _ _ _ (@bN _ _ _ _ _ _ _ _ _ _ G_p_are_dykes (hr.mono (by decide)) (aA (pv 2) (aA (@aM _ _ _ _ _ _ _ _ iN (@bK _ _ _ _ (aA (@oP _ _ _ _ T.g_SEA (by rfl) (by decide)) aD)) (@cJ _ _ _ _ _ _ _ _ _ _ _ ["field"] 1 [] rfl (@bV _ (K) _ _ _ rfl (@bW _ _ _ _ (pv 1))) (fun R=>@aX _ _ (0) _ (show List.Nodup (["field"]:List Str) by decide +kernel) rfl (Or.inl rfl) (by trivial)) (@bC _ _ (by decide)) (fun R=>cH) (fun R=>(@aY _ _ _ _ _ _ _ (@aS _ (K) rfl) (pv 0) aE (fun _ _=>rfl))) (by rfl) (by rfl) (by rfl) (by rfl) (by rfl) (by rfl) (by rfl) (by intro _;rfl))) aD)) (by rfl) (by decide) (by rfl) (by rfl)) (by intro _;rfl))) (aJ kK) bG) (aG (@jW _ _ _ _ _ _ _ _ (pv 0) (@cP _ _ _ _ _ _ _ _ _ (@dM _ rfl) rfl T.n_dict gC (aA (@cJ _ _ _ _ _ _ _ _ _ _ _ ["field"] 1 [] rfl (@bV _ (K) _ _ _ rfl (@bW _ _ _ _ (pv 1))) (fun R=>@aX _ _ (0) _ (show List.Nodup (["field"]:List Str) by decide +kernel) rfl (Or.inl rfl) (by trivial)) (@bC _ _ (by decide)) (fun R=>cH) (fun R=>(@bI _ _ _ _ _ (aA (@aY _ _ _ _ _ _ _ (@aS _ (K) rfl) (pv 0) aE (fun _ _=>rfl)) (aA (pv 0) aD)))) (by rfl) (by rfl) (by rfl) (by rfl) (by rfl) (by rfl) (by rfl) (by intro _;rfl)) aD) (by decide) (by decide) (by rfl) (by rfl)) rfl) (aJ (@jW _ _ _ _ _ _ _ _ (pv 0) (@cP _ _ _ _ _ _ _ _ _ (@dM _ rfl) rfl T.n_dict gC (aA (@cJ _ _ _ _ _ _ _ _ _ _ _ ["dyke"] 1 [] rfl (@bV _ (K) _ _ _ rfl (@bW _ _ _ _ (pv 2))) (fun R=>@aX _ _ (0) _ (show List.Nodup (["dyke"]:List Str) by decide +kernel) rfl (Or.inl rfl) (by trivial)) (@bC _ _ (by decide)) (fun R=>cH) (fun R=>(@bI _ _ _ _ _ (aA (@aY _ _ _ _ _ _ _ (@aS _ (K) rfl) (pv 0) aE (fun _ _=>rfl)) (aA (pv 0) aD)))) (by rfl) (by rfl) (by rfl) (by rfl) (by rfl) (by rfl) (by rfl) (by intro _;rfl)) aD) (by decide) (by decide) (by rfl) (by rfl)) rfl))))),?_⟩
 refine ⟨_,rfl,_,rfl,.lst fs,hf,sf,_,rfl,?_⟩
 rw [okf]
 refine bS ?_
 refine ⟨_,rfl,aI rfl,fun p1 hp1=>?_⟩
 have S1:=aH.upd (o:=.lst [.str "sea"]) hp1
 refine ⟨_,rfl,a1,rfl,⟨_,SqL.of (S1 _ _ o1)⟩,?_⟩
 refine bM (F:=K) (xs:=us) (by omega) (fun i ys H'=>H' = upd H p1 (.lst [.str "sea"]) ∧ ys = ((fs.take i).map aL).map V.str) ⟨rfl,rfl⟩ ?_ ?_ ?_
 ·rintro i ys H' hi' ⟨rfl,rfl⟩
  exact ⟨SqL.of (S1 _ _ o1),by rw [List.length_map,List.length_map,List.length_take];omega⟩
 ·rintro i x ys H' K1 K2 hx' ⟨rfl,rfl⟩ k1 k2
  have hil:i < us.length:=(List.getElem?_eq_some_iff.mp hx').1
  obtain ⟨d,ed⟩:∃ d,fs[i]? = some d:=⟨_,List.getElem?_eq_getElem (by omega)⟩
  obtain ⟨v,ev,iv⟩:=i1.get ed
  rw [hx'] at ev
  cases ev
  obtain ⟨z,g,e,rfl,_⟩:=cE (gf.all d (List.mem_of_getElem? ed))
  obtain ⟨t,rfl,o⟩:=kW iv
  refine ⟨_,rfl,t,_,0,.str z,rfl,rfl,SqT.of (S1 _ _ o),aK (j:=0) rfl,k1 _ _ ⟨rfl,?_⟩⟩
  rw [List.take_add_one,ed]
  simp [aL,cR]
 ·rintro ys H' ⟨rfl,rfl⟩
  intro p2 hp2
  rw [List.take_of_length_le (by omega)]
  have S2:=aH.upd (o:=.lst ((fs.map aL).map V.str)) hp2
  refine ⟨p1,p2,_,_,rfl,rfl,S2 _ _ aB,aB,by simp only [List.length_map,List.length_cons,List.length_nil];omega,fun p3 hp3=>?_⟩
  have S3:=aH.upd (o:=.lst ([.str "sea"] ++ (fs.map aL).map V.str)) hp3
  have S:=S1.trans (S2.trans S3)
  generalize hH3:upd (upd (upd H p1 (.lst [.str "sea"])) p2 (.lst ((fs.map aL).map V.str))) p3 (.lst ([.str "sea"] ++ (fs.map aL).map V.str)) = H3 at S
  have hp3':H3 p3 = some (.lst ((("sea":Str) :: fs.map aL).map V.str)):=by rw [← hH3,aB];rfl
  refine ⟨_,_,rfl,.lst ds,p3,_,Is.same S _ _ hd,sd,rfl,hp3',_,rfl,?_⟩
  rw [okd]
  refine bS ?_
  refine ⟨_,rfl,a1,rfl,⟨_,SqL.of (S _ _ o1)⟩,?_⟩
  refine bM (F:=K) (xs:=us) (by omega) (fun i ys H'=>aH H3 H' ∧ cA H' ys ((dF fs us).take i)) ⟨aH.refl _,cA.nil _⟩ ?_ ?_ ?_
  ·rintro i ys H' hi' ⟨S4,pr⟩
   exact ⟨SqL.of (S4 _ _ (S _ _ o1)),by have:=pr.len;rw [List.length_take] at this;omega⟩
  ·rintro i x ys H' K1 K2 hx' ⟨S4,pr⟩ k1 k2
   have hil:i < us.length:=(List.getElem?_eq_some_iff.mp hx').1
   obtain ⟨d,ed⟩:∃ d,fs[i]? = some d:=⟨_,List.getElem?_eq_getElem (by omega)⟩
   obtain ⟨v,ev,iv⟩:=i1.get ed
   rw [hx'] at ev
   cases ev
   obtain ⟨z,g,e,rfl,_⟩:=cE (gf.all d (List.mem_of_getElem? ed))
   obtain ⟨t,rfl,o⟩:=kW iv
   have ot:=S4 _ _ (S _ _ o)
   refine ⟨_,rfl,t,_,0,.str z,rfl,rfl,SqT.of ot,aK (j:=0) rfl,_,rfl,aI rfl,fun pt hpt=>k1 _ _ ⟨S4.trans (aH.upd hpt),?_⟩⟩
   rw [List.take_add_one,xZ ed hx']
   exact pr.snoc (k:=Sum.inr z) hpt
  ·rintro ys H4 ⟨S4,pr⟩
   rw [List.take_of_length_le (by rw [nM l1];omega)] at pr
   intro p4 hp4
   have S5:=aH.upd (o:=.lst ys) hp4
   refine ⟨p4,ys,dF fs us,rfl,SqL.of aB,pr.same S5,by rw [nM l1];omega,by rw [lF l1];exact nU gf.nd,fun d1 hd1=>?_⟩
   have S6:=aH.upd (o:=.dK (dF fs us)) hd1
   have SA:=S.trans (S4.trans (S5.trans S6))
   have hd1':upd (upd H4 p4 (.lst ys)) d1 (.dK (dF fs us)) d1 = some (.dK (dF fs us)):=aB
   generalize upd (upd H4 p4 (.lst ys)) d1 (.dK (dF fs us)) = H6 at SA hd1'
   refine ⟨_,rfl,p,C,dx,[],rfl,SA _ _ hx,T.cl_Land,T.a_field_rows,(by show 0 < 1000;decide),?_⟩
   have SB:∀ b o,H b = some o → b ≠ p → upd H6 p (.ins C dx (cZ "field_rows" (.ref d1) [])) b = some o:=fun b o e hb=>by rw [aT hb];exact SA _ _ e
   have nd1:d1 ≠ p:=aBQ hd1' (SA _ _ hx) (by intro z;cases z)
   have SD:aCD H (upd H6 p (.ins C dx (cZ "field_rows" (.ref d1) []))):=fun b o e dt=>SB b o e (fun z=>by subst z;rw [hx] at e;cases e;cases dt)
   have hp7:upd H6 p (.ins C dx (cZ "field_rows" (.ref d1) [])) p = some (.ins C dx (cZ "field_rows" (.ref d1) [])):=aB
   have hd7:upd H6 p (.ins C dx (cZ "field_rows" (.ref d1) [])) d1 = some (.dK (dF fs us)):=by rw [aT nd1];exact hd1'
   generalize upd H6 p (.ins C dx (cZ "field_rows" (.ref d1) [])) = H7 at SB SD hp7 hd7
   refine ⟨_,rfl,a2,rfl,⟨_,SqL.of (SD _ _ o2 rfl)⟩,?_⟩
   refine bM (F:=K) (xs:=ws) (by omega) (fun i ys H'=>aH H7 H' ∧ cA H' ys ((dF ds ws).take i)) ⟨aH.refl _,cA.nil _⟩ ?_ ?_ ?_
   ·rintro i ys H' hi' ⟨S8,pr⟩
    exact ⟨SqL.of (S8 _ _ (SD _ _ o2 rfl)),by have:=pr.len;rw [List.length_take] at this;omega⟩
   ·rintro i x ys H' K1 K2 hx' ⟨S8,pr⟩ k1 k2
    have hil:i < ws.length:=(List.getElem?_eq_some_iff.mp hx').1
    obtain ⟨d,ed⟩:∃ d,ds[i]? = some d:=⟨_,List.getElem?_eq_getElem (by omega)⟩
    obtain ⟨v,ev,iv⟩:=i2.get ed
    rw [hx'] at ev
    cases ev
    obtain ⟨n,a,b,c,r,sl,rfl,_⟩:=bX (gd.all d (List.mem_of_getElem? ed))
    obtain ⟨t,vs,rfl,o,_⟩:=jO iv
    have ot:=S8 _ _ (SD _ _ o rfl)
    refine ⟨_,rfl,t,_,0,.str n,rfl,rfl,SqT.of ot,aK (j:=0) rfl,_,rfl,aI rfl,fun pt hpt=>k1 _ _ ⟨S8.trans (aH.upd hpt),?_⟩⟩
    rw [List.take_add_one,xZ ed hx']
    exact pr.snoc (k:=Sum.inr n) hpt
   ·rintro ys H8 ⟨S8,pr⟩
    rw [List.take_of_length_le (by rw [nM l2];omega)] at pr
    intro p9 hp9
    have S9:=aH.upd (o:=.lst ys) hp9
    refine ⟨p9,ys,dF ds ws,rfl,SqL.of aB,pr.same S9,by rw [nM l2];omega,by rw [lF l2];exact nU gd.nd,fun d2 hd2=>?_⟩
    have S10:=aH.upd (o:=.dK (dF ds ws)) hd2
    have SC:=S8.trans (S9.trans S10)
    have hd2':upd (upd H8 p9 (.lst ys)) d2 (.dK (dF ds ws)) d2 = some (.dK (dF ds ws)):=aB
    generalize upd (upd H8 p9 (.lst ys)) d2 (.dK (dF ds ws)) = H10 at SC hd2'
    refine ⟨_,rfl,p,C,dx,_,rfl,SC _ _ hp7,T.cl_Land,T.a_dyke_rows,(by show 1 < 1000;decide),?_⟩
    have nd2:d2 ≠ p:=aBQ hd2' (SC _ _ hp7) (by intro z;cases z)
    have SE:aCD H (upd H10 p (.ins C dx (oF d1 d2))):=fun b o e dt=>by
     have hb:b ≠ p:=fun z=>by subst z;rw [hx] at e;cases e;cases dt
     rw [aT hb]
     exact SC _ _ (SB _ _ e hb)
    refine q _ ⟨⟨dx,d1,d2,aB,⟨_,(aT nd1).trans (SC _ _ hd7),lF l1,?_⟩,⟨_,(aT nd2).trans hd2',lF l2,?_⟩⟩,okf,okd⟩ fun b o e hb=>?_
    ·rw [sP l1]
     exact IsL.sameD SE _ _ i1
    ·rw [sP l2]
     exact IsL.sameD SE _ _ i2
    ·show upd H10 p (.ins C dx (oF d1 d2)) b = some o
     rw [aT hb]
     exact SC _ _ (SB _ _ e hb)
open Mt02
def Scr (K:PySem.W.Frag) (H:Hp) (x:V):Prop:=∃ (a:Addr) (ns:List Int),x = .ref a ∧ SqL K H a (ns.map V.int) ∧ ns.length ≤ 63
theorem Scr.same {K:PySem.W.Frag} {H H':Hp} {x:V} (S:aH H H') (h:Scr K H x):Scr K H' x:=by
 obtain ⟨a,ns,e,q,l⟩:=h
 exact ⟨a,ns,e,S.seq q,l⟩
theorem at4 {a b c d i:Int} (h0:0 ≤ i) (h1:i < 4):∃ m:Int,atI ([.int a,.int b,.int c,.int d]:List V) i = some (.int m) ∧ (m = a ∨ m = b ∨ m = c ∨ m = d):=by
 obtain ⟨k,rfl⟩:=Int.eq_ofNat_of_zero_le h0
 have hk:k < 4:=by omega
 match k,hk with
 | 0,_=>exact ⟨a,aK rfl,.inl rfl⟩
 | 1,_=>exact ⟨b,aK rfl,.inr (.inl rfl)⟩
 | 2,_=>exact ⟨c,aK rfl,.inr (.inr (.inl rfl))⟩
 | 3,_=>exact ⟨d,aK rfl,.inr (.inr (.inr rfl))⟩
structure Fds (fs:List Dv) (n:Nat):Prop where
 l1:1 ≤ fs.length
 l2:fs.length ≤ n
 all:∀ d ∈ fs,cD d = true
 nd:(fs.map aL).Nodup
theorem aAD {d:Dv} (h:cD d = true):oS d = true:=by
 obtain ⟨z,g,e,rfl,_⟩:=cE h
 rfl
theorem aGR {z:Str} {g e:Int} (hz:fC z = true) (g0:-1000000 ≤ g) (g1:g ≤ 1000000) (e0:0 ≤ e) (e1:e ≤ 1000000):cD (.tup [.str z,.int g,.int e]) = true:=by
 show (fC z && (hgt g && amt e)) = true
 unfold hgt amt
 rw [hz,decide_eq_true g0,decide_eq_true g1,decide_eq_true e0,decide_eq_true e1]
 rfl
structure Dks (zs:List Str) (ds:List Dv) (n:Nat):Prop where
 l1:1 ≤ ds.length
 l2:ds.length ≤ n
 all:∀ d ∈ ds,dA zs d = true
 nd:(ds.map aL).Nodup
theorem aCK {c s:Dv} (h:mU c s = true):oS s = true:=by
 cases s with
 | non=>rfl
 | int i=>rfl
 | _=>cases h
theorem aDO {zs:List Str} {d:Dv} (h:dA zs d = true):oS d = true:=by
 obtain ⟨n,a,b,c,r,s,rfl,_,_,_,_,_,_,hs⟩:=bX h
 have:=aCK hs
 show (true && (true && (true && (true && (true && (oS s && true)))))) = true
 rw [this]
 rfl
theorem aIP {zs:List Str} {n a b:Str} {c r:Int} {s:Dv} (hn:fC n = true) (ha:a ∈ zs) (hb:b ∈ zs) (hab:a ≠ b) (hc:hgt c = true) (hr:amt r = true) (hs:mU (.int c) s = true):dA zs (.tup [.str n,.str a,.str b,.int c,.int r,s]) = true:=by
 show (fC n && (decide (a ∈ zs) && (decide (b ∈ zs) && !(a == b))) && (hgt c && (amt r && mU (.int c) s))) = true
 rw [hn,decide_eq_true ha,decide_eq_true hb,hc,hr,hs,beq_eq_false_iff_ne.mpr hab]
 rfl
theorem wN {i:Int} (h0:-1000000 ≤ i) (h1:i ≤ 1000000):hgt i = true:=by
 unfold hgt
 rw [decide_eq_true h0,decide_eq_true h1]
 rfl
theorem aLD {i:Int} (h0:0 ≤ i) (h1:i ≤ 1000000):amt i = true:=by
 unfold amt
 rw [decide_eq_true h0,decide_eq_true h1]
 rfl
theorem aBJ {z:Str} (h:fC z = true):z ≠ "sea":=by
 intro e
 subst e
 simp [fC] at h
theorem aFA {fs:List Dv} {n:Nat} (h:Fds fs n):("sea" :: fs.map aL:List Str).Nodup:=by
 rw [List.nodup_cons]
 refine ⟨fun m=>?_,h.nd⟩
 obtain ⟨d,md,e⟩:=List.mem_map.mp m
 obtain ⟨z,g,e',rfl,hz,_⟩:=cE (h.all d md)
 exact aBJ hz e
theorem at2 {a b i:Int} (h0:0 ≤ i) (h1:i < 2):∃ m:Int,atI ([.int a,.int b]:List V) i = some (.int m) ∧ (m = a ∨ m = b):=by
 obtain ⟨k,rfl⟩:=Int.eq_ofNat_of_zero_le h0
 have hk:k < 2:=by omega
 match k,hk with
 | 0,_=>exact ⟨a,aK rfl,.inl rfl⟩
 | 1,_=>exact ⟨b,aK rfl,.inr rfl⟩
theorem aDL {fs:List Dv} {n:Nat} (h:Fds fs n) (hn:n ≤ 12):kX (.lst fs) = true:=(nV fs).mpr ⟨h.l1,Nat.le_trans h.l2 hn,h.all,h.nd⟩
theorem aGT {zs:List Str} {ds:List Dv} {n:Nat} (h:Dks zs ds n) (hn:n ≤ 40):nF zs (.lst ds) = true:=(kS zs ds).mpr ⟨h.l1,Nat.le_trans h.l2 hn,h.all,h.nd⟩
theorem jL {z:Str} (h:fC z = true):z.length ≤ 1000:=by
 unfold fC at h
 rw [Bool.and_eq_true,Bool.and_eq_true,Bool.and_eq_true] at h
 have:=of_decide_eq_true h.1.1.2
 omega
theorem yO {d:Dv} (h:cD d = true):bP d = true:=by
 obtain ⟨z,g,e,rfl,hz,_⟩:=cE h
 show (decide (3 ≤ 1000) && (decide (z.length ≤ 1000) && (true && (true && true)))) = true
 rw [decide_eq_true (jL hz)]
 rfl
theorem sE {fs:List Dv} (hf:∀ d ∈ fs,cD d = true) {a:Str} (h:a ∈ ("sea" :: fs.map aL:List Str)):a.length ≤ 1000:=by
 rcases List.mem_cons.mp h with rfl | h
 ·decide +kernel
 ·obtain ⟨d,m,rfl⟩:=List.mem_map.mp h
  obtain ⟨z,g,e,rfl,hz,_⟩:=cE (hf d m)
  exact jL hz
theorem aAE {fs:List Dv} (hf:∀ d ∈ fs,cD d = true) {d:Dv} (h:dA ("sea" :: fs.map aL) d = true):bP d = true:=by
 obtain ⟨n,a,b,c,r,s,rfl,hn,ha,hb,_,_,_,hs⟩:=bX h
 have e:bP s = true:=by
  cases s with
  | non=>rfl
  | int i=>rfl
  | _=>cases hs
 show (decide (6 ≤ 1000) && (decide (n.length ≤ 1000) && (decide (a.length ≤ 1000) && (decide (b.length ≤ 1000) && (true && (true && (bP s && true))))))) = true
 rw [decide_eq_true (jL hn),decide_eq_true (sE hf ha),decide_eq_true (sE hf hb),e]
 rfl
theorem iT {ds:List Dv} (h:∀ d ∈ ds,bP d = true) (hl:ds.length ≤ 1000):bP (.lst ds) = true:=by
 show (decide (ds.length ≤ 1000) && eT ds) = true
 rw [decide_eq_true hl,kC h]
 rfl
theorem aGP {ds:List Dv} (h:∀ d ∈ ds,aV 29 d = true):aV 30 (.lst ds) = true:=by
 have:=lL h
 simpa [aV] using this
theorem jT (zs:List Str):aV 30 (.lst (zs.map Dv.str)) = true:=aGP fun d m=>by
 obtain ⟨z,_,rfl⟩:=List.mem_map.mp m
 rfl
theorem tG {d:Dv} {x y:V} {H:Hp} {Q:VK} (hx:Is H d x) (hy:Is H d y) (f:aV 30 d = true) (q:Q (.bl false) H):aHT true x y H Q:=⟨d,d,hx,hy,f,f,by rw [mZ 30 d f];exact q⟩
theorem yT (xs:List V) (k:Nat):yV xs (some (k:Int)) none = xs.drop k:=by
 unfold yV
 rw [HT.sIx_nat,HT.sIx_none]
 by_cases h:k ≤ xs.length
 ·rw [Nat.min_eq_left h,List.take_of_length_le (by rw [List.length_drop];exact Nat.le_refl _)]
 ·rw [Nat.min_eq_right (by omega),Nat.sub_self,List.take_zero,List.drop_eq_nil_of_le (by omega)]
theorem lA {H:Hp} {l:Addr} {zs:List Str} (h:H l = some (.lst (zs.map V.str))):Is H (.lst (zs.map Dv.str)) (.ref l):=⟨l,_,rfl,h,IsL.strs H zs⟩
open Ld
def oG:Dv → Dv → Bool
 | .int n,.int m=>(decide (1 ≤ m) && decide (m ≤ 100)) && (decide (0 ≤ n) && decide (n < m))
 | _,_=>false
def fD (zs:List Str):Dv → Bool
 | .tup [a]=>bD ["always"] a
 | .tup [a,b,c]=>bD ["day"] a && oG b c
 | .tup [a,b]=>if bD ["above","below"] a then bT b else bD ["wet","dry"] a && bD zs b
 | _=>false
def kY (zs:List Str):Dv → Bool
 | .lst cs=>(decide (1 ≤ cs.length) && decide ((cs.length:Int) ≤ 6)) && cs.all (fD zs)
 | _=>false
def iJ (gs zs:List Str):Dv → Bool
 | .tup [a,b,c]=>(bD ["open","shut"] a && bD gs b) && kY zs c
 | _=>false
def gA (gs zs:List Str):Dv → Bool
 | .lst ds=>decide (ds.length ≤ 60) && ds.all (iJ gs zs)
 | _=>false
def rZ (K:PySem.W.Frag):Sp:=sp2 fun x y H Q=>∃ (d:Dv) (p:Addr) (zs:List Str),Is H d x ∧ y = .ref p ∧ (SqL K H p (zs.map V.str) ∨ SqT K H p (zs.map V.str)) ∧ Q (.bl (bD zs d)) H
theorem lW (T:Txt K mg C):Fc P w K mg base 1 "is_one_of" ["thing","names"] (rZ K):=by
 refine T.d_p_is_one_of.fc mF jM (fun f cdv A outer s H vs Q E hr h=>?_)
 obtain ⟨x,y,rfl,d,p,zs,hd,rfl,hp,q⟩:=h
 obtain ⟨t,ty,e1,e2,e3,_⟩:=oW K hd
 refine ⟨_,(aJ (@aU _ _ _ _ (@cI _ _ _ _ _ _ _ (@aR _ _ _ _ _ _ _ _ _ (@cO _ (K) rfl) rfl T.n_isinstance bB (aA (pv 0) (aA (@kL _ _ _ _ T.n_str qT (by rfl) (by decide) (by decide)) aD)) (by decide) (by decide) (by rfl) (by rfl)) (@dE _ _ _ _ _ (@cV _ _ _ _ _ _ _ _ (@gX _ (K) rfl) (pv 0) (pv 1) (by with_unfolding_all rfl)))))),?_⟩
 refine ⟨_,rfl,_,_,_,t,_,rfl,rfl,ty,e3,_,rfl,?_⟩
 cases d with
 | str z =>
  cases (show x = .str z from hd)
  refine cL ⟨_,rfl,_,rfl,p,_,rfl,hp,rfl,hG zs,?_⟩
  show Q (.bl (inV (.str z) (zs.map V.str))) H
  rw [lK]
  exact q
 | _=>exact bS q
def aBH:Sp:=sp2 fun x y H Q=>∃ a b:Dv,Is H a x ∧ Is H b y ∧ Q (.bl (oG a b)) H
theorem sV (T:Txt K mg C):Fc P w K mg base 2 "is_day_of" ["number","turn"] aBH:=by
 have G_p_is_whole:Fc P w K mg base 1 "is_whole" ["thing"] rL:=jZ T
 refine T.d_p_is_day_of.fc sI jM (fun f cdv A outer s H vs Q E hr h=>?_)
 obtain ⟨x,y,rfl,a,b,ha,hb,q⟩:=h
 refine ⟨_,(aJ (@aU _ _ _ _ (@cI _ _ _ _ _ _ _ (@bN _ _ _ _ _ _ _ _ _ _ G_p_is_whole (hr.mono (by decide)) (aA (pv 0) aD) (by rfl) (by decide) (by rfl) (by rfl)) (@cI _ _ _ _ _ _ _ (@bN _ _ _ _ _ _ _ _ _ _ G_p_is_whole (hr.mono (by decide)) (aA (pv 1) aD) (by rfl) (by decide) (by rfl) (by rfl)) (@cI _ _ _ _ _ _ _ (@mK _ _ _ _ _ _ _ _ _ _ _ _ mL mL aE (pv 1) (@oP _ _ _ _ T.g_MOST_ROUND (by rfl) (by decide)) (by with_unfolding_all rfl)) (@dE _ _ _ _ _ (@mK _ _ _ _ _ _ _ _ _ _ _ _ mL uV aE (pv 0) (pv 1) (by with_unfolding_all rfl)))))))),?_⟩
 refine ⟨_,rfl,_,rfl,a,ha,_,rfl,?_⟩
 by_cases e:∃ n m:Int,a = .int n ∧ b = .int m
 ·obtain ⟨n,m,rfl,rfl⟩:=e
  cases (show x = .int n from ha)
  cases (show y = .int m from hb)
  refine cL ⟨_,rfl,_,rfl,.int m,rfl,_,rfl,cL ?_⟩
  have q:Q (.bl ((decide (1 ≤ m) && decide (m ≤ 100)) && (decide (0 ≤ n) && decide (n < m)))) H:=q
  refine ⟨_,rfl,_,_,rfl,rfl,_,rfl,?_⟩
  cases e1:decide (1 ≤ m) with
  | false =>
   rw [e1] at q
   exact bS ⟨_,rfl,bS q⟩
  | true =>
   rw [e1] at q
   refine cL ⟨_,_,rfl,rfl,_,rfl,?_⟩
   cases e2:decide (m ≤ 100) with
   | false =>
    rw [e2] at q
    exact bS q
   | true =>
    rw [e2] at q
    refine cL ⟨_,rfl,_,_,rfl,rfl,_,rfl,?_⟩
    cases e3:decide (0 ≤ n) with
    | false =>
     rw [e3] at q
     exact bS q
    | true =>
     rw [e3] at q
     exact cL ⟨_,rfl,_,_,rfl,rfl,q⟩
 ·have e0:oG a b = false:=by
   unfold oG
   split
   ·rename_i n m
    exact absurd ⟨n,m,rfl,rfl⟩ e
   ·rfl
  rw [e0] at q
  cases ia:isInt a with
  | false=>exact bS q
  | true =>
   refine cL ⟨_,rfl,_,rfl,b,hb,_,rfl,?_⟩
   cases ib:isInt b with
   | false=>exact bS q
   | true =>
    cases a with
    | int n=>cases b with
     | int m=>exact absurd ⟨n,m,rfl,rfl⟩ e
     | _=>cases ib
    | _=>cases ia
def aEW (K:PySem.W.Frag):Sp:=sp2 fun x y H Q=>∃ (d:Dv) (p:Addr) (zs:List Str),Is H d x ∧ y = .ref p ∧ SqL K H p (zs.map V.str) ∧ ∀ H',aH H H' → Q (.bl (fD zs d)) H'
theorem pR (T:Txt K mg C):Fc P w K mg base 3 "is_condition" ["thing","fields"] (aEW K):=by
 have G_p_is_tuple_of:Fc P w K mg base 1 "is_tuple_of" ["thing","length"] oY:=fH T
 have G_p_is_one_of:Fc P w K mg base 1 "is_one_of" ["thing","names"] (rZ K):=lW T
 have G_p_is_day_of:Fc P w K mg base 2 "is_day_of" ["number","turn"] aBH:=sV T
 have G_p_is_height:Fc P w K mg base 2 "is_height" ["thing"] gM:=cX T
 obtain ⟨a_TIDES,m_TIDES,s_TIDES⟩:=T.g_TIDES
 obtain ⟨a_WATERS,m_WATERS,s_WATERS⟩:=T.g_WATERS
 refine T.d_p_is_condition.fc pB jM (fun f cdv A outer s H vs Q E hr h=>?_)
 obtain ⟨x,y,rfl,d,p,zs,hd,rfl,hp,q⟩:=h
 refine ⟨_,(aG (@cQ _ _ _ _ _ _ _ _ (@cB _ _ _ (@bN _ _ _ _ _ _ _ _ _ _ G_p_is_tuple_of (hr.mono (by decide)) (aA (pv 0) (aA aE aD)) (by rfl) (by decide) (by rfl) (by rfl)) (by intro _;rfl)) (aJ (@aU _ _ _ _ (@bN _ _ _ _ _ _ _ _ _ _ G_p_is_one_of (hr.mono (by decide)) (aA (@aY _ _ _ _ _ _ _ (@aS _ (K) rfl) (pv 0) aE (fun _ _=>rfl)) (aA (@bI _ _ _ _ _ (aA bJ aD)) aD)) (by rfl) (by decide) (by rfl) (by rfl)))) bG) (aG (@cQ _ _ _ _ _ _ _ _ (@cB _ _ _ (@bN _ _ _ _ _ _ _ _ _ _ G_p_is_tuple_of (hr.mono (by decide)) (aA (pv 0) (aA aE aD)) (by rfl) (by decide) (by rfl) (by rfl)) (by intro _;rfl)) (aJ (@aU _ _ _ _ (@cI _ _ _ _ _ _ _ (@bN _ _ _ _ _ _ _ _ _ _ G_p_is_one_of (hr.mono (by decide)) (aA (@aY _ _ _ _ _ _ _ (@aS _ (K) rfl) (pv 0) aE (fun _ _=>rfl)) (aA (@bI _ _ _ _ _ (aA bJ aD)) aD)) (by rfl) (by decide) (by rfl) (by rfl)) (@dE _ _ _ _ _ (@bN _ _ _ _ _ _ _ _ _ _ G_p_is_day_of (hr.mono (by decide)) (aA (@aY _ _ _ _ _ _ _ (@aS _ (K) rfl) (pv 0) aE (fun _ _=>rfl)) (aA (@aY _ _ _ _ _ _ _ (@aS _ (K) rfl) (pv 0) aE (fun _ _=>rfl)) aD)) (by rfl) (by decide) (by rfl) (by rfl)))))) bG) (aG (@cQ _ _ _ _ _ _ _ _ (@cU _ _ _ _ (@cB _ _ _ (@bN _ _ _ _ _ _ _ _ _ _ G_p_is_tuple_of (hr.mono (by decide)) (aA (pv 0) (aA aE aD)) (by rfl) (by decide) (by rfl) (by rfl)) (by intro _;rfl))) (aJ (@aU _ _ _ _ gS)) bG) (aG (@cQ _ _ _ _ _ _ _ _ (@cB _ _ _ (@bN _ _ _ _ _ _ _ _ _ _ G_p_is_one_of (hr.mono (by decide)) (aA (@aY _ _ _ _ _ _ _ (@aS _ (K) rfl) (pv 0) aE (fun _ _=>rfl)) (aA (@jP _ _ (.ref a_TIDES) _ _ rfl m_TIDES rfl (by decide)) aD)) (by rfl) (by decide) (by rfl) (by rfl)) (by intro _;rfl)) (aJ (@aU _ _ _ _ (@bN _ _ _ _ _ _ _ _ _ _ G_p_is_height (hr.mono (by decide)) (aA (@aY _ _ _ _ _ _ _ (@aS _ (K) rfl) (pv 0) aE (fun _ _=>rfl)) aD) (by rfl) (by decide) (by rfl) (by rfl)))) bG) (aJ (@aU _ _ _ _ (@cI _ _ _ _ _ _ _ (@bN _ _ _ _ _ _ _ _ _ _ G_p_is_one_of (hr.mono (by decide)) (aA (@aY _ _ _ _ _ _ _ (@aS _ (K) rfl) (pv 0) aE (fun _ _=>rfl)) (aA (@jP _ _ (.ref a_WATERS) _ _ rfl m_WATERS rfl (by decide)) aD)) (by rfl) (by decide) (by rfl) (by rfl)) (@dE _ _ _ _ _ (@bN _ _ _ _ _ _ _ _ _ _ G_p_is_one_of (hr.mono (by decide)) (aA (@aY _ _ _ _ _ _ _ (@aS _ (K) rfl) (pv 0) aE (fun _ _=>rfl)) (aA (pv 1) aD)) (by rfl) (by decide) (by rfl) (by rfl)))))))))),?_⟩
 refine ⟨_,rfl,_,_,rfl,d,1,hd,rfl,_,rfl,?_⟩
 by_cases h1:∃ a,d = .tup [a]
 ·obtain ⟨a,rfl⟩:=h1
  obtain ⟨t,us,rfl,o,va,r1,rfl,ha,h0⟩:=hd
  cases (show r1 = [] from h0)
  refine cL ⟨_,rfl,t,_,0,va,rfl,rfl,SqT.of o,aK (j:=0) rfl,aI rfl,fun p1 hp1=>?_⟩
  exact ⟨_,_,rfl,a,p1,["always"],Is.same (aH.upd hp1) _ _ ha,rfl,.inr (SqT.of aB),q _ (aH.upd hp1)⟩
 have e1:rR 1 d = false:=by
  cases d with
  | tup ds =>
   refine decide_eq_false (fun e=>?_)
   have e':ds.length = 1:=by omega
   match ds,e',h1 with
   | [a],_,h1=>exact h1 ⟨a,rfl⟩
  | _=>rfl
 rw [e1]
 refine bS ⟨_,rfl,_,_,rfl,d,3,hd,rfl,_,rfl,?_⟩
 by_cases h3:∃ a b c,d = .tup [a,b,c]
 ·obtain ⟨a,b,c,rfl⟩:=h3
  obtain ⟨t,us,rfl,o,va,r1,rfl,ha,vb,r2,rfl,hb,vc,r3,rfl,hc,h0⟩:=hd
  cases (show r3 = [] from h0)
  have q:∀ H',aH H H' → Q (.bl (bD ["day"] a && oG b c)) H':=q
  refine cL ⟨_,rfl,t,_,0,va,rfl,rfl,SqT.of o,aK (j:=0) rfl,aI rfl,fun p1 hp1=>?_⟩
  have S:=aH.upd (o:=.tup [.str "day"]) hp1
  refine ⟨_,_,rfl,a,p1,["day"],Is.same S _ _ ha,rfl,.inr (SqT.of aB),_,rfl,?_⟩
  cases ea:bD ["day"] a with
  | false =>
   rw [ea] at q
   exact bS (q _ S)
  | true =>
   rw [ea] at q
   exact cL ⟨_,rfl,t,_,1,vb,rfl,rfl,SqT.of (S _ _ o),aK (j:=1) rfl,_,rfl,t,_,2,vc,rfl,rfl,SqT.of (S _ _ o),aK (j:=2) rfl,_,_,rfl,b,c,Is.same S _ _ hb,Is.same S _ _ hc,q _ S⟩
 have e3:rR 3 d = false:=by
  cases d with
  | tup ds =>
   refine decide_eq_false (fun e=>?_)
   have e':ds.length = 3:=by omega
   match ds,e',h3 with
   | [a,b,c],_,h3=>exact h3 ⟨a,b,c,rfl⟩
  | _=>rfl
 rw [e3]
 refine bS ⟨_,rfl,_,_,rfl,d,2,hd,rfl,_,rfl,?_⟩
 by_cases h2:∃ a b,d = .tup [a,b]
 ·obtain ⟨a,b,rfl⟩:=h2
  obtain ⟨t,us,rfl,o,va,r1,rfl,ha,vb,r2,rfl,hb,h0⟩:=hd
  cases (show r2 = [] from h0)
  have q:Q (.bl (if bD ["above","below"] a then bT b else bD ["wet","dry"] a && bD zs b)) H:=q H (aH.refl _)
  refine bS ⟨_,rfl,t,_,0,va,rfl,rfl,SqT.of o,aK (j:=0) rfl,_,_,rfl,a,a_TIDES,["above","below"],ha,rfl,.inr (s_TIDES H),_,rfl,?_⟩
  cases ea:bD ["above","below"] a with
  | true =>
   rw [ea] at q
   exact cL ⟨_,rfl,t,_,1,vb,rfl,rfl,SqT.of o,aK (j:=1) rfl,_,rfl,b,hb,q⟩
  | false =>
   rw [ea] at q
   refine bS ⟨_,rfl,t,_,0,va,rfl,rfl,SqT.of o,aK (j:=0) rfl,_,_,rfl,a,a_WATERS,["wet","dry"],ha,rfl,.inr (s_WATERS H),_,rfl,?_⟩
   have q:Q (.bl (bD ["wet","dry"] a && bD zs b)) H:=q
   cases eb:bD ["wet","dry"] a with
   | false =>
    rw [eb] at q
    exact bS (q)
   | true =>
    rw [eb] at q
    exact cL ⟨_,rfl,t,_,1,vb,rfl,rfl,SqT.of o,aK (j:=1) rfl,_,rfl,_,_,rfl,b,p,zs,hb,rfl,.inl hp,q⟩
 ·have e2:rR 2 d = false:=by
   cases d with
   | tup ds =>
    refine decide_eq_false (fun e=>?_)
    have e':ds.length = 2:=by omega
    match ds,e',h2 with
    | [a,b],_,h2=>exact h2 ⟨a,b,rfl⟩
   | _=>rfl
  have e0:fD zs d = false:=by
   unfold fD
   split
   ·exact absurd ⟨_,rfl⟩ h1
   ·exact absurd ⟨_,_,_,rfl⟩ h3
   ·exact absurd ⟨_,_,rfl⟩ h2
   ·rfl
  rw [e2]
  have q:=q H (aH.refl _)
  rw [e0] at q
  exact cL q
def aJM (K:PySem.W.Frag):Sp:=sp3 fun x y u H Q=>∃ (d:Dv) (p1 p2:Addr) (gs zs:List Str),Is H d x ∧ bP d = true ∧ y = .ref p1 ∧ SqL K H p1 (gs.map V.str) ∧ u = .ref p2 ∧ SqL K H p2 (zs.map V.str) ∧ ∀ H',aH H H' → Q (.bl (iJ gs zs d)) H'
theorem sU (T:Txt K mg C):Fc P w K mg base 4 "is_decree" ["thing","sluices","fields"] (aJM K):=by
 have G_p_is_tuple_of:Fc P w K mg base 1 "is_tuple_of" ["thing","length"] oY:=fH T
 have G_p_is_one_of:Fc P w K mg base 1 "is_one_of" ["thing","names"] (rZ K):=lW T
 have G_p_is_list_of:Fc P w K mg base 1 "is_list_of" ["thing","most"] oZ:=iO T
 have G_p_is_condition:Fc P w K mg base 3 "is_condition" ["thing","fields"] (aEW K):=pR T
 obtain ⟨a_DEEDS,m_DEEDS,s_DEEDS⟩:=T.g_DEEDS
 refine T.d_p_is_decree.fc sH aFU (fun f cdv A outer s H vs Q E hr h=>?_)
 obtain ⟨x,y,u,rfl,d,p1,p2,gs,zs,hd,sd,rfl,hp1,rfl,hp2,q⟩:=h
 have big:=cF
 refine ⟨_,(aG (@cQ _ _ _ _ _ _ _ _ (@PW.pt _ _ _ (@kJ _ _ _ _ _ _ _ (@cU _ _ _ _ (@cB _ _ _ (@bN _ _ _ _ _ _ _ _ _ _ G_p_is_tuple_of (hr.mono (by decide)) (aA (pv 0) (aA aE aD)) (by rfl) (by decide) (by rfl) (by rfl)) (by intro _;rfl))) (@kJ _ _ _ _ _ _ _ (@cU _ _ _ _ (@cB _ _ _ (@bN _ _ _ _ _ _ _ _ _ _ G_p_is_one_of (hr.mono (by decide)) (aA (@aY _ _ _ _ _ _ _ (@aS _ (K) rfl) (pv 0) aE (fun _ _=>rfl)) (aA (@jP _ _ (.ref a_DEEDS) _ _ rfl m_DEEDS rfl (by decide)) aD)) (by rfl) (by decide) (by rfl) (by rfl)) (by intro _;rfl))) (@jG _ _ _ _ (@cU _ _ _ _ (@cB _ _ _ (@bN _ _ _ _ _ _ _ _ _ _ G_p_is_one_of (hr.mono (by decide)) (aA (@aY _ _ _ _ _ _ _ (@aS _ (K) rfl) (pv 0) aE (fun _ _=>rfl)) (aA (pv 1) aD)) (by rfl) (by decide) (by rfl) (by rfl)) (by intro _;rfl))))))) (aJ (@aU _ _ _ _ gS)) bG) (aJ (@aU _ _ _ _ (@cI _ _ _ _ _ _ _ (@bN _ _ _ _ _ _ _ _ _ _ G_p_is_list_of (hr.mono (by decide)) (aA (@aY _ _ _ _ _ _ _ (@aS _ (K) rfl) (pv 0) aE (fun _ _=>rfl)) (aA (@oP _ _ _ _ T.g_MOST_CONDITIONS (by rfl) (by decide)) aD)) (by rfl) (by decide) (by rfl) (by rfl)) (@dE _ _ _ _ _ (@aR _ _ _ _ _ _ _ _ _ (@gU _ rfl) rfl T.n_all fJ (aA (@cJ _ _ _ _ _ _ _ _ _ _ _ ["part","fields"] 1 [2] rfl (@bV _ (K) _ _ _ rfl (@bW _ _ _ _ (@aY _ _ _ _ _ _ _ (@aS _ (K) rfl) (pv 0) aE (fun _ _=>rfl)))) (fun R=>@aX _ _ (0) _ (show List.Nodup (["part","fields"]:List Str) by decide +kernel) rfl (Or.inl rfl) (by trivial)) (@bC _ _ (by decide)) (fun R=>cH) (fun R=>(@bN _ _ _ _ _ _ _ _ _ _ G_p_is_condition (hr.mono (by decide)) (aA (pv 0) (aA (pv 1) aD)) (by rfl) (by decide) (by rfl) (by rfl))) (by rfl) (by rfl) (by rfl) (by rfl) (by rfl) (by rfl) (by rfl) (by intro _;rfl)) aD) (by decide) (by decide) (by rfl) (by rfl))))))),?_⟩
 refine ⟨_,rfl,_,_,rfl,d,3,hd,rfl,_,rfl,?_⟩
 by_cases h3:∃ a b c,d = .tup [a,b,c]
 ·obtain ⟨a,b,c,rfl⟩:=h3
  obtain ⟨t,us,rfl,o,va,r1,rfl,ha,vb,r2,rfl,hb,vc,r3,rfl,hc,h0⟩:=hd
  cases (show r3 = [] from h0)
  have sc:bP c = true:=gB (qC sd) (List.mem_cons_of_mem _ (List.mem_cons_of_mem _ List.mem_cons_self))
  have q:∀ H',aH H H' → Q (.bl ((bD ["open","shut"] a && bD gs b) && kY zs c)) H':=q
  refine bS ⟨_,rfl,t,_,0,va,rfl,rfl,SqT.of o,aK (j:=0) rfl,_,_,rfl,a,a_DEEDS,["open","shut"],ha,rfl,.inr (s_DEEDS H),_,rfl,?_⟩
  cases ea:bD ["open","shut"] a with
  | false =>
   simp only [ea] at q
   exact cL (q _ (aH.refl _))
  | true =>
   simp only [ea] at q
   refine bS ⟨_,rfl,t,_,1,vb,rfl,rfl,SqT.of o,aK (j:=1) rfl,_,rfl,_,_,rfl,b,p1,gs,hb,rfl,.inl hp1,_,rfl,?_⟩
   cases eb:bD gs b with
   | false =>
    simp only [eb] at q
    exact cL (q _ (aH.refl _))
   | true =>
    simp only [eb] at q
    have q:∀ H',aH H H' → Q (.bl (kY zs c)) H':=q
    refine bS ⟨_,rfl,t,_,2,vc,rfl,rfl,SqT.of o,aK (j:=2) rfl,_,_,rfl,c,6,hc,rfl,_,rfl,?_⟩
    cases c with
    | lst cs =>
     obtain ⟨l,vs,rfl,ol,hi⟩:=hc
     have lv:=hi.length
     have l2:cs.length ≤ 1000:=of_decide_eq_true (Bool.and_eq_true_iff.mp (show (decide (cs.length ≤ 1000) && eT cs) = true from sc)).1
     have q:∀ H',aH H H' → Q (.bl ((decide (1 ≤ cs.length) && decide ((cs.length:Int) ≤ 6)) && cs.all (fD zs))) H':=q
     show if (decide (1 ≤ cs.length) && decide ((cs.length:Int) ≤ 6)) = true then _ else _
     cases el:(decide (1 ≤ cs.length) && decide ((cs.length:Int) ≤ 6)) with
     | false =>
      simp only [el] at q
      exact bS (q _ (aH.refl _))
     | true =>
      simp only [el,Bool.true_and] at q
      refine cL ⟨_,rfl,t,_,2,.ref l,rfl,rfl,SqT.of o,aK (j:=2) rfl,l,rfl,⟨_,SqL.of ol⟩,?_⟩
      refine bM (F:=K) (xs:=vs) (by omega) (fun i ys H'=>aH H H' ∧ ys = (cs.take i).map fun d=>V.bl (fD zs d)) ⟨aH.refl _,rfl⟩ ?_ ?_ ?_
      ·rintro i ys H' hi' ⟨S,rfl⟩
       exact ⟨SqL.of (S _ _ ol),by rw [List.length_map,List.length_take];omega⟩
      ·rintro i xv ys H' K1 K2 hx ⟨S,rfl⟩ k1 k2
       have hil:i < vs.length:=(List.getElem?_eq_some_iff.mp hx).1
       obtain ⟨d,ed⟩:∃ d,cs[i]? = some d:=⟨_,List.getElem?_eq_getElem (by omega)⟩
       obtain ⟨v,ev,iv⟩:=hi.get ed
       rw [hx] at ev
       cases ev
       refine ⟨_,rfl,_,rfl,_,_,rfl,d,p2,zs,Is.same S _ _ iv,rfl,S.seq hp2,fun H5 S5=>k1 _ _ ⟨S.trans S5,?_⟩⟩
       rw [List.take_add_one,ed]
       simp
      ·rintro ys H' ⟨S,rfl⟩
       intro p4 hp4
       have q:=q _ (S.trans (aH.upd (o:=.lst ((cs.take vs.length).map fun d=>V.bl (fD zs d))) hp4))
       refine ⟨p4,cs.map (fD zs),rfl,SqL.of ?_,?_⟩
       ·rw [aB,List.take_of_length_le (by omega),List.map_map]
        rfl
       ·rw [List.all_map]
        exact q
    | _=>exact bS (q _ (aH.refl _))
 ·have e1:iJ gs zs d = false:=by
   unfold iJ
   split
   ·exact absurd ⟨_,_,_,rfl⟩ h3
   ·rfl
  have e2:rR 3 d = false:=by
   cases d with
   | tup ds =>
    refine decide_eq_false (fun e=>?_)
    have e':ds.length = 3:=by omega
    match ds,e',h3 with
    | [a,b,c],_,h3=>exact h3 ⟨a,b,c,rfl⟩
   | _=>rfl
  rw [e2]
  have q:=q H (aH.refl _)
  rw [e1] at q
  exact cL q
def zH (C:Addr):Sp:=sp2 fun x y H Q=>∃ (p:Addr) (fs ds:List Dv) (d:Dv),x = .ref p ∧ LandAt C H p fs ds ∧ Is H d y ∧ bP d = true ∧ ∀ H',aH H H' → Q (.bl (gA ((ds.filter aO).map aL) (fs.map aL) d)) H'
theorem kM (T:Txt K mg C):Fc P w K mg base 5 "are_decrees" ["land","thing"] (zH C):=by
 have G_land_p_sluices:Mc P w K mg base 2 C "sluices" ["self"] (lB C fun _ ds=>(ds.filter aO).map aL):=gT T
 have G_land_p_field_names:Mc P w K mg base 1 C "field_names" ["self"] (lB C fun fs _=>fs.map aL):=eS T
 have G_p_is_decree:Fc P w K mg base 4 "is_decree" ["thing","sluices","fields"] (aJM K):=sU T
 refine T.d_p_are_decrees.fc gW jM (fun f cdv A outer s H vs Q E hr h=>?_)
 obtain ⟨x,y,rfl,p,fs,ds,d,rfl,L,hd,sd,q⟩:=h
 have big:=cF
 obtain ⟨t,ty,e1,e2,e3,e4,_⟩:=oW K hd
 refine ⟨_,(aG (@cQ _ _ _ _ _ _ _ _ (@PW.pt _ _ _ (@kJ _ _ _ _ _ _ _ (@cU _ _ _ _ (@cB _ _ _ (@aR _ _ _ _ _ _ _ _ _ (@cO _ (K) rfl) rfl T.n_isinstance bB (aA (pv 1) (aA (@kL _ _ _ _ T.n_list dI (by rfl) (by decide) (by decide)) aD)) (by decide) (by decide) (by rfl) (by rfl)) (by intro _;rfl))) (@jG _ _ _ _ (@bZ _ _ _ _ _ _ _ _ aJQ (@aR _ _ _ _ _ _ _ _ _ (@bL _ (K) rfl) rfl T.n_len cG (aA (pv 1) aD) (by decide) (by decide) (by rfl) (by rfl)) (@oP _ _ _ _ T.g_MOST_DECREES (by rfl) (by decide)) (@bR _ _ (by decide) (by decide)))))) (aJ (@aU _ _ _ _ gS)) bG) (aG (@bA _ _ (2) _ _ _ _ gW.nd rfl (Or.inr rfl) (@gF _ _ _ _ _ _ _ _ _ _ _ T.cl_Land G_land_p_sluices (hr.mono (by decide)) (pv 0) (by rfl)) (by rfl) (by trivial)) (aG (@bA _ _ (3) _ _ _ _ gW.nd rfl (Or.inr rfl) (@gF _ _ _ _ _ _ _ _ _ _ _ T.cl_Land G_land_p_field_names (hr.mono (by decide)) (pv 0) (by rfl)) (by rfl) (by trivial)) (aJ (@aU _ _ _ _ (@aR _ _ _ _ _ _ _ _ _ (@gU _ rfl) rfl T.n_all fJ (aA (@cJ _ _ _ _ _ _ _ _ _ _ _ ["row","sluices","fields"] 1 [2,3] rfl (@bV _ (K) _ _ _ rfl (@bW _ _ _ _ (pv 1))) (fun R=>@aX _ _ (0) _ (show List.Nodup (["row","sluices","fields"]:List Str) by decide +kernel) rfl (Or.inl rfl) (by trivial)) (@bC _ _ (by decide)) (fun R=>cH) (fun R=>(@bN _ _ _ _ _ _ _ _ _ _ G_p_is_decree (hr.mono (by decide)) (aA (pv 0) (aA (pv 1) (aA (pv 2) aD))) (by rfl) (by decide) (by rfl) (by rfl))) (by rfl) (by rfl) (by rfl) (by rfl) (by rfl) (by rfl) (by rfl) (by intro _;rfl)) aD) (by decide) (by decide) (by rfl) (by rfl))))))),?_⟩
 refine ⟨_,rfl,_,_,_,t,_,rfl,rfl,ty,e4,_,rfl,?_⟩
 cases d with
 | lst cs =>
  obtain ⟨l,us,rfl,o,hi⟩:=hd
  have l1:=hi.length
  have hs':=Bool.and_eq_true_iff.mp (show (decide (cs.length ≤ 1000) && eT cs) = true from sd)
  have l2:cs.length ≤ 1000:=of_decide_eq_true hs'.1
  refine bS ⟨_,rfl,l,us,rfl,.inl (SqL.of o),_,_,rfl,rfl,_,rfl,?_⟩
  rw [l1]
  refine kP (fun h1=>?_) (fun h1=>?_)
  ·have e:gA ((ds.filter aO).map aL) (fs.map aL) (.lst cs) = false:=by
    have h1':¬ cs.length ≤ 60:=by
     have:=of_decide_eq_true h1
     omega
    show (decide (cs.length ≤ 60) && _) = false
    rw [decide_eq_false h1']
    rfl
   have q:=q H (aH.refl _)
   rw [e] at q
   exact q
  ·have h1':cs.length ≤ 60:=by
    apply Classical.byContradiction
    intro c
    exact h1 (decide_eq_true (by omega))
   obtain ⟨dx,d1,d2,hx,_⟩:=L.ex
   refine ⟨_,rfl,p,dx,_,rfl,hx,eR _ _ (by decide +kernel) (by decide +kernel),_,rfl,p,fs,ds,rfl,L,fun ls H1 S1 fls hls=>?_⟩
   refine ⟨_,rfl,p,dx,_,rfl,S1 _ _ hx,eR _ _ (by decide +kernel) (by decide +kernel),_,rfl,p,fs,ds,rfl,L.same S1,fun lf H2 S2 flf hlf=>?_⟩
   have S:=S1.trans S2
   have hi2:=IsL.same S _ _ hi
   refine ⟨_,rfl,l,rfl,⟨_,SqL.of (S _ _ o)⟩,?_⟩
   refine bM (F:=K) (xs:=us) (by omega) (fun i ys H'=>aH H2 H' ∧ ys = (cs.take i).map fun d=>V.bl (iJ ((ds.filter aO).map aL) (fs.map aL) d)) ⟨aH.refl _,rfl⟩ ?_ ?_ ?_
   ·rintro i ys H' hi' ⟨S3,rfl⟩
    exact ⟨SqL.of (S3 _ _ (S _ _ o)),by rw [List.length_map,List.length_take];omega⟩
   ·rintro i xv ys H' K1 K2 hxi ⟨S3,rfl⟩ k1 k2
    have hil:i < us.length:=(List.getElem?_eq_some_iff.mp hxi).1
    obtain ⟨d,ed⟩:∃ d,cs[i]? = some d:=⟨_,List.getElem?_eq_getElem (by omega)⟩
    obtain ⟨v,ev,iv⟩:=hi2.get ed
    rw [hxi] at ev
    cases ev
    refine ⟨_,rfl,_,rfl,_,rfl,_,_,_,rfl,d,ls,lf,_,_,Is.same S3 _ _ iv,gB hs'.2 (List.mem_of_getElem? ed),rfl,SqL.of (S3 _ _ (S2 _ _ hls)),rfl,SqL.of (S3 _ _ hlf),fun H5 S5=>k1 _ _ ⟨S3.trans S5,?_⟩⟩
    rw [List.take_add_one,ed]
    simp
   ·rintro ys H' ⟨S3,rfl⟩
    intro p4 hp4
    have q:=q _ (S.trans (S3.trans (aH.upd (o:=.lst ((cs.take us.length).map fun d=>V.bl (iJ ((ds.filter aO).map aL) (fs.map aL) d))) hp4)))
    refine ⟨p4,cs.map (iJ ((ds.filter aO).map aL) (fs.map aL)),rfl,SqL.of ?_,?_⟩
    ·rw [aB,List.take_of_length_le (by omega),List.map_map]
     rfl
    ·have e:gA ((ds.filter aO).map aL) (fs.map aL) (.lst cs) = (cs.map (iJ ((ds.filter aO).map aL) (fs.map aL))).all id:=by
      show (decide (cs.length ≤ 60) && cs.all _) = _
      rw [decide_eq_true h1',Bool.true_and,List.all_map]
      rfl
     rw [e] at q
     exact q
 | _=>exact cL (q H (aH.refl _))
open Mt22 MtF
def sB (C:Addr):Sp:=sp2 fun x y H Q=>∃ (p l:Addr) (fs ds:List Dv) (op:List Str),x = .ref p ∧ LandAt C H p fs ds ∧ y = .ref l ∧ H l = some (.lst (op.map V.str)) ∧ op.length ≤ 1000 ∧ (∀ z ∈ op,z ∈ (ds.filter aO).map aL) ∧ ∀ H',aH H H' → Q .non H'
theorem jJ (T:Txt K mg C):Fc P w K mg base 3 "check_sluices" ["land","thing"] (sB C):=by
 have G_land_p_sluices:Mc P w K mg base 2 C "sluices" ["self"] (lB C fun _ ds=>(ds.filter aO).map aL):=gT T
 have G_p_is_one_of:Fc P w K mg base 1 "is_one_of" ["thing","names"] (vR K):=mO T
 refine T.d_p_check_sluices.fc iY jM (fun f cdv A outer s H vs Q E hr h=>?_)
 obtain ⟨x,y,rfl,p,l,fs,ds,op,rfl,L,rfl,hl,lo,sub,q⟩:=h
 have big:=cF
 obtain ⟨dx,d1,d2,hx,_⟩:=L.ex
 refine ⟨_,(aG (@bA _ _ (2) _ _ _ _ iY.nd rfl (Or.inr rfl) (@gF _ _ _ _ _ _ _ _ _ _ _ T.cl_Land G_land_p_sluices (hr.mono (by decide)) (pv 0) (by rfl)) (by rfl) (by trivial)) (aJ (@cQ _ _ _ _ _ _ _ _ (@PW.pt _ _ _ (@kJ _ _ _ _ _ _ _ (@cU _ _ _ _ (@cB _ _ _ (@aR _ _ _ _ _ _ _ _ _ (@cO _ (K) rfl) rfl T.n_isinstance bB (aA (pv 1) (aA (@kL _ _ _ _ T.n_list dI (by rfl) (by decide) (by decide)) aD)) (by decide) (by decide) (by rfl) (by rfl)) (by intro _;rfl))) (@jG _ _ _ _ (@cU _ _ _ _ (@cB _ _ _ (@aR _ _ _ _ _ _ _ _ _ (@gU _ rfl) rfl T.n_all fJ (aA (@cJ _ _ _ _ _ _ _ _ _ _ _ ["name","sluices"] 1 [2] rfl (@bV _ (K) _ _ _ rfl (@bW _ _ _ _ (pv 1))) (fun R=>@aX _ _ (0) _ (show List.Nodup (["name","sluices"]:List Str) by decide +kernel) rfl (Or.inl rfl) (by trivial)) (@bC _ _ (by decide)) (fun R=>cH) (fun R=>(@bN _ _ _ _ _ _ _ _ _ _ G_p_is_one_of (hr.mono (by decide)) (aA (pv 0) (aA (pv 1) aD)) (by rfl) (by decide) (by rfl) (by rfl))) (by rfl) (by rfl) (by rfl) (by rfl) (by rfl) (by rfl) (by rfl) (by intro _;rfl)) aD) (by decide) (by decide) (by rfl) (by rfl)) (by intro _;rfl)))))) (aJ kK) bG))),?_⟩
 refine ⟨_,rfl,p,dx,_,rfl,hx,eR _ _ (by decide +kernel) (by decide +kernel),_,rfl,p,fs,ds,rfl,L,fun ls H1 S1 fls hls=>?_⟩
 refine ⟨_,rfl,_,_,_,_,_,rfl,rfl,.lst (S1 _ _ hl),iI _ _,_,rfl,bS ?_⟩
 refine ⟨_,rfl,l,rfl,⟨_,SqL.of (S1 _ _ hl)⟩,?_⟩
 refine bM (F:=K) (xs:=op.map V.str) (by rw [List.length_map];omega) (fun i ys H'=>H1 = H' ∧ ys = (op.take i).map fun z=>V.bl true) ⟨rfl,rfl⟩ ?_ ?_ ?_
 ·rintro i ys H' hi' ⟨rfl,rfl⟩
  exact ⟨SqL.of (S1 _ _ hl),by rw [List.length_map,List.length_take];omega⟩
 ·rintro i xv ys H' K1 K2 hx ⟨rfl,rfl⟩ k1 k2
  obtain ⟨z,ez⟩:∃ z,op[i]? = some z:=by
   have:=(List.getElem?_eq_some_iff.mp hx).1
   rw [List.length_map] at this
   exact ⟨_,List.getElem?_eq_getElem this⟩
  rw [List.getElem?_map,ez] at hx
  cases hx
  refine ⟨_,rfl,_,rfl,_,_,rfl,.str z,ls,_,rfl,rfl,SqL.of hls,?_⟩
  rw [show bD ((ds.filter aO).map aL) (.str z) = true from decide_eq_true (sub z (List.mem_of_getElem? ez))]
  refine k1 _ _ ⟨rfl,?_⟩
  rw [List.take_add_one,ez,List.map_append]
  rfl
 ·rintro ys H' ⟨rfl,rfl⟩
  rw [List.length_map,List.take_of_length_le (Nat.le_refl _)]
  intro p4 hp4
  refine ⟨p4,op.map fun _=>true,rfl,SqL.of ?_,_,rfl,?_⟩
  ·rw [aB,List.map_map]
   rfl
  ·rw [show (op.map fun _=>true).all id = true from List.all_eq_true.mpr fun b m=>by obtain ⟨z,_,rfl⟩:=List.mem_map.mp m;rfl]
   exact bS (q _ (S1.trans (aH.upd hp4)))
def rX (op:List Str) (ds:List Dv):List (Key × V):=ds.map fun d=>(Sum.inr (aL d),V.int (iL op d))
theorem aCJ (op:List Str) (ds:List Dv):(rX op ds).map (·.1) = ds.map kO:=by
 unfold rX
 rw [List.map_map]
 rfl
theorem oJ {f:Dv → V}:∀ {ds:List Dv} {d:Dv},(ds.map aL).Nodup → d ∈ ds → gJ (ds.map fun d=>((Sum.inr (aL d):Key),f d)) (Sum.inr (aL d)) = some (f d)
 | e :: ds,d,nd,m=>by
  rw [List.map_cons] at nd ⊢
  rw [List.nodup_cons] at nd
  rcases List.mem_cons.mp m with rfl | m
  ·exact dN rfl
  ·rw [dO (fun c=>nd.1 (by rw [Sum.inr.inj c];exact List.mem_map.mpr ⟨d,m,rfl⟩))]
   exact oJ nd.2 m
def xI (C:Addr):Sp:=sp2 fun x y H Q=>∃ (p l:Addr) (fs ds:List Dv) (op:List Str),x = .ref p ∧ LandAt C H p fs ds ∧ y = .ref l ∧ H l = some (.lst (op.map V.str)) ∧ op.length ≤ 1000 ∧ (∀ z ∈ op,z ∈ (ds.filter aO).map aL) ∧
 ∀ (d:Addr) (H':Hp),aH H H' → H d = none → H' d = some (.dK (rX op ds)) → Q (.ref d) H'
theorem aEY {zs:List Str} {ds:List Dv} (gd:GoodD zs ds) {op:List Str} (sub:∀ z ∈ op,z ∈ (ds.filter aO).map aL) {d:Dv} (m:d ∈ ds) (h:aL d ∈ op):∃ i,aEZ d = .int i:=by
 obtain ⟨e,me,en⟩:=List.mem_map.mp (sub _ h)
 rw [List.mem_filter] at me
 have:e = d:=by
  have h1:=wP gd.nd me.1
  have h2:=wP gd.nd m
  rw [en,h2] at h1
  exact (Option.some.inj h1).symm
 subst this
 obtain ⟨n,a,b,c,r,s,rfl,_,_,_,_,_,_,hs⟩:=bX (gd.all e m)
 have h2:(!mV s) = true:=me.2
 cases s with
 | int i=>exact ⟨i,rfl⟩
 | non=>cases h2
 | _=>cases hs
theorem yB (T:Txt K mg C):Fc P w K mg base 4 "stands" ["land","opened"] (xI C):=by
 have G_p_check_sluices:Fc P w K mg base 3 "check_sluices" ["land","thing"] (sB C):=jJ T
 have G_land_p_dykes:Mc P w K mg base 1 C "dykes" ["self"] (rY C fun _ ds=>ds):=iP T
 refine T.d_p_stands.fc xU jM (fun f cdv A outer s H vs Q E hr h=>?_)
 obtain ⟨x,y,rfl,p,l,fs,ds,op,rfl,L,rfl,hl,lo,sub,q⟩:=h
 have big:=cF
 have gd:=(dH L).2
 have d2:=gd.l2
 refine ⟨_,(aG (@fZ _ _ _ _ (@bN _ _ _ _ _ _ _ _ _ _ G_p_check_sluices (hr.mono (by decide)) (aA (pv 0) (aA (pv 1) aD)) (by rfl) (by decide) (by rfl) (by rfl)) (by rfl)) (aJ (@aU _ _ _ _ (@cP _ _ _ _ _ _ _ _ _ (@dM _ rfl) rfl T.n_dict gC (aA (@cJ _ _ _ _ _ _ _ _ _ _ _ ["dyke","opened"] 1 [1] rfl (@bV _ (K) _ _ _ rfl (@bW _ _ _ _ (@gF _ _ _ _ _ _ _ _ _ _ _ T.cl_Land G_land_p_dykes (hr.mono (by decide)) (pv 0) (by rfl)))) (fun R=>@aX _ _ (0) _ (show List.Nodup (["dyke","opened"]:List Str) by decide +kernel) rfl (Or.inl rfl) (by trivial)) (@bC _ _ (by decide)) (fun R=>cH) (fun R=>(@bI _ _ _ _ _ (aA (@aY _ _ _ _ _ _ _ (@aS _ (K) rfl) (pv 0) aE (fun _ _=>rfl)) (aA (@aFO _ _ _ _ _ _ _ _ (@bZ _ _ _ _ _ _ _ _ (@gX _ (K) rfl) (@aY _ _ _ _ _ _ _ (@aS _ (K) rfl) (pv 0) aE (fun _ _=>rfl)) (pv 1) (by with_unfolding_all rfl)) (@aY _ _ _ _ _ _ _ (@aS _ (K) rfl) (pv 0) aE (fun _ _=>rfl)) (@aY _ _ _ _ _ _ _ (@aS _ (K) rfl) (pv 0) aE (fun _ _=>rfl))) aD)))) (by rfl) (by rfl) (by rfl) (by rfl) (by rfl) (by rfl) (by rfl) (by intro _;rfl)) aD) (by decide) (by decide) (by rfl) (by rfl))))),?_⟩
 refine ⟨_,rfl,_,rfl,_,_,rfl,p,l,fs,ds,op,rfl,L,rfl,hl,lo,sub,fun H1 S1=>?_⟩
 have L1:=L.same S1
 obtain ⟨dx,d1,d2',hx,_⟩:=L1.ex
 refine ⟨_,rfl,p,dx,_,rfl,hx,eR _ _ (by decide +kernel) (by decide +kernel),_,rfl,p,fs,ds,rfl,L1,fun lb vb H2 S2 flb hlb hib=>?_⟩
 have lvb:vb.length = ds.length:=hib.length
 have T2:=S1.trans S2
 have hl2:=T2 _ _ hl
 refine ⟨lb,rfl,⟨_,SqL.of hlb⟩,?_⟩
 refine bM (F:=K) (xs:=vb) (by omega) (fun i ys H'=>aH H2 H' ∧ cA H' ys (rX op (ds.take i))) ⟨aH.refl _,cA.nil _⟩ ?_ ?_ ?_
 ·rintro i ys H' hi' ⟨S',pa⟩
  have:=pa.len
  unfold rX at this
  rw [List.length_map,List.length_take] at this
  exact ⟨SqL.of (S' _ _ hlb),by omega⟩
 ·rintro i xv ys H' K1 K2 hx' ⟨S',pa⟩ k1 k2
  have hil:i < vb.length:=(List.getElem?_eq_some_iff.mp hx').1
  obtain ⟨d,ed⟩:∃ d,ds[i]? = some d:=⟨_,List.getElem?_eq_getElem (by omega)⟩
  obtain ⟨v,ev,iv⟩:=hib.get ed
  rw [hx'] at ev
  cases ev
  have md:=List.mem_of_getElem? ed
  have si:=fun h=>aEY gd sub md h
  obtain ⟨n,a',b',c,r,sl,rfl,_⟩:=bX (gd.all d md)
  obtain ⟨t,sv,rfl,o,isv⟩:=jO iv
  have ot:=S' _ _ o
  have ek:rX op (ds.take (i + 1)) = rX op (ds.take i) ++ [(Sum.inr n,V.int (iL op (.tup [.str n,.str a',.str b',.int c,.int r,sl])))]:=by
   unfold rX
   rw [List.take_add_one,ed,List.map_append]
   rfl
  have fin:∀ v,v = V.int (iL op (.tup [.str n,.str a',.str b',.int c,.int r,sl])) → ∀ p3,H' p3 = none → K1 (.ref p3) (upd H' p3 (.tup [.str n,v])):=fun v e p3 hp3=>by
   subst e
   refine k1 _ _ ⟨S'.trans (aH.upd hp3),?_⟩
   rw [ek]
   exact cA.snoc (k:=Sum.inr n) pa hp3
  refine ⟨_,rfl,t,_,0,.str n,rfl,rfl,SqT.of ot,aK (j:=0) rfl,_,rfl,t,_,0,.str n,rfl,rfl,SqT.of ot,aK (j:=0) rfl,_,rfl,l,_,rfl,.inl (SqL.of (S' _ _ hl2)),rfl,hG op,_,rfl,?_⟩
  rw [if_neg Bool.false_ne_true,lK]
  refine kP (fun h1=>?_) (fun h1=>?_)
  ·have mo:n ∈ op:=of_decide_eq_true h1
   obtain ⟨i2,e2⟩:=si mo
   have e2':sl = .int i2:=e2
   subst e2'
   cases (show sv = .int i2 from isv)
   refine ⟨_,rfl,t,_,5,.int i2,rfl,rfl,SqT.of ot,aK (j:=5) rfl,aI rfl,fun p3 hp3=>fin _ ?_ p3 hp3⟩
   show V.int i2 = V.int (if n ∈ op then i2 else c)
   rw [if_pos mo]
  ·have mo:¬ n ∈ op:=fun c=>h1 (decide_eq_true c)
   refine ⟨_,rfl,t,_,3,.int c,rfl,rfl,SqT.of ot,aK (j:=3) rfl,aI rfl,fun p3 hp3=>fin _ ?_ p3 hp3⟩
   show V.int c = V.int (if n ∈ op then aJR sl else c)
   rw [if_neg mo]
 rintro ys H3 ⟨S3,pa⟩
 rw [List.take_of_length_le (by omega)] at pa
 intro p4 hp4
 have S4:=aH.upd (o:=.lst ys) hp4
 refine ⟨p4,ys,rX op ds,rfl,SqL.of aB,pa.same S4,by unfold rX;rw [List.length_map];omega,by rw [aCJ];exact nU gd.nd,fun cd hcd=>?_⟩
 have T4:=T2.trans (S3.trans S4)
 exact q cd _ (T4.trans (aH.upd hcd)) (T4.free hcd) aB
open Mt22 MtF
theorem aIS (a b:Str):(!decide (V.str a = V.str b)) = !decide (a = b):=by
 by_cases h:a = b
 ·subst h;simp
 ·rw [decide_eq_false h,decide_eq_false (fun c=>h (by cases c;rfl))]
theorem aDN {fs:List Dv} (gf:GoodF fs) {z:Str} (m:z ∈ fs.map aL):∃ g e,Dv.tup [.str z,.int g,.int e] ∈ fs ∧ eG fs z = g ∧ hgt g = true:=by
 obtain ⟨d,md,rfl⟩:=List.mem_map.mp m
 obtain ⟨z,g,e,rfl,_,hg,_⟩:=cE (gf.all d md)
 exact ⟨g,e,md,vA gf.nd md,hg⟩
theorem aAF {zs:List Str} {d:Dv} (h:dA zs d = true):oS d = true:=by
 obtain ⟨n,a,b,c,r,s,rfl,_,_,_,_,_,_,hs⟩:=bX h
 cases s with
 | non=>rfl
 | int i=>rfl
 | _=>cases hs
theorem aCI (s:Mt22.St):oS (mC s) = true:=rfl
def xH (C:Addr):Sp:=sp2 fun x y H Q=>∃ (p sd:Addr) (fs ds:List Dv) (op:List Str),x = .ref p ∧ LandAt C H p fs ds ∧ y = .ref sd ∧ H sd = some (.dK (rX op ds)) ∧
 ∀ (l:Addr) (us:List V) (H':Hp),aH H H' → H l = none → H' l = some (.lst us) → IsL H' ((dD fs ds op).map mC) us → Q (.ref l) H'
theorem pP (T:Txt K mg C):Fc P w K mg base 2 "steps_inland" ["land","stand_of"] (xH C):=by
 have G_land_p_dykes:Mc P w K mg base 1 C "dykes" ["self"] (rY C fun _ ds=>ds):=iP T
 have G_land_p_ground:Mc P w K mg base 1 C "ground" ["self","field"] (sA C):=kN T
 refine T.d_p_steps_inland.fc dP jM (fun f cdv A outer s H vs Q E hr h=>?_)
 obtain ⟨x,y,rfl,p,sd,fs,ds,op,rfl,L,rfl,hsd,q⟩:=h
 have big:=cF
 have hu:=pV hr
 have gf:=(dH L).1
 have gd:=(dH L).2
 have d2:=gd.l2
 refine ⟨_,(aG (@bA _ _ (2) _ _ _ _ dP.nd rfl (Or.inl rfl) (@bK _ _ _ _ aD) (by rfl) (by trivial)) (aG (@gR _ _ _ _ _ _ _ _ PassesOwn.never rfl (@bV _ (K) _ _ _ rfl (@bW _ _ _ _ (@gF _ _ _ _ _ _ _ _ _ _ _ T.cl_Land G_land_p_dykes (hr.mono (by decide)) (pv 0) (by rfl)))) (@aX _ _ (3) _ dP.nd rfl (Or.inl rfl) (by trivial)) (aJ (@gR _ _ _ _ _ _ _ _ PassesOwn.never rfl (@bV _ (K) _ _ _ rfl (@bW _ _ _ _ (@bK _ _ _ _ (aA (@bI _ _ _ _ _ (aA (@aY _ _ _ _ _ _ _ (@aS _ (K) rfl) (pv 3) aE (fun _ _=>rfl)) (aA (@aY _ _ _ _ _ _ _ (@aS _ (K) rfl) (pv 3) aE (fun _ _=>rfl)) aD))) (aA (@bI _ _ _ _ _ (aA (@aY _ _ _ _ _ _ _ (@aS _ (K) rfl) (pv 3) aE (fun _ _=>rfl)) (aA (@aY _ _ _ _ _ _ _ (@aS _ (K) rfl) (pv 3) aE (fun _ _=>rfl)) aD))) aD))))) (@zM _ (K) _ _ _ _ _ rfl 2 rfl (@vX _ _ _ _ _ _ rfl (@eQ _ _ _ _ _ (@aX _ _ (4) _ dP.nd rfl (Or.inl rfl) (by trivial)) (@eQ _ _ _ _ _ (@aX _ _ (5) _ dP.nd rfl (Or.inl rfl) (by trivial)) rM (by rfl)) (by rfl)) (by rfl) (by rfl))) (aJ (@cQ _ _ _ _ _ _ _ _ (@bZ _ _ _ _ _ _ _ _ uU (pv 5) (@oP _ _ _ _ T.g_SEA (by rfl) (by decide)) (@bR _ _ (by decide) (by decide))) (aJ (@fZ _ _ _ _ (@sO _ (K) _ _ _ _ _ rfl (@qV _ _ _ _ _ _ _ _ _ _ _ _ PySem.F.plainAttrs_list PySem.F.slot_list_append PySem.F.type_list_append gZ (pv 2) (aA (@bI _ _ _ _ _ (aA (@aY _ _ _ _ _ _ _ (@aS _ (K) rfl) (pv 3) aE (fun _ _=>rfl)) (aA (pv 4) (aA (pv 5) (aA (@aR _ _ _ _ _ _ _ _ _ (@iV _ rfl) rfl T.n_max iW (aA (@pL _ _ _ _ _ _ hu (pv 1) (@aY _ _ _ _ _ _ _ (@aS _ (K) rfl) (pv 3) aE (fun _ _=>rfl)) (fun _ _=>rfl)) (aA (@aCR _ _ _ _ _ _ _ _ _ _ _ _ _ _ T.cl_Land G_land_p_ground (hr.mono (by decide)) (pv 0) (aA (pv 5) aD) (by rfl) (by rfl) (by rfl)) aD)) (by decide) (by decide) (by rfl) (by rfl)) aD))))) aD) (by rfl) (by rfl) (by rfl) (by rfl) (by rfl))) (by rfl))) bG)) (by intro _;rfl))) (by intro _;rfl)) (aJ (@aU _ _ _ _ (pv 2))))),?_⟩
 refine ⟨aI rfl,fun l hl=>?_⟩
 have S1:=aH.upd (o:=.lst []) hl
 have L1:=L.same S1
 obtain ⟨dx,d1,d2',hx,_⟩:=L1.ex
 have hl1:upd H l (.lst []) l = some (.lst []):=aB
 generalize upd H l (.lst []) = H1 at S1 L1 hx hl1
 refine ⟨_,rfl,p,dx,_,rfl,hx,eR _ _ (by decide +kernel) (by decide +kernel),_,rfl,p,fs,ds,rfl,L1,fun lb vb H2 S2 flb hlb hib=>?_⟩
 have lvb:vb.length = ds.length:=hib.length
 have T2:=S1.trans S2
 have nlb:l ≠ lb:=aQ hl1 flb
 have hds:pW ds = true:=fE fun d m=>aAF (gd.all d m)
 refine ⟨lb,rfl,⟨_,SqL.of hlb⟩,kT (K:=K) (a:=lb) (xs:=vb)
  (fun i σ H'=>∃ (v3 v4 v5:Option V) (us:List V),σ = [some (.ref p),some (.ref sd),some (.ref l),v3,v4,v5] ∧ aH H H' ∧ H' lb = some (.lst vb) ∧ IsL H' ds vb ∧ H' l = some (.lst us) ∧ IsL H' ((dD fs (ds.take i) op).map mC) us)
  ⟨_,_,_,[],rfl,T2,hlb,hib,S2 _ _ hl1,rfl⟩ (fun i σ H' _ ⟨_,_,_,_,_,_,e,_⟩=>SqL.of e) ?_ ?_⟩
 ·rintro i xv σ H3 hi ⟨v3,v4,v5,us,rfl,S3,hlb3,hib3,hl3,ius⟩
  refine aEJ fun D1 hD1=>?_
  have hil:i < vb.length:=(List.getElem?_eq_some_iff.mp hi).1
  obtain ⟨d,ed⟩:∃ d,ds[i]? = some d:=⟨_,List.getElem?_eq_getElem (by omega)⟩
  obtain ⟨v,ev,iv⟩:=hib3.get ed
  rw [hi] at ev
  cases ev
  have md:=List.mem_of_getElem? ed
  have val:=oJ (f:=fun d=>V.int (iL op d)) gd.nd md
  have elen:=oK fs op (ds.take i)
  rw [List.length_take] at elen
  have eapp:dD fs (ds.take (i + 1)) op = dD fs (ds.take i) op ++ nJ fs op d:=by
   unfold dD
   rw [List.take_add_one,ed,List.flatMap_append]
   simp
  obtain ⟨n,a',b',c,r,sl,rfl,_,ha,hb,_⟩:=bX (gd.all d md)
  obtain ⟨t,sv,rfl,o,isv⟩:=jO iv
  refine ⟨_,rfl,t,_,1,.str a',rfl,rfl,SqT.of o,aK (j:=1) rfl,_,rfl,t,_,2,.str b',rfl,rfl,SqT.of o,aK (j:=2) rfl,aI rfl,fun q1 hq1=>?_⟩
  have R1:=aH.upd (o:=.tup [.str a',.str b']) hq1
  have o1:=R1 _ _ o
  refine ⟨_,rfl,t,_,2,.str b',rfl,rfl,SqT.of o1,aK (j:=2) rfl,_,rfl,t,_,1,.str a',rfl,rfl,SqT.of o1,aK (j:=1) rfl,aI rfl,fun q2 hq2=>?_⟩
  have R2:=aH.upd (o:=.tup [.str b',.str a']) hq2
  refine ⟨aI rfl,fun q3 hq3=>?_⟩
  have R3:=aH.upd (o:=.lst [.ref q1,.ref q2]) hq3
  have R:=R1.trans (R2.trans R3)
  have g1:upd (upd (upd H3 q1 (.tup [.str a',.str b'])) q2 (.tup [.str b',.str a'])) q3 (.lst [.ref q1,.ref q2]) q1 = some (.tup [.str a',.str b']):=(R2.trans R3) _ _ aB
  have g2:upd (upd (upd H3 q1 (.tup [.str a',.str b'])) q2 (.tup [.str b',.str a'])) q3 (.lst [.ref q1,.ref q2]) q2 = some (.tup [.str b',.str a']):=R3 _ _ aB
  have g3:upd (upd (upd H3 q1 (.tup [.str a',.str b'])) q2 (.tup [.str b',.str a'])) q3 (.lst [.ref q1,.ref q2]) q3 = some (.lst [.ref q1,.ref q2]):=aB
  have nq3:l ≠ q3:=aQ ((R1.trans R2) _ _ hl3) hq3
  have S4:=S3.trans R
  have hlb4:=R _ _ hlb3
  have hib4:=IsL.same R _ _ hib3
  have hl4:=R _ _ hl3
  have ius4:=IsL.same R _ _ ius
  have o4:=R _ _ o
  generalize upd (upd (upd H3 q1 (.tup [.str a',.str b'])) q2 (.tup [.str b',.str a'])) q3 (.lst [.ref q1,.ref q2]) = H4 at g1 g2 g3 S4 hlb4 hib4 hl4 ius4 o4
  let sides:List (Str × Str):=[(a',b'),(b',a')]
  refine ⟨q3,rfl,⟨_,SqL.of g3⟩,kT (K:=K) (a:=q3) (xs:=[.ref q1,.ref q2])
   (fun j σ H'=>∃ (v4 v5:Option V) (us:List V),σ = [some (.ref p),some (.ref sd),some (.ref l),some (.ref t),v4,v5] ∧ aH H H' ∧ H' lb = some (.lst vb) ∧ IsL H' ds vb ∧ H' t = some (.tup [.str n,.str a',.str b',.int c,.int r,sv]) ∧ H' q1 = some (.tup [.str a',.str b']) ∧ H' q2 = some (.tup [.str b',.str a']) ∧ H' q3 = some (.lst [.ref q1,.ref q2]) ∧ H' l = some (.lst us) ∧
    IsL H' ((dD fs (ds.take i) op ++ (sides.take j).flatMap fun s=>gL fs op (.tup [.str n,.str a',.str b',.int c,.int r,sl]) s.1 s.2).map mC) us)
   ⟨_,_,us,rfl,S4,hlb4,hib4,o4,g1,g2,g3,hl4,by simpa using ius4⟩ (fun j σ H' _ ⟨_,_,_,_,_,_,_,_,_,_,e,_⟩=>SqL.of e) ?_ ?_⟩
  ·rintro j yv σ H5 hj ⟨w4,w5,us5,rfl,S5,hlb5,hib5,o5,g15,g25,g35,hl5,ius5⟩
   refine aEJ fun D2 hD2=>?_
   have hj2:j < 2:=(List.getElem?_eq_some_iff.mp hj).1
   obtain ⟨q,near,far,rfl,es,hq,hf⟩:∃ (q:Addr) (near far:Str),yv = .ref q ∧ sides[j]? = some (near,far) ∧ H5 q = some (.tup [.str near,.str far]) ∧ far ∈ (("sea":Str) :: fs.map aL):=by
    match j,hj2 with
    | 0,_=>cases hj;exact ⟨q1,a',b',rfl,rfl,g15,hb⟩
    | 1,_=>cases hj;exact ⟨q2,b',a',rfl,rfl,g25,ha⟩
   have eflat:(sides.take (j + 1)).flatMap (fun s=>gL fs op (.tup [.str n,.str a',.str b',.int c,.int r,sl]) s.1 s.2) = (sides.take j).flatMap (fun s=>gL fs op (.tup [.str n,.str a',.str b',.int c,.int r,sl]) s.1 s.2) ++ gL fs op (.tup [.str n,.str a',.str b',.int c,.int r,sl]) near far:=by
    rw [List.take_add_one,es,List.flatMap_append]
    simp
   have elen5:us5.length ≤ 2 * ds.length + 2:=by
    have h1:=ius5.length
    rw [List.length_map,List.length_append] at h1
    have h2:((sides.take j).flatMap fun s=>gL fs op (.tup [.str n,.str a',.str b',.int c,.int r,sl]) s.1 s.2).length ≤ 2:=by
     match j,hj2 with
     | 0,_=>simp
     | 1,_ =>
      show ([(a',b')].flatMap _).length ≤ 2
      simp only [List.flatMap_cons,List.flatMap_nil,List.append_nil]
      unfold gL
      split <;> simp
    omega
   refine ⟨q,_,rfl,SqT.of hq,rfl,_,_,rfl,_,_,rfl,rfl,?_⟩
   refine ⟨_,rfl,rfl,_,rfl,?_⟩
   rw [aIS]
   refine kP (fun h1=>?_) (fun h1=>?_)
   ·have hne:¬ far = "sea":=fun e=>by rw [decide_eq_true e] at h1;cases h1
    have mf:far ∈ fs.map aL:=(List.mem_cons.mp hf).resolve_left hne
    obtain ⟨g,e',mfs,eg,_⟩:=aDN gf mf
    have L5:=L.same S5
    obtain ⟨dx5,x1,x2,hx5,_⟩:=L5.ex
    refine ⟨_,rfl,.inl ⟨rfl,_,SqL.of hl5⟩,_,rfl,t,_,0,.str n,rfl,rfl,SqT.of o5,aK (j:=0) rfl,_,rfl,_,rfl,_,rfl,_,rfl,t,_,0,.str n,rfl,rfl,SqT.of o5,aK (j:=0) rfl,sd,_,rfl,.inl ⟨_,Sum.inr n,.inl (S5 _ _ hsd),rfl,val.symm⟩,_,rfl,p,dx5,_,rfl,hx5,eR _ _ (by decide +kernel) (by decide +kernel),_,rfl,_,_,rfl,p,fs,ds,far,g,e',rfl,rfl,L5,mfs,_,_,rfl,aI rfl,fun pt hpt=>?_⟩
    have emax:(if g > iL op (.tup [.str n,.str a',.str b',.int c,.int r,sl]) then g else iL op (.tup [.str n,.str a',.str b',.int c,.int r,sl])) = max (iL op (.tup [.str n,.str a',.str b',.int c,.int r,sl])) (eG fs far):=by
     rw [eg]
     split <;> omega
    dsimp only at hpt ⊢
    rw [emax] at *
    have R6:=aH.upd (o:=.tup [.str n,.str near,.str far,.int (max (iL op (.tup [.str n,.str a',.str b',.int c,.int r,sl])) (eG fs far))]) hpt
    have hl6:=R6 _ _ hl5
    have KT:=nG.lst (o:=.lst (us5 ++ [.ref pt])) hl6
    refine ⟨l,us5,.ref pt,rfl,rfl,hl6,by omega,?_⟩
    have ks:=fE (ds:=(dD fs (ds.take i) op ++ (sides.take (j + 1)).flatMap fun s=>gL fs op (.tup [.str n,.str a',.str b',.int c,.int r,sl]) s.1 s.2).map mC) fun d m=>by
     obtain ⟨s,_,rfl⟩:=List.mem_map.mp m
     exact aCI s
    refine hD2 _ _ ⟨_,_,us5 ++ [.ref pt],rfl,(S5.trans R6).over hl,?_,IsL.keep KT _ _ hds (IsL.same R6 _ _ hib5),?_,?_,?_,?_,aB,IsL.keep KT _ _ ks ?_⟩
    ·rw [aT (Ne.symm nlb)];exact R6 _ _ hlb5
    ·rw [aT (fun e=>by rw [e,hl5] at o5;cases o5)];exact R6 _ _ o5
    ·rw [aT (fun e=>by rw [e,hl5] at g15;cases g15)];exact R6 _ _ g15
    ·rw [aT (fun e=>by rw [e,hl5] at g25;cases g25)];exact R6 _ _ g25
    ·rw [aT (Ne.symm nq3)];exact R6 _ _ g35
    ·rw [eflat,← List.append_assoc,List.map_append]
     have e1:gL fs op (.tup [.str n,.str a',.str b',.int c,.int r,sl]) near far = [⟨n,near,far,max (iL op (.tup [.str n,.str a',.str b',.int c,.int r,sl])) (eG fs far)⟩]:=by
      unfold gL
      rw [if_neg hne]
      rfl
     rw [e1]
     exact IsL.snoc (d:=mC ⟨n,near,far,max (iL op (.tup [.str n,.str a',.str b',.int c,.int r,sl])) (eG fs far)⟩) (v:=.ref pt) ⟨pt,_,rfl,aB,_,_,rfl,rfl,_,_,rfl,rfl,_,_,rfl,rfl,_,_,rfl,rfl,rfl⟩ (IsL.same R6 _ _ ius5)
   ·have he:far = "sea":=by
     by_cases h:far = "sea"
     ·exact h
     ·rw [decide_eq_false h] at h1
      exact absurd rfl h1
    refine hD2 _ _ ⟨_,_,us5,rfl,S5,hlb5,hib5,o5,g15,g25,g35,hl5,?_⟩
    rw [eflat]
    unfold gL at ius5 ⊢
    rw [if_pos he,List.append_nil]
    exact ius5
  ·rintro σ H5 ⟨w4,w5,us5,rfl,S5,hlb5,hib5,o5,g15,g25,g35,hl5,ius5⟩
   refine hD1 _ _ ⟨_,_,_,us5,rfl,S5,hlb5,hib5,hl5,?_⟩
   rw [eapp]
   have e:((sides.take [V.ref q1,V.ref q2].length).flatMap fun s=>gL fs op (.tup [.str n,.str a',.str b',.int c,.int r,sl]) s.1 s.2) = nJ fs op (.tup [.str n,.str a',.str b',.int c,.int r,sl]):=by
    show [(a',b'),(b',a')].flatMap _ = _
    simp [nJ,aIE,vZ]
   rw [e] at ius5
   exact ius5
 ·rintro σ H3 ⟨v3,v4,v5,us,rfl,S3,hlb3,hib3,hl3,ius⟩
  rw [List.take_of_length_le (by omega)] at ius
  exact ⟨_,rfl,q l us H3 S3 hl hl3 ius⟩
open Mt22 MtF
def aJD (H:Hp) (d:Addr) (lo:Mt22.Lo) (n:Nat):Prop:=∃ kvs:List (Key × V),H d = some (.dK kvs) ∧ kvs.length ≤ n ∧ ∀ z:Str,gJ kvs (Sum.inr z) = (lo z).map V.int
def oU (fs:List Dv) (lo:Mt22.Lo):List (Key × V):=fs.map fun d=>(Sum.inr (aL d),aCS (lo (aL d)))
def aBD (C:Addr):Sp:=sp2 fun x y H Q=>∃ (p l:Addr) (fs ds:List Dv) (op:List Str),x = .ref p ∧ LandAt C H p fs ds ∧ y = .ref l ∧ H l = some (.lst (op.map V.str)) ∧ op.length ≤ 1000 ∧ (∀ z ∈ op,z ∈ (ds.filter aO).map aL) ∧
 ∀ (d:Addr) (H':Hp),aH H H' → H d = none → H' d = some (.dK (oU fs (flo fs ds op))) → Q (.ref d) H'
theorem zL {lo:Mt22.Lo} {s:Mt22.St} (h:lo s.near = none):pH lo s = lo:=by unfold pH;rw [h]
theorem aDJ {o:Option Int} {c:Int}:(o.map V.int).getD (.int c) = .int (o.getD c):=by cases o <;> rfl
theorem aDI (o:Option Int):(o.map V.int).getD .non = aCS o:=by cases o <;> rfl
theorem oQ (T:Txt K mg C):Fc P w K mg base 5 "flood_heights" ["land","opened"] (aBD C):=by
 have G_p_stands:Fc P w K mg base 4 "stands" ["land","opened"] (xI C):=yB T
 have G_p_steps_inland:Fc P w K mg base 2 "steps_inland" ["land","stand_of"] (xH C):=pP T
 have G_land_p_field_names:Mc P w K mg base 1 C "field_names" ["self"] (lB C fun fs _=>fs.map aL):=eS T
 refine T.d_p_flood_heights.fc bU jM (fun f cdv A outer s H vs Q E hr h=>?_)
 obtain ⟨x,y,rfl,p,l,fs,ds,op,rfl,L,rfl,hl,lo,sub,q⟩:=h
 have big:=cF
 have hu:=pV hr
 have gf:=(dH L).1
 have gd:=(dH L).2
 have d2:=gd.l2
 have f2:=gf.l2
 have slen:=oK fs op ds
 refine ⟨_,(aG (@bA _ _ (2) _ _ _ _ bU.nd rfl (Or.inl rfl) (@bN _ _ _ _ _ _ _ _ _ _ G_p_steps_inland (hr.mono (by decide)) (aA (pv 0) (aA (@bN _ _ _ _ _ _ _ _ _ _ G_p_stands (hr.mono (by decide)) (aA (pv 0) (aA (pv 1) aD)) (by rfl) (by decide) (by rfl) (by rfl)) aD)) (by rfl) (by decide) (by rfl) (by rfl)) (by rfl) (by trivial)) (aG (@bA _ _ (3) _ _ _ _ bU.nd rfl (Or.inr rfl) (@aIB _ _ _ _ _ (@aFJ _ _ _ _ _ _ _ _ _ (@oP _ _ _ _ T.g_SEA (by rfl) (by decide)) (@aBN _ _ _ _ _ _ vO (@oP _ _ _ _ T.g_MOST_HEIGHT (by rfl) (by decide))) aHX) rfl rfl (by simp) (Nat.le_of_ble_eq_true rfl)) (by rfl) (by trivial)) (aG (@gR _ _ _ _ _ _ _ _ PassesOwn.never rfl (@fG _ _ _ _ _ _ rfl T.n_range (aA (@aR _ _ _ _ _ _ _ _ _ (@bL _ (K) rfl) rfl T.n_len cG (aA (@gF _ _ _ _ _ _ _ _ _ _ _ T.cl_Land G_land_p_field_names (hr.mono (by decide)) (pv 0) (by rfl)) aD) (by decide) (by decide) (by rfl) (by rfl)) aD) (by rfl)) (@aX _ _ (4) _ bU.nd rfl (Or.inl rfl) (by trivial)) (aJ (@gR _ _ _ _ _ _ _ _ PassesOwn.never rfl (@bV _ (K) _ _ _ rfl (@bW _ _ _ _ (pv 2))) (@zM _ (K) _ _ _ _ _ rfl 4 rfl (@vX _ _ _ _ _ _ rfl (@eQ _ _ _ _ _ (@aX _ _ (5) _ bU.nd rfl (Or.inl rfl) (by trivial)) (@eQ _ _ _ _ _ (@aX _ _ (6) _ bU.nd rfl (Or.inl rfl) (by trivial)) (@eQ _ _ _ _ _ (@aX _ _ (7) _ bU.nd rfl (Or.inl rfl) (by trivial)) (@eQ _ _ _ _ _ (@aX _ _ (8) _ bU.nd rfl (Or.inl rfl) (by trivial)) rM (by rfl)) (by rfl)) (by rfl)) (by rfl)) (by rfl) (by rfl))) (aJ (@cQ _ _ _ _ _ _ _ _ (@aKG _ _ _ _ _ _ (@aKL _ _ _ _ _ hu (pv 6) (pv 3)) (by first | exact nobehind _ (by decide) (by decide) | rfl)) (aG (@bA _ _ (9) _ _ _ _ bU.nd rfl (Or.inl rfl) (@aR _ _ _ _ _ _ _ _ _ (@iV _ rfl) rfl T.n_max iW (aA (@pL _ _ _ _ _ _ hu (pv 3) (pv 6) (fun _ _=>rfl)) (aA (pv 8) aD)) (by decide) (by decide) (by rfl) (by rfl)) (by rfl) (by trivial)) (aJ (@aBL _ _ _ _ _ _ _ _ _ hu (pv 3) (pv 7) (@aR _ _ _ _ _ _ _ _ _ (@nW _ rfl) rfl T.n_min nX (aA (pv 9) (aA (@aFP _ _ _ _ _ _ _ _ _ hu (pv 3) (pv 7) (pv 9) ⟨rfl,rfl,rfl,rfl⟩) aD)) (by decide) (by decide) (by rfl) (by rfl)) rfl))) bG)) (by intro _;rfl))) (by intro _;rfl)) (aJ (@aU _ _ _ _ (@cP _ _ _ _ _ _ _ _ _ (@dM _ rfl) rfl T.n_dict gC (aA (@cJ _ _ _ _ _ _ _ _ _ _ _ ["name","lowest"] 1 [3] rfl (@bV _ (K) _ _ _ rfl (@bW _ _ _ _ (@gF _ _ _ _ _ _ _ _ _ _ _ T.cl_Land G_land_p_field_names (hr.mono (by decide)) (pv 0) (by rfl)))) (fun R=>@aX _ _ (0) _ (show List.Nodup (["name","lowest"]:List Str) by decide +kernel) rfl (Or.inl rfl) (by trivial)) (@bC _ _ (by decide)) (fun R=>cH) (fun R=>(@bI _ _ _ _ _ (aA (pv 0) (aA (@aFQ _ _ _ _ _ _ _ hu (pv 1) (pv 0) ⟨rfl,rfl,rfl,rfl⟩) aD)))) (by rfl) (by rfl) (by rfl) (by rfl) (by rfl) (by rfl) (by rfl) (by intro _;rfl)) aD) (by decide) (by decide) (by rfl) (by rfl))))))),?_⟩
 refine ⟨_,rfl,_,rfl,_,rfl,_,_,rfl,p,l,fs,ds,op,rfl,L,rfl,hl,lo,sub,fun sd H1 S1 fsd hsd=>?_⟩
 refine ⟨_,_,rfl,p,sd,fs,ds,op,rfl,L.same S1,rfl,hsd,fun ls us H2 S2 fls hls ius=>?_⟩
 have lus:=ius.length
 rw [List.length_map] at lus
 have T2:=S1.trans S2
 refine fun dl hdl=>?_
 refine ⟨_,rfl,aB,[(Sum.inr "sea",.int (-1000000))],rfl,by show 1 ≤ 15;decide,?_⟩
 have S3:aH H2 (upd (upd H2 dl (.dK [])) dl (.dK (mR [] [(Sum.inr "sea",.int (-1000000))]))):=(aH.upd hdl).over hdl
 have lo3:aJD (upd (upd H2 dl (.dK [])) dl (.dK (mR [] [(Sum.inr "sea",.int (-1000000))]))) dl lo0 1:=by
  refine ⟨[(Sum.inr "sea",.int (-1000000))],aB,Nat.le_refl _,fun z=>?_⟩
  unfold lo0
  by_cases hz:z = Mt22.sea
  ·subst hz
   rw [if_pos rfl]
   exact dN rfl
  ·rw [if_neg hz,dO (fun e=>hz (Sum.inr.inj e).symm)]
   rfl
 generalize upd (upd H2 dl (.dK [])) dl (.dK (mR [] [(Sum.inr "sea",.int (-1000000))])) = H3 at S3 lo3
 have L2':=L.same T2
 have L3:=L2'.same S3
 obtain ⟨dx,d1,d2',hx,_⟩:=L3.ex
 refine ⟨_,rfl,p,dx,_,rfl,hx,eR _ _ (by decide +kernel) (by decide +kernel),_,rfl,p,fs,ds,rfl,L3,fun ln H4 S4 fln hln=>?_⟩
 refine ⟨ln,_,rfl,.inl (SqL.of hln),(fs.length:Int),by rw [List.length_map,List.length_map],by omega,by omega,?_⟩
 have lo4:aJD H4 dl lo0 1:=by
  obtain ⟨kvs,e,r⟩:=lo3
  exact ⟨kvs,S4 _ _ e,r⟩
 refine gG (lo:=0) (n:=fs.length) (fun i σ H'=>∃ v4 v5 v6 v7 v8 v9:Option V,σ = [some (.ref p),some (.ref l),some (.ref ls),some (.ref dl),v4,v5,v6,v7,v8,v9] ∧ aH H2 H' ∧ aJD H' dl (oO (dD fs ds op) i) (1 + i * (dD fs ds op).length))
  ⟨_,_,_,_,_,_,rfl,S3.trans S4,by rw [Nat.zero_mul];exact lo4⟩ ?_ ?_
 ·rintro i σ H5 hi ⟨v4,v5,v6,v7,v8,v9,rfl,S5,lo5⟩
  refine yN fun D1 hD1=>?_
  refine ⟨_,rfl,ls,rfl,⟨_,SqL.of (S5 _ _ hls)⟩,kT (K:=K) (a:=ls) (xs:=us)
   (fun j σ H'=>∃ v5 v6 v7 v8 v9:Option V,σ = [some (.ref p),some (.ref l),some (.ref ls),some (.ref dl),some (.int (0 + (i:Int))),v5,v6,v7,v8,v9] ∧ aH H2 H' ∧ aJD H' dl (((dD fs ds op).take j).foldl pH (oO (dD fs ds op) i)) (1 + i * (dD fs ds op).length + j))
   ⟨_,_,_,_,_,rfl,S5,lo5⟩ (fun j σ H' _ ⟨_,_,_,_,_,_,S,_⟩=>SqL.of (S _ _ hls)) ?_ ?_⟩
  ·rintro j xv σ H6 hj ⟨w5,w6,w7,w8,w9,rfl,S6,kvs,hk,lk,vk⟩
   refine aEJ fun D2 hD2=>?_
   have hjl:j < us.length:=(List.getElem?_eq_some_iff.mp hj).1
   obtain ⟨st,es⟩:∃ st,(dD fs ds op)[j]? = some st:=⟨_,List.getElem?_eq_getElem (by omega)⟩
   obtain ⟨v,ev,iv⟩:=ius.get (show ((dD fs ds op).map mC)[j]? = some (mC st) by rw [List.getElem?_map,es];rfl)
   rw [hj] at ev
   cases ev
   obtain ⟨t,ts,rfl,o,x0,r0,rfl,e0,x1,r1,rfl,e1,x2,r2,rfl,e2,x3,r3,rfl,e3,h0⟩:=iv
   cases (show r3 = [] from h0)
   cases (show x0 = .str st.nm from e0)
   cases (show x1 = .str st.near from e1)
   cases (show x2 = .str st.far from e2)
   cases (show x3 = .int st.h from e3)
   have o6:=S6 _ _ o
   have efold:((dD fs ds op).take (j + 1)).foldl pH (oO (dD fs ds op) i) = pH (((dD fs ds op).take j).foldl pH (oO (dD fs ds op) i)) st:=by
    rw [List.take_add_one,es,List.foldl_append]
    rfl
   have lkb:kvs.length < sizeLine:=by
    have big2:(2000:Nat) ≤ sizeLine:=by decide
    have h1:i * (dD fs ds op).length ≤ 12 * 80:=Nat.mul_le_mul (by omega) (by omega)
    omega
   generalize ((dD fs ds op).take j).foldl pH (oO (dD fs ds op) i) = lw at vk efold
   refine ⟨t,_,rfl,SqT.of o6,rfl,_,_,rfl,_,_,rfl,_,_,rfl,_,_,rfl,rfl,?_⟩
   refine ⟨_,rfl,_,rfl,dl,_,rfl,.inl ⟨kvs,Sum.inr st.near,.inl hk,rfl,rfl⟩,_,rfl,?_⟩
   rw [vk]
   cases hn:lw st.near with
   | none =>
    refine bS (hD2 _ _ ⟨_,_,_,_,_,rfl,S6,?_⟩)
    rw [efold,zL hn]
    exact ⟨kvs,hk,by omega,vk⟩
   | some a =>
    refine cL ?_
    refine ⟨_,rfl,_,rfl,dl,.int a,rfl,.inl ⟨kvs,Sum.inr st.near,.inl hk,rfl,by rw [vk,hn];rfl⟩,_,rfl,_,_,rfl,?_⟩
    have emax:(if st.h > a then st.h else a) = max a st.h:=by split <;> omega
    dsimp only
    rw [emax]
    refine ⟨_,rfl,_,rfl,dl,rfl,.inl ⟨_,.inl hk⟩,_,rfl,_,rfl,_,oA.k (k:=Sum.inr st.far) hk,_,_,by rw [vk,aDJ],?_⟩
    refine ⟨_,rfl,_,rfl,dl,_,rfl,.inl ⟨kvs,Sum.inr st.far,hk,rfl,lkb,rfl⟩,?_⟩
    have hdl6:H2 dl = none:=hdl
    refine hD2 _ _ ⟨_,_,_,_,_,rfl,S6.over hdl6,_,aB,?_,fun z=>?_⟩
    ·have:=jS kvs (Sum.inr st.far:Key) (V.int (if (lw st.far).getD (max a st.h) < max a st.h then (lw st.far).getD (max a st.h) else max a st.h))
     omega
    ·rw [aED,efold]
     unfold pH
     rw [hn]
     dsimp only
     by_cases hz:z = st.far
     ·subst hz
      rw [if_pos rfl,if_pos rfl]
      cases hf:lw st.far with
      | none =>
       show some (V.int (if max a st.h < max a st.h then _ else _)) = some (V.int (max a st.h))
       rw [if_neg (Int.lt_irrefl _)]
      | some b =>
       show some (V.int (if b < max a st.h then b else max a st.h)) = some (V.int (min (max a st.h) b))
       congr 2
       split <;> omega
     ·rw [if_neg (fun e=>hz (Sum.inr.inj e)),if_neg hz]
      exact vk z
  ·rintro σ H6 ⟨w5,w6,w7,w8,w9,rfl,S6,lo6⟩
   rw [List.take_of_length_le (by omega)] at lo6
   refine hD1 _ _ ⟨_,_,_,_,_,_,rfl,S6,?_⟩
   obtain ⟨kvs,hk,lk,vk⟩:=lo6
   exact ⟨kvs,hk,by rw [Nat.succ_mul];omega,vk⟩
 ·rintro σ H5 ⟨v4,v5,v6,v7,v8,v9,rfl,S5,kvs,hk,lk,vk⟩
  have L5:=L2'.same S5
  obtain ⟨dx5,x1,x2,hx5,_⟩:=L5.ex
  refine ⟨_,rfl,p,dx5,_,rfl,hx5,eR _ _ (by decide +kernel) (by decide +kernel),_,rfl,p,fs,ds,rfl,L5,fun lm H6 S6 flm hlm=>?_⟩
  have hk6:=S6 _ _ hk
  refine ⟨lm,rfl,⟨_,SqL.of hlm⟩,?_⟩
  refine bM (F:=K) (xs:=(fs.map aL).map V.str) (by rw [List.length_map,List.length_map];omega) (fun i ys H'=>aH H6 H' ∧ cA H' ys (oU (fs.take i) (flo fs ds op))) ⟨aH.refl _,cA.nil _⟩ ?_ ?_ ?_
  ·rintro i ys H' hi' ⟨S',pa⟩
   have:=pa.len
   unfold oU at this
   rw [List.length_map,List.length_take] at this
   exact ⟨SqL.of (S' _ _ hlm),by omega⟩
  ·rintro i xv ys H' K1 K2 hx' ⟨S',pa⟩ k1 k2
   have hil:=(List.getElem?_eq_some_iff.mp hx').1
   rw [List.length_map,List.length_map] at hil
   obtain ⟨d,ed⟩:∃ d,fs[i]? = some d:=⟨_,List.getElem?_eq_getElem hil⟩
   rw [List.getElem?_map,List.getElem?_map,ed] at hx'
   cases hx'
   have ek:oU (fs.take (i + 1)) (flo fs ds op) = oU (fs.take i) (flo fs ds op) ++ [(Sum.inr (aL d),aCS (flo fs ds op (aL d)))]:=by
    unfold oU
    rw [List.take_add_one,ed,List.map_append]
    rfl
   refine ⟨_,rfl,_,rfl,dl,rfl,.inl ⟨_,.inl (S' _ _ hk6)⟩,_,rfl,_,oA.k (k:=Sum.inr (aL d)) (S' _ _ hk6),?_⟩
   rw [vk,aDI]
   refine ⟨aI rfl,fun p3 hp3=>k1 _ _ ⟨S'.trans (aH.upd hp3),?_⟩⟩
   rw [ek]
   exact cA.snoc (k:=Sum.inr (aL d)) pa hp3
  rintro ys H7 ⟨S7,pa⟩
  rw [List.length_map,List.length_map,List.take_of_length_le (Nat.le_refl _)] at pa
  intro p4 hp4
  have S8:=aH.upd (o:=.lst ys) hp4
  have T8:=T2.trans (S5.trans (S6.trans (S7.trans S8)))
  refine ⟨p4,ys,oU fs (flo fs ds op),rfl,SqL.of aB,pa.same S8,by unfold oU;rw [List.length_map];omega,?_,fun cd hcd=>?_⟩
  ·have e:(oU fs (flo fs ds op)).map (·.1) = fs.map kO:=by
    unfold oU
    rw [List.map_map]
    rfl
   rw [e]
   exact nU gf.nd
  ·exact q cd _ (T8.trans (aH.upd hcd)) (T8.free hcd) aB
structure GoodC (zs:List Str) (d:Dv):Prop where
 ok:fD zs d = true
 sm:bP d = true
 fl:aV 27 d = true
structure GoodX (gs zs:List Str) (d:Dv):Prop where
 ok:iJ gs zs d = true
 sm:bP d = true
 fl:aV 29 d = true
 sh:∃ (a g:Str) (cs:List Dv),d = .tup [.str a,.str g,.lst cs] ∧ bD ["open","shut"] (.str a) = true ∧ g ∈ gs ∧ 1 ≤ cs.length ∧ cs.length ≤ 6 ∧ (∀ c ∈ cs,GoodC zs c) ∧ a.length ≤ 1000 ∧ g.length ≤ 1000
theorem yM {gs zs:List Str} {a g:Str} {cs:List Dv} (ha:bD ["open","shut"] (.str a) = true) (sa:a.length ≤ 1000) (hg:g ∈ gs) (sg:g.length ≤ 1000) (l1:1 ≤ cs.length) (l6:cs.length ≤ 6) (hc:∀ c ∈ cs,GoodC zs c):GoodX gs zs (.tup [.str a,.str g,.lst cs]):=by
 refine ⟨?_,?_,?_,a,g,cs,rfl,ha,hg,l1,l6,hc,sa,sg⟩
 ·show ((bD ["open","shut"] (.str a) && bD gs (.str g)) && ((decide (1 ≤ cs.length) && decide ((cs.length:Int) ≤ 6)) && cs.all (fD zs))) = true
  rw [ha,show bD gs (.str g) = true from decide_eq_true hg,decide_eq_true l1,decide_eq_true (by omega:(cs.length:Int) ≤ 6),List.all_eq_true.mpr fun c m=>(hc c m).ok]
  rfl
 ·show (decide (3 ≤ 1000) && (decide (a.length ≤ 1000) && (decide (g.length ≤ 1000) && ((decide (cs.length ≤ 1000) && eT cs) && true)))) = true
  rw [decide_eq_true sa,decide_eq_true sg,decide_eq_true (by omega:cs.length ≤ 1000),kC fun c m=>(hc c m).sm]
  rfl
 ·have h:cN 27 cs = true:=lL fun c m=>(hc c m).fl
  show (aV 28 (.str a) && (aV 28 (.str g) && (aV 28 (.lst cs) && true))) = true
  have h2:aV 28 (.lst cs) = true:=by simpa [aV] using h
  rw [h2]
  rfl
def sp4 (f:V → V → V → V → Hp → VK → Prop):Sp:=fun vs H Q _=>∃ x y z u,vs = [x,y,z,u] ∧ f x y z u H Q
theorem aDB {f:V → V → V → V → Hp → VK → Prop}:∀ vs H Q E,sp4 f vs H Q E → vs.length = 4:=fun vs H Q E ⟨x,y,z,u,e,_⟩=>by rw [e];rfl
inductive Cd where
 | always | above (h:Int) | below (h:Int) | wet (z:Str) | dry (z:Str) | day (n m:Int)
def Cd.vs:Cd → List Dv
 | .always=>[.str "always"]
 | .above h=>[.str "above",.int h]
 | .below h=>[.str "below",.int h]
 | .wet z=>[.str "wet",.str z]
 | .dry z=>[.str "dry",.str z]
 | .day n m=>[.str "day",.int n,.int m]
def Cd.dv (c:Cd):Dv:=.tup c.vs
def Cd.ok:Cd → Prop
 | .day n m=>0 ≤ n ∧ n < m
 | _=>True
def Cd.so (l:Int) (ws:List Str) (d:Int):Cd → Bool
 | .always=>true
 | .above h=>decide (h < l)
 | .below h=>decide (l < h)
 | .wet z=>decide (z ∈ ws)
 | .dry z=>!decide (z ∈ ws)
 | .day n m=>d % m == n
theorem jN {a b:Str} {p q:Prop} (h:decide (a = b) = false) (hq:q):if decide (V.str a = V.str b) = true then p else q:=by
 rw [if_neg]
 ·exact hq
 ·intro e
  have:=of_decide_eq_true e
  cases this
  simp at h
theorem tN {a b:Str} {p q:Prop} (h:decide (a = b) = true) (hp:p):if decide (V.str a = V.str b) = true then p else q:=by
 rw [if_pos]
 ·exact hp
 ·rw [of_decide_eq_true h]
  exact decide_eq_true rfl
theorem aDY {H:Hp} {x:V} (h:Is H Cd.always.dv x):∃ t,x = .ref t ∧ H t = some (.tup [.str "always"]):=by
 obtain ⟨t,us,rfl,o,a,r,rfl,rfl,h0⟩:=h
 cases (show r = [] from h0)
 exact ⟨t,rfl,o⟩
theorem wU {H:Hp} {x:V} {k:Str} {d:Dv} (h:Is H (.tup [.str k,d]) x):∃ t v,x = .ref t ∧ H t = some (.tup [.str k,v]) ∧ Is H d v:=by
 obtain ⟨t,us,rfl,o,a,r,rfl,rfl,v,r',rfl,hv,h0⟩:=h
 cases (show r' = [] from h0)
 exact ⟨t,v,rfl,o,hv⟩
theorem aHF {H:Hp} {x:V} {h:Int} (e:Is H (Cd.above h).dv x):∃ t,x = .ref t ∧ H t = some (.tup [.str "above",.int h]):=by
 obtain ⟨t,v,rfl,o,rfl⟩:=wU e
 exact ⟨t,rfl,o⟩
theorem aHE {H:Hp} {x:V} {h:Int} (e:Is H (Cd.below h).dv x):∃ t,x = .ref t ∧ H t = some (.tup [.str "below",.int h]):=by
 obtain ⟨t,v,rfl,o,rfl⟩:=wU e
 exact ⟨t,rfl,o⟩
theorem aKZ {H:Hp} {x:V} {h:Str} (e:Is H (Cd.wet h).dv x):∃ t,x = .ref t ∧ H t = some (.tup [.str "wet",.str h]):=by
 obtain ⟨t,v,rfl,o,rfl⟩:=wU e
 exact ⟨t,rfl,o⟩
theorem aLA {H:Hp} {x:V} {h:Str} (e:Is H (Cd.dry h).dv x):∃ t,x = .ref t ∧ H t = some (.tup [.str "dry",.str h]):=by
 obtain ⟨t,v,rfl,o,rfl⟩:=wU e
 exact ⟨t,rfl,o⟩
theorem aLB {H:Hp} {x:V} {n m:Int} (e:Is H (Cd.day n m).dv x):∃ t,x = .ref t ∧ H t = some (.tup [.str "day",.int n,.int m]):=by
 obtain ⟨t,us,rfl,o,a,r,rfl,rfl,v,r',rfl,rfl,v2,r2,rfl,rfl,h0⟩:=e
 cases (show r2 = [] from h0)
 exact ⟨t,rfl,o⟩
def aBI (K:PySem.W.Frag):Sp:=sp4 fun x l wv d H Q=>∃ (c:Cd) (ws:List Str) (lv dv:Int) (b:Addr),Is H c.dv x ∧ c.ok ∧ l = .int lv ∧ wv = .ref b ∧ H b = some (.lst (ws.map V.str)) ∧ d = .int dv ∧ Q (.bl (c.so lv ws dv)) H
theorem mQ (T:Txt K mg C):Fc P w K mg base 1 "condition_holds" ["condition","level","wet","day"] (aBI K):=by
 refine T.d_p_condition_holds.fc mG aDB (fun f cdv A outer s H vs Q E hr h=>?_)
 obtain ⟨x,l,wv,d,rfl,c,ws,lv,dv,b,hx,ok,rfl,rfl,hb,rfl,q⟩:=h
 refine ⟨_,(aG (@cQ _ _ _ _ _ _ _ _ (@bZ _ _ _ _ _ _ _ _ jQ (@aY _ _ _ _ _ _ _ (@aS _ (K) rfl) (pv 0) aE (fun _ _=>rfl)) bJ (@bR _ _ (by decide) (by decide))) (aJ (@aU _ _ _ _ (@cV _ _ _ _ _ _ _ _ aJQ (pv 1) (@aY _ _ _ _ _ _ _ (@aS _ (K) rfl) (pv 0) aE (fun _ _=>rfl)) (@bR _ _ (by decide) (by decide))))) bG) (aG (@cQ _ _ _ _ _ _ _ _ (@bZ _ _ _ _ _ _ _ _ jQ (@aY _ _ _ _ _ _ _ (@aS _ (K) rfl) (pv 0) aE (fun _ _=>rfl)) bJ (@bR _ _ (by decide) (by decide))) (aJ (@aU _ _ _ _ (@cV _ _ _ _ _ _ _ _ uV (pv 1) (@aY _ _ _ _ _ _ _ (@aS _ (K) rfl) (pv 0) aE (fun _ _=>rfl)) (@bR _ _ (by decide) (by decide))))) bG) (aG (@cQ _ _ _ _ _ _ _ _ (@bZ _ _ _ _ _ _ _ _ jQ (@aY _ _ _ _ _ _ _ (@aS _ (K) rfl) (pv 0) aE (fun _ _=>rfl)) bJ (@bR _ _ (by decide) (by decide))) (aJ (@aU _ _ _ _ (@cV _ _ _ _ _ _ _ _ (@gX _ (K) rfl) (@aY _ _ _ _ _ _ _ (@aS _ (K) rfl) (pv 0) aE (fun _ _=>rfl)) (pv 2) (by with_unfolding_all rfl)))) bG) (aG (@cQ _ _ _ _ _ _ _ _ (@bZ _ _ _ _ _ _ _ _ jQ (@aY _ _ _ _ _ _ _ (@aS _ (K) rfl) (pv 0) aE (fun _ _=>rfl)) bJ (@bR _ _ (by decide) (by decide))) (aJ (@aU _ _ _ _ (@cV _ _ _ _ _ _ _ _ (@uE _ (K) rfl) (@aY _ _ _ _ _ _ _ (@aS _ (K) rfl) (pv 0) aE (fun _ _=>rfl)) (pv 2) (by with_unfolding_all rfl)))) bG) (aG (@cQ _ _ _ _ _ _ _ _ (@bZ _ _ _ _ _ _ _ _ jQ (@aY _ _ _ _ _ _ _ (@aS _ (K) rfl) (pv 0) aE (fun _ _=>rfl)) bJ (@bR _ _ (by decide) (by decide))) (aJ (@aU _ _ _ _ (@cV _ _ _ _ _ _ _ _ jQ (@aM _ _ _ _ _ _ _ _ bQ (pv 3) (@aY _ _ _ _ _ _ _ (@aS _ (K) rfl) (pv 0) aE (fun _ _=>rfl))) (@aY _ _ _ _ _ _ _ (@aS _ (K) rfl) (pv 0) aE (fun _ _=>rfl)) (@bR _ _ (by decide) (by decide))))) bG) (aJ (@aU _ _ _ _ gS))))))),?_⟩
 cases c with
 | always  =>
  obtain ⟨t,o⟩:=aDY hx
  obtain ⟨rfl,o⟩:=o
  refine ⟨_,rfl,t,_,0,.str "always",rfl,rfl,SqT.of o,aK (j:=0) rfl,rfl,_,rfl,jN (by decide +kernel) ?_⟩
  refine ⟨_,rfl,t,_,0,.str "always",rfl,rfl,SqT.of o,aK (j:=0) rfl,rfl,_,rfl,jN (by decide +kernel) ?_⟩
  refine ⟨_,rfl,t,_,0,.str "always",rfl,rfl,SqT.of o,aK (j:=0) rfl,rfl,_,rfl,jN (by decide +kernel) ?_⟩
  refine ⟨_,rfl,t,_,0,.str "always",rfl,rfl,SqT.of o,aK (j:=0) rfl,rfl,_,rfl,jN (by decide +kernel) ?_⟩
  refine ⟨_,rfl,t,_,0,.str "always",rfl,rfl,SqT.of o,aK (j:=0) rfl,rfl,_,rfl,jN (by decide +kernel) ?_⟩
  exact q
 | above h =>
  obtain ⟨t,o⟩:=aHF hx
  obtain ⟨rfl,o⟩:=o
  refine ⟨_,rfl,t,_,0,.str "above",rfl,rfl,SqT.of o,aK (j:=0) rfl,rfl,_,rfl,tN (by decide +kernel) ?_⟩
  exact ⟨_,rfl,_,rfl,t,_,1,.int h,rfl,rfl,SqT.of o,aK (j:=1) rfl,_,_,rfl,rfl,q⟩
 | below h =>
  obtain ⟨t,o⟩:=aHE hx
  obtain ⟨rfl,o⟩:=o
  refine ⟨_,rfl,t,_,0,.str "below",rfl,rfl,SqT.of o,aK (j:=0) rfl,rfl,_,rfl,jN (by decide +kernel) ?_⟩
  refine ⟨_,rfl,t,_,0,.str "below",rfl,rfl,SqT.of o,aK (j:=0) rfl,rfl,_,rfl,tN (by decide +kernel) ?_⟩
  exact ⟨_,rfl,_,rfl,t,_,1,.int h,rfl,rfl,SqT.of o,aK (j:=1) rfl,_,_,rfl,rfl,q⟩
 | wet z =>
  obtain ⟨t,o⟩:=aKZ hx
  obtain ⟨rfl,o⟩:=o
  refine ⟨_,rfl,t,_,0,.str "wet",rfl,rfl,SqT.of o,aK (j:=0) rfl,rfl,_,rfl,jN (by decide +kernel) ?_⟩
  refine ⟨_,rfl,t,_,0,.str "wet",rfl,rfl,SqT.of o,aK (j:=0) rfl,rfl,_,rfl,jN (by decide +kernel) ?_⟩
  refine ⟨_,rfl,t,_,0,.str "wet",rfl,rfl,SqT.of o,aK (j:=0) rfl,rfl,_,rfl,tN (by decide +kernel) ?_⟩
  exact ⟨_,rfl,t,_,1,.str z,rfl,rfl,SqT.of o,aK (j:=1) rfl,_,rfl,b,_,rfl,.inl (SqL.of hb),rfl,hG ws,by rw [lK];exact q⟩
 | dry z =>
  obtain ⟨t,o⟩:=aLA hx
  obtain ⟨rfl,o⟩:=o
  refine ⟨_,rfl,t,_,0,.str "dry",rfl,rfl,SqT.of o,aK (j:=0) rfl,rfl,_,rfl,jN (by decide +kernel) ?_⟩
  refine ⟨_,rfl,t,_,0,.str "dry",rfl,rfl,SqT.of o,aK (j:=0) rfl,rfl,_,rfl,jN (by decide +kernel) ?_⟩
  refine ⟨_,rfl,t,_,0,.str "dry",rfl,rfl,SqT.of o,aK (j:=0) rfl,rfl,_,rfl,jN (by decide +kernel) ?_⟩
  refine ⟨_,rfl,t,_,0,.str "dry",rfl,rfl,SqT.of o,aK (j:=0) rfl,rfl,_,rfl,tN (by decide +kernel) ?_⟩
  exact ⟨_,rfl,t,_,1,.str z,rfl,rfl,SqT.of o,aK (j:=1) rfl,_,rfl,b,_,rfl,.inl (SqL.of hb),rfl,hG ws,by rw [lK];exact q⟩
 | day n m =>
  obtain ⟨t,o⟩:=aLB hx
  obtain ⟨rfl,o⟩:=o
  refine ⟨_,rfl,t,_,0,.str "day",rfl,rfl,SqT.of o,aK (j:=0) rfl,rfl,_,rfl,jN (by decide +kernel) ?_⟩
  refine ⟨_,rfl,t,_,0,.str "day",rfl,rfl,SqT.of o,aK (j:=0) rfl,rfl,_,rfl,jN (by decide +kernel) ?_⟩
  refine ⟨_,rfl,t,_,0,.str "day",rfl,rfl,SqT.of o,aK (j:=0) rfl,rfl,_,rfl,jN (by decide +kernel) ?_⟩
  refine ⟨_,rfl,t,_,0,.str "day",rfl,rfl,SqT.of o,aK (j:=0) rfl,rfl,_,rfl,jN (by decide +kernel) ?_⟩
  refine ⟨_,rfl,t,_,0,.str "day",rfl,rfl,SqT.of o,aK (j:=0) rfl,rfl,_,rfl,tN (by decide +kernel) ?_⟩
  refine ⟨_,rfl,_,rfl,t,_,2,.int m,rfl,rfl,SqT.of o,aK (j:=2) rfl,_,_,rfl,rfl,(by have:=ok.1;have:=ok.2;show 0 < m;omega),_,rfl,t,_,1,.int n,rfl,rfl,SqT.of o,aK (j:=1) rfl,rfl,?_⟩
  rw [iS]
  exact q
def aCC (cs:List Cd):Prop:=∀ c ∈ cs,c.ok
def aKW (a g:Str) (cs:List Cd):Dv:=.tup [.str a,.str g,.lst (cs.map Cd.dv)]
theorem wQ {H:Hp} {x:V} {a g:Str} {cs:List Cd} (h:Is H (aKW a g cs) x):∃ t l us,x = .ref t ∧ H t = some (.tup [.str a,.str g,.ref l]) ∧ H l = some (.lst us) ∧ IsL H (cs.map Cd.dv) us:=by
 obtain ⟨t,us,rfl,o,v0,r0,rfl,rfl,v1,r1,rfl,rfl,v2,r2,rfl,⟨l,us',rfl,ol,hl⟩,h0⟩:=h
 cases (show r2 = [] from h0)
 exact ⟨t,l,us',rfl,o,ol,hl⟩
def aBC (K:PySem.W.Frag):Sp:=sp4 fun x l wv d H Q=>∃ (a g:Str) (cs:List Cd) (ws:List Str) (lv dv:Int) (b:Addr),Is H (aKW a g cs) x ∧ aCC cs ∧ cs.length ≤ 6 ∧ l = .int lv ∧ wv = .ref b ∧ H b = some (.lst (ws.map V.str)) ∧ d = .int dv ∧ Q (.bl (cs.all (Cd.so lv ws dv))) H
theorem zQ (T:Txt K mg C):Fc P w K mg base 2 "holds" ["decree","level","wet","day"] (aBC K):=by
 have G_p_condition_holds:Fc P w K mg base 1 "condition_holds" ["condition","level","wet","day"] (aBI K):=mQ T
 refine T.d_p_holds.fcD zJ aDB (fun f cdv A outer s H vs Q E hr h=>?_)
 obtain ⟨x,l,wv,d,rfl,a,g,cs,ws,lv,dv,b,hx,ok,lc,rfl,rfl,hb,rfl,q⟩:=h
 obtain ⟨t,l,us,rfl,o,ol,hl⟩:=wQ hx
 have big:=cF
 have lu:=hl.length
 rw [List.length_map] at lu
 refine ⟨_,(aJ (@aU _ _ _ _ (@aR _ _ _ _ _ _ _ _ _ (@gU _ rfl) rfl T.n_all fJ (aA (@cJ _ _ _ _ _ _ _ _ _ _ _ ["condition","level","wet","day"] 1 [1,2,3] rfl (@bV _ (K) _ _ _ rfl (@bW _ _ _ _ (@aY _ _ _ _ _ _ _ (@aS _ (K) rfl) (pv 0) aE (fun _ _=>rfl)))) (fun R=>@aX _ _ (0) _ (show List.Nodup (["condition","level","wet","day"]:List Str) by decide +kernel) rfl (Or.inl rfl) (by trivial)) (@bC _ _ (by decide)) (fun R=>cH) (fun R=>(@bN _ _ _ _ _ _ _ _ _ _ G_p_condition_holds (hr.mono (by decide)) (aA (pv 0) (aA (pv 1) (aA (pv 2) (aA (pv 3) aD)))) (by rfl) (by decide) (by rfl) (by rfl))) (by rfl) (by rfl) (by rfl) (by rfl) (by rfl) (by rfl) (by rfl) (by intro _;rfl)) aD) (by decide) (by decide) (by rfl) (by rfl)))),?_⟩
 refine ⟨_,rfl,t,_,2,.ref l,rfl,rfl,SqT.of o,aK (j:=2) rfl,l,rfl,⟨_,SqL.of ol⟩,?_⟩
 refine bM (F:=K) (xs:=us) (by omega) (fun i ys H'=>H' = H ∧ ys = (cs.take i).map fun c=>V.bl (c.so lv ws dv)) ⟨rfl,rfl⟩ ?_ ?_ ?_
 ·rintro i ys H' hi' ⟨rfl,rfl⟩
  exact ⟨SqL.of ol,by rw [List.length_map,List.length_take];omega⟩
 ·rintro i x ys H' K1 K2 hxi ⟨rfl,rfl⟩ k1 k2
  have hil:i < us.length:=(List.getElem?_eq_some_iff.mp hxi).1
  obtain ⟨c,ec⟩:∃ c,cs[i]? = some c:=⟨_,List.getElem?_eq_getElem (by omega)⟩
  obtain ⟨v,ev,iv⟩:=hl.get (show (cs.map Cd.dv)[i]? = some c.dv by rw [List.getElem?_map,ec];rfl)
  rw [hxi] at ev
  cases ev
  refine ⟨_,rfl,_,rfl,_,rfl,_,rfl,_,_,_,_,rfl,c,ws,lv,dv,b,iv,ok c (List.mem_of_getElem? ec),rfl,rfl,hb,rfl,k1 _ _ ⟨rfl,?_⟩⟩
  rw [List.take_add_one,ec,List.map_append]
  rfl
 ·rintro ys H' ⟨rfl,rfl⟩
  intro p hp
  rw [List.take_of_length_le (by omega)]
  refine ⟨p,cs.map (Cd.so lv ws dv),rfl,SqL.of ?_,?_⟩
  ·rw [aB,List.map_map]
   rfl
  ·rw [List.all_map]
   exact dZ.of (iK.lst hp) q
theorem aIW {zs:List Str} {d:Dv} (h:fD zs d = true):∃ c:Cd,d = c.dv ∧ c.ok:=by
 unfold fD at h
 split at h
 ·rename_i a
  cases a with
  | str z =>
   have:=List.mem_singleton.mp (of_decide_eq_true (show decide (z ∈ (["always"]:List Str)) = true from h))
   subst this
   exact ⟨.always,rfl,trivial⟩
  | _=>cases h
 ·rename_i a b c
  rw [Bool.and_eq_true] at h
  cases a with
  | str z =>
   have:=List.mem_singleton.mp (of_decide_eq_true (show decide (z ∈ (["day"]:List Str)) = true from h.1))
   subst this
   have h2:=h.2
   unfold oG at h2
   split at h2
   ·rename_i n m
    rw [Bool.and_eq_true,Bool.and_eq_true,Bool.and_eq_true] at h2
    exact ⟨.day n m,rfl,of_decide_eq_true h2.2.1,of_decide_eq_true h2.2.2⟩
   ·cases h2
  | _=>cases h.1
 ·rename_i a b
  cases a with
  | str z =>
   cases e:bD ["above","below"] (.str z) with
   | true =>
    rw [e] at h
    have hb:bT b = true:=h
    cases b with
    | int i =>
     have m:=of_decide_eq_true (show decide (z ∈ (["above","below"]:List Str)) = true from e)
     rcases List.mem_cons.mp m with rfl | m
     ·exact ⟨.above i,rfl,trivial⟩
     ·have:=List.mem_singleton.mp m
      subst this
      exact ⟨.below i,rfl,trivial⟩
    | _=>cases hb
   | false =>
    rw [e] at h
    have h':(bD ["wet","dry"] (.str z) && bD zs b) = true:=h
    rw [Bool.and_eq_true] at h'
    cases b with
    | str y =>
     have m:=of_decide_eq_true (show decide (z ∈ (["wet","dry"]:List Str)) = true from h'.1)
     rcases List.mem_cons.mp m with rfl | m
     ·exact ⟨.wet y,rfl,trivial⟩
     ·have:=List.mem_singleton.mp m
      subst this
      exact ⟨.dry y,rfl,trivial⟩
    | _=>cases h'.2
  | _=>cases h
 ·cases h
theorem yW {zs:List Str}:∀ {cs:List Dv},(∀ c ∈ cs,fD zs c = true) → ∃ ks:List Cd,cs = ks.map Cd.dv ∧ aCC ks
 | [],_=>⟨[],rfl,fun c m=>by cases m⟩
 | c :: cs,h=>by
  obtain ⟨k,e,ok⟩:=aIW (h c List.mem_cons_self)
  obtain ⟨ks,es,oks⟩:=yW fun d m=>h d (List.mem_cons_of_mem _ m)
  refine ⟨k :: ks,by rw [e,es];rfl,fun d m=>?_⟩
  rcases List.mem_cons.mp m with rfl | m
  ·exact ok
  ·exact oks d m
abbrev Dk:=Str × Str × List Cd
def dkD (x:Dk):Dv:=aKW x.1 x.2.1 x.2.2
def xG (lv:Int) (ws:List Str) (dy:Int) (st:Str → Bool) (x:Dk):Str → Bool :=
 if x.2.2.all (Cd.so lv ws dy) then fun z=>if z = x.2.1 then decide (x.1 = "open") else st z else st
def hJ (lv:Int) (ws:List Str) (dy:Int) (xs:List Dk) (st:Str → Bool):Str → Bool:=xs.foldl (xG lv ws dy) st
def inS (op:List Str):Str → Bool:=fun z=>decide (z ∈ op)
def yA (lv:Int) (ws:List Str) (dy:Int) (gs op:List Str) (xs:List Dk):List Str:=gs.filter (hJ lv ws dy xs (inS op))
theorem zA {lv:Int} {ws:List Str} {dy:Int} {xs:List Dk} {x:Dk} {st:Str → Bool}:hJ lv ws dy (xs ++ [x]) st = xG lv ws dy (hJ lv ws dy xs st) x:=by
 unfold hJ
 rw [List.foldl_append]
 rfl
def kA (gs:List Str) (st:Str → Bool):List (Key × V):=gs.map fun z=>(Sum.inr z,V.bl (st z))
theorem kR (gs:List Str) (st:Str → Bool):(kA gs st).length = gs.length:=List.length_map _
theorem aGI {gs:List Str} {st:Str → Bool} {z:Str} (m:z ∈ gs):gJ (kA gs st) (Sum.inr z) = some (.bl (st z)):=by
 induction gs with
 | nil=>cases m
 | cons a r ih =>
  show gJ ((Sum.inr a,V.bl (st a)) :: kA r st) (Sum.inr z) = _
  by_cases h:a = z
  ·subst h
   exact dN rfl
  ·rw [dO (fun e=>h (Sum.inr.inj e))]
   rcases List.mem_cons.mp m with e | m'
   ·exact absurd e.symm h
   ·exact ih m'
theorem aGJ {gs:List Str} {st:Str → Bool} {g:Str} {b:Bool} (m:g ∈ gs):jV (kA gs st) (Sum.inr g) (.bl b) = kA gs fun z=>if z = g then b else st z:=by
 unfold jV
 have:((kA gs st).any fun kv=>decide (kv.1 = Sum.inr g)) = true:=by
  rw [List.any_eq_true]
  exact ⟨(Sum.inr g,.bl (st g)),List.mem_map.mpr ⟨g,m,rfl⟩,decide_eq_true rfl⟩
 rw [if_pos this]
 unfold kA
 rw [List.map_map]
 refine List.map_congr_left fun z _=>?_
 show (if (Sum.inr z:Key) = Sum.inr g then (Sum.inr z,V.bl b) else (Sum.inr z,V.bl (st z))) = (Sum.inr z,V.bl (if z = g then b else st z))
 by_cases h:z = g
 ·rw [if_pos (by rw [h]),if_pos h]
 ·rw [if_neg (fun e=>h (Sum.inr.inj e)),if_neg h]
def vS (C:Addr):Sp:=sp2 fun x y H Q=>∃ (p:Addr) (fs ds:List Dv) (d:Dv),x = .ref p ∧ LandAt C H p fs ds ∧ Is H d y ∧ bP d = true ∧ gA ((ds.filter aO).map aL) (fs.map aL) d = true ∧ ∀ H',aH H H' → Q .non H'
theorem jK (T:Txt K mg C):Fc P w K mg base 6 "check_decrees" ["land","thing"] (vS C):=by
 have G_p_are_decrees:Fc P w K mg base 5 "are_decrees" ["land","thing"] (zH C):=kM T
 refine T.d_p_check_decrees.fc iZ jM (fun f cdv A outer s H vs Q E hr h=>?_)
 obtain ⟨x,y,rfl,p,fs,ds,d,rfl,L,hd,sd,ok,q⟩:=h
 refine ⟨_,(aJ (@cQ _ _ _ _ _ _ _ _ (@cU _ _ _ _ (@cB _ _ _ (@bN _ _ _ _ _ _ _ _ _ _ G_p_are_decrees (hr.mono (by decide)) (aA (pv 0) (aA (pv 1) aD)) (by rfl) (by decide) (by rfl) (by rfl)) (by intro _;rfl))) (aJ kK) bG)),?_⟩
 refine ⟨_,rfl,_,rfl,_,_,rfl,p,fs,ds,d,rfl,L,hd,sd,fun H1 S1=>⟨_,rfl,?_⟩⟩
 rw [ok]
 exact bS (q H1 S1)
def sp6 (f:V → V → V → V → V → V → Hp → VK → Prop):Sp:=fun vs H Q _=>∃ x y z u w' r,vs = [x,y,z,u,w',r] ∧ f x y z u w' r H Q
theorem aNT {f:V → V → V → V → V → V → Hp → VK → Prop}:∀ vs H Q E,sp6 f vs H Q E → vs.length = 6:=fun vs H Q E ⟨x,y,z,u,w',r,e,_⟩=>by rw [e];rfl
structure Decs (H:Hp) (l:Addr) (gs zs:List Str) (xs:List Dk):Prop where
 ex:∃ vs,H l = some (.lst vs) ∧ IsL H (xs.map dkD) vs
 ok:∀ x ∈ xs,GoodX gs zs (dkD x)
 cd:∀ x ∈ xs,aCC x.2.2 ∧ x.2.2.length ≤ 6 ∧ x.2.1 ∈ gs
theorem Decs.same {H H':Hp} (S:aH H H') {l:Addr} {gs zs:List Str} {xs:List Dk} (h:Decs H l gs zs xs):Decs H' l gs zs xs:=by
 obtain ⟨vs,e,i⟩:=h.ex
 exact ⟨⟨vs,S _ _ e,IsL.same S _ _ i⟩,h.ok,h.cd⟩
theorem vC {gs zs:List Str} {xs:List Dk} (h:∀ x ∈ xs,GoodX gs zs (dkD x)) (hl:xs.length ≤ 60):gA gs zs (.lst (xs.map dkD)) = true:=by
 show (decide ((xs.map dkD).length ≤ 60) && (xs.map dkD).all (iJ gs zs)) = true
 rw [decide_eq_true (by rw [List.length_map];exact hl),List.all_eq_true.mpr fun d m=>by obtain ⟨x,mx,rfl⟩:=List.mem_map.mp m;exact (h x mx).ok]
 rfl
theorem aBY {gs zs:List Str} {xs:List Dk} (h:∀ x ∈ xs,GoodX gs zs (dkD x)) (hl:xs.length ≤ 1000):bP (.lst (xs.map dkD)) = true:=by
 show (decide ((xs.map dkD).length ≤ 1000) && eT (xs.map dkD)) = true
 rw [decide_eq_true (by rw [List.length_map];exact hl),kC fun d m=>by obtain ⟨x,mx,rfl⟩:=List.mem_map.mp m;exact (h x mx).sm]
 rfl
theorem aGL {ds:List Dv} (h:(ds.map aL).Nodup):((ds.filter aO).map aL).Nodup:=h.sublist (List.Sublist.map _ List.filter_sublist)
def xM (C:Addr):Sp:=sp6 fun x y z u w' r H Q=>∃ (p l lo lw:Addr) (fs ds:List Dv) (xs:List Dk) (op ws:List Str) (lv dy:Int),x = .ref p ∧ LandAt C H p fs ds ∧ y = .ref l ∧ Decs H l ((ds.filter aO).map aL) (fs.map aL) xs ∧ xs.length ≤ 60 ∧
 z = .ref lo ∧ H lo = some (.lst (op.map V.str)) ∧ op.length ≤ 1000 ∧ (∀ z ∈ op,z ∈ (ds.filter aO).map aL) ∧ u = .int lv ∧ w' = .ref lw ∧ H lw = some (.lst (ws.map V.str)) ∧ r = .int dy ∧
 ∀ (l':Addr) (H':Hp),aH H H' → H l' = none → H' l' = some (.lst ((yA lv ws dy ((ds.filter aO).map aL) op xs).map V.str)) → Q (.ref l') H'
theorem sT (T:Txt K mg C):Fc P w K mg base 7 "opened_by" ["land","decrees","opened","level","wet","day"] (xM C):=by
 have G_p_check_decrees:Fc P w K mg base 6 "check_decrees" ["land","thing"] (vS C):=jK T
 have G_p_check_sluices:Fc P w K mg base 3 "check_sluices" ["land","thing"] (sB C):=jJ T
 have G_land_p_sluices:Mc P w K mg base 2 C "sluices" ["self"] (lB C fun _ ds=>(ds.filter aO).map aL):=gT T
 have G_p_holds:Fc P w K mg base 2 "holds" ["decree","level","wet","day"] (aBC K):=zQ T
 refine T.d_p_opened_by.fc iX aNT (fun f cdv A outer s H vs Q E hr h=>?_)
 obtain ⟨x,y,z,u,w',r,rfl,p,l,lo,lw,fs,ds,xs,op,ws,lv,dy,rfl,L,rfl,dc,l60,rfl,hlo,lop,sub,rfl,rfl,hlw,rfl,q⟩:=h
 have big:=cF
 have hu:=pV hr
 obtain ⟨vs,hl,il⟩:=dc.ex
 have lvs:=il.length
 rw [List.length_map] at lvs
 have nd:=aGL (dH L).2.nd
 have lgs:((ds.filter aO).map aL).length ≤ 40:=by
  rw [List.length_map]
  exact Nat.le_trans (List.length_filter_le _ _) (dH L).2.l2
 generalize hgs:(ds.filter aO).map aL = gs at *
 refine ⟨_,(aG (@fZ _ _ _ _ (@bN _ _ _ _ _ _ _ _ _ _ G_p_check_decrees (hr.mono (by decide)) (aA (pv 0) (aA (pv 1) aD)) (by rfl) (by decide) (by rfl) (by rfl)) (by rfl)) (aG (@fZ _ _ _ _ (@bN _ _ _ _ _ _ _ _ _ _ G_p_check_sluices (hr.mono (by decide)) (aA (pv 0) (aA (pv 2) aD)) (by rfl) (by decide) (by rfl) (by rfl)) (by rfl)) (aG (@bA _ _ (6) _ _ _ _ iX.nd rfl (Or.inr rfl) (@cP _ _ _ _ _ _ _ _ _ (@dM _ rfl) rfl T.n_dict gC (aA (@cJ _ _ _ _ _ _ _ _ _ _ _ ["name","opened"] 1 [2] rfl (@bV _ (K) _ _ _ rfl (@bW _ _ _ _ (@gF _ _ _ _ _ _ _ _ _ _ _ T.cl_Land G_land_p_sluices (hr.mono (by decide)) (pv 0) (by rfl)))) (fun R=>@aX _ _ (0) _ (show List.Nodup (["name","opened"]:List Str) by decide +kernel) rfl (Or.inl rfl) (by trivial)) (@bC _ _ (by decide)) (fun R=>cH) (fun R=>(@bI _ _ _ _ _ (aA (pv 0) (aA (@cV _ _ _ _ _ _ _ _ (@gX _ (K) rfl) (pv 0) (pv 1) (by with_unfolding_all rfl)) aD)))) (by rfl) (by rfl) (by rfl) (by rfl) (by rfl) (by rfl) (by rfl) (by intro _;rfl)) aD) (by decide) (by decide) (by rfl) (by rfl)) (by rfl) (by trivial)) (aG (@gR _ _ _ _ _ _ _ _ PassesOwn.never rfl (@bV _ (K) _ _ _ rfl (@bW _ _ _ _ (pv 1))) (@aX _ _ (7) _ iX.nd rfl (Or.inl rfl) (by trivial)) (aJ (@cQ _ _ _ _ _ _ _ _ (@cB _ _ _ (@bN _ _ _ _ _ _ _ _ _ _ G_p_holds (hr.mono (by decide)) (aA (pv 7) (aA (pv 3) (aA (pv 4) (aA (pv 5) aD)))) (by rfl) (by decide) (by rfl) (by rfl)) (by intro _;rfl)) (aJ (@aBL _ _ _ _ _ _ _ _ _ hu (pv 6) (@aY _ _ _ _ _ _ _ (@aS _ (K) rfl) (pv 7) aE (fun _ _=>rfl)) (@cV _ _ _ _ _ _ _ _ jQ (@aY _ _ _ _ _ _ _ (@aS _ (K) rfl) (pv 7) aE (fun _ _=>rfl)) bJ (@bR _ _ (by decide) (by decide))) rfl)) bG)) (by intro _;rfl)) (aJ (@aU _ _ _ _ (@cJ _ _ _ _ _ _ _ _ _ _ _ ["name","stand_open"] 1 [6] rfl (@aBM _ _ _ _ (pv 6)) (fun R=>@aX _ _ (0) _ (show List.Nodup (["name","stand_open"]:List Str) by decide +kernel) rfl (Or.inl rfl) (by trivial)) (@bC _ _ (by decide)) (fun R=>@iH _ _ _ (@cB _ _ _ (@pL _ _ _ _ _ _ hu (pv 1) (pv 0) (fun _ _=>rfl)) (by intro _;rfl))) (fun R=>(pv 0)) (by rfl) (by rfl) (by rfl) (by rfl) (by rfl) (by rfl) (by rfl) (by intro _;rfl)))))))),?_⟩
 refine ⟨_,rfl,_,rfl,_,_,rfl,p,fs,ds,.lst (xs.map dkD),rfl,L,⟨l,vs,rfl,hl,il⟩,aBY dc.ok (by omega),by rw [hgs];exact vC dc.ok l60,fun H1 S1=>?_⟩
 refine ⟨_,rfl,_,rfl,_,_,rfl,p,lo,fs,ds,op,rfl,L.same S1,rfl,S1 _ _ hlo,lop,by rw [hgs];exact sub,fun H2 S2=>?_⟩
 have T2:=S1.trans S2
 obtain ⟨dx,d1,d2,hx,_⟩:=(L.same T2).ex
 refine ⟨_,rfl,p,dx,_,rfl,hx,eR _ _ (by decide +kernel) (by decide +kernel),_,rfl,p,fs,ds,rfl,L.same T2,fun ls H3 S3 fls hls=>?_⟩
 have hls:H3 ls = some (.lst (gs.map V.str)):=by rw [← hgs];exact hls
 have T3:=T2.trans S3
 refine ⟨ls,rfl,⟨_,SqL.of hls⟩,?_⟩
 refine bM (F:=K) (xs:=gs.map V.str) (by rw [List.length_map];omega) (fun i ys H'=>aH H3 H' ∧ cA H' ys ((kA gs (inS op)).take i)) ⟨aH.refl _,cA.nil _⟩ ?_ ?_ ?_
 ·rintro i ys H' hi' ⟨S,pr⟩
  exact ⟨SqL.of (S _ _ hls),by have:=pr.len;rw [List.length_take] at this;omega⟩
 ·rintro i xv ys H' K1 K2 hxi ⟨S,pr⟩ k1 k2
  obtain ⟨z,ez⟩:∃ z,gs[i]? = some z:=by
   have:=(List.getElem?_eq_some_iff.mp hxi).1
   rw [List.length_map] at this
   exact ⟨_,List.getElem?_eq_getElem this⟩
  rw [List.getElem?_map,ez] at hxi
  cases hxi
  refine ⟨_,rfl,_,rfl,_,rfl,lo,_,rfl,.inl (SqL.of ((T3.trans S) _ _ hlo)),rfl,hG op,?_⟩
  rw [lK]
  refine ⟨aI rfl,fun t ht=>k1 _ _ ⟨S.trans (aH.upd ht),?_⟩⟩
  have e:(kA gs (inS op))[i]? = some (Sum.inr z,.bl (decide (z ∈ op))):=by
   unfold kA
   rw [List.getElem?_map,ez]
   rfl
  rw [List.take_add_one,e]
  exact pr.snoc (k:=Sum.inr z) ht
 rintro ys H4 ⟨S4,pr⟩
 rw [List.length_map,List.take_of_length_le (by rw [kR];exact Nat.le_refl _)] at pr
 intro p4 hp4
 have S5:=aH.upd (o:=.lst ys) hp4
 refine ⟨p4,ys,kA gs (inS op),rfl,SqL.of aB,pr.same S5,by rw [kR];omega,?_,fun d hd=>?_⟩
 ·have e:(kA gs (inS op)).map (·.1) = gs.map (Sum.inr:Str → Key):=by unfold kA;rw [List.map_map];rfl
  rw [e,nN]
  exact nd
 have T5:=T3.trans (S4.trans S5)
 have fd:H d = none:=T5.free hd
 have S6:=aH.upd (o:=.dK (kA gs (inS op))) hd
 have T6:=T5.trans S6
 have hd6:upd (upd H4 p4 (.lst ys)) d (.dK (kA gs (inS op))) d = some (.dK (kA gs (inS op))):=aB
 generalize upd (upd H4 p4 (.lst ys)) d (.dK (kA gs (inS op))) = H6 at T6 hd6
 clear S6 T5 S5 pr S4 T3 S3 hls hx T2 S2 S1 hd hp4
 refine ⟨_,rfl,l,rfl,⟨_,SqL.of (T6 _ _ hl)⟩,?_⟩
 refine kT (K:=K) (a:=l) (xs:=vs) (fun i σ H'=>∃ v7,σ = [some (.ref p),some (.ref l),some (.ref lo),some (.int lv),some (.ref lw),some (.int dy),some (.ref d),v7] ∧ H' d = some (.dK (kA gs (hJ lv ws dy (xs.take i) (inS op)))) ∧ aH H H')
  ⟨_,rfl,hd6,T6⟩ (fun i σ H' _ ⟨_,_,_,S⟩=>SqL.of (S _ _ hl)) ?_ ?_
 ·rintro i xv σ H' hxi ⟨v7,rfl,hd',S⟩
  have hil:i < vs.length:=(List.getElem?_eq_some_iff.mp hxi).1
  obtain ⟨x,ex⟩:∃ x,xs[i]? = some x:=⟨_,List.getElem?_eq_getElem (by omega)⟩
  obtain ⟨v,ev,iv0⟩:=il.get (show (xs.map dkD)[i]? = some (dkD x) by rw [List.getElem?_map,ex];rfl)
  rw [hxi] at ev
  cases ev
  have iv:=Is.same S _ _ iv0
  obtain ⟨okc,l6,mg'⟩:=dc.cd x (List.mem_of_getElem? ex)
  obtain ⟨a,g,ks⟩:=x
  obtain ⟨t,lc,us,rfl,o,_,_⟩:=wQ iv
  refine ⟨_,rfl,_,rfl,_,rfl,_,rfl,_,_,_,_,rfl,a,g,ks,ws,lv,dy,lw,iv,okc,l6,rfl,rfl,S _ _ hlw,rfl,_,rfl,?_⟩
  have es:hJ lv ws dy (xs.take (i + 1)) (inS op) = xG lv ws dy (hJ lv ws dy (xs.take i) (inS op)) (a,g,ks):=by
   rw [List.take_add_one,ex]
   exact zA
  cases hh:ks.all (Cd.so lv ws dy) with
  | false =>
   refine bS ⟨_,rfl,?_,S⟩
   rw [es]
   unfold xG
   rw [if_neg (by show ¬ ks.all (Cd.so lv ws dy) = true;rw [hh];exact Bool.false_ne_true)]
   exact hd'
  | true =>
   refine cL ⟨_,rfl,t,_,0,.str a,rfl,rfl,SqT.of o,aK (j:=0) rfl,rfl,_,rfl,_,rfl,t,_,1,.str g,rfl,rfl,SqT.of o,aK (j:=1) rfl,d,_,rfl,aAK.k (k:=Sum.inr g) hd' (by rw [kR];omega),?_⟩
   refine ⟨_,rfl,?_,S.over fd⟩
   rw [aB,es]
   have e2:decide (V.str a = V.str "open") = decide (a = "open"):=by
    rw [Bool.eq_iff_iff,decide_eq_true_iff,decide_eq_true_iff]
    exact ⟨fun h=>V.str.inj h,fun h=>by rw [h]⟩
   rw [e2,aGJ mg']
   unfold xG
   rw [if_pos (show ks.all (Cd.so lv ws dy) = true from hh)]
 rintro σ H7 ⟨v7,rfl,hd7,S7⟩
 rw [List.take_of_length_le (by omega)] at hd7
 refine ⟨_,rfl,d,_,rfl,hd7,fun o=>?_⟩
 have S8:aH H (upd H7 d (.frz o (.dK (kA gs (hJ lv ws dy xs (inS op)))))):=S7.over fd
 refine vF (by rw [kR];omega) (fun i ys H'=>upd H7 d (.frz o (.dK (kA gs (hJ lv ws dy xs (inS op))))) = H' ∧ ys = ((gs.take i).filter (hJ lv ws dy xs (inS op))).map V.str) ⟨rfl,rfl⟩ ?_ ?_ ?_
 ·rintro i ys H' hi' ⟨rfl,rfl⟩
  refine ⟨aB,?_⟩
  rw [List.length_map]
  have:=List.length_filter_le (hJ lv ws dy xs (inS op)) (gs.take i)
  rw [List.length_take] at this
  omega
 ·rintro i kv ys H' K1 K2 hk ⟨rfl,rfl⟩ k1 k2
  obtain ⟨z,ez⟩:∃ z,gs[i]? = some z:=by
   have:=(List.getElem?_eq_some_iff.mp hk).1
   rw [kR] at this
   exact ⟨_,List.getElem?_eq_getElem this⟩
  unfold kA at hk
  rw [List.getElem?_map,ez] at hk
  cases hk
  have mz:=List.mem_of_getElem? ez
  refine ⟨_,rfl,_,rfl,d,.bl (hJ lv ws dy xs (inS op) z),rfl,.inl ⟨_,Sum.inr z,.inr ⟨o,aB⟩,rfl,(aGI mz).symm⟩,_,rfl,?_⟩
  cases hz:hJ lv ws dy xs (inS op) z with
  | false =>
   refine bS (k2 _ ⟨rfl,?_⟩)
   rw [List.take_add_one,ez,List.filter_append]
   show _ = ((_ ++ [z].filter _).map V.str)
   rw [List.filter_cons_of_neg (by rw [hz];exact Bool.false_ne_true),List.filter_nil,List.append_nil]
  | true =>
   refine cL ⟨_,rfl,k1 _ _ ⟨rfl,?_⟩⟩
   rw [List.take_add_one,ez,List.filter_append]
   show _ = ((_ ++ [z].filter _).map V.str)
   rw [List.filter_cons_of_pos (by exact hz),List.filter_nil,List.map_append]
   rfl
 ·rintro ys H' ⟨rfl,rfl⟩
  rw [kR,List.take_of_length_le (Nat.le_refl _)]
  intro l' hl'
  exact q l' _ (S8.trans (aH.upd hl')) (S8.free hl') aB
open Mt22 MtF
theorem uT {q:Str → Bool} {fs:List Dv} {i:Nat} {e:Dv} (ee:fs[i]? = some e):(((fs.take (i + 1)).map aL).filter q).map V.str = (((fs.take i).map aL).filter q).map V.str ++ (if q (aL e) = true then [V.str (aL e)] else []):=by
 rw [List.take_add_one,ee,List.map_append,List.filter_append,List.map_append]
 show _ ++ (List.filter q [aL e]).map V.str = _
 by_cases h:q (aL e) = true
 ·rw [if_pos h,List.filter_cons_of_pos h];rfl
 ·rw [if_neg h,List.filter_cons_of_neg h];rfl
open Mt22 MtF
def aCE (h:Option Int) (g lv:Int) (was:Bool):Bool :=
 match h with
 | some c=>decide (c < lv) || (was && !decide (c = g))
 | none=>was
def aBB:Sp:=sp4 fun x y z u H Q=>∃ (h:Option Int) (g lv:Int) (b:Bool),x = aCS h ∧ y = .int g ∧ z = .int lv ∧ u = .bl b ∧ Q (.bl (aCE h g lv b)) H
theorem yC (T:Txt K mg C):Fc P w K mg base 1 "is_wet" ["height","ground","level","was_wet"] aBB:=by
 refine T.d_p_is_wet.fc xV aDB (fun f cdv A outer s H vs Q E hr h=>?_)
 obtain ⟨x,y,z,u,rfl,h,g,lv,b,rfl,rfl,rfl,rfl,q⟩:=h
 refine ⟨_,(aG (@cQ _ _ _ _ _ _ _ _ (@PW.pt _ _ _ (@aKF _ _ _ _ _ _ _ (@bZ _ _ _ _ _ _ _ _ rN (pv 0) jX (@bR _ _ (by decide) (by decide))) (@aHV _ _ _ _ (@bZ _ _ _ _ _ _ _ _ uV (pv 0) (pv 2) (@bR _ _ (by decide) (by decide)))))) (aJ (@aU _ _ _ _ gS)) bG) (aJ (@aU _ _ _ _ (@cI _ _ _ _ _ _ _ (pv 3) (@dE _ _ _ _ _ (@cV _ _ _ _ _ _ _ _ uU (pv 0) (pv 1) (@bR _ _ (by decide) (by decide)))))))),?_⟩
 refine ⟨_,rfl,rfl,_,rfl,?_⟩
 cases h with
 | none =>
  refine bS ?_
  refine ⟨_,rfl,_,rfl,?_⟩
  cases b with
  | false=>exact bS q
  | true=>exact cL ⟨_,rfl,_,rfl,rfl,q⟩
 | some c =>
  refine cL ⟨_,rfl,_,rfl,_,_,rfl,rfl,_,rfl,?_⟩
  have q:Q (.bl (decide (c < lv) || (b && !decide (c = g)))) H:=q
  cases h1:decide (c < lv) with
  | true =>
   rw [h1] at q
   exact cL q
  | false =>
   rw [h1] at q
   refine bS ⟨_,rfl,_,rfl,?_⟩
   cases b with
   | false=>exact bS q
   | true =>
    refine cL ⟨_,rfl,_,rfl,rfl,?_⟩
    have e:decide (V.int c = V.int g) = decide (c = g):=by
     rw [Bool.eq_iff_iff,decide_eq_true_iff,decide_eq_true_iff]
     exact ⟨fun h=>V.int.inj h,fun h=>by rw [h]⟩
    show Q (.bl (!decide (V.int c = V.int g))) H
    rw [e]
    exact q
def aJE (fs ds:List Dv) (op:List Str) (lv:Int) (bf:List Str):List Str:=(fs.map aL).filter fun z=>aCE (flo fs ds op z) (eG fs z) lv (decide (z ∈ bf))
def aEO (C:Addr):Sp:=sp4 fun x y z u H Q=>∃ (p l lb:Addr) (fs ds:List Dv) (op bf:List Str) (lv:Int),x = .ref p ∧ LandAt C H p fs ds ∧ y = .ref l ∧ H l = some (.lst (op.map V.str)) ∧ op.length ≤ 1000 ∧ (∀ z ∈ op,z ∈ (ds.filter aO).map aL) ∧ z = .int lv ∧ u = .ref lb ∧ H lb = some (.lst (bf.map V.str)) ∧
 ∀ (lr:Addr) (H':Hp),aH H H' → H lr = none → H' lr = some (.lst ((aJE fs ds op lv bf).map V.str)) → Q (.ref lr) H'
theorem rH (T:Txt K mg C):Fc P w K mg base 6 "wet_fields" ["land","opened","level","before"] (aEO C):=by
 have G_p_flood_heights:Fc P w K mg base 5 "flood_heights" ["land","opened"] (aBD C):=oQ T
 have G_p_is_wet:Fc P w K mg base 1 "is_wet" ["height","ground","level","was_wet"] aBB:=yC T
 have G_land_p_ground:Mc P w K mg base 1 C "ground" ["self","field"] (sA C):=kN T
 refine T.d_p_wet_fields.fc lR aDB (fun f cdv A outer s H vs Q E hr h=>?_)
 obtain ⟨x,y,z,u,rfl,p,l,lb,fs,ds,op,bf,lv,rfl,L,rfl,hl,lo,sub,rfl,rfl,hlb,q⟩:=h
 have big:=cF
 have hu:=pV hr
 have gf:=(dH L).1
 have f2:=gf.l2
 obtain ⟨dx,d1,d2,hx,_⟩:=L.ex
 refine ⟨_,(aG (@bA _ _ (4) _ _ _ _ lR.nd rfl (Or.inr rfl) (@bN _ _ _ _ _ _ _ _ _ _ G_p_flood_heights (hr.mono (by decide)) (aA (pv 0) (aA (pv 1) aD)) (by rfl) (by decide) (by rfl) (by rfl)) (by rfl) (by trivial)) (aJ (@aU _ _ _ _ (@cJ _ _ _ _ _ _ _ _ _ _ _ ["name","land","level","before","heights"] 1 [0,2,3,4] rfl (@aBM _ _ _ _ (pv 4)) (fun R=>@aX _ _ (0) _ (show List.Nodup (["name","land","level","before","heights"]:List Str) by decide +kernel) rfl (Or.inl rfl) (by trivial)) (@bC _ _ (by decide)) (fun R=>@iH _ _ _ (@cB _ _ _ (@bN _ _ _ _ _ _ _ _ _ _ G_p_is_wet (hr.mono (by decide)) (aA (@pL _ _ _ _ _ _ hu (pv 4) (pv 0) (fun _ _=>rfl)) (aA (@aCR _ _ _ _ _ _ _ _ _ _ _ _ _ _ T.cl_Land G_land_p_ground (hr.mono (by decide)) (pv 1) (aA (pv 0) aD) (by rfl) (by rfl) (by rfl)) (aA (pv 2) (aA (@cV _ _ _ _ _ _ _ _ (@gX _ (K) rfl) (pv 0) (pv 3) (by with_unfolding_all rfl)) aD)))) (by rfl) (by decide) (by rfl) (by rfl)) (by intro _;rfl))) (fun R=>(pv 0)) (by rfl) (by rfl) (by rfl) (by rfl) (by rfl) (by rfl) (by rfl) (by intro _;rfl))))),?_⟩
 refine ⟨_,rfl,_,rfl,_,_,rfl,p,l,fs,ds,op,rfl,L,rfl,hl,lo,sub,fun dh H1 S1 fdh hdh=>?_⟩
 have val:∀ d ∈ fs,gJ (oU fs (flo fs ds op)) (Sum.inr (aL d)) = some (aCS (flo fs ds op (aL d))):=fun d m=>oJ (f:=fun d=>aCS (flo fs ds op (aL d))) gf.nd m
 have lkv:(oU fs (flo fs ds op)).length = fs.length:=List.length_map ..
 refine ⟨_,rfl,dh,_,rfl,hdh,fun o=>?_⟩
 have S2:aH H (upd H1 dh (.frz o (.dK (oU fs (flo fs ds op))))):=S1.over fdh
 refine vF (by omega) (fun i ys H'=>upd H1 dh (.frz o (.dK (oU fs (flo fs ds op)))) = H' ∧ ys = (((fs.take i).map aL).filter fun z=>aCE (flo fs ds op z) (eG fs z) lv (decide (z ∈ bf))).map V.str) ⟨rfl,rfl⟩ ?_ ?_ ?_
 ·rintro i ys H' hi' ⟨rfl,rfl⟩
  refine ⟨aB,?_⟩
  rw [List.length_map]
  have:=List.length_filter_le (fun z=>aCE (flo fs ds op z) (eG fs z) lv (decide (z ∈ bf))) ((fs.take i).map aL)
  rw [List.length_map,List.length_take] at this
  omega
 ·rintro i kv ys H' K1 K2 hk ⟨rfl,rfl⟩ k1 k2
  obtain ⟨e,ee⟩:∃ e,fs[i]? = some e:=⟨_,List.getElem?_eq_getElem (by have:=(List.getElem?_eq_some_iff.mp hk).1;omega)⟩
  unfold oU at hk
  rw [List.getElem?_map,ee] at hk
  cases hk
  have me:=List.mem_of_getElem? ee
  obtain ⟨z,g,du,rfl,hz,_⟩:=cE (gf.all e me)
  have eg:eG fs z = g:=vA gf.nd me
  refine ⟨_,rfl,_,rfl,dh,_,rfl,.inl ⟨_,Sum.inr z,.inr ⟨o,aB⟩,rfl,(val _ me).symm⟩,_,rfl,p,dx,_,rfl,S2 _ _ hx,eR _ _ (by decide +kernel) (by decide +kernel),_,rfl,_,_,rfl,p,fs,ds,z,g,du,rfl,rfl,L.same S2,me,?_⟩
  refine ⟨_,rfl,_,rfl,_,rfl,lb,_,rfl,.inl (SqL.of (S2 _ _ hlb)),rfl,hG bf,?_⟩
  refine ⟨_,_,_,_,rfl,flo fs ds op z,g,lv,inV (.str z) (bf.map V.str),rfl,rfl,rfl,rfl,_,rfl,?_⟩
  rw [lK]
  refine kP (fun h1=>⟨_,rfl,k1 _ _ ⟨rfl,?_⟩⟩) (fun h1=>k2 _ ⟨rfl,?_⟩)
  ·rw [uT ee,if_pos (by show aCE (flo fs ds op z) (eG fs z) lv (decide (z ∈ bf)) = true;rw [eg];exact h1)];rfl
  ·rw [uT ee,if_neg (by show ¬ aCE (flo fs ds op z) (eG fs z) lv (decide (z ∈ bf)) = true;rw [eg];exact h1),List.append_nil]
 ·rintro ys H' ⟨rfl,rfl⟩
  rw [lkv,List.take_of_length_le (Nat.le_refl _)]
  intro lr hlr
  exact q lr _ (S2.trans (aH.upd hlr)) (S2.free hlr) aB
def noL (H H':Hp):Hp:=fun b=>match H b with
 | some (.lst _)=>none
 | _=>H' b
theorem nP {H H':Hp} {b:Addr} {o:HO} (e:H' b = some o) (h:∀ xs,H b ≠ some (.lst xs)):noL H H' b = some o:=by
 unfold noL
 split
 ·rename_i xs hx
  exact absurd hx (h xs)
 ·exact e
theorem nO {H H':Hp} {b:Addr} {o:HO} (e:H' b = some o) (h:H b = none):noL H H' b = some o:=nP e fun xs z=>by rw [h] at z;cases z
theorem wG {H H':Hp} {b:Addr} {o:HO} (e:noL H H' b = some o):H' b = some o ∧ ∀ xs,H b ≠ some (.lst xs):=by
 unfold noL at e
 split at e
 ·cases e
 ·rename_i h
  exact ⟨e,fun xs=>h xs⟩
theorem tE {H H':Hp}:aH (noL H H') H':=fun b o e=>(wG e).1
theorem yH {H H' H'':Hp} (S:aH H' H''):aH (noL H H') (noL H H''):=fun b o e=>nP (S _ _ (wG e).1) (wG e).2
theorem aFT {H H':Hp} (S:aH H H'):nG H (noL H H'):=fun b xs e=>nP (S _ _ e) fun ys z=>by rw [e] at z;cases z
theorem aHD (cs:List Cd):pW (cs.map Cd.dv) = true:=fE fun d m=>by
 obtain ⟨c,_,rfl⟩:=List.mem_map.mp m
 cases c <;> rfl
def xP:Sp:=sp1 fun x H Q=>∃ (l:Addr) (gs zs:List Str) (xs:List Dk),x = .ref l ∧ Decs H l gs zs xs ∧ xs.length ≤ 1000 ∧ ∀ (l':Addr) (H':Hp),aH H H' → H l' = none → Decs (noL H H') l' gs zs xs → Q (.ref l') H'
theorem yD (T:Txt K mg C):Fc P w K mg base 1 "copied" ["decrees"] xP:=by
 refine T.d_p_copied.fc xW lY (fun f cdv A outer s H vs Q E hr h=>?_)
 obtain ⟨x,rfl,l,gs,zs,xs,rfl,dc,lx,q⟩:=h
 have big:=cF
 obtain ⟨us,hl,il⟩:=dc.ex
 have lus:=il.length
 rw [List.length_map] at lus
 refine ⟨_,(aJ (@aU _ _ _ _ (@cJ _ _ _ _ _ _ _ _ _ _ _ ["decree"] 1 [] rfl (@bV _ (K) _ _ _ rfl (@bW _ _ _ _ (pv 0))) (fun R=>@aX _ _ (0) _ (show List.Nodup (["decree"]:List Str) by decide +kernel) rfl (Or.inl rfl) (by trivial)) (@bC _ _ (by decide)) (fun R=>cH) (fun R=>(@bI _ _ _ _ _ (aA (@aY _ _ _ _ _ _ _ (@aS _ (K) rfl) (pv 0) aE (fun _ _=>rfl)) (aA (@aY _ _ _ _ _ _ _ (@aS _ (K) rfl) (pv 0) aE (fun _ _=>rfl)) (aA (@cP _ _ _ _ _ _ _ _ _ (@hZ _ (K) rfl) rfl T.n_list dI (aA (@aY _ _ _ _ _ _ _ (@aS _ (K) rfl) (pv 0) aE (fun _ _=>rfl)) aD) (by decide) (by decide) (by rfl) (by rfl)) aD))))) (by rfl) (by rfl) (by rfl) (by rfl) (by rfl) (by rfl) (by rfl) (by intro _;rfl)))),?_⟩
 refine ⟨_,rfl,l,rfl,⟨_,SqL.of hl⟩,?_⟩
 refine bM (F:=K) (xs:=us) (by omega) (fun i ys H'=>aH H H' ∧ IsL (noL H H') ((xs.take i).map dkD) ys) ⟨aH.refl _,rfl⟩ ?_ ?_ ?_
 ·rintro i ys H' hi' ⟨S,iy⟩
  have:=iy.length
  rw [List.length_map,List.length_take] at this
  exact ⟨SqL.of (S _ _ hl),by omega⟩
 ·rintro i xv ys H' K1 K2 hx ⟨S,iy⟩ k1 k2
  have hil:i < us.length:=(List.getElem?_eq_some_iff.mp hx).1
  obtain ⟨x,ex⟩:∃ x,xs[i]? = some x:=⟨_,List.getElem?_eq_getElem (by omega)⟩
  obtain ⟨v,ev,iv⟩:=il.get (show (xs.map dkD)[i]? = some (dkD x) by rw [List.getElem?_map,ex];rfl)
  rw [hx] at ev
  cases ev
  obtain ⟨a,g,cs⟩:=x
  obtain ⟨t,lc,cus,rfl,o,hlc,ic⟩:=wQ iv
  refine ⟨_,rfl,t,_,0,.str a,rfl,rfl,SqT.of (S _ _ o),aK (j:=0) rfl,_,rfl,t,_,1,.str g,rfl,rfl,SqT.of (S _ _ o),aK (j:=1) rfl,_,rfl,t,_,2,.ref lc,rfl,rfl,SqT.of (S _ _ o),aK (j:=2) rfl,lc,cus,rfl,.inl (SqL.of (S _ _ hlc)),fun l1 hl1=>?_⟩
  have A1:=aH.upd (o:=.lst cus) hl1
  refine ⟨aI rfl,fun pt hpt=>?_⟩
  have A2:=aH.upd (o:=.tup [.str a,.str g,.ref l1]) hpt
  have SS:=S.trans (A1.trans A2)
  refine k1 _ _ ⟨SS,?_⟩
  rw [List.take_add_one,ex,List.map_append]
  refine IsL.snoc ?_ (IsL.same (yH (A1.trans A2)) _ _ iy)
  exact ⟨pt,_,rfl,nO aB ((S.trans A1).free hpt),_,_,rfl,rfl,_,_,rfl,rfl,_,_,rfl,⟨l1,cus,rfl,nO (A2 _ _ aB) (S.free hl1),IsL.keep (aFT SS) _ _ (aHD _) ic⟩,rfl⟩
 ·rintro ys H' ⟨S,iy⟩
  rw [List.take_of_length_le (by omega)] at iy
  intro l' hl'
  have A:=aH.upd (o:=.lst ys) hl'
  exact q l' _ (S.trans A) (S.free hl') ⟨⟨ys,nO aB (S.free hl'),IsL.same (yH A) _ _ iy⟩,dc.ok,dc.cd⟩
mutual
def noD:Dv → Bool
 | .dct _ _=>false
 | .lst ds=>zT ds
 | .tup ds=>zT ds
 | _=>true
def zT:List Dv → Bool
 | []=>true
 | d :: ds=>noD d && zT ds
end
def aDD:HO → Bool
 | .lst _=>true
 | .tup _=>true
 | _=>false
def lO (H H':Hp):Prop:=∀ b o,H b = some o → aDD o = true → H' b = some o
mutual
theorem Is.sameLT {H H':Hp} (S:lO H H'):∀ (d:Dv) (v:V),noD d = true → Is H d v → Is H' d v
 | .non,_,_,h=>h
 | .bl _,_,_,h=>h
 | .int _,_,_,h=>h
 | .str _,_,_,h=>h
 | .lst ds,_,f,⟨a,vs,e,o,h⟩=>⟨a,vs,e,S _ _ o rfl,IsL.sameLT S ds vs f h⟩
 | .tup ds,_,f,⟨a,vs,e,o,h⟩=>⟨a,vs,e,S _ _ o rfl,IsL.sameLT S ds vs f h⟩
 | .dct ks ds,_,f,_=>by cases f
theorem IsL.sameLT {H H':Hp} (S:lO H H'):∀ (ds:List Dv) (vs:List V),zT ds = true → IsL H ds vs → IsL H' ds vs
 | [],_,_,h=>h
 | d :: ds,_,f,⟨v,r,e,h,t⟩=>⟨v,r,e,Is.sameLT S d v (Bool.and_eq_true_iff.mp f).1 h,IsL.sameLT S ds r (Bool.and_eq_true_iff.mp f).2 t⟩
end
theorem rO:∀ {ds:List Dv},(∀ d ∈ ds,noD d = true) → zT ds = true
 | [],_=>rfl
 | d :: ds,h=>by
  rw [zT,h d List.mem_cons_self,rO fun e m=>h e (List.mem_cons_of_mem _ m)]
  rfl
theorem aIQ (x:Dk):noD (dkD x) = true:=by
 show (true && (true && (zT (x.2.2.map Cd.dv) && true))) = true
 rw [rO fun d m=>by obtain ⟨c,_,rfl⟩:=List.mem_map.mp m;cases c <;> rfl]
 rfl
theorem Decs.sameLT {H H':Hp} (S:lO H H') {l:Addr} {gs zs:List Str} {xs:List Dk} (h:Decs H l gs zs xs):Decs H' l gs zs xs:=by
 obtain ⟨vs,e,i⟩:=h.ex
 exact ⟨⟨vs,S _ _ e rfl,IsL.sameLT S _ _ (rO fun d m=>by obtain ⟨x,_,rfl⟩:=List.mem_map.mp m;exact aIQ x) i⟩,h.ok,h.cd⟩
theorem aDM {d:Dv} (h:cD d = true):noD d = true:=by
 obtain ⟨z,g,e,rfl,_⟩:=cE h
 rfl
theorem aGU {zs:List Str} {d:Dv} (h:dA zs d = true):noD d = true:=by
 obtain ⟨n,a,b,c,r,s,rfl,_,_,_,_,_,_,hs⟩:=bX h
 cases s with
 | non=>rfl
 | int i=>rfl
 | _=>cases hs
def aLU:List Str:=["on_land","own_decrees","open_names","wet_names","day_count","wet_counts"]
structure SeaF (F:List (Str × V)) (pl ld lo lw dw:Addr) (n:Int):Prop where
 f1:F.lookup ("on_land":Str) = some (.ref pl)
 f2:F.lookup ("own_decrees":Str) = some (.ref ld)
 f3:F.lookup ("open_names":Str) = some (.ref lo)
 f4:F.lookup ("wet_names":Str) = some (.ref lw)
 f5:F.lookup ("day_count":Str) = some (.int n)
 f6:F.lookup ("wet_counts":Str) = some (.ref dw)
 no:∀ m:Str,¬ m ∈ aLU → F.lookup m = none
 len:F.length ≤ 6
theorem pI (f:Str) (v:V):∀ F:List (Str × V),(∃ u,F.lookup f = some u) → (cZ f v F).length = F.length
 | [],⟨u,h⟩=>by cases h
 | (g,x) :: F,h=>by
  unfold cZ
  by_cases e:g = f
  ·subst e
   simp
  ·have hb:(f == g) = false:=by rw [beq_eq_false_iff_ne];exact fun z=>e z.symm
   have h':∃ u,F.lookup f = some u:=by
    obtain ⟨u,hu⟩:=h
    rw [List.lookup_cons,hb] at hu
    exact ⟨u,hu⟩
   simp [e,pI f v F h']
theorem SeaF.put {F:List (Str × V)} {pl ld lo lw dw:Addr} {n:Int} (h:SeaF F pl ld lo lw dw n) (lo':Addr):SeaF (cZ "open_names" (.ref lo') F) pl ld lo' lw dw n:=by
 refine ⟨?_,?_,?_,?_,?_,?_,fun m hm=>?_,?_⟩
 ·rw [aW,if_neg (by decide +kernel)];exact h.f1
 ·rw [aW,if_neg (by decide +kernel)];exact h.f2
 ·rw [aW,if_pos rfl]
 ·rw [aW,if_neg (by decide +kernel)];exact h.f4
 ·rw [aW,if_neg (by decide +kernel)];exact h.f5
 ·rw [aW,if_neg (by decide +kernel)];exact h.f6
 ·rw [aW,if_neg (fun e=>hm (by rw [e];decide +kernel))];exact h.no m hm
 ·rw [pI _ _ _ ⟨_,h.f3⟩];exact h.len
theorem SeaF.putW {F:List (Str × V)} {pl ld lo lw dw:Addr} {n:Int} (h:SeaF F pl ld lo lw dw n) (lw':Addr):SeaF (cZ "wet_names" (.ref lw') F) pl ld lo lw' dw n:=by
 refine ⟨?_,?_,?_,?_,?_,?_,fun m hm=>?_,?_⟩
 ·rw [aW,if_neg (by decide +kernel)];exact h.f1
 ·rw [aW,if_neg (by decide +kernel)];exact h.f2
 ·rw [aW,if_neg (by decide +kernel)];exact h.f3
 ·rw [aW,if_pos rfl]
 ·rw [aW,if_neg (by decide +kernel)];exact h.f5
 ·rw [aW,if_neg (by decide +kernel)];exact h.f6
 ·rw [aW,if_neg (fun e=>hm (by rw [e];decide +kernel))];exact h.no m hm
 ·rw [pI _ _ _ ⟨_,h.f4⟩];exact h.len
theorem SeaF.putN {F:List (Str × V)} {pl ld lo lw dw:Addr} {n:Int} (h:SeaF F pl ld lo lw dw n) (n':Int):SeaF (cZ "day_count" (.int n') F) pl ld lo lw dw n':=by
 refine ⟨?_,?_,?_,?_,?_,?_,fun m hm=>?_,?_⟩
 ·rw [aW,if_neg (by decide +kernel)];exact h.f1
 ·rw [aW,if_neg (by decide +kernel)];exact h.f2
 ·rw [aW,if_neg (by decide +kernel)];exact h.f3
 ·rw [aW,if_neg (by decide +kernel)];exact h.f4
 ·rw [aW,if_pos rfl]
 ·rw [aW,if_neg (by decide +kernel)];exact h.f6
 ·rw [aW,if_neg (fun e=>hm (by rw [e];decide +kernel))];exact h.no m hm
 ·rw [pI _ _ _ ⟨_,h.f5⟩];exact h.len
def eI (zs:List Str) (cnt:Str → Int):List (Key × V):=zs.map fun z=>(Sum.inr z,V.int (cnt z))
structure SeaAt (CS C:Addr) (H:Hp) (p dw pl:Addr) (fs ds:List Dv) (xs:List Dk) (op wt:List Str) (n:Int) (cnt:Str → Int):Prop where
 ex:∃ dx F ld lo lw,H p = some (.ins CS dx F) ∧ SeaF F pl ld lo lw dw n ∧ Decs H ld ((ds.filter aO).map aL) (fs.map aL) xs ∧ H lo = some (.lst (op.map V.str)) ∧ H lw = some (.lst (wt.map V.str))
 land:LandAt C H pl fs ds
 dwt:H dw = some (.dK (eI (fs.map aL) cnt))
 sub:∀ z ∈ op,z ∈ (ds.filter aO).map aL
 lop:op.length ≤ 1000
 lx:xs.length ≤ 60
theorem SeaAt.same {CS C:Addr} {H H':Hp} (S:aH H H') {p dw pl:Addr} {fs ds:List Dv} {xs:List Dk} {op wt:List Str} {n:Int} {cnt:Str → Int} (h:SeaAt CS C H p dw pl fs ds xs op wt n cnt):SeaAt CS C H' p dw pl fs ds xs op wt n cnt:=by
 obtain ⟨dx,F,ld,lo,lw,e,sf,dc,h1,h2⟩:=h.ex
 exact ⟨⟨dx,F,ld,lo,lw,S _ _ e,sf,dc.same S,S _ _ h1,S _ _ h2⟩,h.land.same S,S _ _ h.dwt,h.sub,h.lop,h.lx⟩
def vQ (CS C:Addr):Sp:=sp1 fun x H Q=>∃ (p dw pl:Addr) (fs ds:List Dv) (xs:List Dk) (op wt:List Str) (n:Int) (cnt:Str → Int),x = .ref p ∧ SeaAt CS C H p dw pl fs ds xs op wt n cnt ∧ ∀ (l:Addr),H l = none → Q (.ref l) (upd H l (.lst (op.map V.str)))
theorem jI (T:Txt K mg C) {CS:Addr} (hCS:mg "Season" = some (.ref CS)):Mc P w K mg base 1 CS "opened" ["self"] (vQ CS C):=by
 obtain ⟨C_Season,cl_Season,mg_Season,na_on_land,na_own_decrees,na_open_names,na_wet_names,na_day_count,na_wet_counts,i_Season,m_season_p_day,m_season_p_days,m_season_p_opened,m_season_p_wet,m_season_p_count,m_season_p_wet_days,m_season_p_onto⟩:=T.k_Season
 rw [hCS] at mg_Season
 cases mg_Season
 refine m_season_p_opened.mc oM lY (fun f cdv A outer s H vs Q E hr h=>?_)
 obtain ⟨x,rfl,p,dw,pl,fs,ds,xs,op,wt,n,cnt,rfl,SA,q⟩:=h
 obtain ⟨dx,F,ld,lo,lw,e,sf,dc,h1,h2⟩:=SA.ex
 refine ⟨_,(aJ (@aU _ _ _ _ (@cP _ _ _ _ _ _ _ _ _ (@hZ _ (K) rfl) rfl T.n_list dI (@aA _ _ _ _ _ (@fL _ _ _ _ _ (pv 0) rfl) aD (by rfl)) (by decide) (by decide) (by rfl) (by rfl)))),?_⟩
 exact ⟨_,rfl,p,CS,dx,F,_,rfl,e,cl_Season,na_open_names,sf.f3,lo,_,rfl,.inl (SqL.of h1),q⟩
def zF (CS C:Addr):Sp:=sp1 fun x H Q=>∃ (p dw pl:Addr) (fs ds:List Dv) (xs:List Dk) (op wt:List Str) (n:Int) (cnt:Str → Int),x = .ref p ∧ SeaAt CS C H p dw pl fs ds xs op wt n cnt ∧ ∀ (l:Addr),H l = none → Q (.ref l) (upd H l (.lst (wt.map V.str)))
theorem lT (T:Txt K mg C) {CS:Addr} (hCS:mg "Season" = some (.ref CS)):Mc P w K mg base 1 CS "wet" ["self"] (zF CS C):=by
 obtain ⟨C_Season,cl_Season,mg_Season,na_on_land,na_own_decrees,na_open_names,na_wet_names,na_day_count,na_wet_counts,i_Season,m_season_p_day,m_season_p_days,m_season_p_opened,m_season_p_wet,m_season_p_count,m_season_p_wet_days,m_season_p_onto⟩:=T.k_Season
 rw [hCS] at mg_Season
 cases mg_Season
 refine m_season_p_wet.mc rA lY (fun f cdv A outer s H vs Q E hr h=>?_)
 obtain ⟨x,rfl,p,dw,pl,fs,ds,xs,op,wt,n,cnt,rfl,SA,q⟩:=h
 obtain ⟨dx,F,ld,lo,lw,e,sf,dc,h1,h2⟩:=SA.ex
 refine ⟨_,(aJ (@aU _ _ _ _ (@cP _ _ _ _ _ _ _ _ _ (@hZ _ (K) rfl) rfl T.n_list dI (@aA _ _ _ _ _ (@fL _ _ _ _ _ (pv 0) rfl) aD (by rfl)) (by decide) (by decide) (by rfl) (by rfl)))),?_⟩
 exact ⟨_,rfl,p,CS,dx,F,_,rfl,e,cl_Season,na_wet_names,sf.f4,lw,_,rfl,.inl (SqL.of h2),q⟩
def cS (p:Addr) (H H':Hp):Prop:=∀ b o,H b = some o → b ≠ p → H' b = some o
theorem cS.lt {p:Addr} {H H':Hp} {o:HO} (hp:H p = some o) (ho:aDD o = false) (X:cS p H H'):lO H H':=fun b o' e l=>X b o' e (fun z=>by
 rw [z,hp] at e
 cases e
 rw [ho] at l
 cases l)
theorem cS.then {p:Addr} {H H' H'':Hp} (X:cS p H H') (S:aH H' H''):cS p H H'':=fun b o e n=>S _ _ (X b o e n)
theorem cS.put {p:Addr} {H H':Hp} {o:HO} (X:cS p H H'):cS p H (upd H' p o):=fun b o' e n=>by rw [aT n];exact X b o' e n
theorem aH.x {p:Addr} {H H':Hp} (S:aH H H'):cS p H H':=fun b o e _=>S _ _ e
theorem aFE {H:Hp} {q:Dv → Bool} (hq:∀ d,q d = true → ∃ r,d = .tup r):∀ {ds:List Dv} {kvs:List (Key × V)},IsL H ds (kvs.map (·.2)) → (∀ d ∈ ds,q d = true) → 1 ≤ ds.length → ∃ kv ∈ kvs,∃ a,kv.2 = V.ref a
 | [],_,_,_,h=>absurd h (by decide)
 | d :: ds,[],⟨v,r,e,_⟩,_,_=>by cases e
 | d :: ds,kv :: kvs,⟨v,r,e,h,_⟩,g,_=>by
  rw [List.map_cons] at e
  cases e
  obtain ⟨r,rfl⟩:=hq d (g d List.mem_cons_self)
  obtain ⟨a,vs,ea,_⟩:=h
  exact ⟨kv,List.mem_cons_self,a,ea⟩
theorem aAQ {H H':Hp} {p d:Addr} {o:HO} {ds:List Dv} {q:Dv → Bool} (hq:∀ d,q d = true → ∃ r,d = .tup r) (hp:H p = some o) (ho:aDD o = false) (hk:∀ kvs,o = .dK kvs → ∀ kv ∈ kvs,∃ i,kv.2 = V.int i) (X:cS p H H') (t:qB H d ds) (g:∀ d ∈ ds,q d = true) (nD:∀ d ∈ ds,noD d = true) (l:1 ≤ ds.length):qB H' d ds:=by
 obtain ⟨kvs,e,k,i⟩:=t
 refine ⟨kvs,X _ _ e (fun z=>?_),k,IsL.sameLT (X.lt hp ho) _ _ (rO nD) i⟩
 rw [z,hp] at e
 cases e
 obtain ⟨kv,m,a,ea⟩:=aFE hq i g l
 obtain ⟨j,ej⟩:=hk kvs rfl kv m
 rw [ea] at ej
 cases ej
theorem mT {C p pl:Addr} {H H':Hp} {o:HO} {fs ds:List Dv} (hp:H p = some o) (ho:aDD o = false) (hk:∀ kvs,o = .dK kvs → ∀ kv ∈ kvs,∃ i,kv.2 = V.int i) (np:pl ≠ p) (X:cS p H H') (L:LandAt C H pl fs ds):LandAt C H' pl fs ds:=by
 obtain ⟨dx,d1,d2,hx,t1,t2⟩:=L.ex
 obtain ⟨gf,gd⟩:=dH L
 refine ⟨⟨dx,d1,d2,X _ _ hx np,?_,?_⟩,L.okf,L.okd⟩
 ·exact aAQ (q:=cD) (fun d h=>by obtain ⟨z,g,e,rfl,_⟩:=cE h;exact ⟨_,rfl⟩) hp ho hk X t1 gf.all (fun d m=>aDM (gf.all d m)) gf.l1
 ·exact aAQ (q:=dA ("sea" :: fs.map aL)) (fun d h=>by obtain ⟨n,a,b,c,r,s,rfl,_⟩:=bX h;exact ⟨_,rfl⟩) hp ho hk X t2 gd.all (fun d m=>aGU (gd.all d m)) gd.l1
theorem aAG {gs zs:List Str} {xs:List Dk} {H:Hp} {l:Addr} (h:Decs H l gs zs xs) (hl:xs.length ≤ 60):bP (.lst (xs.map dkD)) = true ∧ gA gs zs (.lst (xs.map dkD)) = true:=⟨aBY h.ok (by omega),vC h.ok hl⟩
def aAU (CS C:Addr):Sp:=sp3 fun x y z H Q=>∃ (p dx pl ld:Addr) (fs ds:List Dv) (xs:List Dk),x = .ref p ∧ H p = some (.ins CS dx []) ∧ y = .ref pl ∧ LandAt C H pl fs ds ∧ z = .ref ld ∧ Decs H ld ((ds.filter aO).map aL) (fs.map aL) xs ∧ xs.length ≤ 60 ∧
 ∀ (dw:Addr) (H':Hp),SeaAt CS C (noL H H') p dw pl fs ds xs [] [] 0 (fun _=>0) → H dw = none → cS p H H' → Q .non H'
theorem aFW {C CS p pl dx:Addr} {F:List (Str × V)} {H H':Hp} {fs ds:List Dv} (hp:H p = some (.ins CS dx F)) (np:pl ≠ p) (X:cS p H H') (L:LandAt C H pl fs ds):LandAt C (noL H H') pl fs ds:=by
 obtain ⟨dx,d1,d2,hx,t1,t2⟩:=L.ex
 obtain ⟨gf,gd⟩:=dH L
 have get:∀ b o,H b = some o → (∀ xs,o ≠ .lst xs) → b ≠ p → noL H H' b = some o:=fun b o e h n=>nP (X _ _ e n) fun xs z=>by rw [e] at z;exact h xs (Option.some.inj z)
 have kp:nG H (noL H H'):=fun b xs e=>get _ _ e (fun ys z=>by cases z) fun z=>by rw [z,hp] at e;cases e
 have tb:∀ {d:Addr} {ds:List Dv},qB H d ds → (∀ d ∈ ds,oS d = true) → qB (noL H H') d ds:=fun ⟨kvs,e,k,i⟩ h=>⟨kvs,get _ _ e (fun ys z=>by cases z) (fun z=>by rw [z,hp] at e;cases e),k,IsL.keep kp _ _ (fE h) i⟩
 refine ⟨⟨dx,d1,d2,get _ _ hx (fun ys z=>by cases z) np,tb t1 fun d m=>?_,tb t2 fun d m=>?_⟩,L.okf,L.okd⟩
 ·obtain ⟨z,g,e,rfl,_⟩:=cE (gf.all d m)
  rfl
 ·obtain ⟨n,a,b,c,r,s,rfl,_,_,_,_,_,_,hs⟩:=bX (gd.all d m)
  cases s with
  | non=>rfl
  | int i=>rfl
  | _=>cases hs
theorem aFX (d1 d2:Addr):oF d1 d2 ≠ []:=fun e=>by
 have:=nT d1 d2
 rw [e] at this
 cases this
theorem lD (f:Str) (v:V):∀ F:List (Str × V),(cZ f v F).length ≤ F.length + 1
 | []=>Nat.le_refl _
 | (g,x) :: F=>by
  have ih:=lD f v F
  unfold cZ
  by_cases e:g = f
  ·subst e
   simp
  ·simp [e]
   exact ih
def sF1 (pl:Addr):List (Str × V):=cZ "on_land" (.ref pl) []
def sF2 (pl ld:Addr):List (Str × V):=cZ "own_decrees" (.ref ld) (sF1 pl)
def sF3 (pl ld lo:Addr):List (Str × V):=cZ "open_names" (.ref lo) (sF2 pl ld)
def sF4 (pl ld lo lw:Addr):List (Str × V):=cZ "wet_names" (.ref lw) (sF3 pl ld lo)
def sF5 (pl ld lo lw:Addr) (n:Int):List (Str × V):=cZ "day_count" (.int n) (sF4 pl ld lo lw)
def sF6 (pl ld lo lw dw:Addr) (n:Int):List (Str × V):=cZ "wet_counts" (.ref dw) (sF5 pl ld lo lw n)
theorem sM (pl ld lo lw dw:Addr) (n:Int):(sF1 pl).length ≤ 1 ∧ (sF2 pl ld).length ≤ 2 ∧ (sF3 pl ld lo).length ≤ 3 ∧ (sF4 pl ld lo lw).length ≤ 4 ∧ (sF5 pl ld lo lw n).length ≤ 5 ∧ (sF6 pl ld lo lw dw n).length ≤ 6:=by
 have h1:(sF1 pl).length ≤ 1:=lD "on_land" (.ref pl) []
 have h2:=lD "own_decrees" (.ref ld) (sF1 pl)
 have h3:=lD "open_names" (.ref lo) (sF2 pl ld)
 have h4:=lD "wet_names" (.ref lw) (sF3 pl ld lo)
 have h5:=lD "day_count" (.int n) (sF4 pl ld lo lw)
 have h6:=lD "wet_counts" (.ref dw) (sF5 pl ld lo lw n)
 unfold sF6 sF5 sF4 sF3 sF2 at *
 omega
theorem aCL (pl ld lo lw dw:Addr) (n:Int):SeaF (sF6 pl ld lo lw dw n) pl ld lo lw dw n:=by
 have hl:=(sM pl ld lo lw dw n).2.2.2.2.2
 unfold sF6 sF5 sF4 sF3 sF2 sF1 at hl ⊢
 have q:∀ (m f:Str) (v:V) (F:List (Str × V)),¬ m = f → (cZ f v F).lookup m = F.lookup m:=fun m f v F h=>by rw [aW,if_neg h]
 have r:∀ (f:Str) (v:V) (F:List (Str × V)),(cZ f v F).lookup f = some v:=fun f v F=>by rw [aW,if_pos rfl]
 refine ⟨?_,?_,?_,?_,?_,?_,fun m hm=>?_,hl⟩
 ·rw [q _ _ _ _ (by decide +kernel),q _ _ _ _ (by decide +kernel),q _ _ _ _ (by decide +kernel),q _ _ _ _ (by decide +kernel),q _ _ _ _ (by decide +kernel),r]
 ·rw [q _ _ _ _ (by decide +kernel),q _ _ _ _ (by decide +kernel),q _ _ _ _ (by decide +kernel),q _ _ _ _ (by decide +kernel),r]
 ·rw [q _ _ _ _ (by decide +kernel),q _ _ _ _ (by decide +kernel),q _ _ _ _ (by decide +kernel),r]
 ·rw [q _ _ _ _ (by decide +kernel),q _ _ _ _ (by decide +kernel),r]
 ·rw [q _ _ _ _ (by decide +kernel),r]
 ·rw [r]
 ·unfold aLU at hm
  simp only [List.mem_cons,List.not_mem_nil,or_false,not_or] at hm
  obtain ⟨m1,m2,m3,m4,m5,m6⟩:=hm
  rw [q _ _ _ _ m6,q _ _ _ _ m5,q _ _ _ _ m4,q _ _ _ _ m3,q _ _ _ _ m2,q _ _ _ _ m1]
  rfl
theorem rG (T:Txt K mg C) {CS:Addr} (hCS:mg "Season" = some (.ref CS)):Ic P w K mg base 7 CS ["self","land","decrees"] (aAU CS C):=by
 obtain ⟨C_Season,cl_Season,mg_Season,na_on_land,na_own_decrees,na_open_names,na_wet_names,na_day_count,na_wet_counts,i_Season,m_season_p_day,m_season_p_days,m_season_p_opened,m_season_p_wet,m_season_p_count,m_season_p_wet_days,m_season_p_onto⟩:=T.k_Season
 rw [hCS] at mg_Season
 cases mg_Season
 have G_p_check_decrees:Fc P w K mg base 6 "check_decrees" ["land","thing"] (vS C):=jK T
 have G_p_copied:Fc P w K mg base 1 "copied" ["decrees"] xP:=yD T
 have G_land_p_field_names:Mc P w K mg base 1 C "field_names" ["self"] (lB C fun fs _=>fs.map aL):=eS T
 refine i_Season.ic lQ aFU (fun f cdv A outer s H vs Q E hr h=>?_)
 obtain ⟨x,y,z,rfl,p,dx,pl,ld,fs,ds,xs,rfl,hp,rfl,L,rfl,dc,l60,q⟩:=h
 have big:=cF
 have np:pl ≠ p:=fun e=>by
  obtain ⟨dx',d1,d2,hx,_⟩:=L.ex
  rw [e,hp] at hx
  exact aFX d1 d2 (HO.ins.inj (Option.some.inj hx)).2.2.symm
 obtain ⟨us,hl,il⟩:=dc.ex
 obtain ⟨sm,ok⟩:=aAG dc l60
 have gf:=(dH L).1
 have f2:=gf.l2
 have noK:∀ {o:HO} {F:List (Str × V)},o = .ins CS dx F → ∀ kvs,o = .dK kvs → ∀ kv ∈ kvs,∃ i,kv.2 = V.int i:=fun e kvs e'=>by rw [e] at e';cases e'
 refine ⟨_,(aG (@fZ _ _ _ _ (@bN _ _ _ _ _ _ _ _ _ _ G_p_check_decrees (hr.mono (by decide)) (aA (pv 1) (aA (pv 2) aD)) (by rfl) (by decide) (by rfl) (by rfl)) (by rfl)) (aG (@jW _ _ _ _ _ _ _ _ (pv 0) (pv 1) rfl) (aG (@jW _ _ _ _ _ _ _ _ (pv 0) (@bN _ _ _ _ _ _ _ _ _ _ G_p_copied (hr.mono (by decide)) (aA (pv 2) aD) (by rfl) (by decide) (by rfl) (by rfl)) rfl) (aG (@jW _ _ _ _ _ _ _ _ (pv 0) (@bK _ _ _ _ aD) rfl) (aG (@jW _ _ _ _ _ _ _ _ (pv 0) (@bK _ _ _ _ aD) rfl) (aG (@jW _ _ _ _ _ _ _ _ (pv 0) aE rfl) (aJ (@jW _ _ _ _ _ _ _ _ (pv 0) (@cP _ _ _ _ _ _ _ _ _ (@dM _ rfl) rfl T.n_dict gC (aA (@cJ _ _ _ _ _ _ _ _ _ _ _ ["name"] 1 [] rfl (@bV _ (K) _ _ _ rfl (@bW _ _ _ _ (@gF _ _ _ _ _ _ _ _ _ _ _ T.cl_Land G_land_p_field_names (hr.mono (by decide)) (pv 1) (by rfl)))) (fun R=>@aX _ _ (0) _ (show List.Nodup (["name"]:List Str) by decide +kernel) rfl (Or.inl rfl) (by trivial)) (@bC _ _ (by decide)) (fun R=>cH) (fun R=>(@bI _ _ _ _ _ (aA (pv 0) (aA aE aD)))) (by rfl) (by rfl) (by rfl) (by rfl) (by rfl) (by rfl) (by rfl) (by intro _;rfl)) aD) (by decide) (by decide) (by rfl) (by rfl)) rfl)))))))),?_⟩
 refine ⟨_,rfl,_,rfl,_,_,rfl,pl,fs,ds,.lst (xs.map dkD),rfl,L,⟨ld,us,rfl,hl,il⟩,sm,ok,fun H1 S1=>?_⟩
 refine ⟨_,rfl,_,rfl,p,CS,dx,[],rfl,S1 _ _ hp,cl_Season,na_on_land,by decide,?_⟩
 have X1:cS p H (upd H1 p (.ins CS dx (sF1 pl))):=(aH.x S1).put
 have hp1:upd H1 p (.ins CS dx (sF1 pl)) p = some (.ins CS dx (sF1 pl)):=aB
 change iA _ _ _ _ (upd H1 p (.ins CS dx (sF1 pl)))
 generalize upd H1 p (.ins CS dx (sF1 pl)) = H2 at X1 hp1
 have dc1:=dc.sameLT (X1.lt hp rfl)
 refine ⟨_,rfl,_,rfl,ld,_,_,xs,rfl,dc1,by omega,fun l3 H3 S3 nl3 dc3=>?_⟩
 have sl:=sM pl l3 l3 l3 l3 0
 refine ⟨_,rfl,p,CS,dx,sF1 pl,rfl,S3 _ _ hp1,cl_Season,na_own_decrees,by omega,?_⟩
 have X2:cS p H (upd H3 p (.ins CS dx (sF2 pl l3))):=(X1.then S3).put
 have hp2:upd H3 p (.ins CS dx (sF2 pl l3)) p = some (.ins CS dx (sF2 pl l3)):=aB
 have dc4:Decs (upd H3 p (.ins CS dx (sF2 pl l3))) l3 _ _ xs:=(dc3.same tE).sameLT ((aH.x (aH.refl H3)).put.lt (S3 _ _ hp1) rfl)
 have X34:cS p H3 (upd H3 p (.ins CS dx (sF2 pl l3))):=(aH.x (aH.refl H3)).put
 change iA _ _ _ _ (upd H3 p (.ins CS dx (sF2 pl l3)))
 generalize upd H3 p (.ins CS dx (sF2 pl l3)) = H4 at X2 hp2 dc4 X34
 refine ⟨aI rfl,fun lo hlo=>?_⟩
 have S5:=aH.upd (o:=.lst []) hlo
 have sl:=sM pl l3 lo lo lo 0
 refine ⟨_,rfl,p,CS,dx,sF2 pl l3,rfl,S5 _ _ hp2,cl_Season,na_open_names,by omega,?_⟩
 have nlo:lo ≠ p:=fun z=>by rw [z,hp2] at hlo;cases hlo
 have X3:cS p H4 (upd (upd H4 lo (.lst [])) p (.ins CS dx (sF3 pl l3 lo))):=(aH.x S5).put
 have hp3:upd (upd H4 lo (.lst [])) p (.ins CS dx (sF3 pl l3 lo)) p = some (.ins CS dx (sF3 pl l3 lo)):=aB
 have hlo3:upd (upd H4 lo (.lst [])) p (.ins CS dx (sF3 pl l3 lo)) lo = some (.lst []):=by rw [aT nlo,aB]
 change iA _ _ _ _ (upd (upd H4 lo (.lst [])) p (.ins CS dx (sF3 pl l3 lo)))
 generalize upd (upd H4 lo (.lst [])) p (.ins CS dx (sF3 pl l3 lo)) = H5 at X3 hp3 hlo3
 have dc5:=dc4.sameLT (X3.lt hp2 rfl)
 have Y3:cS p H H5:=fun b o e n=>X3 _ _ (X2 b o e n) n
 refine ⟨aI rfl,fun lw hlw=>?_⟩
 have S6:=aH.upd (o:=.lst []) hlw
 have sl:=sM pl l3 lo lw lo 0
 refine ⟨_,rfl,p,CS,dx,sF3 pl l3 lo,rfl,S6 _ _ hp3,cl_Season,na_wet_names,by omega,?_⟩
 have nlw:lw ≠ p:=fun z=>by rw [z,hp3] at hlw;cases hlw
 have X4:cS p H5 (upd (upd H5 lw (.lst [])) p (.ins CS dx (sF4 pl l3 lo lw))):=(aH.x S6).put
 have hp4:upd (upd H5 lw (.lst [])) p (.ins CS dx (sF4 pl l3 lo lw)) p = some (.ins CS dx (sF4 pl l3 lo lw)):=aB
 have hlw4:upd (upd H5 lw (.lst [])) p (.ins CS dx (sF4 pl l3 lo lw)) lw = some (.lst []):=by rw [aT nlw,aB]
 change iA _ _ _ _ (upd (upd H5 lw (.lst [])) p (.ins CS dx (sF4 pl l3 lo lw)))
 generalize upd (upd H5 lw (.lst [])) p (.ins CS dx (sF4 pl l3 lo lw)) = H6 at X4 hp4 hlw4
 have dc6:=dc5.sameLT (X4.lt hp3 rfl)
 have hlo4:=X4 _ _ hlo3 nlo
 have Y4:cS p H H6:=fun b o e n=>X4 _ _ (Y3 b o e n) n
 refine ⟨_,rfl,p,CS,dx,sF4 pl l3 lo lw,rfl,hp4,cl_Season,na_day_count,by omega,?_⟩
 have X5:cS p H6 (upd H6 p (.ins CS dx (sF5 pl l3 lo lw 0))):=(aH.x (aH.refl H6)).put
 have hp5:upd H6 p (.ins CS dx (sF5 pl l3 lo lw 0)) p = some (.ins CS dx (sF5 pl l3 lo lw 0)):=aB
 change Ends.nx _ _ (upd H6 p (.ins CS dx (sF5 pl l3 lo lw 0)))
 generalize upd H6 p (.ins CS dx (sF5 pl l3 lo lw 0)) = H7 at X5 hp5
 have dc7:=dc6.sameLT (X5.lt hp4 rfl)
 have hlo5:=X5 _ _ hlo4 nlo
 have hlw5:=X5 _ _ hlw4 nlw
 have Y5:cS p H H7:=fun b o e n=>X5 _ _ (Y4 b o e n) n
 have L7:=mT hp rfl (noK rfl) np Y5 L
 obtain ⟨dxl,e1,e2,hxl,_⟩:=L7.ex
 refine ⟨_,rfl,pl,dxl,_,rfl,hxl,eR _ _ (by decide +kernel) (by decide +kernel),_,rfl,pl,fs,ds,rfl,L7,fun ln H8 S8 nln hln=>?_⟩
 refine ⟨ln,rfl,⟨_,SqL.of hln⟩,?_⟩
 have lcn:(eI (fs.map aL) (fun _=>0)).length = fs.length:=by unfold eI;rw [List.length_map,List.length_map]
 refine bM (F:=K) (xs:=(fs.map aL).map V.str) (by rw [List.length_map,List.length_map];omega) (fun i ys H'=>aH H8 H' ∧ cA H' ys ((eI (fs.map aL) (fun _=>0)).take i)) ⟨aH.refl _,cA.nil _⟩ ?_ ?_ ?_
 ·rintro i ys H' hi' ⟨S,pr⟩
  exact ⟨SqL.of (S _ _ hln),by have:=pr.len;rw [List.length_take] at this;omega⟩
 ·rintro i xv ys H' K1 K2 hxi ⟨S,pr⟩ k1 k2
  obtain ⟨z,ez⟩:∃ z,(fs.map aL)[i]? = some z:=by
   have:=(List.getElem?_eq_some_iff.mp hxi).1
   rw [List.length_map] at this
   exact ⟨_,List.getElem?_eq_getElem this⟩
  rw [List.getElem?_map,ez] at hxi
  cases hxi
  refine ⟨_,rfl,aI rfl,fun t ht=>k1 _ _ ⟨S.trans (aH.upd ht),?_⟩⟩
  have e:(eI (fs.map aL) (fun _=>0))[i]? = some (Sum.inr z,.int 0):=by
   unfold eI
   rw [List.getElem?_map,ez]
   rfl
  rw [List.take_add_one,e]
  exact pr.snoc (k:=Sum.inr z) ht
 rintro ys H9 ⟨S9,pr⟩
 rw [List.take_of_length_le (by rw [lcn,List.length_map,List.length_map];exact Nat.le_refl _)] at pr
 intro p4 hp4'
 have S10:=aH.upd (o:=.lst ys) hp4'
 refine ⟨p4,ys,eI (fs.map aL) (fun _=>0),rfl,SqL.of aB,pr.same S10,by rw [lcn];omega,?_,fun dw hdw=>?_⟩
 ·have e:(eI (fs.map aL) (fun _=>0)).map (·.1) = (fs.map aL).map (Sum.inr:Str → Key):=by unfold eI;rw [List.map_map];rfl
  rw [e,nN]
  exact gf.nd
 have S11:=aH.upd (o:=.dK (eI (fs.map aL) (fun _=>0))) hdw
 have S12:=S8.trans (S9.trans (S10.trans S11))
 have hdw12:upd (upd H9 p4 (.lst ys)) dw (.dK (eI (fs.map aL) (fun _=>0))) dw = some (.dK (eI (fs.map aL) (fun _=>0))):=aB
 have ndw:H7 dw = none:=(S8.trans (S9.trans S10)).free hdw
 generalize upd (upd H9 p4 (.lst ys)) dw (.dK (eI (fs.map aL) (fun _=>0))) = H12 at S12 hdw12
 have sl:=sM pl l3 lo lw dw 0
 refine ⟨_,rfl,p,CS,dx,sF5 pl l3 lo lw 0,rfl,S12 _ _ hp5,cl_Season,na_wet_counts,by omega,?_⟩
 have X6:cS p H7 (upd H12 p (.ins CS dx (sF6 pl l3 lo lw dw 0))):=(aH.x S12).put
 have ndp:dw ≠ p:=fun z=>by rw [z,hp5] at ndw;cases ndw
 have Y6:cS p H (upd H12 p (.ins CS dx (sF6 pl l3 lo lw dw 0))):=fun b o e n=>X6 _ _ (Y5 b o e n) n
 have fre:∀ {Hq:Hp} {b:Addr},cS p H Hq → b ≠ p → Hq b = none → H b = none:=fun {Hq b} X n h=>by
  cases e:H b with
  | none=>rfl
  | some o =>
   have:=X _ _ e n
   rw [h] at this
   cases this
 have ndw0:H dw = none:=fre Y5 ndp ndw
 have nlo0:H lo = none:=fre X2 nlo hlo
 have nlw0:H lw = none:=fre Y3 nlw hlw
 have hdwF:upd H12 p (.ins CS dx (sF6 pl l3 lo lw dw 0)) dw = some (.dK (eI (fs.map aL) (fun _=>0))):=by rw [aT ndp];exact hdw12
 have hpF:upd H12 p (.ins CS dx (sF6 pl l3 lo lw dw 0)) p = some (.ins CS dx (sF6 pl l3 lo lw dw 0)):=aB
 have hloF:=X6 _ _ hlo5 nlo
 have hlwF:=X6 _ _ hlw5 nlw
 have X3F:cS p H3 (upd H12 p (.ins CS dx (sF6 pl l3 lo lw dw 0))):=fun b o e n=>X6 _ _ (X5 _ _ (X4 _ _ (X3 _ _ (X34 _ _ e n) n) n) n) n
 show Q .non (upd H12 p (.ins CS dx (sF6 pl l3 lo lw dw 0)))
 generalize upd H12 p (.ins CS dx (sF6 pl l3 lo lw dw 0)) = HF at Y6 hdwF hpF hloF hlwF X3F ⊢
 have LT:lO (noL H2 H3) (noL H HF):=fun b o e l=>by
  obtain ⟨e1,e2⟩:=wG e
  have nb:b ≠ p:=fun z=>by rw [z,S3 _ _ hp1] at e1;cases e1;cases l
  exact nP (X3F _ _ e1 nb) fun xs z=>e2 xs (X1 _ _ z nb)
 refine q dw _ ⟨⟨dx,sF6 pl l3 lo lw dw 0,l3,lo,lw,nP hpF (fun xs z=>by rw [hp] at z;cases z),aCL _ _ _ _ _ _,dc3.sameLT LT,nO hloF nlo0,nO hlwF nlw0⟩,aFW hp np Y6 L,nO hdwF ndw0,(fun z m=>by cases m),by decide,l60⟩ ndw0 Y6
theorem aDW {zs:List Str} {c:Str → Int} {g:Str} {b:Int} (m:g ∈ zs):jV (eI zs c) (Sum.inr g) (.int b) = eI zs fun z=>if z = g then b else c z:=by
 unfold jV
 have:((eI zs c).any fun kv=>decide (kv.1 = Sum.inr g)) = true:=by
  rw [List.any_eq_true]
  exact ⟨(Sum.inr g,.int (c g)),List.mem_map.mpr ⟨g,m,rfl⟩,decide_eq_true rfl⟩
 rw [if_pos this]
 unfold eI
 rw [List.map_map]
 refine List.map_congr_left fun z _=>?_
 show (if (Sum.inr z:Key) = Sum.inr g then (Sum.inr z,V.int b) else (Sum.inr z,V.int (c z))) = (Sum.inr z,V.int (if z = g then b else c z))
 by_cases h:z = g
 ·rw [if_pos (by rw [h]),if_pos h]
 ·rw [if_neg (fun e=>h (Sum.inr.inj e)),if_neg h]
theorem vG {c:Str → Int}:∀ {zs:List Str} {g:Str},g ∈ zs → gJ (eI zs c) (Sum.inr g) = some (.int (c g))
 | [],_,m=>by cases m
 | z :: zs,g,m=>by
  unfold gJ eI
  rw [List.map_cons,List.find?_cons]
  by_cases h:z = g
  ·subst h
   rw [decide_eq_true (show (Sum.inr z:Key) = Sum.inr z from rfl)]
   rfl
  ·rw [decide_eq_false (show ¬ (Sum.inr z:Key) = Sum.inr g from fun e=>h (Sum.inr.inj e))]
   have m':g ∈ zs:=by
    rcases List.mem_cons.mp m with e | e
    ·exact absurd e.symm h
    ·exact e
   exact vG (zs:=zs) m'
theorem lN {zs:List Str} {c:Str → Int}:∀ kv ∈ eI zs c,∃ i,kv.2 = V.int i:=fun kv m=>by
 obtain ⟨z,_,rfl⟩:=List.mem_map.mp m
 exact ⟨_,rfl⟩
def qZ (p dw:Addr) (H H':Hp):Prop:=∀ b o,H b = some o → b ≠ p → b ≠ dw → H' b = some o
def wS (wt:List Str) (cnt:Str → Int):Str → Int:=fun z=>if z ∈ wt then cnt z + 1 else cnt z
theorem aDX {wt:List Str} {i:Nat} {z:Str} {cnt:Str → Int} (nd:wt.Nodup) (e:wt[i]? = some z):(fun y=>if y = z then wS (wt.take i) cnt z + 1 else wS (wt.take i) cnt y) = wS (wt.take (i + 1)) cnt:=by
 funext y
 obtain ⟨hi,ez⟩:=List.getElem?_eq_some_iff.mp e
 have nz:¬ z ∈ wt.take i:=fun m=>by
  obtain ⟨j,hj,ej⟩:=List.mem_iff_getElem.mp m
  rw [List.getElem_take] at ej
  rw [List.length_take] at hj
  have:=(List.getElem_inj nd).mp (ej.trans ez.symm)
  omega
 unfold wS
 rw [List.take_add_one,e]
 by_cases h:y = z
 ·subst h
  rw [if_pos rfl,if_neg nz,if_pos (List.mem_append_right _ (by simp))]
 ·rw [if_neg h]
  by_cases h2:y ∈ wt.take i
  ·rw [if_pos h2,if_pos (List.mem_append_left _ h2)]
  ·rw [if_neg h2,if_neg (fun m=>by
    rcases List.mem_append.mp m with m | m
    ·exact h2 m
    ·simp at m
     exact h m)]
def jY (ds:List Dv) (xs:List Dk) (op wt:List Str) (n lv:Int):List Str:=yA lv wt n ((ds.filter aO).map aL) op xs
def fK (fs ds:List Dv) (xs:List Dk) (op wt:List Str) (n lv:Int):List Str:=aJE fs ds (jY ds xs op wt n lv) lv wt
def aLI (CS:Addr) (H H0:Hp) (p dw pl:Addr) (n:Int):Prop:=∀ dx F ld lo lw,H p = some (.ins CS dx F) → SeaF F pl ld lo lw dw n → ∃ F' lo' lw',H0 p = some (.ins CS dx F') ∧ SeaF F' pl ld lo' lw' dw (n + 1) ∧ H lo' = none ∧ H lw' = none
def aEV (CS C:Addr):Sp:=sp2 fun x y H Q=>∃ (p dw pl:Addr) (fs ds:List Dv) (xs:List Dk) (op wt:List Str) (n lv:Int) (cnt:Str → Int),x = .ref p ∧ SeaAt CS C H p dw pl fs ds xs op wt n cnt ∧ y = .int lv ∧ hgt lv = true ∧
 ∀ (t lo lw:Addr) (H0 H':Hp),qZ p dw H H0 → SeaAt CS C H0 p dw pl fs ds xs (jY ds xs op wt n lv) (fK fs ds xs op wt n lv) (n + 1) (wS (fK fs ds xs op wt n lv) cnt) → aLI CS H H0 p dw pl n → aH H0 H' → H0 t = none → H0 lo = none → H0 lw = none → lo ≠ lw → t ≠ lo → t ≠ lw →
  H' t = some (.tup [.ref lo,.ref lw]) → H' lo = some (.lst ((jY ds xs op wt n lv).map V.str)) → H' lw = some (.lst ((fK fs ds xs op wt n lv).map V.str)) → Q (.ref t) H'
theorem lU (T:Txt K mg C) {CS:Addr} (hCS:mg "Season" = some (.ref CS)):Mc P w K mg base 8 CS "day" ["self","level"] (aEV CS C):=by
 have G_season_p_opened:Mc P w K mg base 1 CS "opened" ["self"] (vQ CS C):=jI T hCS
 have G_season_p_wet:Mc P w K mg base 1 CS "wet" ["self"] (zF CS C):=lT T hCS
 have G_p_is_height:Fc P w K mg base 2 "is_height" ["thing"] gM:=cX T
 have G_p_opened_by:Fc P w K mg base 7 "opened_by" ["land","decrees","opened","level","wet","day"] (xM C):=sT T
 have G_p_wet_fields:Fc P w K mg base 6 "wet_fields" ["land","opened","level","before"] (aEO C):=rH T
 obtain ⟨C_Season,cl_Season,mg_Season,na_on_land,na_own_decrees,na_open_names,na_wet_names,na_day_count,na_wet_counts,i_Season,m_season_p_day,m_season_p_days,m_season_p_opened,m_season_p_wet,m_season_p_count,m_season_p_wet_days,m_season_p_onto⟩:=T.k_Season
 rw [hCS] at mg_Season
 cases mg_Season
 refine m_season_p_day.mc fV jM (fun f cdv A outer s H vs Q E hr h=>?_)
 obtain ⟨x,y,rfl,p,dw,pl,fs,ds,xs,op,wt,n,lv,cnt,rfl,SA,rfl,hlv,q⟩:=h
 obtain ⟨dx,F,ld,lo,lw,hp,sf,dc,hlo,hlw⟩:=SA.ex
 have L:=SA.land
 have gf:=(dH L).1
 have gd:=(dH L).2
 have f2:=gf.l2
 have d2:=gd.l2
 have big:=cF
 have hu:=pV hr
 have np:pl ≠ p:=fun e=>by
  obtain ⟨dx',d1,d2,hx,_⟩:=L.ex
  rw [e,hp] at hx
  have e':=(HO.ins.inj (Option.some.inj hx)).2.2
  have:=sf.no "field_rows" (by decide +kernel)
  rw [e',nT] at this
  cases this
 have noK:∀ {o:HO} {F:List (Str × V)},o = .ins CS dx F → ∀ kvs,o = .dK kvs → ∀ kv ∈ kvs,∃ i,kv.2 = V.int i:=fun e kvs e'=>by rw [e] at e';cases e'
 refine ⟨_,(aG (@cQ _ _ _ _ _ _ _ _ (@cU _ _ _ _ (@cB _ _ _ (@bN _ _ _ _ _ _ _ _ _ _ G_p_is_height (hr.mono (by decide)) (aA (pv 1) aD) (by rfl) (by decide) (by rfl) (by rfl)) (by intro _;rfl))) (aJ kK) bG) (aG (@bA _ _ (2) _ _ _ _ fV.nd rfl (Or.inl rfl) (@fL _ _ _ _ _ (pv 0) rfl) (by rfl) (by trivial)) (aG (@jW _ _ _ _ _ _ _ _ (pv 0) (@bN _ _ _ _ _ _ _ _ _ _ G_p_opened_by (hr.mono (by decide)) (@aA _ _ _ _ _ (pv 2) (@aA _ _ _ _ _ (@fL _ _ _ _ _ (pv 0) rfl) (@aA _ _ _ _ _ (@fL _ _ _ _ _ (pv 0) rfl) (@aA _ _ _ _ _ (pv 1) (@aA _ _ _ _ _ (@fL _ _ _ _ _ (pv 0) rfl) (@aA _ _ _ _ _ (@fL _ _ _ _ _ (pv 0) rfl) aD (by rfl)) (by rfl)) (by rfl)) (by rfl)) (by rfl)) (by rfl)) (by rfl) (by decide) (by rfl) (by rfl)) rfl) (aG (@jW _ _ _ _ _ _ _ _ (pv 0) (@bN _ _ _ _ _ _ _ _ _ _ G_p_wet_fields (hr.mono (by decide)) (aA (pv 2) (aA (@fL _ _ _ _ _ (pv 0) rfl) (aA (pv 1) (@aA _ _ _ _ _ (@fL _ _ _ _ _ (pv 0) rfl) aD (by rfl))))) (by rfl) (by decide) (by rfl) (by rfl)) rfl) (aG (@aCP _ _ _ _ _ _ _ _ _ _ (pv 0) aE aGF) (aG (@gR _ _ _ _ _ _ _ _ PassesOwn.never rfl (@bV _ (K) _ _ _ rfl (@bW _ _ _ _ (@fL _ _ _ _ _ (pv 0) rfl))) (@aX _ _ (3) _ fV.nd rfl (Or.inl rfl) (by trivial)) (aJ (@aHW _ _ _ _ _ _ _ _ _ _ _ hu (@fL _ _ _ _ _ (pv 0) rfl) (pv 3) aE aGF (fun _ _ _=>rfl))) (by intro _;rfl)) (aJ (@aU _ _ _ _ (@bI _ _ _ _ _ (aA (@gF _ _ _ _ _ _ _ _ _ _ _ cl_Season G_season_p_opened (hr.mono (by decide)) (pv 0) (by rfl)) (aA (@gF _ _ _ _ _ _ _ _ _ _ _ cl_Season G_season_p_wet (hr.mono (by decide)) (pv 0) (by rfl)) aD))))))))))),?_⟩
 refine ⟨_,rfl,_,rfl,.int lv,rfl,_,rfl,?_⟩
 rw [show bT (.int lv) = true from hlv]
 refine bS ?_
 refine ⟨_,rfl,p,CS,dx,F,_,rfl,hp,cl_Season,na_on_land,sf.f1,?_⟩
 refine ⟨_,rfl,_,rfl,p,CS,dx,F,_,rfl,hp,cl_Season,na_own_decrees,sf.f2,_,rfl,p,CS,dx,F,_,rfl,hp,cl_Season,na_open_names,sf.f3,_,rfl,_,rfl,p,CS,dx,F,_,rfl,hp,cl_Season,na_wet_names,sf.f4,_,rfl,p,CS,dx,F,_,rfl,hp,cl_Season,na_day_count,sf.f5,?_⟩
 refine ⟨_,_,_,_,_,_,rfl,pl,ld,lo,lw,fs,ds,xs,op,wt,lv,n,rfl,L,rfl,dc,SA.lx,rfl,hlo,SA.lop,SA.sub,rfl,rfl,hlw,rfl,fun lo1 H1 S1 nlo1 hlo1=>?_⟩
 have hlo1:H1 lo1 = some (.lst ((jY ds xs op wt n lv).map V.str)):=hlo1
 refine ⟨_,rfl,p,CS,dx,F,rfl,S1 _ _ hp,cl_Season,na_open_names,by have:=sf.len;omega,?_⟩
 have sf1:=sf.put lo1
 have nlop:lo1 ≠ p:=fun z=>by rw [z,hp] at nlo1;cases nlo1
 have X1:cS p H1 (upd H1 p (.ins CS dx (cZ "open_names" (.ref lo1) F))):=(aH.x (aH.refl H1)).put
 have hp1:upd H1 p (.ins CS dx (cZ "open_names" (.ref lo1) F)) p = some (.ins CS dx (cZ "open_names" (.ref lo1) F)):=aB
 generalize cZ "open_names" (.ref lo1) F = F1 at sf1 X1 hp1 ⊢
 generalize upd H1 p (.ins CS dx F1) = H2 at X1 hp1 ⊢
 have X2:cS p H H2:=fun b o e m=>X1 _ _ (S1 _ _ e) m
 have nlwp:lw ≠ p:=fun z=>by rw [z,hp] at hlw;cases hlw
 have ndwp:dw ≠ p:=fun z=>by have:=SA.dwt;rw [z,hp] at this;cases this
 have L2:=mT hp rfl (noK rfl) np X2 L
 have dc2:=dc.sameLT (X2.lt hp rfl)
 have hlo2:=X1 _ _ hlo1 nlop
 have lgs:((ds.filter aO).map aL).length ≤ 40:=by
  rw [List.length_map]
  exact Nat.le_trans (List.length_filter_le _ _) d2
 have lop1:(jY ds xs op wt n lv).length ≤ 1000:=Nat.le_trans (List.length_filter_le _ _) (by omega)
 have sub1:∀ z ∈ jY ds xs op wt n lv,z ∈ (ds.filter aO).map aL:=fun z m=>(List.mem_filter.mp m).1
 refine ⟨_,rfl,_,rfl,p,CS,dx,F1,_,rfl,hp1,cl_Season,na_open_names,sf1.f3,_,rfl,_,rfl,p,CS,dx,F1,_,rfl,hp1,cl_Season,na_wet_names,sf1.f4,_,_,_,_,rfl,pl,lo1,lw,fs,ds,jY ds xs op wt n lv,wt,lv,rfl,L2,rfl,hlo2,lop1,sub1,rfl,rfl,X2 _ _ hlw nlwp,fun lw1 H3 S3 nlw1 hlw1=>?_⟩
 have hlw1:H3 lw1 = some (.lst ((fK fs ds xs op wt n lv).map V.str)):=hlw1
 refine ⟨_,rfl,p,CS,dx,F1,rfl,S3 _ _ hp1,cl_Season,na_wet_names,by have:=sf1.len;omega,?_⟩
 have sf2:=sf1.putW lw1
 have nlw1p:lw1 ≠ p:=fun z=>by rw [z,hp1] at nlw1;cases nlw1
 have X3:cS p H3 (upd H3 p (.ins CS dx (cZ "wet_names" (.ref lw1) F1))):=(aH.x (aH.refl H3)).put
 have hp2:upd H3 p (.ins CS dx (cZ "wet_names" (.ref lw1) F1)) p = some (.ins CS dx (cZ "wet_names" (.ref lw1) F1)):=aB
 generalize cZ "wet_names" (.ref lw1) F1 = F2 at sf2 X3 hp2 ⊢
 generalize upd H3 p (.ins CS dx F2) = H4 at X3 hp2 ⊢
 refine ⟨_,rfl,p,CS,dx,F2,.int n,rfl,hp2,cl_Season,na_day_count,sf2.f5,n,1,rfl,rfl,dx,F2,hp2,by have:=sf2.len;omega,?_⟩
 have sf3:=sf2.putN (n + 1)
 have X4:cS p H4 (upd H4 p (.ins CS dx (cZ "day_count" (.int (n + 1)) F2))):=(aH.x (aH.refl H4)).put
 have hp3:upd H4 p (.ins CS dx (cZ "day_count" (.int (n + 1)) F2)) p = some (.ins CS dx (cZ "day_count" (.int (n + 1)) F2)):=aB
 generalize cZ "day_count" (.int (n + 1)) F2 = F3 at sf3 X4 hp3 ⊢
 generalize upd H4 p (.ins CS dx F3) = H5 at X4 hp3 ⊢
 have X5:cS p H2 H5:=fun b o e m=>X4 _ _ (X3 _ _ (S3 _ _ e) m) m
 have X6:cS p H H5:=fun b o e m=>X5 _ _ (X2 _ _ e m) m
 have L5:=mT hp1 rfl (noK rfl) np X5 L2
 have dc5:=dc2.sameLT (X5.lt hp1 rfl)
 have hlo5:=X5 _ _ hlo2 nlop
 have hlw5:H5 lw1 = some (.lst ((fK fs ds xs op wt n lv).map V.str)):=X4 _ _ (X3 _ _ hlw1 nlw1p) nlw1p
 have hdw5:=X6 _ _ SA.dwt ndwp
 have ndw:(fK fs ds xs op wt n lv).Nodup:=gf.nd.sublist List.filter_sublist
 have mwt:∀ z ∈ fK fs ds xs op wt n lv,z ∈ fs.map aL:=fun z m=>(List.mem_filter.mp m).1
 have lcn:∀ c,(eI (fs.map aL) c).length = fs.length:=fun c=>by unfold eI;rw [List.length_map,List.length_map]
 refine ⟨_,rfl,p,CS,dx,F3,_,rfl,hp3,cl_Season,na_wet_names,sf3.f4,lw1,rfl,⟨_,SqL.of hlw5⟩,?_⟩
 refine kT (K:=K) (a:=lw1) (xs:=(fK fs ds xs op wt n lv).map V.str) (fun i σ H'=>∃ v3,σ = [some (.ref p),some (.int lv),some (.ref pl),v3] ∧ H' dw = some (.dK (eI (fs.map aL) (wS ((fK fs ds xs op wt n lv).take i) cnt))) ∧ cS dw H5 H')
  ⟨_,rfl,by rw [show wS (List.take 0 (fK fs ds xs op wt n lv)) cnt = cnt from funext fun z=>if_neg (by simp)];exact hdw5,fun b o e _=>e⟩ (fun i σ H' _ ⟨_,_,_,X⟩=>SqL.of (X _ _ hlw5 (fun z=>by rw [z,hdw5] at hlw5;cases hlw5))) ?_ ?_
 ·rintro i xv σ H' hxi ⟨v3,rfl,hd',X⟩
  obtain ⟨z,ez⟩:∃ z,(fK fs ds xs op wt n lv)[i]? = some z:=by
   have:=(List.getElem?_eq_some_iff.mp hxi).1
   rw [List.length_map] at this
   exact ⟨_,List.getElem?_eq_getElem this⟩
  rw [List.getElem?_map,ez] at hxi
  cases hxi
  have mz:=mwt z (List.mem_of_getElem? ez)
  refine ⟨_,rfl,p,CS,dx,F3,_,rfl,X _ _ hp3 ndwp.symm,cl_Season,na_wet_counts,sf3.f6,_,rfl,dw,_,rfl,(by rw [← vG mz];exact oA.k (k:=Sum.inr z) hd'),_,1,rfl,rfl,_,aAK.k (k:=Sum.inr z) hd' (by rw [lcn];omega),?_⟩
  refine ⟨_,rfl,?_,X.put⟩
  rw [aB,aDW mz,aDX ndw ez]
 ·rintro σ H' ⟨v3,rfl,hd',X⟩
  rw [List.length_map,List.take_of_length_le (Nat.le_refl _)] at hd'
  have hp6:=X _ _ hp3 ndwp.symm
  have nl1:lo1 ≠ dw:=fun z=>by rw [z,hdw5] at hlo5;cases hlo5
  have nl2:lw1 ≠ dw:=fun z=>by rw [z,hdw5] at hlw5;cases hlw5
  have ndpl:pl ≠ dw:=fun z=>by
   obtain ⟨dx',e1,e2,hx,_⟩:=L5.ex
   rw [z,hdw5] at hx
   cases hx
  have SA':SeaAt CS C H' p dw pl fs ds xs (jY ds xs op wt n lv) (fK fs ds xs op wt n lv) (n + 1) (wS (fK fs ds xs op wt n lv) cnt) :=
   ⟨⟨dx,F3,ld,lo1,lw1,hp6,sf3,dc5.sameLT (X.lt hdw5 rfl),X _ _ hlo5 nl1,X _ _ hlw5 nl2⟩,mT hdw5 rfl (fun kvs e=>by cases e;exact lN) ndpl X L5,hd',sub1,lop1,SA.lx⟩
  have Y:qZ p dw H H':=fun b o e m1 m2=>X _ _ (X6 _ _ e m1) m2
  refine ⟨_,rfl,p,dx,F3,rfl,hp6,sf3.no _ (by decide +kernel),_,rfl,p,dw,pl,fs,ds,xs,_,_,_,_,rfl,SA',fun l1 hl1=>?_⟩
  have A1:=aH.upd (o:=.lst ((jY ds xs op wt n lv).map V.str)) hl1
  refine ⟨_,rfl,p,dx,F3,rfl,A1 _ _ hp6,sf3.no _ (by decide +kernel),_,rfl,p,dw,pl,fs,ds,xs,_,_,_,_,rfl,SA'.same A1,fun l2 hl2=>?_⟩
  have A2:=aH.upd (o:=.lst ((fK fs ds xs op wt n lv).map V.str)) hl2
  refine ⟨aI rfl,fun t ht=>?_⟩
  have A3:=aH.upd (o:=.tup [.ref l1,.ref l2]) ht
  have n12:l1 ≠ l2:=fun z=>by rw [← z,aB] at hl2;cases hl2
  have n2t:t ≠ l2:=fun z=>by rw [z,aB] at ht;cases ht
  have n1t:t ≠ l1:=fun z=>by rw [z,aT n12,aB] at ht;cases ht
  have nlw0:H lw1 = none:=by
   cases e:H lw1 with
   | none=>rfl
   | some o =>
    have:=X2 _ _ e nlw1p
    rw [nlw1] at this
    cases this
  have DX:aLI CS H H' p dw pl n:=fun dx' F' ld' lo' lw' e1 e2=>by
   rw [hp] at e1
   cases e1
   have e3:=e2.f2
   rw [sf.f2] at e3
   cases e3
   exact ⟨F3,lo1,lw1,hp6,sf3,nlo1,nlw0⟩
  exact q t l1 l2 H' _ Y SA' DX (A1.trans (A2.trans A3)) ((A1.trans A2).free ht) hl1 (A1.free hl2) n12 n1t n2t aB ((A2.trans A3) _ _ aB) (A3 _ _ aB)
open Mt21 Mt46
def aER (K:PySem.W.Frag):Sp:=sp2 fun x y H Q=>∃ k:Int,Scr K H x ∧ y = .int k ∧ 0 ≤ k ∧ ∀ m:Int,0 ≤ m → Q (.int m) H
theorem lH (T:Txt K mg C):Fc P w K mg base 1 "_law_mixed" ["_law_script","_law_k"] (aER K):=by
 refine T.d_l_mixed.fc oN jM (fun f cdv A outer s H vs Q E hr h=>?_)
 obtain ⟨x,y,rfl,k,⟨a,ns,rfl,hS,hl⟩,rfl,hk,q⟩:=h
 obtain ⟨j,rfl⟩:=Int.eq_ofNat_of_zero_le hk
 refine ⟨_,(aG (@bA _ _ (2) _ _ _ _ oN.nd rfl (Or.inl rfl) aE (by rfl) (by trivial)) (aG (@cQ _ _ _ _ _ _ _ _ (@bZ _ _ _ _ _ _ _ _ uV (pv 1) (@aR _ _ _ _ _ _ _ _ _ (@bL _ (K) rfl) rfl T.n_len cG (aA (pv 0) aD) (by decide) (by decide) (by rfl) (by rfl)) (@bR _ _ (by decide) (by decide))) (aJ (@bA _ _ (2) _ _ _ _ oN.nd rfl (Or.inl rfl) (@aY _ _ _ _ _ _ _ (@bY _ (K) rfl) (pv 0) (pv 1) (fun _ _=>rfl)) (by rfl) (by trivial))) bG) (aJ (@aU _ _ _ _ (@aM _ _ _ _ _ _ _ _ bQ (@aM _ _ _ _ _ _ _ _ sQ (pv 2) aE) (@aM _ _ _ _ _ _ _ _ dL aE aE)))))),?_⟩
 have p24:(0:Int) < 10 ^ (24:Int).toNat:=by decide
 have fin:∀ m:Int,Q (.int (m % 10 ^ (24:Int).toNat)) H:=fun m=>q _ (Int.emod_nonneg _ (by decide))
 refine ⟨_,rfl,_,rfl,a,_,rfl,.inl hS,_,_,rfl,rfl,_,rfl,?_⟩
 rw [List.length_map]
 refine kP (fun h1=>?_) (fun h1=>?_)
 ·have h1':j < ns.length:=by
   have:=of_decide_eq_true h1
   omega
  refine ⟨_,rfl,_,rfl,a,_,_,.int (ns.getD j 0),rfl,rfl,hS,aK ?_,?_⟩
  ·rw [List.getElem?_map,List.getElem?_eq_getElem h1',List.getD_eq_getElem?_getD,List.getElem?_eq_getElem h1']
   rfl
  exact ⟨_,rfl,_,_,rfl,rfl,.inr ⟨by decide,by decide⟩,_,_,rfl,rfl,⟨by decide,by decide,by decide⟩,_,_,rfl,rfl,p24,fin _⟩
 ·exact ⟨_,rfl,_,_,rfl,rfl,.inr ⟨by decide,by decide⟩,_,_,rfl,rfl,⟨by decide,by decide,by decide⟩,_,_,rfl,rfl,p24,fin _⟩
def aET:Sp:=sp1 fun x H Q=>∃ n:Int,x = .int n ∧ ∀ m:Int,hgt m = true → Q (.int m) H
theorem jR (T:Txt K mg C):Fc P w K mg base 1 "_law_height" ["_law_cell"] aET:=by
 refine T.d_l_height.fc xX lY (fun f cdv A outer s H vs Q E hr h=>?_)
 obtain ⟨x,rfl,n,rfl,q⟩:=h
 have p6':(10:Int) ^ (6:Int).toNat = 1000000:=by decide
 refine ⟨_,(aG (@cQ _ _ _ _ _ _ _ _ (@bZ _ _ _ _ _ _ _ _ jQ (@aM _ _ _ _ _ _ _ _ bQ (pv 0) aE) aE (@bR _ _ (by decide) (by decide))) (aJ (@aU _ _ _ _ (@aM _ _ _ _ _ _ _ _ jH (@aM _ _ _ _ _ _ _ _ bQ (@aM _ _ _ _ _ _ _ _ bE (pv 0) aE) aE) (@aM _ _ _ _ _ _ _ _ dL aE aE)))) bG) (aJ (@aU _ _ _ _ (@aM _ _ _ _ _ _ _ _ jH (@aM _ _ _ _ _ _ _ _ bQ (@aM _ _ _ _ _ _ _ _ bE (pv 0) aE) aE) aE)))),?_⟩
 refine ⟨_,rfl,_,_,rfl,rfl,(iM rfl),rfl,_,rfl,?_⟩
 rw [iS]
 refine kP (fun h1=>?_) (fun h1=>?_)
 ·refine ⟨_,rfl,_,_,rfl,rfl,⟨by decide,by decide⟩,_,_,rfl,rfl,(iM rfl),_,_,rfl,rfl,⟨by decide,by decide,by decide⟩,_,_,rfl,rfl,q _ ?_⟩
  rw [p6']
  have a0:=Int.emod_nonneg (n / 4) (show (2000001:Int) ≠ 0 by decide)
  have a1:=Int.emod_lt_of_pos (n / 4) (show (0:Int) < 2000001 by decide)
  exact wN (by omega) (by omega)
 ·refine ⟨_,rfl,_,_,rfl,rfl,⟨by decide,by decide⟩,_,_,rfl,rfl,(iM rfl),_,_,rfl,rfl,q _ ?_⟩
  have a0:=Int.emod_nonneg (n / 4) (show (7:Int) ≠ 0 by decide)
  have a1:=Int.emod_lt_of_pos (n / 4) (show (0:Int) < 7 by decide)
  exact wN (by omega) (by omega)
theorem aMN:("abcdefghijklmnopqrstuvwxyz":Str).length = 26:=by decide +kernel
def aKE:Sp:=sp1 fun x H Q=>∃ c:Int,x = .int c ∧ ∀ (zs:List Str) (l:Addr) (H':Hp),Nm zs → (∀ z ∈ zs,z ≠ noSuch) → aH H H' → H l = none → H' l = some (.lst (zs.map V.str)) → Q (.ref l) H'
theorem sY (T:Txt K mg C):Fc P w K mg base 1 "_law_names" ["_law_cell"] aKE:=by
 refine T.d_l_names.fc eJ lY (fun f cdv A outer s H vs Q E hr h=>?_)
 obtain ⟨x,rfl,c,rfl,q⟩:=h
 have big:=cF
 have l26:=aMN
 have hss:("abcdefghijklmnopqrstuvwxyz":Str).length ≤ sizeLine:=by rw [l26];omega
 refine ⟨_,(@aG _ _ _ _ _ (@bA _ _ (1) _ _ _ _ eJ.nd rfl (Or.inr rfl) bJ (by rfl) (by trivial)) (@aG _ _ _ _ _ (@bA _ _ (2) _ _ _ _ eJ.nd rfl (Or.inl rfl) (@aM _ _ _ _ _ _ _ _ dY aE (@aM _ _ _ _ _ _ _ _ bQ (pv 0) aE)) (by rfl) (by trivial)) (@aG _ _ _ _ _ (@bA _ _ (3) _ _ _ _ eJ.nd rfl (Or.inl rfl) (@aM _ _ _ _ _ _ _ _ bQ (@aM _ _ _ _ _ _ _ _ bE (pv 0) aE) (pv 2)) (by rfl) (by trivial)) (@aG _ _ _ _ _ (@bA _ _ (4) _ _ _ _ eJ.nd rfl (Or.inl rfl) (@aY _ _ _ _ _ _ _ (@bY _ (K) rfl) (@bK _ _ _ _ (@aA _ _ _ _ _ aE (@aA _ _ _ _ _ aE (@aA _ _ _ _ _ aE (@aA _ _ _ _ _ aE (@aA _ _ _ _ _ aE (@aA _ _ _ _ _ aE (@aA _ _ _ _ _ aE (@aA _ _ _ _ _ aE (@aA _ _ _ _ _ aE (@aA _ _ _ _ _ aE (@aA _ _ _ _ _ aE (@aA _ _ _ _ _ aE aD (by rfl)) (by rfl)) (by rfl)) (by rfl)) (by rfl)) (by rfl)) (by rfl)) (by rfl)) (by rfl)) (by rfl)) (by rfl)) (by rfl))) (@aM _ _ _ _ _ _ _ _ bQ (@aM _ _ _ _ _ _ _ _ bE (pv 0) aE) aE) (fun _ _=>rfl)) (by rfl) (by trivial)) (@aG _ _ _ _ _ (@bA _ _ (5) _ _ _ _ eJ.nd rfl (Or.inl rfl) (@qV _ _ _ _ _ _ _ _ _ _ _ _ PySem.F.plainAttrs_str PySem.F.slot_str_join PySem.F.type_str_join aII bJ (aA (@cJ _ _ _ _ _ _ _ _ _ _ _ ["_law_j","_law_cell","_law_letters"] 1 [0,1] rfl (@fG _ _ _ _ _ _ rfl T.n_range (aA (pv 2) aD) (by rfl)) (fun R=>@aX _ _ (0) _ (show List.Nodup (["_law_j","_law_cell","_law_letters"]:List Str) by decide +kernel) rfl (Or.inl rfl) (by trivial)) (@bC _ _ (by decide)) (fun R=>cH) (fun R=>(@aY _ _ _ _ _ _ _ aGA (pv 2) (@aM _ _ _ _ _ _ _ _ bQ (@aM _ _ _ _ _ _ _ _ dY (@aM _ _ _ _ _ _ _ _ bE (pv 1) aE) (@aM _ _ _ _ _ _ _ _ sQ (pv 0) (pv 0))) aE) (fun _ _=>rfl))) (by rfl) (by rfl) (by rfl) (by rfl) (by rfl) (by rfl) (by rfl) (by intro _;rfl)) aD) (by rfl) (by rfl) (by rfl) (by rfl) (by rfl)) (by rfl) (by trivial)) (@aG _ _ _ _ _ (@bA _ _ (6) _ _ _ _ eJ.nd rfl (Or.inl rfl) (@bK _ _ _ _ aD) (by rfl) (by trivial)) (@aG _ _ _ _ _ (@gR _ _ _ _ _ _ _ _ PassesOwn.never rfl (@fG _ _ _ _ _ _ rfl T.n_range (@aA _ _ _ _ _ aE aD (by rfl)) (by rfl)) (@aX _ _ (7) _ eJ.nd rfl (Or.inl rfl) (by trivial)) (@aG _ _ _ _ _ (@bA _ _ (8) _ _ _ _ eJ.nd rfl (Or.inl rfl) (@aY _ _ _ _ _ _ _ aGA (pv 1) (@aM _ _ _ _ _ _ _ _ bQ (@aM _ _ _ _ _ _ _ _ dY (@aM _ _ _ _ _ _ _ _ sQ (pv 7) (pv 4)) (@aM _ _ _ _ _ _ _ _ bE (pv 0) aE)) aE) (fun _ _=>rfl)) (by rfl) (by trivial)) (@aJ _ _ _ (@fZ _ _ _ _ (@sO _ (K) _ _ _ _ _ rfl (@qV _ _ _ _ _ _ _ _ _ _ _ _ PySem.F.plainAttrs_list PySem.F.slot_list_append PySem.F.type_list_append gZ (pv 6) (aA (@aM _ _ _ _ _ _ _ _ sR (@aM _ _ _ _ _ _ _ _ sR (@mJ _ _ _ _ _ _ _ _ _ _ aEX (pv 5) pK (@pJ _ _ _ (pv 3))) (pv 8)) (@mJ _ _ _ _ _ _ _ _ _ _ aEX (pv 5) (@pJ _ _ _ (@aM _ _ _ _ _ _ _ _ dY (pv 3) aE)) pK)) aD) (by rfl) (by rfl) (by rfl) (by rfl) (by rfl))) (by rfl)))) (by intro _;rfl)) (@aJ _ _ _ (@aU _ _ _ _ (@cJ _ _ _ _ _ _ _ _ _ _ _ ["_law_name"] 1 [] rfl (@bV _ (K) _ _ _ rfl (@bW _ _ _ _ (pv 6))) (fun R=>@aX _ _ (0) _ (show List.Nodup (["_law_name"]:List Str) by decide +kernel) rfl (Or.inl rfl) (by trivial)) (@bC _ _ (by decide)) (fun R=>@iH _ _ _ (@bZ _ _ _ _ _ _ _ _ uU (pv 0) bJ (@bR _ _ (by decide) (by decide)))) (fun R=>(pv 0)) (by rfl) (by rfl) (by rfl) (by rfl) (by rfl) (by rfl) (by rfl) (by intro _;rfl))))))))))),?_⟩
 have z0:0 ≤ c % 8:=Int.emod_nonneg _ (by decide)
 have z1:c % 8 < 8:=Int.emod_lt_of_pos _ (by decide)
 obtain ⟨sz,hsz⟩:=Int.eq_ofNat_of_zero_le (show 0 ≤ 1 + c % 8 by omega)
 refine ⟨_,rfl,_,_,rfl,rfl,(iM rfl),_,_,rfl,rfl,?_⟩
 dsimp only
 rw [hsz]
 have szp:(0:Int) < (sz:Int):=by omega
 refine ⟨_,rfl,_,_,rfl,rfl,⟨by decide,by decide⟩,_,rfl,_,_,rfl,rfl,szp,?_⟩
 have a0:0 ≤ c / 8 % (sz:Int):=Int.emod_nonneg _ (by omega)
 have a1:c / 8 % (sz:Int) < (sz:Int):=Int.emod_lt_of_pos _ (by omega)
 obtain ⟨at',hat⟩:=Int.eq_ofNat_of_zero_le a0
 dsimp only
 rw [hat]
 refine ⟨aI rfl,fun pb hpb=>?_⟩
 have S0:=aH.upd (o:=.lst [.int 1,.int 3,.int 5,.int 7,.int 9,.int 11,.int 15,.int 17,.int 19,.int 21,.int 23,.int 25]) hpb
 obtain ⟨u,mu,eu⟩:=aNZ (i:=c / 64 % 12) (Int.emod_nonneg _ (by decide)) (Int.emod_lt_of_pos _ (by decide))
 refine ⟨_,rfl,_,_,rfl,rfl,⟨by decide,by decide⟩,_,_,rfl,rfl,(iM rfl),pb,_,_,.int u,rfl,rfl,SqL.of aB,eu,?_⟩
 generalize upd H pb (.lst [.int 1,.int 3,.int 5,.int 7,.int 9,.int 11,.int 15,.int 17,.int 19,.int 21,.int 23,.int 25]) = H0 at S0
 refine ⟨rfl,_,rfl,_,rfl,by omega,by omega,?_⟩
 refine aAH (lo:=0) (n:=sz) (by omega) (fun i ys H'=>H0 = H' ∧ ys = ((List.range i).map fun (j:Nat)=>sS (c / 768 + (j:Int) * (j:Int))).map V.str) ⟨rfl,rfl⟩ ?_ ?_ ?_
 ·rintro i ys H' ⟨rfl,rfl⟩
  simp
 ·rintro i ys H' K1 K2 hi ⟨rfl,rfl⟩ k1 k2
  refine ⟨_,rfl,_,rfl,_,_,rfl,rfl,⟨by decide,by decide⟩,_,rfl,_,rfl,_,_,rfl,rfl,.inl ⟨by omega,by omega⟩,_,_,rfl,rfl,_,_,rfl,rfl,(iM rfl),_,_,ab (c / 768 + (0 + (i:Int)) * (0 + (i:Int))),rfl,rfl,hss,aJX _,k1 _ _ ⟨rfl,?_⟩⟩
  rw [List.range_succ,List.map_append,List.map_append]
  show _ ++ [V.str (sS _)] = _ ++ [V.str (sS _)]
  rw [Int.zero_add]
 rintro ys H' ⟨rfl,rfl⟩
 intro p1 hp1
 have S1:=aH.upd (o:=.lst (((List.range sz).map fun (j:Nat)=>sS (c / 768 + (j:Int) * (j:Int))).map V.str)) hp1
 have lsum:((((List.range sz).map fun (j:Nat)=>sS (c / 768 + (j:Int) * (j:Int)))).map fun y=>y.length).sum = sz:=by
  rw [List.map_map]
  show ((List.range sz).map fun _=>1).sum = sz
  have e:∀ m:Nat,((List.range m).map fun _=>1).sum = m:=fun m=>by
   induction m with
   | zero=>rfl
   | succ m ih=>rw [List.range_succ,List.map_append,List.sum_append,ih];rfl
  exact e sz
 refine ⟨"",p1,(List.range sz).map fun (j:Nat)=>sS (c / 768 + (j:Int) * (j:Int)),rfl,rfl,SqL.of aB,by rw [lsum,List.length_map,List.length_range,show ("":Str).length = 0 by decide +kernel];omega,?_⟩
 generalize hb:Txt.join "" ((List.range sz).map fun (j:Nat)=>sS (c / 768 + (j:Int) * (j:Int))) = b
 have bc:b.cps.toList = (List.range sz).map fun (j:Nat)=>ab (c / 768 + (j:Int) * (j:Int)):=by
  rw [← hb,zZ,List.map_map]
  show (((List.range sz).map fun j=>[ab _]).flatten) = _
  induction (List.range sz) with
  | nil=>rfl
  | cons x r ih=>rw [List.map_cons,List.flatten_cons,ih,List.map_cons];rfl
 have bl:b.length = sz:=by rw [iU,bc,List.length_map,List.length_range]
 have ball:b.cps.toList.all hE = true:=by
  rw [bc,List.all_eq_true]
  intro x hx
  obtain ⟨j,_,rfl⟩:=List.mem_map.mp hx
  exact vM _
 have bs:b.length ≤ sizeLine:=by omega
 refine ⟨aI rfl,fun l hl=>?_⟩
 have S2:=aH.upd (o:=.lst []) hl
 have hl0:=S1.free hl
 have ub:1 ≤ u ∧ u ≤ 25:=(show ∀ u ∈ units,1 ≤ u ∧ u ≤ 25 by decide +kernel) u mu
 refine ⟨_,rfl,by omega,by omega,?_⟩
 refine gG (lo:=0) (n:=26) (fun i σ H'=>∃ (v7 v8:Option V) (g:Nat → Str),σ = [some (.int c),some (.str "abcdefghijklmnopqrstuvwxyz"),some (.int sz),some (.int at'),some (.int u),some (.str b),some (.ref l),v7,v8] ∧ aH H0 H' ∧ H' l = some (.lst (((List.range i).map g).map V.str)) ∧ ∀ k,k < i → (g k).cps.toList = b.cps.toList.take at' ++ [ab ((k:Int) * u + c / 19968)] ++ b.cps.toList.drop (at' + 1))
  ⟨_,_,fun _=>"",rfl,S1.trans S2,aB,(fun k hk=>absurd hk (by omega))⟩ ?_ ?_
 ·rintro i σ H3 hi ⟨v7,v8,g,rfl,S3,hl3,pu⟩
  have ku:0 ≤ (0 + (i:Int)) * u:=Int.mul_nonneg (by omega) (by omega)
  refine ⟨_,rfl,_,rfl,_,rfl,_,_,rfl,rfl,.inl ⟨by omega,by omega⟩,_,rfl,_,_,rfl,rfl,⟨by decide,by decide⟩,_,_,rfl,rfl,_,_,rfl,rfl,(iM rfl),_,_,ab ((0 + (i:Int)) * u + c / 19968),rfl,rfl,hss,aJX _,?_⟩
  have tl:(Txt.slice b none (some (at':Int))).length ≤ 8:=by
   rw [iU,rS b at' (by omega),List.length_take]
   omega
  have dl:(Txt.slice b (some ((at':Int) + 1)) none).length ≤ 8:=by
   rw [show ((at':Int) + 1) = ((at' + 1:Nat):Int) from rfl,iU,tR b (at' + 1) (by omega),List.length_drop,← iU]
   omega
  have ia:(sS ((0 + (i:Int)) * u + c / 19968)).length = 1:=rfl
  have sh1:(sS ((0 + (i:Int)) * u + c / 19968)).cps.toList = [ab ((0 + (i:Int)) * u + c / 19968)]:=rfl
  refine ⟨_,rfl,.inl ⟨rfl,_,SqL.of hl3⟩,_,rfl,_,rfl,_,rfl,b,rfl,bs,_,rfl,_,_,rfl,rfl,?_,_,rfl,_,rfl,_,_,rfl,rfl,_,rfl,b,rfl,bs,_,_,rfl,rfl,?_,l,_,_,rfl,rfl,hl3,by rw [List.length_map,List.length_map,List.length_range];omega,?_⟩
  ·refine Nat.le_trans (Nat.add_le_add tl (Nat.le_of_eq ia)) (by omega)
  ·rw [Tx.app_len]
   refine Nat.le_trans (Nat.add_le_add (Nat.add_le_add tl (Nat.le_of_eq ia)) dl) (by omega)
  ·refine ⟨_,_,fun k=>if k = i then Txt.slice b none (some (at':Int)) ++ sS ((0 + (i:Int)) * u + c / 19968) ++ Txt.slice b (some ((at':Int) + 1)) none else g k,rfl,S3.over ?_,?_,fun k hk=>?_⟩
   ·exact hl0
   ·rw [aB,List.range_succ,List.map_append,List.map_append]
    have e1:(List.range i).map (fun k=>if k = i then Txt.slice b none (some (at':Int)) ++ sS ((0 + (i:Int)) * u + c / 19968) ++ Txt.slice b (some ((at':Int) + 1)) none else g k) = (List.range i).map g:=List.map_congr_left fun k m=>by
     rw [if_neg (by have:=List.mem_range.mp m;omega)]
    rw [e1]
    show _ = some (HO.lst (_ ++ [V.str (if i = i then _ else _)]))
    rw [if_pos rfl]
    rfl
   ·by_cases hki:k = i
    ·subst hki
     dsimp only
     rw [if_pos rfl]
     rw [Tx.app_codes,Tx.app_codes,rS b at' (by omega),show ((at':Int) + 1) = ((at' + 1:Nat):Int) from rfl,tR b (at' + 1) (by omega),sh1,Int.zero_add]
    ·dsimp only
     rw [if_neg hki]
     exact pu k (by omega)
 ·rintro σ H3 ⟨v7,v8,g,rfl,S3,hl3,pu⟩
  have NM:=aMJ (g:=g) (r:=c / 19968) ball bl (by omega) (by omega) (by omega) mu pu
  have NX:∀ z ∈ ((List.range 26).map g).filter (fun z=>!decide (z = ("sea":Str))),z ≠ noSuch:=fun z m=>by
   obtain ⟨k,mk,rfl⟩:=List.mem_map.mp (List.mem_filter.mp m).1
   exact aIH bc (by omega) (by omega) (pu k (List.mem_range.mp mk))
  refine ⟨_,rfl,l,rfl,⟨_,SqL.of hl3⟩,?_⟩
  generalize hzs:(List.range 26).map g = zs at *
  have lz:zs.length = 26:=by rw [← hzs,List.length_map,List.length_range]
  refine bM (F:=K) (xs:=zs.map V.str) (by rw [List.length_map];omega) (fun i ys H'=>H3 = H' ∧ ys = ((zs.take i).filter fun z=>!decide (z = ("sea":Str))).map V.str ∧ ys.length ≤ i) ⟨rfl,rfl,Nat.le_refl _⟩ ?_ ?_ ?_
  ·rintro i ys H' hi' ⟨rfl,rfl,hy⟩
   exact ⟨SqL.of hl3,hy⟩
  ·rintro i xv ys H' K1 K2 hx ⟨rfl,rfl,hy⟩ k1 k2
   obtain ⟨z,ez⟩:∃ z,zs[i]? = some z:=by
    have:=(List.getElem?_eq_some_iff.mp hx).1
    rw [List.length_map] at this
    exact ⟨_,List.getElem?_eq_getElem this⟩
   rw [List.getElem?_map,ez] at hx
   cases hx
   refine ⟨_,rfl,rfl,_,rfl,?_⟩
   show if (!decide (V.str z = V.str "sea")) = true then _ else _
   rw [pY]
   have et:((zs.take (i + 1)).filter fun z=>!decide (z = ("sea":Str))) = ((zs.take i).filter fun z=>!decide (z = ("sea":Str))) ++ (if (!decide (z = ("sea":Str))) = true then [z] else []):=by
    rw [List.take_add_one,ez,List.filter_append]
    cases hb:(!decide (z = ("sea":Str))) <;> simp_all
   cases hb:(!decide (z = ("sea":Str))) with
   | true =>
    rw [hb] at et
    refine cL ⟨_,rfl,k1 _ _ ⟨rfl,?_,by rw [List.length_append,List.length_singleton];omega⟩⟩
    rw [et,List.map_append]
    rfl
   | false =>
    rw [hb] at et
    refine bS (k2 _ ⟨rfl,?_,by omega⟩)
    rw [et]
    simp
  rintro ys H' ⟨rfl,rfl,hy⟩
  rw [List.length_map,List.take_of_length_le (Nat.le_refl _)]
  intro l2 hl2
  exact q _ l2 _ NM NX (S0.trans (S3.trans (aH.upd hl2))) (S0.free (S3.free hl2)) aB
theorem wM {i:Int} (h:hgt i = true):-1000000 ≤ i ∧ i ≤ 1000000:=by
 unfold hgt at h
 rw [Bool.and_eq_true,decide_eq_true_iff,decide_eq_true_iff] at h
 exact h
theorem fE:∀ {ds:List Dv},(∀ d ∈ ds,oS d = true) → pW ds = true
 | [],_=>rfl
 | d :: ds,h=>by
  rw [pW,h d List.mem_cons_self,fE fun e m=>h e (List.mem_cons_of_mem _ m)]
  rfl
def aJK (K:PySem.W.Frag):Sp:=sp2 fun x y H Q=>∃ n:Nat,Scr K H x ∧ y = .int n ∧ 1 ≤ n ∧ n ≤ 12 ∧ ∀ (l:Addr) (vs:List V) (fs:List Dv) (H':Hp),aH H H' → H l = none → H' l = some (.lst vs) → IsL H' fs vs → Fds fs n → (∀ d ∈ fs,aL d ≠ Mt46.noSuch) → Q (.ref l) H'
theorem yF (T:Txt K mg C):Fc P w K mg base 2 "_law_fields" ["_law_script","_law_most"] (aJK K):=by
 have G_l_names:Fc P w K mg base 1 "_law_names" ["_law_cell"] aKE:=sY T
 have G_l_mixed:Fc P w K mg base 1 "_law_mixed" ["_law_script","_law_k"] (aER K):=lH T
 have G_l_height:Fc P w K mg base 1 "_law_height" ["_law_cell"] aET:=jR T
 refine T.d_l_fields.fc gE jM (fun f cdv A outer s H vs Q E hr h=>?_)
 obtain ⟨x,y,rfl,n,⟨a,ns,rfl,hS,hns⟩,rfl,n1,n12,q⟩:=h
 have scr:Scr K H (.ref a):=⟨a,ns,rfl,hS,hns⟩
 have big:=cF
 refine ⟨_,(aG (@bA _ _ (2) _ _ _ _ gE.nd rfl (Or.inl rfl) (@bN _ _ _ _ _ _ _ _ _ _ G_l_names (hr.mono (by decide)) (aA (@bN _ _ _ _ _ _ _ _ _ _ G_l_mixed (hr.mono (by decide)) (aA (pv 0) (@aA _ _ _ _ _ aE aD (by rfl))) (by rfl) (by decide) (by rfl) (by rfl)) aD) (by rfl) (by decide) (by rfl) (by rfl)) (by rfl) (by trivial)) (aG (@bA _ _ (3) _ _ _ _ gE.nd rfl (Or.inl rfl) (@bK _ _ _ _ aD) (by rfl) (by trivial)) (aG (@gR _ _ _ _ _ _ _ _ PassesOwn.never rfl (@fG _ _ _ _ _ _ rfl T.n_range (aA (@aM _ _ _ _ _ _ _ _ dY aE (@aM _ _ _ _ _ _ _ _ bQ (@bN _ _ _ _ _ _ _ _ _ _ G_l_mixed (hr.mono (by decide)) (aA (pv 0) (@aA _ _ _ _ _ aE aD (by rfl))) (by rfl) (by decide) (by rfl) (by rfl)) (pv 1))) aD) (by rfl)) (@aX _ _ (4) _ gE.nd rfl (Or.inl rfl) (by trivial)) (aG (@bA _ _ (5) _ _ _ _ gE.nd rfl (Or.inl rfl) (@bN _ _ _ _ _ _ _ _ _ _ G_l_mixed (hr.mono (by decide)) (aA (pv 0) (aA (@aM _ _ _ _ _ _ _ _ dY aE (pv 4)) aD)) (by rfl) (by decide) (by rfl) (by rfl)) (by rfl) (by trivial)) (aG (@bA _ _ (6) _ _ _ _ gE.nd rfl (Or.inl rfl) (@aY _ _ _ _ _ _ _ (@bY _ (K) rfl) (@bK _ _ _ _ (aA aE (aA aE (aA (@aM _ _ _ _ _ _ _ _ dY aE (@aM _ _ _ _ _ _ _ _ bQ (@aM _ _ _ _ _ _ _ _ bE (pv 5) aE) aE)) (aA (@aM _ _ _ _ _ _ _ _ bQ (@aM _ _ _ _ _ _ _ _ bE (pv 5) aE) (@aM _ _ _ _ _ _ _ _ dY (@aM _ _ _ _ _ _ _ _ dL aE aE) aE)) aD))))) (@aM _ _ _ _ _ _ _ _ bQ (pv 5) aE) (fun _ _=>rfl)) (by rfl) (by trivial)) (aJ (@fZ _ _ _ _ (@sO _ (K) _ _ _ _ _ rfl (@qV _ _ _ _ _ _ _ _ _ _ _ _ PySem.F.plainAttrs_list PySem.F.slot_list_append PySem.F.type_list_append gZ (pv 3) (aA (@bI _ _ _ _ _ (aA (@aY _ _ _ _ _ _ _ (@bY _ (K) rfl) (pv 2) (pv 4) (fun _ _=>rfl)) (aA (@bN _ _ _ _ _ _ _ _ _ _ G_l_height (hr.mono (by decide)) (aA (@aM _ _ _ _ _ _ _ _ bE (pv 5) (@aM _ _ _ _ _ _ _ _ dL aE aE)) aD) (by rfl) (by decide) (by rfl) (by rfl)) (aA (pv 6) aD)))) aD) (by rfl) (by rfl) (by rfl) (by rfl) (by rfl))) (by rfl))))) (by intro _;rfl)) (aJ (@aU _ _ _ _ (pv 3)))))),?_⟩
 refine ⟨_,rfl,_,_,rfl,0,scr,rfl,by decide,fun m0 hm0=>?_⟩
 refine ⟨_,rfl,m0,rfl,fun zs ln H1 NM NX S1 nln hln=>?_⟩
 refine ⟨aI rfl,fun l hl=>?_⟩
 have S2:=aH.upd (o:=.lst []) hl
 have nl:H l = none:=S1.free hl
 have hl2:upd H1 l (.lst []) l = some (.lst []):=aB
 have T2:=S1.trans S2
 have hln2:=S2 _ _ hln
 have nll:ln ≠ l:=fun z=>by rw [z,hl2] at hln2;have:=(HO.lst.inj (Option.some.inj hln2));have h1:=NM.l1;rw [← List.length_map (f:=V.str),← this] at h1;exact absurd h1 (by decide)
 generalize upd H1 l (.lst []) = H2 at T2 hl2 hln2
 refine ⟨_,rfl,_,_,rfl,1,scr.same T2,rfl,by decide,fun m1 hm1=>?_⟩
 have np:(0:Int) < (n:Int):=by omega
 have r0:0 ≤ m1 % (n:Int):=Int.emod_nonneg _ (by omega)
 have r1:m1 % (n:Int) < (n:Int):=Int.emod_lt_of_pos _ np
 obtain ⟨cnt,hcnt⟩:=Int.eq_ofNat_of_zero_le (show 0 ≤ 1 + m1 % (n:Int) by omega)
 refine ⟨_,rfl,_,_,rfl,rfl,np,_,_,rfl,rfl,_,rfl,by show -(2 ^ 62) ≤ 1 + m1 % (n:Int);omega,by show 1 + m1 % (n:Int) < 2 ^ 62;omega,?_⟩
 rw [show (1 + m1 % (n:Int)).toNat = cnt by omega]
 have nz:=NM.l1
 refine gG (lo:=0) (n:=cnt) (fun i σ H'=>∃ (v4 v5 v6:Option V) (vs:List V) (es:List Dv),σ = [some (.ref a),some (.int n),some (.ref ln),some (.ref l),v4,v5,v6] ∧ cS l H2 H' ∧ H' l = some (.lst vs) ∧ IsL H' es vs ∧ es.map aL = zs.take i ∧ es.length = i ∧ ∀ d ∈ es,cD d = true) ⟨_,_,_,[],[],rfl,(fun b o e _=>e),hl2,rfl,rfl,rfl,fun d m=>by cases m⟩ ?_ ?_
 ·rintro i σ H' hi ⟨v4,v5,v6,ys,es,rfl,X,hly,iy,en,le,all⟩
  have SH:aH H H':=fun b o e=>X _ _ (T2 _ _ e) (fun z=>by rw [z,nl] at e;cases e)
  have ly:=iy.length
  obtain ⟨z,ez⟩:∃ z,zs[i]? = some z:=⟨_,List.getElem?_eq_getElem (by omega)⟩
  have zi:(0:Int) + (i:Int) = (i:Int):=Int.zero_add _
  refine ⟨_,rfl,_,rfl,_,_,rfl,rfl,_,_,rfl,_,scr.same SH,rfl,by show 0 ≤ 2 + (0 + (i:Int));omega,fun mc hmc=>?_⟩
  have p6':(10:Int) ^ (6:Int).toNat = 1000000:=by decide
  have pm6:(0:Int) < 10 ^ (6:Int).toNat + 1:=by decide
  refine ⟨_,rfl,_,_,rfl,rfl,⟨by decide,by decide⟩,_,_,rfl,rfl,(iM rfl),_,_,rfl,rfl,_,rfl,_,_,rfl,rfl,⟨by decide,by decide⟩,_,_,rfl,rfl,⟨by decide,by decide,by decide⟩,_,_,rfl,rfl,_,_,rfl,rfl,pm6,aI rfl,fun p1 hp1=>?_⟩
  have A1:=aH.upd (o:=.lst [.int 0,.int 1,.int (1 + mc / 16 % 5),.int (mc / 16 % (10 ^ (6:Int).toNat + 1))]) hp1
  obtain ⟨du,edu,hdu⟩:=at4 (a:=0) (b:=1) (c:=1 + mc / 16 % 5) (d:=mc / 16 % (10 ^ (6:Int).toNat + 1)) (i:=mc % 4) (Int.emod_nonneg _ (by decide)) (Int.emod_lt_of_pos _ (by decide))
  have du01:0 ≤ du ∧ du ≤ 1000000:=by
   have b0:=Int.emod_nonneg (mc / 16) (show (5:Int) ≠ 0 by decide)
   have b1:=Int.emod_lt_of_pos (mc / 16) (show (0:Int) < 5 by decide)
   rw [p6'] at hdu
   have c0:=Int.emod_nonneg (mc / 16) (show (1000000 + 1:Int) ≠ 0 by decide)
   have c1:=Int.emod_lt_of_pos (mc / 16) (show (0:Int) < 1000000 + 1 by decide)
   rcases hdu with rfl | rfl | rfl | rfl <;> omega
  refine ⟨_,rfl,_,_,rfl,rfl,(iM rfl),p1,_,_,.int du,rfl,rfl,SqL.of aB,edu,?_⟩
  generalize upd H' p1 (.lst [.int 0,.int 1,.int (1 + mc / 16 % 5),.int (mc / 16 % (10 ^ (6:Int).toNat + 1))]) = H4 at A1 ⊢
  refine ⟨_,rfl,.inl ⟨rfl,_,SqL.of (A1 _ _ hly)⟩,?_⟩
  refine ⟨_,rfl,_,rfl,ln,_,_,.str z,rfl,rfl,SqL.of (A1 _ _ (X _ _ hln2 nll)),(by rw [zi];exact aK (by rw [List.getElem?_map,ez];rfl)),?_⟩
  refine ⟨_,rfl,_,_,rfl,rfl,⟨by decide,by decide,by decide⟩,_,_,rfl,rfl,⟨by decide,by decide⟩,_,rfl,_,rfl,fun g hg=>?_⟩
  refine ⟨_,rfl,aI rfl,fun t ht=>?_⟩
  have A2:=aH.upd (o:=.tup [.str z,.int g,.int du]) ht
  have A:=A1.trans A2
  have hl5:=A _ _ hly
  refine ⟨l,_,_,rfl,rfl,hl5,by omega,?_⟩
  have nmz:=NM.nm z (List.mem_of_getElem? ez)
  have ntl:t ≠ l:=fun e=>by rw [e,A1 _ _ hly] at ht;cases ht
  have kp:nG H' (upd (upd H4 t (.tup [.str z,.int g,.int du])) l (.lst (ys ++ [.ref t]))):=fun b xs e=>by
   rw [aT (fun z=>by rw [z,hly] at e;cases e)]
   exact A _ _ e
  have hh:=wM hg
  refine ⟨_,_,_,ys ++ [.ref t],es ++ [.tup [.str z,.int g,.int du]],rfl,(X.then A).put,aB,IsL.snoc ?_ (IsL.keep kp _ _ (fE fun d m=>aAD (all d m)) iy),?_,by rw [List.length_append,le];rfl,?_⟩
  ·exact ⟨t,_,rfl,by rw [aT ntl,aB],_,_,rfl,rfl,_,_,rfl,rfl,_,_,rfl,rfl,rfl⟩
  ·rw [List.map_append,en,List.take_add_one,ez]
   rfl
  ·intro d md
   rcases List.mem_append.mp md with md | md
   ·exact all d md
   ·rw [List.mem_singleton.mp md]
    exact aGR nmz hh.1 hh.2 du01.1 du01.2
 ·rintro σ H' ⟨v4,v5,v6,ys,es,rfl,X,hly,iy,en,le,all⟩
  have SH:aH H H':=fun b o e=>X _ _ (T2 _ _ e) (fun z=>by rw [z,nl] at e;cases e)
  refine ⟨_,rfl,q l ys es H' SH nl hly iy ⟨by omega,by omega,all,?_⟩ fun d m=>?_⟩
  ·rw [en]
   exact NM.nd.sublist (List.take_sublist _ _)
  ·have h:aL d ∈ es.map aL:=List.mem_map.mpr ⟨d,m,rfl⟩
   rw [en] at h
   exact NX _ (List.mem_of_mem_take h)
open Mt21 Mt46
theorem uS {c:TT} {a b u:TS} {D:Ends} {σ:L2.St} {H:Hp} (R:L2.St → Hp → Prop) (h:∀ σ' H',R σ' H' → u D σ' H') (k:∀ D':Ends,(∀ σ' H',R σ' H' → D'.nx σ' H') → aHL c a b D' σ H):iA (aHL c a b) u D σ H:=k { D with nx:=u D } h
theorem aNW {b:Bool} {A B X:Prop} (hA:A) (hX:A → b = false → X):if b = true then (if true = true then A else B) else X:=by
 cases b with
 | true=>rw [if_pos rfl,if_pos rfl];exact hA
 | false=>rw [if_neg (by intro z;cases z)];exact hX hA rfl
def aJL (K:PySem.W.Frag):Sp:=sp4 fun x y z u H Q=>∃ (ia im:Nat) (lf:Addr) (vf:List V) (fs:List Dv) (nf:Nat),Scr K H x ∧ y = .int ia ∧ ia ≤ 63 ∧ z = .int im ∧ 1 ≤ im ∧ im ≤ 20 ∧ u = .ref lf ∧ H lf = some (.lst vf) ∧ IsL H fs vf ∧ Fds fs nf ∧ nf ≤ 12 ∧
 ∀ (l:Addr) (us:List V) (ds:List Dv) (H':Hp),aH H H' → H l = none → H' l = some (.lst us) → IsL H' ds us → Dks ("sea" :: fs.map aL) ds im → (∀ d ∈ ds,aL d ≠ Mt46.noSuch) → Q (.ref l) H'
theorem zR (T:Txt K mg C):Fc P w K mg base 2 "_law_dykes" ["_law_script","_law_at","_law_most","_law_fields_here"] (aJL K):=by
 have G_l_names:Fc P w K mg base 1 "_law_names" ["_law_cell"] aKE:=sY T
 have G_l_mixed:Fc P w K mg base 1 "_law_mixed" ["_law_script","_law_k"] (aER K):=lH T
 have G_l_height:Fc P w K mg base 1 "_law_height" ["_law_cell"] aET:=jR T
 refine T.d_l_dykes.fc cT aDB (fun f cdv A outer s H vs Q E hr h=>?_)
 obtain ⟨x,y,z,u,rfl,ia,im,lf,vf,fs,nf,⟨a,ns,rfl,hS,hns⟩,rfl,ia63,rfl,im1,im20,rfl,hlf,iff,gf,nf12,q⟩:=h
 have scr:Scr K H (.ref a):=⟨a,ns,rfl,hS,hns⟩
 have big:=cF
 have lvf:=iff.length
 have f1:=gf.l1
 have f2:=gf.l2
 have snd:=aFA gf
 refine ⟨_,(aG (@bA _ _ (4) _ _ _ _ cT.nd rfl (Or.inl rfl) (@bN _ _ _ _ _ _ _ _ _ _ G_l_names (hr.mono (by decide)) (aA (@aM _ _ _ _ _ _ _ _ bE (@bN _ _ _ _ _ _ _ _ _ _ G_l_mixed (hr.mono (by decide)) (aA (pv 0) (@aA _ _ _ _ _ aE aD (by rfl))) (by rfl) (by decide) (by rfl) (by rfl)) (@aM _ _ _ _ _ _ _ _ dL aE aE)) aD) (by rfl) (by decide) (by rfl) (by rfl)) (by rfl) (by trivial)) (aG (@bA _ _ (5) _ _ _ _ cT.nd rfl (Or.inl rfl) (@aM _ _ _ _ _ _ _ _ iN (@bK _ _ _ _ (aA bJ aD)) (@cJ _ _ _ _ _ _ _ _ _ _ _ ["_law_field"] 1 [] rfl (@bV _ (K) _ _ _ rfl (@bW _ _ _ _ (pv 3))) (fun R=>@aX _ _ (0) _ (show List.Nodup (["_law_field"]:List Str) by decide +kernel) rfl (Or.inl rfl) (by trivial)) (@bC _ _ (by decide)) (fun R=>cH) (fun R=>(@aY _ _ _ _ _ _ _ (@aS _ (K) rfl) (pv 0) aE (fun _ _=>rfl))) (by rfl) (by rfl) (by rfl) (by rfl) (by rfl) (by rfl) (by rfl) (by intro _;rfl))) (by rfl) (by trivial)) (aG (@bA _ _ (6) _ _ _ _ cT.nd rfl (Or.inl rfl) (@bK _ _ _ _ aD) (by rfl) (by trivial)) (aG (@gR _ _ _ _ _ _ _ _ PassesOwn.never rfl (@fG _ _ _ _ _ _ rfl T.n_range (aA (@aR _ _ _ _ _ _ _ _ _ (@iV _ rfl) rfl T.n_max iW (aA aE (aA (@aR _ _ _ _ _ _ _ _ _ (@nW _ rfl) rfl T.n_min nX (aA (pv 2) (aA (@aM _ _ _ _ _ _ _ _ jH (@aR _ _ _ _ _ _ _ _ _ (@bL _ (K) rfl) rfl T.n_len cG (aA (pv 0) aD) (by decide) (by decide) (by rfl) (by rfl)) (pv 1)) aD)) (by decide) (by decide) (by rfl) (by rfl)) aD)) (by decide) (by decide) (by rfl) (by rfl)) aD) (by rfl)) (@aX _ _ (7) _ cT.nd rfl (Or.inl rfl) (by trivial)) (aG (@bA _ _ (8) _ _ _ _ cT.nd rfl (Or.inl rfl) (@bN _ _ _ _ _ _ _ _ _ _ G_l_mixed (hr.mono (by decide)) (aA (pv 0) (aA (@aM _ _ _ _ _ _ _ _ dY (pv 1) (pv 7)) aD)) (by rfl) (by decide) (by rfl) (by rfl)) (by rfl) (by trivial)) (aG (@bA _ _ (9) _ _ _ _ cT.nd rfl (Or.inr rfl) (@aY _ _ _ _ _ _ _ (@bY _ (K) rfl) (pv 5) (@aM _ _ _ _ _ _ _ _ bQ (pv 8) (@aR _ _ _ _ _ _ _ _ _ (@bL _ (K) rfl) rfl T.n_len cG (aA (pv 5) aD) (by decide) (by decide) (by rfl) (by rfl))) (fun _ _=>rfl)) (by rfl) (by trivial)) (aG (@lE _ (10) _ _ _ _ _ _ _ _ _ _ _ _ _ cT.nd rfl ["_law_side","_law_one"] 1 [9] rfl (@bV _ (K) _ _ _ rfl (@bW _ _ _ _ (pv 5))) (fun R=>@aX _ _ (0) _ (show List.Nodup (["_law_side","_law_one"]:List Str) by decide +kernel) rfl (Or.inl rfl) (by trivial)) (@bC _ _ (by decide)) (fun R=>@iH _ _ _ (@bZ _ _ _ _ _ _ _ _ uU (pv 0) (pv 1) (@bR _ _ (by decide) (by decide)))) (fun R=>(pv 0)) (by exact Or.inl rfl) (by trivial) (by rfl) (by rfl) (by rfl) (by rfl) (by rfl) (by rfl) (by rfl) (by rfl) (by intro _;rfl)) (aG (@bA _ _ (11) _ _ _ _ cT.nd rfl (Or.inl rfl) (@aY _ _ _ _ _ _ _ (@bY _ (K) rfl) (pv 10) (@aM _ _ _ _ _ _ _ _ bQ (@aM _ _ _ _ _ _ _ _ bE (pv 8) aE) (@aR _ _ _ _ _ _ _ _ _ (@bL _ (K) rfl) rfl T.n_len cG (aA (pv 10) aD) (by decide) (by decide) (by rfl) (by rfl))) (fun _ _=>rfl)) (by rfl) (by trivial)) (aG (@bA _ _ (12) _ _ _ _ cT.nd rfl (Or.inl rfl) (@bN _ _ _ _ _ _ _ _ _ _ G_l_height (hr.mono (by decide)) (aA (@aM _ _ _ _ _ _ _ _ bE (pv 8) aE) aD) (by rfl) (by decide) (by rfl) (by rfl)) (by rfl) (by trivial)) (aG (@bA _ _ (13) _ _ _ _ cT.nd rfl (Or.inl rfl) (@aY _ _ _ _ _ _ _ (@bY _ (K) rfl) (@bK _ _ _ _ (aA aE (aA aE (aA (@aM _ _ _ _ _ _ _ _ dY aE (@aM _ _ _ _ _ _ _ _ bQ (@aM _ _ _ _ _ _ _ _ bE (pv 8) (@aM _ _ _ _ _ _ _ _ dL aE aE)) aE)) (aA (@aM _ _ _ _ _ _ _ _ bQ (@aM _ _ _ _ _ _ _ _ bE (pv 8) (@aM _ _ _ _ _ _ _ _ dL aE aE)) (@aM _ _ _ _ _ _ _ _ dY (@aM _ _ _ _ _ _ _ _ dL aE aE) aE)) aD))))) (@aM _ _ _ _ _ _ _ _ bQ (@aM _ _ _ _ _ _ _ _ bE (pv 8) (@aM _ _ _ _ _ _ _ _ dL aE aE)) aE) (fun _ _=>rfl)) (by rfl) (by trivial)) (aG (@bA _ _ (14) _ _ _ _ cT.nd rfl (Or.inl rfl) (@aM _ _ _ _ _ _ _ _ jH (@aM _ _ _ _ _ _ _ _ jH (pv 12) aE) (@aY _ _ _ _ _ _ _ (@bY _ (K) rfl) (@bK _ _ _ _ (aA aE (aA aE (aA aE (aA (@aM _ _ _ _ _ _ _ _ dL aE aE) aD))))) (@aM _ _ _ _ _ _ _ _ bQ (@aM _ _ _ _ _ _ _ _ bE (pv 8) (@aM _ _ _ _ _ _ _ _ dL aE aE)) aE) (fun _ _=>rfl))) (by rfl) (by trivial)) (aG (@cQ _ _ _ _ _ _ _ _ (@PW.pt _ _ _ (@kJ _ _ _ _ _ _ _ (@bZ _ _ _ _ _ _ _ _ jQ (@aM _ _ _ _ _ _ _ _ bQ (@aM _ _ _ _ _ _ _ _ bE (pv 8) (@aM _ _ _ _ _ _ _ _ dL aE aE)) aE) aE (@bR _ _ (by decide) (by decide))) (@jG _ _ _ _ (@bZ _ _ _ _ _ _ _ _ uV (pv 14) (@aM _ _ _ _ _ _ _ _ jH aE (@aM _ _ _ _ _ _ _ _ dL aE aE)) (@bR _ _ (by decide) (by decide)))))) (aJ (@bA _ _ (14) _ _ _ _ cT.nd rfl (Or.inl rfl) jX (by rfl) (by trivial))) bG) (aJ (@fZ _ _ _ _ (@sO _ (K) _ _ _ _ _ rfl (@qV _ _ _ _ _ _ _ _ _ _ _ _ PySem.F.plainAttrs_list PySem.F.slot_list_append PySem.F.type_list_append gZ (pv 6) (aA (@bI _ _ _ _ _ (@aA _ _ _ _ _ (@aY _ _ _ _ _ _ _ (@bY _ (K) rfl) (pv 4) (pv 7) (fun _ _=>rfl)) (@aA _ _ _ _ _ (pv 9) (@aA _ _ _ _ _ (pv 11) (@aA _ _ _ _ _ (pv 12) (@aA _ _ _ _ _ (pv 13) (@aA _ _ _ _ _ (pv 14) aD (by rfl)) (by rfl)) (by rfl)) (by rfl)) (by rfl)) (by rfl))) aD) (by rfl) (by rfl) (by rfl) (by rfl) (by rfl))) (by rfl))))))))))) (by intro _;rfl)) (aJ (@aU _ _ _ _ (pv 6))))))),?_⟩
 refine ⟨_,rfl,_,_,rfl,1,scr,rfl,by decide,fun m0 hm0=>?_⟩
 refine ⟨_,_,rfl,rfl,⟨by decide,by decide,by decide⟩,_,_,rfl,rfl,⟨by decide,by decide⟩,_,rfl,_,rfl,fun zs ln H1 NM NX S1 nln hln=>?_⟩
 refine ⟨aI rfl,fun p1 hp1=>?_⟩
 have A1:=aH.upd (o:=.lst [.str "sea"]) hp1
 have B1:=S1.trans A1
 refine ⟨_,rfl,lf,rfl,⟨_,SqL.of (B1 _ _ hlf)⟩,?_⟩
 refine bM (F:=K) (xs:=vf) (by omega) (fun i ys H'=>upd H1 p1 (.lst [.str "sea"]) = H' ∧ ys = ((fs.take i).map aL).map V.str) ⟨rfl,rfl⟩ ?_ ?_ ?_
 ·rintro i ys H' hi' ⟨rfl,rfl⟩
  exact ⟨SqL.of (B1 _ _ hlf),by rw [List.length_map,List.length_map,List.length_take];omega⟩
 ·rintro i xv ys H' K1 K2 hx ⟨rfl,rfl⟩ k1 k2
  have hil:i < vf.length:=(List.getElem?_eq_some_iff.mp hx).1
  obtain ⟨d,ed⟩:∃ d,fs[i]? = some d:=⟨_,List.getElem?_eq_getElem (by omega)⟩
  obtain ⟨v,ev,iv⟩:=iff.get ed
  rw [hx] at ev
  cases ev
  obtain ⟨z,g,e,rfl,_⟩:=cE (gf.all d (List.mem_of_getElem? ed))
  obtain ⟨t,rfl,o⟩:=kW iv
  refine ⟨_,rfl,t,_,0,.str z,rfl,rfl,SqT.of (B1 _ _ o),aK (j:=0) rfl,k1 _ _ ⟨rfl,?_⟩⟩
  rw [List.take_add_one,ed]
  simp [aL,cR]
 rintro ys H' ⟨rfl,rfl⟩
 rw [List.take_of_length_le (by omega)]
 intro p2 hp2
 have A2:=aH.upd (o:=.lst ((fs.map aL).map V.str)) hp2
 refine ⟨p1,p2,_,_,rfl,rfl,A2 _ _ aB,aB,by simp only [List.length_map,List.length_cons,List.length_nil];omega,fun ls hls=>?_⟩
 have A3:=aH.upd (o:=.lst ([.str "sea"] ++ (fs.map aL).map V.str)) hls
 have B3:=B1.trans (A2.trans A3)
 have C3:=A1.trans (A2.trans A3)
 have hls3:upd (upd (upd H1 p1 (.lst [.str "sea"])) p2 (.lst ((fs.map aL).map V.str))) ls (.lst ([.str "sea"] ++ (fs.map aL).map V.str)) ls = some (.lst ((("sea":Str) :: fs.map aL).map V.str)):=aB
 have hln3:=C3 _ _ hln
 generalize upd (upd (upd H1 p1 (.lst [.str "sea"])) p2 (.lst ((fs.map aL).map V.str))) ls (.lst ([.str "sea"] ++ (fs.map aL).map V.str)) = H3 at B3 hls3 hln3
 generalize hsd:(("sea":Str) :: fs.map aL) = sd at *
 have lsd:2 ≤ sd.length ∧ sd.length ≤ 13:=by rw [← hsd,List.length_cons,List.length_map];omega
 refine ⟨aI rfl,fun l hl=>?_⟩
 have S4:=aH.upd (o:=.lst []) hl
 have T4:=B3.trans S4
 have nl:H l = none:=B3.free hl
 have hl4:upd H3 l (.lst []) l = some (.lst []):=aB
 have hls4:=S4 _ _ hls3
 have hln4:=S4 _ _ hln3
 have nls:ls ≠ l:=fun z=>by rw [z,hl] at hls3;cases hls3
 have nll:ln ≠ l:=fun z=>by rw [z,hl] at hln3;cases hln3
 generalize upd H3 l (.lst []) = H4 at T4 hl4 hls4 hln4
 have lns:(ns.map V.int).length = ns.length:=List.length_map ..
 refine ⟨_,rfl,_,rfl,a,_,rfl,.inl (T4.seq hS),_,rfl,_,_,rfl,rfl,_,_,rfl,_,_,rfl,?_⟩
 obtain ⟨cnt,hcnt,c1,c2⟩:∃ cnt:Nat,(if (if (((ns.map V.int).length:Nat):Int) - (ia:Int) < (im:Int) then (((ns.map V.int).length:Nat):Int) - (ia:Int) else (im:Int)) > 1 then (if (((ns.map V.int).length:Nat):Int) - (ia:Int) < (im:Int) then (((ns.map V.int).length:Nat):Int) - (ia:Int) else (im:Int)) else 1) = (cnt:Int) ∧ 1 ≤ cnt ∧ cnt ≤ im:=by
  generalize (((ns.map V.int).length:Nat):Int) - (ia:Int) = w
  by_cases h1:w < (im:Int)
  ·rw [if_pos h1]
   by_cases h2:w > 1
   ·rw [if_pos h2]
    exact ⟨w.toNat,by omega,by omega,by omega⟩
   ·rw [if_neg h2]
    exact ⟨1,rfl,by omega,by omega⟩
  ·rw [if_neg h1]
   by_cases h2:(im:Int) > 1
   ·rw [if_pos h2]
    exact ⟨im,rfl,by omega,by omega⟩
   ·rw [if_neg h2]
    exact ⟨1,rfl,by omega,by omega⟩
 refine ⟨(cnt:Int),congrArg (fun x=>[V.int x]) hcnt,by omega,by omega,?_⟩
 rw [Int.toNat_natCast]
 have nz:=NM.l1
 refine gG (lo:=0) (n:=cnt) (fun i σ H'=>∃ (w7 w8 w9 w10 w11 w12 w13 w14:Option V) (vs:List V) (es:List Dv),σ = [some (.ref a),some (.int ia),some (.int im),some (.ref lf),some (.ref ln),some (.ref ls),some (.ref l),w7,w8,w9,w10,w11,w12,w13,w14] ∧ cS l H4 H' ∧ H' l = some (.lst vs) ∧ IsL H' es vs ∧ es.map aL = zs.take i ∧ es.length = i ∧ ∀ d ∈ es,dA sd d = true) ⟨_,_,_,_,_,_,_,_,[],[],rfl,(fun b o e _=>e),hl4,rfl,rfl,rfl,fun d m=>by cases m⟩ ?_ ?_
 ·rintro i σ H' hi ⟨w7,w8,w9,w10,w11,w12,w13,w14,ys,es,rfl,X,hly,iy,en,le,all⟩
  refine yN fun D1 hD1=>?_
  have SH:aH H H':=fun b o e=>X _ _ (T4 _ _ e) (fun z=>by rw [z,nl] at e;cases e)
  have ly:=iy.length
  obtain ⟨z,ez⟩:∃ z,zs[i]? = some z:=⟨_,List.getElem?_eq_getElem (by omega)⟩
  have nmz:=NM.nm z (List.mem_of_getElem? ez)
  have zi:(0:Int) + (i:Int) = (i:Int):=Int.zero_add _
  refine ⟨_,rfl,_,rfl,_,rfl,_,_,rfl,rfl,_,_,rfl,_,scr.same SH,rfl,by show 0 ≤ (ia:Int) + (0 + (i:Int));omega,fun mc hmc=>?_⟩
  have hls5:=X _ _ hls4 nls
  have psd:(0:Int) < (((sd.map V.str).length:Nat):Int):=by rw [List.length_map];omega
  have o0:0 ≤ mc % (((sd.map V.str).length:Nat):Int):=Int.emod_nonneg _ (by omega)
  have o1:mc % (((sd.map V.str).length:Nat):Int) < (((sd.map V.str).length:Nat):Int):=Int.emod_lt_of_pos _ psd
  obtain ⟨k1',hk1⟩:=Int.eq_ofNat_of_zero_le o0
  have lk1:k1' < sd.length:=by rw [hk1,List.length_map] at o1;omega
  obtain ⟨one,eone⟩:∃ z,sd[k1']? = some z:=⟨_,List.getElem?_eq_getElem lk1⟩
  refine ⟨_,rfl,_,rfl,_,rfl,ls,_,rfl,.inl (SqL.of hls5),_,_,rfl,rfl,psd,ls,_,_,.str one,rfl,rfl,SqL.of hls5,by rw [hk1];exact aK (by rw [List.getElem?_map,eone];rfl),?_⟩
  refine ⟨_,rfl,ls,rfl,⟨_,SqL.of hls5⟩,?_⟩
  refine bM (F:=K) (xs:=sd.map V.str) (by rw [List.length_map];omega) (fun i ys Hx=>H' = Hx ∧ ys = ((sd.take i).filter fun y=>!decide (y = one)).map V.str ∧ ys.length ≤ i) ⟨rfl,rfl,Nat.le_refl _⟩ ?_ ?_ ?_
  ·rintro i ys Hx hi' ⟨rfl,rfl,hy⟩
   exact ⟨SqL.of hls5,hy⟩
  ·rintro i xv ys Hx K1 K2 hx ⟨rfl,rfl,hy⟩ k1 k2
   obtain ⟨y,ey⟩:∃ y,sd[i]? = some y:=by
    have:=(List.getElem?_eq_some_iff.mp hx).1
    rw [List.length_map] at this
    exact ⟨_,List.getElem?_eq_getElem this⟩
   rw [List.getElem?_map,ey] at hx
   cases hx
   refine ⟨_,rfl,_,rfl,rfl,_,rfl,?_⟩
   show if (!decide (V.str y = V.str one)) = true then _ else _
   rw [pY]
   have et:((sd.take (i + 1)).filter fun y=>!decide (y = one)) = ((sd.take i).filter fun y=>!decide (y = one)) ++ (if (!decide (y = one)) = true then [y] else []):=by
    rw [List.take_add_one,ey,List.filter_append]
    cases hb:(!decide (y = one)) <;> simp_all
   cases hb:(!decide (y = one)) with
   | true =>
    rw [hb] at et
    refine cL ⟨_,rfl,k1 _ _ ⟨rfl,?_,by rw [List.length_append,List.length_singleton];omega⟩⟩
    rw [et,List.map_append]
    rfl
   | false =>
    rw [hb] at et
    refine bS (k2 _ ⟨rfl,?_,by omega⟩)
    rw [et]
    simp
  rintro ys' Hx ⟨rfl,rfl,hy⟩
  rw [List.length_map,List.take_of_length_le (Nat.le_refl _)]
  intro po hpo
  have A5:=aH.upd (o:=.lst ((sd.filter fun y=>!decide (y = one)).map V.str)) hpo
  have hpo5:upd H' po (.lst ((sd.filter fun y=>!decide (y = one)).map V.str)) po = some (.lst ((sd.filter fun y=>!decide (y = one)).map V.str)):=aB
  have lot:=zX one sd snd
  have pot:(0:Int) < ((((sd.filter fun y=>!decide (y = one)).map V.str).length:Nat):Int):=by rw [List.length_map];omega
  generalize hot:(sd.filter fun y=>!decide (y = one)) = ot at *
  generalize upd H' po (.lst (ot.map V.str)) = H5 at A5 hpo5 ⊢
  have q0:0 ≤ mc / 16 % (((ot.map V.str).length:Nat):Int):=Int.emod_nonneg _ (by omega)
  have q1:mc / 16 % (((ot.map V.str).length:Nat):Int) < (((ot.map V.str).length:Nat):Int):=Int.emod_lt_of_pos _ pot
  obtain ⟨k2',hk2⟩:=Int.eq_ofNat_of_zero_le q0
  have lk2:k2' < ot.length:=by rw [hk2,List.length_map] at q1;omega
  obtain ⟨oth,eoth⟩:∃ z,ot[k2']? = some z:=⟨_,List.getElem?_eq_getElem lk2⟩
  have moth:=List.mem_of_getElem? eoth
  rw [← hot] at moth
  obtain ⟨moth1,moth2⟩:=List.mem_filter.mp moth
  have noth:one ≠ oth:=fun e=>by rw [e] at moth2;simp at moth2
  refine ⟨_,rfl,_,rfl,_,_,rfl,rfl,⟨by decide,by decide⟩,_,rfl,po,_,rfl,.inl (SqL.of hpo5),_,_,rfl,rfl,pot,po,_,_,.str oth,rfl,rfl,SqL.of hpo5,by rw [hk2];exact aK (by rw [List.getElem?_map,eoth];rfl),?_⟩
  refine ⟨_,rfl,_,_,rfl,rfl,⟨by decide,by decide⟩,_,rfl,_,rfl,fun cr hcr=>?_⟩
  have hcr':=wM hcr
  have p6':(10:Int) ^ (6:Int).toNat = 1000000:=by decide
  have pm6:(0:Int) < 10 ^ (6:Int).toNat + 1:=by decide
  refine ⟨_,rfl,_,_,rfl,rfl,⟨by decide,by decide,by decide⟩,_,_,rfl,rfl,⟨by decide,by decide⟩,_,_,rfl,rfl,(iM rfl),_,_,rfl,rfl,_,rfl,_,_,rfl,rfl,⟨by decide,by decide,by decide⟩,_,_,rfl,rfl,⟨by decide,by decide⟩,_,_,rfl,rfl,⟨by decide,by decide,by decide⟩,_,_,rfl,rfl,_,_,rfl,rfl,pm6,aI rfl,fun p6 hp6=>?_⟩
  have A6:=aH.upd (o:=.lst [.int 0,.int 1,.int (1 + mc / 10 ^ (9:Int).toNat % 4),.int (mc / 10 ^ (9:Int).toNat % (10 ^ (6:Int).toNat + 1))]) hp6
  obtain ⟨rt,ert,hrt⟩:=at4 (a:=0) (b:=1) (c:=1 + mc / 10 ^ (9:Int).toNat % 4) (d:=mc / 10 ^ (9:Int).toNat % (10 ^ (6:Int).toNat + 1)) (i:=mc / 10 ^ (8:Int).toNat % 4) (Int.emod_nonneg _ (by decide)) (Int.emod_lt_of_pos _ (by decide))
  have rt01:0 ≤ rt ∧ rt ≤ 1000000:=by
   have b0:=Int.emod_nonneg (mc / 10 ^ (9:Int).toNat) (show (4:Int) ≠ 0 by decide)
   have b1:=Int.emod_lt_of_pos (mc / 10 ^ (9:Int).toNat) (show (0:Int) < 4 by decide)
   rw [p6'] at hrt
   have c0:=Int.emod_nonneg (mc / 10 ^ (9:Int).toNat) (show (1000000 + 1:Int) ≠ 0 by decide)
   have c1:=Int.emod_lt_of_pos (mc / 10 ^ (9:Int).toNat) (show (0:Int) < 1000000 + 1 by decide)
   rcases hrt with rfl | rfl | rfl | rfl <;> omega
  refine ⟨_,rfl,_,_,rfl,rfl,⟨by decide,by decide,by decide⟩,_,_,rfl,rfl,⟨by decide,by decide⟩,_,_,rfl,rfl,(iM rfl),p6,_,_,.int rt,rfl,rfl,SqL.of aB,ert,?_⟩
  generalize upd H5 p6 (.lst [.int 0,.int 1,.int (1 + mc / 10 ^ (9:Int).toNat % 4),.int (mc / 10 ^ (9:Int).toNat % (10 ^ (6:Int).toNat + 1))]) = H6 at A6 ⊢
  refine ⟨_,rfl,_,_,rfl,rfl,_,_,rfl,rfl,⟨by decide,by decide,by decide⟩,aI rfl,fun p7 hp7=>?_⟩
  have A7:=aH.upd (o:=.lst [.int 0,.int 1,.int 2,.int (10 ^ (5:Int).toNat)]) hp7
  obtain ⟨sx,esx,hsx⟩:=at4 (a:=0) (b:=1) (c:=2) (d:=10 ^ (5:Int).toNat) (i:=mc / 10 ^ (15:Int).toNat % 4) (Int.emod_nonneg _ (by decide)) (Int.emod_lt_of_pos _ (by decide))
  have sx0:0 ≤ sx:=by rcases hsx with rfl | rfl | rfl | rfl <;> decide
  refine ⟨_,rfl,_,_,rfl,rfl,⟨by decide,by decide,by decide⟩,_,_,rfl,rfl,⟨by decide,by decide⟩,_,_,rfl,rfl,(iM rfl),p7,_,_,.int sx,rfl,rfl,SqL.of aB,esx,_,_,rfl,rfl,?_⟩
  generalize upd H6 p7 (.lst [.int 0,.int 1,.int 2,.int (10 ^ (5:Int).toNat)]) = H7 at A7 ⊢
  have A57:=A5.trans (A6.trans A7)
  unfold oH
  dsimp only
  refine uS (fun σ' Hz=>Hz = H7 ∧ ∃ (sv:V) (sl:Dv),σ' = [some (.ref a),some (.int ia),some (.int im),some (.ref lf),some (.ref ln),some (.ref ls),some (.ref l),some (.int (0 + (i:Int))),some (.int mc),some (.str one),some (.ref po),some (.str oth),some (.int cr),some (.int rt),some sv] ∧ (∀ G:Hp,Is G sl sv) ∧ mU (.int cr) sl = true ∧ oS sl = true) (fun σ' Hz hR=>?_) (fun D' hD=>?_)
  rotate_left
  ·refine ⟨_,rfl,_,_,rfl,rfl,⟨by decide,by decide,by decide⟩,_,_,rfl,rfl,⟨by decide,by decide⟩,_,_,rfl,rfl,(iM rfl),rfl,_,rfl,?_⟩
   rw [iS]
   dsimp only
   refine aNW ?_ (fun none' c1'=>?_)
   ·exact hD _ _ ⟨rfl,.non,.non,rfl,(fun _=>rfl),rfl,rfl⟩
   refine ⟨_,rfl,_,_,rfl,rfl,⟨by decide,by decide,by decide⟩,_,_,rfl,rfl,_,_,rfl,rfl,_,rfl,?_⟩
   refine kP (fun _=>none') (fun h2=>?_)
   have h2':¬ (cr - 1 - sx < 0 - 10 ^ (6:Int).toNat):=fun h=>h2 (decide_eq_true h)
   rw [p6'] at h2'
   refine hD _ _ ⟨rfl,.int (cr - 1 - sx),.int (cr - 1 - sx),rfl,(fun _=>rfl),?_,rfl⟩
   show (hgt _ && decide _) = true
   rw [wN (by omega) (by omega),decide_eq_true (by omega)]
   rfl
  obtain ⟨rfl,sv,sl,rfl,isv,okS,hrdS⟩:=hR
  have hly7:=A57 _ _ hly
  refine ⟨_,rfl,.inl ⟨rfl,_,SqL.of hly7⟩,?_⟩
  refine ⟨_,rfl,_,rfl,ln,_,_,.str z,rfl,rfl,SqL.of (A57 _ _ (X _ _ hln4 nll)),(by rw [zi];exact aK (by rw [List.getElem?_map,ez];rfl)),_,rfl,_,rfl,_,rfl,_,rfl,_,rfl,aI rfl,fun t ht=>?_⟩
  have A8:=aH.upd (o:=.tup [.str z,.str one,.str oth,.int cr,.int rt,sv]) ht
  have A58:=A57.trans A8
  refine ⟨l,_,_,rfl,rfl,A58 _ _ hly,by omega,?_⟩
  have ntl:t ≠ l:=fun e=>by rw [e,hly7] at ht;cases ht
  have kp:nG H' (upd (upd Hz t (.tup [.str z,.str one,.str oth,.int cr,.int rt,sv])) l (.lst (ys ++ [.ref t]))):=fun b xs e=>by
   rw [aT (fun z=>by rw [z,hly] at e;cases e)]
   exact A58 _ _ e
  refine hD1 _ _ ⟨_,_,_,_,_,_,_,_,ys ++ [.ref t],es ++ [.tup [.str z,.str one,.str oth,.int cr,.int rt,sl]],rfl,(X.then A58).put,aB,IsL.snoc ?_ (IsL.keep kp _ _ (fE fun d m=>aDO (all d m)) iy),?_,by rw [List.length_append,le];rfl,?_⟩
  ·exact ⟨t,_,rfl,by rw [aT ntl,aB],_,_,rfl,rfl,_,_,rfl,rfl,_,_,rfl,rfl,_,_,rfl,rfl,_,_,rfl,rfl,_,_,rfl,isv _,rfl⟩
  ·rw [List.map_append,en,List.take_add_one,ez]
   rfl
  ·intro d md
   rcases List.mem_append.mp md with md | md
   ·exact all d md
   ·rw [List.mem_singleton.mp md]
    exact aIP nmz (List.mem_of_getElem? eone) moth1 noth hcr (aLD rt01.1 rt01.2) okS
 ·rintro σ H' ⟨w7,w8,w9,w10,w11,w12,w13,w14,ys,es,rfl,X,hly,iy,en,le,all⟩
  have SH:aH H H':=fun b o e=>X _ _ (T4 _ _ e) (fun z=>by rw [z,nl] at e;cases e)
  refine ⟨_,rfl,q l ys es H' SH nl hly iy ⟨by omega,by omega,all,?_⟩ fun d m=>?_⟩
  ·rw [en]
   exact NM.nd.sublist (List.take_sublist _ _)
  ·have h:aL d ∈ es.map aL:=List.mem_map.mpr ⟨d,m,rfl⟩
   rw [en] at h
   exact NX _ (List.mem_of_mem_take h)
open Mt21 Mt46
theorem wY {zs:List Str} {a:Str} {h:Int} (ha:bD ["above","below"] (.str a) = true) (sa:a.length ≤ 1000) (h0:-1000000 ≤ h) (h1:h ≤ 1000000):GoodC zs (.tup [.str a,.int h]):=by
 refine ⟨?_,?_,rfl⟩
 ·show (if bD ["above","below"] (.str a) then bT (.int h) else _) = true
  rw [ha]
  exact wN h0 h1
 ·show (decide (2 ≤ 1000) && (decide (a.length ≤ 1000) && (true && true))) = true
  rw [decide_eq_true sa]
  rfl
theorem aJW {zs:List Str} {a z:Str} (hn:bD ["above","below"] (.str a) = false) (ha:bD ["wet","dry"] (.str a) = true) (sa:a.length ≤ 1000) (mz:z ∈ zs) (sz:z.length ≤ 1000):GoodC zs (.tup [.str a,.str z]):=by
 refine ⟨?_,?_,rfl⟩
 ·show (if bD ["above","below"] (.str a) then bT (.str z) else bD ["wet","dry"] (.str a) && bD zs (.str z)) = true
  rw [hn,ha]
  exact decide_eq_true mz
 ·show (decide (2 ≤ 1000) && (decide (a.length ≤ 1000) && (decide (z.length ≤ 1000) && true))) = true
  rw [decide_eq_true sa,decide_eq_true sz]
  rfl
theorem aNA {zs:List Str} {n m:Int} (h0:0 ≤ n) (h1:n < m) (h2:m ≤ 100):GoodC zs (.tup [.str "day",.int n,.int m]):=by
 refine ⟨?_,rfl,rfl⟩
 show (bD ["day"] (.str "day") && ((decide (1 ≤ m) && decide (m ≤ 100)) && (decide (0 ≤ n) && decide (n < m)))) = true
 rw [decide_eq_true h0,decide_eq_true h1,decide_eq_true h2,decide_eq_true (by omega:1 ≤ m)]
 rfl
def del (X:Addr) (H:Hp):Hp:=fun b=>if b = X then none else H b
theorem aGW (X:Addr) (H:Hp):aH (del X H) H:=fun b o e=>by
 unfold del at e
 by_cases h:b = X
 ·rw [if_pos h] at e;cases e
 ·rw [if_neg h] at e;exact e
theorem aGX {X:Addr} {H:Hp} {b:Addr} {o:HO} (n:b ≠ X) (e:H b = some o):del X H b = some o:=by
 unfold del
 rw [if_neg n]
 exact e
theorem aMX {X:Addr} {H H':Hp} (S:aH H H'):aH (del X H) (del X H'):=fun b o e=>by
 unfold del at e ⊢
 by_cases h:b = X
 ·rw [if_pos h] at e;cases e
 ·rw [if_neg h] at e ⊢;exact S _ _ e
theorem aMK {X:Addr} {H Hz:Hp} {b:Addr} {o:HO} (hX:∃ o,H X = some o) (n:H b = none) (e:Hz b = some o):del X Hz b = some o:=by
 obtain ⟨o',h⟩:=hX
 exact aGX (fun z=>by rw [z,h] at n;cases n) e
theorem aMY {X:Addr} {H:Hp} {o:HO}:aH (del X H) (del X (upd H X o)):=fun b o' e=>by
 unfold del at e ⊢
 by_cases h:b = X
 ·rw [if_pos h] at e;cases e
 ·rw [if_neg h] at e ⊢;rw [aT h];exact e
theorem aGB {H:Hp} {ds:List Dv} {vs:List V} (h:IsL H ds vs) {i:Int} (h0:0 ≤ i) (h1:i < ds.length):∃ d v,d ∈ ds ∧ atI vs i = some v ∧ Is H d v:=by
 obtain ⟨k,rfl⟩:=Int.eq_ofNat_of_zero_le h0
 have hk:k < ds.length:=by omega
 obtain ⟨v,ev,iv⟩:=h.get (List.getElem?_eq_getElem hk)
 exact ⟨_,v,List.getElem_mem hk,aK ev,iv⟩
def aJO:Sp:=sp2 fun x y H Q=>∃ (n:Int) (lf:Addr) (vf:List V) (fs:List Dv),x = .int n ∧ y = .ref lf ∧ H lf = some (.lst vf) ∧ IsL H fs vf ∧ GoodF fs ∧ ∀ (v:V) (d:Dv) (H':Hp),aH H H' → Is H' d v → GoodC (fs.map aL) d → oS d = true → Q v H'
theorem sZ (T:Txt K mg C):Fc P w K mg base 2 "_law_condition" ["_law_cell","_law_fields_here"] aJO:=by
 have G_l_height:Fc P w K mg base 1 "_law_height" ["_law_cell"] aET:=jR T
 refine T.d_l_condition.fc dG jM (fun f cdv A outer s H vs Q E hr h=>?_)
 obtain ⟨x,y,rfl,n,lf,vf,fs,rfl,rfl,hlf,iff,gf,q⟩:=h
 have big:=cF
 have lvf:=iff.length
 have f1:=gf.l1
 refine ⟨_,(aG (@bA _ _ (2) _ _ _ _ dG.nd rfl (Or.inl rfl) (@bN _ _ _ _ _ _ _ _ _ _ G_l_height (hr.mono (by decide)) (aA (@aM _ _ _ _ _ _ _ _ bE (pv 0) aE) aD) (by rfl) (by decide) (by rfl) (by rfl)) (by rfl) (by trivial)) (aG (@bA _ _ (3) _ _ _ _ dG.nd rfl (Or.inl rfl) (@aY _ _ _ _ _ _ _ (@aS _ (K) rfl) (@aY _ _ _ _ _ _ _ (@bY _ (K) rfl) (pv 1) (@aM _ _ _ _ _ _ _ _ bQ (@aM _ _ _ _ _ _ _ _ bE (pv 0) aE) (@aR _ _ _ _ _ _ _ _ _ (@bL _ (K) rfl) rfl T.n_len cG (aA (pv 1) aD) (by decide) (by decide) (by rfl) (by rfl))) (fun _ _=>rfl)) aE (fun _ _=>rfl)) (by rfl) (by trivial)) (aG (@bA _ _ (4) _ _ _ _ dG.nd rfl (Or.inl rfl) (@aM _ _ _ _ _ _ _ _ dY aE (@aM _ _ _ _ _ _ _ _ bQ (@aM _ _ _ _ _ _ _ _ bE (pv 0) aE) aE)) (by rfl) (by trivial)) (aG (@cQ _ _ _ _ _ _ _ _ (@bZ _ _ _ _ _ _ _ _ jQ (@aM _ _ _ _ _ _ _ _ bQ (@aM _ _ _ _ _ _ _ _ bE (pv 0) aE) aE) aE (@bR _ _ (by decide) (by decide))) (aJ (@bA _ _ (4) _ _ _ _ dG.nd rfl (Or.inl rfl) (@aM _ _ _ _ _ _ _ _ dY aE (@aM _ _ _ _ _ _ _ _ bQ (@aM _ _ _ _ _ _ _ _ bE (pv 0) aE) aE)) (by rfl) (by trivial))) bG) (aG (@bA _ _ (5) _ _ _ _ dG.nd rfl (Or.inl rfl) (@bK _ _ _ _ (aA (@bI _ _ _ _ _ (aA bJ aD)) (aA (@bI _ _ _ _ _ (aA bJ (aA (pv 2) aD))) (aA (@bI _ _ _ _ _ (aA bJ (aA (pv 2) aD))) (aA (@bI _ _ _ _ _ (aA bJ (aA (pv 3) aD))) (aA (@bI _ _ _ _ _ (aA bJ (aA (pv 3) aD))) aD)))))) (by rfl) (by trivial)) (aG (@bA _ _ (5) _ _ _ _ dG.nd rfl (Or.inl rfl) (@aM _ _ _ _ _ _ _ _ iN (pv 5) (@bK _ _ _ _ (aA (@bI _ _ _ _ _ (aA bJ (aA (@aM _ _ _ _ _ _ _ _ bQ (@aM _ _ _ _ _ _ _ _ bE (pv 0) (@aM _ _ _ _ _ _ _ _ dL aE aE)) (pv 4)) (aA (pv 4) aD)))) (aA (@bI _ _ _ _ _ (aA bJ (aA (@aR _ _ _ _ _ _ _ _ _ (@iV _ rfl) rfl T.n_max iW (aA (@aM _ _ _ _ _ _ _ _ jH (pv 2) aE) (aA (@aM _ _ _ _ _ _ _ _ jH aE (@aM _ _ _ _ _ _ _ _ dL aE aE)) aD)) (by decide) (by decide) (by rfl) (by rfl)) aD))) aD)))) (by rfl) (by trivial)) (aJ (@aU _ _ _ _ (@aY _ _ _ _ _ _ _ (@bY _ (K) rfl) (pv 5) (@aM _ _ _ _ _ _ _ _ bQ (pv 0) aE) (fun _ _=>rfl)))))))))),?_⟩
 refine ⟨_,rfl,_,_,rfl,rfl,⟨by decide,by decide⟩,_,rfl,_,rfl,fun hh hhh=>?_⟩
 have hb:=wM hhh
 have pl:(0:Int) < ((vf.length:Nat):Int):=by omega
 obtain ⟨k,hk'⟩:=Int.eq_ofNat_of_zero_le (show 0 ≤ n / 7 % ((vf.length:Nat):Int) from Int.emod_nonneg _ (by omega))
 have hkl:k < vf.length:=by have:=Int.emod_lt_of_pos (n / 7) pl;omega
 obtain ⟨d,ed⟩:∃ d,fs[k]? = some d:=⟨_,List.getElem?_eq_getElem (by omega)⟩
 obtain ⟨v,ev,iv⟩:=iff.get ed
 obtain ⟨z,g,e,rfl,hz,_⟩:=cE (gf.all d (List.mem_of_getElem? ed))
 obtain ⟨t,rfl,o⟩:=kW iv
 have mz:z ∈ fs.map aL:=List.mem_map.mpr ⟨_,List.mem_of_getElem? ed,rfl⟩
 have sz:z.length ≤ 1000:=by
  have:(decide (1 ≤ z.length) && decide (z.length ≤ 8) && !decide (z = "sea") && z.cps.toList.all hE) = true:=hz
  simp only [Bool.and_eq_true,decide_eq_true_eq] at this
  omega
 refine ⟨_,rfl,_,rfl,_,_,rfl,rfl,⟨by decide,by decide⟩,_,rfl,lf,_,rfl,.inl (SqL.of hlf),_,_,rfl,rfl,pl,lf,_,_,.ref t,rfl,rfl,SqL.of hlf,by rw [hk'];exact aK ev,t,_,0,.str z,rfl,rfl,SqT.of o,aK (j:=0) rfl,?_⟩
 refine ⟨_,rfl,_,_,rfl,rfl,⟨by decide,by decide⟩,_,_,rfl,rfl,(iM rfl),_,_,rfl,rfl,?_⟩
 have t0:=Int.emod_nonneg (n / 7) (show (4:Int) ≠ 0 by decide)
 have t1:=Int.emod_lt_of_pos (n / 7) (show (0:Int) < 4 by decide)
 have u0:=Int.emod_nonneg (n / 7) (show (100:Int) ≠ 0 by decide)
 have u1:=Int.emod_lt_of_pos (n / 7) (show (0:Int) < 100 by decide)
 unfold oH
 dsimp only
 refine uS (fun σ' Hz=>Hz = H ∧ ∃ tn:Int,1 ≤ tn ∧ tn ≤ 100 ∧ σ' = [some (.int n),some (.ref lf),some (.int hh),some (.str z),some (.int tn),none]) (fun σ' Hz hR=>?_) (fun D' hD=>?_)
 rotate_left
 ·refine ⟨_,rfl,_,_,rfl,rfl,⟨by decide,by decide⟩,_,_,rfl,rfl,(iM rfl),rfl,_,rfl,?_⟩
  rw [iS]
  refine kP (fun h1=>?_) (fun h1=>?_)
  ·exact ⟨_,rfl,_,_,rfl,rfl,⟨by decide,by decide⟩,_,_,rfl,rfl,(iM rfl),_,_,rfl,rfl,hD _ _ ⟨rfl,1 + n / 7 % 100,by omega,by omega,rfl⟩⟩
  ·exact hD _ _ ⟨rfl,1 + n / 7 % 4,by omega,by omega,rfl⟩
 obtain ⟨rfl,tn,tn1,tn100,rfl⟩:=hR
 refine ⟨aI rfl,fun p1 hp1=>?_⟩
 have A1:=aH.upd (o:=.tup [.str "always"]) hp1
 refine ⟨_,rfl,aI rfl,fun p2 hp2=>?_⟩
 have A2:=aH.upd (o:=.tup [.str "above",.int hh]) hp2
 refine ⟨_,rfl,aI rfl,fun p3 hp3=>?_⟩
 have A3:=aH.upd (o:=.tup [.str "below",.int hh]) hp3
 refine ⟨_,rfl,aI rfl,fun p4 hp4=>?_⟩
 have A4:=aH.upd (o:=.tup [.str "wet",.str z]) hp4
 refine ⟨_,rfl,aI rfl,fun p5 hp5=>?_⟩
 have A5:=aH.upd (o:=.tup [.str "dry",.str z]) hp5
 refine ⟨aI rfl,fun p6 hp6=>?_⟩
 have A6:=aH.upd (o:=.lst [.ref p1,.ref p2,.ref p3,.ref p4,.ref p5]) hp6
 have B6:=A1.trans (A2.trans (A3.trans (A4.trans (A5.trans A6))))
 have d1:=(A2.trans (A3.trans (A4.trans (A5.trans A6)))) _ _ aB
 have d2:=(A3.trans (A4.trans (A5.trans A6))) _ _ aB
 have d3:=(A4.trans (A5.trans A6)) _ _ aB
 have d4:=(A5.trans A6) _ _ aB
 have d5:=A6 _ _ aB
 have d6:_ = some (HO.lst [.ref p1,.ref p2,.ref p3,.ref p4,.ref p5]):=aB (H:=upd (upd (upd (upd (upd Hz p1 (.tup [.str "always"])) p2 (.tup [.str "above",.int hh])) p3 (.tup [.str "below",.int hh])) p4 (.tup [.str "wet",.str z])) p5 (.tup [.str "dry",.str z])) (a:=p6)
 generalize upd (upd (upd (upd (upd (upd Hz p1 (.tup [.str "always"])) p2 (.tup [.str "above",.int hh])) p3 (.tup [.str "below",.int hh])) p4 (.tup [.str "wet",.str z])) p5 (.tup [.str "dry",.str z])) p6 (.lst [.ref p1,.ref p2,.ref p3,.ref p4,.ref p5]) = H6 at B6 d1 d2 d3 d4 d5 d6 ⊢
 have ptn:(0:Int) < tn:=by omega
 refine ⟨_,rfl,_,rfl,_,_,rfl,rfl,⟨by decide,by decide,by decide⟩,_,_,rfl,rfl,⟨by decide,by decide⟩,_,rfl,_,_,rfl,rfl,ptn,_,rfl,aI rfl,fun p7 hp7=>?_⟩
 have A7:=aH.upd (o:=.tup [.str "day",.int (n / 10 ^ (5:Int).toNat % tn),.int tn]) hp7
 refine ⟨_,rfl,_,_,rfl,rfl,_,_,rfl,rfl,⟨by decide,by decide,by decide⟩,_,_,rfl,rfl,_,_,rfl,aI rfl,fun p8 hp8=>?_⟩
 have p6':(10:Int) ^ (6:Int).toNat = 1000000:=by decide
 obtain ⟨mx,emx,mx0,mx1⟩:∃ mx:Int,(if (0:Int) - 10 ^ (6:Int).toNat > hh - 1 then (0:Int) - 10 ^ (6:Int).toNat else hh - 1) = mx ∧ -1000000 ≤ mx ∧ mx ≤ 1000000:=by
  rw [p6']
  refine ⟨_,rfl,?_,?_⟩ <;> split <;> omega
 have A8:=aH.upd (o:=.tup [.str "above",.int (if (0:Int) - 10 ^ (6:Int).toNat > hh - 1 then (0:Int) - 10 ^ (6:Int).toNat else hh - 1)]) hp8
 refine ⟨aI rfl,fun p9 hp9=>?_⟩
 have A9:=aH.upd (o:=.lst [.ref p7,.ref p8]) hp9
 refine ⟨p6,p9,_,_,rfl,rfl,(A7.trans (A8.trans A9)) _ _ d6,aB,aI rfl,fun p10 hp10=>?_⟩
 have A10:=aH.upd (o:=.lst ([.ref p1,.ref p2,.ref p3,.ref p4,.ref p5] ++ [.ref p7,.ref p8])) hp10
 have A710:=A7.trans (A8.trans (A9.trans A10))
 have il:IsL (upd (upd (upd (upd H6 p7 (.tup [.str "day",.int (n / 10 ^ (5:Int).toNat % tn),.int tn])) p8 (.tup [.str "above",.int (if (0:Int) - 10 ^ (6:Int).toNat > hh - 1 then (0:Int) - 10 ^ (6:Int).toNat else hh - 1)])) p9 (.lst [.ref p7,.ref p8])) p10 (.lst ([.ref p1,.ref p2,.ref p3,.ref p4,.ref p5] ++ [.ref p7,.ref p8])))
   [.tup [.str "always"],.tup [.str "above",.int hh],.tup [.str "below",.int hh],.tup [.str "wet",.str z],.tup [.str "dry",.str z],.tup [.str "day",.int (n / 10 ^ (5:Int).toNat % tn),.int tn],.tup [.str "above",.int mx]] [.ref p1,.ref p2,.ref p3,.ref p4,.ref p5,.ref p7,.ref p8] :=
  ⟨_,_,rfl,⟨p1,_,rfl,A710 _ _ d1,_,_,rfl,rfl,rfl⟩,_,_,rfl,⟨p2,_,rfl,A710 _ _ d2,_,_,rfl,rfl,_,_,rfl,rfl,rfl⟩,_,_,rfl,⟨p3,_,rfl,A710 _ _ d3,_,_,rfl,rfl,_,_,rfl,rfl,rfl⟩,_,_,rfl,⟨p4,_,rfl,A710 _ _ d4,_,_,rfl,rfl,_,_,rfl,rfl,rfl⟩,_,_,rfl,⟨p5,_,rfl,A710 _ _ d5,_,_,rfl,rfl,_,_,rfl,rfl,rfl⟩,
   _,_,rfl,⟨p7,_,rfl,(A8.trans (A9.trans A10)) _ _ aB,_,_,rfl,rfl,_,_,rfl,rfl,_,_,rfl,rfl,rfl⟩,_,_,rfl,⟨p8,_,rfl,(A9.trans A10) _ _ aB,_,_,rfl,rfl,_,_,rfl,congrArg V.int emx,rfl⟩,rfl⟩
 obtain ⟨d',v',md',ev',iv'⟩:=aGB il (i:=n % 7) (Int.emod_nonneg _ (by decide)) (Int.emod_lt_of_pos _ (by decide))
 refine ⟨_,rfl,_,rfl,_,_,rfl,rfl,(iM rfl),p10,_,_,v',rfl,rfl,SqL.of aB,ev',?_⟩
 have ok:GoodC (fs.map aL) d' ∧ oS d' = true:=by
  simp only [List.mem_cons,List.not_mem_nil,or_false] at md'
  rcases md' with rfl | rfl | rfl | rfl | rfl | rfl | rfl
  ·exact ⟨⟨rfl,rfl,rfl⟩,rfl⟩
  ·exact ⟨wY (by decide +kernel) (by decide +kernel) hb.1 hb.2,rfl⟩
  ·exact ⟨wY (by decide +kernel) (by decide +kernel) hb.1 hb.2,rfl⟩
  ·exact ⟨aJW (by decide +kernel) (by decide +kernel) (by decide +kernel) mz sz,rfl⟩
  ·exact ⟨aJW (by decide +kernel) (by decide +kernel) (by decide +kernel) mz sz,rfl⟩
  ·exact ⟨aNA (Int.emod_nonneg _ (by omega)) (Int.emod_lt_of_pos _ ptn) tn100,rfl⟩
  ·exact ⟨wY (by decide +kernel) (by decide +kernel) mx0 mx1,rfl⟩
 exact q v' d' _ (B6.trans A710) iv' ok.1 ok.2
open Mt21 Mt46
def sp5 (f:V → V → V → V → V → Hp → VK → Prop):Sp:=fun vs H Q _=>∃ x y z u v,vs = [x,y,z,u,v] ∧ f x y z u v H Q
theorem aNU {f:V → V → V → V → V → Hp → VK → Prop}:∀ vs H Q E,sp5 f vs H Q E → vs.length = 5:=fun vs H Q E ⟨x,y,z,u,v,e,_⟩=>by rw [e];rfl
theorem aBZ {gs zs:List Str}:∀ {es:List Dv},(∀ d ∈ es,GoodX gs zs d) → ∃ xs:List Dk,es = xs.map dkD ∧ (∀ x ∈ xs,GoodX gs zs (dkD x)) ∧ (∀ x ∈ xs,aCC x.2.2 ∧ x.2.2.length ≤ 6 ∧ x.2.1 ∈ gs)
 | [],_=>⟨[],rfl,(fun x m=>by cases m),fun x m=>by cases m⟩
 | e :: es,h=>by
  obtain ⟨xs,rfl,h1,h2⟩:=aBZ fun d m=>h d (List.mem_cons_of_mem _ m)
  have g:=h e List.mem_cons_self
  obtain ⟨a,g',cs,rfl,ha,mg',l1,l6,hc,_⟩:=g.sh
  obtain ⟨ks,rfl,oks⟩:=yW fun c m=>(hc c m).ok
  refine ⟨(a,g',ks) :: xs,rfl,fun x m=>?_,fun x m=>?_⟩
  ·rcases List.mem_cons.mp m with rfl | m
   ·exact g
   ·exact h1 x m
  ·rcases List.mem_cons.mp m with rfl | m
   ·exact ⟨oks,by rw [List.length_map] at l6;exact l6,mg'⟩
   ·exact h2 x m
theorem aAR (H:Hp):∀ zs:List Str,IsL H (zs.map Dv.str) (zs.map V.str)
 | []=>rfl
 | z :: zs=>⟨_,_,rfl,rfl,aAR H zs⟩
def aJN (K:PySem.W.Frag):Sp:=sp5 fun x y z u v H Q=>∃ (ia im:Nat) (lf ld:Addr) (vf vd:List V) (fs ds:List Dv),Scr K H x ∧ y = .int ia ∧ ia ≤ 63 ∧ z = .int im ∧ im ≤ 60 ∧ u = .ref lf ∧ H lf = some (.lst vf) ∧ IsL H fs vf ∧ GoodF fs ∧ v = .ref ld ∧ H ld = some (.lst vd) ∧ IsL H ds vd ∧ GoodD ("sea" :: fs.map aL) ds ∧
 ∀ (l:Addr) (xs:List Dk) (H':Hp),aH H H' → H l = none → Decs H' l ((ds.filter aO).map aL) (fs.map aL) xs → xs.length ≤ im → Q (.ref l) H'
theorem wE (T:Txt K mg C):Fc P w K mg base 3 "_law_decrees" ["_law_script","_law_at","_law_most","_law_fields_here","_law_dykes_here"] (aJN K):=by
 have G_l_mixed:Fc P w K mg base 1 "_law_mixed" ["_law_script","_law_k"] (aER K):=lH T
 have G_l_condition:Fc P w K mg base 2 "_law_condition" ["_law_cell","_law_fields_here"] aJO:=sZ T
 refine T.d_l_decrees.fc dR aNU (fun f cdv A outer s H vs Q E hr h=>?_)
 obtain ⟨x,y,z,u,v,rfl,ia,im,lf,ld,vf,vd,fs,ds,⟨a,ns,rfl,hS,hns⟩,rfl,ia63,rfl,im60,rfl,hlf,iff,gf,rfl,hld,idd,gd,q⟩:=h
 have scr:Scr K H (.ref a):=⟨a,ns,rfl,hS,hns⟩
 have big:=cF
 have lvd:=idd.length
 have d2:=gd.l2
 refine ⟨_,(aG (@lE _ (5) _ _ _ _ _ _ _ _ _ _ _ _ _ dR.nd rfl ["_law_dyke"] 1 [] rfl (@bV _ (K) _ _ _ rfl (@bW _ _ _ _ (pv 4))) (fun R=>@aX _ _ (0) _ (show List.Nodup (["_law_dyke"]:List Str) by decide +kernel) rfl (Or.inl rfl) (by trivial)) (@bC _ _ (by decide)) (fun R=>@iH _ _ _ (@bZ _ _ _ _ _ _ _ _ rN (@aY _ _ _ _ _ _ _ (@aS _ (K) rfl) (pv 0) aE (fun _ _=>rfl)) jX (@bR _ _ (by decide) (by decide)))) (fun R=>(@aY _ _ _ _ _ _ _ (@aS _ (K) rfl) (pv 0) aE (fun _ _=>rfl))) (by exact Or.inl rfl) (by trivial) (by rfl) (by rfl) (by rfl) (by rfl) (by rfl) (by rfl) (by rfl) (by rfl) (by intro _;rfl)) (aG (@bA _ _ (6) _ _ _ _ dR.nd rfl (Or.inl rfl) (@bK _ _ _ _ aD) (by rfl) (by trivial)) (aG (@cQ _ _ _ _ _ _ _ _ (@bZ _ _ _ _ _ _ _ _ (@zP _ hr.units) (pv 5) (@bK _ _ _ _ aD) (@bR _ _ (by decide) (by decide))) (aJ (@aU _ _ _ _ (@bK _ _ _ _ aD))) bG) (aG (@gR _ _ _ _ _ _ _ _ PassesOwn.never rfl (@fG _ _ _ _ _ _ rfl T.n_range (aA (@aM _ _ _ _ _ _ _ _ bQ (@bN _ _ _ _ _ _ _ _ _ _ G_l_mixed (hr.mono (by decide)) (aA (pv 0) (aA (pv 1) aD)) (by rfl) (by decide) (by rfl) (by rfl)) (@aM _ _ _ _ _ _ _ _ dY (pv 2) aE)) aD) (by rfl)) (@aX _ _ (7) _ dR.nd rfl (Or.inl rfl) (by trivial)) (aG (@bA _ _ (8) _ _ _ _ dR.nd rfl (Or.inl rfl) (@aM _ _ _ _ _ _ _ _ bE (@bN _ _ _ _ _ _ _ _ _ _ G_l_mixed (hr.mono (by decide)) (aA (pv 0) (aA (@aM _ _ _ _ _ _ _ _ dY (pv 1) (pv 7)) aD)) (by rfl) (by decide) (by rfl) (by rfl)) aE) (by rfl) (by trivial)) (aG (@bA _ _ (9) _ _ _ _ dR.nd rfl (Or.inl rfl) (@bK _ _ _ _ aD) (by rfl) (by trivial)) (aG (@gR _ _ _ _ _ _ _ _ PassesOwn.never rfl (@fG _ _ _ _ _ _ rfl T.n_range (aA (@aM _ _ _ _ _ _ _ _ dY aE (@aM _ _ _ _ _ _ _ _ bQ (pv 8) aE)) aD) (by rfl)) (@aX _ _ (10) _ dR.nd rfl (Or.inl rfl) (by trivial)) (aJ (@fZ _ _ _ _ (@sO _ (K) _ _ _ _ _ rfl (@qV _ _ _ _ _ _ _ _ _ _ _ _ PySem.F.plainAttrs_list PySem.F.slot_list_append PySem.F.type_list_append gZ (pv 9) (aA (@bN _ _ _ _ _ _ _ _ _ _ G_l_condition (hr.mono (by decide)) (aA (@aM _ _ _ _ _ _ _ _ bE (pv 8) (@aY _ _ _ _ _ _ _ (@bY _ (K) rfl) (@bK _ _ _ _ (aA aE (aA (@aM _ _ _ _ _ _ _ _ sQ aE (@aM _ _ _ _ _ _ _ _ dL aE aE)) (aA (@aM _ _ _ _ _ _ _ _ sQ aE (@aM _ _ _ _ _ _ _ _ dL aE aE)) aD)))) (pv 10) (fun _ _=>rfl))) (aA (pv 3) aD)) (by rfl) (by decide) (by rfl) (by rfl)) aD) (by rfl) (by rfl) (by rfl) (by rfl) (by rfl))) (by rfl))) (by intro _;rfl)) (aG (@bA _ _ (11) _ _ _ _ dR.nd rfl (Or.inl rfl) (@aM _ _ _ _ _ _ _ _ bE (pv 8) (@aM _ _ _ _ _ _ _ _ dL aE aE)) (by rfl) (by trivial)) (aJ (@fZ _ _ _ _ (@sO _ (K) _ _ _ _ _ rfl (@qV _ _ _ _ _ _ _ _ _ _ _ _ PySem.F.plainAttrs_list PySem.F.slot_list_append PySem.F.type_list_append gZ (pv 6) (aA (@bI _ _ _ _ _ (aA (@aY _ _ _ _ _ _ _ (@bY _ (K) rfl) (@bK _ _ _ _ (aA bJ (aA bJ aD))) (@aM _ _ _ _ _ _ _ _ bQ (pv 11) aE) (fun _ _=>rfl)) (aA (@aY _ _ _ _ _ _ _ (@bY _ (K) rfl) (pv 5) (@aM _ _ _ _ _ _ _ _ bQ (@aM _ _ _ _ _ _ _ _ bE (pv 11) aE) (@aR _ _ _ _ _ _ _ _ _ (@bL _ (K) rfl) rfl T.n_len cG (aA (pv 5) aD) (by decide) (by decide) (by rfl) (by rfl))) (fun _ _=>rfl)) (aA (pv 9) aD)))) aD) (by rfl) (by rfl) (by rfl) (by rfl) (by rfl))) (by rfl))))))) (by intro _;rfl)) (aJ (@aU _ _ _ _ (pv 6))))))),?_⟩
 refine ⟨_,rfl,ld,rfl,⟨_,SqL.of hld⟩,?_⟩
 refine bM (F:=K) (xs:=vd) (by omega) (fun i ys H'=>H = H' ∧ ys = (((ds.take i).filter aO).map aL).map V.str ∧ ys.length ≤ i) ⟨rfl,rfl,Nat.le_refl _⟩ ?_ ?_ ?_
 ·rintro i ys H' hi' ⟨rfl,rfl,hy⟩
  exact ⟨SqL.of hld,hy⟩
 ·rintro i xv ys H' K1 K2 hx ⟨rfl,rfl,hy⟩ k1 k2
  have hil:i < vd.length:=(List.getElem?_eq_some_iff.mp hx).1
  obtain ⟨d,ed⟩:∃ d,ds[i]? = some d:=⟨_,List.getElem?_eq_getElem (by omega)⟩
  obtain ⟨v,ev,iv⟩:=idd.get ed
  rw [hx] at ev
  cases ev
  obtain ⟨n,a',b',c,r,sl,rfl,_⟩:=bX (gd.all d (List.mem_of_getElem? ed))
  obtain ⟨t,vs,rfl,o,iss⟩:=jO iv
  refine ⟨_,rfl,t,_,5,vs,rfl,rfl,SqT.of o,aK (j:=5) rfl,rfl,_,rfl,?_⟩
  rw [pU iss]
  have e0:aO (.tup [.str n,.str a',.str b',.int c,.int r,sl]) = !mV sl:=rfl
  cases e:mV sl with
  | true =>
   refine bS (k2 _ ⟨rfl,?_,by omega⟩)
   rw [List.take_add_one,ed]
   simp [e0,e]
  | false =>
   refine cL ⟨_,rfl,t,_,0,.str n,rfl,rfl,SqT.of o,aK (j:=0) rfl,k1 _ _ ⟨rfl,?_,by rw [List.length_append,List.length_singleton];omega⟩⟩
   rw [List.take_add_one,ed]
   simp [e0,e,aL,cR]
 rintro ys H' ⟨rfl,rfl,hy⟩
 rw [List.take_of_length_le (by omega)]
 intro lg hlg
 have A1:=aH.upd (o:=.lst (((ds.filter aO).map aL).map V.str)) hlg
 have hlg1:upd H lg (.lst (((ds.filter aO).map aL).map V.str)) lg = some (.lst (((ds.filter aO).map aL).map V.str)):=aB
 have gsl:∀ z ∈ (ds.filter aO).map aL,z.length ≤ 1000:=fun z m=>by
  obtain ⟨d,md,rfl⟩:=List.mem_map.mp m
  obtain ⟨n,a',b',c,r,sl,rfl,hn,_⟩:=bX (gd.all d (List.mem_filter.mp md).1)
  have:(decide (1 ≤ n.length) && decide (n.length ≤ 8) && !decide (n = "sea") && n.cps.toList.all hE) = true:=hn
  simp only [Bool.and_eq_true,decide_eq_true_eq] at this
  show n.length ≤ 1000
  omega
 generalize hgs:(ds.filter aO).map aL = gs at *
 generalize upd H lg (.lst (gs.map V.str)) = H1 at A1 hlg1 ⊢
 refine ⟨aI rfl,fun l hl=>?_⟩
 have A2:=aH.upd (o:=.lst []) hl
 have T2:=A1.trans A2
 have nl:H l = none:=A1.free hl
 have hl2:upd H1 l (.lst []) l = some (.lst []):=aB
 have hlg2:=A2 _ _ hlg1
 have nlg:lg ≠ l:=fun z=>by rw [z,hl] at hlg1;cases hlg1
 generalize upd H1 l (.lst []) = H2 at T2 hl2 hlg2 ⊢
 refine ⟨_,rfl,aI rfl,fun pe hpe=>?_⟩
 have A3:=aH.upd (o:=.lst []) hpe
 have T3:=T2.trans A3
 refine ⟨.lst (gs.map Dv.str),.lst [],⟨lg,_,rfl,A3 _ _ hlg2,aAR _ _⟩,⟨pe,[],rfl,aB,rfl⟩,jT gs,by decide,_,rfl,?_⟩
 cases hg:gs with
 | nil =>
  refine cL ⟨aI rfl,fun l' hl'=>?_⟩
  have A4:=aH.upd (o:=.lst []) hl'
  refine q l' [] _ (T3.trans A4) (T3.free hl') ⟨⟨[],aB,rfl⟩,(fun x m=>by cases m),fun x m=>by cases m⟩ (Nat.zero_le _)
 | cons g0 gr =>
  refine bS ?_
  have lgs:1 ≤ gs.length:=by rw [hg];simp
  have hl3:=A3 _ _ hl2
  have hlg3:=A3 _ _ hlg2
  generalize upd H2 pe (.lst []) = H3 at A3 T3 hl3 hlg3 ⊢
  refine ⟨_,rfl,_,rfl,_,_,rfl,_,scr.same T3,rfl,by omega,fun m0 hm0=>?_⟩
  have pim:(0:Int) < (im:Int) + 1:=by omega
  have r0:0 ≤ m0 % ((im:Int) + 1):=Int.emod_nonneg _ (by omega)
  have r1:m0 % ((im:Int) + 1) < (im:Int) + 1:=Int.emod_lt_of_pos _ pim
  obtain ⟨cnt,hcnt⟩:=Int.eq_ofNat_of_zero_le r0
  refine ⟨_,rfl,_,_,rfl,rfl,_,_,rfl,rfl,pim,(cnt:Int),congrArg (fun x=>[V.int x]) hcnt,by omega,by omega,?_⟩
  rw [Int.toNat_natCast]
  refine gG (lo:=0) (n:=cnt) (fun i σ H'=>∃ (w7 w8 w9 w10 w11:Option V) (vs:List V) (es:List Dv),σ = [some (.ref a),some (.int ia),some (.int im),some (.ref lf),some (.ref ld),some (.ref lg),some (.ref l),w7,w8,w9,w10,w11] ∧ cS l H3 H' ∧ H' l = some (.lst vs) ∧ IsL (del l H') es vs ∧ es.length = i ∧ ∀ d ∈ es,GoodX gs (fs.map aL) d) ⟨_,_,_,_,_,[],[],rfl,(fun b o e _=>e),hl3,rfl,rfl,fun d m=>by cases m⟩ ?_ ?_
  ·rintro i σ H' hi ⟨w7,w8,w9,w10,w11,ys,es,rfl,X,hly,iy,le,all⟩
   refine yN fun D1 hD1=>?_
   have SH:aH H H':=fun b o e=>X _ _ (T3 _ _ e) (fun z=>by rw [z,nl] at e;cases e)
   have ly:=iy.length
   refine ⟨_,rfl,_,rfl,_,rfl,_,_,rfl,rfl,_,_,rfl,_,scr.same SH,rfl,by show 0 ≤ (ia:Int) + (0 + (i:Int));omega,fun m1 hm1=>?_⟩
   refine ⟨_,_,rfl,rfl,⟨by decide,by decide⟩,?_⟩
   dsimp only
   generalize m1 / 16 = mc
   refine ⟨aI rfl,fun lc hlc=>?_⟩
   have A5:=aH.upd (o:=.lst []) hlc
   have nlc:lc ≠ l:=fun z=>by rw [z,hly] at hlc;cases hlc
   have hlc5:upd H' lc (.lst []) lc = some (.lst []):=aB
   generalize upd H' lc (.lst []) = H5 at A5 hlc5 ⊢
   have c0:=Int.emod_nonneg mc (show (3:Int) ≠ 0 by decide)
   have c1:=Int.emod_lt_of_pos mc (show (0:Int) < 3 by decide)
   obtain ⟨cj,hcj⟩:=Int.eq_ofNat_of_zero_le (show 0 ≤ 1 + mc % 3 by omega)
   refine ⟨_,rfl,_,_,rfl,rfl,(iM rfl),_,_,rfl,rfl,(cj:Int),congrArg (fun x=>[V.int x]) hcj,by omega,by omega,?_⟩
   rw [Int.toNat_natCast]
   refine gG (lo:=0) (n:=cj) (fun j σ Hx=>∃ (w10:Option V) (us:List V) (cs:List Dv),σ = [some (.ref a),some (.int ia),some (.int im),some (.ref lf),some (.ref ld),some (.ref lg),some (.ref l),some (.int (0 + (i:Int))),some (.int mc),some (.ref lc),w10,w11] ∧ cS lc H5 Hx ∧ Hx lc = some (.lst us) ∧ IsL Hx cs us ∧ cs.length = j ∧ ∀ d ∈ cs,GoodC (fs.map aL) d ∧ oS d = true) ⟨_,[],[],rfl,(fun b o e _=>e),hlc5,rfl,rfl,fun d m=>by cases m⟩ ?_ ?_
   ·rintro j σ Hx hj ⟨w10',us,cs,rfl,Xc,hlx,ic,lcs,okc⟩
    have SX:aH H' Hx:=fun b o e=>Xc _ _ (A5 _ _ e) (fun z=>by rw [z,hlc] at e;cases e)
    have lu:=ic.length
    refine ⟨_,rfl,.inl ⟨rfl,_,SqL.of hlx⟩,?_⟩
    refine ⟨_,rfl,_,_,rfl,rfl,⟨by decide,by decide,by decide⟩,_,_,rfl,rfl,.inl ⟨by decide,by decide⟩,_,_,rfl,rfl,⟨by decide,by decide,by decide⟩,_,_,rfl,rfl,.inl ⟨by decide,by decide⟩,aI rfl,fun p6 hp6=>?_⟩
    obtain ⟨qd,eqd,qd0,qdl⟩:∃ qd:Int,atI ([.int 4,.int (4 * 10 ^ (7:Int).toNat),.int (4 * 10 ^ (14:Int).toNat)]:List V) (0 + (j:Int)) = some (.int qd) ∧ 0 < qd ∧ qd.natAbs.log2 < 9000:=by
     rw [Int.zero_add]
     obtain rfl | rfl | rfl:j = 0 ∨ j = 1 ∨ j = 2:=by omega
     ·exact ⟨_,aK (j:=0) rfl,by decide,by decide⟩
     ·exact ⟨_,aK (j:=1) rfl,by decide,by decide⟩
     ·exact ⟨_,aK (j:=2) rfl,by decide,by decide⟩
    have A6:=aH.upd (o:=.lst [.int 4,.int (4 * 10 ^ (7:Int).toNat),.int (4 * 10 ^ (14:Int).toNat)]) hp6
    have S6:=SH.trans (SX.trans A6)
    refine ⟨_,rfl,p6,_,_,.int qd,rfl,rfl,SqL.of aB,eqd,_,_,rfl,rfl,⟨qd0,qdl⟩,_,rfl,_,_,rfl,_,lf,vf,fs,rfl,rfl,S6 _ _ hlf,IsL.same S6 _ _ iff,gf,fun v d H7 S7 iv okd hrd=>?_⟩
    have A7:=A6.trans S7
    have hlx7:=A7 _ _ hlx
    refine ⟨lc,_,_,rfl,rfl,hlx7,by omega,?_⟩
    have kp:nG Hx (upd H7 lc (.lst (us ++ [v]))):=fun b xs e=>by
     rw [aT (fun z=>by rw [z,hlx] at e;cases e)]
     exact A7 _ _ e
    have kp7:nG H7 (upd H7 lc (.lst (us ++ [v]))):=fun b xs e=>by
     rw [aT (fun z=>by rw [z,hlx7] at e;cases e)]
     exact e
    refine ⟨_,us ++ [v],cs ++ [d],rfl,(Xc.then A7).put,aB,IsL.snoc (Is.keep kp7 _ _ hrd iv) (IsL.keep kp _ _ (fE fun d m=>(okc d m).2) ic),by rw [List.length_append,lcs];rfl,?_⟩
    intro d' md
    rcases List.mem_append.mp md with md | md
    ·exact okc d' md
    ·rw [List.mem_singleton.mp md]
     exact ⟨okd,hrd⟩
   ·rintro σ Hx ⟨w10',us,cs,rfl,Xc,hlx,ic,lcs,okc⟩
    have SX:aH H' Hx:=fun b o e=>Xc _ _ (A5 _ _ e) (fun z=>by rw [z,hlc] at e;cases e)
    have hlyx:=SX _ _ hly
    refine ⟨_,rfl,_,_,rfl,rfl,⟨by decide,by decide,by decide⟩,_,_,rfl,rfl,⟨by decide,by decide⟩,?_⟩
    dsimp only
    generalize mc / 10 ^ (21:Int).toNat = sp
    refine ⟨_,rfl,.inl ⟨rfl,_,SqL.of hlyx⟩,?_⟩
    refine ⟨aI rfl,fun p8 hp8=>?_⟩
    have A8:=aH.upd (o:=.lst [.str "open",.str "shut"]) hp8
    obtain ⟨da,va,mda,eva,iva⟩:=aGB (H:=H) (ds:=[.str "open",.str "shut"]) (vs:=[.str "open",.str "shut"]) ⟨_,_,rfl,rfl,_,_,rfl,rfl,rfl⟩ (i:=sp % 2) (Int.emod_nonneg _ (by decide)) (Int.emod_lt_of_pos _ (by decide))
    obtain ⟨dd,rfl,rfl,oka,sa⟩:∃ dd:Str,da = .str dd ∧ va = .str dd ∧ bD ["open","shut"] (.str dd) = true ∧ dd.length ≤ 1000:=by
     simp only [List.mem_cons,List.not_mem_nil,or_false] at mda
     rcases mda with rfl | rfl
     ·exact ⟨_,rfl,iva,by decide +kernel,by decide +kernel⟩
     ·exact ⟨_,rfl,iva,by decide +kernel,by decide +kernel⟩
    have hlgx:=SX _ _ (X _ _ hlg3 nlg)
    have pg:(0:Int) < (((gs.map V.str).length:Nat):Int):=by rw [List.length_map];omega
    obtain ⟨kg,hkg⟩:=Int.eq_ofNat_of_zero_le (show 0 ≤ sp / 2 % (((gs.map V.str).length:Nat):Int) from Int.emod_nonneg _ (by omega))
    have lkg:kg < gs.length:=by have:=Int.emod_lt_of_pos (sp / 2) pg;rw [hkg,List.length_map] at this;omega
    obtain ⟨gt,egt⟩:∃ z,gs[kg]? = some z:=⟨_,List.getElem?_eq_getElem lkg⟩
    have mgt:=List.mem_of_getElem? egt
    refine ⟨_,rfl,_,_,rfl,rfl,(iM rfl),p8,_,_,.str dd,rfl,rfl,SqL.of aB,eva,?_⟩
    refine ⟨_,rfl,_,rfl,_,_,rfl,rfl,⟨by decide,by decide⟩,_,rfl,lg,_,rfl,.inl (SqL.of (A8 _ _ hlgx)),_,_,rfl,rfl,pg,lg,_,_,.str gt,rfl,rfl,SqL.of (A8 _ _ hlgx),by rw [hkg];exact aK (by rw [List.getElem?_map,egt];rfl),?_⟩
    refine ⟨_,rfl,aI rfl,fun t ht=>?_⟩
    have A9:=aH.upd (o:=.tup [.str dd,.str gt,.ref lc]) ht
    have A89:=A8.trans A9
    refine ⟨l,_,_,rfl,rfl,A89 _ _ hlyx,by omega,?_⟩
    have S9:=SX.trans A89
    have hXl:∃ o,H' l = some o:=⟨_,hly⟩
    refine hD1 _ _ ⟨_,_,_,_,_,ys ++ [.ref t],es ++ [.tup [.str dd,.str gt,.lst cs]],rfl,(X.then S9).put,aB,IsL.snoc ?_ (IsL.same ((aMX S9).trans aMY) _ _ iy),by rw [List.length_append,le];rfl,?_⟩
    ·have ntH:H' t = none:=(SX.trans A8).free ht
     refine Is.same aMY _ _ ⟨t,_,rfl,aMK hXl ntH aB,_,_,rfl,rfl,_,_,rfl,rfl,_,_,rfl,⟨lc,us,rfl,aMK hXl hlc (A89 _ _ hlx),?_⟩,rfl⟩
     refine IsL.keep (fun b xs e=>?_) _ _ (fE fun d m=>(okc d m).2) ic
     exact aGX (fun z=>by rw [z,hlyx] at e;cases e) (A89 _ _ e)
    ·intro d' md
     rcases List.mem_append.mp md with md | md
     ·exact all d' md
     ·rw [List.mem_singleton.mp md]
      exact yM oka sa mgt (gsl gt mgt) (by omega) (by omega) (fun c m=>(okc c m).1)
  ·rintro σ H' ⟨w7,w8,w9,w10,w11,ys,es,rfl,X,hly,iy,le,all⟩
   have SH:aH H H':=fun b o e=>X _ _ (T3 _ _ e) (fun z=>by rw [z,nl] at e;cases e)
   obtain ⟨xs,rfl,h1,h2⟩:=aBZ all
   rw [List.length_map] at le
   exact ⟨_,rfl,q l xs H' SH nl ⟨⟨ys,hly,IsL.same (aGW _ _) _ _ iy⟩,h1,h2⟩ (by omega)⟩
def xL (CS C:Addr):Sp:=sp1 fun x H Q=>∃ (p dw pl:Addr) (fs ds:List Dv) (xs:List Dk) (op wt:List Str) (n:Int) (cnt:Str → Int),x = .ref p ∧ SeaAt CS C H p dw pl fs ds xs op wt n cnt ∧ Q (.int n) H
theorem pO (T:Txt K mg C) {CS:Addr} (hCS:mg "Season" = some (.ref CS)):Mc P w K mg base 1 CS "count" ["self"] (xL CS C):=by
 obtain ⟨C_Season,cl_Season,mg_Season,na_on_land,na_own_decrees,na_open_names,na_wet_names,na_day_count,na_wet_counts,i_Season,m_season_p_day,m_season_p_days,m_season_p_opened,m_season_p_wet,m_season_p_count,m_season_p_wet_days,m_season_p_onto⟩:=T.k_Season
 rw [hCS] at mg_Season
 cases mg_Season
 refine m_season_p_count.mc pA lY (fun f cdv A outer s H vs Q E hr h=>?_)
 obtain ⟨x,rfl,p,dw,pl,fs,ds,xs,op,wt,n,cnt,rfl,SA,q⟩:=h
 obtain ⟨dx,F,ld,lo,lw,e,sf,dc,h1,h2⟩:=SA.ex
 refine ⟨_,(aJ (@aU _ _ _ _ (@fL _ _ _ _ _ (pv 0) rfl))),?_⟩
 exact ⟨_,rfl,p,CS,dx,F,_,rfl,e,cl_Season,na_day_count,sf.f5,q⟩
def aAV (CS C:Addr):Sp:=sp1 fun x H Q=>∃ (p dw pl:Addr) (fs ds:List Dv) (xs:List Dk) (op wt:List Str) (n:Int) (cnt:Str → Int),x = .ref p ∧ SeaAt CS C H p dw pl fs ds xs op wt n cnt ∧ ∀ (l:Addr),H l = none → Q (.ref l) (upd H l (.dK (eI (fs.map aL) cnt)))
theorem mM (T:Txt K mg C) {CS:Addr} (hCS:mg "Season" = some (.ref CS)):Mc P w K mg base 1 CS "wet_days" ["self"] (aAV CS C):=by
 obtain ⟨C_Season,cl_Season,mg_Season,na_on_land,na_own_decrees,na_open_names,na_wet_names,na_day_count,na_wet_counts,i_Season,m_season_p_day,m_season_p_days,m_season_p_opened,m_season_p_wet,m_season_p_count,m_season_p_wet_days,m_season_p_onto⟩:=T.k_Season
 rw [hCS] at mg_Season
 cases mg_Season
 refine m_season_p_wet_days.mc mE lY (fun f cdv A outer s H vs Q E hr h=>?_)
 obtain ⟨x,rfl,p,dw,pl,fs,ds,xs,op,wt,n,cnt,rfl,SA,q⟩:=h
 obtain ⟨dx,F,ld,lo,lw,e,sf,dc,h1,h2⟩:=SA.ex
 refine ⟨_,(aJ (@aU _ _ _ _ (@cP _ _ _ _ _ _ _ _ _ tZ rfl T.n_dict gC (@aA _ _ _ _ _ (@fL _ _ _ _ _ (pv 0) rfl) aD (by rfl)) (by decide) (by decide) (by rfl) (by rfl)))),?_⟩
 exact ⟨_,rfl,p,CS,dx,F,_,rfl,e,cl_Season,na_wet_counts,sf.f6,dw,_,rfl,SA.dwt,q⟩
structure Sst where
 op:List Str
 wt:List Str
 n:Int
 cnt:Str → Int
def lC (fs ds:List Dv) (xs:List Dk) (s:Sst) (lv:Int):Sst:=⟨jY ds xs s.op s.wt s.n lv,fK fs ds xs s.op s.wt s.n lv,s.n + 1,wS (fK fs ds xs s.op s.wt s.n lv) s.cnt⟩
def sgo (fs ds:List Dv) (xs:List Dk) (s:Sst) (ls:List Int):Sst:=ls.foldl (lC fs ds xs) s
def mD (fs ds:List Dv) (xs:List Dk):Sst → List Int → List Sst
 | _,[]=>[]
 | s,l :: ls=>lC fs ds xs s l :: mD fs ds xs (lC fs ds xs s l) ls
theorem rW {fs ds:List Dv} {xs:List Dk} {l:Int}:∀ {ls:List Int} {s:Sst},mD fs ds xs s (ls ++ [l]) = mD fs ds xs s ls ++ [lC fs ds xs (sgo fs ds xs s ls) l]
 | [],_=>rfl
 | a :: ls,s=>by
  show lC fs ds xs s a :: mD fs ds xs (lC fs ds xs s a) (ls ++ [l]) = _
  rw [rW]
  rfl
theorem uQ {fs ds:List Dv} {xs:List Dk}:∀ {ls:List Int} {s:Sst},(mD fs ds xs s ls).length = ls.length
 | [],_=>rfl
 | a :: ls,s=>by
  show (mD fs ds xs (lC fs ds xs s a) ls).length + 1 = ls.length + 1
  rw [uQ]
theorem aFB {fs ds:List Dv} {xs:List Dk} {l:Int} {ls:List Int} {s:Sst}:sgo fs ds xs s (ls ++ [l]) = lC fs ds xs (sgo fs ds xs s ls) l:=by
 unfold sgo
 rw [List.foldl_append]
 rfl
def aIU (s:Sst):Dv:=.tup [.lst (s.op.map Dv.str),.lst (s.wt.map Dv.str)]
theorem aDR (s:Sst):aV 30 (aIU s) = true ∧ aV 29 (aIU s) = true:=by
 have h:∀ (n:Nat) (zs:List Str),cN n (zs.map Dv.str) = true:=fun n zs=>lL fun d m=>by
  obtain ⟨z,_,rfl⟩:=List.mem_map.mp m
  cases n <;> rfl
 unfold aIU
 constructor <;> simp [aV,cN,h]
def kZ (CS C:Addr) (H:Hp) (p dw pl:Addr) (fs ds:List Dv) (xs:List Dk) (s:Sst):Prop:=SeaAt CS C H p dw pl fs ds xs s.op s.wt s.n s.cnt
def aDU (as:List Addr) (H:Hp):Hp:=fun b=>if b ∈ as then none else H b
theorem nA {as:List Addr} {H:Hp} {b:Addr} {o:HO} (e:H b = some o) (n:b ∉ as):aDU as H b = some o:=by
 unfold aDU
 rw [if_neg n]
 exact e
theorem aCB {as:List Addr} {H:Hp} {b:Addr} {o:HO} (e:aDU as H b = some o):H b = some o ∧ b ∉ as:=by
 unfold aDU at e
 by_cases h:b ∈ as
 ·rw [if_pos h] at e
  cases e
 ·rw [if_neg h] at e
  exact ⟨e,h⟩
theorem aDT {as:List Addr} {H:Hp}:aH (aDU as H) H:=fun b o e=>(aCB e).1
theorem aMI {b p d l s:Addr} (h1:b ≠ p) (h2:b ≠ d) (h3:b ≠ l) (h4:b ≠ s):b ∉ [p,d,l,s]:=by simp [h1,h2,h3,h4]
theorem of4 {b p d l s:Addr} (h:b ∉ [p,d,l,s]):b ≠ p ∧ b ≠ d ∧ b ≠ l ∧ b ≠ s:=by
 simp only [List.mem_cons,List.not_mem_nil,or_false,not_or] at h
 exact h
theorem aIT {CS C:Addr} {Hs H H0:Hp} {p dw pl:Addr} {fs ds:List Dv} {xs:List Dk} {op wt op' wt':List Str} {n:Int} {cnt cnt':Str → Int} (S:aH Hs H) (SA:SeaAt CS C Hs p dw pl fs ds xs op wt n cnt) (Y:qZ p dw H H0) (SA0:SeaAt CS C H0 p dw pl fs ds xs op' wt' (n + 1) cnt') (DX:aLI CS H H0 p dw pl n) :
  ∃ Hs',aH Hs' H0 ∧ SeaAt CS C Hs' p dw pl fs ds xs op' wt' (n + 1) cnt' ∧ ∀ b o,H b = some o → Hs b = none → Hs' b = none:=by
 obtain ⟨dx,F,ld,lo,lw,hp,sf,dc,hlo,hlw⟩:=SA.ex
 obtain ⟨F',lo',lw',hp0,sf',nlo,nlw⟩:=DX dx F ld lo lw (S _ _ hp) sf
 obtain ⟨dx0,F0,ld0,lo0,lw0,hp0',sf0,_,hlo0,hlw0⟩:=SA0.ex
 rw [hp0] at hp0'
 cases hp0'
 have e1:=sf0.f3
 rw [sf'.f3] at e1
 cases e1
 have e2:=sf0.f4
 rw [sf'.f4] at e2
 cases e2
 obtain ⟨Hs',hH⟩:∃ Hs':Hp,Hs' = fun b=>if (H b).isSome && (Hs b).isNone then none else H0 b:=⟨_,rfl⟩
 have old:∀ {b:Addr} {o:HO},Hs b = some o → Hs' b = H0 b:=fun {b o} e=>by
  rw [hH]
  show (if (H b).isSome && (Hs b).isNone then none else H0 b) = _
  rw [e,if_neg (by simp)]
 have new:∀ {b:Addr},H b = none → Hs' b = H0 b:=fun {b} e=>by
  rw [hH]
  show (if (H b).isSome && (Hs b).isNone then none else H0 b) = _
  rw [e,if_neg (by simp)]
 have nd:∀ b o,H b = some o → Hs b = none → Hs' b = none:=fun b o e1 e2=>by
  rw [hH]
  show (if (H b).isSome && (Hs b).isNone then none else H0 b) = _
  rw [e1,e2,if_pos (by simp)]
 have sub:aH Hs' H0:=fun b o e=>by
  rw [hH] at e
  by_cases h:((H b).isSome && (Hs b).isNone) = true
  ·have e:(if (H b).isSome && (Hs b).isNone then none else H0 b) = some o:=e
   rw [if_pos h] at e
   cases e
  ·have e:(if (H b).isSome && (Hs b).isNone then none else H0 b) = some o:=e
   rw [if_neg h] at e
   exact e
 have keep:∀ b o,Hs b = some o → b ≠ p → b ≠ dw → Hs' b = some o:=fun b o e n1 n2=>by rw [old e];exact Y _ _ (S _ _ e) n1 n2
 have lt:lO Hs Hs':=fun b o e l=>keep b o e (fun z=>by rw [z,hp] at e;cases e;cases l) (fun z=>by rw [z,SA.dwt] at e;cases e;cases l)
 have ndp:dw ≠ p:=fun z=>by have:=SA.dwt;rw [z,hp] at this;cases this
 have np:pl ≠ p:=fun e=>by
  obtain ⟨dx',d1,d2,hx,_⟩:=SA.land.ex
  rw [e,hp] at hx
  have e':=(HO.ins.inj (Option.some.inj hx)).2.2
  have:=sf.no "field_rows" (by decide +kernel)
  rw [e',nT] at this
  cases this
 have nd':pl ≠ dw:=fun z=>by
  obtain ⟨dx',e1,e2,hx,_⟩:=SA.land.ex
  rw [z,SA.dwt] at hx
  cases hx
 obtain ⟨M,hM⟩:∃ M:Hp,M = fun b=>if b = p then Hs p else Hs' b:=⟨_,rfl⟩
 have Mp:M p = some (.ins CS dx F):=by
  rw [hM]
  show (if p = p then Hs p else Hs' p) = _
  rw [if_pos rfl]
  exact hp
 have Mn:∀ {b:Addr},b ≠ p → M b = Hs' b:=fun {b} n=>by
  rw [hM]
  show (if b = p then Hs p else Hs' b) = _
  rw [if_neg n]
 have L1:LandAt C M pl fs ds:=mT SA.dwt rfl (fun kvs e=>by cases e;exact lN) nd' (fun b o e n=>by
  by_cases h:b = p
  ·subst h
   rw [hp] at e
   cases e
   exact Mp
  ·rw [Mn h]
   exact keep _ _ e h n) SA.land
 have L2:LandAt C Hs' pl fs ds:=mT Mp rfl (fun kvs e=>by cases e) np (fun b o e n=>by rw [Mn n] at e;exact e) L1
 exact ⟨Hs',sub,⟨⟨dx,F',ld,lo',lw',by rw [old hp];exact hp0,sf',dc.sameLT lt,by rw [new nlo];exact hlo0,by rw [new nlw];exact hlw0⟩,L2,by rw [old SA.dwt];exact SA0.dwt,SA0.sub,SA0.lop,SA0.lx⟩,nd⟩
structure Te where
 t:Addr
 lo:Addr
 lw:Addr
 s:Sst
structure Te.ok (H Hs G:Hp) (l:Addr) (e:Te):Prop where
 a:G e.t = some (.tup [.ref e.lo,.ref e.lw])
 b:G e.lo = some (.lst (e.s.op.map V.str))
 c:G e.lw = some (.lst (e.s.wt.map V.str))
 lb:e.s.op.length ≤ 1000
 lc:e.s.wt.length ≤ 1000
 ht:Hs e.t = none
 ho:Hs e.lo = none
 hw:Hs e.lw = none
 no:H e.lo = none
 nw:H e.lw = none
 xo:e.lo ≠ l
 xw:e.lw ≠ l
 xt:e.t ≠ l
def aBG (CS C:Addr):Sp:=sp2 fun x y H Q=>∃ (p dw pl ll:Addr) (fs ds:List Dv) (xs:List Dk) (s0:Sst) (ls:List Int),x = .ref p ∧ kZ CS C H p dw pl fs ds xs s0 ∧ y = .ref ll ∧ H ll = some (.lst (ls.map V.int)) ∧ (∀ l ∈ ls,hgt l = true) ∧ ls.length ≤ 900 ∧
 ∀ (l:Addr) (es:List Te) (Hs H':Hp),qZ p dw H H' → aH Hs H' → kZ CS C Hs p dw pl fs ds xs (sgo fs ds xs s0 ls) → H l = none → Hs l = none → H' l = some (.lst (es.map fun e=>V.ref e.t)) → es.map (·.s) = mD fs ds xs s0 ls → (∀ e ∈ es,e.ok H Hs H' l) → Q (.ref l) H'
theorem qH (T:Txt K mg C) {CS:Addr} (hCS:mg "Season" = some (.ref CS)):Mc P w K mg base 9 CS "days" ["self","levels"] (aBG CS C):=by
 have G_season_p_day:Mc P w K mg base 8 CS "day" ["self","level"] (aEV CS C):=lU T hCS
 have G_p_is_height:Fc P w K mg base 2 "is_height" ["thing"] gM:=cX T
 obtain ⟨C_Season,cl_Season,mg_Season,na_on_land,na_own_decrees,na_open_names,na_wet_names,na_day_count,na_wet_counts,i_Season,m_season_p_day,m_season_p_days,m_season_p_opened,m_season_p_wet,m_season_p_count,m_season_p_wet_days,m_season_p_onto⟩:=T.k_Season
 rw [hCS] at mg_Season
 cases mg_Season
 refine m_season_p_days.mc fF jM (fun f cdv A outer s H vs Q E hr h=>?_)
 obtain ⟨x,y,rfl,p,dw,pl,ll,fs,ds,xs,s0,ls,rfl,SA,rfl,hll,hls,lls,q⟩:=h
 have big2:(2000:Nat) ≤ sizeLine:=by decide
 have hu:=pV hr
 have gf:=(dH SA.land).1
 refine ⟨_,(aG (@cQ _ _ _ _ _ _ _ _ (@PW.pt _ _ _ (@kJ _ _ _ _ _ _ _ (@cU _ _ _ _ (@cB _ _ _ (@aR _ _ _ _ _ _ _ _ _ (@cO _ (K) rfl) rfl T.n_isinstance bB (aA (pv 1) (aA (@kL _ _ _ _ T.n_list dI (by rfl) (by decide) (by decide)) aD)) (by decide) (by decide) (by rfl) (by rfl)) (by intro _;rfl))) (@jG _ _ _ _ (@cU _ _ _ _ (@cB _ _ _ (@aR _ _ _ _ _ _ _ _ _ (@gU _ rfl) rfl T.n_all fJ (aA (@cJ _ _ _ _ _ _ _ _ _ _ _ ["level"] 1 [] rfl (@bV _ (K) _ _ _ rfl (@bW _ _ _ _ (pv 1))) (fun R=>@aX _ _ (0) _ (show List.Nodup (["level"]:List Str) by decide +kernel) rfl (Or.inl rfl) (by trivial)) (@bC _ _ (by decide)) (fun R=>cH) (fun R=>(@bN _ _ _ _ _ _ _ _ _ _ G_p_is_height (hr.mono (by decide)) (aA (pv 0) aD) (by rfl) (by decide) (by rfl) (by rfl))) (by rfl) (by rfl) (by rfl) (by rfl) (by rfl) (by rfl) (by rfl) (by intro _;rfl)) aD) (by decide) (by decide) (by rfl) (by rfl)) (by intro _;rfl)))))) (aJ kK) bG) (aG (@bA _ _ (2) _ _ _ _ fF.nd rfl (Or.inl rfl) (@bK _ _ _ _ aD) (by rfl) (by trivial)) (aG (@gR _ _ _ _ _ _ _ _ PassesOwn.never rfl (@bV _ (K) _ _ _ rfl (@bW _ _ _ _ (pv 1))) (@aX _ _ (3) _ fF.nd rfl (Or.inl rfl) (by trivial)) (aJ (@fZ _ _ _ _ (@sO _ (K) _ _ _ _ _ rfl (@qV _ _ _ _ _ _ _ _ _ _ _ _ PySem.F.plainAttrs_list PySem.F.slot_list_append PySem.F.type_list_append gZ (pv 2) (aA (@aCR _ _ _ _ _ _ _ _ _ _ _ _ _ _ cl_Season G_season_p_day (hr.mono (by decide)) (pv 0) (aA (pv 3) aD) (by rfl) (by rfl) (by rfl)) aD) (by rfl) (by rfl) (by rfl) (by rfl) (by rfl))) (by rfl))) (by intro _;rfl)) (aJ (@aU _ _ _ _ (pv 2)))))),?_⟩
 refine ⟨_,rfl,_,_,_,_,_,rfl,rfl,.lst hll,iI _ _,_,rfl,bS ?_⟩
 refine ⟨_,rfl,ll,rfl,⟨_,SqL.of hll⟩,?_⟩
 refine bM (F:=K) (xs:=ls.map V.int) (by rw [List.length_map];omega) (fun i ys H'=>H = H' ∧ ys = (List.replicate i true).map V.bl) ⟨rfl,rfl⟩ ?_ ?_ ?_
 ·rintro i ys H' hi' ⟨rfl,rfl⟩
  rw [List.length_map] at hi'
  exact ⟨SqL.of hll,by rw [List.length_map,List.length_replicate];omega⟩
 ·rintro i xv ys H' K1 K2 hx ⟨rfl,rfl⟩ k1 k2
  obtain ⟨lv,elv⟩:∃ l,ls[i]? = some l:=by
   have:=(List.getElem?_eq_some_iff.mp hx).1
   rw [List.length_map] at this
   exact ⟨_,List.getElem?_eq_getElem this⟩
  rw [List.getElem?_map,elv] at hx
  cases hx
  have hg:=hls lv (List.mem_of_getElem? elv)
  refine ⟨_,rfl,_,rfl,.int lv,rfl,k1 _ _ ⟨rfl,?_⟩⟩
  rw [show bT (.int lv) = true from hg,List.replicate_succ',List.map_append]
  rfl
 rintro ys H' ⟨rfl,rfl⟩
 rw [List.length_map]
 intro la hla
 have A0:=aH.upd (o:=.lst ((List.replicate ls.length true).map V.bl)) hla
 refine ⟨la,_,rfl,SqL.of aB,_,rfl,?_⟩
 rw [show (List.replicate ls.length true).all id = true from List.all_eq_true.mpr fun x m=>by rw [List.eq_of_mem_replicate m];rfl]
 refine bS ?_
 refine ⟨aI rfl,fun l hl=>?_⟩
 have A1:=aH.upd (o:=.lst []) hl
 have B:=A0.trans A1
 have nl:H l = none:=A0.free hl
 have kl:upd (upd H la (.lst ((List.replicate ls.length true).map V.bl))) l (.lst []) l = some (.lst []):=aB
 generalize upd (upd H la (.lst ((List.replicate ls.length true).map V.bl))) l (.lst []) = H1 at B kl ⊢
 obtain ⟨dx0,F0,ldp,lop,lwp,hpH,sfH,_⟩:=SA.ex
 have hdwH:=SA.dwt
 have Ylt:∀ {H':Hp},qZ p dw H H' → lO H H':=fun Y b o e l=>Y b o e (fun z=>by rw [z,hpH] at e;cases e;cases l) (fun z=>by rw [z,hdwH] at e;cases e;cases l)
 refine ⟨_,rfl,ll,rfl,⟨_,SqL.of (B _ _ hll)⟩,?_⟩
 refine kT (K:=K) (a:=ll) (xs:=ls.map V.int) (fun i σ G=>∃ (v3:Option V) (es:List Te) (Hs:Hp),σ = [some (.ref p),some (.ref ll),some (.ref l),v3] ∧ qZ p dw H G ∧ aH Hs G ∧ kZ CS C Hs p dw pl fs ds xs (sgo fs ds xs s0 (ls.take i)) ∧ Hs l = none ∧ G l = some (.lst (es.map fun e=>V.ref e.t)) ∧ es.map (·.s) = mD fs ds xs s0 (ls.take i) ∧ ∀ e ∈ es,e.ok H Hs G l)
  ⟨_,[],H,rfl,fun b o e _ _=>B _ _ e,B,SA,nl,kl,rfl,fun e m=>by cases m⟩ (fun i σ G _ ⟨_,_,_,_,Y,_⟩=>SqL.of (Ylt Y _ _ hll rfl)) ?_ ?_
 ·rintro i xv σ G hx ⟨v3,es,Hs,rfl,Y,SG,SS,nls,hlG,ees,oke⟩
  have hil:i < ls.length:=by have:=(List.getElem?_eq_some_iff.mp hx).1;rw [List.length_map] at this;exact this
  obtain ⟨lv,elv⟩:∃ l,ls[i]? = some l:=⟨_,List.getElem?_eq_getElem hil⟩
  rw [List.getElem?_map,elv] at hx
  cases hx
  have mlv:=List.mem_of_getElem? elv
  have tk:ls.take (i + 1) = ls.take i ++ [lv]:=by rw [List.take_add_one,elv];rfl
  have esg:sgo fs ds xs s0 (ls.take (i + 1)) = lC fs ds xs (sgo fs ds xs s0 (ls.take i)) lv:=by rw [tk,aFB]
  have est:mD fs ds xs s0 (ls.take (i + 1)) = mD fs ds xs s0 (ls.take i) ++ [lC fs ds xs (sgo fs ds xs s0 (ls.take i)) lv]:=by rw [tk,rW]
  have eln:es.length = i:=by have:=congrArg List.length ees;rw [List.length_map,uQ,List.length_take] at this;omega
  rw [esg,est]
  generalize mD fs ds xs s0 (ls.take i) = st at ees ⊢
  generalize sgo fs ds xs s0 (ls.take i) = s1 at SS ⊢
  have SAG:=SeaAt.same SG SS
  obtain ⟨dx5,F5,ld5,lo5,lw5,hp5,sf5,_⟩:=SAG.ex
  have hdw5:=SAG.dwt
  refine ⟨_,rfl,.inl ⟨rfl,_,SqL.of hlG⟩,_,rfl,p,dx5,F5,rfl,hp5,sf5.no _ (by decide +kernel),_,rfl,_,_,rfl,p,dw,pl,fs,ds,xs,s1.op,s1.wt,s1.n,lv,s1.cnt,rfl,SAG,rfl,hls lv mlv,fun t lo2 lw2 H0 G6 Y6 SA6 DX S6 nt nlo2 nlw2 n1 n2 n3 ht hlo2 hlw2=>?_⟩
  obtain ⟨Hs',SH0,SAs,nn⟩:=aIT SG SS Y6 SA6 DX
  have SAs:kZ CS C Hs' p dw pl fs ds xs (lC fs ds xs s1 lv):=SAs
  have nl':=nn _ _ hlG nls
  have K6:∀ b o,G b = some o → b ≠ p → b ≠ dw → G6 b = some o:=fun b o e m1 m2=>S6 _ _ (Y6 _ _ e m1 m2)
  have hp0:∃ o,H0 p = some o:=by obtain ⟨dx,F,_,_,_,e,_⟩:=SA6.ex;exact ⟨_,e⟩
  have fr:∀ {b c:Addr} {o:HO},G b = some o → H0 c = none → b ≠ c:=fun {b c o} e h z=>by
   subst z
   by_cases m1:b = p
   ·subst m1
    obtain ⟨o',e'⟩:=hp0
    rw [h] at e'
    cases e'
   ·by_cases m2:b = dw
    ·subst m2
     rw [SA6.dwt] at h
     cases h
    ·rw [Y6 _ _ e m1 m2] at h
     cases h
  have frH:∀ {c:Addr},H0 c = none → H c = none:=fun {c} h=>by
   cases e:H c with
   | none=>rfl
   | some o=>exact absurd rfl (fr (Y _ _ e (fun z=>fr hp5 h z.symm) (fun z=>fr hdw5 h z.symm)) h)
  have lp:l ≠ p:=fun z=>by rw [z,hp5] at hlG;cases hlG
  have ld':l ≠ dw:=fun z=>by rw [z,hdw5] at hlG;cases hlG
  have hl6:=K6 _ _ hlG lp ld'
  refine ⟨l,_,.ref t,rfl,rfl,hl6,by rw [List.length_map];omega,?_⟩
  have tl:t ≠ l:=(fr hlG nt).symm
  have lol:lo2 ≠ l:=(fr hlG nlo2).symm
  have lwl:lw2 ≠ l:=(fr hlG nlw2).symm
  have U:∀ b o,G6 b = some o → b ≠ l → upd G6 l (.lst (es.map (fun e=>V.ref e.t) ++ [V.ref t])) b = some o:=fun b o e n=>by rw [aT n];exact e
  have f2:=gf.l2
  refine ⟨_,es ++ [⟨t,lo2,lw2,lC fs ds xs s1 lv⟩],Hs',rfl,fun b o e m1 m2=>U _ _ (K6 _ _ (Y _ _ e m1 m2) m1 m2) (aQ e nl),fun b o e=>U _ _ (S6 _ _ (SH0 _ _ e)) (fun z=>by rw [z,nl'] at e;cases e),SAs,nl',?_,?_,fun e m=>?_⟩
  ·rw [aB,List.map_append]
   rfl
  ·rw [List.map_append,ees]
   rfl
  ·rcases List.mem_append.mp m with m | m
   ·have k:=oke e m
    have nLT:∀ {b:Addr} {o:HO},G b = some o → aDD o = true → b ≠ p ∧ b ≠ dw:=fun {b o} e l=>⟨(fun z=>by rw [z,hp5] at e;cases e;cases l),(fun z=>by rw [z,hdw5] at e;cases e;cases l)⟩
    have up:∀ {b:Addr} {o:HO},G b = some o → aDD o = true → b ≠ l → upd G6 l (.lst (es.map (fun e=>V.ref e.t) ++ [V.ref t])) b = some o:=fun {b o} e l n=>U _ _ (K6 _ _ e (nLT e l).1 (nLT e l).2) n
    exact ⟨up k.a rfl k.xt,up k.b rfl k.xo,up k.c rfl k.xw,k.lb,k.lc,nn _ _ k.a k.ht,nn _ _ k.b k.ho,nn _ _ k.c k.hw,k.no,k.nw,k.xo,k.xw,k.xt⟩
   ·cases List.mem_singleton.mp m
    exact ⟨U _ _ ht tl,U _ _ hlo2 lol,U _ _ hlw2 lwl,SA6.lop,Nat.le_trans (List.length_filter_le _ _) (by rw [List.length_map];omega),SH0.free nt,SH0.free nlo2,SH0.free nlw2,frH nlo2,frH nlw2,lol,lwl,tl⟩
 ·rintro σ G ⟨v3,es,Hs,rfl,Y,SG,SS,nls,hlG,ees,oke⟩
  rw [List.length_map,List.take_of_length_le (Nat.le_refl _)] at SS ees
  exact ⟨_,rfl,q l es Hs G Y SG SS nl nls hlG ees oke⟩
def uR (mg:Str → Option Value) (C:Addr):Sp:=fun vs H Q E=>∃ (x y:V) (p:Addr) (fs ds:List Dv) (d:Dv) (c:Addr),vs = [x,y] ∧ x = .ref p ∧ LandAt C H p fs ds ∧ Is H d y ∧ bP d = true ∧ gA ((ds.filter aO).map aL) (fs.map aL) d = false ∧ mg "NoDecree" = some (.ref c) ∧ ∀ H',aH H H' → E (.ref c) none H'
theorem nY (T:Txt K mg C):FcX P w K mg base 6 "check_decrees" ["land","thing"] (uR mg C):=by
 obtain ⟨c_NoDecree,c_NoLevel,c_DykeError,ex_NoDecree,ex_NoLevel,hm_NoDecree,hm_NoLevel,hm_DykeError,kx_NoDecree_DykeError,kx_NoDecree_NoDecree,kx_NoDecree_ValueError,kx_NoDecree_NoLevel,kx_NoLevel_DykeError,kx_NoLevel_NoLevel,kx_NoLevel_ValueError,kx_NoLevel_NoDecree,xc_NoDecree_DykeError,xc_NoLevel_DykeError⟩:=T.xs
 have G_p_are_decrees:Fc P w K mg base 5 "are_decrees" ["land","thing"] (zH C):=kM T
 refine T.d_p_check_decrees.fcX iZ (fun vs H Q E h=>?_) (fun f cdv A outer s H vs Q E hr h=>?_)
 ·obtain ⟨x,y,p,fs,ds,d,c,rfl,_⟩:=h
  rfl
 obtain ⟨x,y,p,fs,ds,d,c,rfl,rfl,L,hd,sm,bad,hc,q⟩:=h
 rw [hm_NoDecree] at hc
 cases hc
 refine ⟨_,(aG (@cQ _ _ _ _ _ _ _ _ (@cU _ _ _ _ (@cB _ _ _ (@bN _ _ _ _ _ _ _ _ _ _ G_p_are_decrees (hr.mono (by decide)) (aA (pv 0) (aA (pv 1) aD)) (by rfl) (by decide) (by rfl) (by rfl)) (by intro _;rfl))) (aJ (@sN _ _ _ _ _ _ _ _ _ _ hm_NoDecree ex_NoDecree.ex rfl qF (aA bJ aD) (by rfl) (by decide) (by rfl) (by rfl))) bG) nL),?_⟩
 refine ⟨_,rfl,_,rfl,_,_,rfl,p,fs,ds,d,rfl,L,hd,sm,fun H1 S1=>⟨_,rfl,?_⟩⟩
 rw [bad]
 exact cL ⟨aI rfl,q _ S1⟩
def aAY (mg:Str → Option Value) (CS C:Addr):Sp:=fun vs H Q E=>∃ (x y z:V) (p dx pl:Addr) (fs ds:List Dv) (d:Dv) (c:Addr),vs = [x,y,z] ∧ x = .ref p ∧ H p = some (.ins CS dx []) ∧ y = .ref pl ∧ LandAt C H pl fs ds ∧ Is H d z ∧ bP d = true ∧ gA ((ds.filter aO).map aL) (fs.map aL) d = false ∧ mg "NoDecree" = some (.ref c) ∧ ∀ H',aH H H' → E (.ref c) none H'
theorem qG (T:Txt K mg C) {CS:Addr} (hCS:mg "Season" = some (.ref CS)):IcX P w K mg base 7 CS ["self","land","decrees"] (aAY mg CS C):=by
 obtain ⟨C_Season,cl_Season,mg_Season,na_on_land,na_own_decrees,na_open_names,na_wet_names,na_day_count,na_wet_counts,i_Season,m_season_p_day,m_season_p_days,m_season_p_opened,m_season_p_wet,m_season_p_count,m_season_p_wet_days,m_season_p_onto⟩:=T.k_Season
 rw [hCS] at mg_Season
 cases mg_Season
 have G_p_check_decrees:FcX P w K mg base 6 "check_decrees" ["land","thing"] (uR mg C):=nY T
 refine i_Season.icX lQ (fun vs H Q E h=>?_) (fun f cdv A outer s H vs Q E hr h=>?_)
 ·obtain ⟨x,y,z,p,dx,pl,fs,ds,d,c,rfl,_⟩:=h
  rfl
 obtain ⟨x,y,z,p,dx,pl,fs,ds,d,c,rfl,rfl,hp,rfl,L,hd,sm,bad,hc,q⟩:=h
 refine ⟨_,(aG (@fZ _ _ _ _ (aMF G_p_check_decrees (hr.mono (by decide)) aID (aA (pv 1) (aA (pv 2) aD))) (by rfl)) nL),?_⟩
 exact ⟨_,rfl,_,rfl,_,_,pl,fs,ds,d,c,rfl,rfl,L,hd,sm,bad,hc,q⟩
def aAZ (mg:Str → Option Value) (CS C:Addr):Sp:=fun vs H Q E=>∃ (x y:V) (d:Dv) (c:Addr),vs = [x,y] ∧ Is H d y ∧ bT d = false ∧ mg "NoLevel" = some (.ref c) ∧ E (.ref c) none H
theorem qI (T:Txt K mg C) {CS:Addr} (hCS:mg "Season" = some (.ref CS)):McX P w K mg base 8 CS "day" ["self","level"] (aAZ mg CS C):=by
 obtain ⟨c_NoDecree,c_NoLevel,c_DykeError,ex_NoDecree,ex_NoLevel,hm_NoDecree,hm_NoLevel,hm_DykeError,kx_NoDecree_DykeError,kx_NoDecree_NoDecree,kx_NoDecree_ValueError,kx_NoDecree_NoLevel,kx_NoLevel_DykeError,kx_NoLevel_NoLevel,kx_NoLevel_ValueError,kx_NoLevel_NoDecree,xc_NoDecree_DykeError,xc_NoLevel_DykeError⟩:=T.xs
 have G_p_is_height:Fc P w K mg base 2 "is_height" ["thing"] gM:=cX T
 obtain ⟨C_Season,cl_Season,mg_Season,na_on_land,na_own_decrees,na_open_names,na_wet_names,na_day_count,na_wet_counts,i_Season,m_season_p_day,m_season_p_days,m_season_p_opened,m_season_p_wet,m_season_p_count,m_season_p_wet_days,m_season_p_onto⟩:=T.k_Season
 rw [hCS] at mg_Season
 cases mg_Season
 refine m_season_p_day.mcX fV (fun vs H Q E h=>?_) (fun f cdv A outer s H vs Q E hr h=>?_)
 ·obtain ⟨x,y,d,c,rfl,_⟩:=h
  rfl
 obtain ⟨x,y,d,c,rfl,hd,bad,hc,q⟩:=h
 rw [hm_NoLevel] at hc
 cases hc
 refine ⟨_,(aG (@cQ _ _ _ _ _ _ _ _ (@cU _ _ _ _ (@cB _ _ _ (@bN _ _ _ _ _ _ _ _ _ _ G_p_is_height (hr.mono (by decide)) (aA (pv 1) aD) (by rfl) (by decide) (by rfl) (by rfl)) (by intro _;rfl))) (aJ (@sN _ _ _ _ _ _ _ _ _ _ hm_NoLevel ex_NoLevel.ex rfl qF (aA bJ aD) (by rfl) (by decide) (by rfl) (by rfl))) bG) nL),?_⟩
 refine ⟨_,rfl,_,rfl,d,hd,_,rfl,?_⟩
 rw [bad]
 exact cL ⟨aI rfl,q⟩
def xN (mg:Str → Option Value) (CS C:Addr):Sp:=fun vs H Q E=>∃ (x y:V) (l:Addr) (us:List V) (es:List Dv) (c:Addr),vs = [x,y] ∧ y = .ref l ∧ H l = some (.lst us) ∧ IsL H es us ∧ es.length ≤ 1000 ∧ es.all bT = false ∧ mg "NoLevel" = some (.ref c) ∧ ∀ H',aH H H' → E (.ref c) none H'
theorem pN (T:Txt K mg C) {CS:Addr} (hCS:mg "Season" = some (.ref CS)):McX P w K mg base 9 CS "days" ["self","levels"] (xN mg CS C):=by
 obtain ⟨c_NoDecree,c_NoLevel,c_DykeError,ex_NoDecree,ex_NoLevel,hm_NoDecree,hm_NoLevel,hm_DykeError,kx_NoDecree_DykeError,kx_NoDecree_NoDecree,kx_NoDecree_ValueError,kx_NoDecree_NoLevel,kx_NoLevel_DykeError,kx_NoLevel_NoLevel,kx_NoLevel_ValueError,kx_NoLevel_NoDecree,xc_NoDecree_DykeError,xc_NoLevel_DykeError⟩:=T.xs
 have G_p_is_height:Fc P w K mg base 2 "is_height" ["thing"] gM:=cX T
 obtain ⟨C_Season,cl_Season,mg_Season,na_on_land,na_own_decrees,na_open_names,na_wet_names,na_day_count,na_wet_counts,i_Season,m_season_p_day,m_season_p_days,m_season_p_opened,m_season_p_wet,m_season_p_count,m_season_p_wet_days,m_season_p_onto⟩:=T.k_Season
 rw [hCS] at mg_Season
 cases mg_Season
 refine m_season_p_days.mcX fF (fun vs H Q E h=>?_) (fun f cdv A outer s H vs Q E hr h=>?_)
 ·obtain ⟨x,y,l,us,es,c,rfl,_⟩:=h
  rfl
 obtain ⟨x,y,l,us,es,c,rfl,rfl,hl,iu,les,bad,hc,q⟩:=h
 rw [hm_NoLevel] at hc
 cases hc
 have big:=cF
 have lu:=iu.length
 refine ⟨_,(aG (@cQ _ _ _ _ _ _ _ _ (@PW.pt _ _ _ (@kJ _ _ _ _ _ _ _ (@cU _ _ _ _ (@cB _ _ _ (@aR _ _ _ _ _ _ _ _ _ (@cO _ (K) rfl) rfl T.n_isinstance bB (aA (pv 1) (aA (@kL _ _ _ _ T.n_list dI (by rfl) (by decide) (by decide)) aD)) (by decide) (by decide) (by rfl) (by rfl)) (by intro _;rfl))) (@jG _ _ _ _ (@cU _ _ _ _ (@cB _ _ _ (@aR _ _ _ _ _ _ _ _ _ (@gU _ rfl) rfl T.n_all fJ (aA (@cJ _ _ _ _ _ _ _ _ _ _ _ ["level"] 1 [] rfl (@bV _ (K) _ _ _ rfl (@bW _ _ _ _ (pv 1))) (fun R=>@aX _ _ (0) _ (show List.Nodup (["level"]:List Str) by decide +kernel) rfl (Or.inl rfl) (by trivial)) (@bC _ _ (by decide)) (fun R=>cH) (fun R=>(@bN _ _ _ _ _ _ _ _ _ _ G_p_is_height (hr.mono (by decide)) (aA (pv 0) aD) (by rfl) (by decide) (by rfl) (by rfl))) (by rfl) (by rfl) (by rfl) (by rfl) (by rfl) (by rfl) (by rfl) (by intro _;rfl)) aD) (by decide) (by decide) (by rfl) (by rfl)) (by intro _;rfl)))))) (aJ (@sN _ _ _ _ _ _ _ _ _ _ hm_NoLevel ex_NoLevel.ex rfl qF (aA bJ aD) (by rfl) (by decide) (by rfl) (by rfl))) bG) nL),?_⟩
 refine ⟨_,rfl,_,_,_,_,_,rfl,rfl,.lst hl,iI _ _,_,rfl,bS ?_⟩
 refine ⟨_,rfl,l,rfl,⟨_,SqL.of hl⟩,?_⟩
 refine bM (F:=K) (xs:=us) (by omega) (fun i ys H'=>H = H' ∧ ys = ((es.take i).map bT).map V.bl) ⟨rfl,rfl⟩ ?_ ?_ ?_
 ·rintro i ys H' hi' ⟨rfl,rfl⟩
  exact ⟨SqL.of hl,by rw [List.length_map,List.length_map,List.length_take];omega⟩
 ·rintro i xv ys H' K1 K2 hx ⟨rfl,rfl⟩ k1 k2
  have hil:i < us.length:=(List.getElem?_eq_some_iff.mp hx).1
  obtain ⟨e,ee⟩:∃ e,es[i]? = some e:=⟨_,List.getElem?_eq_getElem (by omega)⟩
  obtain ⟨v,ev,iv⟩:=iu.get ee
  rw [hx] at ev
  cases ev
  refine ⟨_,rfl,_,rfl,e,iv,k1 _ _ ⟨rfl,?_⟩⟩
  rw [List.take_add_one,ee,List.map_append,List.map_append]
  rfl
 ·rintro ys H' ⟨rfl,rfl⟩
  rw [lu,List.take_of_length_le (Nat.le_refl _)]
  intro p4 hp4
  refine ⟨p4,es.map bT,rfl,SqL.of aB,_,rfl,?_⟩
  rw [show (es.map bT).all id = false by rw [List.all_map];exact bad]
  exact cL ⟨aI rfl,q _ (aH.upd hp4)⟩
open Mt46
theorem pZ {gs zs:List Str} {a b c:Dv} (h:kY zs c = false):iJ gs zs (.tup [a,b,c]) = false:=by
 show ((_ && _) && kY zs c) = false
 rw [h,Bool.and_false]
theorem aGZ {gs zs:List Str} {a b c:Dv} (h:bD ["open","shut"] a = false):iJ gs zs (.tup [a,b,c]) = false:=by
 show ((bD ["open","shut"] a && _) && _) = false
 rw [h,Bool.false_and,Bool.false_and]
theorem yS {gs zs:List Str} {a b c:Dv} (h:bD gs b = false):iJ gs zs (.tup [a,b,c]) = false:=by
 show ((_ && bD gs b) && _) = false
 rw [h,Bool.and_false,Bool.false_and]
theorem yR {gs zs:List Str} {ds:List Dv} {d:Dv} (m:d ∈ ds) (h:iJ gs zs d = false):gA gs zs (.lst ds) = false:=by
 show (_ && ds.all (iJ gs zs)) = false
 have:ds.all (iJ gs zs) = false:=by
  rw [List.all_eq_false]
  exact ⟨d,m,by rw [h];exact Bool.false_ne_true⟩
 rw [this,Bool.and_false]
theorem aDV {zs:List Str} {cs:List Dv} {d:Dv} (h:fD zs d = false):kY zs (.lst (cs ++ [d])) = false:=by
 show (_ && (cs ++ [d]).all (fD zs)) = false
 have:(cs ++ [d]).all (fD zs) = false:=by
  rw [List.all_eq_false]
  exact ⟨d,List.mem_append_right _ (List.mem_singleton.mpr rfl),by rw [h];exact Bool.false_ne_true⟩
 rw [this,Bool.and_false]
theorem nH {ds:List Dv} (h:∀ d ∈ ds,bP d = true) (hl:ds.length ≤ 1000):bP (.tup ds) = true:=by
 show (decide (ds.length ≤ 1000) && eT ds) = true
 rw [decide_eq_true hl,kC h]
 rfl
def aIG:List Dv:=[.tup [.str "allways"],.tup [.str "above",.int (10 ^ (6:Int).toNat + 1)],.tup [.str "below",.bl true],.tup [.str "wet",.str noSuch],.tup [.str "day",.int 2,.int 2],.tup [.str "day",.int 0,.int 0],.tup [.str "day",.int 0,.int 101],.tup [.str "dry"],.lst [.str "always"],.non,.tup [.str "always",.int 1],.tup [.str "day",.int (-1),.int 5]]
theorem aCW {zs:List Str} (h:noSuch ∉ zs):∀ d ∈ aIG,fD zs d = false:=by
 intro d m
 unfold aIG at m
 have e:bD zs (.str noSuch) = false:=decide_eq_false h
 simp only [List.mem_cons,List.not_mem_nil,or_false] at m
 rcases m with rfl | rfl | rfl | rfl | rfl | rfl | rfl | rfl | rfl | rfl | rfl | rfl
 ·show bD ["always"] (.str "allways") = false
  decide +kernel
 ·show (if bD ["above","below"] (.str "above") then bT (.int (10 ^ (6:Int).toNat + 1)) else bD ["wet","dry"] (.str "above") && bD zs (.int (10 ^ (6:Int).toNat + 1))) = false
  rw [if_pos (by decide +kernel)]
  decide +kernel
 ·show (if bD ["above","below"] (.str "below") then bT (.bl true) else bD ["wet","dry"] (.str "below") && bD zs (.bl true)) = false
  rw [if_pos (by decide +kernel)]
  rfl
 ·show (if bD ["above","below"] (.str "wet") then bT (.str noSuch) else bD ["wet","dry"] (.str "wet") && bD zs (.str noSuch)) = false
  rw [if_neg (by decide +kernel),e,Bool.and_false]
 ·show (bD ["day"] (.str "day") && oG (.int 2) (.int 2)) = false
  decide +kernel
 ·show (bD ["day"] (.str "day") && oG (.int 0) (.int 0)) = false
  decide +kernel
 ·show (bD ["day"] (.str "day") && oG (.int 0) (.int 101)) = false
  decide +kernel
 ·show bD ["always"] (.str "dry") = false
  decide +kernel
 ·rfl
 ·rfl
 ·show (if bD ["above","below"] (.str "always") then bT (.int 1) else bD ["wet","dry"] (.str "always") && bD zs (.int 1)) = false
  rw [if_neg (by decide +kernel),show bD ["wet","dry"] (.str "always") = false by decide +kernel,Bool.false_and]
 ·show (bD ["day"] (.str "day") && oG (.int (-1)) (.int 5)) = false
  decide +kernel
theorem zS:∀ d ∈ aIG,bP d = true:=by decide +kernel
theorem pS {H:Hp} {ds:List Dv} {vs:List V} (h:IsL H ds vs) {i:Int} (h0:0 ≤ i) (h1:i < ds.length):∃ d v,d ∈ ds ∧ atI vs i = some v ∧ Is H d v:=by
 obtain ⟨k,rfl⟩:=Int.eq_ofNat_of_zero_le h0
 obtain ⟨d,ed⟩:∃ d,ds[k]? = some d:=⟨_,List.getElem?_eq_getElem (by omega)⟩
 obtain ⟨v,ev,iv⟩:=h.get ed
 exact ⟨d,v,List.mem_of_getElem? ed,aK ev,iv⟩
theorem pT {H:Hp}:∀ {ds:List Dv} {vs:List V} {es:List Dv} {us:List V},IsL H ds vs → IsL H es us → IsL H (ds ++ es) (vs ++ us)
 | [],_,_,_,h,k=>by
  cases (show _ = [] from h)
  exact k
 | d :: ds,_,_,_,⟨v,r,e,h,t⟩,k=>by
  subst e
  exact ⟨v,_,rfl,h,pT t k⟩
theorem aCX {ds:List Dv} (nd:(ds.map aL).Nodup) {d e:Dv} (md:d ∈ ds) (me:e ∈ ds) (h:aL d = aL e):d = e:=by
 induction ds with
 | nil=>cases md
 | cons a r ih =>
  rw [List.map_cons,List.nodup_cons] at nd
  rcases List.mem_cons.mp md with h1 | h1
  ·rcases List.mem_cons.mp me with h2 | h2
   ·rw [h1,h2]
   ·exact absurd (List.mem_map.mpr ⟨e,h2,by rw [← h,h1]⟩) nd.1
  ·rcases List.mem_cons.mp me with h2 | h2
   ·exact absurd (List.mem_map.mpr ⟨d,h1,by rw [h,h2]⟩) nd.1
   ·exact ih nd.2 h1 h2
theorem aHG {zs:List Str} {ds:List Dv} (gd:GoodD zs ds) (nx:∀ d ∈ ds,aL d ≠ noSuch) {z:Str} (m:z ∈ (ds.filter fun d=>!aO d).map aL ++ [noSuch,"sea",""]):z ∉ (ds.filter aO).map aL:=fun mg=>by
 obtain ⟨e,me,ee⟩:=List.mem_map.mp mg
 obtain ⟨me1,me2⟩:=List.mem_filter.mp me
 obtain ⟨n,a,b,c,r,s,rfl,hn,_⟩:=bX (gd.all e me1)
 have ee':n = z:=ee
 rcases List.mem_append.mp m with m | m
 ·obtain ⟨d,md,ed⟩:=List.mem_map.mp m
  obtain ⟨md1,md2⟩:=List.mem_filter.mp md
  have:=aCX gd.nd md1 me1 (ed.trans ee.symm)
  subst this
  rw [me2] at md2
  cases md2
 ·simp only [List.mem_cons,List.not_mem_nil,or_false] at m
  rcases m with rfl | rfl | rfl
  ·exact nx _ me1 ee
  ·exact aBJ hn ee'
  ·rw [ee'] at hn
   exact absurd hn (by decide +kernel)
theorem aAJ {zs:List Str} {ds:List Dv} (gd:GoodD zs ds) {z:Str} (m:z ∈ (ds.filter fun d=>!aO d).map aL ++ [noSuch,"sea",""]):bP (.str z) = true:=by
 rcases List.mem_append.mp m with m | m
 ·obtain ⟨d,md,rfl⟩:=List.mem_map.mp m
  obtain ⟨n,a,b,c,r,s,rfl,hn,_⟩:=bX (gd.all d (List.mem_filter.mp md).1)
  exact decide_eq_true (jL hn)
 ·simp only [List.mem_cons,List.not_mem_nil,or_false] at m
  rcases m with rfl | rfl | rfl <;> decide +kernel
open Mt46
theorem nxσ {f:L2.St → Hp → Prop} {σ σ':L2.St} {H:Hp} (e:σ = σ') (h:f σ' H):f σ H:=e ▸ h
theorem gσ {i:Nat} {v:V} {σ σ':L2.St} {H:Hp} {Q:L2.St → Hp → Prop} (e:σ.set i (some v) = σ') (h:Q σ' H):oH i v σ H Q:=by
 subst e
 exact h
theorem aEM {zs:List Str} {i:Int} (h0:0 ≤ i) (h1:i < zs.length):∃ z ∈ zs,atI (zs.map V.str) i = some (.str z):=by
 obtain ⟨k,rfl⟩:=Int.eq_ofNat_of_zero_le h0
 obtain ⟨z,ez⟩:∃ z,zs[k]? = some z:=⟨_,List.getElem?_eq_getElem (by omega)⟩
 exact ⟨z,List.mem_of_getElem? ez,aK (by rw [List.getElem?_map,ez];rfl)⟩
theorem aHH {H:Hp} {tn la ta:Addr} {a z:Str} (h1:H tn = some (.tup [.str a,.str z,.ref la])) (h2:H la = some (.lst [.ref ta])) (h3:H ta = some (.tup [.str "always"])):IsL H [.tup [.str a,.str z,.lst [.tup [.str "always"]]]] [.ref tn] :=
 ⟨_,_,rfl,⟨tn,_,rfl,h1,_,_,rfl,rfl,_,_,rfl,rfl,_,_,rfl,⟨la,_,rfl,h2,_,_,rfl,⟨ta,_,rfl,h3,_,_,rfl,rfl,rfl⟩,rfl⟩,rfl⟩,rfl⟩
theorem tM {H:Hp}:∀ (k:Nat) {ds:List Dv} {vs:List V},IsL H ds vs → IsL H (ds.drop k) (vs.drop k)
 | 0,_,_,h=>h
 | k + 1,[],_,h=>by
  cases (show _ = [] from h)
  rfl
 | k + 1,d :: ds,_,⟨v,r,e,h,t⟩=>by
  subst e
  exact tM k t
theorem aDS (xs:List V) (k:Nat):yV xs none (some (k:Int)) = xs.take k:=by
 unfold yV
 rw [HT.sIx_nat,HT.sIx_none,List.drop_zero,Nat.sub_zero]
 by_cases h:k ≤ xs.length
 ·rw [Nat.min_eq_left h]
 ·rw [Nat.min_eq_right (by omega),List.take_of_length_le (Nat.le_refl _),List.take_of_length_le (by omega)]
def xJ (K:PySem.W.Frag):Sp:=sp4 fun x y u v H Q=>∃ (lx ld lf:Addr) (vd:List V) (xs:List Dk) (fs ds:List Dv) (n:Int),x = .ref lx ∧ Decs H lx ((ds.filter aO).map aL) (fs.map aL) xs ∧ xs.length ≤ 60 ∧ y = .ref ld ∧ H ld = some (.lst vd) ∧ IsL H ds vd ∧ GoodD ("sea" :: fs.map aL) ds ∧ (∀ d ∈ ds,aL d ≠ noSuch) ∧ (∀ d ∈ fs,aL d ≠ noSuch) ∧ v = .int n ∧ 0 ≤ n ∧
 ∀ (w':V) (d:Dv) (H':Hp),aH H H' → Is H' d w' → bP d = true → gA ((ds.filter aO).map aL) (fs.map aL) d = false → Q w' H'
theorem aBX {H:Hp} {x y:V} {ds:List Dv} {Q:VK} (hx:Is H (.lst ds) x) (hy:Is H (.lst []) y) (f:aV 30 (.lst ds) = true) (q:Q (.bl (decide (ds = []))) H):aHT false x y H Q:=⟨.lst ds,.lst [],hx,hy,f,rfl,by
 have:(if false then !deq (.lst ds) (.lst []) else deq (.lst ds) (.lst [])) = decide (ds = []):=by
  cases ds with
  | nil=>rfl
  | cons d ds=>rfl
 rw [this]
 exact q⟩
theorem yE (T:Txt K mg C):Fc P w K mg base 1 "_law_spoilt" ["_law_decrees_here","_law_dykes_here","_law_fields_here","_law_cell"] (xJ K):=by
 refine T.d_l_spoilt.fc cK aDB (fun f cdv A outer s H vs Q E hr h=>?_)
 obtain ⟨x,y,u,v,rfl,lx,ld,lf,vd,xs,fs,ds,n,rfl,dc,lxs,rfl,hld,hid,gd,nxd,nxf,rfl,n0,q⟩:=h
 have big:=cF
 have hu:=pV hr
 have d2:=gd.l2
 have lvd:=hid.length
 obtain ⟨ux,hlx,ilx⟩:=dc.ex
 have lux:=ilx.length
 rw [List.length_map] at lux
 refine ⟨_,(aG (@lE _ (4) _ _ _ _ _ _ _ _ _ _ _ _ _ cK.nd rfl ["_law_deed","_law_name","_law_conditions"] 3 [] rfl (@bV _ (K) _ _ _ rfl (@bW _ _ _ _ (pv 0))) (fun R=>@aHY _ _ _ _ _ (3) (K) rfl rfl (@eQ _ _ _ _ _ (@aX _ _ (0) _ (show List.Nodup (["_law_deed","_law_name","_law_conditions"]:List Str) by decide +kernel) rfl (Or.inl rfl) (by trivial)) (@eQ _ _ _ _ _ (@aX _ _ (1) _ (show List.Nodup (["_law_deed","_law_name","_law_conditions"]:List Str) by decide +kernel) rfl (Or.inl rfl) (by trivial)) (@eQ _ _ _ _ _ (@aX _ _ (2) _ (show List.Nodup (["_law_deed","_law_name","_law_conditions"]:List Str) by decide +kernel) rfl (Or.inl rfl) (by trivial)) rM (by rfl)) (by rfl)) (by rfl)) (by rfl) (by rfl)) (@aDH _ _ _ _ (@mW _ _ _ (by decide) (@mW _ _ _ (by decide) (@mW _ _ _ (by decide) aAC)))) (fun R=>cH) (fun R=>(@bI _ _ _ _ _ (aA (pv 0) (aA (pv 1) (aA (@cP _ _ _ _ _ _ _ _ _ (@hZ _ (K) rfl) rfl T.n_list dI (aA (pv 2) aD) (by decide) (by decide) (by rfl) (by rfl)) aD))))) (by exact Or.inl rfl) (by trivial) (by rfl) (by rfl) (by rfl) (by rfl) (by rfl) (by rfl) (by rfl) (by rfl) (by intro _;rfl)) (aG (@bA _ _ (5) _ _ _ _ cK.nd rfl (Or.inl rfl) (@aM _ _ _ _ _ _ _ _ iN (@cJ _ _ _ _ _ _ _ _ _ _ _ ["_law_dyke"] 1 [] rfl (@bV _ (K) _ _ _ rfl (@bW _ _ _ _ (pv 1))) (fun R=>@aX _ _ (0) _ (show List.Nodup (["_law_dyke"]:List Str) by decide +kernel) rfl (Or.inl rfl) (by trivial)) (@bC _ _ (by decide)) (fun R=>@iH _ _ _ (@bZ _ _ _ _ _ _ _ _ aFR (@aY _ _ _ _ _ _ _ (@aS _ (K) rfl) (pv 0) aE (fun _ _=>rfl)) jX (@bR _ _ (by decide) (by decide)))) (fun R=>(@aY _ _ _ _ _ _ _ (@aS _ (K) rfl) (pv 0) aE (fun _ _=>rfl))) (by rfl) (by rfl) (by rfl) (by rfl) (by rfl) (by rfl) (by rfl) (by intro _;rfl)) (@bK _ _ _ _ (aA bJ (aA bJ (aA bJ aD))))) (by rfl) (by trivial)) (aG (@lE _ (6) _ _ _ _ _ _ _ _ _ _ _ _ _ cK.nd rfl ["_law_dyke"] 1 [] rfl (@bV _ (K) _ _ _ rfl (@bW _ _ _ _ (pv 1))) (fun R=>@aX _ _ (0) _ (show List.Nodup (["_law_dyke"]:List Str) by decide +kernel) rfl (Or.inl rfl) (by trivial)) (@bC _ _ (by decide)) (fun R=>@iH _ _ _ (@bZ _ _ _ _ _ _ _ _ rN (@aY _ _ _ _ _ _ _ (@aS _ (K) rfl) (pv 0) aE (fun _ _=>rfl)) jX (@bR _ _ (by decide) (by decide)))) (fun R=>(@aY _ _ _ _ _ _ _ (@aS _ (K) rfl) (pv 0) aE (fun _ _=>rfl))) (by exact Or.inl rfl) (by trivial) (by rfl) (by rfl) (by rfl) (by rfl) (by rfl) (by rfl) (by rfl) (by rfl) (by intro _;rfl)) (aG (@cQ _ _ _ _ _ _ _ _ (@bZ _ _ _ _ _ _ _ _ (@zP _ hr.units) (pv 6) (@bK _ _ _ _ aD) (@bR _ _ (by decide) (by decide))) (aJ (@aU _ _ _ _ (@aM _ _ _ _ _ _ _ _ iN (pv 4) (@bK _ _ _ _ (aA (@bI _ _ _ _ _ (aA bJ (aA (@aY _ _ _ _ _ _ _ (@bY _ (K) rfl) (pv 5) (@aM _ _ _ _ _ _ _ _ bQ (@aM _ _ _ _ _ _ _ _ bE (pv 3) aE) (@aR _ _ _ _ _ _ _ _ _ (@bL _ (K) rfl) rfl T.n_len cG (aA (pv 5) aD) (by decide) (by decide) (by rfl) (by rfl))) (fun _ _=>rfl)) (aA (@bK _ _ _ _ (aA (@bI _ _ _ _ _ (aA bJ aD)) aD)) aD)))) aD))))) bG) (aG (@aKH _ _ _ _ _ _ (@aY _ _ _ _ _ _ _ (@bY _ (K) rfl) (@aM _ _ _ _ _ _ _ _ iN (pv 4) (@bK _ _ _ _ (aA (@bI _ _ _ _ _ (aA bJ (aA (@aY _ _ _ _ _ _ _ (@bY _ (K) rfl) (pv 6) aE (fun _ _=>rfl)) (aA (@bK _ _ _ _ (aA (@bI _ _ _ _ _ (aA bJ aD)) aD)) aD)))) aD))) aE (fun _ _=>rfl)) (@zM _ (K) _ _ _ _ _ rfl 3 rfl (@vX _ _ _ _ _ _ rfl (@eQ _ _ _ _ _ (@aX _ _ (7) _ cK.nd rfl (Or.inl rfl) (by trivial)) (@eQ _ _ _ _ _ (@aX _ _ (8) _ cK.nd rfl (Or.inl rfl) (by trivial)) (@eQ _ _ _ _ _ (@aX _ _ (9) _ cK.nd rfl (Or.inl rfl) (by trivial)) rM (by rfl)) (by rfl)) (by rfl)) (by rfl) (by rfl))) (by rfl) (by rfl) (by rfl)) (aG (@bA _ _ (10) _ _ _ _ cK.nd rfl (Or.inl rfl) (@bK _ _ _ _ (@aA _ _ _ _ _ (@bI _ _ _ _ _ (aA bJ aD)) (@aA _ _ _ _ _ (@bI _ _ _ _ _ (aA bJ (aA (@aM _ _ _ _ _ _ _ _ dY (@aM _ _ _ _ _ _ _ _ dL aE aE) aE) aD))) (@aA _ _ _ _ _ (@bI _ _ _ _ _ (aA bJ (aA gS aD))) (@aA _ _ _ _ _ (@bI _ _ _ _ _ (aA bJ (aA bJ aD))) (@aA _ _ _ _ _ (@bI _ _ _ _ _ (aA bJ (@aA _ _ _ _ _ aE (@aA _ _ _ _ _ aE aD (by rfl)) (by rfl)))) (@aA _ _ _ _ _ (@bI _ _ _ _ _ (aA bJ (@aA _ _ _ _ _ aE (@aA _ _ _ _ _ aE aD (by rfl)) (by rfl)))) aD (by rfl)) (by rfl)) (by rfl)) (by rfl)) (by rfl)) (by rfl))) (by rfl) (by trivial)) (aG (@bA _ _ (10) _ _ _ _ cK.nd rfl (Or.inl rfl) (@aM _ _ _ _ _ _ _ _ iN (pv 10) (@bK _ _ _ _ (@aA _ _ _ _ _ (@bI _ _ _ _ _ (aA bJ (@aA _ _ _ _ _ aE (@aA _ _ _ _ _ aE aD (by rfl)) (by rfl)))) (@aA _ _ _ _ _ (@bI _ _ _ _ _ (aA bJ aD)) (@aA _ _ _ _ _ (@bK _ _ _ _ (aA bJ aD)) (@aA _ _ _ _ _ jX (@aA _ _ _ _ _ (@bI _ _ _ _ _ (aA bJ (@aA _ _ _ _ _ aE aD (by rfl)))) (@aA _ _ _ _ _ (@bI _ _ _ _ _ (aA bJ (aA (@aBN _ _ _ _ _ _ vO aE) (@aA _ _ _ _ _ aE aD (by rfl))))) aD (by rfl)) (by rfl)) (by rfl)) (by rfl)) (by rfl)) (by rfl)))) (by rfl) (by trivial)) (aG (@bA _ _ (11) _ _ _ _ cK.nd rfl (Or.inl rfl) (@bK _ _ _ _ (aA (@bI _ _ _ _ _ (aA bJ (aA (pv 8) (aA (pv 9) aD)))) (aA (@bI _ _ _ _ _ (aA (pv 7) (aA (@aY _ _ _ _ _ _ _ (@bY _ (K) rfl) (pv 5) (@aM _ _ _ _ _ _ _ _ bQ (@aM _ _ _ _ _ _ _ _ bE (pv 3) aE) (@aR _ _ _ _ _ _ _ _ _ (@bL _ (K) rfl) rfl T.n_len cG (aA (pv 5) aD) (by decide) (by decide) (by rfl) (by rfl))) (fun _ _=>rfl)) (aA (pv 9) aD)))) (aA (@bI _ _ _ _ _ (aA (pv 7) (aA (pv 8) (aA (@bK _ _ _ _ aD) aD)))) aD)))) (by rfl) (by trivial)) (aG (@bA _ _ (11) _ _ _ _ cK.nd rfl (Or.inl rfl) (@aM _ _ _ _ _ _ _ _ iN (pv 11) (@bK _ _ _ _ (aA (@bI _ _ _ _ _ (aA (pv 7) (aA (pv 8) (aA (@aM _ _ _ _ _ _ _ _ aKM (@bK _ _ _ _ (aA (@bI _ _ _ _ _ (aA bJ aD)) aD)) aE) aD)))) (aA (@bI _ _ _ _ _ (aA (pv 7) (aA (pv 8) (aA (@aM _ _ _ _ _ _ _ _ iN (pv 9) (@bK _ _ _ _ (aA (@aY _ _ _ _ _ _ _ (@bY _ (K) rfl) (pv 10) (@aM _ _ _ _ _ _ _ _ bQ (@aM _ _ _ _ _ _ _ _ bE (pv 3) aE) aE) (fun _ _=>rfl)) aD))) aD)))) aD)))) (by rfl) (by trivial)) (aG (@bA _ _ (11) _ _ _ _ cK.nd rfl (Or.inl rfl) (@aM _ _ _ _ _ _ _ _ iN (pv 11) (@bK _ _ _ _ (aA (@bK _ _ _ _ (aA (pv 7) (aA (pv 8) (aA (pv 9) aD)))) (aA (@bI _ _ _ _ _ (aA (pv 7) (aA (pv 8) aD))) (aA (@bI _ _ _ _ _ (aA (pv 7) (aA (pv 8) (aA (@cP _ _ _ _ _ _ _ _ _ oI rfl T.n_tuple nB (aA (pv 9) aD) (by decide) (by decide) (by rfl) (by rfl)) aD)))) aD))))) (by rfl) (by trivial)) (aG (@cQ _ _ _ _ _ _ _ _ (@bZ _ _ _ _ _ _ _ _ jQ (@aM _ _ _ _ _ _ _ _ bQ (pv 3) aE) aE (@bR _ _ (by decide) (by decide))) (aJ (@aU _ _ _ _ (@aY _ _ _ _ _ _ _ (@bY _ (K) rfl) (@bK _ _ _ _ (aA jX (aA aE (aA bJ (aA (@cP _ _ _ _ _ _ _ _ _ oI rfl T.n_tuple nB (aA (pv 4) aD) (by decide) (by decide) (by rfl) (by rfl)) (aA xY aD)))))) (@aM _ _ _ _ _ _ _ _ bQ (@aM _ _ _ _ _ _ _ _ bE (pv 3) aE) aE) (fun _ _=>rfl)))) bG) (aG (@bA _ _ (12) _ _ _ _ cK.nd rfl (Or.inl rfl) (@aM _ _ _ _ _ _ _ _ bQ (@aM _ _ _ _ _ _ _ _ bE (pv 3) aE) (@aM _ _ _ _ _ _ _ _ dY (@aR _ _ _ _ _ _ _ _ _ (@bL _ (K) rfl) rfl T.n_len cG (aA (pv 4) aD) (by decide) (by decide) (by rfl) (by rfl)) aE)) (by rfl) (by trivial)) (aJ (@aU _ _ _ _ (@aM _ _ _ _ _ _ _ _ iN (@aM _ _ _ _ _ _ _ _ iN (@mJ _ _ _ _ _ _ _ _ _ _ (@sD _ (K) rfl) (pv 4) pK (@pJ _ _ _ (pv 12))) (@bK _ _ _ _ (aA (@aY _ _ _ _ _ _ _ (@bY _ (K) rfl) (pv 11) (@aM _ _ _ _ _ _ _ _ bQ (pv 3) aE) (fun _ _=>rfl)) aD))) (@mJ _ _ _ _ _ _ _ _ _ _ (@sD _ (K) rfl) (pv 4) (@pJ _ _ _ (pv 12)) pK)))))))))))))))),?_⟩
 refine kD fun u1 hu1=>?_
 refine ⟨_,rfl,lx,rfl,⟨_,SqL.of hlx⟩,?_⟩
 refine bM (F:=K) (xs:=ux) (by omega) (fun i ys H'=>aH H H' ∧ IsL H' ((xs.take i).map dkD) ys) ⟨aH.refl _,rfl⟩ ?_ ?_ ?_
 ·rintro i ys H' hi' ⟨S,iy⟩
  have:=iy.length
  rw [List.length_map,List.length_take] at this
  exact ⟨SqL.of (S _ _ hlx),by omega⟩
 ·rintro i xv ys H' K1 K2 hx ⟨S,iy⟩ k1 k2
  have hil:i < ux.length:=(List.getElem?_eq_some_iff.mp hx).1
  obtain ⟨x,ex⟩:∃ x,xs[i]? = some x:=⟨_,List.getElem?_eq_getElem (by omega)⟩
  obtain ⟨v,ev,iv⟩:=ilx.get (show (xs.map dkD)[i]? = some (dkD x) by rw [List.getElem?_map,ex];rfl)
  rw [hx] at ev
  cases ev
  obtain ⟨a',g,cs⟩:=x
  obtain ⟨t,lc,cus,rfl,o,hlc,ic⟩:=wQ iv
  refine ⟨t,_,rfl,SqT.of (S _ _ o),rfl,_,_,rfl,_,_,rfl,_,_,rfl,rfl,?_⟩
  refine ⟨_,rfl,_,rfl,_,rfl,lc,_,rfl,.inl (SqL.of (S _ _ hlc)),fun l1 hl1=>?_⟩
  have A1:=aH.upd (o:=.lst cus) hl1
  refine ⟨aI rfl,fun pt hpt=>?_⟩
  have A2:=aH.upd (o:=.tup [.str a',.str g,.ref l1]) hpt
  have SS:=S.trans (A1.trans A2)
  refine k1 _ _ ⟨SS,?_⟩
  rw [List.take_add_one,ex,List.map_append]
  refine IsL.snoc ?_ (IsL.same (A1.trans A2) _ _ iy)
  exact ⟨pt,_,rfl,aB,_,_,rfl,rfl,_,_,rfl,rfl,_,_,rfl,⟨l1,cus,rfl,A2 _ _ aB,IsL.same SS _ _ ic⟩,rfl⟩
 rintro ys H1' ⟨S1',iy⟩
 rw [List.take_of_length_le (by omega)] at iy
 intro ls hls
 have A1:=aH.upd (o:=.lst ys) hls
 have S1:=S1'.trans A1
 have hls1:upd H1' ls (.lst ys) ls = some (.lst ys):=aB
 have isome:=IsL.same A1 _ _ iy
 have lys:=iy.length
 rw [List.length_map] at lys
 clear iy
 generalize upd H1' ls (.lst ys) = H1 at A1 S1 hls1 isome ⊢
 refine hu1 _ _ _ ?_
 refine xT fun u2 hu2=>?_
 have hld1:=S1 _ _ hld
 have hid1:=IsL.same S1 _ _ hid
 refine ⟨_,rfl,ld,rfl,⟨_,SqL.of hld1⟩,?_⟩
 refine bM (F:=K) (xs:=vd) (by omega) (fun i ys H'=>H1 = H' ∧ ys = (((ds.take i).filter fun d=>!aO d).map aL).map V.str ∧ ys.length ≤ i) ⟨rfl,rfl,Nat.le_refl _⟩ ?_ ?_ ?_
 ·rintro i ys H' hi' ⟨rfl,rfl,hy⟩
  exact ⟨SqL.of hld1,hy⟩
 ·rintro i xv ys H' K1 K2 hx ⟨rfl,rfl,hy⟩ k1 k2
  have hil:i < vd.length:=(List.getElem?_eq_some_iff.mp hx).1
  obtain ⟨d,ed⟩:∃ d,ds[i]? = some d:=⟨_,List.getElem?_eq_getElem (by omega)⟩
  obtain ⟨v,ev,iv⟩:=hid1.get ed
  rw [hx] at ev
  cases ev
  obtain ⟨n,a',b',c,r,sl,rfl,_⟩:=bX (gd.all d (List.mem_of_getElem? ed))
  obtain ⟨t,vs,rfl,o,iss⟩:=jO iv
  refine ⟨_,rfl,t,_,5,vs,rfl,rfl,SqT.of o,aK (j:=5) rfl,rfl,_,rfl,?_⟩
  rw [pU iss]
  have e0:aO (.tup [.str n,.str a',.str b',.int c,.int r,sl]) = !mV sl:=rfl
  cases e:mV sl with
  | false =>
   refine bS (k2 _ ⟨rfl,?_,by omega⟩)
   rw [List.take_add_one,ed]
   simp [e0,e]
  | true =>
   refine cL ⟨_,rfl,t,_,0,.str n,rfl,rfl,SqT.of o,aK (j:=0) rfl,k1 _ _ ⟨rfl,?_,by rw [List.length_append,List.length_singleton];omega⟩⟩
   rw [List.take_add_one,ed]
   simp [e0,e,aL,cR]
 rintro ysb H' ⟨rfl,rfl,hyb⟩
 rw [List.take_of_length_le (by omega)]
 rw [List.take_of_length_le (by omega)] at hyb
 intro lb1 hlb1
 have A2:=aH.upd (o:=.lst (((ds.filter fun d=>!aO d).map aL).map V.str)) hlb1
 refine ⟨aI rfl,fun lb2 hlb2=>?_⟩
 have A3:=aH.upd (o:=.lst [.str "nosuchxx",.str "sea",.str ""]) hlb2
 refine ⟨lb1,lb2,_,_,rfl,rfl,A3 _ _ aB,aB,by show _ + 3 ≤ _;omega,fun lb hlb=>?_⟩
 have A4:=aH.upd (o:=.lst (((ds.filter fun d=>!aO d).map aL).map V.str ++ [.str "nosuchxx",.str "sea",.str ""])) hlb
 have S2':=A2.trans (A3.trans A4)
 have S2:=S1.trans S2'
 have hb2:upd (upd (upd H1 lb1 (.lst (((ds.filter fun d=>!aO d).map aL).map V.str))) lb2 (.lst [.str "nosuchxx",.str "sea",.str ""])) lb (.lst (((ds.filter fun d=>!aO d).map aL).map V.str ++ [.str "nosuchxx",.str "sea",.str ""])) lb = some (.lst (((ds.filter fun d=>!aO d).map aL ++ [noSuch,"sea",""]).map V.str)):=by
  rw [aB,List.map_append]
  rfl
 have hls2:=S2' _ _ hls1
 have isome2:=IsL.same S2' _ _ isome
 generalize upd (upd (upd H1 lb1 (.lst (((ds.filter fun d=>!aO d).map aL).map V.str))) lb2 (.lst [.str "nosuchxx",.str "sea",.str ""])) lb (.lst (((ds.filter fun d=>!aO d).map aL).map V.str ++ [.str "nosuchxx",.str "sea",.str ""])) = H2 at S2' S2 hb2 hls2 isome2 ⊢
 have bnot:∀ z ∈ (ds.filter fun d=>!aO d).map aL ++ [noSuch,"sea",""],bD ((ds.filter aO).map aL) (.str z) = false ∧ bP (.str z) = true:=fun z m=>⟨decide_eq_false (aHG gd nxd m),aAJ gd m⟩
 have bl:3 ≤ ((ds.filter fun d=>!aO d).map aL ++ [noSuch,"sea",""]).length:=by rw [List.length_append];show 3 ≤ _ + 3;omega
 have bl2:((ds.filter fun d=>!aO d).map aL ++ [noSuch,"sea",""]).length ≤ 1000:=by
  rw [List.length_append,← List.length_map (f:=V.str)]
  show _ + 3 ≤ _
  omega
 generalize (ds.filter fun d=>!aO d).map aL ++ [noSuch,"sea",""] = bare at hb2 bnot bl bl2
 refine gσ (σ':=[some (.ref lx),some (.ref ld),some u,some (.int n),some (.ref ls),some (.ref lb),none,none,none,none,none,none,none]) rfl ?_
 have hld2:=S2 _ _ hld
 have hid2:=IsL.same S2 _ _ hid
 refine ⟨_,rfl,ld,rfl,⟨_,SqL.of hld2⟩,?_⟩
 refine bM (F:=K) (xs:=vd) (by omega) (fun i ys H'=>H2 = H' ∧ ys = (((ds.take i).filter aO).map aL).map V.str ∧ ys.length ≤ i) ⟨rfl,rfl,Nat.le_refl _⟩ ?_ ?_ ?_
 ·rintro i ys H' hi' ⟨rfl,rfl,hy⟩
  exact ⟨SqL.of hld2,hy⟩
 ·rintro i xv ys H' K1 K2 hx ⟨rfl,rfl,hy⟩ k1 k2
  have hil:i < vd.length:=(List.getElem?_eq_some_iff.mp hx).1
  obtain ⟨d,ed⟩:∃ d,ds[i]? = some d:=⟨_,List.getElem?_eq_getElem (by omega)⟩
  obtain ⟨v,ev,iv⟩:=hid2.get ed
  rw [hx] at ev
  cases ev
  obtain ⟨n,a',b',c,r,sl,rfl,_⟩:=bX (gd.all d (List.mem_of_getElem? ed))
  obtain ⟨t,vs,rfl,o,iss⟩:=jO iv
  refine ⟨_,rfl,t,_,5,vs,rfl,rfl,SqT.of o,aK (j:=5) rfl,rfl,_,rfl,?_⟩
  rw [pU iss]
  have e0:aO (.tup [.str n,.str a',.str b',.int c,.int r,sl]) = !mV sl:=rfl
  cases e:mV sl with
  | true =>
   refine bS (k2 _ ⟨rfl,?_,by omega⟩)
   rw [List.take_add_one,ed]
   simp [e0,e]
  | false =>
   refine cL ⟨_,rfl,t,_,0,.str n,rfl,rfl,SqT.of o,aK (j:=0) rfl,k1 _ _ ⟨rfl,?_,by rw [List.length_append,List.length_singleton];omega⟩⟩
   rw [List.take_add_one,ed]
   simp [e0,e,aL,cR]
 rintro ysg H' ⟨rfl,rfl,hyg⟩
 rw [List.take_of_length_le (by omega)]
 intro lg hlg
 have A5:=aH.upd (o:=.lst (((ds.filter aO).map aL).map V.str)) hlg
 have S3:=S2.trans A5
 have hlg3:upd H2 lg (.lst (((ds.filter aO).map aL).map V.str)) lg = some (.lst (((ds.filter aO).map aL).map V.str)):=aB
 have hls3:=A5 _ _ hls2
 have isome3:=IsL.same A5 _ _ isome2
 have hb3:=A5 _ _ hb2
 generalize upd H2 lg (.lst (((ds.filter aO).map aL).map V.str)) = H3 at A5 S3 hlg3 hls3 isome3 hb3 ⊢
 refine gσ (σ':=[some (.ref lx),some (.ref ld),some u,some (.int n),some (.ref ls),some (.ref lb),some (.ref lg),none,none,none,none,none,none]) rfl ?_
 refine hu2 _ _ _ ?_
 have gok:∀ d ∈ xs.map dkD,GoodX ((ds.filter aO).map aL) (fs.map aL) d:=fun d m=>by
  obtain ⟨x,mx,rfl⟩:=List.mem_map.mp m
  exact dc.ok x mx
 have gsm:∀ z ∈ (ds.filter aO).map aL,z.length ≤ 1000:=fun z m=>by
  obtain ⟨d,md,rfl⟩:=List.mem_map.mp m
  obtain ⟨n,a,b,c,r,s,rfl,hn,_⟩:=bX (gd.all d (List.mem_filter.mp md).1)
  exact jL hn
 have nfs:noSuch ∉ fs.map aL:=fun m=>by
  obtain ⟨d,md,e⟩:=List.mem_map.mp m
  exact nxf d md e
 generalize (ds.filter aO).map aL = gs at *
 generalize fs.map aL = zs at *
 clear hld hid hld1 hid1 hld2 hid2 hyb hyg A2 A3 A4
 have ib:∀ {i:Int},0 ≤ i % (((bare.map V.str).length:Nat):Int) ∧ i % (((bare.map V.str).length:Nat):Int) < bare.length:=fun {i}=>by
  rw [List.length_map]
  exact ⟨Int.emod_nonneg _ (by omega),Int.emod_lt_of_pos _ (by omega)⟩
 have pbl:(0:Int) < (((bare.map V.str).length:Nat):Int):=by rw [List.length_map];omega
 obtain ⟨z,mz,ez⟩:=aEM (ib (i:=n / 9)).1 (ib (i:=n / 9)).2
 obtain ⟨bz,sz⟩:=bnot z mz
 refine kD fun u3 hu3=>?_
 refine ⟨_,rfl,aI rfl,fun le hle=>aBX (lA (aH.upd hle _ _ hlg3)) ⟨le,[],rfl,aB,rfl⟩ (jT _) ⟨_,rfl,?_⟩⟩
 have A6:=aH.upd (o:=.lst []) hle
 have S4:=S3.trans A6
 have hlg4:=A6 _ _ hlg3
 have hls4:=A6 _ _ hls3
 have isome4:=IsL.same A6 _ _ isome3
 have hb4:=A6 _ _ hb3
 generalize upd H3 le (.lst []) = H4 at A6 S4 hlg4 hls4 isome4 hb4 ⊢
 have ssm:∀ d ∈ xs.map dkD,bP d = true:=fun d m=>(gok d m).sm
 cases hgs:gs with
 | nil =>
  refine cL ?_
  refine ⟨_,rfl,_,rfl,_,rfl,_,_,rfl,rfl,⟨by decide,by decide⟩,_,rfl,lb,_,rfl,.inl (SqL.of hb4),_,_,rfl,rfl,pbl,lb,_,_,.str z,rfl,rfl,SqL.of hb4,ez,aI rfl,fun ta hta=>?_⟩
  have B1:=aH.upd (o:=.tup [.str "always"]) hta
  refine ⟨aI rfl,fun la hla=>?_⟩
  have B2:=aH.upd (o:=.lst [.ref ta]) hla
  refine ⟨aI rfl,fun tn htn=>?_⟩
  have B3:=aH.upd (o:=.tup [.str "open",.str z,.ref la]) htn
  refine ⟨aI rfl,fun l1 hl1=>?_⟩
  have B4:=aH.upd (o:=.lst [.ref tn]) hl1
  have B:=B1.trans (B2.trans (B3.trans B4))
  refine ⟨ls,l1,_,_,rfl,rfl,B _ _ hls4,aB,by rw [lys];show _ + 1 ≤ _;omega,fun lr hlr=>?_⟩
  have B5:=aH.upd (o:=.lst (ys ++ [.ref tn])) hlr
  have Bz:=B.trans B5
  refine q (.ref lr) (.lst (xs.map dkD ++ [.tup [.str "open",.str z,.lst [.tup [.str "always"]]]])) _ (S4.trans Bz) ⟨lr,_,rfl,aB,pT (IsL.same Bz _ _ isome4) (aHH ((B4.trans B5) _ _ aB) ((B3.trans (B4.trans B5)) _ _ aB) ((B2.trans (B3.trans (B4.trans B5))) _ _ aB))⟩ ?_ ?_
  ·refine iT (fun d m=>?_) (by rw [List.length_append,List.length_map];show _ + 1 ≤ _;omega)
   rcases List.mem_append.mp m with m | m
   ·exact ssm d m
   ·cases List.mem_singleton.mp m
    refine nH (fun e me=>?_) (by show 3 ≤ 1000;decide)
    simp only [List.mem_cons,List.not_mem_nil,or_false] at me
    rcases me with rfl | rfl | rfl
    ·decide +kernel
    ·exact sz
    ·decide +kernel
  ·exact yR (List.mem_append_right _ (List.mem_singleton.mpr rfl)) (yS bz)
 | cons g0 gr =>
  refine bS ?_
  refine hu3 _ _ _ ?_
  have eg0:(gs.map V.str)[0]? = some (.str g0):=by rw [hgs];rfl
  have mg0:g0 ∈ gs:=by rw [hgs];exact List.mem_cons_self
  refine kD fun u4 hu4=>?_
  refine ⟨_,rfl,_,rfl,lg,_,0,.str g0,rfl,rfl,SqL.of hlg4,aK (j:=0) eg0,aI rfl,fun ta hta=>?_⟩
  have B1:=aH.upd (o:=.tup [.str "always"]) hta
  refine ⟨aI rfl,fun la hla=>?_⟩
  have B2:=aH.upd (o:=.lst [.ref ta]) hla
  refine ⟨aI rfl,fun tn htn=>?_⟩
  have B3:=aH.upd (o:=.tup [.str "open",.str g0,.ref la]) htn
  refine ⟨aI rfl,fun l1 hl1=>?_⟩
  have B4:=aH.upd (o:=.lst [.ref tn]) hl1
  have B:=B1.trans (B2.trans (B3.trans B4))
  refine ⟨ls,l1,_,_,rfl,rfl,B _ _ hls4,aB,by rw [lys];show _ + 1 ≤ _;omega,fun lr hlr=>?_⟩
  have B5:=aH.upd (o:=.lst (ys ++ [.ref tn])) hlr
  have Bz:=B.trans B5
  have hlrz:upd (upd (upd (upd (upd H4 ta (.tup [.str "always"])) la (.lst [.ref ta])) tn (.tup [.str "open",.str g0,.ref la])) l1 (.lst [.ref tn])) lr (.lst (ys ++ [.ref tn])) lr = some (.lst (ys ++ [.ref tn])):=aB
  have iall:IsL (upd (upd (upd (upd (upd H4 ta (.tup [.str "always"])) la (.lst [.ref ta])) tn (.tup [.str "open",.str g0,.ref la])) l1 (.lst [.ref tn])) lr (.lst (ys ++ [.ref tn]))) (xs.map dkD ++ [.tup [.str "open",.str g0,.lst [.tup [.str "always"]]]]) (ys ++ [.ref tn]):=pT (IsL.same Bz _ _ isome4) (aHH ((B4.trans B5) _ _ aB) ((B3.trans (B4.trans B5)) _ _ aB) ((B2.trans (B3.trans (B4.trans B5))) _ _ aB))
  generalize upd (upd (upd (upd (upd H4 ta (.tup [.str "always"])) la (.lst [.ref ta])) tn (.tup [.str "open",.str g0,.ref la])) l1 (.lst [.ref tn])) lr (.lst (ys ++ [.ref tn])) = H5 at Bz hlrz iall ⊢
  have gall:∀ d ∈ xs.map dkD ++ [.tup [.str "open",.str g0,.lst [.tup [.str "always"]]]],GoodX gs zs d:=fun d m=>by
   rcases List.mem_append.mp m with m | m
   ·exact gok d m
   ·cases List.mem_singleton.mp m
    refine yM (by decide +kernel) (by decide +kernel) mg0 (gsm g0 mg0) (by decide) (by decide) (fun c mc=>?_)
    cases List.mem_singleton.mp mc
    exact ⟨by show bD ["always"] (.str "always") = true;decide +kernel,by decide +kernel,by decide +kernel⟩
  obtain ⟨d0,v0,md0,ev0,iv0⟩:=pS iall (i:=0) (by decide) (by rw [List.length_append];show (0:Int) < ((_ + 1:Nat):Int);omega)
  obtain ⟨a,g,cs,rfl,ha,hg,c1,c6,hcs,sa,sg⟩:=(gall d0 md0).sh
  obtain ⟨t0,vs0,rfl,ot0,w1,r1,rfl,i1,w2,r2,rfl,i2,w3,r3,rfl,⟨lc,cus,rfl,hlc,ics⟩,e3⟩:=iv0
  cases (show r3 = [] from e3)
  cases (show w1 = .str a from i1)
  cases (show w2 = .str g from i2)
  refine ⟨lr,_,0,_,rfl,rfl,SqL.of hlrz,ev0,t0,_,rfl,SqT.of ot0,rfl,_,_,rfl,_,_,rfl,_,_,rfl,rfl,?_⟩
  refine nxσ (σ':=[some (.ref lx),some (.ref ld),some u,some (.int n),some (.ref ls),some (.ref lb),some (.ref lg),some (.str a),some (.str g),some (.ref lc),none,none,none]) rfl ?_
  refine hu4 _ _ _ ?_
  have S5:=S4.trans Bz
  have hls5:=Bz _ _ hls4
  have isome5:=IsL.same Bz _ _ isome4
  have hb5:=Bz _ _ hb4
  clear iall hlrz gall B B1 B2 B3 B4 B5 Bz A5 A6
  refine xT fun u5 hu5=>?_
  refine ⟨aI rfl,fun o1 ho1=>?_⟩
  have Po1:=aH.upd (o:=.tup [.str "allways"]) ho1
  have io1:Is (upd H5 o1 (.tup [.str "allways"])) (.tup [.str "allways"]) (.ref o1):=⟨o1,_,rfl,aB,_,_,rfl,rfl,rfl⟩
  have TT:=Po1
  generalize upd H5 o1 (.tup [.str "allways"]) = J1 at Po1 TT io1 ⊢
  refine ⟨_,_,rfl,rfl,⟨by decide,by decide,by decide⟩,_,_,rfl,rfl,aI rfl,fun o2 ho2=>?_⟩
  have Po2:=aH.upd (o:=.tup [.str "above",.int (10 ^ (6:Int).toNat + 1)]) ho2
  have io2:Is (upd J1 o2 (.tup [.str "above",.int (10 ^ (6:Int).toNat + 1)])) (.tup [.str "above",.int (10 ^ (6:Int).toNat + 1)]) (.ref o2):=⟨o2,_,rfl,aB,_,_,rfl,rfl,_,_,rfl,rfl,rfl⟩
  replace io1:=Is.same Po2 _ _ io1
  replace TT:=TT.trans Po2
  generalize upd J1 o2 (.tup [.str "above",.int (10 ^ (6:Int).toNat + 1)]) = J2 at Po2 TT io1 io2 ⊢
  refine ⟨aI rfl,fun o3 ho3=>?_⟩
  have Po3:=aH.upd (o:=.tup [.str "below",.bl true]) ho3
  have io3:Is (upd J2 o3 (.tup [.str "below",.bl true])) (.tup [.str "below",.bl true]) (.ref o3):=⟨o3,_,rfl,aB,_,_,rfl,rfl,_,_,rfl,rfl,rfl⟩
  replace io1:=Is.same Po3 _ _ io1
  replace io2:=Is.same Po3 _ _ io2
  replace TT:=TT.trans Po3
  generalize upd J2 o3 (.tup [.str "below",.bl true]) = J3 at Po3 TT io1 io2 io3 ⊢
  refine ⟨aI rfl,fun o4 ho4=>?_⟩
  have Po4:=aH.upd (o:=.tup [.str "wet",.str "nosuchxx"]) ho4
  have io4:Is (upd J3 o4 (.tup [.str "wet",.str "nosuchxx"])) (.tup [.str "wet",.str noSuch]) (.ref o4):=⟨o4,_,rfl,aB,_,_,rfl,rfl,_,_,rfl,rfl,rfl⟩
  replace io1:=Is.same Po4 _ _ io1
  replace io2:=Is.same Po4 _ _ io2
  replace io3:=Is.same Po4 _ _ io3
  replace TT:=TT.trans Po4
  generalize upd J3 o4 (.tup [.str "wet",.str "nosuchxx"]) = J4 at Po4 TT io1 io2 io3 io4 ⊢
  refine ⟨aI rfl,fun o5 ho5=>?_⟩
  have Po5:=aH.upd (o:=.tup [.str "day",.int 2,.int 2]) ho5
  have io5:Is (upd J4 o5 (.tup [.str "day",.int 2,.int 2])) (.tup [.str "day",.int 2,.int 2]) (.ref o5):=⟨o5,_,rfl,aB,_,_,rfl,rfl,_,_,rfl,rfl,_,_,rfl,rfl,rfl⟩
  replace io1:=Is.same Po5 _ _ io1
  replace io2:=Is.same Po5 _ _ io2
  replace io3:=Is.same Po5 _ _ io3
  replace io4:=Is.same Po5 _ _ io4
  replace TT:=TT.trans Po5
  generalize upd J4 o5 (.tup [.str "day",.int 2,.int 2]) = J5 at Po5 TT io1 io2 io3 io4 io5 ⊢
  refine ⟨aI rfl,fun o6 ho6=>?_⟩
  have Po6:=aH.upd (o:=.tup [.str "day",.int 0,.int 0]) ho6
  have io6:Is (upd J5 o6 (.tup [.str "day",.int 0,.int 0])) (.tup [.str "day",.int 0,.int 0]) (.ref o6):=⟨o6,_,rfl,aB,_,_,rfl,rfl,_,_,rfl,rfl,_,_,rfl,rfl,rfl⟩
  replace io1:=Is.same Po6 _ _ io1
  replace io2:=Is.same Po6 _ _ io2
  replace io3:=Is.same Po6 _ _ io3
  replace io4:=Is.same Po6 _ _ io4
  replace io5:=Is.same Po6 _ _ io5
  replace TT:=TT.trans Po6
  generalize upd J5 o6 (.tup [.str "day",.int 0,.int 0]) = J6 at Po6 TT io1 io2 io3 io4 io5 io6 ⊢
  refine ⟨aI rfl,fun k1 hk1=>?_⟩
  have Pk1:=aH.upd (o:=.lst [.ref o1,.ref o2,.ref o3,.ref o4,.ref o5,.ref o6]) hk1
  have kk1:upd J6 k1 (.lst [.ref o1,.ref o2,.ref o3,.ref o4,.ref o5,.ref o6]) k1 = some (.lst [.ref o1,.ref o2,.ref o3,.ref o4,.ref o5,.ref o6]):=aB
  replace io1:=Is.same Pk1 _ _ io1
  replace io2:=Is.same Pk1 _ _ io2
  replace io3:=Is.same Pk1 _ _ io3
  replace io4:=Is.same Pk1 _ _ io4
  replace io5:=Is.same Pk1 _ _ io5
  replace io6:=Is.same Pk1 _ _ io6
  replace TT:=TT.trans Pk1
  generalize upd J6 k1 (.lst [.ref o1,.ref o2,.ref o3,.ref o4,.ref o5,.ref o6]) = JK at Pk1 kk1 TT io1 io2 io3 io4 io5 io6 ⊢
  refine ⟨_,rfl,aI rfl,fun o7 ho7=>?_⟩
  have Po7:=aH.upd (o:=.tup [.str "day",.int 0,.int 101]) ho7
  have io7:Is (upd JK o7 (.tup [.str "day",.int 0,.int 101])) (.tup [.str "day",.int 0,.int 101]) (.ref o7):=⟨o7,_,rfl,aB,_,_,rfl,rfl,_,_,rfl,rfl,_,_,rfl,rfl,rfl⟩
  replace io1:=Is.same Po7 _ _ io1
  replace io2:=Is.same Po7 _ _ io2
  replace io3:=Is.same Po7 _ _ io3
  replace io4:=Is.same Po7 _ _ io4
  replace io5:=Is.same Po7 _ _ io5
  replace io6:=Is.same Po7 _ _ io6
  replace TT:=TT.trans Po7
  replace kk1:=Po7 _ _ kk1
  generalize upd JK o7 (.tup [.str "day",.int 0,.int 101]) = J7 at Po7 TT io1 io2 io3 io4 io5 io6 io7 kk1 ⊢
  refine ⟨aI rfl,fun o8 ho8=>?_⟩
  have Po8:=aH.upd (o:=.tup [.str "dry"]) ho8
  have io8:Is (upd J7 o8 (.tup [.str "dry"])) (.tup [.str "dry"]) (.ref o8):=⟨o8,_,rfl,aB,_,_,rfl,rfl,rfl⟩
  replace io1:=Is.same Po8 _ _ io1
  replace io2:=Is.same Po8 _ _ io2
  replace io3:=Is.same Po8 _ _ io3
  replace io4:=Is.same Po8 _ _ io4
  replace io5:=Is.same Po8 _ _ io5
  replace io6:=Is.same Po8 _ _ io6
  replace io7:=Is.same Po8 _ _ io7
  replace TT:=TT.trans Po8
  replace kk1:=Po8 _ _ kk1
  generalize upd J7 o8 (.tup [.str "dry"]) = J8 at Po8 TT io1 io2 io3 io4 io5 io6 io7 io8 kk1 ⊢
  refine ⟨aI rfl,fun o9 ho9=>?_⟩
  have Po9:=aH.upd (o:=.lst [.str "always"]) ho9
  have io9:Is (upd J8 o9 (.lst [.str "always"])) (.lst [.str "always"]) (.ref o9):=⟨o9,_,rfl,aB,_,_,rfl,rfl,rfl⟩
  replace io1:=Is.same Po9 _ _ io1
  replace io2:=Is.same Po9 _ _ io2
  replace io3:=Is.same Po9 _ _ io3
  replace io4:=Is.same Po9 _ _ io4
  replace io5:=Is.same Po9 _ _ io5
  replace io6:=Is.same Po9 _ _ io6
  replace io7:=Is.same Po9 _ _ io7
  replace io8:=Is.same Po9 _ _ io8
  replace TT:=TT.trans Po9
  replace kk1:=Po9 _ _ kk1
  generalize upd J8 o9 (.lst [.str "always"]) = J9 at Po9 TT io1 io2 io3 io4 io5 io6 io7 io8 io9 kk1 ⊢
  refine ⟨aI rfl,fun o11 ho11=>?_⟩
  have Po11:=aH.upd (o:=.tup [.str "always",.int 1]) ho11
  have io11:Is (upd J9 o11 (.tup [.str "always",.int 1])) (.tup [.str "always",.int 1]) (.ref o11):=⟨o11,_,rfl,aB,_,_,rfl,rfl,_,_,rfl,rfl,rfl⟩
  replace io1:=Is.same Po11 _ _ io1
  replace io2:=Is.same Po11 _ _ io2
  replace io3:=Is.same Po11 _ _ io3
  replace io4:=Is.same Po11 _ _ io4
  replace io5:=Is.same Po11 _ _ io5
  replace io6:=Is.same Po11 _ _ io6
  replace io7:=Is.same Po11 _ _ io7
  replace io8:=Is.same Po11 _ _ io8
  replace io9:=Is.same Po11 _ _ io9
  replace TT:=TT.trans Po11
  replace kk1:=Po11 _ _ kk1
  generalize upd J9 o11 (.tup [.str "always",.int 1]) = J10 at Po11 TT io1 io2 io3 io4 io5 io6 io7 io8 io9 io11 kk1 ⊢
  refine ⟨1,rfl,aI rfl,fun o12 ho12=>?_⟩
  have Po12:=aH.upd (o:=.tup [.str "day",.int (-1),.int 5]) ho12
  have io12:Is (upd J10 o12 (.tup [.str "day",.int (-1),.int 5])) (.tup [.str "day",.int (-1),.int 5]) (.ref o12):=⟨o12,_,rfl,aB,_,_,rfl,rfl,_,_,rfl,rfl,_,_,rfl,rfl,rfl⟩
  replace io1:=Is.same Po12 _ _ io1
  replace io2:=Is.same Po12 _ _ io2
  replace io3:=Is.same Po12 _ _ io3
  replace io4:=Is.same Po12 _ _ io4
  replace io5:=Is.same Po12 _ _ io5
  replace io6:=Is.same Po12 _ _ io6
  replace io7:=Is.same Po12 _ _ io7
  replace io8:=Is.same Po12 _ _ io8
  replace io9:=Is.same Po12 _ _ io9
  replace io11:=Is.same Po12 _ _ io11
  replace TT:=TT.trans Po12
  replace kk1:=Po12 _ _ kk1
  generalize upd J10 o12 (.tup [.str "day",.int (-1),.int 5]) = J11 at Po12 TT io1 io2 io3 io4 io5 io6 io7 io8 io9 io11 io12 kk1 ⊢
  refine ⟨aI rfl,fun k2 hk2=>?_⟩
  have Pk2:=aH.upd (o:=.lst [.ref o7,.ref o8,.ref o9,.non,.ref o11,.ref o12]) hk2
  refine ⟨k1,k2,_,_,rfl,rfl,Pk2 _ _ kk1,aB,by show 6 + 6 ≤ _;omega,fun od hod=>?_⟩
  have Pod:=aH.upd (o:=.lst ([.ref o1,.ref o2,.ref o3,.ref o4,.ref o5,.ref o6] ++ [.ref o7,.ref o8,.ref o9,.non,.ref o11,.ref o12])) hod
  have PP:=Pk2.trans Pod
  have hodz:upd (upd J11 k2 (.lst [.ref o7,.ref o8,.ref o9,.non,.ref o11,.ref o12])) od (.lst ([.ref o1,.ref o2,.ref o3,.ref o4,.ref o5,.ref o6] ++ [.ref o7,.ref o8,.ref o9,.non,.ref o11,.ref o12])) od = some (.lst ([.ref o1,.ref o2,.ref o3,.ref o4,.ref o5,.ref o6] ++ [.ref o7,.ref o8,.ref o9,.non,.ref o11,.ref o12])):=aB
  have iodd:IsL (upd (upd J11 k2 (.lst [.ref o7,.ref o8,.ref o9,.non,.ref o11,.ref o12])) od (.lst ([.ref o1,.ref o2,.ref o3,.ref o4,.ref o5,.ref o6] ++ [.ref o7,.ref o8,.ref o9,.non,.ref o11,.ref o12]))) aIG ([.ref o1,.ref o2,.ref o3,.ref o4,.ref o5,.ref o6] ++ [.ref o7,.ref o8,.ref o9,.non,.ref o11,.ref o12]):=⟨_,_,rfl,Is.same PP _ _ io1,_,_,rfl,Is.same PP _ _ io2,_,_,rfl,Is.same PP _ _ io3,_,_,rfl,Is.same PP _ _ io4,_,_,rfl,Is.same PP _ _ io5,_,_,rfl,Is.same PP _ _ io6,_,_,rfl,Is.same PP _ _ io7,_,_,rfl,Is.same PP _ _ io8,_,_,rfl,Is.same PP _ _ io9,_,_,rfl,rfl,_,_,rfl,Is.same PP _ _ io11,_,_,rfl,Is.same PP _ _ io12,rfl⟩
  replace TT:=TT.trans PP
  generalize upd (upd J11 k2 (.lst [.ref o7,.ref o8,.ref o9,.non,.ref o11,.ref o12])) od (.lst ([.ref o1,.ref o2,.ref o3,.ref o4,.ref o5,.ref o6] ++ [.ref o7,.ref o8,.ref o9,.non,.ref o11,.ref o12])) = H6 at TT hodz iodd ⊢
  generalize ([.ref o1,.ref o2,.ref o3,.ref o4,.ref o5,.ref o6] ++ [.ref o7,.ref o8,.ref o9,.non,.ref o11,.ref o12]:List V) = ov at hodz iodd
  refine gσ (σ':=[some (.ref lx),some (.ref ld),some u,some (.int n),some (.ref ls),some (.ref lb),some (.ref lg),some (.str a),some (.str g),some (.ref lc),some (.ref od),none,none]) rfl ?_
  refine hu5 _ _ _ ?_
  have S6:=S5.trans TT
  have hb6:=TT _ _ hb5
  have hls6:=TT _ _ hls5
  have isome6:=IsL.same TT _ _ isome5
  have hlc6:=TT _ _ hlc
  have ilc:Is H6 (.lst cs) (.ref lc):=⟨lc,cus,rfl,hlc6,IsL.same TT _ _ ics⟩
  have hod6:=hodz
  have lcu:=ics.length
  clear TT hls5 isome5 hb5 hlc ics isome4 hls4 hb4 isome3 hls3 hb3 isome2 hls2 hb2
  have TT:=aH.refl H6
  obtain ⟨dz,vz,mdz,evz,ivz⟩:=pS iodd (i:=n / 9 % 12) (Int.emod_nonneg _ (by decide)) (Int.emod_lt_of_pos _ (by decide))
  have bodd:=aCW nfs dz mdz
  have sodd:=zS dz mdz
  refine xS fun u6 hu6=>?_
  refine ⟨_,rfl,_,rfl,aI rfl,fun b1 hb1=>?_⟩
  have Pb1:=aH.upd (o:=.tup [.str "keep",.str g,.ref lc]) hb1
  have ib1:Is (upd H6 b1 (.tup [.str "keep",.str g,.ref lc])) (.tup [.str "keep",.str g,.lst cs]) (.ref b1):=⟨b1,_,rfl,aB,_,_,rfl,rfl,_,_,rfl,rfl,_,_,rfl,Is.same Pb1 _ _ ilc,rfl⟩
  replace ilc:=Is.same Pb1 _ _ ilc
  replace ivz:=Is.same Pb1 _ _ ivz
  replace hb6:=Pb1 _ _ hb6
  replace hlc6:=Pb1 _ _ hlc6
  replace hod6:=Pb1 _ _ hod6
  replace TT:=TT.trans Pb1
  generalize upd H6 b1 (.tup [.str "keep",.str g,.ref lc]) = L1 at Pb1 TT ilc ivz ib1 hb6 hlc6 hod6 ⊢
  refine ⟨_,rfl,_,rfl,_,rfl,_,_,rfl,rfl,⟨by decide,by decide⟩,_,rfl,lb,_,rfl,.inl (SqL.of hb6),_,_,rfl,rfl,pbl,lb,_,_,.str z,rfl,rfl,SqL.of hb6,ez,_,rfl,aI rfl,fun b2 hb2=>?_⟩
  have Pb2:=aH.upd (o:=.tup [.str a,.str z,.ref lc]) hb2
  have ib2:Is (upd L1 b2 (.tup [.str a,.str z,.ref lc])) (.tup [.str a,.str z,.lst cs]) (.ref b2):=⟨b2,_,rfl,aB,_,_,rfl,rfl,_,_,rfl,rfl,_,_,rfl,Is.same Pb2 _ _ ilc,rfl⟩
  replace ilc:=Is.same Pb2 _ _ ilc
  replace ivz:=Is.same Pb2 _ _ ivz
  replace ib1:=Is.same Pb2 _ _ ib1
  replace hb6:=Pb2 _ _ hb6
  replace hlc6:=Pb2 _ _ hlc6
  replace hod6:=Pb2 _ _ hod6
  replace TT:=TT.trans Pb2
  generalize upd L1 b2 (.tup [.str a,.str z,.ref lc]) = L2 at Pb2 TT ilc ivz ib1 ib2 hb6 hlc6 hod6 ⊢
  refine ⟨_,rfl,_,rfl,aI rfl,fun e1 he1=>?_⟩
  have Pe1:=aH.upd (o:=.lst []) he1
  have ie1:Is (upd L2 e1 (.lst [])) (.lst []) (.ref e1):=⟨e1,_,rfl,aB,rfl⟩
  replace ilc:=Is.same Pe1 _ _ ilc
  replace ivz:=Is.same Pe1 _ _ ivz
  replace ib1:=Is.same Pe1 _ _ ib1
  replace ib2:=Is.same Pe1 _ _ ib2
  replace hb6:=Pe1 _ _ hb6
  replace hlc6:=Pe1 _ _ hlc6
  replace hod6:=Pe1 _ _ hod6
  replace TT:=TT.trans Pe1
  generalize upd L2 e1 (.lst []) = L3 at Pe1 TT ilc ivz ib1 ib2 ie1 hb6 hlc6 hod6 ⊢
  refine ⟨aI rfl,fun b3 hb3=>?_⟩
  have Pb3:=aH.upd (o:=.tup [.str a,.str g,.ref e1]) hb3
  have ib3:Is (upd L3 b3 (.tup [.str a,.str g,.ref e1])) (.tup [.str a,.str g,.lst []]) (.ref b3):=⟨b3,_,rfl,aB,_,_,rfl,rfl,_,_,rfl,rfl,_,_,rfl,Is.same Pb3 _ _ ie1,rfl⟩
  replace ilc:=Is.same Pb3 _ _ ilc
  replace ivz:=Is.same Pb3 _ _ ivz
  replace ib1:=Is.same Pb3 _ _ ib1
  replace ib2:=Is.same Pb3 _ _ ib2
  replace ie1:=Is.same Pb3 _ _ ie1
  replace hb6:=Pb3 _ _ hb6
  replace hlc6:=Pb3 _ _ hlc6
  replace hod6:=Pb3 _ _ hod6
  replace TT:=TT.trans Pb3
  generalize upd L3 b3 (.tup [.str a,.str g,.ref e1]) = L4 at Pb3 TT ilc ivz ib1 ib2 ie1 ib3 hb6 hlc6 hod6 ⊢
  refine ⟨aI rfl,fun m1 hm1=>?_⟩
  have Pm1:=aH.upd (o:=.lst [.ref b1,.ref b2,.ref b3]) hm1
  have wm1:upd L4 m1 (.lst [.ref b1,.ref b2,.ref b3]) m1 = some (.lst [.ref b1,.ref b2,.ref b3]):=aB
  replace ilc:=Is.same Pm1 _ _ ilc
  replace ivz:=Is.same Pm1 _ _ ivz
  replace ib1:=Is.same Pm1 _ _ ib1
  replace ib2:=Is.same Pm1 _ _ ib2
  replace ie1:=Is.same Pm1 _ _ ie1
  replace ib3:=Is.same Pm1 _ _ ib3
  replace hb6:=Pm1 _ _ hb6
  replace hlc6:=Pm1 _ _ hlc6
  replace hod6:=Pm1 _ _ hod6
  replace TT:=TT.trans Pm1
  generalize upd L4 m1 (.lst [.ref b1,.ref b2,.ref b3]) = L5 at Pm1 TT ilc ivz ib1 ib2 ie1 ib3 hb6 hlc6 hod6 wm1 ⊢
  refine ⟨_,rfl,_,rfl,_,rfl,aI rfl,fun q1 hq1=>?_⟩
  have Pq1:=aH.upd (o:=.tup [.str "always"]) hq1
  have iq1:Is (upd L5 q1 (.tup [.str "always"])) (.tup [.str "always"]) (.ref q1):=⟨q1,_,rfl,aB,_,_,rfl,rfl,rfl⟩
  replace ilc:=Is.same Pq1 _ _ ilc
  replace ivz:=Is.same Pq1 _ _ ivz
  replace ib1:=Is.same Pq1 _ _ ib1
  replace ib2:=Is.same Pq1 _ _ ib2
  replace ie1:=Is.same Pq1 _ _ ie1
  replace ib3:=Is.same Pq1 _ _ ib3
  replace hb6:=Pq1 _ _ hb6
  replace hlc6:=Pq1 _ _ hlc6
  replace hod6:=Pq1 _ _ hod6
  replace wm1:=Pq1 _ _ wm1
  replace TT:=TT.trans Pq1
  generalize upd L5 q1 (.tup [.str "always"]) = L6 at Pq1 TT ilc ivz ib1 ib2 ie1 ib3 iq1 hb6 hlc6 hod6 wm1 ⊢
  refine ⟨aI rfl,fun q2 hq2=>?_⟩
  have Pq2:=aH.upd (o:=.lst [.ref q1]) hq2
  have wq2:upd L6 q2 (.lst [.ref q1]) q2 = some (.lst [.ref q1]):=aB
  replace ilc:=Is.same Pq2 _ _ ilc
  replace ivz:=Is.same Pq2 _ _ ivz
  replace ib1:=Is.same Pq2 _ _ ib1
  replace ib2:=Is.same Pq2 _ _ ib2
  replace ie1:=Is.same Pq2 _ _ ie1
  replace ib3:=Is.same Pq2 _ _ ib3
  replace iq1:=Is.same Pq2 _ _ iq1
  replace hb6:=Pq2 _ _ hb6
  replace hlc6:=Pq2 _ _ hlc6
  replace hod6:=Pq2 _ _ hod6
  replace wm1:=Pq2 _ _ wm1
  replace TT:=TT.trans Pq2
  generalize upd L6 q2 (.lst [.ref q1]) = L7 at Pq2 TT ilc ivz ib1 ib2 ie1 ib3 iq1 hb6 hlc6 hod6 wm1 wq2 ⊢
  refine ⟨q2,7,_,rfl,rfl,wq2,by decide,by decide,by show 1 * 7 ≤ _;omega,fun q3 hq3=>?_⟩
  have Pq3:=aH.upd (o:=.lst (List.replicate (7:Int).toNat [.ref q1]).flatten) hq3
  have iq3:Is (upd L7 q3 (.lst (List.replicate (7:Int).toNat [.ref q1]).flatten)) (.lst [.tup [.str "always"],.tup [.str "always"],.tup [.str "always"],.tup [.str "always"],.tup [.str "always"],.tup [.str "always"],.tup [.str "always"]]) (.ref q3):=⟨q3,_,rfl,aB,_,_,rfl,Is.same Pq3 _ _ iq1,_,_,rfl,Is.same Pq3 _ _ iq1,_,_,rfl,Is.same Pq3 _ _ iq1,_,_,rfl,Is.same Pq3 _ _ iq1,_,_,rfl,Is.same Pq3 _ _ iq1,_,_,rfl,Is.same Pq3 _ _ iq1,_,_,rfl,Is.same Pq3 _ _ iq1,rfl⟩
  replace ilc:=Is.same Pq3 _ _ ilc
  replace ivz:=Is.same Pq3 _ _ ivz
  replace ib1:=Is.same Pq3 _ _ ib1
  replace ib2:=Is.same Pq3 _ _ ib2
  replace ie1:=Is.same Pq3 _ _ ie1
  replace ib3:=Is.same Pq3 _ _ ib3
  replace iq1:=Is.same Pq3 _ _ iq1
  replace hb6:=Pq3 _ _ hb6
  replace hlc6:=Pq3 _ _ hlc6
  replace hod6:=Pq3 _ _ hod6
  replace wm1:=Pq3 _ _ wm1
  replace wq2:=Pq3 _ _ wq2
  replace TT:=TT.trans Pq3
  generalize upd L7 q3 (.lst (List.replicate (7:Int).toNat [.ref q1]).flatten) = L8 at Pq3 TT ilc ivz ib1 ib2 ie1 ib3 iq1 iq3 hb6 hlc6 hod6 wm1 wq2 ⊢
  refine ⟨aI rfl,fun b4 hb4=>?_⟩
  have Pb4:=aH.upd (o:=.tup [.str a,.str g,.ref q3]) hb4
  have ib4:Is (upd L8 b4 (.tup [.str a,.str g,.ref q3])) (.tup [.str a,.str g,.lst [.tup [.str "always"],.tup [.str "always"],.tup [.str "always"],.tup [.str "always"],.tup [.str "always"],.tup [.str "always"],.tup [.str "always"]]]) (.ref b4):=⟨b4,_,rfl,aB,_,_,rfl,rfl,_,_,rfl,rfl,_,_,rfl,Is.same Pb4 _ _ iq3,rfl⟩
  replace ilc:=Is.same Pb4 _ _ ilc
  replace ivz:=Is.same Pb4 _ _ ivz
  replace ib1:=Is.same Pb4 _ _ ib1
  replace ib2:=Is.same Pb4 _ _ ib2
  replace ie1:=Is.same Pb4 _ _ ie1
  replace ib3:=Is.same Pb4 _ _ ib3
  replace iq1:=Is.same Pb4 _ _ iq1
  replace iq3:=Is.same Pb4 _ _ iq3
  replace hb6:=Pb4 _ _ hb6
  replace hlc6:=Pb4 _ _ hlc6
  replace hod6:=Pb4 _ _ hod6
  replace wm1:=Pb4 _ _ wm1
  replace wq2:=Pb4 _ _ wq2
  replace TT:=TT.trans Pb4
  generalize upd L8 b4 (.tup [.str a,.str g,.ref q3]) = L9 at Pb4 TT ilc ivz ib1 ib2 ie1 ib3 iq1 iq3 ib4 hb6 hlc6 hod6 wm1 wq2 ⊢
  refine ⟨_,rfl,_,rfl,_,rfl,_,rfl,_,rfl,_,_,rfl,rfl,⟨by decide,by decide⟩,_,_,rfl,rfl,(iM rfl),od,_,_,vz,rfl,rfl,SqL.of hod6,evz,aI rfl,fun r1 hr1=>?_⟩
  have Pr1:=aH.upd (o:=.lst [vz]) hr1
  have wr1:upd L9 r1 (.lst [vz]) r1 = some (.lst [vz]):=aB
  replace ilc:=Is.same Pr1 _ _ ilc
  replace ivz:=Is.same Pr1 _ _ ivz
  replace ib1:=Is.same Pr1 _ _ ib1
  replace ib2:=Is.same Pr1 _ _ ib2
  replace ie1:=Is.same Pr1 _ _ ie1
  replace ib3:=Is.same Pr1 _ _ ib3
  replace iq1:=Is.same Pr1 _ _ iq1
  replace iq3:=Is.same Pr1 _ _ iq3
  replace ib4:=Is.same Pr1 _ _ ib4
  replace hb6:=Pr1 _ _ hb6
  replace hlc6:=Pr1 _ _ hlc6
  replace hod6:=Pr1 _ _ hod6
  replace wm1:=Pr1 _ _ wm1
  replace wq2:=Pr1 _ _ wq2
  replace TT:=TT.trans Pr1
  generalize upd L9 r1 (.lst [vz]) = L10 at Pr1 TT ilc ivz ib1 ib2 ie1 ib3 iq1 iq3 ib4 hb6 hlc6 hod6 wm1 wq2 wr1 ⊢
  refine ⟨lc,r1,_,_,rfl,rfl,hlc6,wr1,by rw [lcu];show _ + 1 ≤ _;omega,fun r2 hr2=>?_⟩
  have Pr2:=aH.upd (o:=.lst (cus ++ [vz])) hr2
  have ir2:Is (upd L10 r2 (.lst (cus ++ [vz]))) (.lst (cs ++ [dz])) (.ref r2):=⟨r2,_,rfl,aB,by
   obtain ⟨lc',cus',e1,e2,e3⟩:=ilc
   cases e1
   rw [hlc6] at e2
   cases e2
   exact IsL.snoc (Is.same Pr2 _ _ ivz) (IsL.same Pr2 _ _ e3)⟩
  replace ilc:=Is.same Pr2 _ _ ilc
  replace ivz:=Is.same Pr2 _ _ ivz
  replace ib1:=Is.same Pr2 _ _ ib1
  replace ib2:=Is.same Pr2 _ _ ib2
  replace ie1:=Is.same Pr2 _ _ ie1
  replace ib3:=Is.same Pr2 _ _ ib3
  replace iq1:=Is.same Pr2 _ _ iq1
  replace iq3:=Is.same Pr2 _ _ iq3
  replace ib4:=Is.same Pr2 _ _ ib4
  replace hb6:=Pr2 _ _ hb6
  replace hlc6:=Pr2 _ _ hlc6
  replace hod6:=Pr2 _ _ hod6
  replace wm1:=Pr2 _ _ wm1
  replace wq2:=Pr2 _ _ wq2
  replace wr1:=Pr2 _ _ wr1
  replace TT:=TT.trans Pr2
  generalize upd L10 r2 (.lst (cus ++ [vz])) = L11 at Pr2 TT ilc ivz ib1 ib2 ie1 ib3 iq1 iq3 ib4 ir2 hb6 hlc6 hod6 wm1 wq2 wr1 ⊢
  refine ⟨aI rfl,fun b5 hb5=>?_⟩
  have Pb5:=aH.upd (o:=.tup [.str a,.str g,.ref r2]) hb5
  have ib5:Is (upd L11 b5 (.tup [.str a,.str g,.ref r2])) (.tup [.str a,.str g,.lst (cs ++ [dz])]) (.ref b5):=⟨b5,_,rfl,aB,_,_,rfl,rfl,_,_,rfl,rfl,_,_,rfl,Is.same Pb5 _ _ ir2,rfl⟩
  replace ilc:=Is.same Pb5 _ _ ilc
  replace ivz:=Is.same Pb5 _ _ ivz
  replace ib1:=Is.same Pb5 _ _ ib1
  replace ib2:=Is.same Pb5 _ _ ib2
  replace ie1:=Is.same Pb5 _ _ ie1
  replace ib3:=Is.same Pb5 _ _ ib3
  replace iq1:=Is.same Pb5 _ _ iq1
  replace iq3:=Is.same Pb5 _ _ iq3
  replace ib4:=Is.same Pb5 _ _ ib4
  replace ir2:=Is.same Pb5 _ _ ir2
  replace hb6:=Pb5 _ _ hb6
  replace hlc6:=Pb5 _ _ hlc6
  replace hod6:=Pb5 _ _ hod6
  replace wm1:=Pb5 _ _ wm1
  replace wq2:=Pb5 _ _ wq2
  replace wr1:=Pb5 _ _ wr1
  replace TT:=TT.trans Pb5
  generalize upd L11 b5 (.tup [.str a,.str g,.ref r2]) = L12 at Pb5 TT ilc ivz ib1 ib2 ie1 ib3 iq1 iq3 ib4 ir2 ib5 hb6 hlc6 hod6 wm1 wq2 wr1 ⊢
  refine ⟨aI rfl,fun n1 hn1=>?_⟩
  have Pn1:=aH.upd (o:=.lst [.ref b4,.ref b5]) hn1
  have wn1:upd L12 n1 (.lst [.ref b4,.ref b5]) n1 = some (.lst [.ref b4,.ref b5]):=aB
  replace ilc:=Is.same Pn1 _ _ ilc
  replace ivz:=Is.same Pn1 _ _ ivz
  replace ib1:=Is.same Pn1 _ _ ib1
  replace ib2:=Is.same Pn1 _ _ ib2
  replace ie1:=Is.same Pn1 _ _ ie1
  replace ib3:=Is.same Pn1 _ _ ib3
  replace iq1:=Is.same Pn1 _ _ iq1
  replace iq3:=Is.same Pn1 _ _ iq3
  replace ib4:=Is.same Pn1 _ _ ib4
  replace ir2:=Is.same Pn1 _ _ ir2
  replace ib5:=Is.same Pn1 _ _ ib5
  replace hb6:=Pn1 _ _ hb6
  replace hlc6:=Pn1 _ _ hlc6
  replace hod6:=Pn1 _ _ hod6
  replace wm1:=Pn1 _ _ wm1
  replace wq2:=Pn1 _ _ wq2
  replace wr1:=Pn1 _ _ wr1
  replace TT:=TT.trans Pn1
  generalize upd L12 n1 (.lst [.ref b4,.ref b5]) = L13 at Pn1 TT ilc ivz ib1 ib2 ie1 ib3 iq1 iq3 ib4 ir2 ib5 hb6 hlc6 hod6 wm1 wq2 wr1 wn1 ⊢
  refine ⟨m1,n1,_,_,rfl,rfl,wm1,wn1,by show 3 + 2 ≤ _;omega,fun m2 hm2=>?_⟩
  have Pm2:=aH.upd (o:=.lst ([.ref b1,.ref b2,.ref b3] ++ [.ref b4,.ref b5])) hm2
  have wm2:upd L13 m2 (.lst ([.ref b1,.ref b2,.ref b3] ++ [.ref b4,.ref b5])) m2 = some (.lst [.ref b1,.ref b2,.ref b3,.ref b4,.ref b5]):=aB
  replace ilc:=Is.same Pm2 _ _ ilc
  replace ib1:=Is.same Pm2 _ _ ib1
  replace ib2:=Is.same Pm2 _ _ ib2
  replace ib3:=Is.same Pm2 _ _ ib3
  replace ib4:=Is.same Pm2 _ _ ib4
  replace ib5:=Is.same Pm2 _ _ ib5
  replace hlc6:=Pm2 _ _ hlc6
  replace TT:=TT.trans Pm2
  generalize upd L13 m2 (.lst ([.ref b1,.ref b2,.ref b3] ++ [.ref b4,.ref b5])) = L14 at Pm2 TT ilc ib1 ib2 ib3 ib4 ib5 hlc6 wm2 ⊢
  refine ⟨_,rfl,_,rfl,_,rfl,_,rfl,aI rfl,fun b6 hb6=>?_⟩
  have Pb6:=aH.upd (o:=.lst [.str a,.str g,.ref lc]) hb6
  have ib6:Is (upd L14 b6 (.lst [.str a,.str g,.ref lc])) (.lst [.str a,.str g,.lst cs]) (.ref b6):=⟨b6,_,rfl,aB,_,_,rfl,rfl,_,_,rfl,rfl,_,_,rfl,Is.same Pb6 _ _ ilc,rfl⟩
  replace ilc:=Is.same Pb6 _ _ ilc
  replace ib1:=Is.same Pb6 _ _ ib1
  replace ib2:=Is.same Pb6 _ _ ib2
  replace ib3:=Is.same Pb6 _ _ ib3
  replace ib4:=Is.same Pb6 _ _ ib4
  replace ib5:=Is.same Pb6 _ _ ib5
  replace hlc6:=Pb6 _ _ hlc6
  replace wm2:=Pb6 _ _ wm2
  replace TT:=TT.trans Pb6
  generalize upd L14 b6 (.lst [.str a,.str g,.ref lc]) = L15 at Pb6 TT ilc ib1 ib2 ib3 ib4 ib5 ib6 hlc6 wm2 ⊢
  refine ⟨_,rfl,_,rfl,aI rfl,fun b7 hb7=>?_⟩
  have Pb7:=aH.upd (o:=.tup [.str a,.str g]) hb7
  have ib7:Is (upd L15 b7 (.tup [.str a,.str g])) (.tup [.str a,.str g]) (.ref b7):=⟨b7,_,rfl,aB,_,_,rfl,rfl,_,_,rfl,rfl,rfl⟩
  replace ilc:=Is.same Pb7 _ _ ilc
  replace ib1:=Is.same Pb7 _ _ ib1
  replace ib2:=Is.same Pb7 _ _ ib2
  replace ib3:=Is.same Pb7 _ _ ib3
  replace ib4:=Is.same Pb7 _ _ ib4
  replace ib5:=Is.same Pb7 _ _ ib5
  replace ib6:=Is.same Pb7 _ _ ib6
  replace hlc6:=Pb7 _ _ hlc6
  replace wm2:=Pb7 _ _ wm2
  replace TT:=TT.trans Pb7
  generalize upd L15 b7 (.tup [.str a,.str g]) = L16 at Pb7 TT ilc ib1 ib2 ib3 ib4 ib5 ib6 ib7 hlc6 wm2 ⊢
  refine ⟨_,rfl,_,rfl,_,rfl,lc,cus,rfl,.inl ⟨SqL.of hlc6,fun s1 hs1=>?_⟩⟩
  have Ps1:=aH.upd (o:=.tup cus) hs1
  have is1:Is (upd L16 s1 (.tup cus)) (.tup cs) (.ref s1):=⟨s1,_,rfl,aB,by
   obtain ⟨lc',cus',e1,e2,e3⟩:=ilc
   cases e1
   rw [hlc6] at e2
   cases e2
   exact IsL.same Ps1 _ _ e3⟩
  replace ilc:=Is.same Ps1 _ _ ilc
  replace ib1:=Is.same Ps1 _ _ ib1
  replace ib2:=Is.same Ps1 _ _ ib2
  replace ib3:=Is.same Ps1 _ _ ib3
  replace ib4:=Is.same Ps1 _ _ ib4
  replace ib5:=Is.same Ps1 _ _ ib5
  replace ib6:=Is.same Ps1 _ _ ib6
  replace ib7:=Is.same Ps1 _ _ ib7
  replace hlc6:=Ps1 _ _ hlc6
  replace wm2:=Ps1 _ _ wm2
  replace TT:=TT.trans Ps1
  generalize upd L16 s1 (.tup cus) = L17 at Ps1 TT ilc ib1 ib2 ib3 ib4 ib5 ib6 ib7 is1 hlc6 wm2 ⊢
  refine ⟨aI rfl,fun b8 hb8=>?_⟩
  have Pb8:=aH.upd (o:=.tup [.str a,.str g,.ref s1]) hb8
  have ib8:Is (upd L17 b8 (.tup [.str a,.str g,.ref s1])) (.tup [.str a,.str g,.tup cs]) (.ref b8):=⟨b8,_,rfl,aB,_,_,rfl,rfl,_,_,rfl,rfl,_,_,rfl,Is.same Pb8 _ _ is1,rfl⟩
  replace ilc:=Is.same Pb8 _ _ ilc
  replace ib1:=Is.same Pb8 _ _ ib1
  replace ib2:=Is.same Pb8 _ _ ib2
  replace ib3:=Is.same Pb8 _ _ ib3
  replace ib4:=Is.same Pb8 _ _ ib4
  replace ib5:=Is.same Pb8 _ _ ib5
  replace ib6:=Is.same Pb8 _ _ ib6
  replace ib7:=Is.same Pb8 _ _ ib7
  replace is1:=Is.same Pb8 _ _ is1
  replace hlc6:=Pb8 _ _ hlc6
  replace wm2:=Pb8 _ _ wm2
  replace TT:=TT.trans Pb8
  generalize upd L17 b8 (.tup [.str a,.str g,.ref s1]) = L18 at Pb8 TT ilc ib1 ib2 ib3 ib4 ib5 ib6 ib7 is1 ib8 hlc6 wm2 ⊢
  refine ⟨aI rfl,fun n2 hn2=>?_⟩
  have Pn2:=aH.upd (o:=.lst [.ref b6,.ref b7,.ref b8]) hn2
  have wn2:upd L18 n2 (.lst [.ref b6,.ref b7,.ref b8]) n2 = some (.lst [.ref b6,.ref b7,.ref b8]):=aB
  replace ilc:=Is.same Pn2 _ _ ilc
  replace ib1:=Is.same Pn2 _ _ ib1
  replace ib2:=Is.same Pn2 _ _ ib2
  replace ib3:=Is.same Pn2 _ _ ib3
  replace ib4:=Is.same Pn2 _ _ ib4
  replace ib5:=Is.same Pn2 _ _ ib5
  replace ib6:=Is.same Pn2 _ _ ib6
  replace ib7:=Is.same Pn2 _ _ ib7
  replace is1:=Is.same Pn2 _ _ is1
  replace ib8:=Is.same Pn2 _ _ ib8
  replace hlc6:=Pn2 _ _ hlc6
  replace wm2:=Pn2 _ _ wm2
  replace TT:=TT.trans Pn2
  generalize upd L18 n2 (.lst [.ref b6,.ref b7,.ref b8]) = L19 at Pn2 TT ilc ib1 ib2 ib3 ib4 ib5 ib6 ib7 is1 ib8 hlc6 wm2 wn2 ⊢
  refine ⟨m2,n2,_,_,rfl,rfl,wm2,wn2,by show 5 + 3 ≤ _;omega,fun bd hbd=>?_⟩
  have Pbd:=aH.upd (o:=.lst ([.ref b1,.ref b2,.ref b3,.ref b4,.ref b5] ++ [.ref b6,.ref b7,.ref b8])) hbd
  have wbd:upd L19 bd (.lst ([.ref b1,.ref b2,.ref b3,.ref b4,.ref b5] ++ [.ref b6,.ref b7,.ref b8])) bd = some (.lst [.ref b1,.ref b2,.ref b3,.ref b4,.ref b5,.ref b6,.ref b7,.ref b8]):=aB
  replace ilc:=Is.same Pbd _ _ ilc
  replace ib1:=Is.same Pbd _ _ ib1
  replace ib2:=Is.same Pbd _ _ ib2
  replace ib3:=Is.same Pbd _ _ ib3
  replace ib4:=Is.same Pbd _ _ ib4
  replace ib5:=Is.same Pbd _ _ ib5
  replace ib6:=Is.same Pbd _ _ ib6
  replace ib7:=Is.same Pbd _ _ ib7
  replace is1:=Is.same Pbd _ _ is1
  replace ib8:=Is.same Pbd _ _ ib8
  replace hlc6:=Pbd _ _ hlc6
  replace wm2:=Pbd _ _ wm2
  replace wn2:=Pbd _ _ wn2
  replace TT:=TT.trans Pbd
  generalize upd L19 bd (.lst ([.ref b1,.ref b2,.ref b3,.ref b4,.ref b5] ++ [.ref b6,.ref b7,.ref b8])) = L20 at Pbd TT ilc ib1 ib2 ib3 ib4 ib5 ib6 ib7 is1 ib8 hlc6 wm2 wn2 wbd ⊢
  refine gσ (σ':=[some (.ref lx),some (.ref ld),some u,some (.int n),some (.ref ls),some (.ref lb),some (.ref lg),some (.str a),some (.str g),some (.ref lc),some (.ref od),some (.ref bd),none]) rfl ?_
  refine hu6 _ _ _ ?_
  have S7:=S6.trans TT
  have hls7:=TT _ _ hls6
  have isome7:=IsL.same TT _ _ isome6
  have sconds:bP (.lst cs) = true:=iT (fun c m=>(hcs c m).sm) (by omega)
  have sgs:bP (.str g) = true:=decide_eq_true sg
  have sas:bP (.str a) = true:=decide_eq_true sa
  have ibad:IsL L20 [.tup [.str "keep",.str g,.lst cs],.tup [.str a,.str z,.lst cs],.tup [.str a,.str g,.lst []],.tup [.str a,.str g,.lst [.tup [.str "always"],.tup [.str "always"],.tup [.str "always"],.tup [.str "always"],.tup [.str "always"],.tup [.str "always"],.tup [.str "always"]]],.tup [.str a,.str g,.lst (cs ++ [dz])],.lst [.str a,.str g,.lst cs],.tup [.str a,.str g],.tup [.str a,.str g,.tup cs]] [.ref b1,.ref b2,.ref b3,.ref b4,.ref b5,.ref b6,.ref b7,.ref b8]:=⟨_,_,rfl,ib1,_,_,rfl,ib2,_,_,rfl,ib3,_,_,rfl,ib4,_,_,rfl,ib5,_,_,rfl,ib6,_,_,rfl,ib7,_,_,rfl,ib8,rfl⟩
  have s3:∀ {x y w:Dv},bP x = true → bP y = true → bP w = true → bP (.tup [x,y,w]) = true ∧ bP (.lst [x,y,w]) = true:=fun {x y w} h1 h2 h3=>by
   show (decide (3 ≤ 1000) && (bP x && (bP y && (bP w && true)))) = true ∧ (decide (3 ≤ 1000) && (bP x && (bP y && (bP w && true)))) = true
   rw [h1,h2,h3]
   exact ⟨rfl,rfl⟩
  have bad8:∀ d ∈ [Dv.tup [.str "keep",.str g,.lst cs],.tup [.str a,.str z,.lst cs],.tup [.str a,.str g,.lst []],.tup [.str a,.str g,.lst [.tup [.str "always"],.tup [.str "always"],.tup [.str "always"],.tup [.str "always"],.tup [.str "always"],.tup [.str "always"],.tup [.str "always"]]],.tup [.str a,.str g,.lst (cs ++ [dz])],.lst [.str a,.str g,.lst cs],.tup [.str a,.str g],.tup [.str a,.str g,.tup cs]],iJ gs zs d = false ∧ bP d = true:=by
   intro d m
   simp only [List.mem_cons,List.not_mem_nil,or_false] at m
   rcases m with rfl | rfl | rfl | rfl | rfl | rfl | rfl | rfl
   ·exact ⟨aGZ (by decide +kernel),(s3 (by decide +kernel) sgs sconds).1⟩
   ·exact ⟨yS bz,(s3 sas sz sconds).1⟩
   ·exact ⟨pZ (by rfl),(s3 sas sgs (by decide +kernel)).1⟩
   ·exact ⟨pZ (by rfl),(s3 sas sgs (by decide +kernel)).1⟩
   ·refine ⟨pZ (aDV bodd),(s3 sas sgs (iT (fun c m=>?_) (by rw [List.length_append];show _ + 1 ≤ _;omega))).1⟩
    rcases List.mem_append.mp m with m | m
    ·exact (hcs c m).sm
    ·cases List.mem_singleton.mp m
     exact sodd
   ·exact ⟨rfl,(s3 sas sgs sconds).2⟩
   ·refine ⟨rfl,nH (fun e me=>?_) (by show 2 ≤ 1000;decide)⟩
    simp only [List.mem_cons,List.not_mem_nil,or_false] at me
    rcases me with rfl | rfl
    ·exact sas
    ·exact sgs
   ·exact ⟨pZ rfl,(s3 sas sgs (nH (fun c m=>(hcs c m).sm) (by omega))).1⟩
  have bd7:=wbd
  have lbs:([Dv.tup [.str "keep",.str g,.lst cs],.tup [.str a,.str z,.lst cs],.tup [.str a,.str g,.lst []],.tup [.str a,.str g,.lst [.tup [.str "always"],.tup [.str "always"],.tup [.str "always"],.tup [.str "always"],.tup [.str "always"],.tup [.str "always"],.tup [.str "always"]]],.tup [.str a,.str g,.lst (cs ++ [dz])],.lst [.str a,.str g,.lst cs],.tup [.str a,.str g],.tup [.str a,.str g,.tup cs]]).length = 8:=rfl
  clear ib1 ib2 ib3 ib4 ib5 ib6 ib7 ib8 ilc is1
  generalize [Dv.tup [.str "keep",.str g,.lst cs],.tup [.str a,.str z,.lst cs],.tup [.str a,.str g,.lst []],.tup [.str a,.str g,.lst [.tup [.str "always"],.tup [.str "always"],.tup [.str "always"],.tup [.str "always"],.tup [.str "always"],.tup [.str "always"],.tup [.str "always"]]],.tup [.str a,.str g,.lst (cs ++ [dz])],.lst [.str a,.str g,.lst cs],.tup [.str a,.str g],.tup [.str a,.str g,.tup cs]] = bs at ibad bad8 lbs
  clear TT
  have n9:=Int.emod_nonneg n (show (9:Int) ≠ 0 by decide)
  have n99:=Int.emod_lt_of_pos n (show (0:Int) < 9 by decide)
  refine ⟨_,rfl,_,_,rfl,rfl,(iM rfl),rfl,_,rfl,?_⟩
  rw [iS]
  refine kP (fun h8=>?_) (fun h8=>?_)
  ·refine ⟨_,rfl,ls,ys,rfl,.inl ⟨SqL.of hls7,fun t1 ht1=>?_⟩⟩
   have C1:=aH.upd (o:=.tup ys) ht1
   intro dk hdk
   have C2:=aH.upd (o:=.dK []) hdk
   refine ⟨aI rfl,fun k5 hk5=>?_⟩
   have C3:=aH.upd (o:=.lst [.non,.int 5,.str "open",.ref t1,.ref dk]) hk5
   have CC:=C1.trans (C2.trans C3)
   have i5:IsL (upd (upd (upd L20 t1 (.tup ys)) dk (.dK [])) k5 (.lst [.non,.int 5,.str "open",.ref t1,.ref dk])) [.non,.int 5,.str "open",.tup (xs.map dkD),.dct [] []] [.non,.int 5,.str "open",.ref t1,.ref dk]:=⟨_,_,rfl,rfl,_,_,rfl,rfl,_,_,rfl,rfl,_,_,rfl,⟨t1,ys,rfl,(C2.trans C3) _ _ aB,IsL.same CC _ _ isome7⟩,_,_,rfl,⟨dk,[],rfl,C3 _ _ aB,rfl,rfl⟩,rfl⟩
   obtain ⟨d5,v5,md5,ev5,iv5⟩:=pS i5 (i:=n / 9 % 5) (Int.emod_nonneg _ (by decide)) (Int.emod_lt_of_pos _ (by decide))
   refine ⟨_,rfl,_,_,rfl,rfl,⟨by decide,by decide⟩,_,_,rfl,rfl,(iM rfl),k5,_,_,v5,rfl,rfl,SqL.of aB,ev5,?_⟩
   have ok5:gA gs zs d5 = false ∧ bP d5 = true:=by
    simp only [List.mem_cons,List.not_mem_nil,or_false] at md5
    rcases md5 with rfl | rfl | rfl | rfl | rfl
    ·exact ⟨rfl,rfl⟩
    ·exact ⟨rfl,rfl⟩
    ·exact ⟨rfl,by decide +kernel⟩
    ·exact ⟨rfl,nH ssm (by rw [List.length_map];omega)⟩
    ·exact ⟨rfl,rfl⟩
   exact q v5 d5 _ (S7.trans CC) iv5 ok5.2 ok5.1
  ·have pl1:(0:Int) < ((ys.length:Nat):Int) + 1:=by omega
   obtain ⟨at',hat⟩:=Int.eq_ofNat_of_zero_le (Int.emod_nonneg (n / 99) (show ((ys.length:Nat):Int) + 1 ≠ 0 by omega))
   refine ⟨_,rfl,_,_,rfl,rfl,⟨by decide,by decide⟩,_,rfl,ls,_,rfl,.inl (SqL.of hls7),_,_,rfl,rfl,_,_,rfl,rfl,pl1,?_⟩
   show oH 12 (V.int (n / 99 % (((ys.length:Nat):Int) + 1))) _ _ _
   rw [hat]
   obtain ⟨db,vb,mdb,evb,ivb⟩:=pS ibad (i:=n % 9) n9 (by rw [lbs];have:=of_decide_eq_false (Bool.eq_false_iff.mpr h8);omega)
   obtain ⟨bd1,bd2⟩:=bad8 db mdb
   refine ⟨_,rfl,_,rfl,_,rfl,ls,ys,rfl,SqL.of hls7,fun c1 hc1=>?_⟩
   rw [aDS]
   have C1:=aH.upd (o:=.lst (ys.take at')) hc1
   refine ⟨_,rfl,_,rfl,_,_,rfl,rfl,(iM rfl),bd,_,_,vb,rfl,rfl,SqL.of (C1 _ _ bd7),evb,aI rfl,fun c2 hc2=>?_⟩
   have C2:=aH.upd (o:=.lst [vb]) hc2
   refine ⟨c1,c2,_,_,rfl,rfl,C2 _ _ aB,aB,by rw [List.length_take];show _ + 1 ≤ _;omega,fun c3 hc3=>?_⟩
   have C3:=aH.upd (o:=.lst (ys.take at' ++ [vb])) hc3
   have CC:=C1.trans (C2.trans C3)
   refine ⟨_,rfl,_,rfl,_,rfl,ls,ys,rfl,SqL.of (CC _ _ hls7),fun c4 hc4=>?_⟩
   rw [yT]
   have C4:=aH.upd (o:=.lst (ys.drop at')) hc4
   refine ⟨c3,c4,_,_,rfl,rfl,C4 _ _ aB,aB,by rw [List.length_append,List.length_take,List.length_drop];show _ + 1 + _ ≤ _;omega,fun c5 hc5=>?_⟩
   have C5:=aH.upd (o:=.lst (ys.take at' ++ [vb] ++ ys.drop at')) hc5
   have CZ:=CC.trans (C4.trans C5)
   have isz:=IsL.same CZ _ _ isome7
   refine q (.ref c5) (.lst ((xs.map dkD).take at' ++ [db] ++ (xs.map dkD).drop at')) _ (S7.trans CZ) ⟨c5,_,rfl,aB,pT (pT (IsL.take at' isz) ⟨_,_,rfl,Is.same CZ _ _ ivb,rfl⟩) (tM at' isz)⟩ ?_ ?_
   ·refine iT (fun d m=>?_) (by rw [List.length_append,List.length_append,List.length_take,List.length_drop,List.length_map];show _ + 1 + _ ≤ _;omega)
    rcases List.mem_append.mp m with m | m
    ·rcases List.mem_append.mp m with m | m
     ·exact ssm d (List.mem_of_mem_take m)
     ·cases List.mem_singleton.mp m
      exact bd2
    ·exact ssm d (List.mem_of_mem_drop m)
   ·exact yR (List.mem_append_left _ (List.mem_append_right _ (List.mem_singleton.mpr rfl))) bd1
def aAX (C:Addr):Sp:=sp2 fun x y H Q=>∃ (pl:Addr) (fs ds:List Dv) (d:Dv),x = .ref pl ∧ LandAt C H pl fs ds ∧ Is H d y ∧ bP d = true ∧ gA ((ds.filter aO).map aL) (fs.map aL) d = false ∧ ∀ H',aH H H' → Q (.bl true) H'
theorem wD (T:Txt K mg C):Fc P w K mg base 9 "_law_refused" ["_law_land","_law_decrees_here"] (aAX C):=by
 obtain ⟨c_NoDecree,c_NoLevel,c_DykeError,ex_NoDecree,ex_NoLevel,hm_NoDecree,hm_NoLevel,hm_DykeError,kx_NoDecree_DykeError,kx_NoDecree_NoDecree,kx_NoDecree_ValueError,kx_NoDecree_NoLevel,kx_NoLevel_DykeError,kx_NoLevel_NoLevel,kx_NoLevel_ValueError,kx_NoLevel_NoDecree,xc_NoDecree_DykeError,xc_NoLevel_DykeError⟩:=T.xs
 obtain ⟨C_Season,cl_Season,mg_Season,na_on_land,na_own_decrees,na_open_names,na_wet_names,na_day_count,na_wet_counts,i_Season,m_season_p_day,m_season_p_days,m_season_p_opened,m_season_p_wet,m_season_p_count,m_season_p_wet_days,m_season_p_onto⟩:=T.k_Season
 have G_season_pinit:IcX P w K mg base 7 C_Season ["self","land","decrees"] (aAY mg C_Season C):=qG T mg_Season
 refine T.d_l_refused.fc pF jM (fun f cdv A outer s H vs Q E hr h=>?_)
 obtain ⟨x,y,rfl,pl,fs,ds,d,rfl,L,hd,sm,bad,q⟩:=h
 refine ⟨_,(aG (@aBK _ _ _ _ _ _ _ _ _ _ _ _ (2) pF.nd rfl rfl hm_DykeError (@vY _ _ _ _ (@aMC _ _ _ _ _ _ _ _ _ _ _ mg_Season G_season_pinit (hr.mono (by decide)) (aA (pv 0) (aA (pv 1) aD)) (by rfl) (by decide) (by rfl) (by rfl)) (by rfl)) (fun ea=>(aJ (@aU _ _ _ _ (@cI _ _ _ _ _ _ _ (@aR _ _ _ _ _ _ _ _ _ (@fI _ (K) rfl) rfl T.n_isinstance bB (aA (pv 2) (aA (@jP _ _ (.ref c_NoDecree) _ _ rfl hm_NoDecree rfl (by decide)) aD)) (by decide) (by decide) (by rfl) (by rfl)) (@cI _ _ _ _ _ _ _ (@aR _ _ _ _ _ _ _ _ _ (@fI _ (K) rfl) rfl T.n_isinstance bB (aA (pv 2) (aA (@kL _ _ _ _ T.n_ValueError PyProof.Rows.Boot.«ValueError» (by rfl) (by decide) (by decide)) aD)) (by decide) (by decide) (by rfl) (by rfl)) (@dE _ _ _ _ _ (@zN _ _ _ _ (@aR _ _ _ _ _ _ _ _ _ (@fI _ (K) rfl) rfl T.n_isinstance bB (aA (pv 2) (aA (@jP _ _ (.ref c_NoLevel) _ _ rfl hm_NoLevel rfl (by decide)) aD)) (by decide) (by decide) (by rfl) (by rfl))))))))) (by rfl) (by decide) (by rfl) (by rfl)) (aJ (@aU _ _ _ _ gS))),?_⟩
 refine ⟨_,rfl,_,rfl,fun p dx np ndx nex=>?_⟩
 have S4:aH H (upd (upd H dx (.own p)) p (.ins C_Season dx [])):=fun b o e=>by
  rw [aT (aQ e np),aT (aQ e ndx)]
  exact e
 refine ⟨_,_,_,p,dx,pl,fs,ds,d,c_NoDecree,rfl,rfl,aB,rfl,L.same S4,Is.same S4 _ _ hd,sm,bad,hm_NoDecree,fun H5 S5=>⟨xc_NoDecree_DykeError,fun ea hea=>?_⟩⟩
 have S6:=aH.upd (o:=nZ ea (.ref c_NoDecree)) hea
 have he:upd H5 ea (nZ ea (.ref c_NoDecree)) ea = some (nZ ea (.ref c_NoDecree)):=aB
 have T6:=S4.trans (S5.trans S6)
 generalize upd H5 ea (nZ ea (.ref c_NoDecree)) = H6 at he T6 ⊢
 refine ⟨_,rfl,ea,_,_,c_NoDecree,true,rfl,rfl,he,ex_NoDecree,kx_NoDecree_NoDecree,_,rfl,cL ?_⟩
 refine ⟨_,rfl,ea,_,_,c_NoDecree,true,rfl,rfl,he,ex_NoDecree,kx_NoDecree_ValueError,_,rfl,cL ?_⟩
 refine ⟨_,rfl,ea,_,_,c_NoDecree,false,rfl,rfl,he,ex_NoDecree,kx_NoDecree_NoLevel,?_⟩
 exact ⟨_,rfl,q _ T6⟩
def aEQ (CS C:Addr):Sp:=sp3 fun x y u H Q=>∃ (p l:Addr) (us:List V) (es:List Dv) (b:Bool) (dw pl:Addr) (fs ds:List Dv) (xs:List Dk) (op wt:List Str) (n:Int) (cnt:Str → Int),x = .ref p ∧ SeaAt CS C H p dw pl fs ds xs op wt n cnt ∧ y = .ref l ∧ H l = some (.lst us) ∧ IsL H es us ∧ es.length ≤ 1000 ∧ u = .bl b ∧ (b = true → es.all bT = false) ∧ (b = false → ∃ d ds,es = d :: ds ∧ bT d = false) ∧ ∀ H',aH H H' → Q (.bl true) H'
theorem uH (T:Txt K mg C) {CS:Addr} (hCS:mg "Season" = some (.ref CS)):Fc P w K mg base 10 "_law_no_level" ["_law_season","_law_levels","_law_together"] (aEQ CS C):=by
 obtain ⟨c_NoDecree,c_NoLevel,c_DykeError,ex_NoDecree,ex_NoLevel,hm_NoDecree,hm_NoLevel,hm_DykeError,kx_NoDecree_DykeError,kx_NoDecree_NoDecree,kx_NoDecree_ValueError,kx_NoDecree_NoLevel,kx_NoLevel_DykeError,kx_NoLevel_NoLevel,kx_NoLevel_ValueError,kx_NoLevel_NoDecree,xc_NoDecree_DykeError,xc_NoLevel_DykeError⟩:=T.xs
 have G_season_p_day:McX P w K mg base 8 CS "day" ["self","level"] (aAZ mg CS C):=qI T hCS
 have G_season_p_days:McX P w K mg base 9 CS "days" ["self","levels"] (xN mg CS C):=pN T hCS
 obtain ⟨C_Season,cl_Season,mg_Season,na_on_land,na_own_decrees,na_open_names,na_wet_names,na_day_count,na_wet_counts,i_Season,m_season_p_day,m_season_p_days,m_season_p_opened,m_season_p_wet,m_season_p_count,m_season_p_wet_days,m_season_p_onto⟩:=T.k_Season
 rw [hCS] at mg_Season
 cases mg_Season
 refine T.d_l_no_level.fc oB aFU (fun f cdv A outer s H vs Q E hr h=>?_)
 obtain ⟨x,y,u,rfl,p,l,us,es,b,dw,pl,fs,ds,xs,op,wt,n,cnt,rfl,SA,rfl,hl,iu,les,rfl,hb1,hb2,q⟩:=h
 obtain ⟨dx,F,_,_,_,hp,sf,_⟩:=SA.ex
 refine ⟨_,(aG (@aBK _ _ _ _ _ _ _ _ _ _ _ _ (3) oB.nd rfl rfl hm_DykeError (@aMG _ _ _ _ _ _ _ _ (@cB _ _ _ (pv 2) (by intro _;rfl)) (@vY _ _ _ _ (@aMD _ _ _ _ _ _ _ _ _ _ _ _ _ _ cl_Season G_season_p_days (hr.mono (by decide)) (pv 0) (aA (pv 1) aD) (by rfl) (by rfl) (by rfl)) (by rfl)) (@vY _ _ _ _ (@aMD _ _ _ _ _ _ _ _ _ _ _ _ _ _ cl_Season G_season_p_day (hr.mono (by decide)) (pv 0) (aA (@aY _ _ _ _ _ _ _ (@bY _ (K) rfl) (pv 1) aE (fun _ _=>rfl)) aD) (by rfl) (by rfl) (by rfl)) (by rfl))) (fun ea=>(aJ (@aU _ _ _ _ (@cI _ _ _ _ _ _ _ (@aR _ _ _ _ _ _ _ _ _ (@fI _ (K) rfl) rfl T.n_isinstance bB (aA (pv 3) (aA (@jP _ _ (.ref c_NoLevel) _ _ rfl hm_NoLevel rfl (by decide)) aD)) (by decide) (by decide) (by rfl) (by rfl)) (@cI _ _ _ _ _ _ _ (@aR _ _ _ _ _ _ _ _ _ (@fI _ (K) rfl) rfl T.n_isinstance bB (aA (pv 3) (aA (@kL _ _ _ _ T.n_ValueError PyProof.Rows.Boot.«ValueError» (by rfl) (by decide) (by decide)) aD)) (by decide) (by decide) (by rfl) (by rfl)) (@dE _ _ _ _ _ (@zN _ _ _ _ (@aR _ _ _ _ _ _ _ _ _ (@fI _ (K) rfl) rfl T.n_isinstance bB (aA (pv 3) (aA (@jP _ _ (.ref c_NoDecree) _ _ rfl hm_NoDecree rfl (by decide)) aD)) (by decide) (by decide) (by rfl) (by rfl))))))))) (by rfl) (by decide) (by rfl) (by rfl)) (aJ (@aU _ _ _ _ gS))),?_⟩
 cases b with
 | true =>
  refine ⟨_,rfl,_,rfl,cL ?_⟩
  refine ⟨_,rfl,p,dx,F,rfl,hp,sf.no _ (by decide +kernel),_,rfl,_,_,l,us,es,c_NoLevel,rfl,rfl,hl,iu,les,hb1 rfl,hm_NoLevel,fun H5 S5=>⟨xc_NoLevel_DykeError,fun ea hea=>?_⟩⟩
  have S6:=aH.upd (o:=nZ ea (.ref c_NoLevel)) hea
  have he:upd H5 ea (nZ ea (.ref c_NoLevel)) ea = some (nZ ea (.ref c_NoLevel)):=aB
  have T6:=S5.trans S6
  generalize upd H5 ea (nZ ea (.ref c_NoLevel)) = H6 at he T6 ⊢
  refine ⟨_,rfl,ea,_,_,c_NoLevel,true,rfl,rfl,he,ex_NoLevel,kx_NoLevel_NoLevel,_,rfl,cL ?_⟩
  refine ⟨_,rfl,ea,_,_,c_NoLevel,true,rfl,rfl,he,ex_NoLevel,kx_NoLevel_ValueError,_,rfl,cL ?_⟩
  refine ⟨_,rfl,ea,_,_,c_NoLevel,false,rfl,rfl,he,ex_NoLevel,kx_NoLevel_NoDecree,?_⟩
  exact ⟨_,rfl,q _ T6⟩
 | false =>
  obtain ⟨d,es',rfl,bad⟩:=hb2 rfl
  obtain ⟨v0,ev0,iv0⟩:=iu.get (show (d :: es')[0]? = some d from rfl)
  refine ⟨_,rfl,_,rfl,bS ?_⟩
  refine ⟨_,rfl,p,dx,F,rfl,hp,sf.no _ (by decide +kernel),_,rfl,l,us,0,v0,rfl,rfl,SqL.of hl,aK (j:=0) ev0,_,_,d,c_NoLevel,rfl,iv0,bad,hm_NoLevel,xc_NoLevel_DykeError,fun ea hea=>?_⟩
  have S6:=aH.upd (o:=nZ ea (.ref c_NoLevel)) hea
  have he:upd H ea (nZ ea (.ref c_NoLevel)) ea = some (nZ ea (.ref c_NoLevel)):=aB
  generalize upd H ea (nZ ea (.ref c_NoLevel)) = H6 at he S6 ⊢
  refine ⟨_,rfl,ea,_,_,c_NoLevel,true,rfl,rfl,he,ex_NoLevel,kx_NoLevel_NoLevel,_,rfl,cL ?_⟩
  refine ⟨_,rfl,ea,_,_,c_NoLevel,true,rfl,rfl,he,ex_NoLevel,kx_NoLevel_ValueError,_,rfl,cL ?_⟩
  refine ⟨_,rfl,ea,_,_,c_NoLevel,false,rfl,rfl,he,ex_NoLevel,kx_NoLevel_NoDecree,?_⟩
  exact ⟨_,rfl,q _ S6⟩
def xK (CS C:Addr):Sp:=sp2 fun x y H Q=>∃ (p dw p2 dw2 pl:Addr) (fs ds:List Dv) (xs:List Dk) (op wt:List Str) (n:Int) (cnt:Str → Int),x = .ref p ∧ SeaAt CS C H p dw pl fs ds xs op wt n cnt ∧ y = .ref p2 ∧ SeaAt CS C H p2 dw2 pl fs ds xs op wt n cnt ∧ ∀ H',aH H H' → Q (.bl true) H'
theorem aCV (T:Txt K mg C) {CS:Addr} (hCS:mg "Season" = some (.ref CS)):Fc P w K mg base 2 "_law_same" ["_law_one","_law_other"] (xK CS C):=by
 have G_season_p_opened:Mc P w K mg base 1 CS "opened" ["self"] (vQ CS C):=jI T hCS
 have G_season_p_wet:Mc P w K mg base 1 CS "wet" ["self"] (zF CS C):=lT T hCS
 have G_season_p_count:Mc P w K mg base 1 CS "count" ["self"] (xL CS C):=pO T hCS
 have G_season_p_wet_days:Mc P w K mg base 1 CS "wet_days" ["self"] (aAV CS C):=mM T hCS
 obtain ⟨C_Season,cl_Season,mg_Season,na_on_land,na_own_decrees,na_open_names,na_wet_names,na_day_count,na_wet_counts,i_Season,m_season_p_day,m_season_p_days,m_season_p_opened,m_season_p_wet,m_season_p_count,m_season_p_wet_days,m_season_p_onto⟩:=T.k_Season
 rw [hCS] at mg_Season
 cases mg_Season
 refine T.d_l_same.fc aCN jM (fun f cdv A outer s H vs Q E hr h=>?_)
 obtain ⟨x,y,rfl,p,dw,p2,dw2,pl,fs,ds,xs,op,wt,n,cnt,rfl,SA,rfl,SB,q⟩:=h
 obtain ⟨dx,F,_,_,_,hp,sf,_⟩:=SA.ex
 obtain ⟨dx2,F2,_,_,_,hp2,sf2,_⟩:=SB.ex
 refine ⟨_,(aG (@cQ _ _ _ _ _ _ _ _ (@PW.pt _ _ _ (@kJ _ _ _ _ _ _ _ (@bZ _ _ _ _ _ _ _ _ (@zO _ hr.units) (@gF _ _ _ _ _ _ _ _ _ _ _ cl_Season G_season_p_opened (hr.mono (by decide)) (pv 0) (by rfl)) (@gF _ _ _ _ _ _ _ _ _ _ _ cl_Season G_season_p_opened (hr.mono (by decide)) (pv 1) (by rfl)) (@bR _ _ (by decide) (by decide))) (@jG _ _ _ _ (@bZ _ _ _ _ _ _ _ _ (@zO _ hr.units) (@gF _ _ _ _ _ _ _ _ _ _ _ cl_Season G_season_p_wet (hr.mono (by decide)) (pv 0) (by rfl)) (@gF _ _ _ _ _ _ _ _ _ _ _ cl_Season G_season_p_wet (hr.mono (by decide)) (pv 1) (by rfl)) (@bR _ _ (by decide) (by decide)))))) (aJ (@aU _ _ _ _ gS)) bG) (aJ (@aU _ _ _ _ (@cI _ _ _ _ _ _ _ (@cV _ _ _ _ _ _ _ _ jQ (@gF _ _ _ _ _ _ _ _ _ _ _ cl_Season G_season_p_count (hr.mono (by decide)) (pv 0) (by rfl)) (@gF _ _ _ _ _ _ _ _ _ _ _ cl_Season G_season_p_count (hr.mono (by decide)) (pv 1) (by rfl)) (@bR _ _ (by decide) (by decide))) (@dE _ _ _ _ _ (@cV _ _ _ _ _ _ _ _ (aKN hr.units) (@gF _ _ _ _ _ _ _ _ _ _ _ cl_Season G_season_p_wet_days (hr.mono (by decide)) (pv 0) (by rfl)) (@gF _ _ _ _ _ _ _ _ _ _ _ cl_Season G_season_p_wet_days (hr.mono (by decide)) (pv 1) (by rfl)) (@bR _ _ (by decide) (by decide)))))))),?_⟩
 refine ⟨_,rfl,p,dx,F,rfl,hp,sf.no _ (by decide +kernel),_,rfl,p,dw,pl,fs,ds,xs,op,wt,n,cnt,rfl,SA,fun l1 hl1=>?_⟩
 have A1:=aH.upd (o:=.lst (op.map V.str)) hl1
 refine ⟨_,rfl,p2,dx2,F2,rfl,A1 _ _ hp2,sf2.no _ (by decide +kernel),_,rfl,p2,dw2,pl,fs,ds,xs,op,wt,n,cnt,rfl,SB.same A1,fun l2 hl2=>?_⟩
 have A2:=aH.upd (o:=.lst (op.map V.str)) hl2
 refine tG (d:=.lst (op.map Dv.str)) (lA (A2 _ _ aB)) (lA aB) (jT _) ⟨_,rfl,bS ?_⟩
 have B2:=A1.trans A2
 refine ⟨_,rfl,p,dx,F,rfl,B2 _ _ hp,sf.no _ (by decide +kernel),_,rfl,p,dw,pl,fs,ds,xs,op,wt,n,cnt,rfl,SA.same B2,fun l3 hl3=>?_⟩
 have A3:=aH.upd (o:=.lst (wt.map V.str)) hl3
 refine ⟨_,rfl,p2,dx2,F2,rfl,(B2.trans A3) _ _ hp2,sf2.no _ (by decide +kernel),_,rfl,p2,dw2,pl,fs,ds,xs,op,wt,n,cnt,rfl,SB.same (B2.trans A3),fun l4 hl4=>?_⟩
 have A4:=aH.upd (o:=.lst (wt.map V.str)) hl4
 refine tG (d:=.lst (wt.map Dv.str)) (lA (A4 _ _ aB)) (lA aB) (jT _) ⟨_,rfl,bS ?_⟩
 have B4:=B2.trans (A3.trans A4)
 refine ⟨_,rfl,p,dx,F,rfl,B4 _ _ hp,sf.no _ (by decide +kernel),_,rfl,p,dw,pl,fs,ds,xs,op,wt,n,cnt,rfl,SA.same B4,?_⟩
 refine ⟨_,rfl,p2,dx2,F2,rfl,B4 _ _ hp2,sf2.no _ (by decide +kernel),_,rfl,p2,dw2,pl,fs,ds,xs,op,wt,n,cnt,rfl,SB.same B4,?_⟩
 refine ⟨rfl,_,rfl,?_⟩
 rw [decide_eq_true rfl]
 refine cL ?_
 refine ⟨_,rfl,p,dx,F,rfl,B4 _ _ hp,sf.no _ (by decide +kernel),_,rfl,p,dw,pl,fs,ds,xs,op,wt,n,cnt,rfl,SA.same B4,fun l5 hl5=>?_⟩
 have A5:=aH.upd (o:=.dK (eI (fs.map aL) cnt)) hl5
 refine ⟨_,rfl,p2,dx2,F2,rfl,(B4.trans A5) _ _ hp2,sf2.no _ (by decide +kernel),_,rfl,p2,dw2,pl,fs,ds,xs,op,wt,n,cnt,rfl,SB.same (B4.trans A5),fun l6 hl6=>?_⟩
 have A6:=aH.upd (o:=.dK (eI (fs.map aL) cnt)) hl6
 refine ⟨l5,l6,_,rfl,rfl,.inl (A6 _ _ aB),.inl aB,fun kv m=>?_,q _ (B4.trans (A5.trans A6))⟩
 obtain ⟨i,e⟩:=lN kv m
 rw [e]
 rfl
open Mt22 MtF
theorem SeaAt.ylt {CS C:Addr} {H H':Hp} {p dw pl:Addr} {fs ds:List Dv} {xs:List Dk} {op wt:List Str} {n:Int} {cnt:Str → Int} (SA:SeaAt CS C H p dw pl fs ds xs op wt n cnt) (Y:qZ p dw H H'):lO H H':=fun b o e l=>by
 obtain ⟨dx,F,_,_,_,hp,_⟩:=SA.ex
 exact Y b o e (fun z=>by rw [z,hp] at e;cases e;cases l) (fun z=>by rw [z,SA.dwt] at e;cases e;cases l)
theorem SeaAt.away {CS C:Addr} {H H':Hp} {p dw pl p2 dw2 pl2:Addr} {fs ds fs2 ds2:List Dv} {xs xs2:List Dk} {op wt op2 wt2:List Str} {n n2:Int} {cnt cnt2:Str → Int} (SA:SeaAt CS C H p dw pl fs ds xs op wt n cnt) (SB:SeaAt CS C H p2 dw2 pl2 fs2 ds2 xs2 op2 wt2 n2 cnt2) (Y:qZ p2 dw2 H H') (n1:p ≠ p2) (n2:dw ≠ dw2):SeaAt CS C H' p dw pl fs ds xs op wt n cnt:=by
 obtain ⟨dx,F,ld,lo,lw,hp,sf,dc,hlo,hlw⟩:=SA.ex
 obtain ⟨dx2,F2,ld2,lo2,lw2,hp2,sf2,_⟩:=SB.ex
 have hd2:=SB.dwt
 have hd:=SA.dwt
 have lt:lO H H':=fun b o e l=>Y b o e (fun z=>by rw [z,hp2] at e;cases e;cases l) (fun z=>by rw [z,hd2] at e;cases e;cases l)
 have np:pl ≠ p2:=fun e=>by
  obtain ⟨dx',d1,d2,hx,_⟩:=SA.land.ex
  rw [e,hp2] at hx
  have e':=(HO.ins.inj (Option.some.inj hx)).2.2
  have:=sf2.no "field_rows" (by decide +kernel)
  rw [e',nT] at this
  cases this
 have nd':pl ≠ dw2:=fun z=>by
  obtain ⟨dx',e1,e2,hx,_⟩:=SA.land.ex
  rw [z,hd2] at hx
  cases hx
 obtain ⟨M,hM⟩:∃ M:Hp,M = fun b=>if b = p2 then H p2 else H' b:=⟨_,rfl⟩
 have Mp:M p2 = some (.ins CS dx2 F2):=by
  rw [hM]
  show (if p2 = p2 then H p2 else H' p2) = _
  rw [if_pos rfl]
  exact hp2
 have Mn:∀ {b:Addr},b ≠ p2 → M b = H' b:=fun {b} n=>by
  rw [hM]
  show (if b = p2 then H p2 else H' b) = _
  rw [if_neg n]
 have L1:LandAt C M pl fs ds:=mT hd2 rfl (fun kvs e=>by cases e;exact lN) nd' (fun b o e n=>by
  by_cases h:b = p2
  ·subst h
   rw [hp2] at e
   cases e
   exact Mp
  ·rw [Mn h]
   exact Y _ _ e h n) SA.land
 have L2:LandAt C H' pl fs ds:=mT Mp rfl (fun kvs e=>by cases e) np (fun b o e n=>by rw [Mn n] at e;exact e) L1
 exact ⟨⟨dx,F,ld,lo,lw,Y _ _ hp n1 (fun z=>by rw [z,hd2] at hp;cases hp),sf,dc.sameLT lt,lt _ _ hlo rfl,lt _ _ hlw rfl⟩,L2,Y _ _ hd (fun z=>by rw [z,hp2] at hd;cases hd) n2,SA.sub,SA.lop,SA.lx⟩
theorem aKP {f:Addr} {fd:FuncData} (T:Txt K mg C) (F:Fun K "law" "law" nK f fd):FnOk P w K mg base CX0 13 f fd ["_law_script"] (aBA K):=by
 obtain ⟨C_Season,cl_Season,mg_Season,na_on_land,na_own_decrees,na_open_names,na_wet_names,na_day_count,na_wet_counts,i_Season,m_season_p_day,m_season_p_days,m_season_p_opened,m_season_p_wet,m_season_p_count,m_season_p_wet_days,m_season_p_onto⟩:=T.k_Season
 have G_l_fields:Fc P w K mg base 2 "_law_fields" ["_law_script","_law_most"] (aJK K):=yF T
 have G_l_dykes:Fc P w K mg base 2 "_law_dykes" ["_law_script","_law_at","_law_most","_law_fields_here"] (aJL K):=zR T
 have G_l_decrees:Fc P w K mg base 3 "_law_decrees" ["_law_script","_law_at","_law_most","_law_fields_here","_law_dykes_here"] (aJN K):=wE T
 have G_land_pinit:Ic P w K mg base 6 C ["self","fields","dykes"] (aES C):=uG T
 have G_season_pinit:Ic P w K mg base 7 C_Season ["self","land","decrees"] (aAU C_Season C):=rG T mg_Season
 have G_season_p_day:Mc P w K mg base 8 C_Season "day" ["self","level"] (aEV C_Season C):=lU T mg_Season
 have G_season_p_days:Mc P w K mg base 9 C_Season "days" ["self","levels"] (aBG C_Season C):=qH T mg_Season
 have G_l_height:Fc P w K mg base 1 "_law_height" ["_law_cell"] aET:=jR T
 have G_l_mixed:Fc P w K mg base 1 "_law_mixed" ["_law_script","_law_k"] (aER K):=lH T
 have G_l_spoilt:Fc P w K mg base 1 "_law_spoilt" ["_law_decrees_here","_law_dykes_here","_law_fields_here","_law_cell"] (xJ K):=yE T
 have G_l_refused:Fc P w K mg base 9 "_law_refused" ["_law_land","_law_decrees_here"] (aAX C):=wD T
 have G_l_no_level:Fc P w K mg base 10 "_law_no_level" ["_law_season","_law_levels","_law_together"] (aEQ C_Season C):=uH T mg_Season
 have G_l_same:Fc P w K mg base 2 "_law_same" ["_law_one","_law_other"] (xK C_Season C):=aCV T mg_Season
 refine F.ok dQ lY (fun cdv A outer s H vs Q E hr h=>?_)
 obtain ⟨x,rfl,a,ns,rfl,hS,hns,q⟩:=h
 have big:=cF
 have big2:(4000:Nat) ≤ sizeLine:=by decide
 have hu:=pV hr
 have scr:Scr K H (.ref a):=⟨a,ns,rfl,hS,hns⟩
 refine ⟨_,(aG (@bA _ _ (1) _ _ _ _ dQ.nd rfl (Or.inl rfl) (@bN _ _ _ _ _ _ _ _ _ _ G_l_fields (hr.mono (by decide)) (aA (pv 0) (@aA _ _ _ _ _ aE aD (by rfl))) (by rfl) (by decide) (by rfl) (by rfl)) (by rfl) (by trivial)) (aG (@bA _ _ (2) _ _ _ _ dQ.nd rfl (Or.inl rfl) (@bN _ _ _ _ _ _ _ _ _ _ G_l_dykes (hr.mono (by decide)) (aA (pv 0) (aA aE (aA aE (aA (pv 1) aD)))) (by rfl) (by decide) (by rfl) (by rfl)) (by rfl) (by trivial)) (aG (@bA _ _ (3) _ _ _ _ dQ.nd rfl (Or.inl rfl) (@bN _ _ _ _ _ _ _ _ _ _ G_l_decrees (hr.mono (by decide)) (aA (pv 0) (aA aE (aA aE (aA (pv 1) (aA (pv 2) aD))))) (by rfl) (by decide) (by rfl) (by rfl)) (by rfl) (by trivial)) (aG (@bA _ _ (4) _ _ _ _ dQ.nd rfl (Or.inl rfl) (@aFM _ _ _ _ _ _ _ _ _ _ _ T.mg_Land G_land_pinit (hr.mono (by decide)) (aA (pv 1) (aA (pv 2) aD)) (by rfl) (by decide) (by rfl) (by rfl)) (by rfl) (by trivial)) (aG (@gR _ _ _ _ _ _ _ _ PassesOwn.never rfl (@fG _ _ _ _ _ _ rfl T.n_range (aA (@aR _ _ _ _ _ _ _ _ _ (@iV _ rfl) rfl T.n_max iW (aA aE (aA (@aR _ _ _ _ _ _ _ _ _ (@nW _ rfl) rfl T.n_min nX (aA aE (aA (@aM _ _ _ _ _ _ _ _ jH (@aR _ _ _ _ _ _ _ _ _ (@bL _ (K) rfl) rfl T.n_len cG (aA (pv 0) aD) (by decide) (by decide) (by rfl) (by rfl)) aE) aD)) (by decide) (by decide) (by rfl) (by rfl)) aD)) (by decide) (by decide) (by rfl) (by rfl)) aD) (by rfl)) (@aX _ _ (5) _ dQ.nd rfl (Or.inl rfl) (by trivial)) (aJ (@cQ _ _ _ _ _ _ _ _ (@cU _ _ _ _ (@cB _ _ _ (@bN _ _ _ _ _ _ _ _ _ _ G_l_refused (hr.mono (by decide)) (aA (pv 4) (aA (@bN _ _ _ _ _ _ _ _ _ _ G_l_spoilt (hr.mono (by decide)) (aA (pv 3) (aA (pv 2) (aA (pv 1) (aA (@bN _ _ _ _ _ _ _ _ _ _ G_l_mixed (hr.mono (by decide)) (aA (pv 0) (aA (@aM _ _ _ _ _ _ _ _ dY aE (pv 5)) aD)) (by rfl) (by decide) (by rfl) (by rfl)) aD)))) (by rfl) (by decide) (by rfl) (by rfl)) aD)) (by rfl) (by decide) (by rfl) (by rfl)) (by intro _;rfl))) (aJ (@aU _ _ _ _ gS)) bG)) (by intro _;rfl)) (aG (@bA _ _ (6) _ _ _ _ dQ.nd rfl (Or.inl rfl) (@aFM _ _ _ _ _ _ _ _ _ _ _ mg_Season G_season_pinit (hr.mono (by decide)) (aA (pv 4) (aA (pv 3) aD)) (by rfl) (by decide) (by rfl) (by rfl)) (by rfl) (by trivial)) (aG (@bA _ _ (7) _ _ _ _ dQ.nd rfl (Or.inl rfl) (@aFM _ _ _ _ _ _ _ _ _ _ _ mg_Season G_season_pinit (hr.mono (by decide)) (aA (pv 4) (aA (pv 3) aD)) (by rfl) (by decide) (by rfl) (by rfl)) (by rfl) (by trivial)) (aG (@bA _ _ (8) _ _ _ _ dQ.nd rfl (Or.inl rfl) (@bK _ _ _ _ (@aA _ _ _ _ _ jX (@aA _ _ _ _ _ bJ (@aA _ _ _ _ _ gS (@aA _ _ _ _ _ gS (@aA _ _ _ _ _ (@aM _ _ _ _ _ _ _ _ dY (@aM _ _ _ _ _ _ _ _ dL aE aE) aE) (@aA _ _ _ _ _ (@aM _ _ _ _ _ _ _ _ jH (@aBN _ _ _ _ _ _ vO aE) (@aM _ _ _ _ _ _ _ _ dL aE aE)) (@aA _ _ _ _ _ (@bI _ _ _ _ _ (@aA _ _ _ _ _ aE aD (by rfl))) (@aA _ _ _ _ _ (@bK _ _ _ _ (@aA _ _ _ _ _ aE aD (by rfl))) (@aA _ _ _ _ _ xY aD (by rfl)) (by rfl)) (by rfl)) (by rfl)) (by rfl)) (by rfl)) (by rfl)) (by rfl)) (by rfl))) (by rfl) (by trivial)) (aG (@gR _ _ _ _ _ _ _ _ PassesOwn.never rfl (@fG _ _ _ _ _ _ rfl T.n_range (aA (@aR _ _ _ _ _ _ _ _ _ (@iV _ rfl) rfl T.n_max iW (aA aE (aA (@aR _ _ _ _ _ _ _ _ _ (@nW _ rfl) rfl T.n_min nX (aA aE (aA (@aM _ _ _ _ _ _ _ _ jH (@aR _ _ _ _ _ _ _ _ _ (@bL _ (K) rfl) rfl T.n_len cG (aA (pv 0) aD) (by decide) (by decide) (by rfl) (by rfl)) aE) aD)) (by decide) (by decide) (by rfl) (by rfl)) aD)) (by decide) (by decide) (by rfl) (by rfl)) aD) (by rfl)) (@aX _ _ (5) _ dQ.nd rfl (Or.inl rfl) (by trivial)) (aG (@bA _ _ (9) _ _ _ _ dQ.nd rfl (Or.inl rfl) (@bN _ _ _ _ _ _ _ _ _ _ G_l_mixed (hr.mono (by decide)) (aA (pv 0) (aA (@aM _ _ _ _ _ _ _ _ dY aE (pv 5)) aD)) (by rfl) (by decide) (by rfl) (by rfl)) (by rfl) (by trivial)) (aG (@bA _ _ (10) _ _ _ _ dQ.nd rfl (Or.inl rfl) (@bN _ _ _ _ _ _ _ _ _ _ G_l_height (hr.mono (by decide)) (aA (@aM _ _ _ _ _ _ _ _ bE (pv 9) (@aM _ _ _ _ _ _ _ _ dL aE aE)) aD) (by rfl) (by decide) (by rfl) (by rfl)) (by rfl) (by trivial)) (aG (@bA _ _ (11) _ _ _ _ dQ.nd rfl (Or.inl rfl) (@aY _ _ _ _ _ _ _ (@bY _ (K) rfl) (pv 8) (@aM _ _ _ _ _ _ _ _ bQ (pv 9) aE) (fun _ _=>rfl)) (by rfl) (by trivial)) (aG (@bA _ _ (12) _ _ _ _ dQ.nd rfl (Or.inl rfl) (@mJ _ _ _ _ _ _ _ _ _ _ (@sD _ (K) rfl) (@bK _ _ _ _ (aA (pv 10) (aA (pv 11) (aA (pv 10) aD)))) (@pJ _ _ _ (@aM _ _ _ _ _ _ _ _ bQ (@aM _ _ _ _ _ _ _ _ bE (pv 9) aE) aE)) pK) (by rfl) (by trivial)) (aG (@cQ _ _ _ _ _ _ _ _ (@PW.pt _ _ _ (@kJ _ _ _ _ _ _ _ (@cU _ _ _ _ (@cB _ _ _ (@bN _ _ _ _ _ _ _ _ _ _ G_l_no_level (hr.mono (by decide)) (aA (pv 6) (aA (@bK _ _ _ _ (aA (pv 11) aD)) (aA gS aD))) (by rfl) (by decide) (by rfl) (by rfl)) (by intro _;rfl))) (@jG _ _ _ _ (@cU _ _ _ _ (@cB _ _ _ (@bN _ _ _ _ _ _ _ _ _ _ G_l_no_level (hr.mono (by decide)) (aA (pv 6) (aA (pv 12) (aA gS aD))) (by rfl) (by decide) (by rfl) (by rfl)) (by intro _;rfl)))))) (aJ (@aU _ _ _ _ gS)) bG) (aJ (@cQ _ _ _ _ _ _ _ _ (@PW.pt _ _ _ (@kJ _ _ _ _ _ _ _ (@cU _ _ _ _ (@cB _ _ _ (@bN _ _ _ _ _ _ _ _ _ _ G_l_same (hr.mono (by decide)) (aA (pv 6) (aA (pv 7) aD)) (by rfl) (by decide) (by rfl) (by rfl)) (by intro _;rfl))) (@jG _ _ _ _ (@bZ _ _ _ _ _ _ _ _ (@zO _ hr.units) (@aCR _ _ _ _ _ _ _ _ _ _ _ _ _ _ cl_Season G_season_p_day (hr.mono (by decide)) (pv 6) (aA (pv 10) aD) (by rfl) (by rfl) (by rfl)) (@aCR _ _ _ _ _ _ _ _ _ _ _ _ _ _ cl_Season G_season_p_day (hr.mono (by decide)) (pv 7) (aA (pv 10) aD) (by rfl) (by rfl) (by rfl)) (@bR _ _ (by decide) (by decide)))))) (aJ (@aU _ _ _ _ gS)) bG))))))) (by intro _;rfl)) (aJ (@aU _ _ _ _ (@cI _ _ _ _ _ _ _ (@cV _ _ _ _ _ _ _ _ (@zP _ hr.units) (@aCR _ _ _ _ _ _ _ _ _ _ _ _ _ _ cl_Season G_season_p_days (hr.mono (by decide)) (pv 6) (aA (@bK _ _ _ _ aD) aD) (by rfl) (by rfl) (by rfl)) (@bK _ _ _ _ aD) (@bR _ _ (by decide) (by decide))) (@dE _ _ _ _ _ (@bN _ _ _ _ _ _ _ _ _ _ G_l_same (hr.mono (by decide)) (aA (pv 6) (aA (pv 7) aD)) (by rfl) (by decide) (by rfl) (by rfl))))))))))))))),?_⟩
 refine xR fun u1 hu1=>?_
 refine ⟨_,rfl,_,_,rfl,6,scr,rfl,by decide,by decide,fun lf vf fs H1 S1 nlf hf0 hif0 gf nxf=>?_⟩
 refine ⟨_,rfl,_,rfl,_,_,_,_,rfl,8,10,lf,vf,fs,6,scr.same S1,rfl,by decide,rfl,by decide,by decide,rfl,hf0,hif0,gf,by decide,fun ld vd ds H2 S2 nld hd0 hid0 gd nxd=>?_⟩
 have okf:=aDL gf (by decide)
 have okd:=aGT gd (by decide)
 have GF:=(nV _).mp okf
 have GD:=(kS _ _).mp okd
 have f1:=gf.l1
 have f2:=gf.l2
 have d1:=gd.l1
 have d2:=gd.l2
 have smf:bP (.lst fs) = true:=iT (fun d m=>yO (gf.all d m)) (by omega)
 have smd:bP (.lst ds) = true:=iT (fun d m=>aAE gf.all (gd.all d m)) (by omega)
 have T2:=S1.trans S2
 have hf2:=S2 _ _ hf0
 have hif2:=IsL.same S2 _ _ hif0
 refine ⟨_,rfl,_,rfl,_,rfl,_,_,_,_,_,rfl,9,8,lf,ld,vf,vd,fs,ds,scr.same T2,rfl,by decide,rfl,by decide,rfl,hf2,hif2,GF,rfl,hd0,hid0,GD,fun lx xs H3 S3 nlx dc lx8=>?_⟩
 have T3:=T2.trans S3
 have hf3:=S3 _ _ hf2
 have hif3:=IsL.same S3 _ _ hif2
 have hd3:=S3 _ _ hd0
 have hid3:=IsL.same S3 _ _ hid0
 refine ⟨_,rfl,_,rfl,fun p dx np ndx nex=>?_⟩
 have S4':aH H3 (upd (upd H3 dx (.own p)) p (.ins C dx [])):=fun b o e=>by
  rw [aT (aQ e np),aT (aQ e ndx)]
  exact e
 refine ⟨_,_,_,rfl,p,dx,fs,ds,rfl,aB,⟨lf,vf,rfl,S4' _ _ hf3,IsL.same S4' _ _ hif3⟩,⟨ld,vd,rfl,S4' _ _ hd3,IsL.same S4' _ _ hid3⟩,smf,smd,okf,okd,fun H4 L4 fr=>⟨rfl,?_⟩⟩
 have S4:aH H3 H4:=fun b o e=>fr b o (S4' _ _ e) (aQ e np)
 have T4:=T3.trans S4
 have dc4:=dc.same S4
 have hd4:=S4 _ _ hd3
 have hid4:=IsL.same S4 _ _ hid3
 refine gσ (σ':=[some (.ref a),some (.ref lf),some (.ref ld),some (.ref lx),some (.ref p),none,none,none,none,none,none,none,none]) rfl ?_
 refine hu1 _ _ _ ?_
 refine kD fun u2 hu2=>?_
 refine ⟨_,rfl,a,_,rfl,.inl (T4.seq hS),_,_,rfl,rfl,_,_,rfl,_,_,rfl,?_⟩
 obtain ⟨cnt,hcnt,c1,c2⟩:∃ cnt:Nat,(if (if (((ns.map V.int).length:Nat):Int) - 4 < 20 then (((ns.map V.int).length:Nat):Int) - 4 else 20) > 2 then (if (((ns.map V.int).length:Nat):Int) - 4 < 20 then (((ns.map V.int).length:Nat):Int) - 4 else 20) else 2) = (cnt:Int) ∧ 1 ≤ cnt ∧ cnt ≤ 20:=by
  generalize (((ns.map V.int).length:Nat):Int) - 4 = w
  by_cases h1:w < 20
  ·rw [if_pos h1]
   by_cases h2:w > 2
   ·rw [if_pos h2]
    exact ⟨w.toNat,by omega,by omega,by omega⟩
   ·rw [if_neg h2]
    exact ⟨2,rfl,by omega,by omega⟩
  ·rw [if_neg h1]
   exact ⟨20,rfl,by omega,by omega⟩
 refine ⟨(cnt:Int),congrArg (fun x=>[V.int x]) hcnt,by omega,by omega,?_⟩
 rw [Int.toNat_natCast]
 refine gG (lo:=0) (n:=cnt) (fun i σ G=>∃ (v5:Option V),σ = [some (.ref a),some (.ref lf),some (.ref ld),some (.ref lx),some (.ref p),v5,none,none,none,none,none,none,none] ∧ aH H4 G)
  ⟨_,rfl,aH.refl _⟩ ?_ ?_
 ·rintro i σ G hi ⟨v5,rfl,SG⟩
  refine yN fun D1 hD1=>?_
  refine ⟨_,rfl,_,rfl,_,rfl,_,rfl,_,rfl,_,rfl,_,_,rfl,rfl,_,_,rfl,_,scr.same (T4.trans SG),rfl,by show 0 ≤ 4 + (0 + (i:Int));omega,fun m1 hm1=>?_⟩
  refine ⟨_,_,_,_,rfl,lx,ld,lf,vd,xs,fs,ds,m1,rfl,dc4.same SG,by omega,rfl,SG _ _ hd4,IsL.same SG _ _ hid4,GD,nxd,nxf,rfl,hm1,fun w' d G2 S2' iw sw bw=>?_⟩
  exact ⟨_,_,rfl,p,fs,ds,d,rfl,L4.same (SG.trans S2'),iw,sw,bw,fun G3 S3'=>⟨_,rfl,bS (hD1 _ _ ⟨_,rfl,SG.trans (S2'.trans S3')⟩)⟩⟩
 rintro σ G ⟨v5,rfl,SG⟩
 refine hu2 _ _ _ ?_
 refine xS fun u3 hu3=>?_
 have L5:=L4.same SG
 have dc5:=dc4.same SG
 have T5:=T4.trans SG
 refine ⟨_,rfl,_,rfl,fun ps dxs nps ndxs nexs=>?_⟩
 have S6':aH G (upd (upd G dxs (.own ps)) ps (.ins C_Season dxs [])):=fun b o e=>by
  rw [aT (aQ e nps),aT (aQ e ndxs)]
  exact e
 refine ⟨_,_,_,rfl,ps,dxs,p,lx,fs,ds,xs,rfl,aB,rfl,L5.same S6',rfl,dc5.same S6',by omega,fun dw H6 SA6' ndw' X6=>⟨rfl,?_⟩⟩
 have S6:aH G H6:=fun b o e=>X6 b o (S6' _ _ e) (aQ e nps)
 have SA6:=SA6'.same tE
 have ndw:G dw = none:=S6'.free ndw'
 have L6:=L5.same S6
 have dc6:=dc5.same S6
 refine gσ (σ':=[some (.ref a),some (.ref lf),some (.ref ld),some (.ref lx),some (.ref p),v5,some (.ref ps),none,none,none,none,none,none]) rfl ?_
 refine ⟨_,rfl,_,rfl,fun p2 dx2 np2 ndx2 nex2=>?_⟩
 have S7':aH H6 (upd (upd H6 dx2 (.own p2)) p2 (.ins C_Season dx2 [])):=fun b o e=>by
  rw [aT (aQ e np2),aT (aQ e ndx2)]
  exact e
 refine ⟨_,_,_,rfl,p2,dx2,p,lx,fs,ds,xs,rfl,aB,rfl,L6.same S7',rfl,dc6.same S7',by omega,fun dw2 H7 SB7' ndw2' X7=>⟨rfl,?_⟩⟩
 have S7:aH H6 H7:=fun b o e=>X7 b o (S7' _ _ e) (aQ e np2)
 have SB7:=SB7'.same tE
 have SA7:=SA6.same S7
 have ndw2:H6 dw2 = none:=S7'.free ndw2'
 obtain ⟨dxq,Fq,_,_,_,hpsq,_⟩:=SA6.ex
 have n12:ps ≠ p2:=aQ hpsq np2
 have d12:dw ≠ dw2:=aQ SA6.dwt ndw2
 obtain ⟨dxr,Fr,_,_,_,hps7,_⟩:=SA7.ex
 obtain ⟨dxt,Ft,_,_,_,hp27,_⟩:=SB7.ex
 have T7:=(T5.trans S6).trans S7
 have nHps:H ps = none:=T5.free nps
 have nHdw:H dw = none:=T5.free ndw
 have nHp2:H p2 = none:=(T5.trans S6).free np2
 have nHdw2:H dw2 = none:=(T5.trans S6).free ndw2
 refine gσ (σ':=[some (.ref a),some (.ref lf),some (.ref ld),some (.ref lx),some (.ref p),v5,some (.ref ps),some (.ref p2),none,none,none,none,none]) rfl ?_
 refine ⟨_,_,rfl,rfl,⟨by decide,by decide,by decide⟩,_,_,rfl,rfl,1,rfl,_,_,rfl,rfl,⟨by decide,by decide,by decide⟩,_,_,rfl,rfl,aI rfl,fun t1 ht1=>?_⟩
 have A1:=aH.upd (o:=.tup [.int 0]) ht1
 refine ⟨aI rfl,fun t2 ht2=>?_⟩
 have A2:=aH.upd (o:=.lst [.int 0]) ht2
 intro dk hdk
 have A3:=aH.upd (o:=.dK []) hdk
 refine ⟨aI rfl,fun lo8 hlo8=>?_⟩
 have A4:=aH.upd (o:=.lst [.non,.str "0",.bl true,.bl false,.int (10 ^ (6:Int).toNat + 1),.int (-1 - 10 ^ (6:Int).toNat),.ref t1,.ref t2,.ref dk]) hlo8
 have AA:=A1.trans (A2.trans (A3.trans A4))
 have k1:=(A2.trans (A3.trans A4)) _ _ (aB (H:=H7) (a:=t1) (o:=.tup [.int 0]))
 have k2:=(A3.trans A4) _ _ (aB (H:=upd H7 t1 (.tup [.int 0])) (a:=t2) (o:=.lst [.int 0]))
 have k3:=A4 _ _ (aB (H:=upd (upd H7 t1 (.tup [.int 0])) t2 (.lst [.int 0])) (a:=dk) (o:=.dK []))
 have k4:upd (upd (upd (upd H7 t1 (.tup [.int 0])) t2 (.lst [.int 0])) dk (.dK [])) lo8 (.lst [.non,.str "0",.bl true,.bl false,.int (10 ^ (6:Int).toNat + 1),.int (-1 - 10 ^ (6:Int).toNat),.ref t1,.ref t2,.ref dk]) lo8 = some (.lst [.non,.str "0",.bl true,.bl false,.int (10 ^ (6:Int).toNat + 1),.int (-1 - 10 ^ (6:Int).toNat),.ref t1,.ref t2,.ref dk]):=aB
 have f1:H7 t1 = none:=ht1
 have f2':H7 t2 = none:=A1.free ht2
 have f3:H7 dk = none:=(A1.trans A2).free hdk
 have f4:H7 lo8 = none:=(A1.trans (A2.trans A3)).free hlo8
 generalize upd (upd (upd (upd H7 t1 (.tup [.int 0])) t2 (.lst [.int 0])) dk (.dK [])) lo8 (.lst [.non,.str "0",.bl true,.bl false,.int (10 ^ (6:Int).toNat + 1),.int (-1 - 10 ^ (6:Int).toNat),.ref t1,.ref t2,.ref dk]) = H8 at AA k1 k2 k3 k4 ⊢
 have out:∀ {b:Addr},H7 b = none → b ∉ [ps,dw,p2,dw2]:=fun {b} h=>aMI (fun z=>by rw [z,hps7] at h;cases h) (fun z=>by rw [z,SA7.dwt] at h;cases h) (fun z=>by rw [z,hp27] at h;cases h) (fun z=>by rw [z,SB7.dwt] at h;cases h)
 have outH:∀ {b:Addr} {o:HO},H b = some o → b ∉ [ps,dw,p2,dw2]:=fun {b o} e=>aMI (aQ e nHps) (aQ e nHdw) (aQ e nHp2) (aQ e nHdw2)
 obtain ⟨B0,hB0⟩:∃ B0:Hp,B0 = aDU [ps,dw,p2,dw2] H8:=⟨_,rfl⟩
 have SB0:aH B0 H8:=by rw [hB0];exact aDT
 have c4:B0 lo8 = some (.lst [.non,.str "0",.bl true,.bl false,.int (10 ^ (6:Int).toNat + 1),.int (-1 - 10 ^ (6:Int).toNat),.ref t1,.ref t2,.ref dk]):=by rw [hB0];exact nA k4 (out f4)
 have iodd:IsL B0 [.non,.str "0",.bl true,.bl false,.int (10 ^ (6:Int).toNat + 1),.int (-1 - 10 ^ (6:Int).toNat),.tup [.int 0],.lst [.int 0],.dct [] []] [.non,.str "0",.bl true,.bl false,.int (10 ^ (6:Int).toNat + 1),.int (-1 - 10 ^ (6:Int).toNat),.ref t1,.ref t2,.ref dk]:=by
  rw [hB0]
  exact ⟨_,_,rfl,rfl,_,_,rfl,rfl,_,_,rfl,rfl,_,_,rfl,rfl,_,_,rfl,rfl,_,_,rfl,rfl,_,_,rfl,⟨t1,_,rfl,nA k1 (out f1),_,_,rfl,rfl,rfl⟩,_,_,rfl,⟨t2,_,rfl,nA k2 (out f2'),_,_,rfl,rfl,rfl⟩,_,_,rfl,⟨dk,[],rfl,nA k3 (out f3),rfl,rfl⟩,rfl⟩
 have oddH:∀ d ∈ [Dv.non,.str "0",.bl true,.bl false,.int (10 ^ (6:Int).toNat + 1),.int (-1 - 10 ^ (6:Int).toNat),.tup [.int 0],.lst [.int 0],.dct [] []],bT d = false:=by
  intro d m
  simp only [List.mem_cons,List.not_mem_nil,or_false] at m
  rcases m with rfl | rfl | rfl | rfl | rfl | rfl | rfl | rfl | rfl
  ·rfl
  ·rfl
  ·rfl
  ·rfl
  ·decide +kernel
  ·decide +kernel
  ·rfl
  ·rfl
  ·rfl
 have HB0:aH H B0:=fun b o e=>by rw [hB0];exact nA (AA _ _ (T7 _ _ e)) (outH e)
 have SA8:=SA7.same AA
 have SB8:=SB7.same AA
 generalize ([.non,.str "0",.bl true,.bl false,.int (10 ^ (6:Int).toNat + 1),.int (-1 - 10 ^ (6:Int).toNat),.ref t1,.ref t2,.ref dk]:List V) = vo at c4 iodd
 have lodd:[Dv.non,.str "0",.bl true,.bl false,.int (10 ^ (6:Int).toNat + 1),.int (-1 - 10 ^ (6:Int).toNat),.tup [.int 0],.lst [.int 0],.dct [] []].length = 9:=rfl
 generalize [Dv.non,.str "0",.bl true,.bl false,.int (10 ^ (6:Int).toNat + 1),.int (-1 - 10 ^ (6:Int).toNat),.tup [.int 0],.lst [.int 0],.dct [] []] = dvo at iodd oddH lodd
 refine gσ (σ':=[some (.ref a),some (.ref lf),some (.ref ld),some (.ref lx),some (.ref p),v5,some (.ref ps),some (.ref p2),some (.ref lo8),none,none,none,none]) rfl ?_
 refine hu3 _ _ _ ?_
 refine kD fun u4 hu4=>?_
 refine ⟨_,rfl,a,_,rfl,.inl ((HB0.trans SB0).seq hS),_,_,rfl,rfl,_,_,rfl,_,_,rfl,?_⟩
 obtain ⟨cn2,hcn2,e1,e2⟩:∃ cnt:Nat,(if (if (((ns.map V.int).length:Nat):Int) - 4 < 12 then (((ns.map V.int).length:Nat):Int) - 4 else 12) > 2 then (if (((ns.map V.int).length:Nat):Int) - 4 < 12 then (((ns.map V.int).length:Nat):Int) - 4 else 12) else 2) = (cnt:Int) ∧ 1 ≤ cnt ∧ cnt ≤ 12:=by
  generalize (((ns.map V.int).length:Nat):Int) - 4 = w
  by_cases h1:w < 12
  ·rw [if_pos h1]
   by_cases h2:w > 2
   ·rw [if_pos h2]
    exact ⟨w.toNat,by omega,by omega,by omega⟩
   ·rw [if_neg h2]
    exact ⟨2,rfl,by omega,by omega⟩
  ·rw [if_neg h1]
   exact ⟨12,rfl,by omega,by omega⟩
 refine ⟨(cn2:Int),congrArg (fun x=>[V.int x]) hcn2,by omega,by omega,?_⟩
 rw [Int.toNat_natCast]
 refine gG (lo:=0) (n:=cn2) (fun i σ G=>∃ (v5 v9 v10 v11 v12:Option V) (s:Sst),σ = [some (.ref a),some (.ref lf),some (.ref ld),some (.ref lx),some (.ref p),v5,some (.ref ps),some (.ref p2),some (.ref lo8),v9,v10,v11,v12] ∧ aH B0 G ∧ kZ C_Season C G ps dw p fs ds xs s ∧ kZ C_Season C G p2 dw2 p fs ds xs s)
  ⟨_,_,_,_,_,⟨[],[],0,fun _=>0⟩,rfl,SB0,SA8,SB8⟩ ?_ ?_
 ·rintro i σ G9 hi ⟨v5,v9,v10,v11,v12,s1,rfl,SG9,SA9,SB9⟩
  refine yN fun D1 hD1=>?_
  refine xR fun u5 hu5=>?_
  have p12:(10:Int) ^ (12:Int).toNat = 1000000000000:=by decide
  refine ⟨_,rfl,_,rfl,_,_,rfl,rfl,_,_,rfl,_,scr.same (HB0.trans SG9),rfl,by show 0 ≤ 4 + (0 + (i:Int));omega,fun m1 hm1=>?_⟩
  refine ⟨_,rfl,_,_,rfl,rfl,⟨by decide,by decide,by decide⟩,_,_,rfl,rfl,⟨by decide,by decide⟩,_,rfl,_,rfl,fun lv hlv=>?_⟩
  obtain ⟨db,vb,mdb,evb,ivb⟩:=pS iodd (i:=m1 % 9) (Int.emod_nonneg _ (by decide)) (by rw [lodd];exact Int.emod_lt_of_pos _ (by decide))
  have hbad:=oddH db mdb
  refine ⟨_,rfl,_,rfl,_,_,rfl,rfl,(iM rfl),lo8,_,_,vb,rfl,rfl,SqL.of (SG9 _ _ c4),evb,?_⟩
  refine ⟨_,rfl,_,rfl,_,rfl,aI rfl,fun q1 hq1=>?_⟩
  have C1:=aH.upd (o:=.lst [.int lv,vb,.int lv]) hq1
  obtain ⟨kk,hkk⟩:=Int.eq_ofNat_of_zero_le (Int.emod_nonneg (m1 / 9) (show (2:Int) ≠ 0 by decide))
  have kk2:kk < 2:=by have:=Int.emod_lt_of_pos (m1 / 9) (show (0:Int) < 2 by decide);omega
  refine ⟨_,rfl,_,_,rfl,rfl,⟨by decide,by decide⟩,_,_,rfl,rfl,(iM rfl),_,rfl,q1,_,rfl,SqL.of aB,fun q2 hq2=>?_⟩
  rw [hkk,yT]
  have C2:=aH.upd (o:=.lst ([.int lv,vb,.int lv].drop kk)) hq2
  have wq2:upd (upd G9 q1 (.lst [.int lv,vb,.int lv])) q2 (.lst ([.int lv,vb,.int lv].drop kk)) q2 = some (.lst ([.int lv,vb,.int lv].drop kk)):=aB
  have C12:=C1.trans C2
  generalize upd (upd G9 q1 (.lst [.int lv,vb,.int lv])) q2 (.lst ([.int lv,vb,.int lv].drop kk)) = G10 at wq2 C12 ⊢
  refine gσ (σ':=[some (.ref a),some (.ref lf),some (.ref ld),some (.ref lx),some (.ref p),some (.int (0 + (i:Int))),some (.ref ps),some (.ref p2),some (.ref lo8),some (.int m1),some (.int lv),some vb,some (.ref q2)]) rfl ?_
  refine hu5 _ _ _ ?_
  refine kD fun u6 hu6=>?_
  have SG10:=SG9.trans C12
  have SA10:kZ C_Season C G10 ps dw p fs ds xs s1:=SeaAt.same C12 SA9
  have SB10:kZ C_Season C G10 p2 dw2 p fs ds xs s1:=SeaAt.same C12 SB9
  refine ⟨_,rfl,_,rfl,aI rfl,fun q3 hq3=>?_⟩
  have C3:=aH.upd (o:=.lst [vb]) hq3
  refine ⟨_,_,_,rfl,ps,q3,[vb],[db],false,dw,p,fs,ds,xs,s1.op,s1.wt,s1.n,s1.cnt,rfl,SeaAt.same C3 SA10,rfl,aB,⟨_,_,rfl,Is.same (SG10.trans C3) _ _ ivb,rfl⟩,by show 1 ≤ 1000;decide,rfl,(fun h=>by cases h),(fun _=>⟨db,[],rfl,hbad⟩),fun G11 S11'=>⟨_,rfl,bS ?_⟩⟩
  have S11:=C3.trans S11'
  have SG11:=SG10.trans S11
  have ie3:IsL G11 [.int lv,db,.int lv] [.int lv,vb,.int lv]:=⟨_,_,rfl,rfl,_,_,rfl,Is.same SG11 _ _ ivb,_,_,rfl,rfl,rfl⟩
  refine ⟨_,rfl,_,rfl,_,_,_,rfl,ps,q2,[.int lv,vb,.int lv].drop kk,[.int lv,db,.int lv].drop kk,true,dw,p,fs,ds,xs,s1.op,s1.wt,s1.n,s1.cnt,rfl,SeaAt.same S11 SA10,rfl,S11 _ _ wq2,tM kk ie3,by rw [List.length_drop];show 3 - kk ≤ 1000;omega,rfl,(fun _=>?_),(fun h=>by cases h),fun G12 S12'=>⟨_,rfl,bS ?_⟩⟩
  ·rw [List.all_eq_false]
   refine ⟨db,?_,by rw [hbad];exact Bool.false_ne_true⟩
   obtain rfl | rfl:kk = 0 ∨ kk = 1:=by omega
   ·exact List.mem_cons_of_mem _ List.mem_cons_self
   ·exact List.mem_cons_self
  refine hu6 _ _ _ ?_
  have S12:=S11.trans S12'
  have SG12:=SG10.trans S12
  have SA12:kZ C_Season C G12 ps dw p fs ds xs s1:=SeaAt.same S12 SA10
  have SB12:kZ C_Season C G12 p2 dw2 p fs ds xs s1:=SeaAt.same S12 SB10
  refine ⟨_,rfl,_,rfl,_,_,rfl,ps,dw,p2,dw2,p,fs,ds,xs,s1.op,s1.wt,s1.n,s1.cnt,rfl,SA12,rfl,SB12,fun G13 S13=>⟨_,rfl,bS ?_⟩⟩
  have SG13:=SG12.trans S13
  have SA13:kZ C_Season C G13 ps dw p fs ds xs s1:=SeaAt.same S13 SA12
  have SB13:kZ C_Season C G13 p2 dw2 p fs ds xs s1:=SeaAt.same S13 SB12
  obtain ⟨dxA,FA,_,_,_,hpA,sfA,_⟩:=SA13.ex
  refine ⟨_,rfl,ps,dxA,FA,rfl,hpA,sfA.no _ (by decide +kernel),_,rfl,_,_,rfl,ps,dw,p,fs,ds,xs,s1.op,s1.wt,s1.n,lv,s1.cnt,rfl,SA13,rfl,hlv,fun t lo2 lw2 H0 G14 Y14 SA14 _ S14 _ _ _ _ _ _ ht hlo hlw=>?_⟩
  have SA14:kZ C_Season C G14 ps dw p fs ds xs (lC fs ds xs s1 lv):=SeaAt.same S14 SA14
  have SB14:kZ C_Season C G14 p2 dw2 p fs ds xs s1:=SeaAt.same S14 (SeaAt.away SB13 SA13 Y14 n12.symm d12.symm)
  obtain ⟨dxB,FB,_,_,_,hpB,sfB,_⟩:=SB14.ex
  refine ⟨_,rfl,p2,dxB,FB,rfl,hpB,sfB.no _ (by decide +kernel),_,rfl,_,_,rfl,p2,dw2,p,fs,ds,xs,s1.op,s1.wt,s1.n,lv,s1.cnt,rfl,SB14,rfl,hlv,fun t' lo' lw' H0' G15 Y15 SB15 _ S15 _ _ _ _ _ _ ht' hlo' hlw'=>?_⟩
  have SB15:kZ C_Season C G15 p2 dw2 p fs ds xs (lC fs ds xs s1 lv):=SeaAt.same S15 SB15
  have SA15:kZ C_Season C G15 ps dw p fs ds xs (lC fs ds xs s1 lv):=SeaAt.same S15 (SeaAt.away SA14 SB14 Y15 n12 d12)
  have LT15:=SeaAt.ylt SB14 Y15
  have iday:∀ {G:Hp} {tt a b:Addr},G tt = some (.tup [.ref a,.ref b]) → G a = some (.lst ((lC fs ds xs s1 lv).op.map V.str)) → G b = some (.lst ((lC fs ds xs s1 lv).wt.map V.str)) → Is G (aIU (lC fs ds xs s1 lv)) (.ref tt):=fun h1 h2 h3=>⟨_,_,rfl,h1,_,_,rfl,lA h2,_,_,rfl,lA h3,rfl⟩
  refine tG (iday (S15 _ _ (LT15 _ _ ht rfl)) (S15 _ _ (LT15 _ _ hlo rfl)) (S15 _ _ (LT15 _ _ hlw rfl))) (iday ht' hlo' hlw') (aDR _).1 ⟨_,rfl,bS ?_⟩
  refine hD1 _ _ ⟨_,_,_,_,_,lC fs ds xs s1 lv,rfl,fun b o e=>?_,SA15,SB15⟩
  have nb:b ∉ [ps,dw,p2,dw2]:=by rw [hB0] at e;exact (aCB e).2
  exact S15 _ _ (Y15 _ _ (S14 _ _ (Y14 _ _ (SG13 _ _ e) (of4 nb).1 (of4 nb).2.1)) (of4 nb).2.2.1 (of4 nb).2.2.2)
 ·rintro σ G9 ⟨v5,v9,v10,v11,v12,s1,rfl,SG9,SA9,SB9⟩
  refine hu4 _ _ _ ?_
  obtain ⟨dxA,FA,_,_,_,hpA,sfA,_⟩:=SA9.ex
  refine ⟨_,rfl,ps,dxA,FA,rfl,hpA,sfA.no _ (by decide +kernel),aI rfl,fun e1' he1=>?_⟩
  have C1:=aH.upd (o:=.lst []) he1
  have SA10:kZ C_Season C (upd G9 e1' (.lst [])) ps dw p fs ds xs s1:=SeaAt.same C1 SA9
  have SB10:kZ C_Season C (upd G9 e1' (.lst [])) p2 dw2 p fs ds xs s1:=SeaAt.same C1 SB9
  refine ⟨_,_,rfl,ps,dw,p,e1',fs,ds,xs,s1,[],rfl,SA10,rfl,aB,(fun l m=>by cases m),by decide,fun l es Hs G11 Y11 SHs SAs nl nls hl ees oke=>?_⟩
  have ees':es = []:=List.map_eq_nil_iff.mp ees
  subst ees'
  have SB11:kZ C_Season C G11 p2 dw2 p fs ds xs s1:=SeaAt.away SB10 SA10 Y11 n12.symm d12.symm
  have SA11:kZ C_Season C G11 ps dw p fs ds xs s1:=SeaAt.same SHs SAs
  refine ⟨aI rfl,fun e2' he2=>aBX (ds:=[]) ⟨l,[],rfl,aH.upd he2 _ _ hl,rfl⟩ ⟨e2',[],rfl,aB,rfl⟩ rfl ⟨_,rfl,cL ?_⟩⟩
  have C2:=aH.upd (o:=.lst []) he2
  exact ⟨_,rfl,_,rfl,_,_,rfl,ps,dw,p2,dw2,p,fs,ds,xs,s1.op,s1.wt,s1.n,s1.cnt,rfl,SeaAt.same C2 SA11,rfl,SeaAt.same C2 SB11,fun G12 S12=>q _⟩
theorem law_mk {fa:Addr} (hmg:mg "law" = some (.ref fa)) (T:Txt K mg C) :
  ∃ fd:FuncData,(∀ (s:Shared) (u:Value),BindsTo s fd ⟨[u],[]⟩ [("_law_script",u)]) ∧ ∀ base:Heap,K.In base → base.Ns mainGlobals mg → FnOk P w K mg base CX0 13 fa fd ["_law_script"] (aBA K):=by
 obtain ⟨f,fd,F,b,m⟩:=T.d_p_law.ex
 rw [hmg] at m
 cases m
 refine ⟨fd,fun s u=>?_,fun base _ _=>aKP T F⟩
 obtain ⟨oc,od,kV,doc,pm,an,cdv,ct,osl,rfl,lk,hcd⟩:=F.ex
 exact .of_eq rfl
end
theorem txt_mk {K:PySem.W.Frag} {h:Heap} {mg:Str → Option Value} (X:K.In h) (G:h.Ns mainGlobals mg)
    {C:Addr}
    {fm15:Addr} {ocm15 kVm15 docm15 pmm15 cdm15 ctm15:Value} {odm15 anm15:Option Addr} {slm15:Array (Option Value)}
    {fm16:Addr} {ocm16 kVm16 docm16 pmm16 cdm16 ctm16:Value} {odm16 anm16:Option Addr} {slm16:Array (Option Value)}
    {fm17:Addr} {ocm17 kVm17 docm17 pmm17 cdm17 ctm17:Value} {odm17 anm17:Option Addr} {slm17:Array (Option Value)}
    {fm18:Addr} {ocm18 kVm18 docm18 pmm18 cdm18 ctm18:Value} {odm18 anm18:Option Addr} {slm18:Array (Option Value)}
    {fm19:Addr} {ocm19 kVm19 docm19 pmm19 cdm19 ctm19:Value} {odm19 anm19:Option Addr} {slm19:Array (Option Value)}
    {fm20:Addr} {ocm20 kVm20 docm20 pmm20 cdm20 ctm20:Value} {odm20 anm20:Option Addr} {slm20:Array (Option Value)}
    {fm21:Addr} {ocm21 kVm21 docm21 pmm21 cdm21 ctm21:Value} {odm21 anm21:Option Addr} {slm21:Array (Option Value)}
    {fm22:Addr} {ocm22 kVm22 docm22 pmm22 cdm22 ctm22:Value} {odm22 anm22:Option Addr} {slm22:Array (Option Value)}
    {fm23:Addr} {ocm23 kVm23 docm23 pmm23 cdm23 ctm23:Value} {odm23 anm23:Option Addr} {slm23:Array (Option Value)}
    {fm24:Addr} {ocm24 kVm24 docm24 pmm24 cdm24 ctm24:Value} {odm24 anm24:Option Addr} {slm24:Array (Option Value)}
    {C_Season:Addr}
    {fm40:Addr} {ocm40 kVm40 docm40 pmm40 cdm40 ctm40:Value} {odm40 anm40:Option Addr} {slm40:Array (Option Value)}
    {fm41:Addr} {ocm41 kVm41 docm41 pmm41 cdm41 ctm41:Value} {odm41 anm41:Option Addr} {slm41:Array (Option Value)}
    {fm42:Addr} {ocm42 kVm42 docm42 pmm42 cdm42 ctm42:Value} {odm42 anm42:Option Addr} {slm42:Array (Option Value)}
    {fm43:Addr} {ocm43 kVm43 docm43 pmm43 cdm43 ctm43:Value} {odm43 anm43:Option Addr} {slm43:Array (Option Value)}
    {fm44:Addr} {ocm44 kVm44 docm44 pmm44 cdm44 ctm44:Value} {odm44 anm44:Option Addr} {slm44:Array (Option Value)}
    {fm45:Addr} {ocm45 kVm45 docm45 pmm45 cdm45 ctm45:Value} {odm45 anm45:Option Addr} {slm45:Array (Option Value)}
    {fm46:Addr} {ocm46 kVm46 docm46 pmm46 cdm46 ctm46:Value} {odm46 anm46:Option Addr} {slm46:Array (Option Value)}
    {fm47:Addr} {ocm47 kVm47 docm47 pmm47 cdm47 ctm47:Value} {odm47 anm47:Option Addr} {slm47:Array (Option Value)}
    {c_NoDecree c_NoLevel c_DykeError:Addr}
    {f0:Addr} {oc0 kV0 doc0 pm0 cd0 ct0:Value} {od0 an0:Option Addr} {sl0:Array (Option Value)}
    {f1:Addr} {oc1 kV1 doc1 pm1 cd1 ct1:Value} {od1 an1:Option Addr} {sl1:Array (Option Value)}
    {f2:Addr} {oc2 kV2 doc2 pm2 cd2 ct2:Value} {od2 an2:Option Addr} {sl2:Array (Option Value)}
    {f3:Addr} {oc3 kV3 doc3 pm3 cd3 ct3:Value} {od3 an3:Option Addr} {sl3:Array (Option Value)}
    {f4:Addr} {oc4 kV4 doc4 pm4 cd4 ct4:Value} {od4 an4:Option Addr} {sl4:Array (Option Value)}
    {f5:Addr} {oc5 kV5 doc5 pm5 cd5 ct5:Value} {od5 an5:Option Addr} {sl5:Array (Option Value)}
    {f6:Addr} {oc6 kV6 doc6 pm6 cd6 ct6:Value} {od6 an6:Option Addr} {sl6:Array (Option Value)}
    {f7:Addr} {oc7 kV7 doc7 pm7 cd7 ct7:Value} {od7 an7:Option Addr} {sl7:Array (Option Value)}
    {f8:Addr} {oc8 kV8 doc8 pm8 cd8 ct8:Value} {od8 an8:Option Addr} {sl8:Array (Option Value)}
    {f9:Addr} {oc9 kV9 doc9 pm9 cd9 ct9:Value} {od9 an9:Option Addr} {sl9:Array (Option Value)}
    {f10:Addr} {oc10 kV10 doc10 pm10 cd10 ct10:Value} {od10 an10:Option Addr} {sl10:Array (Option Value)}
    {f11:Addr} {oc11 kV11 doc11 pm11 cd11 ct11:Value} {od11 an11:Option Addr} {sl11:Array (Option Value)}
    {f12:Addr} {oc12 kV12 doc12 pm12 cd12 ct12:Value} {od12 an12:Option Addr} {sl12:Array (Option Value)}
    {f13:Addr} {oc13 kV13 doc13 pm13 cd13 ct13:Value} {od13 an13:Option Addr} {sl13:Array (Option Value)}
    {f14:Addr} {oc14 kV14 doc14 pm14 cd14 ct14:Value} {od14 an14:Option Addr} {sl14:Array (Option Value)}
    {f15:Addr} {oc15 kV15 doc15 pm15 cd15 ct15:Value} {od15 an15:Option Addr} {sl15:Array (Option Value)}
    {f16:Addr} {oc16 kV16 doc16 pm16 cd16 ct16:Value} {od16 an16:Option Addr} {sl16:Array (Option Value)}
    {f17:Addr} {oc17 kV17 doc17 pm17 cd17 ct17:Value} {od17 an17:Option Addr} {sl17:Array (Option Value)}
    {f18:Addr} {oc18 kV18 doc18 pm18 cd18 ct18:Value} {od18 an18:Option Addr} {sl18:Array (Option Value)}
    {f19:Addr} {oc19 kV19 doc19 pm19 cd19 ct19:Value} {od19 an19:Option Addr} {sl19:Array (Option Value)}
    {f20:Addr} {oc20 kV20 doc20 pm20 cd20 ct20:Value} {od20 an20:Option Addr} {sl20:Array (Option Value)}
    {f21:Addr} {oc21 kV21 doc21 pm21 cd21 ct21:Value} {od21 an21:Option Addr} {sl21:Array (Option Value)}
    {f22:Addr} {oc22 kV22 doc22 pm22 cd22 ct22:Value} {od22 an22:Option Addr} {sl22:Array (Option Value)}
    {f23:Addr} {oc23 kV23 doc23 pm23 cd23 ct23:Value} {od23 an23:Option Addr} {sl23:Array (Option Value)}
    {f24:Addr} {oc24 kV24 doc24 pm24 cd24 ct24:Value} {od24 an24:Option Addr} {sl24:Array (Option Value)}
    {f25:Addr} {oc25 kV25 doc25 pm25 cd25 ct25:Value} {od25 an25:Option Addr} {sl25:Array (Option Value)}
    {f26:Addr} {oc26 kV26 doc26 pm26 cd26 ct26:Value} {od26 an26:Option Addr} {sl26:Array (Option Value)}
    {f27:Addr} {oc27 kV27 doc27 pm27 cd27 ct27:Value} {od27 an27:Option Addr} {sl27:Array (Option Value)}
    {f28:Addr} {oc28 kV28 doc28 pm28 cd28 ct28:Value} {od28 an28:Option Addr} {sl28:Array (Option Value)}
    {f29:Addr} {oc29 kV29 doc29 pm29 cd29 ct29:Value} {od29 an29:Option Addr} {sl29:Array (Option Value)}
    {f30:Addr} {oc30 kV30 doc30 pm30 cd30 ct30:Value} {od30 an30:Option Addr} {sl30:Array (Option Value)}
    {f31:Addr} {oc31 kV31 doc31 pm31 cd31 ct31:Value} {od31 an31:Option Addr} {sl31:Array (Option Value)}
    {f32:Addr} {oc32 kV32 doc32 pm32 cd32 ct32:Value} {od32 an32:Option Addr} {sl32:Array (Option Value)}
    {f33:Addr} {oc33 kV33 doc33 pm33 cd33 ct33:Value} {od33 an33:Option Addr} {sl33:Array (Option Value)}
    {f34:Addr} {oc34 kV34 doc34 pm34 cd34 ct34:Value} {od34 an34:Option Addr} {sl34:Array (Option Value)}
    {f35:Addr} {oc35 kV35 doc35 pm35 cd35 ct35:Value} {od35 an35:Option Addr} {sl35:Array (Option Value)}
    {f36:Addr} {oc36 kV36 doc36 pm36 cd36 ct36:Value} {od36 an36:Option Addr} {sl36:Array (Option Value)}
    {f37:Addr} {oc37 kV37 doc37 pm37 cd37 ct37:Value} {od37 an37:Option Addr} {sl37:Array (Option Value)}
    {f38:Addr} {oc38 kV38 doc38 pm38 cd38 ct38:Value} {od38 an38:Option Addr} {sl38:Array (Option Value)}
    {f39:Addr} {oc39 kV39 doc39 pm39 cd39 ct39:Value} {od39 an39:Option Addr} {sl39:Array (Option Value)}
    {f40:Addr} {oc40 kV40 doc40 pm40 cd40 ct40:Value} {od40 an40:Option Addr} {sl40:Array (Option Value)}
    {f41:Addr} {oc41 kV41 doc41 pm41 cd41 ct41:Value} {od41 an41:Option Addr} {sl41:Array (Option Value)}
    {at0:Addr} {otd0:Option Addr} {its0:Array Value} {nnt0:Nat} {slt0:Array (Option Value)}
    {at1:Addr} {otd1:Option Addr} {its1:Array Value} {nnt1:Nat} {slt1:Array (Option Value)}
    {at2:Addr} {otd2:Option Addr} {its2:Array Value} {nnt2:Nat} {slt2:Array (Option Value)}
    {u0:Value}
    {u1:Value}
    {u2:Value}
    {u3:Value}
    {u4:Value}
    {u5:Value}
    {u6:Value}
    {u7:Value}
    {u8:Value}
    {u9:Value}
    (aC:PySem.W.nsIn K mainGlobals "Land" = some (some (.ref C))) (pgC:PySem.W.plainGet K C Str.empty = true) (hdC:PySem.W.hasDictIn K C = true) (poC:PySem.W.plainOver K C = true) (saC:PySem.W.findIn K (.ref C) "__setattr__" = some (some (.builtin "object.__setattr__"))) (mkC:PySem.W.makesIn K C = true) (kpC:PySem.W.keepIn K (.ref C) = true)
    (n_field_rows:PySem.W.findIn K (.ref C) "field_rows" = some none)
    (n_dyke_rows:PySem.W.findIn K (.ref C) "dyke_rows" = some none)
    (ma15:PySem.W.findIn K (.ref C) "__init__" = some (some (.ref fm15))) (mi15:PySem.W.isFn K (.ref fm15) = true) (ml15:K.lookup fm15 = some ⟨ocm15,odm15,.func (PySem.W.fnOf "__init__" "Land.__init__" (aP gP) (aN gP) (aF gP) .none kVm15 docm15 pmm15 anm15 cdm15 ctm15),slm15⟩) (mc15:PySem.W.codeIn K cdm15 "Land.__init__" = true) (mk15:PySem.W.keepIn K (.ref fm15) = true)
    (ma16:PySem.W.findIn K (.ref C) "fields" = some (some (.ref fm16))) (mi16:PySem.W.isFn K (.ref fm16) = true) (ml16:K.lookup fm16 = some ⟨ocm16,odm16,.func (PySem.W.fnOf "fields" "Land.fields" (aP fY) (aN fY) (aF fY) .none kVm16 docm16 pmm16 anm16 cdm16 ctm16),slm16⟩) (mc16:PySem.W.codeIn K cdm16 "Land.fields" = true) (mk16:PySem.W.keepIn K (.ref fm16) = true)
    (ma17:PySem.W.findIn K (.ref C) "dykes" = some (some (.ref fm17))) (mi17:PySem.W.isFn K (.ref fm17) = true) (ml17:K.lookup fm17 = some ⟨ocm17,odm17,.func (PySem.W.fnOf "dykes" "Land.dykes" (aP fB) (aN fB) (aF fB) .none kVm17 docm17 pmm17 anm17 cdm17 ctm17),slm17⟩) (mc17:PySem.W.codeIn K cdm17 "Land.dykes" = true) (mk17:PySem.W.keepIn K (.ref fm17) = true)
    (ma18:PySem.W.findIn K (.ref C) "field_names" = some (some (.ref fm18))) (mi18:PySem.W.isFn K (.ref fm18) = true) (ml18:K.lookup fm18 = some ⟨ocm18,odm18,.func (PySem.W.fnOf "field_names" "Land.field_names" (aP cW) (aN cW) (aF cW) .none kVm18 docm18 pmm18 anm18 cdm18 ctm18),slm18⟩) (mc18:PySem.W.codeIn K cdm18 "Land.field_names" = true) (mk18:PySem.W.keepIn K (.ref fm18) = true)
    (ma19:PySem.W.findIn K (.ref C) "dyke_names" = some (some (.ref fm19))) (mi19:PySem.W.isFn K (.ref fm19) = true) (ml19:K.lookup fm19 = some ⟨ocm19,odm19,.func (PySem.W.fnOf "dyke_names" "Land.dyke_names" (aP eA) (aN eA) (aF eA) .none kVm19 docm19 pmm19 anm19 cdm19 ctm19),slm19⟩) (mc19:PySem.W.codeIn K cdm19 "Land.dyke_names" = true) (mk19:PySem.W.keepIn K (.ref fm19) = true)
    (ma20:PySem.W.findIn K (.ref C) "sluices" = some (some (.ref fm20))) (mi20:PySem.W.isFn K (.ref fm20) = true) (ml20:K.lookup fm20 = some ⟨ocm20,odm20,.func (PySem.W.fnOf "sluices" "Land.sluices" (aP eF) (aN eF) (aF eF) .none kVm20 docm20 pmm20 anm20 cdm20 ctm20),slm20⟩) (mc20:PySem.W.codeIn K cdm20 "Land.sluices" = true) (mk20:PySem.W.keepIn K (.ref fm20) = true)
    (ma21:PySem.W.findIn K (.ref C) "ground" = some (some (.ref fm21))) (mi21:PySem.W.isFn K (.ref fm21) = true) (ml21:K.lookup fm21 = some ⟨ocm21,odm21,.func (PySem.W.fnOf "ground" "Land.ground" (aP eP) (aN eP) (aF eP) .none kVm21 docm21 pmm21 anm21 cdm21 ctm21),slm21⟩) (mc21:PySem.W.codeIn K cdm21 "Land.ground" = true) (mk21:PySem.W.keepIn K (.ref fm21) = true)
    (ma22:PySem.W.findIn K (.ref C) "dues" = some (some (.ref fm22))) (mi22:PySem.W.isFn K (.ref fm22) = true) (ml22:K.lookup fm22 = some ⟨ocm22,odm22,.func (PySem.W.fnOf "dues" "Land.dues" (aP hV) (aN hV) (aF hV) .none kVm22 docm22 pmm22 anm22 cdm22 ctm22),slm22⟩) (mc22:PySem.W.codeIn K cdm22 "Land.dues" = true) (mk22:PySem.W.keepIn K (.ref fm22) = true)
    (ma23:PySem.W.findIn K (.ref C) "dyke" = some (some (.ref fm23))) (mi23:PySem.W.isFn K (.ref fm23) = true) (ml23:K.lookup fm23 = some ⟨ocm23,odm23,.func (PySem.W.fnOf "dyke" "Land.dyke" (aP hU) (aN hU) (aF hU) .none kVm23 docm23 pmm23 anm23 cdm23 ctm23),slm23⟩) (mc23:PySem.W.codeIn K cdm23 "Land.dyke" = true) (mk23:PySem.W.keepIn K (.ref fm23) = true)
    (ma24:PySem.W.findIn K (.ref C) "raised" = some (some (.ref fm24))) (mi24:PySem.W.isFn K (.ref fm24) = true) (ml24:K.lookup fm24 = some ⟨ocm24,odm24,.func (PySem.W.fnOf "raised" "Land.raised" (aP fX) (aN fX) (aF fX) .none kVm24 docm24 pmm24 anm24 cdm24 ctm24),slm24⟩) (mc24:PySem.W.codeIn K cdm24 "Land.raised" = true) (mk24:PySem.W.keepIn K (.ref fm24) = true)
    (aCSeason:PySem.W.nsIn K mainGlobals "Season" = some (some (.ref C_Season))) (pgCSeason:PySem.W.plainGet K C_Season Str.empty = true) (hdCSeason:PySem.W.hasDictIn K C_Season = true) (poCSeason:PySem.W.plainOver K C_Season = true) (saCSeason:PySem.W.findIn K (.ref C_Season) "__setattr__" = some (some (.builtin "object.__setattr__"))) (mkCSeason:PySem.W.makesIn K C_Season = true) (kpCSeason:PySem.W.keepIn K (.ref C_Season) = true)
    (nSeason_on_land:PySem.W.findIn K (.ref C_Season) "on_land" = some none)
    (nSeason_own_decrees:PySem.W.findIn K (.ref C_Season) "own_decrees" = some none)
    (nSeason_open_names:PySem.W.findIn K (.ref C_Season) "open_names" = some none)
    (nSeason_wet_names:PySem.W.findIn K (.ref C_Season) "wet_names" = some none)
    (nSeason_day_count:PySem.W.findIn K (.ref C_Season) "day_count" = some none)
    (nSeason_wet_counts:PySem.W.findIn K (.ref C_Season) "wet_counts" = some none)
    (ma40:PySem.W.findIn K (.ref C_Season) "__init__" = some (some (.ref fm40))) (mi40:PySem.W.isFn K (.ref fm40) = true) (ml40:K.lookup fm40 = some ⟨ocm40,odm40,.func (PySem.W.fnOf "__init__" "Season.__init__" (aP eU) (aN eU) (aF eU) .none kVm40 docm40 pmm40 anm40 cdm40 ctm40),slm40⟩) (mc40:PySem.W.codeIn K cdm40 "Season.__init__" = true) (mk40:PySem.W.keepIn K (.ref fm40) = true)
    (ma41:PySem.W.findIn K (.ref C_Season) "day" = some (some (.ref fm41))) (mi41:PySem.W.isFn K (.ref fm41) = true) (ml41:K.lookup fm41 = some ⟨ocm41,odm41,.func (PySem.W.fnOf "day" "Season.day" (aP eW) (aN eW) (aF eW) .none kVm41 docm41 pmm41 anm41 cdm41 ctm41),slm41⟩) (mc41:PySem.W.codeIn K cdm41 "Season.day" = true) (mk41:PySem.W.keepIn K (.ref fm41) = true)
    (ma42:PySem.W.findIn K (.ref C_Season) "days" = some (some (.ref fm42))) (mi42:PySem.W.isFn K (.ref fm42) = true) (ml42:K.lookup fm42 = some ⟨ocm42,odm42,.func (PySem.W.fnOf "days" "Season.days" (aP eM) (aN eM) (aF eM) .none kVm42 docm42 pmm42 anm42 cdm42 ctm42),slm42⟩) (mc42:PySem.W.codeIn K cdm42 "Season.days" = true) (mk42:PySem.W.keepIn K (.ref fm42) = true)
    (ma43:PySem.W.findIn K (.ref C_Season) "opened" = some (some (.ref fm43))) (mi43:PySem.W.isFn K (.ref fm43) = true) (ml43:K.lookup fm43 = some ⟨ocm43,odm43,.func (PySem.W.fnOf "opened" "Season.opened" (aP dS) (aN dS) (aF dS) .none kVm43 docm43 pmm43 anm43 cdm43 ctm43),slm43⟩) (mc43:PySem.W.codeIn K cdm43 "Season.opened" = true) (mk43:PySem.W.keepIn K (.ref fm43) = true)
    (ma44:PySem.W.findIn K (.ref C_Season) "wet" = some (some (.ref fm44))) (mi44:PySem.W.isFn K (.ref fm44) = true) (ml44:K.lookup fm44 = some ⟨ocm44,odm44,.func (PySem.W.fnOf "wet" "Season.wet" (aP eV) (aN eV) (aF eV) .none kVm44 docm44 pmm44 anm44 cdm44 ctm44),slm44⟩) (mc44:PySem.W.codeIn K cdm44 "Season.wet" = true) (mk44:PySem.W.keepIn K (.ref fm44) = true)
    (ma45:PySem.W.findIn K (.ref C_Season) "count" = some (some (.ref fm45))) (mi45:PySem.W.isFn K (.ref fm45) = true) (ml45:K.lookup fm45 = some ⟨ocm45,odm45,.func (PySem.W.fnOf "count" "Season.count" (aP eC) (aN eC) (aF eC) .none kVm45 docm45 pmm45 anm45 cdm45 ctm45),slm45⟩) (mc45:PySem.W.codeIn K cdm45 "Season.count" = true) (mk45:PySem.W.keepIn K (.ref fm45) = true)
    (ma46:PySem.W.findIn K (.ref C_Season) "wet_days" = some (some (.ref fm46))) (mi46:PySem.W.isFn K (.ref fm46) = true) (ml46:K.lookup fm46 = some ⟨ocm46,odm46,.func (PySem.W.fnOf "wet_days" "Season.wet_days" (aP dB) (aN dB) (aF dB) .none kVm46 docm46 pmm46 anm46 cdm46 ctm46),slm46⟩) (mc46:PySem.W.codeIn K cdm46 "Season.wet_days" = true) (mk46:PySem.W.keepIn K (.ref fm46) = true)
    (ma47:PySem.W.findIn K (.ref C_Season) "onto" = some (some (.ref fm47))) (mi47:PySem.W.isFn K (.ref fm47) = true) (ml47:K.lookup fm47 = some ⟨ocm47,odm47,.func (PySem.W.fnOf "onto" "Season.onto" (aP fW) (aN fW) (aF fW) .none kVm47 docm47 pmm47 anm47 cdm47 ctm47),slm47⟩) (mc47:PySem.W.codeIn K cdm47 "Season.onto" = true) (mk47:PySem.W.keepIn K (.ref fm47) = true)
    (xa_NoDecree:PySem.W.nsIn K mainGlobals "NoDecree" = some (some (.ref c_NoDecree))) (xa_NoLevel:PySem.W.nsIn K mainGlobals "NoLevel" = some (some (.ref c_NoLevel))) (xa_DykeError:PySem.W.nsIn K mainGlobals "DykeError" = some (some (.ref c_DykeError))) (xq_NoDecree:PySem.W.excIn K c_NoDecree [.type "ValueError",.type "Exception",.type "BaseException",.type "object"] "ValueError.__new__" = true) (xm_NoDecree:PySem.W.exmOne K (.ref c_NoDecree) (.ref c_NoDecree) = some true) (xp_NoDecree:PySem.W.findIn K (.ref c_NoDecree) "__getattribute__" = some (some (.builtin "BaseException.__getattribute__"))) (xg_NoDecree:PySem.W.findIn K (.ref c_NoDecree) "__getattr__" = some none) (xb_NoDecree:PySem.W.mroIn K c_NoDecree (.type "BaseException") = some true) (xh_NoDecree:PySem.W.findIn K (.ref c_NoDecree) "__class__" = some (some (.builtin "object.__class__"))) (xi_NoDecree:PySem.W.specialIn K (.builtin "object.__class__") "__get__" = some (some (.builtin "getset_descriptor.__get__"))) (xt_NoDecree:PySem.W.takesIn K (.builtin "object.__class__") = some true) (xo_NoDecree:PySem.W.mroIn K c_NoDecree (.type "object") = some true) (xq_NoLevel:PySem.W.excIn K c_NoLevel [.type "ValueError",.type "Exception",.type "BaseException",.type "object"] "ValueError.__new__" = true) (xm_NoLevel:PySem.W.exmOne K (.ref c_NoLevel) (.ref c_NoLevel) = some true) (xp_NoLevel:PySem.W.findIn K (.ref c_NoLevel) "__getattribute__" = some (some (.builtin "BaseException.__getattribute__"))) (xg_NoLevel:PySem.W.findIn K (.ref c_NoLevel) "__getattr__" = some none) (xb_NoLevel:PySem.W.mroIn K c_NoLevel (.type "BaseException") = some true) (xh_NoLevel:PySem.W.findIn K (.ref c_NoLevel) "__class__" = some (some (.builtin "object.__class__"))) (xi_NoLevel:PySem.W.specialIn K (.builtin "object.__class__") "__get__" = some (some (.builtin "getset_descriptor.__get__"))) (xt_NoLevel:PySem.W.takesIn K (.builtin "object.__class__") = some true) (xo_NoLevel:PySem.W.mroIn K c_NoLevel (.type "object") = some true)
    (xz0:PySem.W.kitOne K (.ref c_NoDecree) (.ref c_DykeError) = some true)
    (xz1:PySem.W.kitOne K (.ref c_NoDecree) (.ref c_NoDecree) = some true)
    (xz2:PySem.W.kitOne K (.ref c_NoDecree) (.type "ValueError") = some true)
    (xz3:PySem.W.kitOne K (.ref c_NoDecree) (.ref c_NoLevel) = some false)
    (xz4:PySem.W.kitOne K (.ref c_NoLevel) (.ref c_DykeError) = some true)
    (xz5:PySem.W.kitOne K (.ref c_NoLevel) (.ref c_NoLevel) = some true)
    (xz6:PySem.W.kitOne K (.ref c_NoLevel) (.type "ValueError") = some true)
    (xz7:PySem.W.kitOne K (.ref c_NoLevel) (.ref c_NoDecree) = some false)
    (xz8:PySem.W.exmOne K (.ref c_NoDecree) (.ref c_DykeError) = some true)
    (xz9:PySem.W.exmOne K (.ref c_NoLevel) (.ref c_DykeError) = some true)
    (a0:PySem.W.nsIn K mainGlobals "_wall" = some (some (.ref f0))) (l0:K.lookup f0 = some ⟨oc0,od0,.func (PySem.W.fnOf "_wall" "_wall" (aP pG) (aN pG) (aF pG) .none kV0 doc0 pm0 an0 cd0 ct0),sl0⟩) (c0:PySem.W.codeIn K cd0 "_wall" = true) (k0:PySem.W.keepIn K (.ref f0) = true)
    (a1:PySem.W.nsIn K mainGlobals "is_whole" = some (some (.ref f1))) (l1:K.lookup f1 = some ⟨oc1,od1,.func (PySem.W.fnOf "is_whole" "is_whole" (aP gN) (aN gN) (aF gN) .none kV1 doc1 pm1 an1 cd1 ct1),sl1⟩) (c1:PySem.W.codeIn K cd1 "is_whole" = true) (k1:PySem.W.keepIn K (.ref f1) = true)
    (a2:PySem.W.nsIn K mainGlobals "is_name" = some (some (.ref f2))) (l2:K.lookup f2 = some ⟨oc2,od2,.func (PySem.W.fnOf "is_name" "is_name" (aP iD) (aN iD) (aF iD) .none kV2 doc2 pm2 an2 cd2 ct2),sl2⟩) (c2:PySem.W.codeIn K cd2 "is_name" = true) (k2:PySem.W.keepIn K (.ref f2) = true)
    (a3:PySem.W.nsIn K mainGlobals "is_height" = some (some (.ref f3))) (l3:K.lookup f3 = some ⟨oc3,od3,.func (PySem.W.fnOf "is_height" "is_height" (aP fO) (aN fO) (aF fO) .none kV3 doc3 pm3 an3 cd3 ct3),sl3⟩) (c3:PySem.W.codeIn K cd3 "is_height" = true) (k3:PySem.W.keepIn K (.ref f3) = true)
    (a4:PySem.W.nsIn K mainGlobals "is_amount" = some (some (.ref f4))) (l4:K.lookup f4 = some ⟨oc4,od4,.func (PySem.W.fnOf "is_amount" "is_amount" (aP fR) (aN fR) (aF fR) .none kV4 doc4 pm4 an4 cd4 ct4),sl4⟩) (c4:PySem.W.codeIn K cd4 "is_amount" = true) (k4:PySem.W.keepIn K (.ref f4) = true)
    (a5:PySem.W.nsIn K mainGlobals "is_one_of" = some (some (.ref f5))) (l5:K.lookup f5 = some ⟨oc5,od5,.func (PySem.W.fnOf "is_one_of" "is_one_of" (aP fN) (aN fN) (aF fN) .none kV5 doc5 pm5 an5 cd5 ct5),sl5⟩) (c5:PySem.W.codeIn K cd5 "is_one_of" = true) (k5:PySem.W.keepIn K (.ref f5) = true)
    (a6:PySem.W.nsIn K mainGlobals "is_list_of" = some (some (.ref f6))) (l6:K.lookup f6 = some ⟨oc6,od6,.func (PySem.W.fnOf "is_list_of" "is_list_of" (aP eZ) (aN eZ) (aF eZ) .none kV6 doc6 pm6 an6 cd6 ct6),sl6⟩) (c6:PySem.W.codeIn K cd6 "is_list_of" = true) (k6:PySem.W.keepIn K (.ref f6) = true)
    (a7:PySem.W.nsIn K mainGlobals "is_tuple_of" = some (some (.ref f7))) (l7:K.lookup f7 = some ⟨oc7,od7,.func (PySem.W.fnOf "is_tuple_of" "is_tuple_of" (aP eN) (aN eN) (aF eN) .none kV7 doc7 pm7 an7 cd7 ct7),sl7⟩) (c7:PySem.W.codeIn K cd7 "is_tuple_of" = true) (k7:PySem.W.keepIn K (.ref f7) = true)
    (a8:PySem.W.nsIn K mainGlobals "none_twice" = some (some (.ref f8))) (l8:K.lookup f8 = some ⟨oc8,od8,.func (PySem.W.fnOf "none_twice" "none_twice" (aP eY) (aN eY) (aF eY) .none kV8 doc8 pm8 an8 cd8 ct8),sl8⟩) (c8:PySem.W.codeIn K cd8 "none_twice" = true) (k8:PySem.W.keepIn K (.ref f8) = true)
    (a9:PySem.W.nsIn K mainGlobals "is_field" = some (some (.ref f9))) (l9:K.lookup f9 = some ⟨oc9,od9,.func (PySem.W.fnOf "is_field" "is_field" (aP gO) (aN gO) (aF gO) .none kV9 doc9 pm9 an9 cd9 ct9),sl9⟩) (c9:PySem.W.codeIn K cd9 "is_field" = true) (k9:PySem.W.keepIn K (.ref f9) = true)
    (a10:PySem.W.nsIn K mainGlobals "are_fields" = some (some (.ref f10))) (l10:K.lookup f10 = some ⟨oc10,od10,.func (PySem.W.fnOf "are_fields" "are_fields" (aP fA) (aN fA) (aF fA) .none kV10 doc10 pm10 an10 cd10 ct10),sl10⟩) (c10:PySem.W.codeIn K cd10 "are_fields" = true) (k10:PySem.W.keepIn K (.ref f10) = true)
    (a11:PySem.W.nsIn K mainGlobals "are_sides" = some (some (.ref f11))) (l11:K.lookup f11 = some ⟨oc11,od11,.func (PySem.W.fnOf "are_sides" "are_sides" (aP fS) (aN fS) (aF fS) .none kV11 doc11 pm11 an11 cd11 ct11),sl11⟩) (c11:PySem.W.codeIn K cd11 "are_sides" = true) (k11:PySem.W.keepIn K (.ref f11) = true)
    (a12:PySem.W.nsIn K mainGlobals "is_sill" = some (some (.ref f12))) (l12:K.lookup f12 = some ⟨oc12,od12,.func (PySem.W.fnOf "is_sill" "is_sill" (aP iC) (aN iC) (aF iC) .none kV12 doc12 pm12 an12 cd12 ct12),sl12⟩) (c12:PySem.W.codeIn K cd12 "is_sill" = true) (k12:PySem.W.keepIn K (.ref f12) = true)
    (a13:PySem.W.nsIn K mainGlobals "is_dyke" = some (some (.ref f13))) (l13:K.lookup f13 = some ⟨oc13,od13,.func (PySem.W.fnOf "is_dyke" "is_dyke" (aP iE) (aN iE) (aF iE) .none kV13 doc13 pm13 an13 cd13 ct13),sl13⟩) (c13:PySem.W.codeIn K cd13 "is_dyke" = true) (k13:PySem.W.keepIn K (.ref f13) = true)
    (a14:PySem.W.nsIn K mainGlobals "are_dykes" = some (some (.ref f14))) (l14:K.lookup f14 = some ⟨oc14,od14,.func (PySem.W.fnOf "are_dykes" "are_dykes" (aP fT) (aN fT) (aF fT) .none kV14 doc14 pm14 an14 cd14 ct14),sl14⟩) (c14:PySem.W.codeIn K cd14 "are_dykes" = true) (k14:PySem.W.keepIn K (.ref f14) = true)
    (a15:PySem.W.nsIn K mainGlobals "check_sluices" = some (some (.ref f15))) (l15:K.lookup f15 = some ⟨oc15,od15,.func (PySem.W.fnOf "check_sluices" "check_sluices" (aP dW) (aN dW) (aF dW) .none kV15 doc15 pm15 an15 cd15 ct15),sl15⟩) (c15:PySem.W.codeIn K cd15 "check_sluices" = true) (k15:PySem.W.keepIn K (.ref f15) = true)
    (a16:PySem.W.nsIn K mainGlobals "stands" = some (some (.ref f16))) (l16:K.lookup f16 = some ⟨oc16,od16,.func (PySem.W.fnOf "stands" "stands" (aP jA) (aN jA) (aF jA) .none kV16 doc16 pm16 an16 cd16 ct16),sl16⟩) (c16:PySem.W.codeIn K cd16 "stands" = true) (k16:PySem.W.keepIn K (.ref f16) = true)
    (a17:PySem.W.nsIn K mainGlobals "steps_inland" = some (some (.ref f17))) (l17:K.lookup f17 = some ⟨oc17,od17,.func (PySem.W.fnOf "steps_inland" "steps_inland" (aP eD) (aN eD) (aF eD) .none kV17 doc17 pm17 an17 cd17 ct17),sl17⟩) (c17:PySem.W.codeIn K cd17 "steps_inland" = true) (k17:PySem.W.keepIn K (.ref f17) = true)
    (a18:PySem.W.nsIn K mainGlobals "flood_heights" = some (some (.ref f18))) (l18:K.lookup f18 = some ⟨oc18,od18,.func (PySem.W.fnOf "flood_heights" "flood_heights" (aP dU) (aN dU) (aF dU) .none kV18 doc18 pm18 an18 cd18 ct18),sl18⟩) (c18:PySem.W.codeIn K cd18 "flood_heights" = true) (k18:PySem.W.keepIn K (.ref f18) = true)
    (a19:PySem.W.nsIn K mainGlobals "is_day_of" = some (some (.ref f19))) (l19:K.lookup f19 = some ⟨oc19,od19,.func (PySem.W.fnOf "is_day_of" "is_day_of" (aP fQ) (aN fQ) (aF fQ) .none kV19 doc19 pm19 an19 cd19 ct19),sl19⟩) (c19:PySem.W.codeIn K cd19 "is_day_of" = true) (k19:PySem.W.keepIn K (.ref f19) = true)
    (a20:PySem.W.nsIn K mainGlobals "is_condition" = some (some (.ref f20))) (l20:K.lookup f20 = some ⟨oc20,od20,.func (PySem.W.fnOf "is_condition" "is_condition" (aP eE) (aN eE) (aF eE) .none kV20 doc20 pm20 an20 cd20 ct20),sl20⟩) (c20:PySem.W.codeIn K cd20 "is_condition" = true) (k20:PySem.W.keepIn K (.ref f20) = true)
    (a21:PySem.W.nsIn K mainGlobals "is_decree" = some (some (.ref f21))) (l21:K.lookup f21 = some ⟨oc21,od21,.func (PySem.W.fnOf "is_decree" "is_decree" (aP fP) (aN fP) (aF fP) .none kV21 doc21 pm21 an21 cd21 ct21),sl21⟩) (c21:PySem.W.codeIn K cd21 "is_decree" = true) (k21:PySem.W.keepIn K (.ref f21) = true)
    (a22:PySem.W.nsIn K mainGlobals "are_decrees" = some (some (.ref f22))) (l22:K.lookup f22 = some ⟨oc22,od22,.func (PySem.W.fnOf "are_decrees" "are_decrees" (aP eO) (aN eO) (aF eO) .none kV22 doc22 pm22 an22 cd22 ct22),sl22⟩) (c22:PySem.W.codeIn K cd22 "are_decrees" = true) (k22:PySem.W.keepIn K (.ref f22) = true)
    (a23:PySem.W.nsIn K mainGlobals "check_decrees" = some (some (.ref f23))) (l23:K.lookup f23 = some ⟨oc23,od23,.func (PySem.W.fnOf "check_decrees" "check_decrees" (aP dX) (aN dX) (aF dX) .none kV23 doc23 pm23 an23 cd23 ct23),sl23⟩) (c23:PySem.W.codeIn K cd23 "check_decrees" = true) (k23:PySem.W.keepIn K (.ref f23) = true)
    (a24:PySem.W.nsIn K mainGlobals "copied" = some (some (.ref f24))) (l24:K.lookup f24 = some ⟨oc24,od24,.func (PySem.W.fnOf "copied" "copied" (aP jC) (aN jC) (aF jC) .none kV24 doc24 pm24 an24 cd24 ct24),sl24⟩) (c24:PySem.W.codeIn K cd24 "copied" = true) (k24:PySem.W.keepIn K (.ref f24) = true)
    (a25:PySem.W.nsIn K mainGlobals "condition_holds" = some (some (.ref f25))) (l25:K.lookup f25 = some ⟨oc25,od25,.func (PySem.W.fnOf "condition_holds" "condition_holds" (aP dC) (aN dC) (aF dC) .none kV25 doc25 pm25 an25 cd25 ct25),sl25⟩) (c25:PySem.W.codeIn K cd25 "condition_holds" = true) (k25:PySem.W.keepIn K (.ref f25) = true)
    (a26:PySem.W.nsIn K mainGlobals "holds" = some (some (.ref f26))) (l26:K.lookup f26 = some ⟨oc26,od26,.func (PySem.W.fnOf "holds" "holds" (aP kE) (aN kE) (aF kE) .none kV26 doc26 pm26 an26 cd26 ct26),sl26⟩) (c26:PySem.W.codeIn K cd26 "holds" = true) (k26:PySem.W.keepIn K (.ref f26) = true)
    (a27:PySem.W.nsIn K mainGlobals "opened_by" = some (some (.ref f27))) (l27:K.lookup f27 = some ⟨oc27,od27,.func (PySem.W.fnOf "opened_by" "opened_by" (aP fM) (aN fM) (aF fM) .none kV27 doc27 pm27 an27 cd27 ct27),sl27⟩) (c27:PySem.W.codeIn K cd27 "opened_by" = true) (k27:PySem.W.keepIn K (.ref f27) = true)
    (a28:PySem.W.nsIn K mainGlobals "is_wet" = some (some (.ref f28))) (l28:K.lookup f28 = some ⟨oc28,od28,.func (PySem.W.fnOf "is_wet" "is_wet" (aP jB) (aN jB) (aF jB) .none kV28 doc28 pm28 an28 cd28 ct28),sl28⟩) (c28:PySem.W.codeIn K cd28 "is_wet" = true) (k28:PySem.W.keepIn K (.ref f28) = true)
    (a29:PySem.W.nsIn K mainGlobals "wet_fields" = some (some (.ref f29))) (l29:K.lookup f29 = some ⟨oc29,od29,.func (PySem.W.fnOf "wet_fields" "wet_fields" (aP eX) (aN eX) (aF eX) .none kV29 doc29 pm29 an29 cd29 ct29),sl29⟩) (c29:PySem.W.codeIn K cd29 "wet_fields" = true) (k29:PySem.W.keepIn K (.ref f29) = true)
    (a30:PySem.W.nsIn K mainGlobals "_law_mixed" = some (some (.ref f30))) (l30:K.lookup f30 = some ⟨oc30,od30,.func (PySem.W.fnOf "_law_mixed" "_law_mixed" (aP kG) (aN kG) (aF kG) .none kV30 doc30 pm30 an30 cd30 ct30),sl30⟩) (c30:PySem.W.codeIn K cd30 "_law_mixed" = true) (k30:PySem.W.keepIn K (.ref f30) = true)
    (a31:PySem.W.nsIn K mainGlobals "_law_names" = some (some (.ref f31))) (l31:K.lookup f31 = some ⟨oc31,od31,.func (PySem.W.fnOf "_law_names" "_law_names" (aP kF) (aN kF) (aF kF) .none kV31 doc31 pm31 an31 cd31 ct31),sl31⟩) (c31:PySem.W.codeIn K cd31 "_law_names" = true) (k31:PySem.W.keepIn K (.ref f31) = true)
    (a32:PySem.W.nsIn K mainGlobals "_law_height" = some (some (.ref f32))) (l32:K.lookup f32 = some ⟨oc32,od32,.func (PySem.W.fnOf "_law_height" "_law_height" (aP jE) (aN jE) (aF jE) .none kV32 doc32 pm32 an32 cd32 ct32),sl32⟩) (c32:PySem.W.codeIn K cd32 "_law_height" = true) (k32:PySem.W.keepIn K (.ref f32) = true)
    (a33:PySem.W.nsIn K mainGlobals "_law_fields" = some (some (.ref f33))) (l33:K.lookup f33 = some ⟨oc33,od33,.func (PySem.W.fnOf "_law_fields" "_law_fields" (aP jF) (aN jF) (aF jF) .none kV33 doc33 pm33 an33 cd33 ct33),sl33⟩) (c33:PySem.W.codeIn K cd33 "_law_fields" = true) (k33:PySem.W.keepIn K (.ref f33) = true)
    (a34:PySem.W.nsIn K mainGlobals "_law_dykes" = some (some (.ref f34))) (l34:K.lookup f34 = some ⟨oc34,od34,.func (PySem.W.fnOf "_law_dykes" "_law_dykes" (aP kH) (aN kH) (aF kH) .none kV34 doc34 pm34 an34 cd34 ct34),sl34⟩) (c34:PySem.W.codeIn K cd34 "_law_dykes" = true) (k34:PySem.W.keepIn K (.ref f34) = true)
    (a35:PySem.W.nsIn K mainGlobals "_law_decrees" = some (some (.ref f35))) (l35:K.lookup f35 = some ⟨oc35,od35,.func (PySem.W.fnOf "_law_decrees" "_law_decrees" (aP iG) (aN iG) (aF iG) .none kV35 doc35 pm35 an35 cd35 ct35),sl35⟩) (c35:PySem.W.codeIn K cd35 "_law_decrees" = true) (k35:PySem.W.keepIn K (.ref f35) = true)
    (a36:PySem.W.nsIn K mainGlobals "_law_condition" = some (some (.ref f36))) (l36:K.lookup f36 = some ⟨oc36,od36,.func (PySem.W.fnOf "_law_condition" "_law_condition" (aP fU) (aN fU) (aF fU) .none kV36 doc36 pm36 an36 cd36 ct36),sl36⟩) (c36:PySem.W.codeIn K cd36 "_law_condition" = true) (k36:PySem.W.keepIn K (.ref f36) = true)
    (a37:PySem.W.nsIn K mainGlobals "_law_spoilt" = some (some (.ref f37))) (l37:K.lookup f37 = some ⟨oc37,od37,.func (PySem.W.fnOf "_law_spoilt" "_law_spoilt" (aP jD) (aN jD) (aF jD) .none kV37 doc37 pm37 an37 cd37 ct37),sl37⟩) (c37:PySem.W.codeIn K cd37 "_law_spoilt" = true) (k37:PySem.W.keepIn K (.ref f37) = true)
    (a38:PySem.W.nsIn K mainGlobals "_law_refused" = some (some (.ref f38))) (l38:K.lookup f38 = some ⟨oc38,od38,.func (PySem.W.fnOf "_law_refused" "_law_refused" (aP iF) (aN iF) (aF iF) .none kV38 doc38 pm38 an38 cd38 ct38),sl38⟩) (c38:PySem.W.codeIn K cd38 "_law_refused" = true) (k38:PySem.W.keepIn K (.ref f38) = true)
    (a39:PySem.W.nsIn K mainGlobals "_law_no_level" = some (some (.ref f39))) (l39:K.lookup f39 = some ⟨oc39,od39,.func (PySem.W.fnOf "_law_no_level" "_law_no_level" (aP gQ) (aN gQ) (aF gQ) .none kV39 doc39 pm39 an39 cd39 ct39),sl39⟩) (c39:PySem.W.codeIn K cd39 "_law_no_level" = true) (k39:PySem.W.keepIn K (.ref f39) = true)
    (a40:PySem.W.nsIn K mainGlobals "_law_same" = some (some (.ref f40))) (l40:K.lookup f40 = some ⟨oc40,od40,.func (PySem.W.fnOf "_law_same" "_law_same" (aP mH) (aN mH) (aF mH) .none kV40 doc40 pm40 an40 cd40 ct40),sl40⟩) (c40:PySem.W.codeIn K cd40 "_law_same" = true) (k40:PySem.W.keepIn K (.ref f40) = true)
    (a41:PySem.W.nsIn K mainGlobals "law" = some (some (.ref f41))) (l41:K.lookup f41 = some ⟨oc41,od41,.func (PySem.W.fnOf "law" "law" (aP nK) (aN nK) (aF nK) .none kV41 doc41 pm41 an41 cd41 ct41),sl41⟩) (c41:PySem.W.codeIn K cd41 "law" = true) (k41:PySem.W.keepIn K (.ref f41) = true)
    (tg0:PySem.W.nsIn K mainGlobals "DEEDS" = some (some (.ref at0))) (tl0:K.lookup at0 = some ⟨.type "tuple",otd0,.seq its0 nnt0,slt0⟩) (tv0:bH [(.str "open"),(.str "shut")] its0.toList) (tz0:its0.size ≤ sizeLine)
    (tg1:PySem.W.nsIn K mainGlobals "TIDES" = some (some (.ref at1))) (tl1:K.lookup at1 = some ⟨.type "tuple",otd1,.seq its1 nnt1,slt1⟩) (tv1:bH [(.str "above"),(.str "below")] its1.toList) (tz1:its1.size ≤ sizeLine)
    (tg2:PySem.W.nsIn K mainGlobals "WATERS" = some (some (.ref at2))) (tl2:K.lookup at2 = some ⟨.type "tuple",otd2,.seq its2 nnt2,slt2⟩) (tv2:bH [(.str "wet"),(.str "dry")] its2.toList) (tz2:its2.size ≤ sizeLine)
    (g0:PySem.W.nsIn K mainGlobals "SEA" = some (some u0)) (r0:bF (.str "sea") u0)
    (g1:PySem.W.nsIn K mainGlobals "LETTERS" = some (some u1)) (r1:bF (.str "abcdefghijklmnopqrstuvwxyz") u1)
    (g2:PySem.W.nsIn K mainGlobals "MOST_LETTERS" = some (some u2)) (r2:bF (.int 8) u2)
    (g3:PySem.W.nsIn K mainGlobals "MOST_HEIGHT" = some (some u3)) (r3:bF (.int 1000000) u3)
    (g4:PySem.W.nsIn K mainGlobals "MOST_AMOUNT" = some (some u4)) (r4:bF (.int 1000000) u4)
    (g5:PySem.W.nsIn K mainGlobals "MOST_FIELDS" = some (some u5)) (r5:bF (.int 12) u5)
    (g6:PySem.W.nsIn K mainGlobals "MOST_DYKES" = some (some u6)) (r6:bF (.int 40) u6)
    (g7:PySem.W.nsIn K mainGlobals "MOST_DECREES" = some (some u7)) (r7:bF (.int 60) u7)
    (g8:PySem.W.nsIn K mainGlobals "MOST_CONDITIONS" = some (some u8)) (r8:bF (.int 6) u8)
    (g9:PySem.W.nsIn K mainGlobals "MOST_ROUND" = some (some u9)) (r9:bF (.int 100) u9)
    (z0:PySem.W.nsIn K mainGlobals "ValueError" = some none)
    (z1:PySem.W.nsIn K mainGlobals "all" = some none)
    (z2:PySem.W.nsIn K mainGlobals "bool" = some none)
    (z3:PySem.W.nsIn K mainGlobals "dict" = some none)
    (z4:PySem.W.nsIn K mainGlobals "int" = some none)
    (z5:PySem.W.nsIn K mainGlobals "isinstance" = some none)
    (z6:PySem.W.nsIn K mainGlobals "len" = some none)
    (z7:PySem.W.nsIn K mainGlobals "list" = some none)
    (z8:PySem.W.nsIn K mainGlobals "max" = some none)
    (z9:PySem.W.nsIn K mainGlobals "min" = some none)
    (z10:PySem.W.nsIn K mainGlobals "range" = some none)
    (z11:PySem.W.nsIn K mainGlobals "set" = some none)
    (z12:PySem.W.nsIn K mainGlobals "str" = some none)
    (z13:PySem.W.nsIn K mainGlobals "tuple" = some none)  :Txt K mg C :=
  ⟨⟨pgC,hdC,poC,saC⟩,
   PySem.W.mg_of X G aC,
   n_field_rows,
   n_dyke_rows,
   aBS ma15 mi15 ml15 mc15 mk15 mkC kpC (fun _ _ _ _ _ _ us hl=>match us,hl with | [_,_,_],_=>rfl),
   eB ma16 mi16 ml16 mc16 mk16 (fun _ _ _ _ _ _ us hl=>match us,hl with | [_],_=>rfl),
   eB ma17 mi17 ml17 mc17 mk17 (fun _ _ _ _ _ _ us hl=>match us,hl with | [_],_=>rfl),
   eB ma18 mi18 ml18 mc18 mk18 (fun _ _ _ _ _ _ us hl=>match us,hl with | [_],_=>rfl),
   eB ma19 mi19 ml19 mc19 mk19 (fun _ _ _ _ _ _ us hl=>match us,hl with | [_],_=>rfl),
   eB ma20 mi20 ml20 mc20 mk20 (fun _ _ _ _ _ _ us hl=>match us,hl with | [_],_=>rfl),
   eB ma21 mi21 ml21 mc21 mk21 (fun _ _ _ _ _ _ us hl=>match us,hl with | [_,_],_=>rfl),
   eB ma22 mi22 ml22 mc22 mk22 (fun _ _ _ _ _ _ us hl=>match us,hl with | [_,_],_=>rfl),
   eB ma23 mi23 ml23 mc23 mk23 (fun _ _ _ _ _ _ us hl=>match us,hl with | [_,_],_=>rfl),
   eB ma24 mi24 ml24 mc24 mk24 (fun _ _ _ _ _ _ us hl=>match us,hl with | [_,_],_=>rfl),
   ⟨C_Season,⟨pgCSeason,hdCSeason,poCSeason,saCSeason⟩,PySem.W.mg_of X G aCSeason,nSeason_on_land,nSeason_own_decrees,nSeason_open_names,nSeason_wet_names,nSeason_day_count,nSeason_wet_counts,aBS ma40 mi40 ml40 mc40 mk40 mkCSeason kpCSeason (fun _ _ _ _ _ _ us hl=>match us,hl with | [_,_,_],_=>rfl),eB ma41 mi41 ml41 mc41 mk41 (fun _ _ _ _ _ _ us hl=>match us,hl with | [_,_],_=>rfl),eB ma42 mi42 ml42 mc42 mk42 (fun _ _ _ _ _ _ us hl=>match us,hl with | [_,_],_=>rfl),eB ma43 mi43 ml43 mc43 mk43 (fun _ _ _ _ _ _ us hl=>match us,hl with | [_],_=>rfl),eB ma44 mi44 ml44 mc44 mk44 (fun _ _ _ _ _ _ us hl=>match us,hl with | [_],_=>rfl),eB ma45 mi45 ml45 mc45 mk45 (fun _ _ _ _ _ _ us hl=>match us,hl with | [_],_=>rfl),eB ma46 mi46 ml46 mc46 mk46 (fun _ _ _ _ _ _ us hl=>match us,hl with | [_],_=>rfl),eB ma47 mi47 ml47 mc47 mk47 (fun _ _ _ _ _ _ us hl=>match us,hl with | [_,_],_=>rfl)⟩,
   ⟨c_NoDecree,c_NoLevel,c_DykeError,⟨⟨⟨xq_NoDecree⟩,xm_NoDecree⟩,xp_NoDecree,xg_NoDecree,xb_NoDecree,⟨xh_NoDecree,xi_NoDecree,xt_NoDecree,xo_NoDecree⟩⟩,⟨⟨⟨xq_NoLevel⟩,xm_NoLevel⟩,xp_NoLevel,xg_NoLevel,xb_NoLevel,⟨xh_NoLevel,xi_NoLevel,xt_NoLevel,xo_NoLevel⟩⟩,PySem.W.mg_of X G xa_NoDecree,PySem.W.mg_of X G xa_NoLevel,PySem.W.mg_of X G xa_DykeError,xz0,xz1,xz2,xz3,xz4,xz5,xz6,xz7,xz8,xz9⟩,
   bO X G a0 l0 c0 k0 (fun _ _ _ _ _ _ us hl=>match us,hl with | [_],_=>rfl),
   bO X G a1 l1 c1 k1 (fun _ _ _ _ _ _ us hl=>match us,hl with | [_],_=>rfl),
   bO X G a2 l2 c2 k2 (fun _ _ _ _ _ _ us hl=>match us,hl with | [_],_=>rfl),
   bO X G a3 l3 c3 k3 (fun _ _ _ _ _ _ us hl=>match us,hl with | [_],_=>rfl),
   bO X G a4 l4 c4 k4 (fun _ _ _ _ _ _ us hl=>match us,hl with | [_],_=>rfl),
   bO X G a5 l5 c5 k5 (fun _ _ _ _ _ _ us hl=>match us,hl with | [_,_],_=>rfl),
   bO X G a6 l6 c6 k6 (fun _ _ _ _ _ _ us hl=>match us,hl with | [_,_],_=>rfl),
   bO X G a7 l7 c7 k7 (fun _ _ _ _ _ _ us hl=>match us,hl with | [_,_],_=>rfl),
   bO X G a8 l8 c8 k8 (fun _ _ _ _ _ _ us hl=>match us,hl with | [_],_=>rfl),
   bO X G a9 l9 c9 k9 (fun _ _ _ _ _ _ us hl=>match us,hl with | [_],_=>rfl),
   bO X G a10 l10 c10 k10 (fun _ _ _ _ _ _ us hl=>match us,hl with | [_],_=>rfl),
   bO X G a11 l11 c11 k11 (fun _ _ _ _ _ _ us hl=>match us,hl with | [_,_,_],_=>rfl),
   bO X G a12 l12 c12 k12 (fun _ _ _ _ _ _ us hl=>match us,hl with | [_,_],_=>rfl),
   bO X G a13 l13 c13 k13 (fun _ _ _ _ _ _ us hl=>match us,hl with | [_,_],_=>rfl),
   bO X G a14 l14 c14 k14 (fun _ _ _ _ _ _ us hl=>match us,hl with | [_,_],_=>rfl),
   bO X G a15 l15 c15 k15 (fun _ _ _ _ _ _ us hl=>match us,hl with | [_,_],_=>rfl),
   bO X G a16 l16 c16 k16 (fun _ _ _ _ _ _ us hl=>match us,hl with | [_,_],_=>rfl),
   bO X G a17 l17 c17 k17 (fun _ _ _ _ _ _ us hl=>match us,hl with | [_,_],_=>rfl),
   bO X G a18 l18 c18 k18 (fun _ _ _ _ _ _ us hl=>match us,hl with | [_,_],_=>rfl),
   bO X G a19 l19 c19 k19 (fun _ _ _ _ _ _ us hl=>match us,hl with | [_,_],_=>rfl),
   bO X G a20 l20 c20 k20 (fun _ _ _ _ _ _ us hl=>match us,hl with | [_,_],_=>rfl),
   bO X G a21 l21 c21 k21 (fun _ _ _ _ _ _ us hl=>match us,hl with | [_,_,_],_=>rfl),
   bO X G a22 l22 c22 k22 (fun _ _ _ _ _ _ us hl=>match us,hl with | [_,_],_=>rfl),
   bO X G a23 l23 c23 k23 (fun _ _ _ _ _ _ us hl=>match us,hl with | [_,_],_=>rfl),
   bO X G a24 l24 c24 k24 (fun _ _ _ _ _ _ us hl=>match us,hl with | [_],_=>rfl),
   bO X G a25 l25 c25 k25 (fun _ _ _ _ _ _ us hl=>match us,hl with | [_,_,_,_],_=>rfl),
   bO X G a26 l26 c26 k26 (fun _ _ _ _ _ _ us hl=>match us,hl with | [_,_,_,_],_=>rfl),
   bO X G a27 l27 c27 k27 (fun _ _ _ _ _ _ us hl=>match us,hl with | [_,_,_,_,_,_],_=>rfl),
   bO X G a28 l28 c28 k28 (fun _ _ _ _ _ _ us hl=>match us,hl with | [_,_,_,_],_=>rfl),
   bO X G a29 l29 c29 k29 (fun _ _ _ _ _ _ us hl=>match us,hl with | [_,_,_,_],_=>rfl),
   bO X G a30 l30 c30 k30 (fun _ _ _ _ _ _ us hl=>match us,hl with | [_,_],_=>rfl),
   bO X G a31 l31 c31 k31 (fun _ _ _ _ _ _ us hl=>match us,hl with | [_],_=>rfl),
   bO X G a32 l32 c32 k32 (fun _ _ _ _ _ _ us hl=>match us,hl with | [_],_=>rfl),
   bO X G a33 l33 c33 k33 (fun _ _ _ _ _ _ us hl=>match us,hl with | [_,_],_=>rfl),
   bO X G a34 l34 c34 k34 (fun _ _ _ _ _ _ us hl=>match us,hl with | [_,_,_,_],_=>rfl),
   bO X G a35 l35 c35 k35 (fun _ _ _ _ _ _ us hl=>match us,hl with | [_,_,_,_,_],_=>rfl),
   bO X G a36 l36 c36 k36 (fun _ _ _ _ _ _ us hl=>match us,hl with | [_,_],_=>rfl),
   bO X G a37 l37 c37 k37 (fun _ _ _ _ _ _ us hl=>match us,hl with | [_,_,_,_],_=>rfl),
   bO X G a38 l38 c38 k38 (fun _ _ _ _ _ _ us hl=>match us,hl with | [_,_],_=>rfl),
   bO X G a39 l39 c39 k39 (fun _ _ _ _ _ _ us hl=>match us,hl with | [_,_,_],_=>rfl),
   bO X G a40 l40 c40 k40 (fun _ _ _ _ _ _ us hl=>match us,hl with | [_,_],_=>rfl),
   bO X G a41 l41 c41 k41 (fun _ _ _ _ _ _ us hl=>match us,hl with | [_],_=>rfl),
   ⟨at0,PySem.W.mg_of X G tg0,fun _=>.inr ⟨_,its0,nnt0,tl0,rfl,rfl,tz0,tv0⟩⟩,
   ⟨at1,PySem.W.mg_of X G tg1,fun _=>.inr ⟨_,its1,nnt1,tl1,rfl,rfl,tz1,tv1⟩⟩,
   ⟨at2,PySem.W.mg_of X G tg2,fun _=>.inr ⟨_,its2,nnt2,tl2,rfl,rfl,tz2,tv2⟩⟩,
   hW X G g0 r0,
   hW X G g1 r1,
   hW X G g2 r2,
   hW X G g3 r3,
   hW X G g4 r4,
   hW X G g5 r5,
   hW X G g6 r6,
   hW X G g7 r7,
   hW X G g8 r8,
   hW X G g9 r9,
   PySem.W.mg_none_of X G z0,
   PySem.W.mg_none_of X G z1,
   PySem.W.mg_none_of X G z2,
   PySem.W.mg_none_of X G z3,
   PySem.W.mg_none_of X G z4,
   PySem.W.mg_none_of X G z5,
   PySem.W.mg_none_of X G z6,
   PySem.W.mg_none_of X G z7,
   PySem.W.mg_none_of X G z8,
   PySem.W.mg_none_of X G z9,
   PySem.W.mg_none_of X G z10,
   PySem.W.mg_none_of X G z11,
   PySem.W.mg_none_of X G z12,
   PySem.W.mg_none_of X G z13⟩
end K47
namespace PySem.W.Fast
def tw3954631597025727906 := 0
def tw554532532251018898 := 0
def tw2814439074254669749 := 0
def tw10561449514756563660 := 0
def tw2771083712272779862 := 0
def tw15031024550570012951 := 0
def tw3696441350812319371 := 0
def tw5905280434833177429 := 0
def tw18221756139169978838 := 0
def tw7822399824369917190 := 0
def tw17348739958580563550 := 0
def tw5159925074006013298 := 0
def tw1292647502806542515 := 0
def tw13695168206977601656 := 0
def tw8920289907192900809 := 0
def tw1778629859992711183 := 0
def tw17549742093489551126 := 0
def tw559203888873531576 := 0
def tw15589254769744971340 := 0
def tw2817739207036332483 := 0
def tw12863516680528173218 := 0
def tw14300507430717669893 := 0
def tw1892717275102113005 := 0
def tw9958199468857887246 := 0
def tw5999718317698530515 := 0
def tw9778605187793510535 := 0
def tw7348885971995429942 := 0
def tw13606554680339087313 := 0
def tw17114923217306033193 := 0
def tw18166759224569704246 := 0
def tw10907175473846887166 := 0
def tw2977532285790906412 := 0
def tw4761722482708433263 := 0
def tw14689842886029850979 := 0
def tw7185640920821843640 := 0
def tw16925932554016010390 := 0
def tw4656309025801876638 := 0
def tw6610255996277204377 := 0
def tw4169808473652572536 := 0
def tw17775420787474376636 := 0
def tw7235708156801525171 := 0
def tw9999034919946961055 := 0
def tw9050161436512040566 := 0
def tw3065429505773517189 := 0
def tw8365702970698544811 := 0
def tw14746889862060039322 := 0
def tw2283454161778364766 := 0
def tw8898560591415703024 := 0
def tw47682878094037605 := 0
def tw5806432962911468367 := 0
def tw16259402113468338380 := 0
def tw15208318073162903053 := 0
def tw8557169966815891316 := 0
def tw3574382028873872849 := 0
def tw7082980876254051926 := 0
def tw6468315635338421997 := 0
def tw16211006141053718075 := 0
def tw2983294749448736710 := 0
def tw9672706512275455415 := 0
def tw14634578794665699640 := 0
def tw12696981065394751103 := 0
def tw9504233467563445903 := 0
def tw7439705674037641534 := 0
def tw10877533044070582991 := 0
def tw9375702872566408290 := 0
def tw11062253264825365942 := 0
def tw5951009070623135341 := 0
def tw374791007295680790 := 0
def tw1005433441060678246 := 0
def tw14237612033052226729 := 0
def tw5293682483674229639 := 0
def tw4137902771748664019 := 0
def tw7648297269005262884 := 0
def tw14171958532924408677 := 0
def tw12935131102177389341 := 0
def tw2795472140200510759 := 0
def tw3263067189280714697 := 0
def tw17322079924997154508 := 0
def tw2837977664942557169 := 0
def tw4585615921321360106 := 0
def tw2357948853008817125 := 0
def tw14658347170671273823 := 0
def tw6824986732935517279 := 0
def tw10280802191667783302 := 0
def tw13598390929082049469 := 0
def tw1079062655368176635 := 0
def tw16418386717317683470 := 0
def tw7562408012430222422 := 0
def tw15271046346919456212 := 0
def tw1298460288209880678 := 0
def tw4878565651240570512 := 0
def tw14462110405005884169 := 0
def tw7435372995356425902 := 0
def tw10829789529852711474 := 0
def tw14898092449155284774 := 0
def tw15116821887870627725 := 0
def tw11339847316015200868 := 0
def tw9546052857655540306 := 0
def tw17247539619267340601 := 0
def tw9614649124753813287 := 0
def tw6809349397307927035 := 0
def tw7683523037384436406 := 0
def tw6849773455487418630 := 0
def tw10725958191696074821 := 0
def tw14263049206452018044 := 0
def tw11388435205200427912 := 0
def tw13994710743954478853 := 0
def tw9792921944743396560 := 0
def tw18443452656474618158 := 0
def tw7898505765197633228 := 0
def tw3968281616476455956 := 0
def tw8055454749012537371 := 0
def tw1091545756516480206 := 0
def tw5001204509085109046 := 0
def tw9512741849997436544 := 0
def tw15575426392485024441 := 0
end PySem.W.Fast
open PySem PySem.W PyProof.Rows
set_option maxRecDepth 100000 in
set_option maxHeartbeats 0 in
theorem PySem.Challenge.cw_dykemoot_k47_no_season_no_level_holds : PySem.Challenge.rw_dykemoot_k47_no_season_no_level.Holds := by
 w_on; o_law; k_head; (case hw => w_witness2)
 k_fill
 refine L2.walk_law (l := PySem.Challenge.rw_dykemoot_k47_no_season_no_level) 13 ⟨rfl, by decide, by decide⟩ rfl rfl (fun w h Y => PySem.W.kIn_of Y) ?F
 case F =>
  intro w mg fa h KX G hmg
  refine' K47.law_mk hmg (K47.txt_mk KX G ?xaC ?xpgC ?xhdC ?xpoC ?xsaC ?xmkC ?xkpC ?xn_field_rows ?xn_dyke_rows ?xma15 ?xmi15 ?xml15 ?xmc15 ?xmk15 ?xma16 ?xmi16 ?xml16 ?xmc16 ?xmk16 ?xma17 ?xmi17 ?xml17 ?xmc17 ?xmk17 ?xma18 ?xmi18 ?xml18 ?xmc18 ?xmk18 ?xma19 ?xmi19 ?xml19 ?xmc19 ?xmk19 ?xma20 ?xmi20 ?xml20 ?xmc20 ?xmk20 ?xma21 ?xmi21 ?xml21 ?xmc21 ?xmk21 ?xma22 ?xmi22 ?xml22 ?xmc22 ?xmk22 ?xma23 ?xmi23 ?xml23 ?xmc23 ?xmk23 ?xma24 ?xmi24 ?xml24 ?xmc24 ?xmk24 ?xaCSeason ?xpgCSeason ?xhdCSeason ?xpoCSeason ?xsaCSeason ?xmkCSeason ?xkpCSeason ?xnSeason_on_land ?xnSeason_own_decrees ?xnSeason_open_names ?xnSeason_wet_names ?xnSeason_day_count ?xnSeason_wet_counts ?xma40 ?xmi40 ?xml40 ?xmc40 ?xmk40 ?xma41 ?xmi41 ?xml41 ?xmc41 ?xmk41 ?xma42 ?xmi42 ?xml42 ?xmc42 ?xmk42 ?xma43 ?xmi43 ?xml43 ?xmc43 ?xmk43 ?xma44 ?xmi44 ?xml44 ?xmc44 ?xmk44 ?xma45 ?xmi45 ?xml45 ?xmc45 ?xmk45 ?xma46 ?xmi46 ?xml46 ?xmc46 ?xmk46 ?xma47 ?xmi47 ?xml47 ?xmc47 ?xmk47 ?xxa_NoDecree ?xxa_NoLevel ?xxa_DykeError ?xxq_NoDecree ?xxm_NoDecree ?xxp_NoDecree ?xxg_NoDecree ?xxb_NoDecree ?xxh_NoDecree ?xxi_NoDecree ?xxt_NoDecree ?xxo_NoDecree ?xxq_NoLevel ?xxm_NoLevel ?xxp_NoLevel ?xxg_NoLevel ?xxb_NoLevel ?xxh_NoLevel ?xxi_NoLevel ?xxt_NoLevel ?xxo_NoLevel ?xxz0 ?xxz1 ?xxz2 ?xxz3 ?xxz4 ?xxz5 ?xxz6 ?xxz7 ?xxz8 ?xxz9 ?xa0 ?xl0 ?xc0 ?xk0 ?xa1 ?xl1 ?xc1 ?xk1 ?xa2 ?xl2 ?xc2 ?xk2 ?xa3 ?xl3 ?xc3 ?xk3 ?xa4 ?xl4 ?xc4 ?xk4 ?xa5 ?xl5 ?xc5 ?xk5 ?xa6 ?xl6 ?xc6 ?xk6 ?xa7 ?xl7 ?xc7 ?xk7 ?xa8 ?xl8 ?xc8 ?xk8 ?xa9 ?xl9 ?xc9 ?xk9 ?xa10 ?xl10 ?xc10 ?xk10 ?xa11 ?xl11 ?xc11 ?xk11 ?xa12 ?xl12 ?xc12 ?xk12 ?xa13 ?xl13 ?xc13 ?xk13 ?xa14 ?xl14 ?xc14 ?xk14 ?xa15 ?xl15 ?xc15 ?xk15 ?xa16 ?xl16 ?xc16 ?xk16 ?xa17 ?xl17 ?xc17 ?xk17 ?xa18 ?xl18 ?xc18 ?xk18 ?xa19 ?xl19 ?xc19 ?xk19 ?xa20 ?xl20 ?xc20 ?xk20 ?xa21 ?xl21 ?xc21 ?xk21 ?xa22 ?xl22 ?xc22 ?xk22 ?xa23 ?xl23 ?xc23 ?xk23 ?xa24 ?xl24 ?xc24 ?xk24 ?xa25 ?xl25 ?xc25 ?xk25 ?xa26 ?xl26 ?xc26 ?xk26 ?xa27 ?xl27 ?xc27 ?xk27 ?xa28 ?xl28 ?xc28 ?xk28 ?xa29 ?xl29 ?xc29 ?xk29 ?xa30 ?xl30 ?xc30 ?xk30 ?xa31 ?xl31 ?xc31 ?xk31 ?xa32 ?xl32 ?xc32 ?xk32 ?xa33 ?xl33 ?xc33 ?xk33 ?xa34 ?xl34 ?xc34 ?xk34 ?xa35 ?xl35 ?xc35 ?xk35 ?xa36 ?xl36 ?xc36 ?xk36 ?xa37 ?xl37 ?xc37 ?xk37 ?xa38 ?xl38 ?xc38 ?xk38 ?xa39 ?xl39 ?xc39 ?xk39 ?xa40 ?xl40 ?xc40 ?xk40 ?xa41 ?xl41 ?xc41 ?xk41 ?xtg0 ?xtl0 ?xtv0 ?xtz0 ?xtg1 ?xtl1 ?xtv1 ?xtz1 ?xtg2 ?xtl2 ?xtv2 ?xtz2 ?xg0 ?xr0 ?xg1 ?xr1 ?xg2 ?xr2 ?xg3 ?xr3 ?xg4 ?xr4 ?xg5 ?xr5 ?xg6 ?xr6 ?xg7 ?xr7 ?xg8 ?xr8 ?xg9 ?xr9 ?xz0 ?xz1 ?xz2 ?xz3 ?xz4 ?xz5 ?xz6 ?xz7 ?xz8 ?xz9 ?xz10 ?xz11 ?xz12 ?xz13)
  (case xaC => k_is)
  (case xpgC => k_is)
  (case xhdC => k_is)
  (case xpoC => k_is)
  (case xsaC => k_is)
  (case xmkC => k_is)
  (case xkpC => k_is)
  (case xn_field_rows => k_is)
  (case xn_dyke_rows => k_is)
  (case xma15 => k_is)
  (case xmi15 => k_is)
  (case xml15 => k_is)
  (case xmc15 => k_is)
  (case xmk15 => k_is)
  (case xma16 => k_is)
  (case xmi16 => k_is)
  (case xml16 => k_is)
  (case xmc16 => k_is)
  (case xmk16 => k_is)
  (case xma17 => k_is)
  (case xmi17 => k_is)
  (case xml17 => k_is)
  (case xmc17 => k_is)
  (case xmk17 => k_is)
  (case xma18 => k_is)
  (case xmi18 => k_is)
  (case xml18 => k_is)
  (case xmc18 => k_is)
  (case xmk18 => k_is)
  (case xma19 => k_is)
  (case xmi19 => k_is)
  (case xml19 => k_is)
  (case xmc19 => k_is)
  (case xmk19 => k_is)
  (case xma20 => k_is)
  (case xmi20 => k_is)
  (case xml20 => k_is)
  (case xmc20 => k_is)
  (case xmk20 => k_is)
  (case xma21 => k_is)
  (case xmi21 => k_is)
  (case xml21 => k_is)
  (case xmc21 => k_is)
  (case xmk21 => k_is)
  (case xma22 => k_is)
  (case xmi22 => k_is)
  (case xml22 => k_is)
  (case xmc22 => k_is)
  (case xmk22 => k_is)
  (case xma23 => k_is)
  (case xmi23 => k_is)
  (case xml23 => k_is)
  (case xmc23 => k_is)
  (case xmk23 => k_is)
  (case xma24 => k_is)
  (case xmi24 => k_is)
  (case xml24 => k_is)
  (case xmc24 => k_is)
  (case xmk24 => k_is)
  (case xaCSeason => k_is)
  (case xpgCSeason => k_is)
  (case xhdCSeason => k_is)
  (case xpoCSeason => k_is)
  (case xsaCSeason => k_is)
  (case xmkCSeason => k_is)
  (case xkpCSeason => k_is)
  (case xnSeason_on_land => k_is)
  (case xnSeason_own_decrees => k_is)
  (case xnSeason_open_names => k_is)
  (case xnSeason_wet_names => k_is)
  (case xnSeason_day_count => k_is)
  (case xnSeason_wet_counts => k_is)
  (case xma40 => k_is)
  (case xmi40 => k_is)
  (case xml40 => k_is)
  (case xmc40 => k_is)
  (case xmk40 => k_is)
  (case xma41 => k_is)
  (case xmi41 => k_is)
  (case xml41 => k_is)
  (case xmc41 => k_is)
  (case xmk41 => k_is)
  (case xma42 => k_is)
  (case xmi42 => k_is)
  (case xml42 => k_is)
  (case xmc42 => k_is)
  (case xmk42 => k_is)
  (case xma43 => k_is)
  (case xmi43 => k_is)
  (case xml43 => k_is)
  (case xmc43 => k_is)
  (case xmk43 => k_is)
  (case xma44 => k_is)
  (case xmi44 => k_is)
  (case xml44 => k_is)
  (case xmc44 => k_is)
  (case xmk44 => k_is)
  (case xma45 => k_is)
  (case xmi45 => k_is)
  (case xml45 => k_is)
  (case xmc45 => k_is)
  (case xmk45 => k_is)
  (case xma46 => k_is)
  (case xmi46 => k_is)
  (case xml46 => k_is)
  (case xmc46 => k_is)
  (case xmk46 => k_is)
  (case xma47 => k_is)
  (case xmi47 => k_is)
  (case xml47 => k_is)
  (case xmc47 => k_is)
  (case xmk47 => k_is)
  (case xxa_NoDecree => k_is)
  (case xxa_NoLevel => k_is)
  (case xxa_DykeError => k_is)
  (case xxq_NoDecree => k_exc)
  (case xxm_NoDecree => kts_exm)
  (case xxp_NoDecree => k_is)
  (case xxg_NoDecree => k_is)
  (case xxb_NoDecree => k_is)
  (case xxh_NoDecree => k_is)
  (case xxi_NoDecree => k_is)
  (case xxt_NoDecree => k_is)
  (case xxo_NoDecree => k_is)
  (case xxq_NoLevel => k_exc)
  (case xxm_NoLevel => kts_exm)
  (case xxp_NoLevel => k_is)
  (case xxg_NoLevel => k_is)
  (case xxb_NoLevel => k_is)
  (case xxh_NoLevel => k_is)
  (case xxi_NoLevel => k_is)
  (case xxt_NoLevel => k_is)
  (case xxo_NoLevel => k_is)
  (case xxz0 => kit_is)
  (case xxz1 => kit_is)
  (case xxz2 => kit_is)
  (case xxz3 => kit_is)
  (case xxz4 => kit_is)
  (case xxz5 => kit_is)
  (case xxz6 => kit_is)
  (case xxz7 => kit_is)
  (case xxz8 => kts_exm)
  (case xxz9 => kts_exm)
  (case xa0 => k_is)
  (case xl0 => k_is)
  (case xc0 => k_is)
  (case xk0 => k_is)
  (case xa1 => k_is)
  (case xl1 => k_is)
  (case xc1 => k_is)
  (case xk1 => k_is)
  (case xa2 => k_is)
  (case xl2 => k_is)
  (case xc2 => k_is)
  (case xk2 => k_is)
  (case xa3 => k_is)
  (case xl3 => k_is)
  (case xc3 => k_is)
  (case xk3 => k_is)
  (case xa4 => k_is)
  (case xl4 => k_is)
  (case xc4 => k_is)
  (case xk4 => k_is)
  (case xa5 => k_is)
  (case xl5 => k_is)
  (case xc5 => k_is)
  (case xk5 => k_is)
  (case xa6 => k_is)
  (case xl6 => k_is)
  (case xc6 => k_is)
  (case xk6 => k_is)
  (case xa7 => k_is)
  (case xl7 => k_is)
  (case xc7 => k_is)
  (case xk7 => k_is)
  (case xa8 => k_is)
  (case xl8 => k_is)
  (case xc8 => k_is)
  (case xk8 => k_is)
  (case xa9 => k_is)
  (case xl9 => k_is)
  (case xc9 => k_is)
  (case xk9 => k_is)
  (case xa10 => k_is)
  (case xl10 => k_is)
  (case xc10 => k_is)
  (case xk10 => k_is)
  (case xa11 => k_is)
  (case xl11 => k_is)
  (case xc11 => k_is)
  (case xk11 => k_is)
  (case xa12 => k_is)
  (case xl12 => k_is)
  (case xc12 => k_is)
  (case xk12 => k_is)
  (case xa13 => k_is)
  (case xl13 => k_is)
  (case xc13 => k_is)
  (case xk13 => k_is)
  (case xa14 => k_is)
  (case xl14 => k_is)
  (case xc14 => k_is)
  (case xk14 => k_is)
  (case xa15 => k_is)
  (case xl15 => k_is)
  (case xc15 => k_is)
  (case xk15 => k_is)
  (case xa16 => k_is)
  (case xl16 => k_is)
  (case xc16 => k_is)
  (case xk16 => k_is)
  (case xa17 => k_is)
  (case xl17 => k_is)
  (case xc17 => k_is)
  (case xk17 => k_is)
  (case xa18 => k_is)
  (case xl18 => k_is)
  (case xc18 => k_is)
  (case xk18 => k_is)
  (case xa19 => k_is)
  (case xl19 => k_is)
  (case xc19 => k_is)
  (case xk19 => k_is)
  (case xa20 => k_is)
  (case xl20 => k_is)
  (case xc20 => k_is)
  (case xk20 => k_is)
  (case xa21 => k_is)
  (case xl21 => k_is)
  (case xc21 => k_is)
  (case xk21 => k_is)
  (case xa22 => k_is)
  (case xl22 => k_is)
  (case xc22 => k_is)
  (case xk22 => k_is)
  (case xa23 => k_is)
  (case xl23 => k_is)
  (case xc23 => k_is)
  (case xk23 => k_is)
  (case xa24 => k_is)
  (case xl24 => k_is)
  (case xc24 => k_is)
  (case xk24 => k_is)
  (case xa25 => k_is)
  (case xl25 => k_is)
  (case xc25 => k_is)
  (case xk25 => k_is)
  (case xa26 => k_is)
  (case xl26 => k_is)
  (case xc26 => k_is)
  (case xk26 => k_is)
  (case xa27 => k_is)
  (case xl27 => k_is)
  (case xc27 => k_is)
  (case xk27 => k_is)
  (case xa28 => k_is)
  (case xl28 => k_is)
  (case xc28 => k_is)
  (case xk28 => k_is)
  (case xa29 => k_is)
  (case xl29 => k_is)
  (case xc29 => k_is)
  (case xk29 => k_is)
  (case xa30 => k_is)
  (case xl30 => k_is)
  (case xc30 => k_is)
  (case xk30 => k_is)
  (case xa31 => k_is)
  (case xl31 => k_is)
  (case xc31 => k_is)
  (case xk31 => k_is)
  (case xa32 => k_is)
  (case xl32 => k_is)
  (case xc32 => k_is)
  (case xk32 => k_is)
  (case xa33 => k_is)
  (case xl33 => k_is)
  (case xc33 => k_is)
  (case xk33 => k_is)
  (case xa34 => k_is)
  (case xl34 => k_is)
  (case xc34 => k_is)
  (case xk34 => k_is)
  (case xa35 => k_is)
  (case xl35 => k_is)
  (case xc35 => k_is)
  (case xk35 => k_is)
  (case xa36 => k_is)
  (case xl36 => k_is)
  (case xc36 => k_is)
  (case xk36 => k_is)
  (case xa37 => k_is)
  (case xl37 => k_is)
  (case xc37 => k_is)
  (case xk37 => k_is)
  (case xa38 => k_is)
  (case xl38 => k_is)
  (case xc38 => k_is)
  (case xk38 => k_is)
  (case xa39 => k_is)
  (case xl39 => k_is)
  (case xc39 => k_is)
  (case xk39 => k_is)
  (case xa40 => k_is)
  (case xl40 => k_is)
  (case xc40 => k_is)
  (case xk40 => k_is)
  (case xa41 => k_is)
  (case xl41 => k_is)
  (case xc41 => k_is)
  (case xk41 => k_is)
  (case xtg0 => k_is)
  (case xtl0 => k_is)
  (case xtv0 => repeat (first | exact .nil | refine .cons ⟨_, rfl⟩ ?_))
  (case xtz0 => decide)
  (case xtg1 => k_is)
  (case xtl1 => k_is)
  (case xtv1 => repeat (first | exact .nil | refine .cons ⟨_, rfl⟩ ?_))
  (case xtz1 => decide)
  (case xtg2 => k_is)
  (case xtl2 => k_is)
  (case xtv2 => repeat (first | exact .nil | refine .cons ⟨_, rfl⟩ ?_))
  (case xtz2 => decide)
  (case xg0 => k_is)
  (case xr0 => exact ⟨_, rfl⟩)
  (case xg1 => k_is)
  (case xr1 => exact ⟨_, rfl⟩)
  (case xg2 => k_is)
  (case xr2 => exact ⟨_, rfl⟩)
  (case xg3 => k_is)
  (case xr3 => exact ⟨_, rfl⟩)
  (case xg4 => k_is)
  (case xr4 => exact ⟨_, rfl⟩)
  (case xg5 => k_is)
  (case xr5 => exact ⟨_, rfl⟩)
  (case xg6 => k_is)
  (case xr6 => exact ⟨_, rfl⟩)
  (case xg7 => k_is)
  (case xr7 => exact ⟨_, rfl⟩)
  (case xg8 => k_is)
  (case xr8 => exact ⟨_, rfl⟩)
  (case xg9 => k_is)
  (case xr9 => exact ⟨_, rfl⟩)
  (case xz0 => k_is)
  (case xz1 => k_is)
  (case xz2 => k_is)
  (case xz3 => k_is)
  (case xz4 => k_is)
  (case xz5 => k_is)
  (case xz6 => k_is)
  (case xz7 => k_is)
  (case xz8 => k_is)
  (case xz9 => k_is)
  (case xz10 => k_is)
  (case xz11 => k_is)
  (case xz12 => k_is)
  (case xz13 => k_is)
