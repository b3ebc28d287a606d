import PyProof.Rows.All
import Wide.All
import OpenK.AllK
import Wide.FinOn
import Lean
import PyProof.EqAt
import PyProof.EqKinds
import PyProof.TupleCall
import PyProof.StrBlockI
import PyProof.SliceList
import PyProof.StrLawsIn
import PyProof.StrLaws
import PyProof.MaxThree
import PyProof.DictValues
import KE.KItemsList
import KE.KEqDict
import PyProof.DictItems
import PyProof.MeetsDictList
import PySem.Challenge.RW_dykemoot_k49_led_on
set_option Elab.async false
set_option linter.all false
set_option maxRecDepth 100000
namespace L2
open PySem PySem.Spec PyProof.Rows
abbrev Key:=Sum Int Str
def sR:Key → Value → Bool
 | .inl k,v=>Value.isInt k v
 | .inr x,v=>Value.isStrOf x v
def aPI (w:World):Key → Int
 | .inl k=>hashInt k
 | .inr x=>hashStr w x
theorem dM:∀ {k:Key} {v:Value},sR k v = true → (∃ i t,k = Sum.inl i ∧ v = Value.int i t) ∨ (∃ x t,k = Sum.inr x ∧ v = Value.str x t)
 | .inl i,v,h=>by
  obtain ⟨t,e⟩:=Value.isInt_shape (k:=i) (v:=v) h
  exact .inl ⟨i,t,rfl,e⟩
 | .inr x,v,h=>by
  obtain ⟨t,e⟩:=Value.isStrOf_shape (x:=x) (v:=v) h
  exact .inr ⟨x,t,rfl,e⟩
theorem sB (i:Int) (t:Tok):sR (.inl i) (.int i t) = true:=by simp [sR,Value.isInt]
theorem rZ (x:Str) (t:Tok):sR (.inr x) (.str x t) = true:=by simp [sR,Value.isStrOf]
theorem aMI (a b:Int):decide ((Sum.inl a:Key) = Sum.inl b) = (a == b):=by
 by_cases e:a = b
 ·subst e;simp
 ·have h:¬ (Sum.inl a:Key) = Sum.inl b:=fun q=>e (Sum.inl.inj q)
  rw [decide_eq_false h]
  exact (beq_eq_false_iff_ne.mpr e).symm
theorem aMF (a b:Str):decide ((Sum.inr a:Key) = Sum.inr b) = decide (a = b):=by
 by_cases e:a = b
 ·subst e;simp
 ·have h:¬ (Sum.inr a:Key) = Sum.inr b:=fun q=>e (Sum.inr.inj q)
  rw [decide_eq_false h,decide_eq_false e]
theorem aMH (a:Int) (b:Str):decide ((Sum.inl a:Key) = Sum.inr b) = false:=decide_eq_false (fun q=>nomatch q)
theorem aMG (a:Str) (b:Int):decide ((Sum.inr a:Key) = Sum.inl b) = false:=decide_eq_false (fun q=>nomatch q)
def bB (prog:Program) (w:World):PySem.KeyKind prog w Key where
 is:=sR
 hash:=aPI w
 inj:=fun v a b ha hb=>by
  rcases dM ha with ⟨i,t,rfl,rfl⟩ | ⟨x,t,rfl,rfl⟩
  ·rcases dM hb with ⟨j,u,rfl,e⟩ | ⟨y,u,rfl,e⟩
   ·injection e with e1 _;rw [e1]
   ·exact nomatch e
  ·rcases dM hb with ⟨j,u,rfl,e⟩ | ⟨y,u,rfl,e⟩
   ·exact nomatch e
   ·injection e with e1 _;rw [e1]
 byValue:=fun k v h=>by
  rcases dM h with ⟨i,t,rfl,rfl⟩ | ⟨x,t,rfl,rfl⟩ <;> rfl
 pyHash:=fun hv h=>by
  rcases dM hv with ⟨i,t,rfl,rfl⟩ | ⟨x,t,rfl,rfl⟩
  ·exact wpAny_pyHash_int h
  ·exact wpAny_pyHash_str h
 eqBool:=fun hu hv h=>by
  rcases dM hu with ⟨i,t,rfl,rfl⟩ | ⟨x,t,rfl,rfl⟩
  ·rcases dM hv with ⟨j,u,rfl,rfl⟩ | ⟨y,u,rfl,rfl⟩
   ·rw [aMI] at h;exact wpAny_eqBool_int h
   ·rw [aMH] at h;exact SeqAt.EqAt.int_str i t y u _ _ _ _ h
  ·rcases dM hv with ⟨j,u,rfl,rfl⟩ | ⟨y,u,rfl,rfl⟩
   ·rw [aMG] at h;exact SeqAt.EqAt.str_int x t j u _ _ _ _ h
   ·rw [aMF] at h;exact wpAny_eqBool_str h
 «strs»:=fun k x t v h=>by
  rcases dM h with ⟨i,u,rfl,e⟩ | ⟨y,u,rfl,e⟩
  ·exact nomatch e
  ·injection e with e1 _
   subst e1
   cases v <;> rfl
theorem aBT (prog:Program) (w:World) (i:Int) (t:Tok):(bB prog w).is (.inl i) (.int i t) = true:=sB i t
theorem aBS (prog:Program) (w:World) (x:Str) (t:Tok):(bB prog w).is (.inr x) (.str x t) = true:=rZ x t
end L2
namespace L2
open PySem PySem.Spec PyProof.Rows
inductive V where
 | non | bl (b:Bool) | int (i:Int) | str (x:Str) | byt (b:Array UInt8) | flt (b:UInt64) | ref (a:Addr) | ty (n:String)
 deriving DecidableEq
def bM:V → Value → Prop
 | .non,u=>u = Value.none
 | .bl b,u=>u = Value.bool b
 | .int i,u=>∃ t,u = Value.int i t
 | .str x,u=>∃ t,u = Value.str x t
 | .byt b,u=>∃ t,u = Value.bytes b t
 | .flt b,u=>∃ t,u = Value.float b t
 | .ref a,u=>u = Value.ref a
 | .ty n,u=>u = Value.type n
abbrev bS:List V → List Value → Prop:=Paired bM
theorem bS.length {xs:List V} {us:List Value} (r:bS xs us):xs.length = us.length:=Paired.length r
theorem bS.get:∀ {xs:List V} {us:List Value} {i:Nat} {x:V},bS xs us → xs[i]? = some x → ∃ u,us[i]? = some u ∧ bM x u
 | _,_,_,_,.nil,e=>by simp at e
 | _,_,0,_,.cons r _,e=>by simp at e;subst e;exact ⟨_,rfl,r⟩
 | _,_,i + 1,x,.cons _ t,e=>by
  obtain ⟨u,h1,h2⟩:=bS.get (i:=i) (x:=x) t (by simpa using e)
  exact ⟨u,by simpa using h1,h2⟩
theorem bS.append:∀ {xs ys:List V} {us ws:List Value},bS xs us → bS ys ws → bS (xs ++ ys) (us ++ ws)
 | _,_,_,_,.nil,s=>s
 | _,_,_,_,.cons r t,s=>.cons r (bS.append t s)
theorem bS.take:∀ {xs:List V} {us:List Value} (n:Nat),bS xs us → bS (xs.take n) (us.take n)
 | _,_,0,_=>.nil
 | _,_,_ + 1,.nil=>.nil
 | _,_,n + 1,.cons r t=>.cons r (bS.take n t)
theorem bS.drop:∀ {xs:List V} {us:List Value} (n:Nat),bS xs us → bS (xs.drop n) (us.drop n)
 | _,_,0,r=>r
 | _,_,_ + 1,.nil=>.nil
 | _,_,n + 1,.cons _ t=>bS.drop n t
def oG:Option V → Option Value → Prop
 | some v,some u=>bM v u
 | none,none=>True
 | _,_=>False
def KV {κ:Type}:List (κ × V) → List (κ × Value) → Prop:=Paired fun (p:κ × V) (q:κ × Value)=>p.1 = q.1 ∧ bM p.2 q.2
def kV:Key → V
 | .inl i=>.int i
 | .inr x=>.str x
inductive HO where
 /-- a list -/
 | lst (xs:List V)
 /-- a tuple (never changes) -/
 | tup (xs:List V)
 /-- a dict whose keys are ints and texts;one whose keys are tuples of ints and texts (the empty one is both) -/
 | dK (kvs:List (Key × V)) | dT (kvs:List (List Key × V))
 /-- a set of ints: its members,its size -/
 | set (S:Int → Bool) (n:Nat)
 /-- an instance of the class at C,its dict at dx,its attributes -/
 | ins (C dx:Addr) (fs:List (Str × V))
 /-- the dict of the instance at x -/
 | own (x:Addr)
 /-- the dict of an exception -/
 | xd (fs:List (Str × V))
 /-- a bound method,f of x -/
 | met (f x:Addr)
 /-- a range object lo,lo + 1,.. below hi -/
 | rng (lo hi:Int)
 /-- a thing that is known to the object (the script;a dict while a loop walks it): read,never written while it is so -/
 | frz (o:Obj) (u:HO)
 /-- a aOO object's table -/
 | tbl (ps:Array Value)
 /-- any other thing,by what is true of its one object (a def of one's own: aGL a S n:=HO.ext fun h=>..) -/
 | ext (φ:Heap → Prop)
abbrev Hp:=Addr → Option HO
def upd (H:Hp) (a:Addr) (o:HO):Hp:=fun b=>if b = a then some o else H b
theorem aB {H:Hp} {a:Addr} {o:HO}:upd H a o a = some o:=by unfold upd;rw [if_pos rfl]
theorem aP {H:Hp} {a b:Addr} {o:HO} (h:b ≠ a):upd H a o b = H b:=by unfold upd;rw [if_neg h]
theorem aJO {H:Hp} {a:Addr} {o u:HO}:upd (upd H a o) a u = upd H a u:=by
 funext b;unfold upd;split <;> rfl
theorem aET {H:Hp} {a b:Addr} {o u:HO} (h:H a = some o) (h':H b = some u) (d:o ≠ u):a ≠ b:=by
 intro e;subst e;rw [h] at h';exact d (Option.some.inj h')
theorem aL {H:Hp} {a b:Addr} {o:HO} (h:H a = some o) (h':H b = none):a ≠ b:=by
 intro e;subst e;rw [h] at h';cases h'
def qP (h:Heap) (a:Addr) (its:Array Value):Prop:=∃ o,h.get? a = some o ∧ o.cls = .type "tuple" ∧ ∃ n,o.data = .seq its n ∧ o.dict = none
theorem qP.tup {h:Heap} {a:Addr} {its:Array Value} (x:qP h a its):IsTup h a its:=by
 obtain ⟨o,e,c,n,d,_⟩:=x
 exact ⟨o,e,c,n,d⟩
theorem qP.new (h:Heap) (its:Array Value):qP (h.push { cls:=.type "tuple",data:=.seq its }) h.objs.size its:=⟨_,Heap.get?_push_size _ rfl,rfl,_,rfl,rfl⟩
section
variable (P:Program) (w:World)
def cW (H:Hp) (h:Heap) (a:Addr):HO → Prop
 | .lst xs=>xs.length ≤ sizeLine ∧ ∃ (its:List Value) (n:Nat),bS xs its ∧ h.get? a = some { cls:=.type "list",data:=.seq its.toArray n }
 | .tup xs=>xs.length ≤ sizeLine ∧ ∃ its:List Value,bS xs its ∧ qP h a its.toArray
 | .dK kvs=>kvs.length ≤ sizeLine ∧ (a == sysModules) = false ∧ ∃ vs,KV kvs vs ∧ h.DictOf (bB P w) a vs
 | .dT kvs=>kvs.length ≤ sizeLine ∧ (a == sysModules) = false ∧ ∃ xs:List (List Key × Addr × Value),
   Paired (fun (p:List Key × V) (q:List Key × Addr × Value)=>p.1 = q.1 ∧ H q.2.1 = some (.tup (p.1.map kV)) ∧ bM p.2 q.2.2) kvs xs ∧
   ∃ o es ep,h.get? a = some o ∧ o.ExactDict ∧ o.data = .dict es ep ∧ es.toList = xs.map (entryOfKey (tupleKind (bB P w))) ∧ (xs.map (·.1)).Nodup
 | .set S n=>h.SetOf (intKind P w) a S n
 | .ins C dx fs=>H dx = some (.own a) ∧ fs.length ≤ 1000 ∧ dx ≠ a ∧ h.get? a = some (PySem.W.instObj C dx) ∧
   ∃ mA,h.Ns1 dx mA ∧ (∀ f,oG (fs.lookup f) (mA f)) ∧ PySem.Within mA (fs.map (·.1))
 | .own _=>∃ o,h.get? a = some o
 | .xd fs=>∃ mA,h.Ns1 a mA ∧ ∀ f,oG (fs.lookup f) (mA f)
 | .rng lo hi=>∃ t u v,h.get? a = some { cls:=.type "range",data:=.fields #[.int lo t,.int hi u,.int 1 v] }
 | .frz o u=>h.get? a = some o ∧ cW H h a u
 | .tbl ps=>h.get? a = some { cls:=.none,data:=.fields ps }
 | .met f x=>h.get? a = some (PySem.W.methodObj (.ref f) (.ref x))
 | .ext φ=>φ h ∧ (∃ o,h.get? a = some o) ∧ ∀ h1 h2:Heap,φ h1 → (∀ o,h1.get? a = some o → h2.get? a = some o) → φ h2
def HOk (H:Hp) (h:Heap):Prop:=∀ a o,H a = some o → cW P w H h a o
end
section
variable {P:Program} {w:World} {H H':Hp} {h h':Heap} {a:Addr} {o:HO}
theorem cW.lt (x:cW P w H h a o):a < h.objs.size:=by
 cases o with
 | lst xs=>obtain ⟨_,_,_,_,e⟩:=x;exact Heap.lt_size e
 | tup xs=>obtain ⟨_,_,_,_,e,_⟩:=x;exact Heap.lt_size e
 | dK kvs=>obtain ⟨_,_,_,_,o,_,_,e,_⟩:=x;exact Heap.lt_size e
 | dT kvs=>obtain ⟨_,_,_,_,o,_,_,e,_⟩:=x;exact Heap.lt_size e
 | set S n=>obtain ⟨o,_,_,_,e,_⟩:=x;exact Heap.lt_size e
 | ins C dx fs=>obtain ⟨_,_,_,e,_⟩:=x;exact Heap.lt_size e
 | own y=>obtain ⟨_,e⟩:=x;exact Heap.lt_size e
 | xd fs=>obtain ⟨_,⟨_,_,_,e,_⟩,_⟩:=x;exact Heap.lt_size e
 | rng lo hi=>obtain ⟨_,_,_,e⟩:=x;exact Heap.lt_size e
 | frz ob u=>obtain ⟨e,_⟩:=x;exact Heap.lt_size e
 | tbl ps=>exact Heap.lt_size (show h.get? a = some _ from x)
 | met f y=>exact Heap.lt_size (show h.get? a = some _ from x)
 | ext φ=>obtain ⟨_,⟨_,e⟩,_⟩:=x;exact Heap.lt_size e
theorem Paired.mapP {α β:Type} {F G:α → β → Prop}:∀ {l₁:List α} {l₂:List β},Paired F l₁ l₂ → (∀ a b,F a b → G a b) → Paired G l₁ l₂
 | _,_,.nil,_=>.nil
 | _,_,.cons r t,f=>.cons (f _ _ r) (Paired.mapP t f)
theorem cW.stay (x:cW P w H h a o) (k:∀ b u,(b = a ∨ H b = some (.own a)) → h.get? b = some u → h'.get? b = some u)
  (ho:∀ b,H b = some (.own a) → H' b = some (.own a)) (ht:∀ b xs,H b = some (.tup xs) → H' b = some (.tup xs)):cW P w H' h' a o:=by
 induction o with
 | lst xs=>obtain ⟨z,its,n,r,e⟩:=x;exact ⟨z,its,n,r,k _ _ (.inl rfl) e⟩
 | tup xs=>obtain ⟨z,its,r,ob,e,c⟩:=x;exact ⟨z,its,r,ob,k _ _ (.inl rfl) e,c⟩
 | dK kvs=>obtain ⟨z,y,vs,r,ob,es,ep,e,c⟩:=x;exact ⟨z,y,vs,r,ob,es,ep,k _ _ (.inl rfl) e,c⟩
 | dT kvs =>
  obtain ⟨z,y,xs,r,ob,es,ep,e,c⟩:=x
  exact ⟨z,y,xs,Paired.mapP r fun p q z=>⟨z.1,ht _ _ z.2.1,z.2.2⟩,ob,es,ep,k _ _ (.inl rfl) e,c⟩
 | set S n=>obtain ⟨ob,es,ep,t,e,c⟩:=x;exact ⟨ob,es,ep,t,k _ _ (.inl rfl) e,c⟩
 | ins C dx fs =>
  obtain ⟨d,z,ne,e,mA,⟨od,es,ep,e2,c⟩,r⟩:=x
  exact ⟨ho _ d,z,ne,k _ _ (.inl rfl) e,mA,⟨od,es,ep,k _ _ (.inr d) e2,c⟩,r⟩
 | own y=>obtain ⟨ob,e⟩:=x;exact ⟨ob,k _ _ (.inl rfl) e⟩
 | xd fs=>obtain ⟨mA,⟨od,es,ep,e,c⟩,r⟩:=x;exact ⟨mA,⟨od,es,ep,k _ _ (.inl rfl) e,c⟩,r⟩
 | rng lo hi=>obtain ⟨t,u,v,e⟩:=x;exact ⟨t,u,v,k _ _ (.inl rfl) e⟩
 | frz ob u ih=>obtain ⟨e,q⟩:=x;exact ⟨k _ _ (.inl rfl) e,ih q⟩
 | tbl ps =>
  have e:h.get? a = some { cls:=.none,data:=.fields ps }:=x
  show h'.get? a = some { cls:=.none,data:=.fields ps }
  exact k a _ (.inl rfl) e
 | met f y =>
  have e:h.get? a = some (PySem.W.methodObj (.ref f) (.ref y)):=x
  show h'.get? a = some (PySem.W.methodObj (.ref f) (.ref y))
  exact k a _ (.inl rfl) e
 | ext φ=>obtain ⟨p,⟨o,e⟩,st⟩:=x;exact ⟨st _ _ p fun o q=>k _ _ (.inl rfl) q,⟨o,k _ _ (.inl rfl) e⟩,st⟩
theorem HOk.lt (x:HOk P w H h) (e:H a = some o):a < h.objs.size:=(x a o e).lt
theorem HOk.fresh (x:HOk P w H h) (e:h.objs.size ≤ a):H a = none:=by
 cases q:H a with
 | none=>rfl
 | some u=>exact absurd (Nat.lt_of_lt_of_le (x.lt q) e) (Nat.lt_irrefl _)
theorem HOk.kept (x:HOk P w H h) (k:∀ b u,h.get? b = some u → h'.get? b = some u):HOk P w H h':=fun a o e =>
 (x a o e).stay (fun b u _ q=>k b u q) (fun _ q=>q) fun _ _ q=>q
theorem HOk.laid (x:HOk P w H h) (k:∀ b u,h.get? b = some u → h'.get? b = some u) (hp:h.objs.size ≤ a) (new:cW P w (upd H a o) h' a o):HOk P w (upd H a o) h':=fun b u e=>by
 have hn:=x.fresh hp
 by_cases hb:b = a
 ·subst hb;rw [aB] at e;cases e;exact new
 ·rw [aP hb] at e
  exact (x b u e).stay (fun c v _ q=>k c v q) (fun c q=>by rw [aP (aL q hn)];exact q) fun c xs q=>by rw [aP (aL q hn)];exact q
end
def Rd (H:Hp) (a:Addr) (u:HO):Prop:=H a = some u ∨ ∃ o,H a = some (.frz o u)
theorem Rd.ok {P:Program} {w:World} {H:Hp} {h:Heap} {a:Addr} {u:HO} (r:Rd H a u) (x:HOk P w H h):cW P w H h a u:=by
 rcases r with r | ⟨o,r⟩
 ·exact x a u r
 ·obtain ⟨_,q⟩:=x a _ r
  exact q
def Mut:Option HO → Prop
 | some (.lst _)=>True
 | some (.dK _)=>True
 | some (.dT _)=>True
 | some (.set _ _)=>True
 | some (.ins _ _ _)=>True
 | some (.ext _)=>True
 | _=>False
section
variable {P:Program} {w:World} {H:Hp} {h h':Heap} {x e:Addr} {o':HO}
theorem HOk.write (ok:HOk P w H h) (mu:Mut (H x)) (he:e = x ∨ H e = some (.own x)) (k:∀ b u,b ≠ e → h.get? b = some u → h'.get? b = some u) (heo:∃ u,h'.get? e = some u)
  (new:cW P w (upd H x o') h' x o'):HOk P w (upd H x o') h':=fun b u q=>by
 have nown:∀ c y,H c = some (.own y) → c ≠ x:=fun c y r z=>by subst z;rw [r] at mu;exact mu
 have ntup:∀ c xs,H c = some (.tup xs) → c ≠ x:=fun c xs r z=>by subst z;rw [r] at mu;exact mu
 by_cases hb:b = x
 ·subst hb;rw [aB] at q;cases q;exact new
 ·rw [aP hb] at q
  by_cases hbe:b = e
  ·have q':H b = some (.own x):=by
    rcases he with z | z
    ·exact absurd (hbe.trans z) hb
    ·rw [hbe];exact z
   rw [q] at q';cases q'
   obtain ⟨v,hv⟩:=heo
   exact ⟨v,by rw [hbe];exact hv⟩
  ·refine (ok b u q).stay (fun c v hc r=>k c v ?_ r) (fun c r=>by rw [aP (nown c b r)];exact r) fun c xs r=>by rw [aP (ntup c xs r)];exact r
   rcases hc with rfl | hc
   ·exact hbe
   ·rintro rfl
    rcases he with z | z
    ·exact nown c b hc z
    ·rw [hc] at z;cases z;exact hb rfl
end
structure Un (fs ex:List Addr) (H H':Hp) (h h':Heap):Prop where
 keep:∀ b o,h.get? b = some o → H b = none → b ∉ fs → b ∉ ex → h'.get? b = some o
 slot:∀ b o,h.get? b = some o → H b = none → b ∈ fs → b ∉ ex → ∃ sl,h'.get? b = some { o with slots:=sl }
 free:∀ b o,h.get? b = some o → H b = none → b ∉ ex → H' b = none
 there:∀ b o,h.get? b = some o → b ∉ ex → ∃ o',h'.get? b = some o'
 tups:∀ b xs,H b = some (.tup xs) → H' b = some (.tup xs)
 frzs:∀ b o u,H b = some (.frz o u) → H' b = some (.frz o u)
 tbls:∀ b ps,H b = some (.tbl ps) → ∃ more,H' b = some (.tbl (ps ++ more))
section
variable {fs fs' ex ex':List Addr} {H H1 H2:Hp} {h h1 h2 h':Heap} {a x e:Addr} {o:HO}
theorem Un.any (u:Un fs ex H H1 h h1) {b:Addr} {ob:Obj} (q:h.get? b = some ob) (n:H b = none) (hx:b ∉ ex):∃ sl,h1.get? b = some { ob with slots:=sl }:=by
 by_cases hb:b ∈ fs
 ·exact u.slot b ob q n hb hx
 ·exact ⟨ob.slots,u.keep b ob q n hb hx⟩
theorem Un.kept (k:∀ b u,h.get? b = some u → h'.get? b = some u):Un fs ex H H h h' :=
 ⟨fun b ob q _ _ _=>k b ob q,fun b ob q _ _ _=>⟨ob.slots,k b ob q⟩,fun _ _ _ n _=>n,fun b ob q _=>⟨ob,k b ob q⟩,fun _ _ q=>q,fun _ _ _ q=>q,fun _ ps q=>⟨#[],by rw [q];simp⟩⟩
theorem Un.refl:Un fs ex H H h h:=Un.kept fun _ _ q=>q
theorem Un.laid (k:∀ b u,h.get? b = some u → h'.get? b = some u) (hp:h.objs.size ≤ a) (hn:H a = none):Un fs ex H (upd H a o) h h' where
 keep:=fun b u q _ _ _=>k b u q
 slot:=fun b u q _ _ _=>⟨u.slots,k b u q⟩
 free:=fun b u q n _=>by rw [aP (Nat.ne_of_lt (Nat.lt_of_lt_of_le (Heap.lt_size q) hp))];exact n
 there:=fun b u q _=>⟨u,k b u q⟩
 tups:=fun b xs q=>by rw [aP (aL q hn)];exact q
 frzs:=fun b u xs q=>by rw [aP (aL q hn)];exact q
 tbls:=fun b ps q=>⟨#[],by rw [aP (aL q hn),q];simp⟩
theorem Un.write (mu:Mut (H x)) (he:e = x ∨ H e = some (.own x)) (k:∀ b u,b ≠ e → h.get? b = some u → h'.get? b = some u) (heo:∃ u,h'.get? e = some u):Un fs ex H (upd H x o) h h':=by
 have hx:∀ b,H b = none → b ≠ x:=fun b n z=>by subst z;rw [n] at mu;exact mu
 have hb:∀ b,H b = none → b ≠ e:=fun b n z=>by
  subst z
  rcases he with r | r
  ·exact hx b n r
  ·rw [n] at r;cases r
 have hm:∀ b u,H b = some u → ¬ Mut (some u) → b ≠ x:=fun b u q nm z=>by subst z;rw [q] at mu;exact nm mu
 refine ⟨fun b u q n _ _=>k b u (hb b n) q,fun b u q n _ _=>⟨u.slots,k b u (hb b n) q⟩,fun b u q n _=>by rw [aP (hx b n)];exact n,fun b u q _=>?_,
  fun b xs q=>by rw [aP (hm b _ q fun z=>z)];exact q,fun b u xs q=>by rw [aP (hm b _ q fun z=>z)];exact q,fun b ps q=>⟨#[],by rw [aP (hm b _ q fun z=>z),q];simp⟩⟩
 by_cases hbe:b = e
 ·subst hbe;exact heo
 ·exact ⟨u,k b u hbe q⟩
end
def trk (h:Heap) (H:Hp):List Addr:=(List.range h.objs.size).filter fun a=>(H a).isSome
def zQ (h:Heap) (H:Hp):Heap:=PySem.W.hideAll h (trk h H)
theorem aFZ (h:Heap) (H:Hp):(zQ h H).objs.size = h.objs.size:=PySem.W.hideAll_size _ _
theorem aIR {h:Heap} {H:Hp} {b:Addr} {o:Obj} (e:h.get? b = some o) (n:H b = none):(zQ h H).get? b = some o :=
 PySem.W.hideAll_get _ e fun hm=>by
  have q:(H b).isSome = true:=(List.mem_filter.mp hm).2
  rw [n] at q;simp at q
theorem aKD {h:Heap} {H:Hp} {b:Addr} {o:Obj} (e:(zQ h H).get? b = some o):h.get? b = some o ∧ H b = none:=by
 have e':h.get? b = some o:=PySem.W.of_hideAll (trk h H) e
 refine ⟨e',?_⟩
 cases q:H b with
 | none=>rfl
 | some x =>
  have hm:b ∈ trk h H:=List.mem_filter.mpr ⟨List.mem_range.mpr (Heap.lt_size e'),by simp [q]⟩
  have z:(zQ h H).get? b = none:=PySem.W.hideAll_none (trk h H) hm
  rw [z] at e;cases e
def aKS (g h:Heap) (L:Addr):List (Addr × Obj):=(List.range h.objs.size).filterMap fun a=>if a = L ∨ (g.get? a).isSome = true then none else (h.get? a).map fun o=>(a,o)
def tL (g h:Heap) (L d:Addr):List (Addr × Obj):=(aKS g h L).filter fun p=>decide (p.1 ≠ d)
end L2
namespace L2
open PySem PySem.Spec PyProof.Rows
structure Mod (K:PySem.W.Frag) (mg:Str → Option Value) (base:Heap):Prop where
 kin:K.In base
 glob:base.Ns mainGlobals mg
 blt:∃ mb,base.Ns builtinsNs mb ∧ ∀ x:Str,x ≠ "__name__" → mb x = bootBuiltins x
 nolimit:base.NoLimit
structure Cx where
 prog:Program
 w:World
 K:PySem.W.Frag
 mg:Str → Option Value
 base:Heap
 A:Around
 N:List Str
 s₀:Shared
 H₀:Hp
 env:Env
 outer:List Env
 stack:List Env
 ex:List Addr
 fn:Str → Bool
 calm:Bool
 pn:List (Addr × Obj)
 xe:Value → Shared → Prop
def frs (l:List Env):List Addr:=l.filterMap (·.frame)
abbrev Cx.fs (X:Cx):List Addr:=frs X.outer
def Vis (sc:Scope) (x:Str):Prop:=sc.names.lookup x = some .local ∨ sc.names.lookup x = some .cell ∨ sc.names.lookup x = some .free
def Loc (sc:Scope) (x:Str):Prop:=sc.names.lookup x = some .local ∨ sc.names.lookup x = some .cell
def aPR (env:Env) (h:Heap) (m:Str → Option Value) (x:Str) (u:Value):Prop :=
 (env.kindOf x = some .local ∧ m x = some u) ∨ ((env.kindOf x = some .cell ∨ env.kindOf x = some .free) ∧ ∃ c,env.cells.lookup x = some c ∧ h.IsCell c (some u))
structure Cx.Ok (X:Cx):Prop where
 mod:Mod X.K X.mg X.base
 kind:X.env.scope.kind = .function
 glob:X.env.globals = mainGlobals
 blt:X.env.builtins = builtinsNs
 above:X.s₀.heap.objs.size ≤ X.env.locals
 inj:∀ x y c,X.env.cells.lookup x = some c → X.env.cells.lookup y = some c → x = y
 has:∀ x,(X.env.kindOf x = some .cell ∨ X.env.kindOf x = some .free) → ∃ c,X.env.cells.lookup x = some c
 cab:∀ x c,X.fn x = true → X.env.cells.lookup x = some c → X.s₀.heap.objs.size ≤ c
 hd:X.calm = true → X.A.handled = none
 frames:X.A.frames = some X.stack
 stk:X.stack = X.outer ∨ (X.stack = X.env :: X.outer ∧ X.env.frame = some X.env.locals)
 exf:∀ b ∈ X.ex,b ≠ X.env.locals ∧ ∀ x c,X.env.cells.lookup x = some c → c ≠ b
 bs:∀ b o,X.base.get? b = some o → X.s₀.heap.get? b = some o ∧ X.H₀ b = none
 bsz:X.base.objs.size ≤ X.s₀.heap.objs.size
 noex:∀ b o,X.base.get? b = some o → b ∉ X.ex
 exfs:∀ b ∈ X.ex,b ∉ X.fs
 funs:X.s₀.heap.FunFrames X.base X.outer
 frf:∀ b ∈ X.fs,X.H₀ b = none
structure Inv (X:Cx) (pins:List (Addr × Obj)) (σ:List (Option V)) (H:Hp) (s:Shared):Prop where
 ok:X.Ok
 os:s.os = X.s₀.os
 bare:AllBare s.gens
 base:Un X.fs X.ex X.H₀ H X.s₀.heap s.heap
 loc:∃ m,s.heap.Ns X.env.locals m ∧ ∀ (i:Nat) (x:Str) (v:V),X.N[i]? = some x → σ[i]? = some (some v) → Vis X.env.scope x → ∃ u,bM v u ∧ aPR X.env s.heap m x u
 cell:∀ x c,X.env.cells.lookup x = some c → ∃ v,s.heap.IsCell c v
 free:H X.env.locals = none
 freeC:∀ x c,X.env.cells.lookup x = some c → H c = none
 pin:∀ p ∈ X.pn ++ pins,s.heap.get? p.1 = some p.2 ∧ H p.1 = none ∧ p.1 ≠ X.env.locals ∧ p.1 ∉ X.fs ∧ ∀ v,p.2.data ≠ .cell v
 hok:HOk X.prog X.w H s.heap
 len:σ.length = X.N.length
section
variable {X:Cx} {pins:List (Addr × Obj)} {σ:List (Option V)} {H H':Hp} {s:Shared} {h':Heap}
theorem Cx.Ok.nofr (ok:X.Ok) {b:Addr} {o:Obj} (e:X.base.get? b = some o):b ∉ X.fs:=fun hb=>by
 have:=(ok.funs.mem hb).1
 rw [e] at this;cases this
theorem Inv.bs (I:Inv X pins σ H s):∀ b o,X.base.get? b = some o → s.heap.get? b = some o ∧ H b = none:=fun b o e =>
 ⟨I.base.keep b o (I.ok.bs b o e).1 (I.ok.bs b o e).2 (I.ok.nofr e) (I.ok.noex b o e),I.base.free b o (I.ok.bs b o e).1 (I.ok.bs b o e).2 (I.ok.noex b o e)⟩
theorem Inv.bk (I:Inv X pins σ H s):∀ b o,X.base.get? b = some o → s.heap.get? b = some o:=fun b o e=>(I.bs b o e).1
theorem Inv.mod (I:Inv X pins σ H s):Mod X.K X.mg X.base:=I.ok.mod
theorem Inv.kIn (I:Inv X pins σ H s):X.K.In s.heap:=I.ok.mod.kin.keeps I.bk
theorem Inv.fr (I:Inv X pins σ H s):∃ m,Fr X.base X.env.locals s.heap m :=
 let ⟨m,hn,_⟩:=I.loc
 ⟨m,hn,I.bk,Nat.le_trans I.ok.bsz I.ok.above⟩
theorem Inv.lt (I:Inv X pins σ H s):X.env.locals < s.heap.objs.size:=let ⟨_,hn,_⟩:=I.loc;hn.lt
theorem Inv.sz (I:Inv X pins σ H s):X.s₀.heap.objs.size ≤ s.heap.objs.size:=Nat.le_trans I.ok.above (Nat.le_of_lt I.lt)
theorem Inv.nofs (I:Inv X pins σ H s) {a:Addr} (h:s.heap.objs.size ≤ a):a ∉ X.fs:=fun hb=>by
 obtain ⟨_,o,ho,_⟩:=I.ok.funs.mem hb
 exact absurd (Nat.lt_of_lt_of_le (Heap.lt_size ho) (Nat.le_trans I.sz h)) (Nat.lt_irrefl _)
theorem Inv.cne (I:Inv X pins σ H s):∀ x c,X.env.cells.lookup x = some c → c ≠ X.env.locals:=fun x c e z=>by
 obtain ⟨v,o,ho,hd⟩:=I.cell x c e
 obtain ⟨m,⟨o',es,ep,ho',hd',_⟩,_⟩:=I.loc
 rw [z,ho'] at ho;cases ho;rw [hd'] at hd;cases hd
theorem Inv.funs (I:Inv X pins σ H s):s.heap.FunFrames X.base X.outer:=by
 have all:∀ (l:List Env),(∀ b ∈ frs l,b ∈ X.fs) → X.s₀.heap.FunFrames X.base l → s.heap.FunFrames X.base l:=by
  intro l
  induction l with
  | nil=>intro _ _;trivial
  | cons env r ih =>
   intro hs hl
   obtain ⟨hk,⟨L,o,hf,hn,ho,hd⟩,hr⟩:=hl
   have hL:L ∈ X.fs:=hs L (by unfold frs;rw [List.filterMap_cons,hf];exact List.mem_cons_self)
   obtain ⟨sl,e⟩:=I.base.slot L o ho (I.ok.frf L hL) hL fun z=>I.ok.exfs L z hL
   exact ⟨hk,⟨L,_,hf,hn,e,hd⟩,ih (fun b hb=>hs b (by unfold frs;rw [List.filterMap_cons,hf];exact List.mem_cons_of_mem _ hb)) hr⟩
 exact all X.outer (fun _ hb=>hb) I.ok.funs
theorem Inv.stack (I:Inv X pins σ H s):s.heap.FunFrames X.base X.stack:=by
 rcases I.ok.stk with e | ⟨e,hf⟩
 ·rw [e];exact I.funs
 ·rw [e]
  obtain ⟨m,hn,_⟩:=I.loc
  refine .cons (by rw [I.ok.kind];decide) hf hn ?_ I.funs
  exact Heap.get?_none_of_le (Nat.le_trans I.ok.bsz I.ok.above)
theorem Inv.stkSub (I:Inv X pins σ H s):∀ b ∈ frs X.stack,b ∈ X.env.locals :: X.fs:=fun b hb=>by
 rcases I.ok.stk with e | ⟨e,hf⟩
 ·rw [e] at hb;exact List.mem_cons_of_mem _ hb
 ·rw [e] at hb
  unfold frs at hb
  rw [List.filterMap_cons,hf] at hb
  exact hb
theorem Inv.stkFree (I:Inv X pins σ H s):∀ b ∈ frs X.stack,H b = none:=fun b hb=>by
 rcases List.mem_cons.mp (I.stkSub b hb) with e | hb
 ·rw [e];exact I.free
 ·obtain ⟨_,o,ho,_⟩:=I.ok.funs.mem hb
  exact I.base.free b o ho (I.ok.frf b hb) fun z=>I.ok.exfs b z hb
theorem Inv.step {g':Array GenState} {t':Nat} {d':Drawn} {ch:List Addr} (I:Inv X pins σ H s)
  (hch:∀ b ∈ ch,(b ∈ X.ex ∨ X.s₀.heap.objs.size ≤ b) ∧ b ≠ X.env.locals ∧ (∀ x c,X.env.cells.lookup x = some c → c ≠ b) ∧ ∀ p ∈ X.pn ++ pins,p.1 ≠ b)
  (keep:∀ b o,b ≠ X.env.locals → b ∉ X.fs → b ∉ ch → s.heap.get? b = some o → H b = none → h'.get? b = some o)
  (slot:∀ b o,b ≠ X.env.locals → b ∈ X.fs → b ∉ ch → s.heap.get? b = some o → H b = none → ∃ sl,h'.get? b = some { o with slots:=sl }) (free:∀ b o,b ∉ ch → s.heap.get? b = some o → H b = none → H' b = none)
  (there:∀ b o,b ∉ ch → s.heap.get? b = some o → ∃ o',h'.get? b = some o')
  (tups:∀ b xs,H b = some (.tup xs) → H' b = some (.tup xs)) (frzs:∀ b o u,H b = some (.frz o u) → H' b = some (.frz o u)) (tbls:∀ b ps,H b = some (.tbl ps) → ∃ more,H' b = some (.tbl (ps ++ more)))
  (ns:∀ m,s.heap.Ns X.env.locals m → h'.Ns X.env.locals m) (hok:HOk X.prog X.w H' h') (hg:AllBare g') :
  Inv X pins σ H' { s with heap:=h',gens:=g',drawn:=d',toks:=t' }:=by
 have neL:∀ b o,X.s₀.heap.get? b = some o → b ≠ X.env.locals:=fun b o e=>Nat.ne_of_lt (Nat.lt_of_lt_of_le (Heap.lt_size e) I.ok.above)
 have neC:∀ b o,X.s₀.heap.get? b = some o → b ∉ X.ex → b ∉ ch:=fun b o e hx hb=>by
  rcases (hch b hb).1 with z | z
  ·exact hx z
  ·exact absurd (Nat.lt_of_lt_of_le (Heap.lt_size e) z) (Nat.lt_irrefl _)
 have cellK:∀ x c,X.env.cells.lookup x = some c → ∀ v,s.heap.IsCell c v → h'.IsCell c v:=fun x c e v ⟨o,ho,hd⟩=>by
  have nch:c ∉ ch:=fun z=>(hch c z).2.2.1 x c e rfl
  by_cases hc:c ∈ X.fs
  ·obtain ⟨sl,q⟩:=slot c o (I.cne x c e) hc nch ho (I.freeC x c e)
   exact ⟨_,q,hd⟩
  ·exact ⟨o,keep c o (I.cne x c e) hc nch ho (I.freeC x c e),hd⟩
 refine ⟨I.ok,I.os,hg,⟨fun b o e n hb hx=>?_,fun b o e n hb hx=>?_,fun b o e n hx=>?_,fun b o e hx=>?_,fun b xs e=>tups b xs (I.base.tups b xs e),fun b o xs e=>frzs b o xs (I.base.frzs b o xs e),fun b ps e=>?_⟩,?_,fun x c e=>?_,?_,fun x c e=>?_,fun p hp=>?_,hok,I.len⟩
 ·exact keep b o (neL b o e) hb (neC b o e hx) (I.base.keep b o e n hb hx) (I.base.free b o e n hx)
 ·obtain ⟨sl,e1⟩:=I.base.slot b o e n hb hx
  obtain ⟨sl',e2⟩:=slot b _ (neL b o e) hb (neC b o e hx) e1 (I.base.free b o e n hx)
  exact ⟨sl',e2⟩
 ·obtain ⟨o',e1⟩:=I.base.there b o e hx
  exact free b o' (neC b o e hx) e1 (I.base.free b o e n hx)
 ·obtain ⟨o',e1⟩:=I.base.there b o e hx
  exact there b o' (neC b o e hx) e1
 ·obtain ⟨m1,e1⟩:=I.base.tbls b ps e
  obtain ⟨m2,e2⟩:=tbls b _ e1
  exact ⟨m1 ++ m2,by rw [e2,Array.append_assoc]⟩
 ·obtain ⟨m,hn,hl⟩:=I.loc
  refine ⟨m,ns m hn,fun i x v e1 e2 e3=>?_⟩
  obtain ⟨u,r,l⟩:=hl i x v e1 e2 e3
  refine ⟨u,r,?_⟩
  rcases l with l | ⟨k,c,e,z⟩
  ·exact .inl l
  ·exact .inr ⟨k,c,e,cellK x c e _ z⟩
 ·obtain ⟨v,z⟩:=I.cell x c e
  exact ⟨v,cellK x c e v z⟩
 ·obtain ⟨m,⟨o,_,_,ho,_⟩,_⟩:=I.loc
  exact free _ o (fun z=>(hch _ z).2.1 rfl) ho I.free
 ·obtain ⟨v,o,ho,hd⟩:=I.cell x c e
  exact free c o (fun z=>(hch c z).2.2.1 x c e rfl) ho (I.freeC x c e)
 ·obtain ⟨e,n,ne,nf,d⟩:=I.pin p hp
  have nch:p.1 ∉ ch:=fun z=>(hch p.1 z).2.2.2 p hp rfl
  exact ⟨keep p.1 p.2 ne nf nch e n,free p.1 p.2 nch e n,ne,nf,d⟩
theorem Inv.un {t':Nat} (I:Inv X pins σ H s) (u:Un X.fs [] H H' s.heap h') (hok:HOk X.prog X.w H' h'):Inv X pins σ H' { s with heap:=h',toks:=t' }:=by
 obtain ⟨m,⟨o,es,ep,ho,r⟩,_⟩:=id I.loc
 obtain ⟨sl,hL⟩:=u.any ho I.free (by simp)
 exact I.step (g':=s.gens) (d':=s.drawn) (ch:=[]) (fun _ z=>nomatch z) (fun b o _ hb _ e n=>u.keep b o e n hb (by simp)) (fun b o _ hb _ e n=>u.slot b o e n hb (by simp)) (fun b o _ e n=>u.free b o e n (by simp)) (fun b o _ e=>u.there b o e (by simp)) u.tups u.frzs u.tbls (fun m' hm=>by
  obtain ⟨o',es',ep',ho',r'⟩:=hm
  rw [ho] at ho';cases ho'
  exact ⟨_,es',ep',hL,r'⟩) hok I.bare
theorem Inv.call {g':Array GenState} {t':Nat} {d':Drawn} {ch:List Addr} (I:Inv X pins σ H s) (u:Un (frs X.stack) ch H H' s.heap h') (hok:HOk X.prog X.w H' h') (hg:AllBare g')
  (hch:∀ b ∈ ch,(b ∈ X.ex ∨ X.s₀.heap.objs.size ≤ b) ∧ b ≠ X.env.locals ∧ (∀ x c,X.env.cells.lookup x = some c → c ≠ b) ∧ ∀ p ∈ X.pn ++ pins,p.1 ≠ b) :
  Inv X pins σ H' { s with heap:=h',gens:=g',drawn:=d',toks:=t' }:=by
 obtain ⟨m,⟨o,es,ep,ho,r⟩,_⟩:=id I.loc
 obtain ⟨sl,hL⟩:=u.any ho I.free fun z=>(hch _ z).2.1 rfl
 exact I.step (ch:=ch) hch (fun b o hL hb hc e n=>u.keep b o e n (fun z=>(List.mem_cons.mp (I.stkSub b z)).elim hL hb) hc) (fun b o _ _ hc e n=>u.any e n hc) (fun b o hc e n=>u.free b o e n hc) (fun b o hc e=>u.there b o e hc) u.tups u.frzs u.tbls (fun m' hm=>by
  obtain ⟨o',es',ep',ho',r'⟩:=hm
  rw [ho] at ho';cases ho'
  exact ⟨_,es',ep',hL,r'⟩) hok hg
theorem Inv.turned {t':Nat} {it:Addr} (I:Inv X pins σ H s) (k:∀ b o,b ≠ it → s.heap.get? b = some o → h'.get? b = some o) (hn:H it = none) (hL:it ≠ X.env.locals)
  (h1:it ∈ X.ex ∨ X.s₀.heap.objs.size ≤ it) (h2:∀ x c,X.env.cells.lookup x = some c → c ≠ it) (h3:∀ p ∈ X.pn ++ pins,p.1 ≠ it):Inv X pins σ H { s with heap:=h',toks:=t' }:=by
 have nit:∀ b u,H b = some u → b ≠ it:=fun b u e z=>by rw [z,hn] at e;cases e
 refine I.step (g':=s.gens) (d':=s.drawn) (ch:=[it]) (fun b hb=>?_) (fun b o _ _ hc e _=>k b o (fun z=>hc (by simp [z])) e) (fun b o _ _ hc e _=>⟨o.slots,k b o (fun z=>hc (by simp [z])) e⟩) (fun _ _ _ _ n=>n)
  (fun b o hc e=>⟨o,k b o (fun z=>hc (by simp [z])) e⟩) (fun _ _ e=>e) (fun _ _ _ e=>e) (fun b ps e=>⟨#[],by rw [e];simp⟩) (fun m hm=>?_) (fun b u e=>?_) I.bare
 ·have e:b = it:=by simpa using hb
  subst e
  exact ⟨h1,hL,h2,h3⟩
 ·obtain ⟨o,es,ep,ho,r⟩:=hm
  exact ⟨o,es,ep,k _ o (Ne.symm hL) ho,r⟩
 ·refine (I.hok b u e).stay (fun c v hc q=>k c v ?_ q) (fun _ q=>q) fun _ _ q=>q
  rcases hc with z | z
  ·rw [z];exact nit b u e
  ·exact nit c _ z
theorem Inv.tok (I:Inv X pins σ H s) (t:Nat):Inv X pins σ H { s with toks:=t }:=I.un (h':=s.heap) (t':=t) Un.refl I.hok
theorem Inv.kept {t':Nat} (I:Inv X pins σ H s) (k:∀ b u,s.heap.get? b = some u → h'.get? b = some u):Inv X pins σ H { s with heap:=h',toks:=t' }:=I.un (Un.kept k) (I.hok.kept k)
theorem Inv.laid {a:Addr} {o:HO} {t':Nat} (I:Inv X pins σ H s) (k:∀ b u,s.heap.get? b = some u → h'.get? b = some u) (hp:s.heap.objs.size ≤ a) (new:cW X.prog X.w (upd H a o) h' a o) :
  Inv X pins σ (upd H a o) { s with heap:=h',toks:=t' }:=I.un (Un.laid k hp (I.hok.fresh hp)) (I.hok.laid k hp new)
theorem Inv.write {x e:Addr} {o:HO} {t':Nat} (I:Inv X pins σ H s) (mu:Mut (H x)) (he:e = x ∨ H e = some (.own x)) (k:∀ b u,b ≠ e → s.heap.get? b = some u → h'.get? b = some u) (heo:∃ u,h'.get? e = some u)
  (new:cW X.prog X.w (upd H x o) h' x o):Inv X pins σ (upd H x o) { s with heap:=h',toks:=t' }:=I.un (Un.write mu he k heo) (I.hok.write mu he k heo new)
theorem Inv.weak {σ':List (Option V)} (I:Inv X pins σ H s) (hl:σ'.length = σ.length) (w:∀ (i:Nat) v,σ'[i]? = some (some v) → σ[i]? = some (some v)):Inv X pins σ' H s :=
 ⟨I.ok,I.os,I.bare,I.base,let ⟨m,hn,hl'⟩:=I.loc;⟨m,hn,fun i x v e1 e2 e3=>hl' i x v e1 (w i v e2) e3⟩,I.cell,I.free,I.freeC,I.pin,I.hok,hl.trans I.len⟩
theorem Inv.pins_of {pins':List (Addr × Obj)} (I:Inv X pins σ H s) (h:∀ p ∈ pins',s.heap.get? p.1 = some p.2 ∧ H p.1 = none ∧ p.1 ≠ X.env.locals ∧ p.1 ∉ X.fs ∧ ∀ v,p.2.data ≠ .cell v):Inv X pins' σ H s :=
 ⟨I.ok,I.os,I.bare,I.base,I.loc,I.cell,I.free,I.freeC,fun p hp=>(List.mem_append.mp hp).elim (fun z=>I.pin p (List.mem_append_left _ z)) (h p),I.hok,I.len⟩
theorem aBP {N:List Str} (hN:N.Nodup) {i j:Nat} {x:Str} (a:N[i]? = some x) (b:N[j]? = some x):i = j:=by
 obtain ⟨h1,e1⟩:=List.getElem?_eq_some_iff.mp a
 obtain ⟨h2,e2⟩:=List.getElem?_eq_some_iff.mp b
 exact (List.getElem_inj hN).mp (e1.trans e2.symm)
theorem aFH {M:Model} {A:Around} {E:Value → Shared → Prop} {i:Nat} {x:Str} {v:V} {u:Value} {Q:Unit → Shared → Prop} (I:Inv X pins σ H s) (hN:X.N.Nodup) (hi:X.N[i]? = some x) (hx:Loc X.env.scope x) (r:bM v u)
  (h:∀ s',Inv X pins (σ.set i (some v)) H s' → (∃ a,Heap.SameBut a s.heap s'.heap ∧ (a = X.env.locals ∨ X.env.cells.lookup x = some a)) → Q () s') (hf:X.fn x = true ∨ X.env.scope.names.lookup x = some .local:=by first | exact .inl rfl | exact .inr rfl | assumption):wpAny M A (storeName X.env x u) Q E s:=by
 obtain ⟨m,hn,hl⟩:=id I.loc
 have hcls:(X.env.scope.kind == .class || (X.env.scope.kind == .module && X.env.locals != X.env.globals)) = false:=by rw [I.ok.kind];rfl
 have hiσ:i < σ.length:=by rw [I.len];exact (List.getElem?_eq_some_iff.mp hi).1
 have cne:=I.cne
 have tracked:∀ {a:Addr} {h':Heap},(∃ o,s.heap.get? a = some o ∧ H a = none) → Heap.SameBut a s.heap h' → HOk X.prog X.w H h':=fun {a h'} ha hs b ob e=>by
  obtain ⟨_,_,hfree⟩:=ha
  refine (I.hok b ob e).stay (fun c w' hc q=>(hs.2 c ?_).trans q) (fun _ q=>q) fun _ _ q=>q
  rintro rfl
  rcases hc with rfl | hc
  ·rw [hfree] at e;cases e
  ·rw [hfree] at hc;cases hc
 rcases hx with hk | hk
 ·refine wpAny_storeName_local hk hn (fun h' hn' hs=>?_) hcls
  obtain ⟨oL,_,_,hoL,_⟩:=id hn
  refine h _ ⟨I.ok,I.os,I.bare,⟨fun b o e n hb hx=>?_,fun b o e n hb hx=>?_,I.base.free,fun b o e hx=>?_,I.base.tups,I.base.frzs,I.base.tbls⟩,⟨_,hn',fun j y v' e1 e2 e3=>?_⟩,fun y c e=>?_,I.free,I.freeC,fun p hp=>?_,tracked ⟨oL,hoL,I.free⟩ hs,by simpa using I.len⟩ ⟨_,hs,.inl rfl⟩
  ·exact (hs.2 b (Nat.ne_of_lt (Nat.lt_of_lt_of_le (Heap.lt_size e) I.ok.above))).trans (I.base.keep b o e n hb hx)
  ·obtain ⟨sl,e1⟩:=I.base.slot b o e n hb hx
   exact ⟨sl,(hs.2 b (Nat.ne_of_lt (Nat.lt_of_lt_of_le (Heap.lt_size e) I.ok.above))).trans e1⟩
  ·obtain ⟨o',e1⟩:=I.base.there b o e hx
   exact ⟨o',(hs.2 b (Nat.ne_of_lt (Nat.lt_of_lt_of_le (Heap.lt_size e) I.ok.above))).trans e1⟩
  ·by_cases hj:j = i
   ·subst hj
    rw [hi] at e1;cases e1
    rw [List.getElem?_set_self hiσ] at e2
    cases e2
    exact ⟨u,r,.inl ⟨hk,by simp⟩⟩
   ·rw [List.getElem?_set_ne (Ne.symm hj)] at e2
    obtain ⟨u',r',q⟩:=hl j y v' e1 e2 e3
    refine ⟨u',r',?_⟩
    rcases q with ⟨k,e⟩ | ⟨k,c,e,z⟩
    ·refine .inl ⟨k,?_⟩
     have:y ≠ x:=fun e=>hj (aBP hN e1 (e ▸ hi))
     simp [this,e]
    ·exact .inr ⟨k,c,e,z.sameBut hs (cne y c e)⟩
  ·obtain ⟨w',z⟩:=I.cell y c e
   exact ⟨w',z.sameBut hs (cne y c e)⟩
  ·obtain ⟨e,n,ne,nf,d⟩:=I.pin p hp
   exact ⟨(hs.2 p.1 ne).trans e,n,ne,nf,d⟩
 ·have hfn:X.fn x = true:=by
   rcases hf with z | z
   ·exact z
   ·rw [z] at hk;cases hk
  obtain ⟨c,hc⟩:=I.ok.has x (.inl hk)
  obtain ⟨w',z⟩:=I.cell x c hc
  refine wpAny_storeName_cell I.ok.kind hk hc z (fun h' hc' hs=>?_)
  obtain ⟨oc,hoc,hocd⟩:=id z
  refine h { s with heap:=h' } ⟨I.ok,I.os,I.bare,⟨fun b o e n hb hx=>?_,fun b o e n hb hx=>?_,I.base.free,fun b o e hx=>?_,I.base.tups,I.base.frzs,I.base.tbls⟩,⟨m,hn.sameBut hs (Ne.symm (cne x c hc)),fun j y v' e1 e2 e3=>?_⟩,fun y c' e=>?_,I.free,I.freeC,fun p hp=>?_,tracked ⟨oc,hoc,I.freeC x c hc⟩ hs,by simpa using I.len⟩ ⟨c,hs,.inr hc⟩
  ·exact (hs.2 b (Nat.ne_of_lt (Nat.lt_of_lt_of_le (Heap.lt_size e) (I.ok.cab x c hfn hc)))).trans (I.base.keep b o e n hb hx)
  ·obtain ⟨sl,e1⟩:=I.base.slot b o e n hb hx
   exact ⟨sl,(hs.2 b (Nat.ne_of_lt (Nat.lt_of_lt_of_le (Heap.lt_size e) (I.ok.cab x c hfn hc)))).trans e1⟩
  ·obtain ⟨o',e1⟩:=I.base.there b o e hx
   exact ⟨o',(hs.2 b (Nat.ne_of_lt (Nat.lt_of_lt_of_le (Heap.lt_size e) (I.ok.cab x c hfn hc)))).trans e1⟩
  ·by_cases hj:j = i
   ·subst hj
    rw [hi] at e1;cases e1
    rw [List.getElem?_set_self hiσ] at e2
    cases e2
    exact ⟨u,r,.inr ⟨.inl hk,c,hc,hc'⟩⟩
   ·rw [List.getElem?_set_ne (Ne.symm hj)] at e2
    obtain ⟨u',r',q⟩:=hl j y v' e1 e2 e3
    refine ⟨u',r',?_⟩
    rcases q with q | ⟨k,c',e,z'⟩
    ·exact .inl q
    ·refine .inr ⟨k,c',e,z'.sameBut hs ?_⟩
     rintro rfl
     exact hj (aBP hN e1 (I.ok.inj _ _ _ e hc ▸ hi))
  ·by_cases hcc:c' = c
   ·subst hcc;exact ⟨_,hc'⟩
   ·obtain ⟨w2,z2⟩:=I.cell y c' e
    exact ⟨w2,z2.sameBut hs hcc⟩
  ·obtain ⟨e,n,ne,nf,d⟩:=I.pin p hp
   refine ⟨(hs.2 p.1 ?_).trans e,n,ne,nf,d⟩
   intro q
   rw [q,hoc] at e
   have q':oc = p.2:=Option.some.inj e
   exact d w' (by rw [← q'];exact hocd)
theorem aAG {M:Model} {A:Around} {E:Value → Shared → Prop} {i:Nat} {x:Str} {v:V} {u:Value} {Q:Unit → Shared → Prop} (I:Inv X pins σ H s) (hN:X.N.Nodup) (hi:X.N[i]? = some x) (hx:Loc X.env.scope x) (r:bM v u)
  (h:∀ s',Inv X pins (σ.set i (some v)) H s' → Q () s') (hf:X.fn x = true ∨ X.env.scope.names.lookup x = some .local:=by first | exact .inl rfl | exact .inr rfl | assumption):wpAny M A (storeName X.env x u) Q E s :=
 aFH I hN hi hx r (fun s' I' _=>h s' I') hf
theorem Inv.call' {s':Shared} {ch:List Addr} (I:Inv X pins σ H s) (ho:s'.os = s.os) (u:Un (frs X.stack) ch H H' s.heap s'.heap) (hok:HOk X.prog X.w H' s'.heap) (hg:AllBare s'.gens)
  (hch:∀ b ∈ ch,(b ∈ X.ex ∨ X.s₀.heap.objs.size ≤ b) ∧ b ≠ X.env.locals ∧ (∀ x c,X.env.cells.lookup x = some c → c ≠ b) ∧ ∀ p ∈ X.pn ++ pins,p.1 ≠ b):Inv X pins σ H' s':=by
 obtain ⟨h',g',d',t',o'⟩:=s'
 have e:o' = s.os:=ho
 subst e
 exact I.call (g':=g') (t':=t') (d':=d') u hok hg hch
end
abbrev XK:=Value → Option Addr → Hp → Prop
abbrev St:=List (Option V)
abbrev VK:=V → Hp → Prop
abbrev TE:=St → Hp → VK → Prop
abbrev TT:=St → Hp → (Bool → Hp → Prop) → Prop
abbrev TA:=St → Hp → (List V → Hp → Prop) → Prop
structure Ends where
 nx:St → Hp → Prop
 rt:VK
 bk:St → Hp → Prop:=fun _ _=>False
 ct:St → Hp → Prop:=fun _ _=>False
abbrev TS:=Ends → St → Hp → Prop
def EP (X:Cx) (pins:List (Addr × Obj)) (σ:St) (Q:VK) (u:Value) (s':Shared):Prop:=∃ v H',Inv X pins σ H' s' ∧ bM v u ∧ Q v H'
def TP (X:Cx) (pins:List (Addr × Obj)) (σ:St) (Q:Bool → Hp → Prop) (b:Bool) (s':Shared):Prop:=∃ H',Inv X pins σ H' s' ∧ Q b H'
def AP (X:Cx) (pins:List (Addr × Obj)) (σ:St) (Q:List V → Hp → Prop) (us:List Value) (s':Shared):Prop:=∃ vs H',Inv X pins σ H' s' ∧ bS vs us ∧ Q vs H'
def SP (X:Cx) (pins:List (Addr × Obj)) (D:Ends) (f:Flow) (s':Shared):Prop :=
 match f with
 | .next=>∃ σ' H',Inv X pins σ' H' s' ∧ D.nx σ' H'
 | .brk=>∃ σ' H',Inv X pins σ' H' s' ∧ D.bk σ' H'
 | .cont=>∃ σ' H',Inv X pins σ' H' s' ∧ D.ct σ' H'
 | .ret u=>∃ v σ' H',Inv X pins σ' H' s' ∧ bM v u ∧ D.rt v H'
def PE (X:Cx) (e:Expr) (t:TE):Prop :=
 ∀ (pins:List (Addr × Obj)) (s:Shared) (σ:St) (H:Hp) (Q:VK),Inv X pins σ H s → t σ H Q → wpAny (model X.prog X.w) X.A (eval e X.env) (EP X pins σ Q) X.xe s
def PT (X:Cx) (e:Expr) (t:TT):Prop :=
 ∀ (pins:List (Addr × Obj)) (s:Shared) (σ:St) (H:Hp) (Q:Bool → Hp → Prop),Inv X pins σ H s → t σ H Q → wpAny (model X.prog X.w) X.A (isTrue e X.env (eval e X.env)) (TP X pins σ Q) X.xe s
def PW (X:Cx) (e:Expr) (t:TT):Prop :=
 ∀ (whole:Sem Value) (pins:List (Addr × Obj)) (s:Shared) (σ:St) (H:Hp) (Q:Bool → Hp → Prop),Inv X pins σ H s → t σ H Q → wpAny (model X.prog X.w) X.A (isTrue e X.env whole) (TP X pins σ Q) X.xe s
theorem PW.pt {X:Cx} {e:Expr} {t:TT} (h:PW X e t):PT X e t:=h _
def PA (X:Cx) (es:List Expr) (t:TA):Prop :=
 ∀ (pos:Pos) (pins:List (Addr × Obj)) (s:Shared) (σ:St) (H:Hp) (Q:List V → Hp → Prop),Inv X pins σ H s → t σ H Q → wpAny (model X.prog X.w) X.A (spliced (backTo pos (starEach es X.env))) (AP X pins σ Q) X.xe s
def PS (X:Cx) (st:Stmt) (t:TS):Prop :=
 ∀ (pins:List (Addr × Obj)) (s:Shared) (σ:St) (H:Hp) (D:Ends),Inv X pins σ H s → t D σ H → wpAny (model X.prog X.w) X.A (exec st X.env) (SP X pins D) X.xe s
def PSs (X:Cx) (st:List Stmt) (t:TS):Prop :=
 ∀ (pins:List (Addr × Obj)) (s:Shared) (σ:St) (H:Hp) (D:Ends),Inv X pins σ H s → t D σ H → wpAny (model X.prog X.w) X.A (execs st X.env) (SP X pins D) X.xe s
theorem thn {α:Type} {t:Sem α} {Q Q':α → Shared → Prop} {M:Model} {A:Around} {E:Value → Shared → Prop} {s:Shared} (h:wpAny M A t Q E s) (hQ:∀ a s,Q a s → Q' a s):wpAny M A t Q' E s:=wpAny_mono h hQ fun _ _ x=>x
end L2
namespace L2
open PySem PySem.Spec PyProof.Rows
section
variable {X:Cx}
def aNA (i:Nat):TE:=fun σ H Q=>∃ v,σ[i]? = some (some v) ∧ Q v H
def tC (v:V):TE:=fun _ H Q=>Q v H
theorem aMA {i:Nat} {x:Str} {pos:Pos} (hN:X.N[i]? = some x) (hv:Vis X.env.scope x) (hd:(x == ("__debug__":Str)) = false:=by decide) (hcd:(x == ("__classdict__":Str)) = false:=by decide):PE X (.Name x pos) (aNA i):=by
 intro pins s σ H Q I h
 obtain ⟨v,e,h⟩:=h
 obtain ⟨m,hn,hl⟩:=I.loc
 obtain ⟨u,r,l⟩:=hl i x v hN e hv
 have fin:EP X pins σ Q u s:=⟨v,H,I,r,h⟩
 rcases l with ⟨hk,hm⟩ | ⟨hk,c,hc,hcell⟩
 ·exact wpAny_Name (wpAny_loadName_local I.ok.kind hk hn hm fin) hd
 ·rcases hk with hk | hk
  ·exact wpAny_Name (wpAny_loadName_cell I.ok.kind hk hc hcell fin) hd
  ·exact wpAny_Name (wpAny_loadName_free I.ok.kind hk hc hcell fin hcd) hd
theorem aD {i j pos}:PE X (.Constant (.int i) j pos) (tC (.int i)):=fun _ _ _ H _ I h=>wpAny_Constant_int ⟨.int i,H,I.tok _,⟨_,rfl⟩,h⟩
theorem iC {b j pos}:PE X (.Constant (.bool b) j pos) (tC (.bl b)):=fun _ _ _ H _ I h=>Constant_bool ⟨.bl b,H,I,rfl,h⟩
theorem jT {j pos}:PE X (.Constant .none j pos) (tC .non):=fun _ _ _ H _ I h=>Constant_none ⟨.non,H,I,rfl,h⟩
theorem cP {x j pos}:PE X (.Constant (.str x) j pos) (tC (.str x)):=fun _ _ _ H _ I h=>Calls.Constant_str ⟨.str x,H,I.tok _,⟨_,rfl⟩,h⟩
def Gl (X:Cx) (x:Str):Prop:=X.env.kindOf x = some .globalImplicit
theorem zM {E:Value → Shared → Prop} {pins:List (Addr × Obj)} {s:Shared} {σ:St} {H:Hp} {x:Str} {u:Value} {pos:Pos} {Q:Value → Shared → Prop} (I:Inv X pins σ H s) (hg:Gl X x) (hm:X.mg x = some u) (h:Q u s)
  (hd:(x == ("__debug__":Str)) = false:=by decide):wpAny (model X.prog X.w) X.A (eval (.Name x pos) X.env) Q E s :=
 Calls.Name_function_global I.ok.kind hg (Calls.loadGlobal_global (by rw [I.ok.glob];exact I.mod.glob.keeps I.bk) hm h) hd
theorem zN {E:Value → Shared → Prop} {pins:List (Addr × Obj)} {s:Shared} {σ:St} {H:Hp} {x:Str} {u:Value} {pos:Pos} {Q:Value → Shared → Prop} (I:Inv X pins σ H s) (hg:Gl X x) (hm:X.mg x = none) (hv:bootBuiltins x = some u) (h:Q u s)
  (hn:x ≠ "__name__":=by decide) (hd:(x == ("__debug__":Str)) = false:=by decide):wpAny (model X.prog X.w) X.A (eval (.Name x pos) X.env) Q E s:=by
 obtain ⟨mb,h1,h2⟩:=I.mod.blt
 exact Calls.Name_function_global I.ok.kind hg (Calls.loadGlobal_builtin (by rw [I.ok.glob];exact I.mod.glob.keeps I.bk) hm (by rw [I.ok.blt];exact h1.keeps I.bk) ((h2 x hn).trans hv) h) hd
theorem tX {x:Str} {v:V} {u:Value} {pos:Pos} (hg:Gl X x) (hm:X.mg x = some u) (r:bM v u) (hd:(x == ("__debug__":Str)) = false:=by decide):PE X (.Name x pos) (tC v) :=
 fun _ _ _ H _ I h=>zM I hg hm ⟨v,H,I,r,h⟩ hd
theorem aKA {x:Str} {v:V} {u:Value} {pos:Pos} (hg:Gl X x) (hm:X.mg x = none) (hv:bootBuiltins x = some u) (r:bM v u) (hn:x ≠ "__name__":=by decide) (hd:(x == ("__debug__":Str)) = false:=by decide):PE X (.Name x pos) (tC v) :=
 fun _ _ _ H _ I h=>zN I hg hm hv ⟨v,H,I,r,h⟩ hn hd
def t2I (ta tb:TE) (k:Int → Int → Hp → Prop):St → Hp → Prop:=fun σ H=>ta σ H fun x H1=>tb σ H1 fun y H2=>∃ i j,x = .int i ∧ y = .int j ∧ k i j H2
variable {a b:Expr} {ta tb:TE} {pos:Pos}
def PC (X:Cx) (op:CmpOp) (a b:Expr) (t:TE):Prop :=
 ∀ (pins:List (Addr × Obj)) (s:Shared) (σ:St) (H:Hp) (Q:VK),Inv X pins σ H s → t σ H Q →
  wpAny (model X.prog X.w) X.A (eval a X.env) (fun v s₁=>wpAny (model X.prog X.w) X.A (eval b X.env) (fun u s₂=>wpAny (model X.prog X.w) X.A (compareOp op v u) (EP X pins σ Q) X.xe s₂) X.xe s₁) X.xe s
def tCmp (p:Int → Int → Bool) (ta tb:TE):TE:=fun σ H Q=>t2I ta tb (fun i j H2=>Q (.bl (p i j)) H2) σ H
def tB (t:TE):TT:=fun σ H Q=>t σ H fun x H1=>∃ c,x = .bl c ∧ Q c H1
theorem aHU {op:CmpOp} {t:TE} (h:PC X op a b t) (h1:behindInMarks op b = false:=by first | exact nobehind _ (by decide) (by decide) | rfl):PT X (.Compare a [op] [b] pos) (tB t):=by
 intro pins s σ H Q I hw
 refine wpAny_isTrue_Compare1 (thn (h pins s σ H _ I hw) fun v s1 h1=>thn h1 fun u s2 h2=>thn h2 fun c s3 ⟨x,H1,I1,r1,q1⟩=>?_) h1
 obtain ⟨d,rfl,q⟩:=q1
 cases r1
 exact wpAny_truthy_bool ⟨H1,I1,q⟩
theorem cJ {e:Expr} {t:TE} (h:PE X e t) (he:∀ whole,isTrue e X.env whole = (do let v ← whole;standAt e.pos;holding [v] (truthy v)):=by intro _;rfl):PT X e (tB t):=by
 intro pins s σ H Q I hw
 refine isTrue_plain (thn (h pins s σ H _ I hw) fun v s1 ⟨x,H1,I1,r1,q1⟩=>?_) (he _)
 obtain ⟨d,rfl,q⟩:=q1
 cases r1
 exact wpAny_truthy_bool ⟨H1,I1,q⟩
variable {tA tB':TT} {tL:List Expr}
def aPB (t u:TT):TT:=fun σ H Q=>t σ H fun c H1=>if c = true then u σ H1 Q else Q false H1
def tOr (t u:TT):TT:=fun σ H Q=>t σ H fun c H1=>if c = true then Q true H1 else u σ H1 Q
def aOU (t:TT):TT:=fun σ H Q=>t σ H fun c H1=>Q (!c) H1
theorem pN (ha:PT X a tA):PW X (.BoolOp .And [a] pos) tA:=by
 intro wh pins s σ H Q I h
 refine isTrue_and (thn (ha pins s σ H Q I h) fun c s1 e=>?_)
 cases c with
 | true=>exact isTrue_and_nil e
 | false=>exact e
theorem jS (ha:PT X a tA):PW X (.BoolOp .Or [a] pos) tA:=by
 intro wh pins s σ H Q I h
 refine isTrue_or (thn (ha pins s σ H Q I h) fun c s1 e=>?_)
 cases c with
 | false=>exact isTrue_or_nil e
 | true=>exact e
theorem rS (ha:PT X a tA) (hb:PW X (.BoolOp .And (b :: tL) pos) tB'):PW X (.BoolOp .And (a :: b :: tL) pos) (aPB tA tB'):=by
 intro wh pins s σ H Q I h
 refine isTrue_and (thn (ha pins s σ H _ I h) fun c s1 ⟨H1,I1,q1⟩=>?_)
 cases c with
 | true=>exact hb wh pins s1 σ H1 Q I1 q1
 | false=>exact ⟨H1,I1,q1⟩
theorem jZ (ha:PT X a tA) (hb:PW X (.BoolOp .Or (b :: tL) pos) tB'):PW X (.BoolOp .Or (a :: b :: tL) pos) (tOr tA tB'):=by
 intro wh pins s σ H Q I h
 refine isTrue_or (thn (ha pins s σ H _ I h) fun c s1 ⟨H1,I1,q1⟩=>?_)
 cases c with
 | true=>exact ⟨H1,I1,q1⟩
 | false=>exact hb wh pins s1 σ H1 Q I1 q1
theorem dE (ha:PT X a tA):PT X (.UnaryOp .Not a pos) (aOU tA):=by
 intro pins s σ H Q I h
 exact isTrue_not (ha pins s σ H (fun c H1=>Q (!c) H1) I h)
def aNJ (ta tb:TE):TE:=fun σ H Q=>ta σ H fun x H1=>∃ c,x = .bl c ∧ if c = true then tb σ H1 Q else Q (.bl false) H1
def aOT (ta tb:TE):TE:=fun σ H Q=>ta σ H fun x H1=>∃ c,x = .bl c ∧ if c = true then Q (.bl true) H1 else tb σ H1 Q
def aND (ta:TE):TE:=fun σ H Q=>ta σ H fun x H1=>∃ c,x = .bl c ∧ Q (.bl (!c)) H1
theorem cX {op} {t:TE} (h:PE X a t):PE X (.BoolOp op [a] pos) t:=fun pins s σ H Q I hw=>BoolOp_one (h pins s σ H Q I hw)
theorem cL (ha:PE X a ta) (hb:PE X (.BoolOp .And (b :: tL) pos) tb):PE X (.BoolOp .And (a :: b :: tL) pos) (aNJ ta tb):=by
 intro pins s σ H Q I h
 refine BoolOp_and (thn (ha pins s σ H _ I h) fun v s1 ⟨x,H1,I1,r1,q1⟩=>?_)
 obtain ⟨c,rfl,q1⟩:=q1
 cases r1
 refine wpAny_truthy_bool ?_
 cases c with
 | true=>exact hb pins s1 σ H1 Q I1 q1
 | false=>exact ⟨.bl false,H1,I1,rfl,q1⟩
theorem aBA (ha:PE X a ta) (hb:PE X (.BoolOp .Or (b :: tL) pos) tb):PE X (.BoolOp .Or (a :: b :: tL) pos) (aOT ta tb):=by
 intro pins s σ H Q I h
 refine BoolOp_or (thn (ha pins s σ H _ I h) fun v s1 ⟨x,H1,I1,r1,q1⟩=>?_)
 obtain ⟨c,rfl,q1⟩:=q1
 cases r1
 refine wpAny_truthy_bool ?_
 cases c with
 | false=>exact hb pins s1 σ H1 Q I1 q1
 | true=>exact ⟨.bl true,H1,I1,rfl,q1⟩
theorem aHY (ha:PE X a ta):PE X (.UnaryOp .Not a pos) (aND ta):=by
 intro pins s σ H Q I h
 refine UnaryOp_ (thn (ha pins s σ H _ I h) fun v s1 ⟨x,H1,I1,r1,q1⟩=>?_)
 obtain ⟨c,rfl,q1⟩:=q1
 cases r1
 exact not_of (wpAny_truthy_bool ⟨.bl (!c),H1,I1,rfl,q1⟩)
def tIf (t:TT) (ta tb:TE):TE:=fun σ H Q=>t σ H fun c H1=>if c = true then ta σ H1 Q else tb σ H1 Q
theorem aIA {c:Expr} (hc:PT X c tA) (ha:PE X a ta) (hb:PE X b tb):PE X (.IfExp c a b pos) (tIf tA ta tb):=by
 intro pins s σ H Q I h
 refine wpAny_IfExp (thn (hc pins s σ H _ I h) fun d s1 ⟨H1,I1,q1⟩=>?_)
 cases d with
 | true=>exact ha pins s1 σ H1 Q I1 q1
 | false=>exact hb pins s1 σ H1 Q I1 q1
end
end L2
namespace L2
open PySem PySem.Spec PyProof.Rows
def SqL (K:PySem.W.Frag) (H:Hp) (a:Addr) (xs:List V):Prop :=
 Rd H a (.lst xs) ∨
  ∃ (o:Obj) (its:Array Value) (n:Nat),K.lookup a = some o ∧ o.cls = .type "list" ∧ o.dict = none ∧ o.data = .seq its n ∧ its.size ≤ sizeLine ∧ bS xs its.toList
def SqT (K:PySem.W.Frag) (H:Hp) (a:Addr) (xs:List V):Prop :=
 Rd H a (.tup xs) ∨
  ∃ (o:Obj) (its:Array Value) (n:Nat),K.lookup a = some o ∧ o.cls = .type "tuple" ∧ o.data = .seq its n ∧ its.size ≤ sizeLine ∧ bS xs its.toList
def aPQ:Value → Option V
 | .none=>some .non
 | .bool b=>some (.bl b)
 | .int i _=>some (.int i)
 | .str x _=>some (.str x)
 | .bytes b _=>some (.byt b)
 | .float b _=>some (.flt b)
 | .ref a=>some (.ref a)
 | .type n=>some (.ty n)
 | _=>none
theorem bM.abs {x:V} {u:Value} (r:bM x u):aPQ u = some x:=by
 cases x with
 | non=>cases r;rfl
 | bl _=>cases r;rfl
 | int _=>obtain ⟨t,rfl⟩:=r;rfl
 | str _=>obtain ⟨t,rfl⟩:=r;rfl
 | byt _=>obtain ⟨t,rfl⟩:=r;rfl
 | flt _=>obtain ⟨t,rfl⟩:=r;rfl
 | ref _=>cases r;rfl
 | ty _=>cases r;rfl
theorem bM.inj {x y:V} {u:Value} (r:bM x u) (q:bM y u):x = y:=Option.some.inj (r.abs.symm.trans q.abs)
theorem bS.inj:∀ {xs ys:List V} {us:List Value},bS xs us → bS ys us → xs = ys
 | _,_,_,.nil,.nil=>rfl
 | _,_,_,.cons r t,.cons r' t'=>by rw [r.inj r',bS.inj t t']
section
variable {X:Cx} {pins:List (Addr × Obj)} {σ:St} {H:Hp} {s:Shared} {a:Addr} {xs ys:List V}
theorem SqL.of {K:PySem.W.Frag} (h:H a = some (.lst xs)):SqL K H a xs:=.inl (.inl h)
theorem SqT.of {K:PySem.W.Frag} (h:H a = some (.tup xs)):SqT K H a xs:=.inl (.inl h)
theorem Inv.list (I:Inv X pins σ H s) (h:SqL X.K H a xs):∃ its:List Value,bS xs its ∧ PlainL s.heap a its.toArray ∧ xs.length ≤ sizeLine:=by
 rcases h with h | ⟨o,its,n,hk,hc,hd,hs,hz,r⟩
 ·obtain ⟨z,its,n,r,e⟩:=h.ok I.hok
  exact ⟨its,r,⟨_,n,e,rfl,rfl,rfl⟩,z⟩
 ·refine ⟨its.toList,r,⟨o,n,I.kIn a o hk,hc,hd,by simpa using hs⟩,?_⟩
  have e:=r.length
  simp only [Array.length_toList] at e
  omega
theorem Inv.tuple (I:Inv X pins σ H s) (h:SqT X.K H a xs):∃ its:List Value,bS xs its ∧ IsTup s.heap a its.toArray ∧ xs.length ≤ sizeLine:=by
 rcases h with h | ⟨o,its,n,hk,hc,hs,hz,r⟩
 ·obtain ⟨z,its,r,p⟩:=h.ok I.hok
  exact ⟨its,r,p.tup,z⟩
 ·refine ⟨its.toList,r,⟨o,I.kIn a o hk,hc,n,by simpa using hs⟩,?_⟩
  have e:=r.length
  simp only [Array.length_toList] at e
  omega
theorem Inv.list_inj (I:Inv X pins σ H s) (h:SqL X.K H a xs) (h':SqL X.K H a ys):xs = ys:=by
 obtain ⟨its,r,⟨o,n,e,_,_,d⟩,_⟩:=I.list h
 obtain ⟨its',r',⟨o',n',e',_,_,d'⟩,_⟩:=I.list h'
 rw [e] at e';cases e'
 rw [d] at d'
 injection d' with d1 _
 have:its = its':=by simpa using congrArg Array.toList d1
 subst this
 exact r.inj r'
end
abbrev Cx.wish (X:Cx) (E:Value → Shared → Prop):Cx:={ X with xe:=E }
abbrev Cx.nox (X:Cx):Cx:=X.wish fun _ _=>False
theorem Cx.Ok.wish {X:Cx} (ok:X.Ok) (E:Value → Shared → Prop):(X.wish E).Ok :=
 ⟨ok.mod,ok.kind,ok.glob,ok.blt,ok.above,ok.inj,ok.has,ok.cab,ok.hd,ok.frames,ok.stk,ok.exf,ok.bs,ok.bsz,ok.noex,ok.exfs,ok.funs,ok.frf⟩
theorem Cx.Ok.unwish {X:Cx} {E:Value → Shared → Prop} (ok:(X.wish E).Ok):X.Ok :=
 ⟨ok.mod,ok.kind,ok.glob,ok.blt,ok.above,ok.inj,ok.has,ok.cab,ok.hd,ok.frames,ok.stk,ok.exf,ok.bs,ok.bsz,ok.noex,ok.exfs,ok.funs,ok.frf⟩
section
variable {X:Cx} {pins:List (Addr × Obj)} {σ:St} {H:Hp} {s:Shared} {E:Value → Shared → Prop}
theorem Inv.wish (I:Inv X pins σ H s) (E:Value → Shared → Prop):Inv (X.wish E) pins σ H s:=⟨I.ok.wish E,I.os,I.bare,I.base,I.loc,I.cell,I.free,I.freeC,I.pin,I.hok,I.len⟩
theorem Inv.unwish (I:Inv (X.wish E) pins σ H s):Inv X pins σ H s:=⟨I.ok.unwish,I.os,I.bare,I.base,I.loc,I.cell,I.free,I.freeC,I.pin,I.hok,I.len⟩
theorem SP.unwish {D:Ends} {f:Flow} {s':Shared} (h:SP (X.wish E) pins D f s'):SP X pins D f s':=by
 cases f with
 | next=>obtain ⟨σ',H',I,q⟩:=h;exact ⟨σ',H',I.unwish,q⟩
 | brk=>obtain ⟨σ',H',I,q⟩:=h;exact ⟨σ',H',I.unwish,q⟩
 | cont=>obtain ⟨σ',H',I,q⟩:=h;exact ⟨σ',H',I.unwish,q⟩
 | ret u=>obtain ⟨v,σ',H',I,r,q⟩:=h;exact ⟨v,σ',H',I.unwish,r,q⟩
theorem PSs.nox {st:List Stmt} {t:TS} (h:PSs X.nox st t):PSs X st t:=fun pins s σ H D I hw =>
 wpAny_mono (h pins s σ H D (I.wish _) hw) (fun _ _ q=>q.unwish) fun _ _ z=>False.elim z
end
section
variable {X:Cx} {st:Stmt} {tL:List Stmt} {t u:TS} {e:Expr} {te:TE} {pos:Pos}
def aNE:TS:=fun D σ H=>D.nx σ H
def nB (t u:TS):TS:=fun D σ H=>t { D with nx:=u D } σ H
theorem bE:PSs X [] aNE:=fun _ _ σ H _ I h=>wpAny_execs_nil ⟨σ,H,I,h⟩
theorem aG (h1:PS X st t) (h2:PSs X tL u):PSs X (st :: tL) (nB t u):=by
 intro pins s σ H D I h
 refine wpAny_execs_cons (thn (h1 pins s σ H { D with nx:=u D } I h) fun f s1 q=>?_)
 cases f with
 | next =>
  obtain ⟨σ',H',I',q⟩:=q
  exact h2 pins s1 σ' H' D I' q
 | ret v=>exact q
 | brk=>exact q
 | cont=>exact q
theorem aI (h1:PS X st t):PSs X [st] t:=by
 intro pins s σ H D I h
 refine wpAny_execs_cons (thn (h1 pins s σ H D I h) fun f s1 q=>?_)
 cases f with
 | next=>exact wpAny_execs_nil q
 | ret v=>exact q
 | brk=>exact q
 | cont=>exact q
theorem Inv.quiet {pins:List (Addr × Obj)} {σ:St} {H:Hp} {s:Shared} (I:Inv X pins σ H s):interactive X.env = false:=by simp [interactive,I.ok.kind]
def aNF (te:TE):TS:=fun D σ H=>te σ H fun _ H1=>D.nx σ H1
theorem eI (he:PE X e te) (hs:swapsWith e none pos.line X.env = pure false:=by rfl):PS X (.Expr e pos) (aNF te):=by
 intro pins s σ H D I h
 exact wpAny_Expr_any (thn (he pins s σ H _ I h) fun v s1 ⟨x,H1,I1,r1,q1⟩=>⟨σ,H1,I1,q1⟩) I.quiet hs
def aOS (te:TE):TS:=fun D σ H=>te σ H D.rt
theorem aT (he:PE X e te):PS X (.Return (some e) pos) (aOS te):=by
 intro pins s σ H D I h
 exact wpAny_Return_some (thn (he pins s σ H _ I h) fun v s1 ⟨x,H1,I1,r1,q1⟩=>⟨x,σ,H1,I1,r1,q1⟩)
def aGV (c:TT) (t u:TS):TS:=fun D σ H=>c σ H fun b H1=>if b = true then t D σ H1 else u D σ H1
theorem cD {c:Expr} {a b:List Stmt} {tc:TT} (hc:PT X c tc) (ha:PSs X a t) (hb:PSs X b u):PS X (.If c a b pos) (aGV tc t u):=by
 intro pins s σ H D I h
 refine wpAny_If (thn (hc pins s σ H _ I h) fun d s1 ⟨H1,I1,q1⟩=>?_)
 cases d with
 | true=>exact ha pins s1 σ H1 D I1 q1
 | false=>exact hb pins s1 σ H1 D I1 q1
def aLQ:TS:=fun _ _ _=>False
theorem mH:PS X st aLQ:=fun _ _ _ _ _ _ h=>h.elim
end
abbrev TG:=V → St → Hp → (St → Hp → Prop) → Prop
abbrev TGs:=List V → St → Hp → (St → Hp → Prop) → Prop
def PG (X:Cx) (target:Expr) (t:TG):Prop :=
 ∀ (pins:List (Addr × Obj)) (s:Shared) (σ:St) (H:Hp) (v:V) (u:Value) (Q:St → Hp → Prop),Inv X pins σ H s → bM v u → t v σ H Q →
  wpAny (model X.prog X.w) X.A (assign target X.env u) (fun _ s'=>∃ σ' H',Inv X pins σ' H' s' ∧ Q σ' H') X.xe s
def PGs (X:Cx) (ts:List Expr) (t:TGs):Prop :=
 ∀ (pins:List (Addr × Obj)) (s:Shared) (σ:St) (H:Hp) (vs:List V) (us:List Value) (Q:St → Hp → Prop),Inv X pins σ H s → bS vs us → t vs σ H Q →
  wpAny (model X.prog X.w) X.A (assignInOrder ((assignEach ts X.env).map (·.2)) us) (fun _ s'=>∃ σ' H',Inv X pins σ' H' s' ∧ Q σ' H') X.xe s
abbrev TSet:=V → V → V → Hp → (Hp → Prop) → Prop
abbrev TIp:=V → V → Hp → VK → Prop
section
variable {X:Cx} {pos:Pos}
def qA (i:Nat):TG:=fun v σ H Q=>Q (σ.set i (some v)) H
theorem aN {i:Nat} {x:Str} (hN:X.N.Nodup) (hi:X.N[i]? = some x) (hx:Loc X.env.scope x) (hf:X.fn x = true ∨ X.env.scope.names.lookup x = some .local:=by first | exact .inl rfl | exact .inr rfl | assumption):PG X (.Name x pos) (qA i):=by
 intro pins s σ H v u Q I r h
 exact wpAny_assign_Name (aAG I hN hi hx r (fun s' I'=>⟨_,H,I',h⟩) hf)
def aPL:TGs:=fun vs σ H Q=>vs = [] ∧ Q σ H
def aOI (t:TG) (u:TGs):TGs:=fun vs σ H Q=>∃ v r,vs = v :: r ∧ t v σ H fun σ' H'=>u r σ' H' Q
theorem iQ:PGs X [] aPL:=by
 intro pins s σ H vs us Q I r h
 obtain ⟨e,h⟩:=h
 subst e
 cases r
 exact assignInOrder_nil ⟨σ,H,I,h⟩
theorem bD {e:Expr} {es:List Expr} {t:TG} {u:TGs} (h1:PG X e t) (h2:PGs X es u)
  (hs:(assignEach (e :: es) X.env).map (·.2) = assign e X.env :: (assignEach es X.env).map (·.2):=by rfl):PGs X (e :: es) (aOI t u):=by
 intro pins s σ H vs us Q I r h
 obtain ⟨v,vr,e1,h⟩:=h
 subst e1
 cases r with
 | cons r rr =>
  rw [hs]
  refine assignInOrder_cons (thn (h1 pins s σ H _ _ _ I r h) fun _ s1 ⟨σ1,H1,I1,q1⟩=>?_)
  exact h2 pins s1 σ1 H1 _ _ Q I1 rr q1
def aMM (K:PySem.W.Frag) (n:Nat) (t:TGs):TG:=fun v σ H Q=>∃ a xs,v = .ref a ∧ SqT K H a xs ∧ xs.length = n ∧ t xs σ H Q
theorem nL {es:List Expr} {k:Nat} {t:TGs} {n:Nat} (hc:X.calm = true) (h:PGs X es t)
  (hn:(assignEach es X.env).length = n:=by rfl) (hst:(assignEach es X.env).findIdx? (·.1) = none:=by rfl):PG X (.Tuple es k pos) (aMM X.K n t):=by
 intro pins s σ H v u Q I r hw
 obtain ⟨a,xs,e1,hq,hl,hw⟩:=hw
 subst e1
 cases r
 obtain ⟨its,rv,ht,hz⟩:=I.tuple hq
 refine assign_Tuple_tuple (I.ok.hd hc) ht (by simp [hn,← hl,rv.length]) hst fun h' hx=>?_
 have I1:Inv X pins σ H { s with heap:=h' }:=I.kept (t':=s.toks) fun b o e=>hx b o (Nat.ne_of_lt (Heap.lt_size e)) e
 exact h pins _ σ H xs _ Q I1 (by simpa using rv) hw
def aLU (te:TE) (g:TG):TS:=fun D σ H=>te σ H fun x H1=>g x σ H1 D.nx
theorem aHW {tg e:Expr} {te:TE} {g:TG} (he:PE X e te) (hg:PG X tg g) (hs:swapsWithSole [tg] e pos.line X.env = pure false:=by rfl) (hw:swappedStores [tg] e X.env = pure none:=by rfl)
  (h1:(assignEach [tg] X.env).map (·.2) = [assign tg X.env]:=by rfl):PS X (.Assign [tg] e pos) (aLU te g):=by
 intro pins s σ H D I h
 refine wpAny_Assign_stores (thn (he pins s σ H _ I h) fun v s1 ⟨x,H1,I1,r1,q1⟩=>?_) hs hw
 rw [h1]
 exact thn (hg pins s1 σ H1 x v _ I1 r1 q1) fun _ s2 q=>q
theorem aY {i:Nat} {x:Str} {e:Expr} {te:TE} {pos':Pos} (hN:X.N.Nodup) (hi:X.N[i]? = some x) (hx:Loc X.env.scope x) (he:PE X e te) (hs:swapsWith e (some (.Name x pos')) pos.line X.env = pure false:=by rfl) (hf:X.fn x = true ∨ X.env.scope.names.lookup x = some .local:=by first | exact .inl rfl | exact .inr rfl | assumption) :
  PS X (.Assign [.Name x pos'] e pos) (aLU te (qA i)):=by
 intro pins s σ H D I h
 refine wpAny_Assign_Name (thn (he pins s σ H _ I h) fun v s1 ⟨y,H1,I1,r1,q1⟩=>?_) hs
 exact aAG I1 hN hi hx r1 (fun s2 I2=>⟨_,H1,I2,q1⟩) hf
end
section
variable {X:Cx} {pos:Pos}
end
structure It where
 go:Nat → Hp → Prop
 yld:Nat → Hp → V → Hp → Prop
 stop:Nat → Hp → Prop
def aAB (X:Cx) (pins:List (Addr × Obj)) (H:Hp) (b:Addr):Prop :=
 H b = none ∧ b ≠ X.env.locals ∧ b ∉ X.fs ∧ (b ∈ X.ex ∨ X.s₀.heap.objs.size ≤ b) ∧ (∀ x c,X.env.cells.lookup x = some c → c ≠ b) ∧ ∀ p ∈ X.pn ++ pins,p.1 ≠ b
theorem Inv.fpOk {X:Cx} {pins:List (Addr × Obj)} {σ:St} {H H':Hp} {s:Shared} {b:Addr} (I:Inv X pins σ H s) (hb:s.heap.objs.size ≤ b) (hn:H' b = none):aAB X pins H' b:=by
 refine ⟨hn,Nat.ne_of_gt (Nat.lt_of_lt_of_le I.lt hb),I.nofs hb,.inr (Nat.le_trans I.sz hb),fun x c e z=>?_,fun p hp z=>?_⟩
 ·obtain ⟨v,q⟩:=I.cell x c e
  exact absurd (Nat.lt_of_lt_of_le q.lt (by rw [z];exact hb)) (Nat.lt_irrefl _)
 ·exact absurd (Nat.lt_of_lt_of_le (Heap.lt_size (I.pin p hp).1) (by rw [z];exact hb)) (Nat.lt_irrefl _)
structure Turn (P:Program) (w:World) (K:PySem.W.Frag) (tg:Expr) (J:It) (fp:List Addr) (it:Addr) (tn:Nat → Heap → Prop):Prop where
 mem:it ∈ fp
 obj:∀ i h,tn i h → ∀ b ∈ fp,∃ o,h.get? b = some o ∧ ∀ v,o.data ≠ .cell v
 keep:∀ i h h',tn i h → (∀ b ∈ fp,∀ o,h.get? b = some o → h'.get? b = some o) → tn i h'
 item:∀ (X:Cx),X.prog = P → X.w = w → X.K = K → X.calm = true → ∀ (i:Nat) (pins:List (Addr × Obj)) (s:Shared) (σ:St) (H:Hp) (E:Value → Shared → Prop),Inv X pins σ H s → (∀ b ∈ fp,aAB X pins H b) → tn i s.heap → J.go i H →
  wpAny (model P w) X.A (pyNext (.ref it)) (fun r s1=>∃ u,r = some u ∧
   wpAny (model P w) X.A (letOwnedTupleGo tg (.ref it) u) (fun _ s2=>∃ x H',Inv X pins σ H' s2 ∧ bM x u ∧ J.yld i H x H' ∧ tn (i + 1) s2.heap ∧ ∀ b ∈ fp,H' b = none) E s1) E s
 done:∀ (X:Cx),X.prog = P → X.w = w → X.K = K → X.calm = true → ∀ (i:Nat) (pins:List (Addr × Obj)) (s:Shared) (σ:St) (H:Hp) (E:Value → Shared → Prop),Inv X pins σ H s → (∀ b ∈ fp,aAB X pins H b) → tn i s.heap → J.stop i H →
  wpAny (model P w) X.A (pyNext (.ref it)) (fun r s1=>r = none ∧ Inv X pins σ H s1) E s
 self:∀ (A:Around) (i:Nat) (s:Shared) (Q:Value → Shared → Prop) (E:Value → Shared → Prop),tn i s.heap → Q (.ref it) s → wpAny (model P w) A (pyIter (.ref it)) Q E s
abbrev TI:=St → Hp → (It → Hp → Prop) → Prop
def PIE (X:Cx) (pins:List (Addr × Obj)) (σ:St) (tg:Expr) (R:It → Hp → Prop) (itv:Value) (s2:Shared):Prop :=
 ∃ (it:Addr) (fp:List Addr) (tn:Nat → Heap → Prop) (J:It) (H':Hp),itv = .ref it ∧ Inv X pins σ H' s2 ∧ Turn X.prog X.w X.K tg J fp it tn ∧ tn 0 s2.heap ∧ (∀ b ∈ fp,aAB X pins H' b) ∧ R J H'
def PI (X:Cx) (tg iter:Expr) (wi:TI):Prop :=
 ∀ (pins:List (Addr × Obj)) (s:Shared) (σ:St) (H:Hp) (R:It → Hp → Prop),Inv X pins σ H s → wi σ H R →
  wpAny (model X.prog X.w) X.A (eval iter X.env) (fun v s1=>wpAny (model X.prog X.w) X.A (pyIter v) (PIE X pins σ tg R) X.xe s1) X.xe s
theorem aEW {M:Model} {A:Around} {E:Value → Shared → Prop} {s:Shared} {tg:Expr} {it:Addr} {u:Value} {o:Obj} {n:String} {vs:Array Value} {Q:Unit → Shared → Prop} (ho:s.heap.get? it = some o) (hc:o.cls = .type n) (hd:o.data = .fields vs)
    (hn:["enumerate","zip","dict_itemiterator","dict_reverseitemiterator","odict_iterator","itertools.zip_longest","itertools.pairwise"].contains n = false) (hQ:Q () s):wpAny M A (letOwnedTupleGo tg (.ref it) u) Q E s:=by
  unfold letOwnedTupleGo
  cases tg <;> first
    | exact wpAny_pure hQ
    | (cases u <;> first
        | exact wpAny_pure hQ
        | (refine wpAny_bind (wpAny_load ho ?_)
           rw [hc,hd]
           show wpAny M A (if (["enumerate","zip","dict_itemiterator","dict_reverseitemiterator","odict_iterator","itertools.zip_longest","itertools.pairwise"].contains n && vs[0]? == some (rawInt _)) = true then _ else _) Q E s
           rw [if_neg (by intro h;rw [hn,Bool.false_and] at h;cases h)]
           exact wpAny_pure hQ))
def Itl (K:PySem.W.Frag) (a:Addr):It :=
 ⟨fun i H=>∃ xs x,SqL K H a xs ∧ xs[i]? = some x,fun i H x H'=>H' = H ∧ ∀ xs,SqL K H a xs → xs[i]? = some x,fun i H=>∃ xs,SqL K H a xs ∧ xs.length ≤ i⟩
def Itt (K:PySem.W.Frag) (a:Addr):It :=
 ⟨fun i H=>∃ xs x,SqT K H a xs ∧ xs[i]? = some x,fun i H x H'=>H' = H ∧ ∀ xs,SqT K H a xs → xs[i]? = some x,fun i H=>∃ xs,SqT K H a xs ∧ xs.length ≤ i⟩
def Itr (lo:Int) (n:Nat):It:=⟨fun i _=>i < n,fun i H x H'=>H' = H ∧ x = .int (lo + i),fun i _=>n ≤ i⟩
theorem aFF {P:Program} {w:World} {K:PySem.W.Frag} {tg:Expr} (a it:Addr):Turn P w K tg (Itl K a) [it] it (fun i h=>h.IsListIter it a i) where
 mem:=by simp
 obj:=fun i h st b hb=>by
  have e:b = it:=by simpa using hb
  subst e
  obtain ⟨o,e,c,d⟩:=st
  exact ⟨o,e,fun v z=>by rw [d] at z;cases z⟩
 keep:=fun i h h' st k=>st.at fun o e=>k it (by simp) o e
 item:=by
  intro X hP hw hK hc i pins s σ H E I hf st hg
  subst hP hw hK
  obtain ⟨xs,x,hq,hx⟩:=hg
  obtain ⟨its,rv,p,hz⟩:=I.list hq
  obtain ⟨u,hu,ru⟩:=rv.get hx
  obtain ⟨f0,f1,f2,f3,f4,f5⟩:=hf it (by simp)
  refine wpAny_pyNext_list_item st p.isList (x:=u) (by simpa using hu) fun h' st' sb=>?_
  have I1:Inv X pins σ H { s with heap:=h' }:=I.turned (t':=s.toks) (fun b o hb e=>(sb.2 b hb).trans e) f0 f1 f3 f4 f5
  obtain ⟨o,e,c,d⟩:=id st'
  exact ⟨u,rfl,aEW (s:={ s with heap:=h' }) e c d (by decide) ⟨x,H,I1,ru,⟨rfl,fun ys hy=>by rw [I.list_inj hy hq];exact hx⟩,st',fun b hb=>(hf b hb).1⟩⟩
 done:=by
  intro X hP hw hK hc i pins s σ H E I hf st hg
  subst hP hw hK
  obtain ⟨xs,hq,hx⟩:=hg
  obtain ⟨its,rv,p,hz⟩:=I.list hq
  obtain ⟨f0,f1,f2,f3,f4,f5⟩:=hf it (by simp)
  have hl:=rv.length
  exact wpAny_pyNext_list_end (I.ok.hd hc) st p.isList (by simp;omega) fun h' eb=>⟨rfl,I.turned (t':=s.toks) (fun b o hb e=>eb b o hb e) f0 f1 f3 f4 f5⟩
 self:=fun _ _ _ _ _ st h=>wpAny_pyIter_listiter st h
theorem aCO {P:Program} {w:World} {K:PySem.W.Frag} {tg:Expr} (it:Addr) (lo:Int) (n:Nat):Turn P w K tg (Itr lo n) [it] it (fun i h=>IsRangeIter h it (lo + (i:Nat) * 1) ((n:Int) - (i:Nat)) 1) where
 mem:=by simp
 obj:=fun i h st b hb=>by
  have e:b = it:=by simpa using hb
  subst e
  exact ⟨_,st,fun v z=>by
   have z':Data.fields _ = Data.cell v:=z
   cases z'⟩
 keep:=fun i h h' st k=>k it (by simp) _ st
 item:=by
  intro X hP hw hK hc i pins s σ H E I hf st hg
  subst hP hw hK
  obtain ⟨f0,f1,f2,f3,f4,f5⟩:=hf it (by simp)
  have W:=Walks.range (prog:=X.prog) (w:=X.w) (I.ok.hd hc) it lo 1 n
  refine W.item i s _ _ hg st fun v h' tk hv st' kk=>?_
  obtain ⟨t,rfl⟩:=hv
  have I1:Inv X pins σ H { s with heap:=h',toks:=tk }:=I.turned (fun b o hb e=>kk b o (by simpa using hb) e) f0 f1 f3 f4 f5
  refine ⟨_,rfl,aEW (s:={ s with heap:=h',toks:=tk }) (n:="range_iterator") st' rfl rfl (by decide) ⟨.int (lo + i),H,I1,⟨t,?_⟩,⟨rfl,rfl⟩,st',fun b hb=>(hf b hb).1⟩⟩
  rw [Int.mul_one]
 done:=by
  intro X hP hw hK hc i pins s σ H E I hf st hg
  subst hP hw hK
  obtain ⟨f0,f1,f2,f3,f4,f5⟩:=hf it (by simp)
  exact wpAny_pyNext_range_end (I.ok.hd hc) st (by have:n ≤ i:=hg;omega) fun h' eb=>⟨rfl,I.turned (t':=s.toks) (fun b o hb e=>eb b o hb e) f0 f1 f3 f4 f5⟩
 self:=fun _ _ _ _ _ st h=>wpAny_pyIter_rangeiter st h
end L2
namespace L2
open PySem PySem.Spec PyProof.Rows
section
variable {X:Cx} {tg:Expr}
def aIQ (K:PySem.W.Frag) (tl:TE):TI:=fun σ H R=>tl σ H fun x H1=>∃ a,x = .ref a ∧ (∃ xs,SqL K H1 a xs) ∧ R (Itl K a) H1
theorem bK {l:Expr} {tl:TE} (hl:PE X l tl):PI X tg l (aIQ X.K tl):=by
 intro pins s σ H R I h
 refine thn (hl pins s σ H _ I h) fun v s1 ⟨x,H1,I1,r1,q1⟩=>?_
 obtain ⟨a,e,⟨xs,hq⟩,q⟩:=q1
 subst e
 cases r1
 obtain ⟨its,rv,p,hz⟩:=I1.list hq
 refine wpAny_pyIter_list p.isList ?_
 refine ⟨s1.heap.objs.size,[s1.heap.objs.size],_,_,H1,rfl,I1.kept (t':=s1.toks) fun b o e=>Heap.get?_push_of_some _ e,aFF a _,⟨_,Heap.get?_push_size _ rfl,rfl,rfl⟩,fun b hb=>?_,q⟩
 have e:b = s1.heap.objs.size:=by simpa using hb
 subst e
 exact I1.fpOk (Nat.le_refl _) (I1.hok.fresh (Nat.le_refl _))
theorem aHT {pins:List (Addr × Obj)} {σ:St} {H:Hp} {s:Shared} {R:It → Hp → Prop} {E:Value → Shared → Prop} {lo hi:Int} {t u v:Tok} {tk:Nat} (I:Inv X pins σ H s) (h1:-(2 ^ 62) ≤ lo) (h2:lo < 2 ^ 62) (h3:-(2 ^ 62) ≤ hi) (h4:hi < 2 ^ 62)
  (q:R (Itr lo (hi - lo).toNat) H):wpAny (model X.prog X.w) X.A (pyIter (.ref s.heap.objs.size)) (PIE X pins σ tg R) E { s with heap:=s.heap.push { cls:=.type "range",data:=.fields #[.int lo t,.int hi u,.int 1 v] },toks:=tk }:=by
 refine wpAny_pyIter_range (IsRange.new ..) (small_one h1 h2 h3 h4) ?_
 have I1:Inv X pins σ H { s with heap:=s.heap.push { cls:=.type "range",data:=.fields #[.int lo t,.int hi u,.int 1 v] },toks:=tk }:=I.kept fun b o e=>Heap.get?_push_of_some _ e
 refine ⟨(s.heap.push { cls:=.type "range",data:=.fields #[.int lo t,.int hi u,.int 1 v] }).objs.size,[(s.heap.push { cls:=.type "range",data:=.fields #[.int lo t,.int hi u,.int 1 v] }).objs.size],_,_,H,rfl,
  I1.kept (t':=tk) fun b o e=>Heap.get?_push_of_some _ e,aCO _ lo (hi - lo).toNat,?_,fun b hb=>?_,q⟩
 ·have e1:lo + ((0:Nat):Int) * 1 = lo:=by simp
  have e2:(((hi - lo).toNat:Nat):Int) - ((0:Nat):Int) = Builtin.Range.rangeSize lo hi 1:=by rw [rangeSize_one];split <;> omega
  show IsRangeIter _ _ (lo + ((0:Nat):Int) * 1) ((((hi - lo).toNat:Nat):Int) - ((0:Nat):Int)) 1
  rw [e1,e2]
  exact Heap.get?_push_size _ rfl
 ·have e:b = (s.heap.push { cls:=.type "range",data:=.fields #[.int lo t,.int hi u,.int 1 v] }).objs.size:=by simpa using hb
  subst e
  exact I1.fpOk (Nat.le_refl _) (I1.hok.fresh (Nat.le_refl _))
def aOE (ta:TA):TI:=fun σ H R=>ta σ H fun vs H1=>∃ j:Int,vs = [.int j] ∧ -(2 ^ 62) ≤ j ∧ j < 2 ^ 62 ∧ R (Itr 0 j.toNat) H1
theorem gJ {a:Expr} {ta:TA} {p pos:Pos} (hg:Gl X "range") (hm:X.mg "range" = none) (ha:PA X [a] ta) (hs:starEach [a] X.env = [(false,eval a X.env)]:=by rfl):PI X tg (.Call (.Name "range" p) [a] [] pos) (aOE ta):=by
 intro pins s σ H R I h
 refine Call_ (zN I hg hm boot_range (PyProof.Rows.callWith_type1 (thn (ha pos pins s σ H _ I h) fun us s1 ⟨vs,H1,I1,r1,q1⟩=>?_) hs rfl))
 obtain ⟨j,e,q1,q2,q⟩:=q1
 subst e
 cases r1 with
 | cons r rr =>
  cases rr
  obtain ⟨t,rfl⟩:=r
  exact call_range_1 (aHT I1 (by omega) (by omega) q1 q2 (by simpa using q))
def aOW (wi:TI) (g:TG) (tb:TS):TS:=fun D σ H=>wi σ H fun J H1=>∃ W:Nat → Nat → St → Hp → Prop,(∃ m,W 0 m σ H1) ∧ ∀ i m σ H,W i m σ H →
 (J.stop i H ∧ D.nx σ H) ∨ (J.go i H ∧ ∃ N:St → Hp → Prop,(∀ σ' H',N σ' H' → ∃ m',m' < m ∧ W (i + 1) m' σ' H') ∧ ∀ x H',J.yld i H x H' → g x σ H' fun σ2 H2=>tb { D with nx:=N,ct:=N,bk:=D.nx } σ2 H2)
def oQ (fp:List Addr) (h:Heap):List (Addr × Obj):=fp.filterMap fun b=>(h.get? b).map fun o=>(b,o)
theorem nP {fp:List Addr} {h:Heap} {b:Addr} {o:Obj} (hb:b ∈ fp) (e:h.get? b = some o):(b,o) ∈ oQ fp h:=List.mem_filterMap.mpr ⟨b,hb,by rw [e];rfl⟩
theorem xQ {fp:List Addr} {h:Heap} {p:Addr × Obj} (hp:p ∈ oQ fp h):p.1 ∈ fp ∧ h.get? p.1 = some p.2:=by
 obtain ⟨b,hb,e⟩:=List.mem_filterMap.mp hp
 cases q:h.get? b with
 | none=>rw [q] at e;cases e
 | some o =>
  rw [q] at e
  have e':(b,o) = p:=Option.some.inj e
  subst e'
  exact ⟨hb,q⟩
theorem Inv.pinned {pins:List (Addr × Obj)} {σ:St} {H:Hp} {s:Shared} {fp:List Addr} (I:Inv X pins σ H s) (hf:∀ b ∈ fp,aAB X pins H b) (ho:∀ b ∈ fp,∃ o,s.heap.get? b = some o ∧ ∀ v,o.data ≠ .cell v):Inv X (pins ++ oQ fp s.heap) σ H s :=
 I.pins_of fun p hp=>(List.mem_append.mp hp).elim (fun z=>I.pin p (List.mem_append_right _ z)) fun z=>by
  obtain ⟨hb,e⟩:=xQ z
  obtain ⟨f0,f1,f2,_⟩:=hf p.1 hb
  obtain ⟨o,e',d⟩:=ho p.1 hb
  rw [e] at e';cases e'
  exact ⟨e,f0,f1,f2,d⟩
theorem Inv.unpinned {pins pl:List (Addr × Obj)} {σ:St} {H:Hp} {s:Shared} (I:Inv X (pins ++ pl) σ H s):Inv X pins σ H s:=I.pins_of fun p hp=>I.pin p (List.mem_append_right _ (List.mem_append_left _ hp))
theorem eC {iter:Expr} {body:List Stmt} {wi:TI} {g:TG} {tb:TS} {pos:Pos} (hp:PassesOwn (model X.prog X.w) X.A X.env X.xe) (hc:X.calm = true) (hi:PI X tg iter wi) (hg:PG X tg g) (hb:PSs X body tb)
  (hs:∀ x,foldedSetIterable iter X.env x = pure x:=by intro _;rfl):PS X (.For tg iter body [] pos) (aOW wi g tb):=by
 intro pins s σ H D I h
 refine wpAny_For (thn (hi pins s σ H _ I h) fun v s1 h1=>thn h1 fun itv s2 h2=>?_) hs
 obtain ⟨it,fp,tn,J,H2,e,I2,T,st2,f2,W,⟨m0,w0⟩,turn⟩:=h2
 subst e
 have stat:∀ {H':Hp},(∀ b ∈ fp,H' b = none) → ∀ b ∈ fp,aAB X pins H' b:=fun hn b hb=>⟨hn b hb,(f2 b hb).2⟩
 refine codeAny_forLoop_any (fun n s'=>∃ i σ' H',Inv X pins σ' H' s' ∧ tn i s'.heap ∧ (∀ b ∈ fp,H' b = none) ∧ W i n σ' H') ?_ m0 ⟨0,σ,H2,I2,st2,fun b hb=>(f2 b hb).1,w0⟩
 rintro n s3 ⟨i,σ3,H3,I3,st3,fr3,w3⟩
 rcases turn i n σ3 H3 w3 with ⟨stop,qn⟩ | ⟨go,N,hN,step⟩
 ·refine wpAny_passesOwn hp (thn (T.done X rfl rfl rfl hc i pins s3 σ3 H3 X.xe I3 (stat fr3) st3 stop) fun r s4 ⟨hr,I4⟩=>?_)
  subst hr
  exact wpAny_execs_nil ⟨σ3,H3,I4,qn⟩
 ·refine wpAny_passesOwn hp (thn (T.item X rfl rfl rfl hc i pins s3 σ3 H3 X.xe I3 (stat fr3) st3 go) fun r s4 ⟨u,hr,h4⟩=>?_)
  subst hr
  refine wpAny_passesOwn hp (thn h4 fun _ s5 ⟨x,H5,I5,r5,y5,st5,fr5⟩=>?_)
  have I5':=I5.pinned (stat fr5) (T.obj _ _ st5)
  refine wpAny_passesOwn hp (thn (hg _ s5 σ3 H5 x u _ I5' r5 (step x H5 y5)) fun _ s6 ⟨σ6,H6,I6,q6⟩=>?_)
  refine wpAny_passesOwn hp (thn (hb _ s6 σ6 H6 _ I6 q6) fun f s7 q7=>?_)
  have again:∀ {σ7:St} {H7:Hp},Inv X (pins ++ oQ fp s5.heap) σ7 H7 s7 → N σ7 H7 → ∃ m,m < n ∧ ∃ i σ' H',Inv X pins σ' H' s7 ∧ tn i s7.heap ∧ (∀ b ∈ fp,H' b = none) ∧ W i m σ' H':=fun {σ7 H7} I7 n7=>by
   obtain ⟨m',hm,w7⟩:=hN σ7 H7 n7
   refine ⟨m',hm,i + 1,σ7,H7,I7.unpinned,T.keep _ _ _ st5 fun b hb o e=>(I7.pin (b,o) (List.mem_append_right _ (List.mem_append_right _ (nP hb e)))).1,fun b hb=>?_,w7⟩
   obtain ⟨o,e,d⟩:=T.obj _ _ st5 b hb
   exact (I7.pin (b,o) (List.mem_append_right _ (List.mem_append_right _ (nP hb e)))).2.1
  cases f with
  | next=>obtain ⟨σ7,H7,I7,n7⟩:=q7;exact again I7 n7
  | cont=>obtain ⟨σ7,H7,I7,n7⟩:=q7;exact again I7 n7
  | brk=>obtain ⟨σ7,H7,I7,q7⟩:=q7;exact ⟨σ7,H7,I7.unpinned,q7⟩
  | ret v=>obtain ⟨x7,σ7,H7,I7,r7,q7⟩:=q7;exact ⟨x7,σ7,H7,I7.unpinned,r7,q7⟩
end
theorem dQ {K:PySem.W.Frag} {a:Addr} {xs:List V} {g:TG} {tb:TS} {D:Ends} {σ:St} {H:Hp} (Pv:Nat → St → Hp → Prop) (h0:Pv 0 σ H) (hl:∀ i σ H,i ≤ xs.length → Pv i σ H → SqL K H a xs)
  (hs:∀ i x σ H,xs[i]? = some x → Pv i σ H → g x σ H fun σ2 H2=>tb { D with nx:=Pv (i + 1),ct:=Pv (i + 1),bk:=D.nx } σ2 H2) (hd:∀ σ H,Pv xs.length σ H → D.nx σ H) :
  ∃ W:Nat → Nat → St → Hp → Prop,(∃ m,W 0 m σ H) ∧ ∀ i m σ H,W i m σ H →
   ((Itl K a).stop i H ∧ D.nx σ H) ∨ ((Itl K a).go i H ∧ ∃ N:St → Hp → Prop,(∀ σ' H',N σ' H' → ∃ m',m' < m ∧ W (i + 1) m' σ' H') ∧ ∀ x H',(Itl K a).yld i H x H' → g x σ H' fun σ2 H2=>tb { D with nx:=N,ct:=N,bk:=D.nx } σ2 H2):=by
 refine ⟨fun i m σ H=>m = xs.length - i ∧ i ≤ xs.length ∧ Pv i σ H,⟨xs.length,by simp,Nat.zero_le _,h0⟩,?_⟩
 rintro i m σ H ⟨rfl,hi,p⟩
 have q:=hl i σ H hi p
 by_cases hlt:i < xs.length
 ·refine .inr ⟨⟨xs,xs[i],q,by simp [hlt]⟩,Pv (i + 1),fun σ' H' p'=>⟨xs.length - (i + 1),by omega,rfl,hlt,p'⟩,fun x H' y=>?_⟩
  obtain ⟨e,y⟩:=y
  subst e
  exact hs i x σ _ (y xs q) p
 ·have e:i = xs.length:=by omega
  subst e
  exact .inl ⟨⟨xs,q,Nat.le_refl _⟩,hd σ H p⟩
theorem jA {lo:Int} {n:Nat} {g:TG} {tb:TS} {D:Ends} {σ:St} {H:Hp} (Pv:Nat → St → Hp → Prop) (h0:Pv 0 σ H)
  (hs:∀ i σ H,i < n → Pv i σ H → g (.int (lo + i)) σ H fun σ2 H2=>tb { D with nx:=Pv (i + 1),ct:=Pv (i + 1),bk:=D.nx } σ2 H2) (hd:∀ σ H,Pv n σ H → D.nx σ H) :
  ∃ W:Nat → Nat → St → Hp → Prop,(∃ m,W 0 m σ H) ∧ ∀ i m σ H,W i m σ H →
   ((Itr lo n).stop i H ∧ D.nx σ H) ∨ ((Itr lo n).go i H ∧ ∃ N:St → Hp → Prop,(∀ σ' H',N σ' H' → ∃ m',m' < m ∧ W (i + 1) m' σ' H') ∧ ∀ x H',(Itr lo n).yld i H x H' → g x σ H' fun σ2 H2=>tb { D with nx:=N,ct:=N,bk:=D.nx } σ2 H2):=by
 refine ⟨fun i m σ H=>m = n - i ∧ i ≤ n ∧ Pv i σ H,⟨n,by simp,Nat.zero_le _,h0⟩,?_⟩
 rintro i m σ H ⟨rfl,hi,p⟩
 by_cases hlt:i < n
 ·refine .inr ⟨hlt,Pv (i + 1),fun σ' H' p'=>⟨n - (i + 1),by omega,rfl,hlt,p'⟩,fun x H' y=>?_⟩
  obtain ⟨e,y⟩:=y
  subst e y
  exact hs i σ _ hlt p
 ·have e:i = n:=by omega
  subst e
  exact .inl ⟨Nat.le_refl _,hd σ H p⟩
end L2
namespace L2
open PySem PySem.Spec PyProof.Rows
abbrev R2:=V → V → Hp → VK → Prop
def OpR (X:Cx) (f:Value → Value → Sem Value) (r:R2):Prop :=
 ∀ (pins:List (Addr × Obj)) (s:Shared) (σ:St) (H:Hp) (x y:V) (v u:Value) (Q:VK),Inv X pins σ H s → bM x v → bM y u → r x y H Q →
  wpAny (model X.prog X.w) X.A (f v u) (EP X pins σ Q) X.xe s
def UnR (X:Cx) (f:Value → Sem Value) (r:V → Hp → VK → Prop):Prop :=
 ∀ (pins:List (Addr × Obj)) (s:Shared) (σ:St) (H:Hp) (x:V) (v:Value) (Q:VK),Inv X pins σ H s → bM x v → r x H Q →
  wpAny (model X.prog X.w) X.A (f v) (EP X pins σ Q) X.xe s
def iF (X:Cx) (f:Value) (r:List V → Hp → VK → Prop):Prop :=
 ∀ (pins:List (Addr × Obj)) (s:Shared) (σ:St) (H:Hp) (xs:List V) (us:List Value) (Q:VK),Inv X pins σ H s → bS xs us → r xs H Q →
  wpAny (model X.prog X.w) X.A (call f us) (EP X pins σ Q) X.xe s
def tOp (r:R2) (ta tb:TE):TE:=fun σ H Q=>ta σ H fun x H1=>tb σ H1 fun y H2=>r x y H2 Q
def tUn (r:V → Hp → VK → Prop) (ta:TE):TE:=fun σ H Q=>ta σ H fun x H1=>r x H1 Q
def rI (C:Int → Int → Prop) (g:Int → Int → V):R2:=fun x y H Q=>∃ i j,x = .int i ∧ y = .int j ∧ C i j ∧ Q (g i j) H
def rI0 (g:Int → Int → V):R2:=fun x y H Q=>∃ i j,x = .int i ∧ y = .int j ∧ Q (g i j) H
def rU (g:Int → V):V → Hp → VK → Prop:=fun x H Q=>∃ i,x = .int i ∧ Q (g i) H
section
variable {X:Cx} {a b c:Expr} {ta tb tc:TE} {pos:Pos}
theorem aMR (ha:PE X a ta) (hb:PE X b tb) {pins:List (Addr × Obj)} {s:Shared} {σ:St} {H:Hp} {R:V → V → Hp → Prop} (I:Inv X pins σ H s)
  (h:ta σ H fun x H1=>tb σ H1 fun y H2=>R x y H2) {Q:Value → Shared → Prop} {f:Value → Value → Sem Value}
  (hf:∀ v u s2 x y H2,Inv X pins σ H2 s2 → bM x v → bM y u → R x y H2 → wpAny (model X.prog X.w) X.A (f v u) Q X.xe s2) :
  wpAny (model X.prog X.w) X.A (eval a X.env) (fun v s₁=>wpAny (model X.prog X.w) X.A (eval b X.env) (fun u s₂=>wpAny (model X.prog X.w) X.A (f v u) Q X.xe s₂) X.xe s₁) X.xe s:=by
 refine thn (ha pins s σ H _ I h) fun v s1 ⟨x,H1,I1,r1,q1⟩=>?_
 refine thn (hb pins s1 σ H1 _ I1 q1) fun u s2 ⟨y,H2,I2,r2,q2⟩=>?_
 exact hf v u s2 x y H2 I2 r1 r2 q2
theorem aR {op:Operator} {r:R2} (ho:OpR X (binaryOp op) r) (ha:PE X a ta) (hb:PE X b tb):PE X (.BinOp a op b pos) (tOp r ta tb):=by
 intro pins s σ H Q I h
 exact wpAny_BinOp (aMR ha hb I h fun v u s2 x y H2 I2 rx ry q=>ho pins s2 σ H2 x y v u Q I2 rx ry q)
theorem aLI {op:UnaryOp} {r:V → Hp → VK → Prop} (ho:UnR X (unaryOp op) r) (ha:PE X a ta):PE X (.UnaryOp op a pos) (tUn r ta):=by
 intro pins s σ H Q I h
 exact UnaryOp_ (thn (ha pins s σ H _ I h) fun v s1 ⟨x,H1,I1,r1,q1⟩=>ho pins s1 σ H1 x v Q I1 r1 q1)
theorem opI {f:Value → Value → Sem Value} {C:Int → Int → Prop} {g:Int → Int → Int}
  (rule:∀ (i j:Int) (t u:Tok) (s:Shared) (Q:Value → Shared → Prop) (E:Value → Shared → Prop),C i j → Q (.int (g i j) s.toks) { s with toks:=s.toks + 1 } → wpAny (model X.prog X.w) X.A (f (.int i t) (.int j u)) Q E s) :
  OpR X f (rI C fun i j=>.int (g i j)):=by
 intro pins s σ H x y v u Q I rx ry h
 obtain ⟨i,j,rfl,rfl,hc,q⟩:=h
 obtain ⟨t,rfl⟩:=rx
 obtain ⟨t',rfl⟩:=ry
 exact rule i j t t' s _ _ hc ⟨.int (g i j),H,I.tok _,⟨_,rfl⟩,q⟩
theorem aNV {f:Value → Value → Sem Value} {g:Int → Int → Int}
  (rule:∀ (i j:Int) (t u:Tok) (s:Shared) (Q:Value → Shared → Prop) (E:Value → Shared → Prop),Q (.int (g i j) s.toks) { s with toks:=s.toks + 1 } → wpAny (model X.prog X.w) X.A (f (.int i t) (.int j u)) Q E s) :
  OpR X f (rI0 fun i j=>.int (g i j)):=by
 intro pins s σ H x y v u Q I rx ry h
 obtain ⟨i,j,rfl,rfl,q⟩:=h
 obtain ⟨t,rfl⟩:=rx
 obtain ⟨t',rfl⟩:=ry
 exact rule i j t t' s _ _ ⟨.int (g i j),H,I.tok _,⟨_,rfl⟩,q⟩
theorem aKC {f:Value → Value → Sem Value} {g:Int → Int → Bool}
  (rule:∀ (i j:Int) (t u:Tok) (s:Shared) (Q:Value → Shared → Prop) (E:Value → Shared → Prop),Q (.bool (g i j)) s → wpAny (model X.prog X.w) X.A (f (.int i t) (.int j u)) Q E s) :
  OpR X f (rI0 fun i j=>.bl (g i j)):=by
 intro pins s σ H x y v u Q I rx ry h
 obtain ⟨i,j,rfl,rfl,q⟩:=h
 obtain ⟨t,rfl⟩:=rx
 obtain ⟨t',rfl⟩:=ry
 exact rule i j t t' s _ _ ⟨.bl (g i j),H,I,rfl,q⟩
def aPS (i j:Int):Prop:=0 ≤ j ∧ j ≤ 1000000 ∧ i.natAbs < 2 ^ 64
def aMX (i j:Int):Prop:=(-(2 ^ 64) < i ∧ i < 2 ^ 64) ∨ (-(2 ^ 64) < j ∧ j < 2 ^ 64)
theorem aMX.ok {i j:Int} (h:aMX i j):IntMulOk i j:=by
 rcases h with ⟨h1,h2⟩ | ⟨h1,h2⟩
 ·exact .of_left (intBits_le_64 h1 h2)
 ·exact .of_right (intBits_le_64 h1 h2)
theorem eE:OpR X (binaryOp .Add) (rI0 fun i j=>.int (i + j)):=aNV fun _ _ _ _ _ _ _ q=>add_int q
theorem lJ:OpR X (binaryOp .Sub) (rI0 fun i j=>.int (i - j)):=aNV fun _ _ _ _ _ _ _ q=>sub_int q
theorem vF:OpR X (binaryOp .Mult) (rI aMX fun i j=>.int (i * j)):=opI fun _ _ _ _ _ _ _ hc q=>mul_int q hc.ok
theorem cG:OpR X (binaryOp .Mod) (rI (fun _ j=>0 < j) fun i j=>.int (i % j)):=opI fun i j _ _ _ _ _ hc q=>by
 have h1:(0:Int) < j:=hc
 exact mod_int' (by omega) (by rw [Int.fmod_eq_emod_of_nonneg i (by omega)];exact q)
theorem eD:OpR X (binaryOp .Pow) (rI aPS fun i j=>.int (i ^ j.toNat)):=opI fun _ _ _ _ _ _ _ hc q=>pow_int_small hc.1 hc.2.1 hc.2.2 q
theorem unI {f:Value → Sem Value} {g:Int → Int}
  (rule:∀ (i:Int) (t:Tok) (s:Shared) (Q:Value → Shared → Prop) (E:Value → Shared → Prop),Q (.int (g i) s.toks) { s with toks:=s.toks + 1 } → wpAny (model X.prog X.w) X.A (f (.int i t)) Q E s) :
  UnR X f (rU fun i=>.int (g i)):=by
 intro pins s σ H x v Q I rx h
 obtain ⟨i,rfl,q⟩:=h
 obtain ⟨t,rfl⟩:=rx
 exact rule i t s _ _ ⟨.int (g i),H,I.tok _,⟨_,rfl⟩,q⟩
theorem aGT:UnR X (unaryOp .USub) (rU fun i=>.int (-i)):=unI fun _ _ _ _ _ q=>neg_int q
end
def aNM:V → V → Bool
 | .non,.non=>true | .non,.int _=>true | .int _,.non=>true | .non,.bl _=>true | .bl _,.non=>true | .non,.str _=>true | .str _,.non=>true
 | .int _,.int _=>true | .bl _,.bl _=>true | .str _,.str _=>true | .byt _,.byt _=>true
 | .int _,.str _=>true | .str _,.int _=>true | .bl _,.str _=>true | .str _,.bl _=>true
 | _,_=>false
def rEq:R2:=fun x y H Q=>aNM x y = true ∧ Q (.bl (decide (x = y))) H
def rNe:R2:=fun x y H Q=>aNM x y = true ∧ Q (.bl (!decide (x = y))) H
theorem kB {i j:Int}:decide (V.int i = V.int j) = (i == j):=by
 rw [Bool.eq_iff_iff]
 simp
theorem aJF {i j:Bool}:decide (V.bl i = V.bl j) = (i == j):=by
 rw [Bool.eq_iff_iff]
 simp
theorem lF {i j:Str}:decide (V.str i = V.str j) = (i == j):=by
 rw [Bool.eq_iff_iff]
 simp
theorem aEZ {i j:Array UInt8}:decide (V.byt i = V.byt j) = (i.toList == j.toList):=by
 rw [Bool.eq_iff_iff]
 cases i
 cases j
 simp
section
variable {X:Cx} {a b c:Expr} {ta tb tc:TE} {pos:Pos}
theorem cO {pins:List (Addr × Obj)} {σ:St} {H:Hp} {s:Shared} {Q:VK} {k k':Bool} (I:Inv X pins σ H s) (q:Q (.bl k) H) (e:k = k'):EP X pins σ Q (.bool k') s:=by
 subst e
 exact ⟨.bl k,H,I,rfl,q⟩
theorem iD:OpR X (compareOp .Eq) rEq:=by
 intro pins s σ H x y v u Q I rx ry h
 obtain ⟨hs,q⟩:=h
 cases x with
 | non =>
  cases rx
  cases y with
  | non=>cases ry;exact PySem.EqNone.eq_none_none (cO I q (by simp))
  | bl j=>cases ry;exact PySem.EqNone.eq_none_bool (cO I q (by simp))
  | int j=>obtain ⟨t',rfl⟩:=ry;exact PySem.EqNone.eq_none_int (cO I q (by simp))
  | str j=>obtain ⟨t',rfl⟩:=ry;exact PySem.EqNone.eq_none_str (cO I q (by simp))
  | _=>exact absurd (show false = true from hs) Bool.false_ne_true
 | bl i =>
  cases rx
  cases y with
  | non=>cases ry;exact PySem.EqNone.eq_bool_none (cO I q (by simp))
  | bl j=>cases ry;exact eq_bool (cO I q aJF)
  | str j=>obtain ⟨t',rfl⟩:=ry;exact PySem.EqMixed.eq_bool_str (cO I q (by simp))
  | _=>exact absurd (show false = true from hs) Bool.false_ne_true
 | int i =>
  obtain ⟨t,rfl⟩:=rx
  cases y with
  | non=>cases ry;exact PySem.EqNone.eq_int_none (cO I q (by simp))
  | int j=>obtain ⟨t',rfl⟩:=ry;exact eq_int (cO I q kB)
  | str j=>obtain ⟨t',rfl⟩:=ry;exact PySem.EqMixed.eq_int_str (cO I q (by simp))
  | _=>exact absurd (show false = true from hs) Bool.false_ne_true
 | str i =>
  obtain ⟨t,rfl⟩:=rx
  cases y with
  | non=>cases ry;exact PySem.EqNone.eq_str_none (cO I q (by simp))
  | bl j=>cases ry;exact PySem.EqMixed.eq_str_bool (cO I q (by simp))
  | int j=>obtain ⟨t',rfl⟩:=ry;exact PySem.EqMixed.eq_str_int (cO I q (by simp))
  | str j=>obtain ⟨t',rfl⟩:=ry;exact eq_str (cO I q lF)
  | _=>exact absurd (show false = true from hs) Bool.false_ne_true
 | byt i =>
  obtain ⟨t,rfl⟩:=rx
  cases y with
  | byt j=>obtain ⟨t',rfl⟩:=ry;exact PySem.W.eq_bytes (cO I q aEZ)
  | _=>exact absurd (show false = true from hs) Bool.false_ne_true
 | _=>cases y <;> exact absurd (show false = true from hs) Bool.false_ne_true
theorem oS:OpR X (compareOp .NotEq) rNe:=by
 intro pins s σ H x y v u Q I rx ry h
 obtain ⟨hs,q⟩:=h
 cases x with
 | non =>
  cases rx
  cases y with
  | non=>cases ry;exact PySem.EqNone.ne_none_none (cO I q (by simp))
  | bl j=>cases ry;exact PySem.EqNone.ne_none_bool (cO I q (by simp))
  | int j=>obtain ⟨t',rfl⟩:=ry;exact PySem.EqNone.ne_none_int (cO I q (by simp))
  | str j=>obtain ⟨t',rfl⟩:=ry;exact PySem.EqNone.ne_none_str (cO I q (by simp))
  | _=>exact absurd (show false = true from hs) Bool.false_ne_true
 | bl i =>
  cases rx
  cases y with
  | non=>cases ry;exact PySem.EqNone.ne_bool_none (cO I q (by simp))
  | bl j=>cases ry;exact ne_bool (cO I q (congrArg not aJF))
  | str j=>obtain ⟨t',rfl⟩:=ry;exact PySem.EqMixed.ne_bool_str (cO I q (by simp))
  | _=>exact absurd (show false = true from hs) Bool.false_ne_true
 | int i =>
  obtain ⟨t,rfl⟩:=rx
  cases y with
  | non=>cases ry;exact PySem.EqNone.ne_int_none (cO I q (by simp))
  | int j=>obtain ⟨t',rfl⟩:=ry;exact ne_int (cO I q (congrArg not kB))
  | str j=>obtain ⟨t',rfl⟩:=ry;exact PySem.EqMixed.ne_int_str (cO I q (by simp))
  | _=>exact absurd (show false = true from hs) Bool.false_ne_true
 | str i =>
  obtain ⟨t,rfl⟩:=rx
  cases y with
  | non=>cases ry;exact PySem.EqNone.ne_str_none (cO I q (by simp))
  | bl j=>cases ry;exact PySem.EqMixed.ne_str_bool (cO I q (by simp))
  | int j=>obtain ⟨t',rfl⟩:=ry;exact PySem.EqMixed.ne_str_int (cO I q (by simp))
  | str j=>obtain ⟨t',rfl⟩:=ry;exact ne_str (cO I q (congrArg not lF))
  | _=>exact absurd (show false = true from hs) Bool.false_ne_true
 | byt i =>
  obtain ⟨t,rfl⟩:=rx
  cases y with
  | byt j=>obtain ⟨t',rfl⟩:=ry;exact PySem.W.ne_bytes (cO I q (congrArg not aEZ))
  | _=>exact absurd (show false = true from hs) Bool.false_ne_true
 | _=>cases y <;> exact absurd (show false = true from hs) Bool.false_ne_true
theorem sP:OpR X (compareOp .Lt) (rI0 fun i j=>.bl (decide (i < j))):=aKC fun _ _ _ _ _ _ _ q=>lt_int q
theorem oT:OpR X (compareOp .LtE) (rI0 fun i j=>.bl (decide (i ≤ j))):=aKC fun _ _ _ _ _ _ _ q=>le_int q
theorem aBE:OpR X (compareOp .Gt) (rI0 fun i j=>.bl (decide (j < i))):=aKC fun _ _ _ _ _ _ _ q=>gt_int q
theorem aNU:OpR X (compareOp .GtE) (rI0 fun i j=>.bl (decide (j ≤ i))):=aKC fun _ _ _ _ _ _ _ q=>ge_int q
theorem aFS:OpR X (compareOp .In) (fun x y H Q=>∃ i j,x = .str i ∧ y = .str j ∧ Q (.bl (!(Builtin.Str.occurrences j i 0 j.length 1).isEmpty)) H):=by
 intro pins s σ H x y v u Q I rx ry h
 obtain ⟨i,j,rfl,rfl,q⟩:=h
 obtain ⟨t,rfl⟩:=rx
 obtain ⟨t',rfl⟩:=ry
 exact in_str (cO I q rfl)
theorem zD:OpR X (compareOp .Is) (fun x y H Q=>y = .non ∧ Q (.bl (decide (x = .non))) H):=by
 intro pins s σ H x y v u Q I rx ry h
 obtain ⟨rfl,q⟩:=h
 cases ry
 refine is_none_gen (cO I q ?_)
 cases x <;> first
  | (cases rx;rfl)
  | (obtain ⟨t,rfl⟩:=rx;rfl)
theorem pP:OpR X (compareOp .IsNot) (fun x y H Q=>y = .non ∧ Q (.bl (!decide (x = .non))) H):=by
 intro pins s σ H x y v u Q I rx ry h
 obtain ⟨rfl,q⟩:=h
 cases ry
 refine isnot_none_gen (cO I q ?_)
 cases x <;> first
  | (cases rx;rfl)
  | (obtain ⟨t,rfl⟩:=rx;rfl)
theorem bF (b:Expr) {op:CmpOp} (h:op ≠ .In:=by decide) (h2:op ≠ .NotIn:=by decide):behindInMarks op b = false:=by
 have e1:(op == CmpOp.In) = false:=by cases op <;> first | rfl | exact absurd rfl h
 have e2:(op == CmpOp.NotIn) = false:=by cases op <;> first | rfl | exact absurd rfl h2
 cases b <;> simp [behindInMarks,e1,e2]
theorem cB {op:CmpOp} {r:R2} (ho:OpR X (compareOp op) r) (ha:PE X a ta) (hb:PE X b tb) (hm:behindInMarks op b = false):PE X (.Compare a [op] [b] pos) (tOp r ta tb):=by
 intro pins s σ H Q I h
 exact wpAny_Compare1 (aMR ha hb I h fun v u s2 x y H2 I2 rx ry q=>ho pins s2 σ H2 x y v u Q I2 rx ry q) hm
def aKV (t:TE):TT:=fun σ H Q=>t σ H fun x H'=>∃ k,x = .bl k ∧ Q k H'
theorem bH {op:CmpOp} {r:R2} (ho:OpR X (compareOp op) r) (ha:PE X a ta) (hb:PE X b tb) (hm:behindInMarks op b = false):PT X (.Compare a [op] [b] pos) (aKV (tOp r ta tb)):=by
 intro pins s σ H Q I h
 refine wpAny_isTrue_Compare1 (thn (ha pins s σ H _ I h) fun v s1 ⟨x,H1,I1,r1,q1⟩=>thn (hb pins s1 σ H1 _ I1 q1) fun u s2 ⟨y,H2,I2,r2,q2⟩ =>
  thn (ho pins s2 σ H2 x y v u _ I2 r1 r2 q2) fun c s3 ⟨z,H3,I3,r3,k,e,q3⟩=>?_) hm
 subst e
 cases r3
 exact wpAny_truthy_bool ⟨H3,I3,q3⟩
def aGW (r r':R2) (ta tb tc:TE):TE:=fun σ H Q=>ta σ H fun x H1=>tb σ H1 fun y H2=>r x y H2 fun z H3=>∃ k,z = .bl k ∧
 (if k = true then tc σ H3 fun w' H4=>r' y w' H4 Q else Q (.bl false) H3)
theorem oR {op op':CmpOp} {r r':R2} (ho:OpR X (compareOp op) r) (ho':OpR X (compareOp op') r') (ha:PE X a ta) (hb:PE X b tb) (hc:PE X c tc)
  (hm:lastMarks [op,op'] [b,c] = false:=by with_unfolding_all rfl):PE X (.Compare a [op,op'] [b,c] pos) (aGW r r' ta tb tc):=by
 intro pins s σ H Q I h
 refine Compare_chain (thn (ha pins s σ H _ I h) fun v s1 ⟨x,H1,I1,r1,q1⟩=>chain_link (thn (hb pins s1 σ H1 _ I1 q1) fun u s2 ⟨y,H2,I2,r2,q2⟩ =>
  thn (ho pins s2 σ H2 x y v u _ I2 r1 r2 q2) fun d s3 ⟨z,H3,I3,r3,k,e,q3⟩=>?_)) hm
 subst e
 cases r3
 refine wpAny_truthy_bool ?_
 cases k with
 | false=>exact ite_ff ⟨.bl false,H3,I3,rfl,q3⟩
 | true=>exact ite_tt (chain_last (thn (hc pins s3 σ H3 _ I3 q3) fun w' s4 ⟨z',H4,I4,r4,q4⟩=>ho' pins s4 σ H4 y z' u w' Q I4 r2 r4 q4))
theorem aHV {op op':CmpOp} {r r':R2} (ho:OpR X (compareOp op) r) (ho':OpR X (compareOp op') r') (ha:PE X a ta) (hb:PE X b tb) (hc:PE X c tc)
  (hm:lastMarks [op,op'] [b,c] = false:=by with_unfolding_all rfl):PT X (.Compare a [op,op'] [b,c] pos) (aKV (aGW r r' ta tb tc)):=by
 intro pins s σ H Q I h
 refine isTrue_chain (thn (ha pins s σ H _ I h) fun v s1 ⟨x,H1,I1,r1,q1⟩=>test_link (thn (hb pins s1 σ H1 _ I1 q1) fun u s2 ⟨y,H2,I2,r2,q2⟩ =>
  thn (ho pins s2 σ H2 x y v u _ I2 r1 r2 q2) fun d s3 ⟨z,H3,I3,r3,k,e,q3⟩=>?_)) hm
 subst e
 cases r3
 refine wpAny_truthy_bool ?_
 cases k with
 | false =>
  obtain ⟨k',e',q'⟩:=q3
  cases e'
  exact ite_ff ⟨H3,I3,q'⟩
 | true =>
  refine ite_tt (test_last (thn (hc pins s3 σ H3 _ I3 q3) fun w' s4 ⟨z',H4,I4,r4,q4⟩=>thn (ho' pins s4 σ H4 y z' u w' _ I4 r2 r4 q4) fun d' s5 ⟨z2,H5,I5,r5,k2,e2,q5⟩=>?_))
  subst e2
  cases r5
  exact wpAny_truthy_bool ⟨H5,I5,q5⟩
theorem vV:(sizeLine:Nat) < 2 ^ 63:=by rw [sizeLine_eq];decide
theorem vG:OpR X (binaryOp .Add) (fun x y H Q=>∃ i j,x = .str i ∧ y = .str j ∧ i.length + j.length ≤ sizeLine ∧ Q (.str (i ++ j)) H):=by
 intro pins s σ H x y v u Q I rx ry h
 obtain ⟨i,j,rfl,rfl,hz,q⟩:=h
 obtain ⟨t,rfl⟩:=rx
 obtain ⟨t',rfl⟩:=ry
 exact add_str (fun t' tk=>⟨.str (i ++ j),H,I.tok _,⟨_,rfl⟩,q⟩) hz
theorem aGQ {x:V} {us:List Value} (r:bS [x] us):∃ u,us = [u] ∧ bM x u:=by
 cases r with
 | cons r1 r2=>cases r2;exact ⟨_,rfl,r1⟩
theorem aGP {x y:V} {us:List Value} (r:bS [x,y] us):∃ u w',us = [u,w'] ∧ bM x u ∧ bM y w':=by
 cases r with
 | cons r1 r2 =>
  cases r2 with
  | cons r3 r4=>cases r4;exact ⟨_,_,rfl,r1,r3⟩
theorem mV (hc:X.calm = true):iF X (.builtin "max") (fun xs H Q=>∃ i j,xs = [.int i,.int j] ∧ Q (.int (if j > i then j else i)) H):=by
 intro pins s σ H xs us Q I r h
 obtain ⟨i,j,rfl,q⟩:=h
 obtain ⟨u,w',rfl,⟨t,rfl⟩,⟨t',rfl⟩⟩:=aGP r
 refine max_two_ints (I.ok.hd hc) fun h' tk k=>⟨_,H,I.kept k,?_,q⟩
 by_cases hj:j > i
 ·rw [if_pos hj,if_pos hj];exact ⟨_,rfl⟩
 ·rw [if_neg hj,if_neg hj];exact ⟨_,rfl⟩
theorem mU (hc:X.calm = true):iF X (.builtin "min") (fun xs H Q=>∃ i j,xs = [.int i,.int j] ∧ Q (.int (if j < i then j else i)) H):=by
 intro pins s σ H xs us Q I r h
 obtain ⟨i,j,rfl,q⟩:=h
 obtain ⟨u,w',rfl,⟨t,rfl⟩,⟨t',rfl⟩⟩:=aGP r
 refine min_two_ints (I.ok.hd hc) fun h' tk k=>⟨_,H,I.kept k,?_,q⟩
 by_cases hj:j < i
 ·rw [if_pos hj,if_pos hj];exact ⟨_,rfl⟩
 ·rw [if_neg hj,if_neg hj];exact ⟨_,rfl⟩
end
end L2
namespace L2
open PySem PySem.Spec PyProof.Rows
structure ObjM (h:Heap) (x dx C:Addr) (mA:Str → Option Value):Prop where
 obj:h.get? x = some (PySem.W.instObj C dx)
 ns:h.Ns1 dx mA
 ne:dx ≠ x
theorem aFW {h:Heap} {dx:Addr} {mA:Str → Option Value} (n:h.Ns1 dx mA):∃ od,h.get? dx = some od ∧ ∀ name,PySem.W.lookIn name od = some (mA name):=by
 obtain ⟨o,es,ep,ho,hd,hk,_,hm⟩:=n
 refine ⟨o,ho,fun name=>?_⟩
 have e:=hm name
 unfold nsFind findBy at e
 rw [← Array.find?_toList] at e
 unfold PySem.W.lookIn
 rw [hd]
 dsimp only
 split
 ·rename_i y q
  rw [q] at e
  exact congrArg some e
 ·rename_i q
  rw [q] at e
  have a:es.toList.any (·.refKey) = false:=by
   rw [List.any_eq_false]
   intro y hy
   obtain ⟨z,t,hkey⟩:=hk y (Array.mem_toList_iff.mp hy)
   simp [DictEntry.refKey,hkey]
  have a':¬ es.toList.any (·.refKey) = true:=by rw [a];exact Bool.false_ne_true
  rw [if_neg a']
  exact congrArg some e
theorem ObjM.look {h:Heap} {x dx C:Addr} {mA:Str → Option Value} (I:ObjM h x dx C mA):∃ od,PySem.W.InstAt h x (PySem.W.instObj C dx) C (some od) ∧ ∀ name,PySem.W.lookIn name od = some (mA name) :=
 let ⟨od,ho,hl⟩:=aFW I.ns
 ⟨od,⟨I.obj,rfl,rfl,ho⟩,hl⟩
section
variable {prog:Program} {w:World} {A:Around} {E:Value → Shared → Prop} {s:Shared} {K:PySem.W.Frag} {x dx C f:Addr} {mA:Str → Option Value} {name:Str} {v:Value}
theorem aKK {expr:Bool} {Q:Value → Shared → Prop} (X:K.In s.heap) (I:ObjM s.heap x dx C mA) (hg:PySem.W.plainGet K C name = true) (hh:PySem.W.hasDictIn K C = true)
  (ha:PySem.W.findIn K (.ref C) name = some none) (hv:mA name = some v) (hv':PySem.W.handedIn v = true) (h:Q v { s with toks:=s.toks + 1 }) :
  wpAny (model prog w) A (getAttr (.ref x) name expr) Q E s:=by
 obtain ⟨od,J,hl⟩:=I.look
 exact PySem.W.get_value X J (PySem.W.plainGet_of hg).1 (PySem.W.findObj_own hh ha rfl (by rw [hl,hv])) hv' h
theorem aIV {pl:Sem Bool} {Q:Value × List Value → Shared → Prop} (X:K.In s.heap) (I:ObjM s.heap x dx C mA) (hg:PySem.W.plainGet K C name = true)
  (hf:PySem.W.findIn K (.ref C) name = some (some (.ref f))) (ht:PySem.W.isFn K (.ref f) = true) (hv:mA name = none) (h:Q (.ref f,[.ref x]) s) :
  wpAny (model prog w) A (getMethod (.ref x) name pl) Q E s:=by
 obtain ⟨od,J,hl⟩:=I.look
 exact PySem.W.method_fn X J (PySem.W.plainGet_of hg).1 (PySem.W.plainGet_of hg).2 hf (beq_iff_eq.mp ht) (by show (PySem.W.lookIn name od).map (·.isSome) = some false;rw [hl,hv];rfl) h
theorem aJS {ns:List Str} {Q:Unit → Shared → Prop} (X:K.In s.heap) (I:ObjM s.heap x dx C mA)
  (hs:PySem.W.findIn K (.ref C) "__setattr__" = some (some (.builtin "object.__setattr__"))) (hp:PySem.W.plainOver K C = true) (ht:PySem.W.takerIn K C name = some none) (hh:PySem.W.hasDictIn K C = true)
  (hw:PySem.Within mA ns) (hsz:ns.length ≤ sizeLine)
  (h:∀ h',ObjM h' x dx C (fun y=>if y = name then some v else mA y) → Heap.SameBut dx s.heap h' → Q () { s with heap:=h',toks:=s.toks + 2 }) :
  wpAny (model prog w) A (setAttr (.ref x) name v) Q E s:=by
 obtain ⟨od,J,hl⟩:=I.look
 refine PySem.W.set_plain X J hs (PySem.W.osa_open (s:={ s with toks:=s.toks + 1 }) (r:=none) X J hp ht fun b=>?_)
 obtain ⟨cd,hc,hd'⟩:=PySem.W.any_some hh
 have hx:s.heap.get? x = some ⟨.ref C,some dx,.plain,#[]⟩:=I.obj
 refine wpAny_bind (wpAny_pure (wpAny_bind (wpAny_bind (wpAny_loadPart hx (wpAny_bind (PySem.W.Looks.here (s:={ s with toks:=s.toks + 1 }) (PySem.W.looks_clsIn X hc) ?_))))))
 rw [hd']
 refine wpAny_pure (a:=some dx) (wpAny_bind (wpAny_pure (wpAny_bind ?_)))
 refine wpAny_nsSet1 (s:={ s with toks:=s.toks + 1 }) I.ns fun h' hn2 hs2=>?_
 obtain ⟨oD,esD,epD,hoD,hdD,hcD⟩:=hn2.count (PySem.Within.cons name v hw)
 refine wpAny_bind (wpAny_lookBehind hoD (by rw [hdD];exact pastItsLine_dict (Nat.le_trans hcD (by rw [List.length_cons];omega))) ?_)
 exact wpAny_pure (h _ ⟨(hs2.2 _ (Ne.symm I.ne)).trans I.obj,hn2,I.ne⟩ hs2)
theorem aIE {R:Result → Shared → Prop} {vs:List Value} {kw:List (Str × Value)} (X:K.In s.heap) (hm:PySem.W.makesIn K C = true)
  (hi:PySem.W.findIn K (.ref C) "__init__" = some (some (.ref f))) (hf:PySem.W.typeIn K (.ref f) = some (.type "function"))
  (h:codeAny (model prog w) (A.under (.builtin "type.__call__" ⟨.ref C :: vs,kw⟩)) (.call (.ref f) ⟨.ref (s.heap.objs.size + 1) :: vs,kw⟩) (PySem.W.InitBack (s.heap.objs.size + 1) R)
   { s with heap:=(s.heap.push PySem.W.emptyDict).push (PySem.W.instObj C s.heap.objs.size) }) :
  codeAny (model prog w) A (.call (.ref C) ⟨vs,kw⟩) R s:=by
 obtain ⟨hh,g,d,t,os⟩:=s
 exact PySem.W.make_core (PySem.W.makes_of X hm) (PySem.W.looks_findIn X hi) (fun self=>PySem.W.bind_fn X self hf) (.inl rfl) h
end
def cF (f:Str) (v:V):List (Str × V) → List (Str × V)
 | []=>[(f,v)]
 | (g,x) :: r=>if g = f then (g,v) :: r else (g,x) :: cF f v r
theorem aV (f g:Str) (v:V):∀ fs:List (Str × V),(cF f v fs).lookup g = if g = f then some v else fs.lookup g
 | []=>by
  show List.lookup g [(f,v)] = _
  by_cases h:g = f
  ·have hb:(g == f) = true:=beq_iff_eq.mpr h
   simp only [List.lookup,hb,if_pos h]
  ·have hb:(g == f) = false:=beq_eq_false_iff_ne.mpr h
   simp only [List.lookup,hb,if_neg h]
 | (k,x) :: r=>by
  have ih:=aV f g v r
  rw [show cF f v ((k,x) :: r) = (if k = f then (k,v) :: r else (k,x) :: cF f v r) from rfl]
  by_cases hk:k = f
  ·rw [if_pos hk]
   by_cases h:g = k
   ·have hb:(g == k) = true:=beq_iff_eq.mpr h
    simp only [List.lookup,hb,if_pos (h.trans hk)]
   ·have hb:(g == k) = false:=beq_eq_false_iff_ne.mpr h
    simp only [List.lookup,hb,if_neg (fun e:g = f=>h (e.trans hk.symm))]
  ·rw [if_neg hk]
   by_cases h:g = k
   ·have hb:(g == k) = true:=beq_iff_eq.mpr h
    simp only [List.lookup,hb,if_neg (fun e:g = f=>hk (h.symm.trans e))]
   ·have hb:(g == k) = false:=beq_eq_false_iff_ne.mpr h
    simp only [List.lookup,hb]
    exact ih
theorem rX (f:Str) (v:V):∀ fs:List (Str × V),f ∈ (cF f v fs).map (·.1) ∧ ∀ g,g ∈ fs.map (·.1) → g ∈ (cF f v fs).map (·.1)
 | []=>⟨by simp [cF],fun g h=>by simp at h⟩
 | (k,x) :: r=>by
  obtain ⟨i1,i2⟩:=rX f v r
  rw [show cF f v ((k,x) :: r) = (if k = f then (k,v) :: r else (k,x) :: cF f v r) from rfl]
  by_cases hk:k = f
  ·rw [if_pos hk]
   subst hk
   exact ⟨by simp,fun g h=>by simpa using h⟩
  ·rw [if_neg hk]
   refine ⟨?_,fun g h=>?_⟩
   ·rw [List.map_cons]
    exact List.mem_cons_of_mem _ i1
   ·rw [List.map_cons] at h ⊢
    rcases List.mem_cons.mp h with e | e
    ·exact List.mem_cons.mpr (.inl e)
    ·exact List.mem_cons_of_mem _ (i2 g e)
theorem sQ (f:Str) (v:V):∀ fs:List (Str × V),(cF f v fs).length ≤ fs.length + 1
 | []=>by simp [cF]
 | (k,x) :: r=>by
  have ih:=sQ f v r
  rw [show cF f v ((k,x) :: r) = (if k = f then (k,v) :: r else (k,x) :: cF f v r) from rfl]
  by_cases hk:k = f
  ·rw [if_pos hk,List.length_cons,List.length_cons];omega
  ·rw [if_neg hk,List.length_cons,List.length_cons];omega
theorem oG.some_of {v:V} {o:Option Value} (r:oG (some v) o):∃ u,o = some u ∧ bM v u:=by
 cases o with
 | none=>exact (show False from r).elim
 | some u=>exact ⟨u,rfl,r⟩
theorem oG.none_of {o:Option Value} (r:oG none o):o = none:=by
 cases o with
 | none=>rfl
 | some u=>exact (show False from r).elim
theorem aGA {v:V} {u:Value} (r:bM v u):PySem.W.handedIn u = true:=by
 cases v with
 | non=>cases (show u = Value.none from r);rfl
 | bl b=>cases (show u = Value.bool b from r);rfl
 | int i=>obtain ⟨t,e⟩:=(show ∃ t,u = Value.int i t from r);cases e;rfl
 | str x=>obtain ⟨t,e⟩:=(show ∃ t,u = Value.str x t from r);cases e;rfl
 | byt b=>obtain ⟨t,e⟩:=(show ∃ t,u = Value.bytes b t from r);cases e;rfl
 | flt b=>obtain ⟨t,e⟩:=(show ∃ t,u = Value.float b t from r);cases e;rfl
 | ref a=>cases (show u = Value.ref a from r);rfl
 | ty n=>cases (show u = Value.type n from r);rfl
section
variable {P:Program} {w:World} {H H':Hp} {h h':Heap} {a C dx:Addr} {fs fs':List (Str × V)}
theorem tZ (hok:HOk P w H h) (e:H a = some (.ins C dx fs)):∃ mA,ObjM h a dx C mA ∧ (∀ f,oG (fs.lookup f) (mA f)) ∧ PySem.Within mA (fs.map (·.1)) ∧ fs.length ≤ 1000 ∧ H dx = some (.own a):=by
 obtain ⟨d,z,ne,ob,mA,n,r,q⟩:=(show cW P w H h a (.ins C dx fs) from hok a _ e)
 exact ⟨mA,⟨ob,n,ne⟩,r,q,z,d⟩
end
structure Cls (K:PySem.W.Frag) (C:Addr):Prop where
 pg:PySem.W.plainGet K C Str.empty = true
 hd:PySem.W.hasDictIn K C = true
 po:PySem.W.plainOver K C = true
 sa:PySem.W.findIn K (.ref C) "__setattr__" = some (some (.builtin "object.__setattr__"))
theorem Cls.get {K:PySem.W.Frag} {C:Addr} (c:Cls K C) (f:Str):PySem.W.plainGet K C f = true:=c.pg
def iA (K:PySem.W.Frag) (C:Addr) (f:Str):Prop:=PySem.W.findIn K (.ref C) f = some none
theorem iA.taker {K:PySem.W.Frag} {C:Addr} {f:Str} (n:iA K C f):PySem.W.takerIn K C f = some none:=by
 unfold PySem.W.takerIn
 rw [show PySem.W.findIn K (.ref C) f = some none from n]
 rfl
structure Con (K:PySem.W.Frag) (C:Addr) (f:Str) (v:V) (u:Value):Prop where
 at_:PySem.W.findIn K (.ref C) f = some (some u)
 rel:bM v u
 get:PySem.W.specialIn K u "__get__" = some none
 cp:PySem.W.copiedNames.contains f = false
structure Meth (K:PySem.W.Frag) (C:Addr) (m:Str) (f:Addr):Prop where
 at_:PySem.W.findIn K (.ref C) m = some (some (.ref f))
 fn:PySem.W.isFn K (.ref f) = true
 kp:PySem.W.keepIn K (.ref f) = true
section
variable {X:Cx} {pins:List (Addr × Obj)} {σ:St} {H:Hp} {s:Shared} {a C dx:Addr} {fs:List (Str × V)} {f:Str} {v:V} {A:Around} {E:Value → Shared → Prop}
theorem wB {b:Bool} {Q:Value → Shared → Prop} (I:Inv X pins σ H s) (e:H a = some (.ins C dx fs)) (c:Cls X.K C) (n:iA X.K C f) (l:fs.lookup f = some v)
  (h:∀ u s',Inv X pins σ H s' → bM v u → Q u s'):wpAny (model X.prog X.w) A (getAttr (.ref a) f b) Q E s:=by
 obtain ⟨mA,O,r,_,_,_⟩:=tZ I.hok e
 obtain ⟨u,hu,ru⟩:=oG.some_of (v:=v) (o:=mA f) (by rw [← l];exact r f)
 exact aKK I.kIn O (c.get f) c.hd n hu (aGA ru) (h u _ (I.tok _) ru)
theorem wA {m:Str} {g:Addr} {pl:Sem Bool} {Q:Value × List Value → Shared → Prop} (I:Inv X pins σ H s) (e:H a = some (.ins C dx fs)) (c:Cls X.K C) (k:Meth X.K C m g) (l:fs.lookup m = none)
  (h:Q (.ref g,[.ref a]) s):wpAny (model X.prog X.w) A (getMethod (.ref a) m pl) Q E s:=by
 obtain ⟨mA,O,r,_,_,_⟩:=tZ I.hok e
 have hn:mA m = none:=oG.none_of (by rw [← l];exact r m)
 exact aIV I.kIn O (c.get m) k.at_ k.fn hn h
theorem uO {y:V} {u:Value} {Q:Unit → Shared → Prop} (I:Inv X pins σ H s) (e:H a = some (.ins C dx fs)) (c:Cls X.K C) (n:iA X.K C f) (hl:fs.length < 1000) (ry:bM y u)
  (h:∀ s',Inv X pins σ (upd H a (.ins C dx (cF f y fs))) s' → Q () s'):wpAny (model X.prog X.w) A (setAttr (.ref a) f u) Q E s:=by
 obtain ⟨mA,O,r,wi,_,ho⟩:=tZ I.hok e
 have hz:(fs.map (·.1)).length ≤ sizeLine:=by rw [List.length_map,sizeLine_eq];omega
 refine aJS I.kIn O c.sa c.po n.taker c.hd wi hz fun h' O' sb=>h _ ?_
 have hd:∃ o,h'.get? dx = some o:=let ⟨o,_,_,e',_⟩:=O'.ns;⟨o,e'⟩
 refine I.write (x:=a) (e:=dx) (by rw [e];exact True.intro) (.inr ho) (fun b q hb z=>(sb.2 b hb).trans z) hd ?_
 refine ⟨by rw [aP O.ne];exact ho,?_,O.ne,O'.obj,_,O'.ns,fun g=>?_,fun g hg=>?_⟩
 ·have:=sQ f y fs;omega
 ·show oG ((cF f y fs).lookup g) (if g = f then some u else mA g)
  rw [aV]
  by_cases q:g = f
  ·rw [if_pos q,if_pos q];exact ry
  ·rw [if_neg q,if_neg q];exact r g
 ·by_cases q:g = f
  ·rw [q];exact (rX f y fs).1
  ·refine (rX f y fs).2 g (wi g fun z=>hg ?_)
   show (if g = f then some u else mA g) = none
   rw [if_neg q];exact z
theorem Inv.made (I:Inv X pins σ H s):Inv X pins σ (upd (upd H s.heap.objs.size (.own (s.heap.objs.size + 1))) (s.heap.objs.size + 1) (.ins C s.heap.objs.size []))
  { s with heap:=(s.heap.push PySem.W.emptyDict).push (PySem.W.instObj C s.heap.objs.size) }:=by
 have e1:(s.heap.push PySem.W.emptyDict).get? s.heap.objs.size = some PySem.W.emptyDict:=Heap.get?_push_size s.heap rfl
 have e2:((s.heap.push PySem.W.emptyDict).push (PySem.W.instObj C s.heap.objs.size)).get? (s.heap.objs.size + 1) = some (PySem.W.instObj C s.heap.objs.size):=by
  have:=Heap.get?_push_size (s.heap.push PySem.W.emptyDict) (o:=PySem.W.instObj C s.heap.objs.size) rfl
  rwa [Heap.size_push] at this
 have e3:(s.heap.push PySem.W.emptyDict).Ns s.heap.objs.size (fun _=>none):=⟨PySem.W.emptyDict,#[],_,e1,rfl,(fun e he=>absurd he (by simp)),fun _=>rfl⟩
 have I1:=I.laid (a:=s.heap.objs.size) (o:=.own (s.heap.objs.size + 1)) (h':=s.heap.push PySem.W.emptyDict) (t':=s.toks) (fun b u q=>Heap.get?_push_of_some _ q) (Nat.le_refl _) ⟨_,e1⟩
 refine I1.laid (a:=s.heap.objs.size + 1) (o:=.ins C s.heap.objs.size []) (t':=s.toks) (fun b u q=>Heap.get?_push_of_some _ q) (Nat.le_of_eq (Heap.size_push _ _)) ?_
 have ne:s.heap.objs.size ≠ s.heap.objs.size + 1:=Nat.ne_of_lt (Nat.lt_succ_self _)
 refine ⟨by rw [aP ne,aB],Nat.zero_le _,ne,e2,fun _=>none,(Heap.Ns1.of_empty e3).at fun o q=>Heap.get?_push_of_some _ q,fun _=>True.intro,fun y hy=>absurd rfl hy⟩
theorem aKR {prog:Program} {w:World} {env:Env} {e:Expr} {f:Str} {pos:Pos} {s:Shared} {Q:Value → Shared → Prop} (hb:attributeBase e f env (eval e env) = eval e env)
  (h:wpAny (model prog w) A (eval e env) (fun o s₁=>wpAny (model prog w) A (getAttr o f true) Q E s₁) E s):wpAny (model prog w) A (eval (.Attribute e f pos) env) Q E s :=
 Attribute_any_ h (by rw [arm_eval_Attribute,hb])
end
def aOX (K:PySem.W.Frag) (ta:TE) (f:Str):TE:=fun σ H Q=>ta σ H fun x H1=>∃ a C dx fs v,x = .ref a ∧ H1 a = some (.ins C dx fs) ∧ Cls K C ∧ iA K C f ∧ fs.lookup f = some v ∧ Q v H1
def aPD (K:PySem.W.Frag) (ta tv:TE) (f:Str):TS:=fun D σ H=>tv σ H fun y H1=>ta σ H1 fun x H2=>∃ a C dx fs,x = .ref a ∧ H2 a = some (.ins C dx fs) ∧ Cls K C ∧ iA K C f ∧ fs.length < 1000 ∧
 D.nx σ (upd H2 a (.ins C dx (cF f y fs)))
def aMV (X:Cx) (op:Operator) (rd:V → V → Hp → VK → Prop):Prop :=
 ∀ (pins:List (Addr × Obj)) (s:Shared) (σ:St) (H:Hp) (x y:V) (u v:Value) (Q:VK),Inv X pins σ H s → bM x u → bM y v → rd x y H Q → wpAny (model X.prog X.w) X.A (inplaceOp op u v) (EP X pins σ Q) X.xe s
def aJT (K:PySem.W.Frag) (ta tv:TE) (rd:V → V → Hp → VK → Prop) (f:Str):TS:=fun D σ H=>ta σ H fun x H1=>∃ a C dx fs v,x = .ref a ∧ H1 a = some (.ins C dx fs) ∧ Cls K C ∧ iA K C f ∧ fs.lookup f = some v ∧
 tv σ H1 fun y H2=>rd v y H2 fun z H3=>∃ dx' fs',H3 a = some (.ins C dx' fs') ∧ fs'.length < 1000 ∧ D.nx σ (upd H3 a (.ins C dx' (cF f z fs')))
section
variable {X:Cx} {o e value:Expr} {f:Str} {pos pos' tpos:Pos} {ta tv:TE}
theorem eV (he:PE X e ta) (hb:attributeBase e f X.env (eval e X.env) = eval e X.env):PE X (.Attribute e f pos) (aOX X.K ta f):=by
 intro pins s σ H Q I h
 refine aKR hb (thn (he pins s σ H _ I h) fun u s1 ⟨x,H1,I1,rx,a,C,dx,fs,v,ex,ea,c,n,l,q⟩=>?_)
 subst ex
 obtain rfl:u = Value.ref a:=rx
 exact wB I1 ea c n l fun u' s2 I2 ru=>⟨v,H1,I2,ru,q⟩
theorem iP (ha:PE X o ta) (hv:PE X value tv) (hs:swapsWith value (some (.Attribute o f pos')) pos.line X.env = pure false):PS X (.Assign [.Attribute o f pos'] value pos) (aPD X.K ta tv f):=by
 intro pins s σ H D I h
 refine plainObj_wpAny_Assign_Attribute (thn (hv pins s σ H _ I h) fun u s1 ⟨y,H1,I1,ry,q⟩=>thn (ha pins s1 σ H1 _ I1 q) fun ov s2 ⟨x,H2,I2,rx,a,C,dx,fs,ex,ea,c,n,l,q2⟩=>?_) hs
 subst ex
 obtain rfl:ov = Value.ref a:=rx
 exact uO I2 ea c n l ry fun s3 I3=>⟨σ,_,I3,q2⟩
theorem aFQ {op:Operator} {rd:V → V → Hp → VK → Prop} (ha:PE X o ta) (hv:PE X value tv) (hop:aMV X op rd):PS X (.AugAssign (.Attribute o f tpos) op value pos) (aJT X.K ta tv rd f):=by
 intro pins s σ H D I h
 refine wpAny_AugAssign_AttributeAny (thn (ha pins s σ H _ I h) fun ov s1 ⟨x,H1,I1,rx,a,C,dx,fs,v,ex,ea,c,n,l,q⟩=>?_)
 subst ex
 obtain rfl:ov = Value.ref a:=rx
 refine wB I1 ea c n l fun u s2 I2 ru=>thn (hv pins s2 σ H1 _ I2 q) fun w3 s3 ⟨y,H2,I3,ry,q3⟩=>thn (hop pins s3 σ H2 v y u w3 _ I3 ru ry q3) fun w4 s4 ⟨z,H3,I4,rz,dx',fs',ea',l',q4⟩=>?_
 exact uO I4 ea' c n l' rz fun s5 I5=>⟨σ,_,I5,q4⟩
def aPG:V → V → Hp → VK → Prop:=fun x y H Q=>∃ i j,x = .int i ∧ y = .int j ∧ Q (.int (i + j)) H
theorem aIP:aMV X .Add aPG:=by
 rintro pins s σ H x y u v Q I rx ry ⟨i,j,rfl,rfl,q⟩
 obtain ⟨t,rfl⟩:=(show ∃ t,u = Value.int i t from rx)
 obtain ⟨t',rfl⟩:=(show ∃ t',v = Value.int j t' from ry)
 exact PyProof.Rows.iadd_int ⟨.int (i + j),H,I.tok _,⟨_,rfl⟩,q⟩
end
section
variable {X:Cx} {pins:List (Addr × Obj)} {σ:St} {H:Hp} {s:Shared} {A:Around} {E:Value → Shared → Prop} {Q:Value → Shared → Prop} {c:Value} {b:Bool}
inductive TyOf (K:PySem.W.Frag) (H:Hp):V → Value → Prop where
 | non:TyOf K H .non (.type "NoneType")
 | bl (x:Bool):TyOf K H (.bl x) (.type "bool")
 | int (i:Int):TyOf K H (.int i) (.type "int")
 | str (x:Str):TyOf K H (.str x) (.type "str")
 | flt (x:UInt64):TyOf K H (.flt x) (.type "float")
 | lst {a:Addr} {xs:List V} (e:H a = some (.lst xs)):TyOf K H (.ref a) (.type "list")
 | frz {a:Addr} {o:Obj} {xs:List V} (e:H a = some (.frz o (.lst xs))):TyOf K H (.ref a) (.type "list")
 | tup {a:Addr} {xs:List V} (e:H a = some (.tup xs)):TyOf K H (.ref a) (.type "tuple")
 | dK {a:Addr} {kvs:List (Key × V)} (e:H a = some (.dK kvs)):TyOf K H (.ref a) (.type "dict")
 | dT {a:Addr} {kvs:List (List Key × V)} (e:H a = some (.dT kvs)):TyOf K H (.ref a) (.type "dict")
 | ins {a C dx:Addr} {fs:List (Str × V)} (e:H a = some (.ins C dx fs)) (cl:Cls K C) (ha:PySem.W.findIn K (.ref C) "__class__" = some (some (.builtin "object.__class__")))
   (hn:PySem.W.specialIn K (.builtin "object.__class__") "__get__" = some (some (.builtin "getset_descriptor.__get__"))) (htk:PySem.W.takesIn K (.builtin "object.__class__") = some true)
   (hm:PySem.W.mroIn K C (.type "object") = some true):TyOf K H (.ref a) (.ref C)
theorem aFX {x:V} {u t:Value} (I:Inv X pins σ H s) (rx:bM x u) (ty:TyOf X.K H x t) (e:PySem.W.kitOne X.K t c = some b) (h:∀ tk,Q (.bool b) { s with toks:=tk }) :
  wpAny (model X.prog X.w) A (call (.builtin "isinstance") [u,c]) Q E s:=by
 cases ty with
 | non=>cases (show u = Value.none from rx);exact PySem.W.kia_one PySem.W.kitx_none I.kIn True.intro e (fun z=>nomatch z) h
 | bl y=>cases (show u = Value.bool y from rx);exact PySem.W.kia_one PySem.W.kitx_bool I.kIn True.intro e (fun z=>nomatch z) h
 | int i=>obtain ⟨t,q⟩:=(show ∃ t,u = Value.int i t from rx);cases q;exact PySem.W.kia_one PySem.W.kitx_int I.kIn True.intro e (fun z=>nomatch z) h
 | str y=>obtain ⟨t,q⟩:=(show ∃ t,u = Value.str y t from rx);cases q;exact PySem.W.kia_one PySem.W.kitx_str I.kIn True.intro e (fun z=>nomatch z) h
 | flt y=>obtain ⟨t,q⟩:=(show ∃ t,u = Value.float y t from rx);cases q;exact PySem.W.kia_one PySem.W.kitx_float I.kIn True.intro e (fun z=>nomatch z) h
 | @lst a xs ea =>
  cases (show u = Value.ref a from rx)
  obtain ⟨_,_,n,_,h1⟩:=(show cW X.prog X.w H s.heap a (.lst xs) from I.hok a _ ea)
  exact PySem.W.kia_one PySem.W.kitx_list I.kIn ⟨_,h1,rfl⟩ e (fun z=>nomatch z) h
 | @frz a ob xs ea =>
  cases (show u = Value.ref a from rx)
  obtain ⟨_,_,_,n,_,h1⟩:=(show cW X.prog X.w H s.heap a (.frz ob (.lst xs)) from I.hok a _ ea)
  exact PySem.W.kia_one PySem.W.kitx_list I.kIn ⟨_,h1,rfl⟩ e (fun z=>nomatch z) h
 | @tup a xs ea =>
  cases (show u = Value.ref a from rx)
  obtain ⟨_,_,_,p⟩:=(show cW X.prog X.w H s.heap a (.tup xs) from I.hok a _ ea)
  obtain ⟨o,h1,h2,_⟩:=p
  exact PySem.W.kia_one PySem.W.kitx_tuple I.kIn ⟨o,h1,h2⟩ e (fun z=>nomatch z) h
 | @dK a kvs ea =>
  cases (show u = Value.ref a from rx)
  obtain ⟨_,_,vs,_,p⟩:=(show cW X.prog X.w H s.heap a (.dK kvs) from I.hok a _ ea)
  obtain ⟨o,es,ep,h1,h2,_⟩:=p
  exact PySem.W.kia_one PySem.W.kitx_dict I.kIn ⟨o,h1,h2.1⟩ e (fun z=>nomatch z) h
 | @dT a kvs ea =>
  cases (show u = Value.ref a from rx)
  obtain ⟨_,_,xs,_,o,es,ep,h1,h2,_⟩:=(show cW X.prog X.w H s.heap a (.dT kvs) from I.hok a _ ea)
  exact PySem.W.kia_one PySem.W.kitx_dict I.kIn ⟨o,h1,h2.1⟩ e (fun z=>nomatch z) h
 | @ins a C dx fs ea cl ha hn htk hm =>
  cases (show u = Value.ref a from rx)
  obtain ⟨mA,O,_⟩:=tZ I.hok ea
  obtain ⟨od,J,_⟩:=O.look
  exact PySem.W.kia_one (PySem.W.kitx_own (cl.get _) cl.hd ha hn htk hm) I.kIn J e (fun z=>nomatch z) h
end
end L2
namespace L2
open PySem PySem.Spec PyProof.Rows
structure Room (k:Nat) (A:Around):Prop where
 hd:A.handled = none
 dp:A.depth + 3 * k + 5 < recursionLimit
 un:A.units + 16 * k + 200 < cLine
theorem Room.mono {j k:Nat} {A:Around} (r:Room k A) (h:j ≤ k):Room j A:=⟨r.hd,by have:=r.dp;omega,by have:=r.un;omega⟩
theorem Room.deeper {k:Nat} {A:Around} (r:Room (k + 1) A) (env:Env):Room k (A.deeper env) :=
 ⟨r.hd,by have:=r.dp;show A.depth + 1 + 3 * k + 5 < _;omega,by have:=r.un;show A.units + 3 + 16 * k + 200 < _;omega⟩
theorem aDG {A:Around} {C:Addr} {us:List Value} {kw:List (Str × Value)}:(A.under (.builtin "type.__call__" ⟨.ref C :: us,kw⟩)).depth = A.depth + 1:=by
 first | rfl | simp [Around.under,Code.weight,Code.isCreation,Code.isGuard,Code.isCaller,Code.frames,Code.isFrame,guardIds]
theorem aDF {A:Around} {C:Addr} {us:List Value} {kw:List (Str × Value)}:(A.under (.builtin "type.__call__" ⟨.ref C :: us,kw⟩)).units = A.units + 1:=by
 first | rfl | simp [Around.under,Code.cUnits,Code.frames,Code.isFrame]
theorem Room.make {k:Nat} {A:Around} (r:Room (k + 1) A) (C:Addr) (us:List Value) (kw:List (Str × Value)):Room k (A.under (.builtin "type.__call__" ⟨.ref C :: us,kw⟩)) :=
 ⟨r.hd,by have:=r.dp;rw [aDG];omega,by have:=r.un;rw [aDF];omega⟩
theorem Room.depth {k:Nat} {A:Around} (r:Room k A):A.depth < recursionLimit:=by have:=r.dp;omega
theorem Room.units {k:Nat} {A:Around} (r:Room k A):A.units + 64 < cLine:=by have:=r.un;omega
def aLP:TA:=fun _ H Q=>Q [] H
def aNI (ta:TE) (tr:TA):TA:=fun σ H Q=>ta σ H fun x H1=>tr σ H1 fun xs H2=>Q (x :: xs) H2
section
variable {X:Cx} {e:Expr} {es:List Expr} {te:TE} {t:TA} {pos:Pos}
theorem aE:PA X [] aLP:=fun _ _ _ _ H Q I h=>Calls.spliced_nil ⟨[],H,I,.nil,h⟩
theorem aA (ha:PE X e te) (hr:PA X es t) (hs:starEach (e :: es) X.env = (false,eval e X.env) :: starEach es X.env:=by rfl):PA X (e :: es) (aNI te t):=by
 intro pos pins s σ H Q I h
 rw [hs]
 show wpAny _ _ (spliced ((false,eval e X.env) :: backTo pos (starEach es X.env))) _ _ s
 refine Calls.spliced_cons (thn (ha pins s σ H _ I h) fun u s1 ⟨x,H1,I1,r1,q1⟩=>?_)
 exact thn (hr pos pins s1 σ H1 _ I1 q1) fun us s2 ⟨xs,H2,I2,r2,q2⟩=>⟨x :: xs,H2,I2,.cons r1 r2,q2⟩
def aOR (t:TA):TE:=fun σ H Q=>t σ H fun xs H1=>xs.length ≤ sizeLine ∧ ∀ p,H1 p = none → Q (.ref p) (upd H1 p (.tup xs))
def aOV (t:TA):TE:=fun σ H Q=>t σ H fun xs H1=>xs.length ≤ sizeLine ∧ ∀ p,H1 p = none → Q (.ref p) (upd H1 p (.lst xs))
theorem cU {x1} (h:PA X es t):PE X (.Tuple es x1 pos) (aOR t):=by
 intro pins s σ H Q I hq
 refine wpAny_Tuple_spliced (thn (h pos pins s σ H _ I hq) fun us s1 ⟨xs,H1,I1,r,z,q⟩=>⟨by rw [← r.length];exact z,?_⟩)
 have hf:H1 s1.heap.objs.size = none:=I1.hok.fresh (Nat.le_refl _)
 refine ⟨.ref s1.heap.objs.size,upd H1 s1.heap.objs.size (.tup xs),I1.laid (t':=s1.toks) (fun b u e=>Heap.get?_push_of_some _ e) (Nat.le_refl _) ?_,rfl,q _ hf⟩
 exact ⟨z,us,r,⟨_,Heap.get?_push_size _ rfl,rfl,_,rfl,rfl⟩⟩
theorem cK (h:PA X es t):PE X (.List es pos) (aOV t):=by
 intro pins s σ H Q I hq
 refine wpAny_List_spliced (thn (h pos pins s σ H _ I hq) fun us s1 ⟨xs,H1,I1,r,z,q⟩=>⟨by rw [← r.length];exact z,?_⟩)
 have hf:H1 s1.heap.objs.size = none:=I1.hok.fresh (Nat.le_refl _)
 refine ⟨.ref s1.heap.objs.size,upd H1 s1.heap.objs.size (.lst xs),I1.laid (t':=s1.toks) (fun b u e=>Heap.get?_push_of_some _ e) (Nat.le_refl _) ?_,rfl,q _ hf⟩
 exact ⟨z,us,0,r,Heap.get?_push_size _ rfl⟩
end
abbrev Sp:=List V → Hp → VK → XK → Prop
abbrev CXT:=List Env → Hp → Shared → XK → Value → Shared → Prop
structure Env0 (P:Program) (w:World) (K:PySem.W.Frag) (mg:Str → Option Value) (base:Heap) (A:Around) (outer:List Env) (s:Shared) (H:Hp):Prop where
 frames:A.frames = some outer
 mod:Mod K mg base
 bs:∀ b o,base.get? b = some o → s.heap.get? b = some o ∧ H b = none
 bsz:base.objs.size ≤ s.heap.objs.size
 funs:s.heap.FunFrames base outer
 frf:∀ b ∈ frs outer,H b = none
 hok:HOk P w H s.heap
 bare:AllBare s.gens
def CE (outer:List Env) (P:Program) (w:World) (H:Hp) (s:Shared) (Q:VK) (u:Value) (s':Shared):Prop :=
 ∃ v H',s'.os = s.os ∧ AllBare s'.gens ∧ Un (frs outer) [] H H' s.heap s'.heap ∧ HOk P w H' s'.heap ∧ bM v u ∧ Q v H'
def CR (CX:CXT) (outer:List Env) (P:Program) (w:World) (H:Hp) (s:Shared) (Q:VK) (E:XK) (r:Result) (s':Shared):Prop :=
 match r with
 | .ok (.ret u)=>CE outer P w H s Q u s'
 | .ok _=>False
 | .error e=>CX outer H s E e s'
structure FnOk (P:Program) (w:World) (K:PySem.W.Frag) (mg:Str → Option Value) (base:Heap) (CX:CXT) (k:Nat) (f:Addr) (fd:FuncData) (ps:List Str) (sp:Sp):Prop where
 len:∀ vs H Q E,sp vs H Q E → vs.length = ps.length
 run:∀ (A:Around) (outer:List Env) (s:Shared) (H:Hp) (args:Args) (us:List Value) (vs:List V) (Q:VK) (E:XK),Room k A → Env0 P w K mg base A outer s H → BindsTo s fd args (ps.zip us) → bS vs us → sp vs H Q E →
  codeAny (model P w) A (.call (.ref f) args) (CR CX outer P w H s Q E) s
theorem FnOk.imp {P:Program} {w:World} {K:PySem.W.Frag} {mg:Str → Option Value} {base:Heap} {CX:CXT} {k:Nat} {f:Addr} {fd:FuncData} {ps:List Str} {sp sp':Sp} (F:FnOk P w K mg base CX k f fd ps sp)
  (h:∀ vs H Q E,sp' vs H Q E → sp vs H Q E):FnOk P w K mg base CX k f fd ps sp' :=
 ⟨fun vs H Q E q=>F.len vs H Q E (h _ _ _ _ q),fun A outer s H args us vs Q E hr he hb hv hs=>F.run A outer s H args us vs Q E hr he hb hv (h _ _ _ _ hs)⟩
theorem Env0.make {P:Program} {w:World} {K:PySem.W.Frag} {mg:Str → Option Value} {base:Heap} {A:Around} {outer:List Env} {s:Shared} {H:Hp} (e:Env0 P w K mg base A outer s H) (C:Addr) (us:List Value) (kw:List (Str × Value)) :
  Env0 P w K mg base (A.under (.builtin "type.__call__" ⟨.ref C :: us,kw⟩)) outer s H:=⟨by first | exact e.frames | (simpa [Around.under,Code.envs,Code.isFrame,pushEnvs] using e.frames),e.mod,e.bs,e.bsz,e.funs,e.frf,e.hok,e.bare⟩
section
variable {X:Cx} {pins:List (Addr × Obj)} {σ:St} {H:Hp} {s s':Shared}
theorem Inv.env0 (I:Inv X pins σ H s):Env0 X.prog X.w X.K X.mg X.base X.A X.stack s H :=
 ⟨I.ok.frames,I.ok.mod,I.bs,Nat.le_trans I.ok.bsz I.sz,I.stack,I.stkFree,I.hok,I.bare⟩
theorem Inv.after {Q:VK} {u:Value} (I:Inv X pins σ H s) (h:CE X.stack X.prog X.w H s Q u s'):EP X pins σ Q u s':=by
 obtain ⟨v,H',os,bare,un,hok,r,q⟩:=h
 obtain ⟨hh,g,d,t,os'⟩:=s'
 obtain rfl:os' = s.os:=os
 exact ⟨v,H',I.call (h':=hh) (g':=g) (d':=d) (t':=t) (ch:=[]) un hok bare (fun b z=>absurd z (by simp)),r,q⟩
end
def aKY (sp:Sp) (dvs:List V) (E:XK) (t:TA):TE:=fun σ H Q=>t σ H fun vs H1=>sp (vs ++ dvs) H1 Q E
def aDW (C:Addr) (m:Str) (sp:Sp) (dvs:List V) (E:XK) (ta:TE) (t:TA):TE:=fun σ H Q=>ta σ H fun x H1=>∃ a dx fs,x = .ref a ∧ H1 a = some (.ins C dx fs) ∧ fs.lookup m = none ∧
 t σ H1 fun vs H2=>sp (x :: (vs ++ dvs)) H2 Q E
def aKW (C:Addr) (sp:Sp) (dvs:List V) (E:XK) (t:TA):TE:=fun σ H Q=>t σ H fun vs H1=>∀ x dx,H1 x = none → H1 dx = none → dx ≠ x →
 sp (.ref x :: (vs ++ dvs)) (upd (upd H1 dx (.own x)) x (.ins C dx [])) (fun v H2=>v = .non ∧ Q (.ref x) H2) E
def iU (K:PySem.W.Frag) (fd:FuncData) (ps:List Str) (ds:List Value):Prop :=
 ∀ (s:Shared) (us:List Value),K.In s.heap → (us ++ ds).length = ps.length → BindsTo s fd ⟨us,[]⟩ (ps.zip (us ++ ds))
theorem iU.all {K:PySem.W.Frag} {fd:FuncData} {ps:List Str} (h:∀ us:List Value,us.length = ps.length → bindArgs fd ⟨us,[]⟩ = pure (ps.zip us)):iU K fd ps []:=fun s us _ hl=>by
 rw [List.append_nil] at hl ⊢
 exact .of_eq (h us hl)
def qN (CX:CXT) (X:Cx) (E:XK):Prop:=∀ (pins:List (Addr × Obj)) (σ:St) (H:Hp) (s:Shared) (e:Value) (s':Shared),Inv X pins σ H s → CX X.stack H s E e s' → X.xe e s'
section
variable {X:Cx} {CX:CXT} {k:Nat} {f C:Addr} {fd:FuncData} {ps:List Str} {sp:Sp} {dvs:List V} {ds:List Value} {E:XK} {x m:Str} {p pos apos:Pos} {e o:Expr} {es:List Expr} {ta:TE} {t:TA}
theorem aCV {pins:List (Addr × Obj)} {σ:St} {H:Hp} {s:Shared} {Q:VK} {us:List Value} {vs:List V} (F:FnOk X.prog X.w X.K X.mg X.base CX k f fd ps sp) (hr:Room k X.A) (hb:iU X.K fd ps ds) (hd:bS dvs ds) (hx:qN CX X E)
  (I:Inv X pins σ H s) (r:bS vs us) (h:sp (vs ++ dvs) H Q E):wpAny (model X.prog X.w) X.A (call (.ref f) us) (EP X pins σ Q) X.xe s:=by
 have r2:bS (vs ++ dvs) (us ++ ds):=r.append hd
 have hl:(us ++ ds).length = ps.length:=by rw [← r2.length];exact F.len _ _ _ _ h
 refine wpAny_call (codeAny_mono (F.run X.A X.stack s H ⟨us,[]⟩ (us ++ ds) (vs ++ dvs) Q E hr I.env0 (hb s us I.kIn hl) r2 h) fun r s' hq=>?_)
 cases r with
 | error e=>exact hx pins σ H s e s' I hq
 | ok fl =>
  cases fl with
  | ret u=>exact I.after hq
  | next=>exact False.elim hq
  | brk=>exact False.elim hq
  | cont=>exact False.elim hq
theorem aJZ (F:FnOk X.prog X.w X.K X.mg X.base CX k f fd ps sp) (hr:Room k X.A) (hg:Gl X x) (hm:X.mg x = some (.ref f)) (hk:PySem.W.keepIn X.K (.ref f) = true) (hb:iU X.K fd ps ds) (hd:bS dvs ds) (hx:qN CX X E)
  (ha:PA X (e :: es) t) (hdb:(x == ("__debug__":Str)) = false:=by decide) (he:starEach (e :: es) X.env = (false,eval e X.env) :: starEach es X.env:=by rfl) (hpl:(backTo pos (starEach es X.env)).any (·.1) = false:=by rfl) :
  PE X (.Call (.Name x p) (e :: es) [] pos) (aKY sp dvs E t):=by
 intro pins s σ H Q I h
 refine wpAny_Call_Name_kw (zM I hg hm ?_ hdb)
 refine PySem.W.callWith_K (h₀:=X.base) I.ok.mod.kin hk (thn (ha pos pins s σ H _ I h) fun us s1 ⟨vs,H1,I1,r,q⟩=>⟨I1.kIn,?_⟩) he hpl
 exact aCV F hr hb hd hx I1 r q
theorem aJX {pl:Sem Bool} (he:PE X o ta) (c:Cls X.K C) (hm:Meth X.K C m f) (F:FnOk X.prog X.w X.K X.mg X.base CX k f fd ps sp) (hr:Room k X.A) (hb:iU X.K fd ps ds) (hd:bS dvs ds) (hx:qN CX X E) (ha:PA X (e :: es) t)
  (hst:starEach (e :: es) X.env = (false,eval e X.env) :: starEach es X.env:=by rfl) (hpl:(backTo pos (starEach es X.env)).any (·.1) = false:=by rfl)
  (ht:eval (.Call (.Attribute o m apos) (e :: es) [] pos) X.env = (do
   let ov ← eval o X.env
   standAt apos.atName
   let (f,first) ← holding [ov] (getMethod ov m pl)
   callWith pos f first (backTo pos (starEach (e :: es) X.env)) (backToKw pos (keywordEach [] X.env))):=by rfl) :
  PE X (.Call (.Attribute o m apos) (e :: es) [] pos) (aDW C m sp dvs E ta t):=by
 intro pins s σ H Q I h
 refine PySem.W.methodCall_KW (pl:=pl) (thn (he pins s σ H _ I h) fun u s1 ⟨x,H1,I1,rx,a,dx,fs,ex,ea,l,q⟩=>?_) ht
 subst ex
 obtain rfl:u = Value.ref a:=rx
 refine wA I1 ea c hm l ?_
 refine PySem.W.callWith_K (first:=[.ref a]) (h₀:=X.base) I.ok.mod.kin hm.kp (thn (ha pos pins s1 σ H1 _ I1 q) fun us s2 ⟨vs,H2,I2,r,q2⟩=>⟨I2.kIn,?_⟩) hst hpl
 exact aCV (us:=.ref a :: us) (vs:=.ref a :: vs) F hr hb hd hx I2 (.cons rfl r) q2
theorem aHZ {pl:Sem Bool} (he:PE X o ta) (c:Cls X.K C) (hm:Meth X.K C m f) (F:FnOk X.prog X.w X.K X.mg X.base CX k f fd ps sp) (hr:Room k X.A) (hb:iU X.K fd ps ds) (hd:bS dvs ds) (hx:qN CX X E)
  (ht:eval (.Call (.Attribute o m apos) [] [] pos) X.env = (do
   let ov ← eval o X.env
   standAt apos.atName
   let (f,first) ← holding [ov] (getMethod ov m pl)
   callWith pos f first (backTo pos (starEach [] X.env)) (backToKw pos (keywordEach [] X.env))):=by rfl) :
  PE X (.Call (.Attribute o m apos) [] [] pos) (aDW C m sp dvs E ta aLP):=by
 intro pins s σ H Q I h
 refine PySem.W.methodCall_KW (pl:=pl) (thn (he pins s σ H _ I h) fun u s1 ⟨x,H1,I1,rx,a,dx,fs,ex,ea,l,q⟩=>?_) ht
 subst ex
 obtain rfl:u = Value.ref a:=rx
 refine wA I1 ea c hm l ?_
 exact PySem.W.callWith_K0 (first:=[.ref a]) I1.kIn hm.kp (aCV (us:=[.ref a]) (vs:=[.ref a]) F hr hb hd hx I1 (.cons rfl .nil) q)
structure Mk (K:PySem.W.Frag) (C f:Addr):Prop where
 makes:PySem.W.makesIn K C = true
 init:PySem.W.findIn K (.ref C) "__init__" = some (some (.ref f))
 fn:PySem.W.isFn K (.ref f) = true
 kp:PySem.W.keepIn K (.ref C) = true
theorem aHP {pins:List (Addr × Obj)} {σ:St} {H:Hp} {s:Shared} {Q:VK} {us:List Value} {vs:List V} (M:Mk X.K C f) (F:FnOk X.prog X.w X.K X.mg X.base CX k f fd ps sp) (hr:Room (k + 1) X.A) (hb:iU X.K fd ps ds) (hd:bS dvs ds)
  (hx:qN CX X E) (I:Inv X pins σ H s) (r:bS vs us)
  (h:∀ x dx,H x = none → H dx = none → dx ≠ x → sp (.ref x :: (vs ++ dvs)) (upd (upd H dx (.own x)) x (.ins C dx [])) (fun v H2=>v = .non ∧ Q (.ref x) H2) E) :
  wpAny (model X.prog X.w) X.A (call (.ref C) us) (EP X pins σ Q) X.xe s:=by
 have hq:=h (s.heap.objs.size + 1) s.heap.objs.size (I.hok.fresh (Nat.le_succ _)) (I.hok.fresh (Nat.le_refl _)) (Nat.ne_of_lt (Nat.lt_succ_self _))
 have I2:=Inv.made (C:=C) I
 have r2:bS (V.ref (s.heap.objs.size + 1) :: (vs ++ dvs)) (Value.ref (s.heap.objs.size + 1) :: (us ++ ds)):=.cons rfl (r.append hd)
 have hl:(Value.ref (s.heap.objs.size + 1) :: us ++ ds).length = ps.length:=by
  have e:=r2.length
  rw [F.len _ _ _ _ hq] at e
  exact e.symm
 refine wpAny_call (aIE (f:=f) I.kIn M.makes M.init (beq_iff_eq.mp M.fn) (codeAny_mono (F.run _ X.stack _ _ ⟨Value.ref (s.heap.objs.size + 1) :: us,[]⟩ (Value.ref (s.heap.objs.size + 1) :: (us ++ ds)) _ _ E (hr.make C us [])
  (I2.env0.make C us []) (hb _ (Value.ref (s.heap.objs.size + 1) :: us) I2.kIn hl) r2 hq) fun r s' hq'=>?_))
 cases r with
 | error e=>exact hx pins σ _ _ e s' I2 hq'
 | ok fl =>
  cases fl with
  | ret u =>
   obtain ⟨v,H',I3,rv,ev,q3⟩:=I2.after hq'
   subst ev
   exact ⟨rv,⟨V.ref (s.heap.objs.size + 1),H',I3,rfl,q3⟩⟩
  | next=>exact False.elim hq'
  | brk=>exact False.elim hq'
  | cont=>exact False.elim hq'
theorem aJY (M:Mk X.K C f) (F:FnOk X.prog X.w X.K X.mg X.base CX k f fd ps sp) (hr:Room (k + 1) X.A) (hg:Gl X x) (hm:X.mg x = some (.ref C)) (hb:iU X.K fd ps ds) (hd:bS dvs ds) (hx:qN CX X E)
  (ha:PA X (e :: es) t) (hdb:(x == ("__debug__":Str)) = false:=by decide) (he:starEach (e :: es) X.env = (false,eval e X.env) :: starEach es X.env:=by rfl) (hpl:(backTo pos (starEach es X.env)).any (·.1) = false:=by rfl) :
  PE X (.Call (.Name x p) (e :: es) [] pos) (aKW C sp dvs E t):=by
 intro pins s σ H Q I h
 refine wpAny_Call_Name_kw (zM I hg hm ?_ hdb)
 refine PySem.W.callWith_K (h₀:=X.base) I.ok.mod.kin M.kp (thn (ha pos pins s σ H _ I h) fun us s1 ⟨vs,H1,I1,r,q⟩=>⟨I1.kIn,?_⟩) he hpl
 exact aHP M F hr hb hd hx I1 r q
end
section
variable {X:Cx} {CX:CXT} {k:Nat} {f C:Addr} {fd:FuncData} {ps ks:List Str} {sp:Sp} {E:XK} {x m:Str} {p pos apos kpos:Pos} {e o:Expr} {es:List Expr} {kws:List Keyword} {te ta:TE} {t tk:TA} {nm:Option Str}
structure KBinds (K:PySem.W.Frag) (fd:FuncData) (ps ks:List Str) (g:List Value → List Value → List Value) (gV:List V → List V → List V):Prop where
 to:∀ (s:Shared) (us ws:List Value),K.In s.heap → (g us ws).length = ps.length → BindsTo s fd ⟨us,ks.zip ws⟩ (ps.zip (g us ws))
 rel:∀ {vs:List V} {us:List Value} {zs:List V} {ws:List Value},bS vs us → bS zs ws → bS (gV vs zs) (g us ws)
variable {g:List Value → List Value → List Value} {gV:List V → List V → List V}
end
structure FnScope (N P:List Str) (sc:Scope):Prop where
 kind:sc.kind = .function
 co:sc.isCoroutine = false
 gen:sc.isGenerator = false
 nd:N.Nodup
 pre:N.take P.length = P
 par:∀ x ∈ P,sc.names.lookup x = some .local ∨ sc.names.lookup x = some .cell
 nofree:∀ y ∈ sc.names,y.2 ≠ .free
theorem yJ {kindOf:Str → Option NameKind} {x:Str}:∀ {binds:List (Str × Value)} {m:Str → Option Value},(∀ v,(x,v) ∉ binds) → bindL kindOf binds m x = m x
 | [],_,_=>rfl
 | (n,v) :: r,m,h=>by
  unfold bindL
  rw [yJ fun w hw=>h w (List.mem_cons_of_mem _ hw)]
  split
  ·have:x ≠ n:=by rintro rfl;exact h v List.mem_cons_self
   simp [this]
  ·rfl
theorem yL {kindOf:Str → Option NameKind} {x:Str}:∀ {binds:List (Str × Value)} {m:Str → Option Value},(∀ v,(x,v) ∉ binds) → bindC kindOf binds m x = m x
 | [],_,_=>rfl
 | (n,v) :: r,m,h=>by
  unfold bindC
  rw [yL fun w hw=>h w (List.mem_cons_of_mem _ hw)]
  split
  ·rfl
  ·have:x ≠ n:=by rintro rfl;exact h v List.mem_cons_self
   simp [this]
theorem yK {kindOf:Str → Option NameKind} {x:Str} {v:Value}:∀ {P:List Str} {vs:List Value} {i:Nat} {m:Str → Option Value},P.Nodup → P[i]? = some x → vs[i]? = some v → kindOf x = some .local →
  bindL kindOf (P.zip vs) m x = some v
 | [],_,_,_,_,h,_,_=>by simp at h
 | _ :: _,[],_,_,_,_,h,_=>by simp at h
 | p :: P,w :: vs,0,m,nd,h1,h2,hk=>by
  simp at h1 h2;subst h1;subst h2
  show bindL kindOf ((p,w) :: P.zip vs) m p = _
  unfold bindL
  rw [yJ fun v hv=>(List.nodup_cons.mp nd).1 (List.of_mem_zip hv).1,if_pos hk]
  simp
 | p :: P,w :: vs,i + 1,m,nd,h1,h2,hk=>by
  show bindL kindOf ((p,w) :: P.zip vs) m x = _
  unfold bindL
  exact yK (i:=i) (List.nodup_cons.mp nd).2 (by simpa using h1) (by simpa using h2) hk
theorem yM {kindOf:Str → Option NameKind} {x:Str} {v:Value}:∀ {P:List Str} {vs:List Value} {i:Nat} {m:Str → Option Value},P.Nodup → P[i]? = some x → vs[i]? = some v → kindOf x ≠ some .local →
  bindC kindOf (P.zip vs) m x = some v
 | [],_,_,_,_,h,_,_=>by simp at h
 | _ :: _,[],_,_,_,_,h,_=>by simp at h
 | p :: P,w :: vs,0,m,nd,h1,h2,hk=>by
  simp at h1 h2;subst h1;subst h2
  show bindC kindOf ((p,w) :: P.zip vs) m p = _
  unfold bindC
  rw [yL fun v hv=>(List.nodup_cons.mp nd).1 (List.of_mem_zip hv).1,if_neg hk]
  simp
 | p :: P,w :: vs,i + 1,m,nd,h1,h2,hk=>by
  show bindC kindOf ((p,w) :: P.zip vs) m x = _
  unfold bindC
  exact yM (i:=i) (List.nodup_cons.mp nd).2 (by simpa using h1) (by simpa using h2) hk
def lV (N:List Str) (vs:List V):St:=vs.map some ++ List.replicate (N.length - vs.length) none
def wL (CX:CXT) (P:Program) (w:World) (K:PySem.W.Frag) (mg:Str → Option Value) (base:Heap) (N:List Str) (qual:Str) (scope:Scope) (f:Addr) (cd:Value) (A:Around) (outer:List Env) (s:Shared) (H:Hp) (E:XK):Cx where
 prog:=P
 w:=w
 K:=K
 mg:=mg
 base:=base
 A:=A.deeper (envOfC qual scope s.heap.objs.size f cd)
 N:=N
 s₀:=s
 H₀:=H
 env:=envOfC qual scope s.heap.objs.size f cd
 outer:=outer
 stack:=envOfC qual scope s.heap.objs.size f cd :: outer
 ex:=[]
 calm:=true
 fn:=fun _=>true
 pn:=[]
 xe:=fun e s'=>wpAny (model P w) (A.deeper (envOfC qual scope s.heap.objs.size f cd)) (leaving (envOfC qual scope s.heap.objs.size f cd) e) (fun _ s''=>CX outer H s E e s'') (fun e' s''=>CX outer H s E e' s'') s'
theorem aCE {sc:Scope} {n:Nat} {x:Str} (h:sc.names.lookup x = some .cell):∃ c,(cellsFrom n sc.names []).lookup x = some c:=by
 have q:=PySem.W.cellsFrom_some sc.names n [] (.inl h)
 exact Option.isSome_iff_exists.mp q
theorem aFY {CX:CXT} {P:Program} {w:World} {K:PySem.W.Frag} {mg:Str → Option Value} {base:Heap} {N ps:List Str} {qual:Str} {scope:Scope} {f:Addr} {cd:Value} {A:Around} {outer:List Env} {s s1:Shared} {H:Hp} {E:XK} {us:List Value} {vs:List V}
  (S:FnScope N ps scope) (hd:A.handled = none) (e0:Env0 P w K mg base A outer s H) (hl:vs.length = ps.length) (r:bS vs us)
  (x:InCallC s s.heap.objs.size (bindL (envOfC qual scope s.heap.objs.size f cd).kindOf (ps.zip us) fun _=>none) (cellsFrom (s.heap.objs.size + 1) scope.names []) (bindC (envOfC qual scope s.heap.objs.size f cd).kindOf (ps.zip us) fun _=>none) s1) :
  Inv (wL CX P w K mg base N qual scope f cd A outer s H E) [] (lV N vs) H s1:=by
 have hpl:ps.length ≤ N.length:=by have:=congrArg List.length S.pre;rw [List.length_take] at this;omega
 obtain ⟨h1,tk,rfl,hk⟩:=x.done
 have noA:∀ b:Addr,b ∉ (wL CX P w K mg base N qual scope f cd A outer s H E).ex:=fun b z=>absurd (show b ∈ ([]:List Addr) from z) (by simp)
 refine ⟨⟨e0.mod,S.kind,rfl,rfl,Nat.le_refl _,fun y z c h1 h2=>?_,fun y hy=>?_,fun y c _ h=>?_,fun _=>hd,Around.frames_deeper e0.frames,.inr ⟨rfl,rfl⟩,fun b z=>absurd z (noA b),e0.bs,e0.bsz,fun b _ _=>noA b,fun b z=>absurd z (noA b),e0.funs,e0.frf⟩,
  rfl,e0.bare,Un.kept hk,⟨_,x.toInCall.ns,fun i y v h1 h2 h3=>?_⟩,fun y c h=>⟨_,x.cell y c h⟩,e0.hok.fresh (Nat.le_refl _),fun y c h=>?_,fun p hp=>absurd (show p ∈ ([]:List (Addr × Obj)) from hp) (by simp),e0.hok.kept hk,?_⟩
 ·exact name_of_addr x.apart (PySem.mem_of_lookup h1) (PySem.mem_of_lookup h2)
 ·have hy:scope.names.lookup y = some .cell ∨ scope.names.lookup y = some .free:=hy
  rcases hy with hy | hy
  ·exact aCE hy
  ·exact absurd rfl (S.nofree _ (PySem.mem_of_lookup hy))
 ·exact Nat.le_of_lt (x.above y c (PySem.mem_of_lookup h))
 ·have hi:i < vs.length:=by
   unfold lV at h2
   by_cases hi:i < vs.length
   ·exact hi
   ·rw [List.getElem?_append_right (by simpa using hi)] at h2
    rw [List.getElem?_replicate] at h2
    split at h2 <;> cases h2
  have ha:vs[i]? = some v:=by
   unfold lV at h2
   rw [List.getElem?_append_left (by simpa using hi),List.getElem?_map] at h2
   cases e:vs[i]? with
   | none=>rw [e] at h2;cases h2
   | some a=>rw [e] at h2;cases h2;rfl
  obtain ⟨u,hu,rv⟩:=r.get ha
  have hp:ps[i]? = some y:=by
   rw [← S.pre,List.getElem?_take_of_lt (by omega)];exact h1
  have ndP:ps.Nodup:=by rw [← S.pre];exact S.nd.sublist (List.take_sublist _ _)
  refine ⟨u,rv,?_⟩
  rcases S.par y (List.mem_of_getElem? hp) with k | k
  ·exact .inl ⟨k,yK ndP hp hu k⟩
  ·obtain ⟨c,e⟩:=aCE (n:=s.heap.objs.size + 1) k
   refine .inr ⟨.inl k,c,e,?_⟩
   have q:=x.cell y c e
   rw [yM ndP hp hu (by show scope.names.lookup y ≠ _;rw [k];decide)] at q
   exact q
 ·exact e0.hok.fresh (Nat.le_of_lt (x.above y c (PySem.mem_of_lookup h)))
 ·unfold lV
  show _ = N.length
  rw [List.length_append,List.length_map,List.length_replicate]
  omega
theorem aOJ {CX:CXT} {P:Program} {w:World} {K:PySem.W.Frag} {mg:Str → Option Value} {base:Heap} {k:Nat} {f:Addr} {name qual:Str} {params:Arguments} {body:List Stmt} {scope:Scope} {dV kV doc pm cdv ct oc:Value} {an od:Option Addr}
  {osl:Array (Option Value)} {N ps:List Str} {sp:Sp} (lk:K.lookup f = some ⟨oc,od,.func (PySem.W.fnOf name qual params body scope dV kV doc pm an cdv ct),osl⟩) (hcd:PySem.W.codeIn K cdv qual = true) (S:FnScope N ps scope)
  (len:∀ vs H Q E,sp vs H Q E → vs.length = ps.length)
  (hbody:∀ (A:Around) (outer:List Env) (s:Shared) (H:Hp) (vs:List V) (Q:VK) (E:XK),Room k (A.deeper (envOfC qual scope s.heap.objs.size f cdv)) → sp vs H Q E →
   ∃ t,PSs (wL CX P w K mg base N qual scope f cdv A outer s H E) body t ∧ t { nx:=fun _ H'=>Q .non H',rt:=Q } (lV N vs) H) :
  FnOk P w K mg base CX (k + 1) f (PySem.W.fnOf name qual params body scope dV kV doc pm an cdv ct) ps sp:=by
 refine ⟨len,fun A outer s H args us vs Q E hr e0 hb r hsp=>?_⟩
 have hl:=len _ _ _ _ hsp
 have KX:K.In s.heap:=e0.mod.kin.keeps fun b o e=>(e0.bs b o e).1
 have lim:s.heap.NoLimit:=e0.mod.nolimit.keeps fun b o e=>(e0.bs b o e).1
 have hkind:∀ y ∈ ps.zip us,scope.names.lookup y.1 = some .local ∨ (scope.names.lookup y.1 = some .cell ∧ ((cellsFrom (s.heap.objs.size + 1) scope.names []).lookup y.1).isSome = true):=fun ⟨n,v⟩ hy=>by
  rcases S.par n (List.of_mem_zip hy).1 with q | q
  ·exact .inl q
  ·exact .inr ⟨q,PySem.W.cellsFrom_some _ _ _ (.inl q)⟩
 refine codeAny_call_function hr.depth (KX _ _ lk) rfl S.co S.gen rfl (PySem.W.codeRec_of KX hcd) (hb _ _ _ _ ?_)
 refine wpAny_newFunctionEnv_cells S.kind hkind fun env he s1 x=>?_
 subst he
 refine ⟨lim.keeps x.toInCall.keep,codeAny_func ?_⟩
 obtain ⟨t,ht,hq⟩:=hbody A outer s H vs Q E (hr.deeper _) hsp
 have I:Inv (wL CX P w K mg base N qual scope f cdv A outer s H E) [] (lV N vs) H s1:=aFY S hr.hd e0 hl r x
 refine wpAny_mono (ht [] s1 (lV N vs) H _ I hq) (fun fl s' hs=>?_) fun e s' hs=>hs
 have fin:∀ {σ':St} {H':Hp} {v:V} {u:Value},Inv (wL CX P w K mg base N qual scope f cdv A outer s H E) [] σ' H' s' → bM v u → Q v H' → CE outer P w H s Q u s' :=
  fun {σ' H' v u} J rv q=>⟨v,H',J.os,J.bare,J.base,J.hok,rv,q⟩
 cases fl with
 | ret u =>
  obtain ⟨v,σ',H',J,rv,q⟩:=hs
  exact fin J rv q
 | next =>
  obtain ⟨σ',H',J,q⟩:=hs
  exact fin (v:=V.non) (u:=Value.none) J rfl q
 | brk =>
  obtain ⟨_,_,_,q⟩:=hs
  exact False.elim q
 | cont =>
  obtain ⟨_,_,_,q⟩:=hs
  exact False.elim q
end L2
namespace L2
open PySem PySem.Spec PyProof.Rows
section
variable {X:Cx} {x:Str} {p pos:Pos} {e:Expr} {es:List Expr} {t:TA} {id T:String} {r:List V → Hp → VK → Prop}
def tCB (r:List V → Hp → VK → Prop) (t:TA):TE:=fun σ H Q=>t σ H fun vs H1=>r vs H1 Q
theorem aZ (hc:iF X (.builtin id) r) (hg:Gl X x) (hm:X.mg x = none) (hv:bootBuiltins x = some (.builtin id)) (ha:PA X (e :: es) t) (hn:x ≠ "__name__":=by decide) (hdb:(x == ("__debug__":Str)) = false:=by decide)
  (he:starEach (e :: es) X.env = (false,eval e X.env) :: starEach es X.env:=by rfl) (hpl:(backTo pos (starEach es X.env)).any (·.1) = false:=by rfl):PE X (.Call (.Name x p) (e :: es) [] pos) (tCB r t):=by
 intro pins s σ H Q I h
 refine wpAny_Call_Name_kw (zN I hg hm hv ?_ hn hdb)
 exact PyProof.Rows.callWith_builtin1 (thn (ha pos pins s σ H _ I h) fun us s1 ⟨vs,H1,I1,r1,q1⟩=>hc pins s1 σ H1 vs us Q I1 r1 q1) he hpl
theorem cE (hc:iF X (.type T) r) (hg:Gl X x) (hm:X.mg x = none) (hv:bootBuiltins x = some (.type T)) (ha:PA X (e :: es) t) (hn:x ≠ "__name__":=by decide) (hdb:(x == ("__debug__":Str)) = false:=by decide)
  (he:starEach (e :: es) X.env = (false,eval e X.env) :: starEach es X.env:=by rfl) (hpl:(backTo pos (starEach es X.env)).any (·.1) = false:=by rfl):PE X (.Call (.Name x p) (e :: es) [] pos) (tCB r t):=by
 intro pins s σ H Q I h
 refine wpAny_Call_Name_kw (zN I hg hm hv ?_ hn hdb)
 exact PyProof.Rows.callWith_type1 (thn (ha pos pins s σ H _ I h) fun us s1 ⟨vs,H1,I1,r1,q1⟩=>hc pins s1 σ H1 vs us Q I1 r1 q1) he hpl
end
end L2
namespace L2
open PySem PySem.Spec PyProof.Rows
section
variable {κ:Type} [DecidableEq κ]
def eK (kvs:List (κ × V)) (k:κ):Option V:=(kvs.find? fun kv=>decide (kv.1 = k)).map (·.2)
def iT (kvs:List (κ × V)) (k:κ) (v:V):List (κ × V) :=
 if (kvs.any fun kv=>decide (kv.1 = k)) = true then kvs.map (fun kv=>if kv.1 = k then (kv.1,v) else kv) else kvs ++ [(k,v)]
def dropK (kvs:List (κ × V)) (k:κ):List (κ × V):=kvs.filter fun kv=>decide (kv.1 ≠ k)
theorem dW {p:κ × V} {r:List (κ × V)} {k:κ} (e:p.1 = k):eK (p :: r) k = some p.2:=by simp [eK,List.find?_cons,e]
theorem dX {p:κ × V} {r:List (κ × V)} {k:κ} (e:¬ p.1 = k):eK (p :: r) k = eK r k:=by simp [eK,List.find?_cons,e]
theorem lU (k:κ):∀ kvs:List (κ × V),(kvs.any fun kv=>decide (kv.1 = k)) = (eK kvs k).isSome
 | []=>rfl
 | p :: r=>by
  rw [List.any_cons]
  by_cases e:p.1 = k
  ·simp only [dW e,decide_eq_true e,Bool.true_or,Option.isSome_some]
  ·rw [dX e,decide_eq_false e,Bool.false_or];exact lU k r
theorem aAD (k j:κ) (y:V):∀ kvs:List (κ × V),eK (kvs.map fun kv=>if kv.1 = k then (kv.1,y) else kv) j = (eK kvs j).map fun x=>if j = k then y else x
 | []=>rfl
 | p :: r=>by
  have ih:=aAD k j y r
  rw [List.map_cons]
  by_cases h:p.1 = k
  ·rw [if_pos h]
   by_cases e:p.1 = j
   ·rw [dW (p:=(p.1,y)) e,dW e,Option.map_some,if_pos (e.symm.trans h)]
   ·rw [dX (p:=(p.1,y)) e,dX e,ih]
  ·rw [if_neg h]
   by_cases e:p.1 = j
   ·rw [dW (p:=p) e,dW e,Option.map_some,if_neg (fun z=>h (e.trans z))]
   ·rw [dX (p:=p) e,dX e,ih]
theorem xM (k j:κ) (y:V):∀ kvs:List (κ × V),eK kvs k = none → eK (kvs ++ [(k,y)]) j = if j = k then some y else eK kvs j
 | [],_=>by
  by_cases e:k = j
  ·rw [if_pos e.symm];exact dW (p:=(k,y)) e
  ·rw [if_neg (fun z=>e z.symm)];exact dX (p:=(k,y)) e
 | p :: r,hn=>by
  rw [List.cons_append]
  have hk:¬ p.1 = k:=fun z=>by rw [dW z] at hn;cases hn
  rw [dX hk] at hn
  have ih:=xM k j y r hn
  by_cases e:p.1 = j
  ·rw [dW e,dW e,if_neg (fun z=>hk (e.trans z))]
  ·rw [dX e,dX e,ih]
theorem aAC (kvs:List (κ × V)) (k j:κ) (y:V):eK (iT kvs k y) j = if j = k then some y else eK kvs j:=by
 unfold iT
 by_cases a:(kvs.any fun kv=>decide (kv.1 = k)) = true
 ·rw [if_pos a,aAD]
  rw [lU] at a
  by_cases e:j = k
  ·obtain ⟨x,hx⟩:=Option.isSome_iff_exists.mp a
   rw [if_pos e,e,hx,Option.map_some,if_pos rfl]
  ·rw [if_neg e]
   cases eK kvs j with
   | none=>rfl
   | some x=>rw [Option.map_some,if_neg e]
 ·rw [if_neg a]
  refine xM k j y kvs ?_
  rw [lU] at a
  cases q:eK kvs k with
  | none=>rfl
  | some x=>rw [q] at a;exact (a rfl).elim
theorem jO (kvs:List (κ × V)) (k:κ) (v:V):(iT kvs k v).length ≤ kvs.length + 1:=by
 unfold iT
 split
 ·rw [List.length_map];omega
 ·rw [List.length_append,List.length_cons,List.length_nil];omega
theorem aAY {kvs:List (κ × V)} {k:κ} (v:V) (h:eK kvs k = none):iT kvs k v = kvs ++ [(k,v)]:=by
 unfold iT
 rw [lU,h]
 exact if_neg (by decide)
theorem oG.isSome_eq {o:Option V} {u:Option Value} (r:oG o u):o.isSome = u.isSome:=by
 cases o with
 | none=>cases u with
  | none=>rfl
  | some _=>exact (show False from r).elim
 | some _=>cases u with
  | none=>exact (show False from r).elim
  | some _=>rfl
theorem oG.getD {o:Option V} {u:Option Value} {d:V} {d':Value} (r:oG o u) (rd:bM d d'):bM (o.getD d) (u.getD d'):=by
 cases o with
 | none=>cases u with
  | none=>exact rd
  | some _=>exact (show False from r).elim
 | some _=>cases u with
  | none=>exact (show False from r).elim
  | some _=>exact r
theorem KV.val {kvs:List (κ × V)} {vs:List (κ × Value)} (r:KV kvs vs) (k:κ):oG (eK kvs k) (valueAt vs k):=by
 unfold KV at r
 induction r with
 | nil=>exact True.intro
 | @cons p q ps qs h t ih =>
  obtain ⟨h1,h2⟩:=h
  by_cases e:p.1 = k
  ·have e':q.1 = k:=h1.symm.trans e
   have b:valueAt (q :: qs) k = some q.2:=by simp [valueAt,List.find?_cons,e']
   rw [dW e,b];exact h2
  ·have e':¬ q.1 = k:=fun z=>e (h1.trans z)
   have b:valueAt (q :: qs) k = valueAt qs k:=by simp [valueAt,List.find?_cons,e']
   rw [dX e,b];exact ih
theorem KV.any {kvs:List (κ × V)} {vs:List (κ × Value)} (r:KV kvs vs) (k:κ):(kvs.any fun kv=>decide (kv.1 = k)) = vs.any fun kv=>decide (kv.1 = k):=by
 unfold KV at r
 induction r with
 | nil=>rfl
 | cons h t ih=>rw [List.any_cons,List.any_cons,ih,h.1]
theorem KV.repl {kvs:List (κ × V)} {vs:List (κ × Value)} (r:KV kvs vs) (k:κ) {y:V} {u:Value} (ry:bM y u) :
  KV (kvs.map fun kv=>if kv.1 = k then (kv.1,y) else kv) (vs.map fun kv=>if kv.1 = k then (kv.1,u) else kv):=by
 unfold KV at r ⊢
 induction r with
 | nil=>exact .nil
 | @cons p q ps qs h t ih =>
  rw [List.map_cons,List.map_cons]
  refine .cons ?_ ih
  obtain ⟨h1,h2⟩:=h
  by_cases e:p.1 = k
  ·rw [if_pos e,if_pos (h1.symm.trans e)];exact ⟨h1,ry⟩
  ·rw [if_neg e,if_neg (fun z=>e (h1.trans z))];exact ⟨h1,h2⟩
theorem KV.put {kvs:List (κ × V)} {vs:List (κ × Value)} (r:KV kvs vs) (k:κ) {y:V} {u:Value} (ry:bM y u):KV (iT kvs k y) (stored vs k u):=by
 unfold iT stored
 rw [r.any k]
 by_cases e:(vs.any fun kv=>decide (kv.1 = k)) = true
 ·rw [if_pos e,if_pos e];exact r.repl k ry
 ·rw [if_neg e,if_neg e];exact Paired.snoc r ⟨rfl,ry⟩
theorem KV.keys {kvs:List (κ × V)} {vs:List (κ × Value)} (r:KV kvs vs):kvs.map (·.1) = vs.map (·.1):=by
 unfold KV at r
 induction r with
 | nil=>rfl
 | cons h t ih=>rw [List.map_cons,List.map_cons,ih,h.1]
theorem KV.length {kvs:List (κ × V)} {vs:List (κ × Value)} (r:KV kvs vs):kvs.length = vs.length:=Paired.length r
end
theorem vX {P:Program} {w:World} {k:Key} {u:Value} (r:bM (kV k) u):(bB P w).is k u = true:=by
 cases k with
 | inl i=>obtain ⟨t,e⟩:=(show ∃ t,u = Value.int i t from r);subst e;exact aBT P w i t
 | inr x=>obtain ⟨t,e⟩:=(show ∃ t,u = Value.str x t from r);subst e;exact aBS P w x t
theorem xU {P:Program} {w:World}:∀ {ks:List Key} {us:List Value},bS (ks.map kV) us → ItemsAre (bB P w) ks us
 | [],_,r=>by rw [List.map_nil] at r;cases r;exact .nil
 | k :: ks,_,r=>by
  rw [List.map_cons] at r
  cases r with
  | cons h t=>exact .cons (vX h) (xU t)
abbrev KT (H:Hp):List (List Key × V) → List (List Key × Addr × Value) → Prop:=Paired fun p q=>p.1 = q.1 ∧ H q.2.1 = some (.tup (p.1.map kV)) ∧ bM p.2 q.2.2
theorem KT.val {H:Hp} {kvs:List (List Key × V)} {xs:List (List Key × Addr × Value)} (r:KT H kvs xs) (k:List Key):oG (eK kvs k) ((atKey xs k).map (·.2)):=by
 induction r with
 | nil=>exact True.intro
 | @cons p q ps qs h t ih =>
  obtain ⟨h1,_,h2⟩:=h
  by_cases e:p.1 = k
  ·have e':q.1 = k:=h1.symm.trans e
   have b:atKey (q :: qs) k = some q.2:=by simp [atKey,List.find?_cons,e']
   rw [dW e,b];exact h2
  ·have e':¬ q.1 = k:=fun z=>e (h1.trans z)
   have b:atKey (q :: qs) k = atKey qs k:=by simp [atKey,List.find?_cons,e']
   rw [dX e,b];exact ih
theorem KT.repl {H:Hp} {kvs:List (List Key × V)} {xs:List (List Key × Addr × Value)} (r:KT H kvs xs) (k:List Key) {y:V} {u:Value} (ry:bM y u) :
  KT H (kvs.map fun kv=>if kv.1 = k then (kv.1,y) else kv) (xs.map (putAt k u)):=by
 induction r with
 | nil=>exact .nil
 | @cons p q ps qs h t ih =>
  rw [List.map_cons,List.map_cons]
  refine .cons ?_ ih
  obtain ⟨h1,h2,h3⟩:=h
  unfold putAt
  by_cases e:p.1 = k
  ·rw [if_pos e,if_pos (h1.symm.trans e)];exact ⟨h1,h2,ry⟩
  ·rw [if_neg e,if_neg (fun z=>e (h1.trans z))];exact ⟨h1,h2,h3⟩
theorem KT.put {H:Hp} {kvs:List (List Key × V)} {xs:List (List Key × Addr × Value)} (r:KT H kvs xs) (k:List Key) {b:Addr} {y:V} {u:Value} (hb:H b = some (.tup (k.map kV))) (ry:bM y u) :
  KT H (iT kvs k y) (storedH xs k b u):=by
 have e:(kvs.any fun kv=>decide (kv.1 = k)) = (atKey xs k).isSome:=by
  rw [lU,(r.val k).isSome_eq,Option.isSome_map]
 unfold iT storedH
 rw [e]
 by_cases q:(atKey xs k).isSome = true
 ·rw [if_pos q,if_pos q];exact r.repl k ry
 ·rw [if_neg q,if_neg q];exact Paired.snoc r ⟨rfl,hb,ry⟩
theorem KT.keeps {H H':Hp} {kvs:List (List Key × V)} {xs:List (List Key × Addr × Value)} (r:KT H kvs xs) (ht:∀ b ys,H b = some (.tup ys) → H' b = some (.tup ys)):KT H' kvs xs :=
 Paired.mapP r fun _ _ z=>⟨z.1,ht _ _ z.2.1,z.2.2⟩
section
variable {P:Program} {w:World} {H:Hp} {h:Heap} {a:Addr}
theorem aLG {u:HO} (ok:HOk P w H h) (e:Rd H a u):cW P w H h a u:=e.ok ok
theorem wI {kvs:List (Key × V)} (ok:HOk P w H h) (e:Rd H a (.dK kvs)):kvs.length ≤ sizeLine ∧ (a == sysModules) = false ∧ ∃ vs,KV kvs vs ∧ h.DictOf (bB P w) a vs :=
 show cW P w H h a (.dK kvs) from aLG ok e
theorem aLJ {kvs:List (Key × V)} (ok:HOk P w H h) (e:H a = some (.dK kvs)):kvs.length ≤ sizeLine ∧ (a == sysModules) = false ∧ ∃ vs,KV kvs vs ∧ h.DictOf (bB P w) a vs:=wI ok (.inl e)
theorem rY {ks:List Key} (ok:HOk P w H h) (e:H a = some (.tup (ks.map kV))):(tupleKind (bB P w)).is h ks a:=by
 obtain ⟨_,its,r,o,h1,h2,n,h3,_⟩:=(show cW P w H h a (.tup (ks.map kV)) from ok a _ e)
 exact ⟨o,its.toArray,n,h1,h2,h3,by simpa using xU r⟩
theorem wG {kvs:List (List Key × V)} (ok:HOk P w H h) (e:Rd H a (.dT kvs)):kvs.length ≤ sizeLine ∧ (a == sysModules) = false ∧
  ∃ xs,KT H kvs xs ∧ h.DictOfH (tupleKind (bB P w)) a xs:=by
 obtain ⟨z,y,xs,r,o,es,ep,h1,h2,h3,h4,h5⟩:=(show cW P w H h a (.dT kvs) from aLG ok e)
 refine ⟨z,y,xs,r,o,es,ep,h1,h2,h3,h4,fun x hx=>?_,h5⟩
 have all:∀ {l:List (List Key × V)} {m:List (List Key × Addr × Value)},KT H l m → ∀ x ∈ m,(tupleKind (bB P w)).is h x.1 x.2.1:=by
  intro l m q
  induction q with
  | nil=>intro x hx;exact nomatch hx
  | @cons p q ps qs hq t ih =>
   intro x hx
   rcases List.mem_cons.mp hx with e | hx
   ·subst e
    exact rY ok (by rw [← hq.1];exact hq.2.1)
   ·exact ih x hx
 exact all r x hx
theorem aOL {kvs:List (List Key × V)} (ok:HOk P w H h) (e:H a = some (.dT kvs)):kvs.length ≤ sizeLine ∧ (a == sysModules) = false ∧
  ∃ xs,KT H kvs xs ∧ h.DictOfH (tupleKind (bB P w)) a xs:=wG ok (.inl e)
end
def lT (H:Hp) (a:Addr) (y:V) (r:Option V):Prop :=
 (∃ kvs k,Rd H a (.dK kvs) ∧ y = kV k ∧ r = eK kvs k) ∨ ∃ kvs k b,Rd H a (.dT kvs) ∧ y = .ref b ∧ H b = some (.tup (k.map kV)) ∧ r = eK kvs k
def aCL (H:Hp) (a:Addr) (y v:V) (H':Hp):Prop :=
 (∃ kvs k,H a = some (.dK kvs) ∧ y = kV k ∧ kvs.length < sizeLine ∧ H' = upd H a (.dK (iT kvs k v))) ∨
 ∃ kvs k b,H a = some (.dT kvs) ∧ y = .ref b ∧ H b = some (.tup (k.map kV)) ∧ kvs.length < sizeLine ∧ H' = upd H a (.dT (iT kvs k v))
theorem lT.k {H:Hp} {a:Addr} {kvs:List (Key × V)} {k:Key} (e:H a = some (.dK kvs)):lT H a (kV k) (eK kvs k):=.inl ⟨kvs,k,.inl e,rfl,rfl⟩
theorem aCL.k {H:Hp} {a:Addr} {kvs:List (Key × V)} {k:Key} {v:V} (e:H a = some (.dK kvs)) (hl:kvs.length < sizeLine):aCL H a (kV k) v (upd H a (.dK (iT kvs k v))):=.inl ⟨kvs,k,e,rfl,hl,rfl⟩
section
variable {X:Cx} {pins:List (Addr × Obj)} {σ:St} {H:Hp} {s:Shared} {a:Addr} {y v:V} {u r:Value} {o:Option V} {A:Around} {E:Value → Shared → Prop}
theorem Inv.big (I:Inv X pins σ H s):sysModules < s.heap.objs.size:=by
 have h:mainGlobals < s.heap.objs.size:=(I.mod.glob.keeps I.bk).lt
 exact Nat.lt_trans (by decide) h
theorem yB {Q:Value → Shared → Prop} (hu:A.units + 1 < cLine) (I:Inv X pins σ H s) (g:lT H a y (some v)) (ry:bM y u) (h:∀ w' s',Inv X pins σ H s' → bM v w' → Q w' s') :
  wpAny (model X.prog X.w) A (getItem (.ref a) u) Q E s:=by
 rcases g with ⟨kvs,k,e,ey,l⟩ | ⟨kvs,k,b,e,ey,eb,l⟩
 ·subst ey
  obtain ⟨z,hd,vs,rel,dd⟩:=wI I.hok e
  obtain ⟨w',hw,rw'⟩:=oG.some_of (v:=v) (o:=valueAt vs k) (by rw [l];exact rel.val k)
  exact wpAny_getItem_of (vX ry) dd.mapOf hw (h w' _ (I.tok _) rw')
 ·subst ey
  cases (show u = Value.ref b from ry)
  obtain ⟨z,hd,xs,rel,dd⟩:=wG I.hok e
  obtain ⟨w',hw,rw'⟩:=oG.some_of (v:=v) (o:=(atKey xs k).map (·.2)) (by rw [l];exact rel.val k)
  obtain ⟨p,hp,hp2⟩:=Option.map_eq_some_iff.mp hw
  refine wpAny_getItem_heap (tupleKind_room_in1 hu) (rY I.hok eb) dd hp ?_
  rw [hp2]
  exact h w' _ (I.tok _) rw'
theorem aPN {Q:Value → Shared → Prop} (hu:A.units + 1 < cLine) (I:Inv X pins σ H s) (g:lT H a y o) (ry:bM y u) (h:∀ s',Inv X pins σ H s' → Q (.bool o.isSome) s') :
  wpAny (model X.prog X.w) A (compareOp .In u (.ref a)) Q E s:=by
 rcases g with ⟨kvs,k,e,ey,l⟩ | ⟨kvs,k,b,e,ey,eb,l⟩
 ·subst ey
  obtain ⟨z,hd,vs,rel,dd⟩:=wI I.hok e
  refine wpAny_in_of (vX ry) hd dd.mapOf ?_
  rw [← (rel.val k).isSome_eq,← l]
  exact h _ (I.tok _)
 ·subst ey
  cases (show u = Value.ref b from ry)
  obtain ⟨z,hd,xs,rel,dd⟩:=wG I.hok e
  refine wpAny_in_heap (tupleKind_room_in1 hu) (rY I.hok eb) hd dd ?_
  have q:=(rel.val k).isSome_eq
  rw [Option.isSome_map] at q
  rw [← q,← l]
  exact h _ (I.tok _)
theorem zU {h':Heap} {t':Nat} {ob:HO} (I:Inv X pins σ H s) (mu:Mut (H a)) (hs:Heap.SameBut a s.heap h') (he:∃ q,h'.get? a = some q) (new:cW X.prog X.w (upd H a ob) h' a ob) :
  Inv X pins σ (upd H a ob) { s with heap:=h',toks:=t' } :=
 I.write (x:=a) (e:=a) mu (.inl rfl) (fun b q hb z=>(hs.2 b hb).trans z) he new
theorem aJC {P:Program} {w:World} {H':Hp} {h':Heap} {kvs:List (Key × V)} {vs:List (Key × Value)} (z:kvs.length ≤ sizeLine) (hd:(a == sysModules) = false) (rel:KV kvs vs) (dd:h'.DictOf (bB P w) a vs) :
  cW P w H' h' a (.dK kvs):=⟨z,hd,vs,rel,dd⟩
theorem yA {H':Hp} {Q:Unit → Shared → Prop} (hu:A.units + 1 < cLine) (I:Inv X pins σ H s) (g:aCL H a y v H') (ry:bM y u) (rv:bM v r) (h:∀ s',Inv X pins σ H' s' → Q () s') :
  wpAny (model X.prog X.w) A (setItem (.ref a) u r) Q E s:=by
 rcases g with ⟨kvs,k,e,ey,l,eH⟩ | ⟨kvs,k,b,e,ey,eb,l,eH⟩
 ·subst ey eH
  obtain ⟨z,hd,vs,rel,dd⟩:=aLJ I.hok e
  have hz:vs.length ≤ sizeLine:=by rw [← rel.length];exact z
  have hl:(iT kvs k v).length ≤ sizeLine:=by have:=jO kvs k v;omega
  refine wpAny_setItem_pairs (hsz:=hz) (vX ry) dd fun h' dd' hs=>h _ ?_
  have he:∃ q,h'.get? a = some q:=let ⟨q,_,_,hq,_⟩:=dd';⟨q,hq⟩
  exact zU I (by rw [e];exact True.intro) hs he (aJC hl hd (rel.put k rv) dd')
 ·subst ey eH
  cases (show u = Value.ref b from ry)
  obtain ⟨z,hd,xs,rel,dd⟩:=aOL I.hok e
  have hz:xs.length ≤ sizeLine:=by rw [← Paired.length rel];exact z
  have hl:(iT kvs k v).length ≤ sizeLine:=by have:=jO kvs k v;omega
  refine wpAny_setItem_heap (hsz:=hz) (tupleKind_room_in1 hu) (rY I.hok eb) dd fun h' dd' hs=>h _ ?_
  obtain ⟨q,es,ep,hq,h2,h3,h4,_,h5⟩:=dd'
  refine zU I (by rw [e];exact True.intro) hs ⟨q,hq⟩ ⟨hl,hd,_,(rel.put k eb rv).keeps fun c ys ec=>?_,q,es,ep,hq,h2,h3,h4,h5⟩
  rw [aP (aET ec e (fun z=>nomatch z))]
  exact ec
end
section
variable {X:Cx} {pins:List (Addr × Obj)} {σ:St} {H:Hp} {s:Shared} {a:Addr} {kvs:List (Key × V)} {k:Key} {u:Value} {A:Around} {E:Value → Shared → Prop}
end
def aOQ (i:Expr):Prop:=∀ ov iv,subscripted i false ov iv = operate [ov,iv] (getItem ov iv)
theorem aJQ {prog:Program} {w:World} {A:Around} {E:Value → Shared → Prop} {s:Shared} {env:Env} {value slice:Expr} {pos:Pos} {T id:String} {Q:Value → Shared → Prop}
  (hl:typeLookup (.type T) "__getitem__" = pure (some (.builtin id))) (hs:aOQ slice)
  (h:wpAny (model prog w) A (eval value env) (fun o s₁=>wpAny (model prog w) A (eval slice env) (fun i s₂=>s₂.TypeIs o T ∧ wpAny (model prog w) A (getItem o i) Q E s₂) E s₁) E s) :
  wpAny (model prog w) A (eval (.Subscript value slice pos) env) Q E s:=by
 refine Subscript_ (wpAny_mono h (fun o s₁ h₁=>wpAny_mono h₁ (fun i s₂ h₂=>?_) fun _ _ x=>x) fun _ _ x=>x)
 obtain ⟨hT,h₂⟩:=h₂
 unfold subscriptTail
 refine wpAny_bind ?_
 rw [getitemInPython_of_ne hT.not_modules]
 refine wpAny_bind (wpAny_specialOf hT hl ?_)
 have fin:wpAny (model prog w) A (subscripted slice false o i) (fun r s₃=>wpAny (model prog w) A (letTemporaryGo value o r >>= fun _=>pure r) Q E s₃) E s₂:=by
  rw [hs o i]
  exact wpAny_operating (wpAny_mono h₂ (fun r s₃ h₃=>wpAny_bind (wpAny_letTemporaryGo (wpAny_pure h₃))) fun _ _ x=>x)
 first
  | exact wpAny_pure (wpAny_bind fin)
  | exact wpAny_bind (wpAny_pure (wpAny_bind fin))
  | exact wpAny_bind fin
theorem aCA {X:Cx} {pins:List (Addr × Obj)} {σ:St} {H:Hp} {s:Shared} {a:Addr} {y:V} {o:Option V} (I:Inv X pins σ H s) (g:lT H a y o):s.TypeIs (.ref a) "dict":=by
 rcases g with ⟨kvs,k,e,_,_⟩ | ⟨kvs,k,b,e,_,_,_⟩
 ·obtain ⟨_,_,vs,_,dd⟩:=wI I.hok e
  exact dd.typeIs
 ·obtain ⟨_,_,xs,_,dd⟩:=wG I.hok e
  exact dd.typeIs
def aNH (td ty:TE):TE:=fun σ H Q=>td σ H fun x H1=>ty σ H1 fun y H2=>∃ a v,x = .ref a ∧ lT H2 a y (some v) ∧ Q v H2
def aOY (ty td:TE):TE:=fun σ H Q=>ty σ H fun y H1=>td σ H1 fun x H2=>∃ a o,x = .ref a ∧ lT H2 a y o ∧ Q (.bl o.isSome) H2
def aNN (td ty tv:TE):TS:=fun D σ H=>tv σ H fun v H1=>td σ H1 fun x H2=>ty σ H2 fun y H3=>∃ a H4,x = .ref a ∧ aCL H3 a y v H4 ∧ D.nx σ H4
def aNO (td ty tv:TE) (rd:V → V → Hp → VK → Prop):TS:=fun D σ H=>td σ H fun x H1=>ty σ H1 fun y H2=>∃ a v,x = .ref a ∧ lT H2 a y (some v) ∧
 tv σ H2 fun y2 H3=>rd v y2 H3 fun z H4=>∃ H5,aCL H4 a y z H5 ∧ D.nx σ H5
section
variable {X:Cx} {o i e value:Expr} {pos pos' tpos:Pos} {td ty tv:TE}
theorem jD (hu:X.A.units + 1 < cLine) (ho:PE X o td) (hi:PE X i ty) (hs:aOQ i):PE X (.Subscript o i pos) (aNH td ty):=by
 intro pins s σ H Q I h
 refine aJQ PySem.F.slot_dict_getitem.lookup hs (thn (ho pins s σ H _ I h) fun u s1 ⟨x,H1,I1,rx,q1⟩=>thn (hi pins s1 σ H1 _ I1 q1) fun iv s2 ⟨y,H2,I2,ry,a,v,ex,g,q2⟩=>?_)
 subst ex
 obtain rfl:u = Value.ref a:=rx
 exact ⟨aCA I2 g,yB hu I2 g ry fun w' s3 I3 rw'=>⟨v,H2,I3,rw',q2⟩⟩
theorem aIB (hu:X.A.units + 1 < cLine) (hi:PE X i ty) (ho:PE X o td):PC X .In i o (aOY ty td):=by
 intro pins s σ H Q I h
 refine thn (hi pins s σ H _ I h) fun iv s1 ⟨y,H1,I1,ry,q1⟩=>thn (ho pins s1 σ H1 _ I1 q1) fun u s2 ⟨x,H2,I2,rx,a,ov,ex,g,q2⟩=>?_
 subst ex
 obtain rfl:u = Value.ref a:=rx
 exact aPN hu I2 g ry fun s3 I3=>⟨.bl ov.isSome,H2,I3,rfl,q2⟩
theorem nJ (hu:X.A.units + 1 < cLine) (ho:PE X o td) (hi:PE X i ty) (hv:PE X value tv) (hs:swapsWith value (some (.Subscript o i pos')) pos.line X.env = pure false) :
  PS X (.Assign [.Subscript o i pos'] value pos) (aNN td ty tv):=by
 intro pins s σ H D I h
 refine wpAny_Assign_Subscript (thn (hv pins s σ H _ I h) fun r s1 ⟨v,H1,I1,rv,q1⟩=>thn (ho pins s1 σ H1 _ I1 q1) fun u s2 ⟨x,H2,I2,rx,q2⟩=>thn (hi pins s2 σ H2 _ I2 q2) fun iv s3 ⟨y,H3,I3,ry,a,H4,ex,g,q3⟩=>?_) hs
 subst ex
 obtain rfl:u = Value.ref a:=rx
 exact yA hu I3 g ry rv fun s4 I4=>⟨σ,H4,I4,q3⟩
theorem aJW {op:Operator} {rd:V → V → Hp → VK → Prop} (hu:X.A.units + 1 < cLine) (ho:PE X o td) (hi:PE X i ty) (hv:PE X value tv) (hop:aMV X op rd)
  (ha:∀ ov iv new,augStore i ov iv new = (do holding [new,ov,iv] (setItem ov iv new);release [new,ov,iv] [];pure .next)):PS X (.AugAssign (.Subscript o i tpos) op value pos) (aNO td ty tv rd):=by
 intro pins s σ H D I h
 refine wpAny_AugAssign_SubscriptAny (thn (ho pins s σ H _ I h) fun u s1 ⟨x,H1,I1,rx,q1⟩=>thn (hi pins s1 σ H1 _ I1 q1) fun iv s2 ⟨y,H2,I2,ry,a,v,ex,g,q2⟩=>?_) ha
 subst ex
 obtain rfl:u = Value.ref a:=rx
 refine yB hu I2 g ry fun w' s3 I3 rw'=>thn (hv pins s3 σ H2 _ I3 q2) fun w2 s4 ⟨y2,H3,I4,ry2,q3⟩=>thn (hop pins s4 σ H3 v y2 w' w2 _ I4 rw' ry2 q3) fun w3 s5 ⟨z,H4,I5,rz,H5,g5,q4⟩=>?_
 exact yA hu I5 g5 ry rz fun s6 I6=>⟨σ,H5,I6,q4⟩
end
theorem aBZ {P:Program} {w:World} {H:Hp} (h:Heap) (hb:sysModules < h.objs.size):cW P w H (h.push { cls:=.type "dict",data:=.dict #[] }) h.objs.size (.dK []) :=
 ⟨Nat.zero_le _,beq_eq_false_iff_ne.mpr (Ne.symm (Nat.ne_of_lt hb)),[],.nil,Heap.DictOf.new h⟩
def aLR:TE:=fun _ H Q=>∀ p,H p = none → Q (.ref p) (upd H p (.dK []))
section
variable {X:Cx} {pos:Pos}
theorem aBB:PE X (.Dict [] [] pos) aLR:=fun pins s σ H Q I h =>
 wpAny_Dict_empty ⟨.ref s.heap.objs.size,_,I.laid (a:=s.heap.objs.size) (o:=.dK []) (t':=s.toks) (fun _ _ q=>Heap.get?_push_of_some _ q) (Nat.le_refl _) (aBZ s.heap I.big),rfl,h _ (I.hok.fresh (Nat.le_refl _))⟩
end
def aCP:List (TE × TE) → St → Hp → (List (V × V) → Hp → Prop) → Prop
 | [],_,H,Q=>Q [] H
 | (tk,tv) :: r,σ,H,Q=>tk σ H fun x H1=>tv σ H1 fun y H2=>aCP r σ H2 fun ps H3=>Q ((x,y) :: ps) H3
abbrev VV:List (V × V) → List (Value × Value) → Prop:=Paired fun p q=>bM p.1 q.1 ∧ bM p.2 q.2
def PPs (X:Cx) (pos:Pos) (keys:List (Option Expr)) (values:List Expr) (trs:List (TE × TE)):Prop :=
 ∀ (pins:List (Addr × Obj)) (s:Shared) (σ:St) (H:Hp) (Q:List (V × V) → Hp → Prop),Inv X pins σ H s → aCP trs σ H Q →
  wpAny (model X.prog X.w) X.A (evalPairs (pairTrees keys values X.env pos)) (fun vs s'=>∃ ps H',Inv X pins σ H' s' ∧ VV ps vs ∧ Q ps H') X.xe s
theorem aEM {X:Cx} {pos:Pos}:PPs X pos [] [] []:=fun pins s σ H Q I h=>pairTrees_nil_walk ⟨[],H,I,.nil,h⟩
theorem aAZ {X:Cx} {pos:Pos} {k v:Expr} {ks:List (Option Expr)} {vs:List Expr} {tk tv:TE} {trs:List (TE × TE)} (hk:PE X k tk) (hv:PE X v tv) (hr:PPs X pos ks vs trs) :
  PPs X pos (some k :: ks) (v :: vs) ((tk,tv) :: trs):=fun pins s σ H Q I h =>
 pairTrees_cons_walk (thn (hk pins s σ H _ I h) fun u s1 ⟨x,H1,I1,rx,q1⟩=>thn (hv pins s1 σ H1 _ I1 q1) fun w2 s2 ⟨y,H2,I2,ry,q2⟩ =>
  thn (hr pins s2 σ H2 _ I2 q2) fun ws s3 ⟨ps,H3,I3,rel,q3⟩=>⟨(x,y) :: ps,H3,I3,.cons ⟨rx,ry⟩ rel,q3⟩)
def lA (kvs more:List (Key × V)):List (Key × V):=more.foldl (fun acc kv=>iT acc kv.1 kv.2) kvs
theorem KV.merge:∀ {more:List (Key × V)} {rs:List (Key × Value)} {kvs:List (Key × V)} {vs:List (Key × Value)},KV more rs → KV kvs vs → KV (lA kvs more) (merged vs rs):=by
 intro more rs kvs vs r
 unfold KV at r
 induction r generalizing kvs vs with
 | nil=>intro q;exact q
 | @cons p q ps qs h t ih =>
  intro r0
  have e:KV (iT kvs p.1 p.2) (stored vs q.1 q.2):=by
   have:=r0.put p.1 h.2
   rw [← h.1];exact this
  exact ih e
theorem pY:∀ (more kvs:List (Key × V)),(lA kvs more).length ≤ kvs.length + more.length
 | [],kvs=>by show kvs.length ≤ kvs.length + 0;omega
 | p :: r,kvs=>by
  have h1:=pY r (iT kvs p.1 p.2)
  have h2:=jO kvs p.1 p.2
  show (lA (iT kvs p.1 p.2) r).length ≤ _
  rw [List.length_cons];omega
theorem wT {P:Program} {w:World}:∀ {kvs:List (Key × V)} {ws:List (Value × Value)},VV (kvs.map fun kv=>(kV kv.1,kv.2)) ws → ∃ rs,Carries (bB P w) ws rs ∧ KV kvs rs
 | [],_,r=>by rw [List.map_nil] at r;cases r;exact ⟨[],True.intro,.nil⟩
 | p :: kvs,_,r=>by
  rw [List.map_cons] at r
  cases r with
  | @cons a b as bs h t =>
   obtain ⟨rs,c,q⟩:=wT (P:=P) (w:=w) t
   obtain ⟨b1,b2⟩:=b
   exact ⟨(p.1,b2) :: rs,⟨vX h.1,rfl,c⟩,.cons ⟨rfl,h.2⟩ q⟩
def aNG (trs:List (TE × TE)):TE:=fun σ H Q=>∀ p,H p = none → aCP trs σ (upd H p (.dK [])) fun ps H2=>H2 p = some (.dK []) ∧ ∃ kvs:List (Key × V),ps = kvs.map (fun kv=>(kV kv.1,kv.2)) ∧ kvs.length ≤ 15 ∧ Q (.ref p) (upd H2 p (.dK (lA [] kvs)))
theorem aEQ {X:Cx} {pos:Pos} {keys:List (Option Expr)} {values:List Expr} {trs:List (TE × TE)} (h:PPs X pos keys values trs) (hall:keys.all (·.isSome) = true) (hl:keys.length = values.length) (h0:keys ≠ [])
  (h15:keys.length ≤ 15):PE X (.Dict keys values pos) (aNG trs):=by
 intro pins s σ H Q I q
 have hn:=I.hok.fresh (Nat.le_refl s.heap.objs.size)
 have I1:=I.laid (a:=s.heap.objs.size) (o:=.dK []) (h':=s.heap.push { cls:=.type "dict",data:=.dict #[] }) (t':=s.toks) (fun _ _ q=>Heap.get?_push_of_some _ q) (Nat.le_refl _) (aBZ s.heap I.big)
 refine wpAny_Dict_walk (knd:=bB X.prog X.w) hall hl h0 h15 (thn (h pins _ σ _ _ I1 (q _ hn)) fun ws s2 ⟨ps,H2,I2,rel,e,kvs,ep,lk,q2⟩=>?_)
 subst ep
 obtain ⟨rs,c,rk⟩:=wT (P:=X.prog) (w:=X.w) rel
 obtain ⟨z,hd,vs0,r0,dd⟩:=aLJ I2.hok e
 cases r0
 refine ⟨rs,c,dd,fun h' dd' hs=>⟨.ref s.heap.objs.size,_,?_,rfl,q2⟩⟩
 have hz:(lA [] kvs).length ≤ sizeLine:=by
  have h1:=pY kvs []
  rw [List.length_nil] at h1
  rw [sizeLine_eq];omega
 have he:∃ q,h'.get? s.heap.objs.size = some q:=let ⟨q,_,_,hq,_⟩:=dd';⟨q,hq⟩
 exact zU I2 (by rw [e];exact True.intro) hs he (aJC hz hd (rk.merge .nil) dd')
structure M1 (X:Cx) (o:Expr) (m:Str) (apos:Pos) (e:Expr) (cpos:Pos):Prop where
 base:attributeBase o m X.env (eval o X.env) = eval o X.env
 few:((backTo cpos (starEach [e] X.env)).all (fun x=>!x.1) && (backToKw cpos (keywordEach [] X.env)).all (fun x=>x.1.isSome)
  && decide (([e]:List Expr).length + ([]:List Keyword).length + (if ([]:List Keyword).isEmpty then 0 else 1) < 30)) = true
 line:(apos.endLine == cpos.line) = true
 trees:backTo cpos (starEach [e] X.env) = [(false,eval e X.env)]
structure M2 (X:Cx) (o:Expr) (m:Str) (apos:Pos) (e f:Expr) (cpos:Pos):Prop where
 base:attributeBase o m X.env (eval o X.env) = eval o X.env
 few:((backTo cpos (starEach [e,f] X.env)).all (fun x=>!x.1) && (backToKw cpos (keywordEach [] X.env)).all (fun x=>x.1.isSome)
  && decide (([e,f]:List Expr).length + ([]:List Keyword).length + (if ([]:List Keyword).isEmpty then 0 else 1) < 30)) = true
 line:(apos.endLine == cpos.line) = true
 trees:backTo cpos (starEach [e,f] X.env) = [(false,eval e X.env),(false,eval f X.env)]
def IsD (H:Hp) (a:Addr):Prop:=(∃ kvs,Rd H a (.dK kvs)) ∨ ∃ kvs,Rd H a (.dT kvs)
theorem aIM {X:Cx} {pins:List (Addr × Obj)} {σ:St} {H:Hp} {s:Shared} {a:Addr} (I:Inv X pins σ H s) (d:IsD H a) :
  s.TypeIs (.ref a) "dict" ∧ (∀ b,Value.ref a = .ref b → ∃ ob,s.heap.get? b = some ob ∧ ob.dict = none) ∧ (a == sysModules) = false:=by
 rcases d with ⟨kvs,e⟩ | ⟨kvs,e⟩
 ·obtain ⟨_,hd,vs,_,dd⟩:=wI I.hok e
  refine ⟨dd.typeIs,fun b q=>?_,hd⟩
  cases q
  obtain ⟨ob,_,_,h1,h2,_⟩:=dd
  exact ⟨ob,h1,h2.2.1⟩
 ·obtain ⟨_,hd,xs,_,dd⟩:=wG I.hok e
  refine ⟨dd.typeIs,fun b q=>?_,hd⟩
  cases q
  obtain ⟨ob,_,_,h1,h2,_⟩:=dd
  exact ⟨ob,h1,h2.2.1⟩
section
variable {X:Cx} {pins:List (Addr × Obj)} {σ:St} {H:Hp} {s:Shared} {a:Addr} {y d:V} {u r:Value} {o:Option V} {A:Around} {E:Value → Shared → Prop}
theorem aMP {Q:Value → Shared → Prop} (hu:A.units + 1 < cLine) (I:Inv X pins σ H s) (g:lT H a y o) (ry:bM y u) (h:∀ w' s',Inv X pins σ H s' → bM (o.getD .non) w' → Q w' s') :
  wpAny (model X.prog X.w) A (call (.builtin "dict.get") [.ref a,u]) Q E s:=by
 rcases g with ⟨kvs,k,e,ey,l⟩ | ⟨kvs,k,b,e,ey,eb,l⟩
 ·subst ey
  obtain ⟨z,hd,vs,rel,dd⟩:=wI I.hok e
  refine call_meetsIn PySem.F.slot_dict_get dd.typeIs PySem.F.entry_dict_get (PySem.F.args_dict_get_2 _ _) (meets_dict_get (bB X.prog X.w) a (vX ry) hd) ⟨_,dd.mapOf,h _ _ (I.tok _) ?_⟩
  rw [l]
  exact (rel.val k).getD rfl
 ·subst ey
  cases (show u = Value.ref b from ry)
  obtain ⟨z,hd,xs,rel,dd⟩:=wG I.hok e
  refine call_meetsIn PySem.F.slot_dict_get dd.typeIs PySem.F.entry_dict_get (PySem.F.args_dict_get_2 _ _) (meetsH_dict_get (tupleKind (bB X.prog X.w)) a b hd) ⟨tupleKind_room_in1 hu,k,xs,rY I.hok eb,dd,h _ _ (I.tok _) ?_⟩
  rw [l]
  exact (rel.val k).getD rfl
theorem aMO {Q:Value → Shared → Prop} (hu:A.units + 1 < cLine) (I:Inv X pins σ H s) (g:lT H a y o) (ry:bM y u) (rd:bM d r) (h:∀ w' s',Inv X pins σ H s' → bM (o.getD d) w' → Q w' s') :
  wpAny (model X.prog X.w) A (call (.builtin "dict.get") [.ref a,u,r]) Q E s:=by
 rcases g with ⟨kvs,k,e,ey,l⟩ | ⟨kvs,k,b,e,ey,eb,l⟩
 ·subst ey
  obtain ⟨z,hd,vs,rel,dd⟩:=wI I.hok e
  refine call_meetsIn PySem.F.slot_dict_get dd.typeIs PySem.F.entry_dict_get (PySem.F.args_dict_get_3 _ _ _) (meets_dict_get_default (bB X.prog X.w) a (vX ry) hd r) ⟨_,dd.mapOf,h _ _ (I.tok _) ?_⟩
  rw [l]
  exact (rel.val k).getD rd
 ·subst ey
  cases (show u = Value.ref b from ry)
  obtain ⟨z,hd,xs,rel,dd⟩:=wG I.hok e
  refine call_meetsIn PySem.F.slot_dict_get dd.typeIs PySem.F.entry_dict_get (PySem.F.args_dict_get_3 _ _ _) (meetsH_dict_get_default (tupleKind (bB X.prog X.w)) a b hd r) ⟨tupleKind_room_in1 hu,k,xs,rY I.hok eb,dd,h _ _ (I.tok _) ?_⟩
  rw [l]
  exact (rel.val k).getD rd
end
def aLT (td ty:TE):TE:=fun σ H Q=>td σ H fun x H1=>∃ a,x = .ref a ∧ IsD H1 a ∧ ty σ H1 fun y H2=>∃ o,lT H2 a y o ∧ Q (o.getD .non) H2
def aLS (td ty tx:TE):TE:=fun σ H Q=>td σ H fun x H1=>∃ a,x = .ref a ∧ IsD H1 a ∧ ty σ H1 fun y H2=>tx σ H2 fun z H3=>∃ o,lT H3 a y o ∧ Q (o.getD z) H3
section
variable {X:Cx} {o e f:Expr} {apos cpos:Pos} {td ty tx:TE}
theorem aBC (hu:X.A.units + 1 < cLine) (ho:PE X o td) (he:PE X e ty) (m:M1 X o "get" apos e cpos):PE X (.Call (.Attribute o "get" apos) [e] [] cpos) (aLT td ty):=by
 intro pins s σ H Q I h
 refine wpAny_Call_method m.base m.few m.line PySem.F.plainAttrs_dict PySem.F.slot_dict_get PySem.F.type_dict_get (thn (ho pins s σ H _ I h) fun u s1 ⟨x,H1,I1,rx,a,ex,d,q1⟩=>?_)
 subst ex
 obtain rfl:u = Value.ref a:=rx
 obtain ⟨t1,t2,_⟩:=aIM I1 d
 refine ⟨t1,t2,?_⟩
 rw [m.trees]
 refine Calls.callWith_builtin rfl (Calls.evalArgs_plain (Calls.spliced_cons (thn (he pins s1 σ H1 _ I1 q1) fun iv s2 ⟨y,H2,I2,ry,ov,g,q2⟩=>Calls.spliced_nil ?_)))
 exact aMP hu I2 g ry fun w' s3 I3 rw'=>⟨_,H2,I3,rw',q2⟩
theorem vB (hu:X.A.units + 1 < cLine) (ho:PE X o td) (he:PE X e ty) (hf:PE X f tx) (m:M2 X o "get" apos e f cpos):PE X (.Call (.Attribute o "get" apos) [e,f] [] cpos) (aLS td ty tx):=by
 intro pins s σ H Q I h
 refine wpAny_Call_method m.base m.few m.line PySem.F.plainAttrs_dict PySem.F.slot_dict_get PySem.F.type_dict_get (thn (ho pins s σ H _ I h) fun u s1 ⟨x,H1,I1,rx,a,ex,d,q1⟩=>?_)
 subst ex
 obtain rfl:u = Value.ref a:=rx
 obtain ⟨t1,t2,_⟩:=aIM I1 d
 refine ⟨t1,t2,?_⟩
 rw [m.trees]
 refine Calls.callWith_builtin rfl (Calls.evalArgs_plain (Calls.spliced_cons (thn (he pins s1 σ H1 _ I1 q1) fun iv s2 ⟨y,H2,I2,ry,q2⟩ =>
  Calls.spliced_cons (thn (hf pins s2 σ H2 _ I2 q2) fun fv s3 ⟨z,H3,I3,rz,ov,g,q3⟩=>Calls.spliced_nil ?_))))
 exact aMO hu I3 g ry rz fun w' s4 I4 rw'=>⟨_,H3,I4,rw',q3⟩
end
section
variable {X:Cx} {pins:List (Addr × Obj)} {σ:St} {H:Hp} {s:Shared} {a:Addr} {kvs:List (Key × V)} {A:Around} {E:Value → Shared → Prop}
end
section
variable {X:Cx} {pins:List (Addr × Obj)} {σ:St} {H:Hp} {s:Shared} {a:Addr} {y:V} {u:Value} {A:Around} {E:Value → Shared → Prop}
end
end L2
namespace HT
open PySem PyProof.Rows
def aNZ:List Int → List Int → Bool
 | [],[]=>false
 | [],_ :: _=>true
 | _ :: _,[]=>false
 | x :: xs,y :: ys=>if x = y then aNZ xs ys else decide (x < y)
section
open PySem.SeqAt
open PySem.AutoSeq1 (wpAny_loadPart')
open PySem.MeetsSeq PySem.MeetsSeq2 PySem.MeetsSeq3
end
section
variable {prog:Program} {w:World} {A:Around} {E:Value → Shared → Prop} {s:Shared}
theorem cat_tup {t b:Addr} {vs ws:List Value} {Q:Value → Shared → Prop} (ht:IsTup s.heap t vs.toArray) (hb:IsTup s.heap b ws.toArray) (hv:vs ≠ [])
  (h1:ws = [] → Q (.ref t) s) (h2:ws ≠ [] → Q (.ref s.heap.objs.size) { s with heap:=s.heap.push { cls:=.type "tuple",data:=.seq (vs ++ ws).toArray } })
  (hsz:vs.length + ws.length ≤ sizeLine):wpAny (model prog w) A (binaryOp .Add (.ref t) (.ref b)) Q E s:=by
 obtain ⟨⟨cls,dd,data,sl⟩,ho,hc,n,hd⟩:=id ht
 obtain ⟨⟨cls2,dd2,data2,sl2⟩,ho2,hc2,n2,hd2⟩:=id hb
 simp only at hc hd hc2 hd2
 subst hc hd hc2 hd2
 have e:vs.toArray ++ ws.toArray = (vs ++ ws).toArray:=by simp
 by_cases hw:ws = []
 ·exact concat_meets ⟨_,ho,rfl⟩ ⟨_,ho2,rfl⟩ noFill_tuple_add seq_tuple_add PySem.F.slot_tuple_add PySem.F.entry_tuple_add (PySem.F.args_tuple_add_2 _ _)
   (tuple_addW1 t b vs.toArray ws.toArray n n2 dd dd2 sl sl2 (by simpa using hv) (by simp [hw])) ⟨ho,ho2,h1 hw⟩
 ·refine concat_meets ⟨_,ho,rfl⟩ ⟨_,ho2,rfl⟩ noFill_tuple_add seq_tuple_add PySem.F.slot_tuple_add PySem.F.entry_tuple_add (PySem.F.args_tuple_add_2 _ _)
   (tuple_addW2 t b vs.toArray ws.toArray n n2 dd dd2 sl sl2 (by simpa using hv) (by simpa using hw) (by rw [List.size_toArray,List.size_toArray];exact hsz)) ⟨ho,ho2,?_⟩
  rw [e]
  exact h2 hw
def sIx (n d:Nat):Option Int → Nat
 | none=>d
 | some v=>if v < 0 then (v + (n:Int)).toNat else min v.toNat n
theorem sIx_none (n d:Nat):sIx n d none = d:=rfl
theorem sIx_nat (n d k:Nat):sIx n d (some (k:Int)) = min k n:=by
 show (if (k:Int) < 0 then ((k:Int) + (n:Int)).toNat else min (k:Int).toNat n) = min k n
 rw [if_neg (by omega),Int.toNat_natCast]
theorem aLX (n d:Nat) (hd:d ≤ n) (o:Option Int):sIx n d o ≤ n:=by
 cases o with
 | none=>exact hd
 | some v =>
  show (if v < 0 then (v + (n:Int)).toNat else min v.toNat n) ≤ n
  by_cases hv:v < 0
  ·rw [if_pos hv];omega
  ·rw [if_neg hv];exact Nat.min_le_right _ _
theorem aFB (v:Int) (n d:Nat):(if v < 0 then max (v + (n:Int)) 0 else min v (n:Int)) = ((sIx n d (some v):Nat):Int):=by
 show (if v < 0 then max (v + (n:Int)) 0 else min v (n:Int)) = (((if v < 0 then (v + (n:Int)).toNat else min v.toNat n):Nat):Int)
 by_cases hv:v < 0
 ·simp only [if_pos hv];omega
 ·simp only [if_neg hv];omega
theorem aDQ (lo hi:Option Int) (n:Nat):Builtin.Slice.sliceAdjust lo hi 1 (n:Int) = (((sIx n 0 lo:Nat):Int),((sIx n n hi:Nat):Int)):=by
 have h1:¬ ((1:Int) < 0):=by omega
 unfold Builtin.Slice.sliceAdjust
 simp only [h1,if_false]
 refine Prod.ext ?_ ?_
 ·cases lo with
  | none=>rfl
  | some v=>exact aFB v n 0
 ·cases hi with
  | none=>rfl
  | some v=>exact aFB v n n
theorem aCW (i j:Nat):Builtin.Slice.slicePlaces (i:Int) (j:Int) 1 = j - i:=by
 unfold Builtin.Slice.slicePlaces
 have h1:(1:Int) > 0:=by omega
 simp only [h1,if_true,Int.ediv_one]
 split <;> omega
theorem uM {v:Value} {o:Option Int} {Q:Option Int → Shared → Prop} (p:IsPart v o) (h:Q o s):wpAny (model prog w) A (Builtin.Slice.slicePartIndex v) Q E s:=by
 cases p with
 | none=>exact slicePart_none h
 | int i t=>exact slicePart_int h
theorem rM {sl:Addr} {vl vu:Value} {lo hi:Option Int} {n:Nat} {Q:Int × Int × Nat → Shared → Prop} (hs:s.heap.IsSliceOf sl vl vu .none) (pl:IsPart vl lo) (pu:IsPart vu hi)
  (h:Q (((sIx n 0 lo:Nat):Int),1,sIx n n hi - sIx n 0 lo) s):wpAny (model prog w) A (Builtin.Slice.sliceApplied (.ref sl) (pure (n:Int))) Q E s:=by
 obtain ⟨os,hos,hcs,hds⟩:=id hs
 unfold Builtin.Slice.sliceApplied Builtin.Slice.sliceFields
 refine wpAny_bind (wpAny_bind (wpAny_field hos hds (x:=vl) rfl (wpAny_bind (wpAny_field hos hds (x:=vu) rfl (wpAny_bind (wpAny_field hos hds (x:=.none) rfl (wpAny_pure ?_)))))))
 refine wpAny_bind (slicePart_none ?_)
 show wpAny _ _ (if ((1:Int) == 0) = true then _ else _) _ _ s
 rw [if_neg (by decide)]
 refine wpAny_bind (uM pl (wpAny_bind (uM pu (wpAny_bind (wpAny_pure ?_)))))
 show wpAny _ _ (match Builtin.Slice.sliceAdjust lo hi 1 (n:Int) with | (lo,hi)=>pure (lo,(1:Int),Builtin.Slice.slicePlaces lo hi 1)) _ _ s
 rw [aDQ lo hi n]
 show wpAny _ _ (pure (((sIx n 0 lo:Nat):Int),(1:Int),Builtin.Slice.slicePlaces ((sIx n 0 lo:Nat):Int) ((sIx n n hi:Nat):Int) 1)) _ _ s
 rw [aCW]
 exact wpAny_pure h
theorem aHX (xs:Array Value) (i k:Nat):((List.range k).filterMap fun (m:Nat)=>xs[((i:Int) + (m:Int) * 1).toNat]?).toArray = ((xs.toList.drop i).take k).toArray:=by
 have e:(fun (m:Nat)=>xs[((i:Int) + (m:Int) * 1).toNat]?) = fun m=>xs[i + m]?:=by
  funext m
  have:((i:Int) + (m:Int) * 1).toNat = i + m:=by omega
  rw [this]
 rw [e]
 have:=pick_run xs i k
 rw [List.filterMap_map] at this
 have e2:((fun x=>xs[x]?) ∘ fun x=>i + x) = fun m=>xs[i + m]?:=rfl
 rw [e2] at this
 rw [this]
theorem getItem_tuple_cut {t sl:Addr} {items:Array Value} {vl vu:Value} {lo hi:Option Int} {Q:Value → Shared → Prop} (ht:IsTup s.heap t items) (hs:s.heap.IsSliceOf sl vl vu .none) (pl:IsPart vl lo) (pu:IsPart vu hi)
  (hw:¬ (sIx items.size 0 lo = 0 ∧ sIx items.size items.size hi = items.size))
  (h:Q (.ref s.heap.objs.size) { s with heap:=s.heap.push { cls:=.type "tuple",data:=.seq ((items.toList.drop (sIx items.size 0 lo)).take (sIx items.size items.size hi - sIx items.size 0 lo)).toArray } })
  (hsz:items.size ≤ sizeLine):wpAny (model prog w) A (getItem (.ref t) (.ref sl)) Q E s:=by
 have htake:sizeOk (.seq ((items.toList.drop (sIx items.size 0 lo)).take (sIx items.size items.size hi - sIx items.size 0 lo)).toArray):=by
  show ((items.toList.drop (sIx items.size 0 lo)).take (sIx items.size items.size hi - sIx items.size 0 lo)).toArray.size ≤ sizeLine
  rw [List.size_toArray,List.length_take,List.length_drop,Array.length_toList]
  omega
 have hj:sIx items.size items.size hi ≤ items.size:=aLX _ _ (Nat.le_refl _) hi
 obtain ⟨os,hos,hcs,hds⟩:=id hs
 have hTs:s.TypeIs (.ref sl) "slice":=⟨os,hos,hcs⟩
 unfold getItem
 try with_reducible refine wpAny_holding ?_
 first | refine wpAny_bind (wpAny_pure ?_) | skip
 refine wpAny_bind (wpAny_sequenceKey ht.typeIs (by decide) ?_)
 refine wpAny_bind (wpAny_callSpecial?_slot (name:=Str.ofString "__getitem__") ht.typeIs PyProof.Rows.slot_tuple_getitem
  (wpAny_call_entry PyProof.Rows.slot_tuple_getitem ht.typeIs entry_tuple_getitem ?_ (args_tuple_getitem _ _)))
 show wpAny _ _ (Builtin.Tuple.tupleItemsOf (.ref t) >>= _) _ _ s
 refine wpAny_bind (tupleItemsOf_ ht ?_)
 refine wpAny_bind (wpAny_typeOf hTs ?_)
 rw [if_pos (by decide)]
 refine wpAny_bind (rM hs pl pu ?_)
 have hno:¬ ((((sIx items.size 0 lo:Nat):Int) == 0 && (1:Int) == 1 && (sIx items.size items.size hi - sIx items.size 0 lo) == items.size) = true):=by
  intro q
  rw [Bool.and_eq_true,Bool.and_eq_true] at q
  have q1:((sIx items.size 0 lo:Nat):Int) = 0:=eq_of_beq q.1.1
  have q2:sIx items.size items.size hi - sIx items.size 0 lo = items.size:=eq_of_beq q.2
  exact hw ⟨by omega,by omega⟩
 show wpAny _ _ (if (((sIx items.size 0 lo:Nat):Int) == 0 && (1:Int) == 1 && (sIx items.size items.size hi - sIx items.size 0 lo) == items.size) = true then _ else _) _ _ s
 rw [if_neg hno,aHX]
 first
  | exact wpAny_bind (m:=Builtin.Tuple.tupleExact _) (wpAny_newObj_type (wpAny_pure ⟨_,rfl,wpAny_pure h⟩) htake)
  | exact wpAny_bind (m:=Builtin.Tuple.tupleExact _) (wpAny_newObj_type (wpAny_bind (wpAny_pure (wpAny_pure ⟨_,rfl,wpAny_pure h⟩))) htake)
  | exact wpAny_bind (wpAny_bind (m:=Builtin.Tuple.tupleExact _) (wpAny_newObj_type (wpAny_pure (wpAny_pure ⟨_,rfl,wpAny_pure h⟩)) htake))
  | exact wpAny_bind (wpAny_bind (m:=Builtin.Tuple.tupleExact _) (wpAny_newObj_type (wpAny_pure ⟨_,rfl,wpAny_pure h⟩) htake))
end
end HT
namespace L2
open PySem PySem.Spec PyProof.Rows
abbrev TO:=St → Hp → (Option Int → Hp → Prop) → Prop
def PO (X:Cx) (e:Option Expr) (t:TO):Prop :=
 ∀ (pins:List (Addr × Obj)) (s:Shared) (σ:St) (H:Hp) (Q:Option Int → Hp → Prop),Inv X pins σ H s → t σ H Q →
  wpAny (model X.prog X.w) X.A (evalPart e X.env) (fun u s'=>∃ o H',Inv X pins σ H' s' ∧ IsPart u o ∧ Q o H') X.xe s
def aJP:TO:=fun _ H Q=>Q none H
def aNC (t:TE):TO:=fun σ H Q=>t σ H fun x H1=>∃ i,x = .int i ∧ Q (some i) H1
section
variable {X:Cx} {e:Expr} {te:TE} {lo hi:Option Expr} {tl th:TO} {pos p2:Pos}
theorem hV:PO X none aJP:=by
 intro pins s σ H Q I h
 rw [evalPart_none]
 exact wpAny_pure ⟨none,H,I,.none,h⟩
theorem hU (h:PE X e te):PO X (some e) (aNC te):=by
 intro pins s σ H Q I hw
 rw [evalPart_some]
 refine thn (h pins s σ H _ I hw) fun u s1 ⟨x,H1,I1,r1,q1⟩=>?_
 obtain ⟨i,rfl,q⟩:=q1
 obtain ⟨t,rfl⟩:=r1
 exact ⟨some i,H1,I1,.int i t,q⟩
def SlR (X:Cx) (r:V → Option Int → Option Int → Hp → VK → Prop):Prop :=
 ∀ (pins:List (Addr × Obj)) (s:Shared) (σ:St) (H:Hp) (x:V) (v vl vu:Value) (lo hi:Option Int) (sl:Addr) (Q:VK),Inv X pins σ H s → bM x v → s.heap.IsSliceOf sl vl vu .none → IsPart vl lo → IsPart vu hi → r x lo hi H Q →
  ∃ T id,typeLookup (.type T) "__getitem__" = pure (some (.builtin id)) ∧ s.TypeIs v T ∧ wpAny (model X.prog X.w) X.A (getItem v (.ref sl)) (EP X pins σ Q) X.xe s
def tSl (r:V → Option Int → Option Int → Hp → VK → Prop) (te:TE) (tl th:TO):TE:=fun σ H Q=>te σ H fun x H1=>tl σ H1 fun l H2=>th σ H2 fun u H3=>r x l u H3 Q
theorem fS {r:V → Option Int → Option Int → Hp → VK → Prop} (hr:SlR X r) (he:PE X e te) (hl:PO X lo tl) (hu:PO X hi th):PE X (.Subscript e (.Slice lo hi none p2) pos) (tSl r te tl th):=by
 intro pins s σ H Q I h
 refine Subscript_ (thn (he pins s σ H _ I h) fun v s1 ⟨x,H1,I1,r1,q1⟩=>?_)
 refine wpAny_Slice (thn (hl pins s1 σ H1 _ I1 q1) fun vl s2 ⟨l,H2,I2,pl,q2⟩=>thn (hu pins s2 σ H2 _ I2 q2) fun vu s3 ⟨u,H3,I3,pu,q3⟩=>?_)
 rw [evalPart_none]
 refine wpAny_pure ?_
 have I4:Inv X pins σ H3 { s3 with heap:=s3.heap.push { cls:=.type "slice",data:=.fields #[vl,vu,.none] } }:=I3.kept (t':=s3.toks) fun b ob q=>Heap.get?_push_of_some _ q
 obtain ⟨T,id,hT,ht,hg⟩:=hr pins { s3 with heap:=s3.heap.push { cls:=.type "slice",data:=.fields #[vl,vu,.none] } } σ H3 x v vl vu l u s3.heap.objs.size Q I4 r1 (Heap.IsSliceOf.new ..) pl pu q3
 show wpAny (model X.prog X.w) X.A (subscriptTail e (.Slice lo hi none p2) v (.ref s3.heap.objs.size)) (EP X pins σ Q) X.xe { s3 with heap:=s3.heap.push { cls:=.type "slice",data:=.fields #[vl,vu,.none] } }
 exact tail_any (ops:=[.ref s3.heap.objs.size,v]) ht hT hg (by with_unfolding_all rfl)
def wM (xs:List V) (lo hi:Option Int):List V:=(xs.drop (HT.sIx xs.length 0 lo)).take (HT.sIx xs.length xs.length hi - HT.sIx xs.length 0 lo)
theorem sV (xs:List V) (lo hi:Option Int):(wM xs lo hi).length ≤ xs.length:=by
 unfold wM
 rw [List.length_take,List.length_drop]
 omega
def aNQ (K:PySem.W.Frag):V → Option Int → Option Int → Hp → VK → Prop:=fun x lo hi H Q=>∃ a xs,x = .ref a ∧ SqT K H a xs ∧
 ¬ (HT.sIx xs.length 0 lo = 0 ∧ HT.sIx xs.length xs.length hi = xs.length) ∧ ∀ p,H p = none → Q (.ref p) (upd H p (.tup (wM xs lo hi)))
theorem aLW:SlR X (aNQ X.K):=by
 intro pins s σ H x v vl vu lo hi sl Q I rx hs pl pu h
 obtain ⟨a,xs,rfl,hx,hw,q⟩:=h
 cases rx
 obtain ⟨its,r,ht,hz⟩:=I.tuple hx
 have hlen:its.toArray.size = xs.length:=by rw [List.size_toArray];exact r.length.symm
 refine ⟨"tuple",_,PyProof.Rows.slot_tuple_getitem.lookup,ht.typeIs,?_⟩
 refine HT.getItem_tuple_cut ht hs pl pu (by rw [hlen];exact hw) ?_ (by rw [hlen];exact hz)
 rw [hlen]
 refine ⟨.ref s.heap.objs.size,_,I.laid (t':=s.toks) (o:=.tup (wM xs lo hi)) (fun b ob q=>Heap.get?_push_of_some _ q) (Nat.le_refl _) ?_,rfl,q _ (I.hok.fresh (Nat.le_refl _))⟩
 exact ⟨Nat.le_trans (sV xs lo hi) hz,_,(r.drop (HT.sIx xs.length 0 lo)).take (HT.sIx xs.length xs.length hi - HT.sIx xs.length 0 lo),qP.new _ _⟩
def aLH (K:PySem.W.Frag):R2:=fun x y H Q=>∃ a b xs ys,x = .ref a ∧ y = .ref b ∧ SqT K H a xs ∧ SqT K H b ys ∧ xs ≠ [] ∧ xs.length + ys.length ≤ sizeLine ∧
 (ys = [] → Q (.ref a) H) ∧ (ys ≠ [] → ∀ p,H p = none → Q (.ref p) (upd H p (.tup (xs ++ ys))))
theorem bS.nil_iff {xs:List V} {us:List Value} (r:bS xs us):us = [] ↔ xs = []:=by
 cases r with
 | nil=>simp
 | cons _ _=>simp
theorem aKB:OpR X (binaryOp .Add) (aLH X.K):=by
 intro pins s σ H x y v u Q I rx ry h
 obtain ⟨a,b,xs,ys,rfl,rfl,ha,hb,hx,hz,q1,q2⟩:=h
 cases rx
 cases ry
 obtain ⟨its,r1,p1,_⟩:=I.tuple ha
 obtain ⟨its2,r2,p2,_⟩:=I.tuple hb
 refine HT.cat_tup p1 p2 (fun z=>hx (r1.nil_iff.mp z)) (fun z=>⟨.ref a,H,I,rfl,q1 (r2.nil_iff.mp z)⟩) (fun z=>?_) (by rw [← r1.length,← r2.length];exact hz)
 refine ⟨.ref s.heap.objs.size,_,I.laid (t':=s.toks) (o:=.tup (xs ++ ys)) (fun b ob q=>Heap.get?_push_of_some _ q) (Nat.le_refl _) ?_,rfl,q2 (fun w=>z (r2.nil_iff.mpr w)) _ (I.hok.fresh (Nat.le_refl _))⟩
 exact ⟨by rw [List.length_append];exact hz,_,r1.append r2,qP.new _ _⟩
end
end L2
namespace L2
open PySem PySem.Spec PyProof.Rows
def ixN (n:Nat) (i:Int):Option Nat:=if 0 ≤ i then (if i < n then some i.toNat else none) else if -(n:Int) ≤ i then some (i + n).toNat else none
def atI {α:Type} (xs:List α) (i:Int):Option α:=(ixN xs.length i).bind fun j=>xs[j]?
theorem aKI {n:Nat} {i:Int} {j:Nat} (h:ixN n i = some j):seqIndex? i n = some j ∧ j < n ∧ -(n:Int) ≤ i ∧ i < n:=by
 unfold ixN at h
 by_cases h0:0 ≤ i
 ·rw [if_pos h0] at h
  by_cases h1:i < n
  ·rw [if_pos h1] at h
   have e:i.toNat = j:=Option.some.inj h
   exact ⟨by rw [seqIndex_of h0 h1,e],by omega,by omega,h1⟩
  ·rw [if_neg h1] at h;cases h
 ·rw [if_neg h0] at h
  by_cases h1:-(n:Int) ≤ i
  ·rw [if_pos h1] at h
   have e:(i + n).toNat = j:=Option.some.inj h
   exact ⟨by rw [seqIndex_neg (by omega) h1,e],by omega,h1,by omega⟩
  ·rw [if_neg h1] at h;cases h
theorem aAA {α:Type} {xs:List α} {i:Int} {v:α} (h:atI xs i = some v):∃ j,seqIndex? i xs.length = some j ∧ xs[j]? = some v ∧ j < xs.length ∧ -(xs.length:Int) ≤ i ∧ i < xs.length:=by
 unfold atI at h
 cases e:ixN xs.length i with
 | none=>rw [e] at h;cases h
 | some j =>
  rw [e] at h
  obtain ⟨h1,h2,h3,h4⟩:=aKI e
  exact ⟨j,h1,h,h2,h3,h4⟩
theorem aH {α:Type} {xs:List α} {j:Nat} {v:α} (h:xs[j]? = some v):atI xs (j:Int) = some v:=by
 have hj:j < xs.length:=(List.getElem?_eq_some_iff.mp h).1
 have e:ixN xs.length (j:Int) = some j:=by
  unfold ixN
  rw [if_pos (by omega),if_pos (by omega)];simp
 unfold atI;rw [e];exact h
def aKU (b:Expr):Prop:=∀ o i,subscripted b false o i = operate [o,i] (getItem o i)
def IxR (X:Cx) (r:R2):Prop :=
 ∀ (value slice:Expr) (pins:List (Addr × Obj)) (s:Shared) (σ:St) (H:Hp) (x y:V) (v u:Value) (Q:VK),Inv X pins σ H s → bM x v → bM y u → r x y H Q →
  subscripted slice false v u = operate [v,u] (getItem v u) → wpAny (model X.prog X.w) X.A (subscriptTail value slice v u) (EP X pins σ Q) X.xe s
def MtR (X:Cx) (id:String) (r:V → List V → Hp → VK → Prop):Prop :=
 ∀ (pins:List (Addr × Obj)) (s:Shared) (σ:St) (H:Hp) (x:V) (xs:List V) (v:Value) (us:List Value) (Q:VK),Inv X pins σ H s → bM x v → bS xs us → r x xs H Q →
  wpAny (model X.prog X.w) X.A (call (.builtin id) (v :: us)) (EP X pins σ Q) X.xe s
section
variable {X:Cx} {a b:Expr} {ta tb:TE} {pos:Pos}
theorem aU {r:R2} (hr:IxR X r) (ha:PE X a ta) (hb:PE X b tb) (hs:aKU b):PE X (.Subscript a b pos) (tOp r ta tb):=by
 intro pins s σ H Q I h
 exact Subscript_ (aMR ha hb I h fun v u s2 x y H2 I2 rx ry q=>hr a b pins s2 σ H2 x y v u Q I2 rx ry q (hs _ _))
def aNT (K:PySem.W.Frag):R2:=fun x y H Q=>∃ p xs i v,x = .ref p ∧ y = .int i ∧ SqL K H p xs ∧ atI xs i = some v ∧ Q v H
def aNS (K:PySem.W.Frag):R2:=fun x y H Q=>∃ p xs i v,x = .ref p ∧ y = .int i ∧ SqT K H p xs ∧ atI xs i = some v ∧ Q v H
def aPE:R2:=fun x y H Q=>∃ z i c,x = .str z ∧ y = .int i ∧ z.length ≤ sizeLine ∧ atI z.cps.toList i = some c ∧ Q (.str ⟨#[c]⟩) H
theorem aKH:IxR X (aNT X.K):=by
 intro value slice pins s σ H x y v u Q I rx ry h hs
 obtain ⟨p,xs,i,z,rfl,rfl,hq,he,q⟩:=h
 cases rx
 obtain ⟨t,rfl⟩:=ry
 obtain ⟨its,r,pl,hz⟩:=I.list hq
 obtain ⟨j,h1,h2,h3,h4,h5⟩:=aAA he
 obtain ⟨w,ew,rw'⟩:=r.get h2
 have hl:=r.length
 have hn:=vV
 have fin:EP X pins σ Q w s:=⟨z,H,I,rw',q⟩
 by_cases h0:0 ≤ i
 ·have hj:i.toNat = j:=by
   rw [seqIndex_of h0 h5] at h1
   exact Option.some.inj h1
  exact item_listR pl.isList h0 (by omega) (by rw [hj];simpa using ew) fin hs
 ·have hj:(i + (its.toArray.size:Int)).toNat = j:=by
   rw [seqIndex_neg (by omega) h4] at h1
   rw [List.size_toArray,← hl]
   exact Option.some.inj h1
  exact subscriptTail_builtinR (x:=w) pl.isList.typeIs slot_list_getitem.lookup
   (wpAny_getItem_list_neg (Q:=fun r s'=>r = w ∧ EP X pins σ Q r s') pl.isList (by omega) (by rw [List.size_toArray] <;> omega) (by omega) (by rw [hj];simpa using ew) ⟨rfl,fin⟩) hs
theorem aMJ:IxR X (aNS X.K):=by
 intro value slice pins s σ H x y v u Q I rx ry h hs
 obtain ⟨p,xs,i,z,rfl,rfl,hq,he,q⟩:=h
 cases rx
 obtain ⟨t,rfl⟩:=ry
 obtain ⟨its,r,pl,hz⟩:=I.tuple hq
 obtain ⟨j,h1,h2,h3,h4,h5⟩:=aAA he
 obtain ⟨w,ew,rw'⟩:=r.get h2
 have hl:=r.length
 have hn:=vV
 have fin:EP X pins σ Q w s:=⟨z,H,I,rw',q⟩
 exact subscriptTail_builtinR (x:=w) pl.typeIs slot_tuple_getitem.lookup
  (getItem_tuple (j:=j) (Q:=fun r s'=>r = w ∧ EP X pins σ Q r s') pl (by omega) (by omega) (by rw [List.size_toArray,← hl];exact h1) (by simpa using ew) ⟨rfl,fin⟩) hs
theorem aIK:IxR X aPE:=by
 intro value slice pins s σ H x y v u Q I rx ry h hs
 obtain ⟨z,i,c,rfl,rfl,hz,he,q⟩:=h
 obtain ⟨t,rfl⟩:=rx
 obtain ⟨t',rfl⟩:=ry
 obtain ⟨j,h1,h2,h3,h4,h5⟩:=aAA he
 have hl:z.cps.toList.length = z.length:=by simp [Str.length]
 rw [hl] at h1 h4 h5
 have hn:=vV
 exact tail_any (typeIs_str s z t) slot_str_getitem.lookup (getItem_str (c:=c) (by
  have e1:decide (i < -(2 ^ 63:Int)) = false:=decide_eq_false (by omega)
  have e2:decide (i ≥ 2 ^ 63) = false:=decide_eq_false (by omega)
  rw [e1,e2,Bool.or_false]) (by rw [h1];simpa using h2) ⟨.str ⟨#[c]⟩,H,I.tok _,⟨_,rfl⟩,q⟩) hs
theorem yU (lo hi:Option Int) (n:Nat):(sliceBounds lo hi none n).1 = ((HT.sIx n 0 lo:Nat):Int) ∧ (sliceBounds lo hi none n).2.1 = ((HT.sIx n n hi:Nat):Int) ∧ (sliceBounds lo hi none n).2.2 = 1:=by
 refine ⟨?_,?_,rfl⟩
 ·cases lo with
  | none=>simp [sliceBounds,HT.sIx]
  | some i =>
   simp only [sliceBounds,HT.sIx,Option.getD_none,show (1:Int) > 0 by decide,if_true]
   by_cases h:i < 0
   ·simp only [h,if_true] <;> omega
   ·simp only [h,if_false] <;> omega
 ·cases hi with
  | none=>simp [sliceBounds,HT.sIx]
  | some i =>
   simp only [sliceBounds,HT.sIx,Option.getD_none,show (1:Int) > 0 by decide,if_true]
   by_cases h:i < 0
   ·simp only [h,if_true] <;> omega
   ·simp only [h,if_false] <;> omega
theorem wW (its:List Value) (lo hi:Option Int):slicePick its.toArray lo hi none = ((its.drop (HT.sIx its.length 0 lo)).take (HT.sIx its.length its.length hi - HT.sIx its.length 0 lo)).toArray:=by
 obtain ⟨h1,h2,h3⟩:=yU lo hi its.toArray.size
 unfold slicePick
 rw [h1,h2,h3]
 simp only [sliceRange_one,pick_run,List.size_toArray] <;> rfl
def aNR (K:PySem.W.Frag):V → Option Int → Option Int → Hp → VK → Prop:=fun x lo hi H Q=>∃ a xs,x = .ref a ∧ SqL K H a xs ∧ ∀ p,H p = none → Q (.ref p) (upd H p (.lst (wM xs lo hi)))
theorem aJR:SlR X (aNR X.K):=by
 intro pins s σ H x v vl vu lo hi sl Q I rx hs pl pu h
 obtain ⟨a,xs,rfl,hx,q⟩:=h
 cases rx
 obtain ⟨its,r,ht,hz⟩:=I.list hx
 have hlen:=r.length
 refine ⟨"list",_,slot_list_getitem.lookup,ht.isList.typeIs,?_⟩
 refine wpAny_getItem_list_slice ht.isList hs pl pu .none (by simp) ?_ (by rw [List.size_toArray] <;> omega)
 rw [wW,← hlen]
 refine ⟨.ref s.heap.objs.size,_,I.laid (t':=s.toks) (o:=.lst (wM xs lo hi)) (fun b ob q=>Heap.get?_push_of_some _ q) (Nat.le_refl _) ?_,rfl,q _ (I.hok.fresh (Nat.le_refl _))⟩
 exact ⟨Nat.le_trans (sV xs lo hi) hz,_,0,(r.drop (HT.sIx xs.length 0 lo)).take (HT.sIx xs.length xs.length hi - HT.sIx xs.length 0 lo),Heap.get?_push_size _ rfl⟩
def rH:V → Bool
 | .non=>true
 | .bl _=>true
 | .int _=>true
 | .str _=>true
 | _=>false
def eqV:V → V → Bool
 | .non,.non=>true
 | .bl a,.bl b=>a == b
 | .bl a,.int b=>(if a then 1 else 0) == b
 | .int a,.bl b=>a == (if b then 1 else 0)
 | .int a,.int b=>a == b
 | .str a,.str b=>a == b
 | _,_=>false
theorem nU {A:Around} {s:Shared} {y x:V} {u v:Value} (ry:bM y u) (rx:bM x v) (fy:rH y = true) (fx:rH x = true):SeqAt.EqAt A s u v (eqV y x):=by
 cases y with
 | non =>
  cases ry
  cases x with
  | non=>cases rx;exact SeqAt.EqAt.same _
  | bl b=>cases rx;exact SeqAt.EqAt.none_bool b
  | int b=>obtain ⟨t,rfl⟩:=rx;exact SeqAt.EqAt.none_int b t
  | str b=>obtain ⟨t,rfl⟩:=rx;exact SeqAt.EqAt.none_str b t
  | _=>exact absurd (show false = true from fx) Bool.false_ne_true
 | bl a =>
  cases ry
  cases x with
  | non=>cases rx;exact SeqAt.EqAt.bool_none a
  | bl b=>cases rx;exact SeqAt.EqAt.bool_bool a b
  | int b=>obtain ⟨t,rfl⟩:=rx;exact SeqAt.EqAt.bool_int a b t
  | str b=>obtain ⟨t,rfl⟩:=rx;exact SeqAt.EqAt.bool_str a b t
  | _=>exact absurd (show false = true from fx) Bool.false_ne_true
 | int a =>
  obtain ⟨t',rfl⟩:=ry
  cases x with
  | non=>cases rx;exact SeqAt.EqAt.int_none a t'
  | bl b=>cases rx;exact SeqAt.EqAt.int_bool a t' b
  | int b=>obtain ⟨t,rfl⟩:=rx;exact SeqAt.EqAt.int_int a t' b t
  | str b=>obtain ⟨t,rfl⟩:=rx;exact SeqAt.EqAt.int_str a t' b t
  | _=>exact absurd (show false = true from fx) Bool.false_ne_true
 | str a =>
  obtain ⟨t',rfl⟩:=ry
  cases x with
  | non=>cases rx;exact SeqAt.EqAt.str_none a t'
  | bl b=>cases rx;exact SeqAt.EqAt.str_bool a t' b
  | int b=>obtain ⟨t,rfl⟩:=rx;exact SeqAt.EqAt.str_int a t' b t
  | str b=>obtain ⟨t,rfl⟩:=rx;exact SeqAt.EqAt.str_str a t' b t
  | _=>exact absurd (show false = true from fx) Bool.false_ne_true
 | _=>exact absurd (show false = true from fy) Bool.false_ne_true
def eqU (x:V) (u:Value):Bool:=match u with
 | .none=>eqV .non x
 | .bool b=>eqV (.bl b) x
 | .int i _=>eqV (.int i) x
 | .str z _=>eqV (.str z) x
 | _=>false
theorem aJA {x y:V} {u:Value} (r:bM y u) (f:rH y = true):eqU x u = eqV y x:=by
 cases y with
 | non=>cases r;rfl
 | bl b=>cases r;rfl
 | int i=>obtain ⟨t,rfl⟩:=r;rfl
 | str z=>obtain ⟨t,rfl⟩:=r;rfl
 | _=>exact absurd (show false = true from f) Bool.false_ne_true
theorem rJ {x:V}:∀ {xs:List V} {us:List Value},bS xs us → xs.all rH = true → us.any (eqU x) = xs.any fun y=>eqV y x
 | _,_,.nil,_=>rfl
 | y :: xs,u :: us,.cons r t,f=>by
  rw [List.all_cons,Bool.and_eq_true] at f
  rw [List.any_cons,List.any_cons,aJA r f.1,rJ t f.2]
theorem oW {A:Around} {s:Shared} {x:V} {v:Value} (rx:bM x v) (fx:rH x = true):∀ {xs:List V} {us:List Value},bS xs us → xs.all rH = true → ∀ u ∈ us,SeqAt.EqAt A s u v (eqU x u)
 | _,_,.nil,_=>fun u hu=>by cases hu
 | y :: xs,u :: us,.cons r t,f=>fun u' hu=>by
  rw [List.all_cons,Bool.and_eq_true] at f
  rcases List.mem_cons.mp hu with rfl | hu
  ·rw [aJA r f.1];exact nU r rx f.1 fx
  ·exact oW rx fx t f.2 u' hu
def inV (x:V) (xs:List V):Bool:=xs.any fun y=>eqV y x
def rIn (K:PySem.W.Frag) (neg:Bool):R2:=fun x y H Q=>∃ p xs,y = .ref p ∧ (SqL K H p xs ∨ SqT K H p xs) ∧ rH x = true ∧ xs.all rH = true ∧ Q (.bl (if neg then !inV x xs else inV x xs)) H
theorem aFT:OpR X (compareOp .In) (rIn X.K false):=by
 intro pins s σ H x y v u Q I rx ry h
 obtain ⟨p,xs,rfl,hq,fx,fs,q⟩:=h
 cases ry
 rcases hq with hq | hq
 ·obtain ⟨its,r,pl,hz⟩:=I.list hq
  refine SeqAt.in_listAt (eqU x) pl.isList (fun w hw=>oW rx fx r fs w (by simpa using hw)) ⟨.bl _,H,I,rfl,?_⟩
  rw [show its.toArray.any (eqU x) = its.any (eqU x) by simp,rJ r fs]
  exact q
 ·obtain ⟨its,r,pl,hz⟩:=I.tuple hq
  refine SeqAt.in_tupleAt (eqU x) pl (fun w hw=>oW rx fx r fs w (by simpa using hw)) ⟨.bl _,H,I,rfl,?_⟩
  rw [show its.toArray.any (eqU x) = its.any (eqU x) by simp,rJ r fs]
  exact q
theorem zB:OpR X (compareOp .NotIn) (rIn X.K true):=by
 intro pins s σ H x y v u Q I rx ry h
 obtain ⟨p,xs,rfl,hq,fx,fs,q⟩:=h
 cases ry
 rcases hq with hq | hq
 ·obtain ⟨its,r,pl,hz⟩:=I.list hq
  refine SeqAt.notIn_listAt (eqU x) pl.isList (fun w hw=>oW rx fx r fs w (by simpa using hw)) ⟨.bl _,H,I,rfl,?_⟩
  rw [show its.toArray.any (eqU x) = its.any (eqU x) by simp,rJ r fs]
  exact q
 ·obtain ⟨its,r,pl,hz⟩:=I.tuple hq
  refine SeqAt.notIn_tupleAt (eqU x) pl (fun w hw=>oW rx fx r fs w (by simpa using hw)) ⟨.bl _,H,I,rfl,?_⟩
  rw [show its.toArray.any (eqU x) = its.any (eqU x) by simp,rJ r fs]
  exact q
theorem zY:iF X (.builtin "len") (fun xs H Q=>∃ p ys,xs = [.ref p] ∧ (SqL X.K H p ys ∨ SqT X.K H p ys) ∧ Q (.int ys.length) H):=by
 intro pins s σ H xs us Q I r h
 obtain ⟨p,ys,rfl,hq,q⟩:=h
 obtain ⟨u,rfl,rx⟩:=aGQ r
 cases rx
 have hn:=vV
 rcases hq with hq | hq
 ·obtain ⟨its,r',pl,hz⟩:=I.list hq
  have hlen:=r'.length
  exact Calls.call_len_list pl.isList (by simp only [List.size_toArray] <;> omega) ⟨.int ys.length,H,I.tok _,⟨s.toks + 1,by rw [List.size_toArray,hlen]⟩,q⟩
 ·obtain ⟨its,r',pl,hz⟩:=I.tuple hq
  have hlen:=r'.length
  exact len_tuple pl (by simp only [List.size_toArray] <;> omega) ⟨.int ys.length,H,I.tok _,⟨s.toks + 1,by rw [List.size_toArray,hlen]⟩,q⟩
theorem zX:iF X (.builtin "len") (fun xs H Q=>∃ z,xs = [.str z] ∧ z.length ≤ sizeLine ∧ Q (.int z.length) H):=by
 intro pins s σ H xs us Q I r h
 obtain ⟨z,rfl,hz,q⟩:=h
 obtain ⟨u,rfl,t,rfl⟩:=aGQ r
 have hn:=vV
 exact len_str (by omega) ⟨.int z.length,H,I.tok _,⟨_,rfl⟩,q⟩
theorem zW:iF X (.type "list") (fun xs H Q=>∃ p ys,xs = [.ref p] ∧ (SqL X.K H p ys ∨ SqT X.K H p ys) ∧ ∀ l,H l = none → Q (.ref l) (upd H l (.lst ys))):=by
 intro pins s σ H xs us Q I r h
 obtain ⟨p,ys,rfl,hq,q⟩:=h
 obtain ⟨u,rfl,rx⟩:=aGQ r
 cases rx
 have fin:∀ (its:List Value),bS ys its → ys.length ≤ sizeLine → ∀ (h':Heap) (c':Nat),(∀ b o',s.heap.get? b = some o' → h'.get? b = some o') →
   h'.get? s.heap.objs.size = some { cls:=.type "list",dict:=none,data:=.seq its.toArray c',slots:=#[] } → EP X pins σ Q (.ref s.heap.objs.size) { s with heap:=h' }:=fun its r' hz h' c' kp e =>
  ⟨.ref s.heap.objs.size,_,I.laid (t':=s.toks) kp (Nat.le_refl _) (show cW X.prog X.w _ h' _ (.lst ys) from ⟨hz,its,c',r',e⟩),rfl,q _ (I.hok.fresh (Nat.le_refl _))⟩
 rcases hq with hq | hq
 ·obtain ⟨its,r',pl,hz⟩:=I.list hq
  have hlen:=r'.length
  obtain ⟨o,ho,hc,n,hd⟩:=pl.isList
  exact call_list_seq p (.inl rfl) ho hc hd (fun h' c' kp e=>fin its r' hz h' c' kp e) (by simp only [List.size_toArray] <;> omega)
 ·obtain ⟨its,r',pl,hz⟩:=I.tuple hq
  have hlen:=r'.length
  obtain ⟨o,ho,hc,n,hd⟩:=pl
  exact call_list_seq p (.inr rfl) ho hc hd (fun h' c' kp e=>fin its r' hz h' c' kp e) (by simp only [List.size_toArray] <;> omega)
def tyV (K:PySem.W.Frag) (T:String) (x:V) (H:Hp):Prop:=match x with
 | .str _=>T = "str"
 | .int _=>T = "int"
 | .ref p=>(T = "list" ∧ ∃ xs,SqL K H p xs) ∨ (T = "tuple" ∧ ∃ o,K.lookup p = some o ∧ o.cls = .type "tuple" ∧ o.dict = none) ∨
   (T = "dict" ∧ ((∃ kvs,H p = some (.dK kvs)) ∨ ∃ kvs,H p = some (.dT kvs))) ∨ (T = "set" ∧ ∃ S n,H p = some (.set S n)) ∨ (T = "tuple" ∧ ∃ xs,H p = some (.tup xs))
 | _=>False
theorem aGU {pins:List (Addr × Obj)} {σ:St} {H:Hp} {s:Shared} {T:String} {x:V} {v:Value} (I:Inv X pins σ H s) (r:bM x v) (ty:tyV X.K T x H) :
  s.TypeIs v T ∧ ∀ a,v = .ref a → ∃ ob,s.heap.get? a = some ob ∧ ob.dict = none:=by
 cases x with
 | str z =>
  obtain ⟨t,rfl⟩:=r
  cases (show T = "str" from ty)
  exact ⟨typeIs_str s z t,fun _ e=>nomatch e⟩
 | int i =>
  obtain ⟨t,rfl⟩:=r
  cases (show T = "int" from ty)
  exact ⟨typeIs_int s i t,fun _ e=>nomatch e⟩
 | ref p =>
  cases r
  rcases ty with ⟨rfl,xs,hq⟩ | ⟨rfl,o,hk,hc,hd⟩ | ⟨rfl,hk⟩ | ⟨rfl,S,n,hk⟩ | ⟨rfl,xs,hk⟩
  ·obtain ⟨its,_,pl,_⟩:=I.list hq
   refine ⟨pl.isList.typeIs,fun a e=>?_⟩
   cases e
   obtain ⟨o,n,e,c,hd,_⟩:=pl
   exact ⟨o,e,hd⟩
  ·refine ⟨⟨o,I.kIn p o hk,hc⟩,fun a e=>?_⟩
   cases e
   exact ⟨o,I.kIn _ o hk,hd⟩
  ·have z:∃ o,s.heap.get? p = some o ∧ o.ExactDict:=by
    rcases hk with ⟨kvs,hk⟩ | ⟨kvs,hk⟩
    ·obtain ⟨_,_,_,_,o,_,_,e,ex,_⟩:=I.hok p _ hk
     exact ⟨o,e,ex⟩
    ·obtain ⟨_,_,_,_,o,_,_,e,ex,_⟩:=I.hok p _ hk
     exact ⟨o,e,ex⟩
   obtain ⟨o,e,ex⟩:=z
   refine ⟨⟨o,e,ex.1⟩,fun a e2=>?_⟩
   cases e2
   exact ⟨o,e,ex.2.1⟩
  ·obtain ⟨o,_,_,_,e,ex,_⟩:=I.hok p _ hk
   refine ⟨⟨o,e,ex.1⟩,fun a e2=>?_⟩
   cases e2
   exact ⟨o,e,ex.2.1⟩
  ·obtain ⟨_,_,_,o,e,hc,_,_,hd⟩:=(show cW X.prog X.w H s.heap p (.tup xs) from I.hok p _ hk)
   refine ⟨⟨o,e,hc⟩,fun a e2=>?_⟩
   cases e2
   exact ⟨o,e,hd⟩
 | _=>exact False.elim ty
def aOZ (K:PySem.W.Frag) (T:String) (r:V → List V → Hp → VK → Prop) (to:TE):TE:=fun σ H Q=>to σ H fun x H1=>tyV K T x H1 ∧ r x [] H1 Q
def tBM (K:PySem.W.Frag) (T:String) (r:V → List V → Hp → VK → Prop) (to:TE) (t:TA):TE:=fun σ H Q=>to σ H fun x H1=>tyV K T x H1 ∧ t σ H1 fun xs H2=>r x xs H2 Q
variable {o e:Expr} {es:List Expr} {to:TE} {t:TA} {name:Str} {apos cpos:Pos} {T id:String} {r:V → List V → Hp → VK → Prop}
theorem zA (pa:PlainAttrs T) (slot:Slot T name id) (hty:typeOf (.builtin id) = pure (.type "method_descriptor")) (hm:MtR X id r) (ho:PE X o to)
  (hbase:attributeBase o name X.env (eval o X.env) = eval o X.env:=by rfl) (hline:(apos.endLine == cpos.line) = true:=by rfl):PE X (.Call (.Attribute o name apos) [] [] cpos) (aOZ X.K T r to):=by
 intro pins s σ H Q I h
 refine wpAny_Call_method0_late hbase hline (thn (ho pins s σ H _ I h) fun v s1 ⟨x,H1,I1,r1,ty,q1⟩=>?_)
 obtain ⟨h1,h2⟩:=aGU I1 r1 ty
 exact ⟨T,id,pa,slot,hty,h1,h2,Calls.callWith_builtin rfl (PySem.evalArgs_none (hm pins s1 σ H1 x [] v [] Q I1 r1 .nil q1))⟩
theorem lB (pa:PlainAttrs T) (slot:Slot T name id) (hty:typeOf (.builtin id) = pure (.type "method_descriptor")) (hm:MtR X id r) (ho:PE X o to) (ha:PA X (e :: es) t)
  (hbase:attributeBase o name X.env (eval o X.env) = eval o X.env:=by rfl)
  (hfew:((backTo cpos (starEach (e :: es) X.env)).all (fun x=>!x.1) && (backToKw cpos (keywordEach [] X.env)).all (fun x=>x.1.isSome)
   && decide ((e :: es).length + ([]:List Keyword).length + (if ([]:List Keyword).isEmpty then 0 else 1) < 30)) = true:=by rfl)
  (hline:(apos.endLine == cpos.line) = true:=by rfl) (hs:starEach (e :: es) X.env = (false,eval e X.env) :: starEach es X.env:=by rfl) (hplain:(backTo cpos (starEach es X.env)).any (·.1) = false:=by rfl) :
  PE X (.Call (.Attribute o name apos) (e :: es) [] cpos) (tBM X.K T r to t):=by
 intro pins s σ H Q I h
 refine wpAny_Call_method_late hbase hfew hline rfl (thn (ho pins s σ H _ I h) fun v s1 ⟨x,H1,I1,r1,ty,q1⟩=>?_)
 obtain ⟨h1,h2⟩:=aGU I1 r1 ty
 refine ⟨T,id,pa,slot,hty,h1,h2,?_⟩
 have hA:=ha cpos pins s1 σ H1 _ I1 q1
 rw [hs] at hA ⊢
 refine Calls.callWith_builtin (by show (false || (backTo cpos (starEach es X.env)).any (·.1)) = false;rw [hplain] <;> rfl) (Calls.evalArgs_plain ?_)
 exact thn hA fun us s2 ⟨vs,H2,I2,r2,q2⟩=>hm pins s2 σ H2 x vs v us Q I2 r1 r2 q2
end
end L2
namespace L2
open PySem PySem.Spec PyProof.Rows
def MtM (X:Cx) (id:String) (r:V → List V → Hp → VK → Prop):Prop :=
 ∀ (pins:List (Addr × Obj)) (s:Shared) (σ:St) (H:Hp) (x:V) (xs:List V) (v:Value) (us:List Value) (Q:VK),Inv X pins σ H s → bM x v → bS xs us → r x xs H Q →
  wpAny (model X.prog X.w) X.A (call (.builtin id) (v :: us)) (EP X pins σ Q) X.xe s
theorem bS.one:∀ {x:V} {us:List Value},bS [x] us → ∃ u,us = [u] ∧ bM x u
 | _,_,.cons r .nil=>⟨_,rfl,r⟩
theorem bS.two:∀ {x y:V} {us:List Value},bS [x,y] us → ∃ u v,us = [u,v] ∧ bM x u ∧ bM y v
 | _,_,_,.cons r (.cons q .nil)=>⟨_,_,rfl,r,q⟩
theorem bS.zero:∀ {us:List Value},bS [] us → us = []
 | _,.nil=>rfl
section
variable {X:Cx} {pins:List (Addr × Obj)} {σ:St} {H:Hp} {s:Shared} {l b:Addr} {xs ys zs:List V}
theorem Inv.lset {its its':List Value} {n:Nat} {f:Array Value → Array Value} {t':Nat} (I:Inv X pins σ H s) (hH:H l = some (.lst xs))
  (e:s.heap.get? l = some { cls:=.type "list",data:=.seq its.toArray n }) (hf:f its.toArray = its'.toArray) (hv:bS ys its') (hz:ys.length ≤ sizeLine) :
  Inv X pins σ (upd H l (.lst ys)) { s with heap:=s.heap.update l (Obj.mapSeq f),toks:=t' }:=by
 have q:=PySem.IsL.update e f
 rw [hf] at q
 refine I.write (x:=l) (e:=l) (by rw [hH];exact trivial) (.inl rfl) (fun b' u hb hu=>(Heap.get?_update_other s.heap (Obj.mapSeq f) (Ne.symm hb)).trans hu) ⟨_,q⟩ ?_
 exact ⟨hz,its',_,hv,q⟩
theorem Inv.lnew {its:List Value} {t':Nat} (I:Inv X pins σ H s) (hv:bS ys its) (hz:ys.length ≤ sizeLine) :
  Inv X pins σ (upd H s.heap.objs.size (.lst ys)) { s with heap:=s.heap.push { cls:=.type "list",data:=.seq its.toArray },toks:=t' } :=
 I.laid (fun _ _ q=>Heap.get?_push_of_some _ q) (Nat.le_refl _) ⟨hz,its,0,hv,Heap.get?_push_size _ rfl⟩
theorem Inv.fresh (I:Inv X pins σ H s):H s.heap.objs.size = none:=I.hok.fresh (Nat.le_refl _)
theorem Inv.lstM (I:Inv X pins σ H s) (hH:H l = some (.lst xs)):xs.length ≤ sizeLine ∧ ∃ (its:List Value) (n:Nat),bS xs its ∧ xs.length = its.length ∧ s.heap.get? l = some { cls:=.type "list",data:=.seq its.toArray n }:=by
 obtain ⟨z,its,n,r,e⟩:=I.hok l _ hH
 exact ⟨z,its,n,r,r.length,e⟩
end
section
variable {X:Cx}
def aJV:V → List V → Hp → VK → Prop:=fun x vs H Q=>∃ l xs y,x = .ref l ∧ vs = [y] ∧ H l = some (.lst xs) ∧ xs.length < sizeLine ∧ Q .non (upd H l (.lst (xs ++ [y])))
theorem dS:MtM X "list.append" aJV:=by
 intro pins s σ H x vs v us Q I rx rv h
 obtain ⟨l,xs,y,rfl,rfl,hH,hz,q⟩:=h
 cases rx
 obtain ⟨u,rfl,ru⟩:=rv.one
 obtain ⟨z,its,n,r,hl,e⟩:=I.lstM hH
 refine call_meets F.slot_list_append ⟨_,e,rfl⟩ F.entry_list_append (F.args_list_append_2 _ _) (PySem.list_append l its.toArray n u (by rw [List.size_toArray];omega)) ⟨e,?_⟩
 refine ⟨.non,_,I.lset (its':=its ++ [u]) hH e (by simp) (r.append (.cons ru .nil)) ?_,rfl,q⟩
 rw [List.length_append,List.length_singleton]
 omega
def aPF:R2:=fun x y H Q=>∃ l b xs zs,x = .ref l ∧ y = .ref b ∧ H l = some (.lst xs) ∧ H b = some (.lst zs) ∧ xs.length + zs.length ≤ sizeLine ∧ ∀ p,H p = none → Q (.ref p) (upd H p (.lst (xs ++ zs)))
theorem aCY:OpR X (binaryOp .Add) aPF:=by
 intro pins s σ H x y v u Q I rx ry h
 obtain ⟨l,b,xs,zs,rfl,rfl,hH,hB,hz,q⟩:=h
 cases rx
 cases ry
 obtain ⟨z,its,n,r,hl,e⟩:=I.lstM hH
 obtain ⟨z2,its2,n2,r2,hl2,e2⟩:=I.lstM hB
 refine PySem.P.add_list e e2 ?_ (by rw [List.size_toArray,List.size_toArray];omega)
 have ea:its.toArray ++ its2.toArray = (its ++ its2).toArray:=by simp
 rw [ea]
 exact ⟨.ref _,_,I.lnew (t':=s.toks) (r.append r2) (by rw [List.length_append];omega),rfl,q _ I.fresh⟩
end
section
variable {prog:Program} {w:World} {A:Around} {E:Value → Shared → Prop} {s:Shared}
end
section
variable {X:Cx}
end
end L2
namespace Att
open PySem PySem.W PySem.Calls PyProof.Rows
theorem tR {P:Params} {h:Heap}:∀ (ns:List Int) (vs:List Value),WellAll P h vs (ns.map WData.int) → IntsAre vs ns:=by
 intro ns
 induction ns with
 | nil =>
  intro vs w
  rw [List.map_nil] at w
  cases w
  exact .nil
 | cons n ns ih =>
  intro vs w
  rw [List.map_cons] at w
  cases w with
  | cons a b =>
   cases a
   exact .cons _ _ (ih _ b)
theorem aFN {l:OpenLaw} {n:Nat} (hn:l.most = some n) {P:Params} {h:Heap} {args:List WData} {vals:List Value}
  (hpre:l.row.toRowW.claim.pre args = true) (hwl:WellAll P h vals args) :
  ∃ a vs ns,vals = [Value.ref a] ∧ args = [WData.list (ns.map WData.int)] ∧ h.get? a = some { cls:=.type "list",data:=.seq vs.toArray } ∧ IntsAre vs ns ∧ ns.length ≤ n:=by
 have hsh:WShape.hasAll [] args [.list .int] = true:=(pre_splitW hpre).1
 have hc:l.pre.holds [] { args:=args } = true:=(pre_splitW hpre).2
 obtain ⟨d,r,rfl,h1,h2⟩:=hasAllW_cons hsh
 obtain rfl:=hasAllW_nil h2
 obtain ⟨xs,rfl,h3⟩:=hasW_list h1
 obtain ⟨ns,rfl⟩:=items_int h3
 have hlen:ns.length ≤ n:=by
  unfold OpenLaw.pre at hc
  have h4:(WTm.not (.lt (.lit (.int (n:Int))) (.len (.arg 0)))).holds [] { args:=[.list (ns.map .int)] } = true:=by
   have h4:=(holds_andW hc).1
   rw [hn] at h4
   exact h4
  have h5:=condW_of h4 (w_not (w_lt w_lit (w_len_list (w_arg rfl))))
  rw [List.length_map] at h5
  refine Nat.le_of_not_lt fun q=>?_
  have q':(n:Int) < ((ns.length:Nat):Int):=by omega
  first
   | (rw [decide_eq_true q'] at h5;exact absurd h5 (by decide))
   | (simp at h5;omega)
 cases hwl with
 | cons w1 w2 =>
  cases w2
  cases w1 with
  | list ho hall=>exact ⟨_,_,ns,rfl,rfl,ho,tR ns _ hall,hlen⟩
theorem aFR (l:OpenLaw) (args:List WData):l.row.toRowW.claim.post args (.bool true) args = true :=
 postW_of (r:=l.row.toRowW) (X:=(true == true))
  (show WShape.has [] (.bool true) .bool = true by first | rfl | decide | simp [WShape.has,WShape.arms,WShape.armsAll])
  (show (WTm.eq .res (.lit (.bool true))).value [] { args:=args,res:=some (.bool true),after:=args } = some (.bool (true == true)) from w_eq_bool (w_res rfl) w_lit) rfl
theorem attach_call {l:OpenLaw} {n:Nat} {q:Program} {loose:List Str} {XP:(Str → Option Value) → Heap → Prop} {YP:World → Heap → Prop} {d:DefRec}
  (hn:l.most = some n) (hdf:d.params.defaults = [])
  (call:∀ (w:World) (s₀ s₁:Shared) (mg mb:Str → Option Value) (fa:Addr) (o:Obj) (pm cd doc:Value) (a:Addr) (vs:List Value) (ns:List Int),
   Ground q loose [] XP w s₀ mg mb s₁.heap → YP w s₁.heap →
   s₁.heap.get? fa = some o → o.data = .func (docDef d.name d.params d.body d.scope pm cd doc) → s₁.heap.CodeRec cd d.name → mg d.name = some (.ref fa) →
   s₁.heap.get? a = some { cls:=.type "list",data:=.seq vs.toArray } → IntsAre vs ns → ns.length ≤ n → s₁.gens = #[] →
   codeAny (model l.prog w) callerA (.call (.ref fa) ⟨[.ref a],[]⟩) (fun r s'=>r = .ok (.ret (.bool true)) ∧ OldK s₁.heap s'.heap ∧ s'.os = s₁.os ∧ AllBare s'.gens) s₁) :
  WalkO q loose XP YP l.row.toRowW d [] (fun f vs=>PySem.call f vs):=by
 intro w s₀ s₁ mg mb G Y fa o pm cd doc dV kV ho hd hcd hD hmg hg args vals as hpre hlay hrd hwl hlo
 obtain rfl:dV = .none:=Dflts.none hD hdf
 obtain rfl:kV = .none:=Dflts.noKw hD
 obtain ⟨a,vs,ns,rfl,rfl,hobj,hints,hlen⟩:=aFN hn hpre hwl
 refine enter_call (codeAny_mono (call w s₀ s₁ mg mb fa o pm cd doc a vs ns G Y ho (fd_plain hd) hcd hmg hobj hints hlen hg) fun r s' hq=>?_)
 obtain ⟨rfl,h2,h3,h4⟩:=hq
 exact ⟨.inl ⟨.bool true,.bool true,[],rfl,fun _=>rfl,.bool true,aFR l _,fun _=>⟨List.Pairwise.nil,fun _ hm=>(nomatch hm)⟩⟩,h2,h3,h4⟩
section
variable {prog:Program} {w:World} {A:Around} {E:Value → Shared → Prop} {s:Shared} {K:Frag}
def noObjs (h:Heap):Heap:={ h with objs:=#[] }
def ledger (h:Heap) (L d:Addr):List (Addr × Obj):=(List.range h.objs.size).filterMap fun a=>if a = L ∨ a = d then none else (h.get? a).map fun o=>(a,o)
end
end Att
namespace L2
open PySem PySem.Spec PyProof.Rows
theorem xL:∀ {vs:List Value} {ns:List Int},IntsAre vs ns → bS (ns.map V.int) vs
 | _,_,.nil=>.nil
 | _,_,.cons n t h=>.cons ⟨t,rfl⟩ (xL h)
def aMU (H:Hp):Prop:=∀ b,H b = none ∨ ∃ o xs,H b = some (.frz o (.lst xs))
theorem aIG {P:Program} {w:World} {K:PySem.W.Frag} {mg mb:Str → Option Value} {CX:CXT} {k:Nat} {fa a:Addr} {fd:FuncData} {x:Str} {sp:Sp} {s₁:Shared} {vs:List Value} {ns:List Int}
  (KX:K.In s₁.heap) (hns:s₁.heap.Ns mainGlobals mg) (hb:s₁.heap.Ns builtinsNs mb) (hbb:∀ x:Str,x ≠ "__name__" → mb x = bootBuiltins x) (hlim:s₁.heap.NoLimit) (hg:s₁.gens = #[])
  (ha:s₁.heap.get? a = some { cls:=.type "list",data:=.seq vs.toArray }) (hi:IntsAre vs ns) (hl:ns.length ≤ sizeLine) (hr:Room k callerA)
  (F:∀ base:Heap,K.In base → base.Ns mainGlobals mg → FnOk P w K mg base CX k fa fd [x] sp) (hbind:∀ (s:Shared) (u:Value),BindsTo s fd ⟨[u],[]⟩ [(x,u)])
  (hsp:∀ H:Hp,aMU H → SqL K H a (ns.map V.int) → sp [.ref a] H (fun v _=>v = .bl true) fun _ _ _=>False)
  (hCX:∀ H e s',CX [] H s₁ (fun _ _ _=>False) e s' → False) :
  codeAny (model P w) callerA (.call (.ref fa) ⟨[.ref a],[]⟩) (fun r s'=>r = .ok (.ret (.bool true)) ∧ OldK s₁.heap s'.heap ∧ s'.os = s₁.os ∧ AllBare s'.gens) s₁:=by
 have rv:=xL hi
 have lenV:=hi.length
 have core:∀ H:Hp,aMU H → SqL K H a (ns.map V.int) → HOk P w H s₁.heap → (∀ b,H b ≠ none → b = a) → (H a ≠ none → K.lookup a = none) →
   codeAny (model P w) callerA (.call (.ref fa) ⟨[.ref a],[]⟩) (fun r s'=>r = .ok (.ret (.bool true)) ∧ OldK s₁.heap s'.heap ∧ s'.os = s₁.os ∧ AllBare s'.gens) s₁:=by
  intro H hO hS hok hA hK
  have base_of:∀ {b:Addr} {o:Obj},s₁.heap.get? b = some o → H b = none → (zQ s₁.heap H).get? b = some o:=fun e n=>aIR e n
  have noA:∀ {b:Addr} {o:Obj} {es:Array DictEntry} {ep:Nat},s₁.heap.get? b = some o → o.data = .dict es ep → H b = none:=fun {b o es ep} e d=>by
   cases q:H b with
   | none=>rfl
   | some u =>
    have e':b = a:=hA b (by rw [q];simp)
    subst e'
    rw [ha] at e;cases e
    have d':Data.seq vs.toArray _ = Data.dict es ep:=d
    cases d'
  have nsK:∀ {b:Addr} {m:Str → Option Value},s₁.heap.Ns b m → (zQ s₁.heap H).Ns b m:=fun {b m} ⟨o,es,ep,e,d,r⟩=>⟨o,es,ep,base_of e (noA e d),d,r⟩
  have hKb:K.In (zQ s₁.heap H):=fun b o e=>base_of (KX b o e) (by
   cases q:H b with
   | none=>rfl
   | some u =>
    have e':b = a:=hA b (by rw [q];simp)
    subst e'
    rw [hK (by rw [q];simp)] at e;cases e)
  have hM:Mod K mg (zQ s₁.heap H):=⟨hKb,nsK hns,⟨mb,nsK hb,hbb⟩,let ⟨mc,h1,h2⟩:=hlim;⟨mc,nsK h1,h2⟩⟩
  have e0:Env0 P w K mg (zQ s₁.heap H) callerA [] s₁ H:=⟨rfl,hM,fun b o e=>aKD e,Nat.le_of_eq (aFZ _ _),trivial,fun b hb=>absurd (show b ∈ ([]:List Addr) from hb) (by simp),hok,.of_eq hg⟩
  refine codeAny_mono ((F _ hKb (nsK hns)).run callerA [] s₁ H ⟨[.ref a],[]⟩ [.ref a] [.ref a] _ _ hr e0 (hbind s₁ (.ref a)) (.cons rfl .nil) (hsp H hO hS)) fun r s' h=>?_
  cases r with
  | error e=>exact (hCX H e s' h).elim
  | ok fl =>
   cases fl with
   | next=>exact False.elim h
   | brk=>exact False.elim h
   | cont=>exact False.elim h
   | ret u =>
    obtain ⟨v,H',os,bare,un,hok',r',q⟩:=h
    have q':v = .bl true:=q
    subst q'
    obtain rfl:u = Value.bool true:=r'
    refine ⟨rfl,OldK.of_keep fun b o e=>?_,os,bare⟩
    cases q:H b with
    | none=>exact un.keep b o e q (by intro z;exact absurd (show b ∈ ([]:List Addr) from z) (by simp)) (by simp)
    | some u =>
     rcases hO b with z | ⟨ob,xs,z⟩
     ·rw [q] at z;cases z
     ·have z2:=un.frzs b ob _ z
      obtain ⟨e1,_⟩:=hok b _ z
      obtain ⟨e2,_⟩:=hok' b _ z2
      rw [e] at e1;cases e1
      exact e2
 cases hk:K.lookup a with
 | some o =>
  have e:=KX a o hk
  rw [ha] at e
  cases e
  refine core (fun _=>none) (fun _=>.inl rfl) (.inr ⟨_,vs.toArray,_,hk,rfl,rfl,rfl,by rw [List.size_toArray,lenV];exact hl,by simpa using rv⟩) (fun b u z=>by have z':(none:Option HO) = some u:=z;cases z') (fun b z=>absurd rfl z) fun z=>absurd rfl z
 | none =>
  refine core (fun b=>if b = a then some (.frz { cls:=.type "list",data:=.seq vs.toArray } (.lst (ns.map V.int))) else none) (fun b=>?_) (.inl (.inr ⟨{ cls:=.type "list",data:=.seq vs.toArray },if_pos rfl⟩)) (fun b u z=>?_) (fun b z=>?_) fun _=>hk
  ·by_cases hb:b = a
   ·exact .inr ⟨_,_,if_pos hb⟩
   ·exact .inl (if_neg hb)
  ·by_cases hb:b = a
   ·have z':=(if_pos hb).symm.trans z
    cases z'
    subst hb
    exact ⟨ha,by rw [List.length_map];exact hl,vs,_,rv,ha⟩
   ·have z':=(if_neg hb).symm.trans z
    cases z'
  ·by_cases hb:b = a
   ·exact hb
   ·exact absurd (if_neg hb) z
end L2
namespace L2
open PySem PySem.Spec PyProof.Rows
theorem walk_of {l:PySem.W.OpenLaw} {n k:Nat} {q:Program} {loose:List Str} {XP:(Str → Option Value) → Heap → Prop} {YP:World → Heap → Prop} {d:DefRec} {K:Params → PySem.W.Frag} {CX:World → CXT} {sp:World → Sp} {x:Str}
  (hn:l.most = some n) (hn2:n ≤ sizeLine) (hdf:d.params.defaults = []) (hr:Room k callerA)
  (hY:∀ (w:World) (h:Heap),YP w h → (K w.params).In h)
  (F:∀ (w:World) (mg:Str → Option Value) (fa:Addr) (h:Heap),(K w.params).In h → h.Ns mainGlobals mg → mg d.name = some (.ref fa) →
   ∃ fd:FuncData,(∀ (s:Shared) (u:Value),BindsTo s fd ⟨[u],[]⟩ [(x,u)]) ∧
    ∀ base:Heap,(K w.params).In base → base.Ns mainGlobals mg → FnOk l.prog w (K w.params) mg base (CX w) k fa fd [x] (sp w))
  (hsp:∀ (w:World) (H:Hp) (a:Addr) (ns:List Int),ns.length ≤ n → aMU H → SqL (K w.params) H a (ns.map V.int) → sp w [.ref a] H (fun v _=>v = .bl true) fun _ _ _=>False)
  (hCX:∀ (w:World) (H:Hp) (s:Shared) (e:Value) (s':Shared),CX w [] H s (fun _ _ _=>False) e s' → False) :
  PySem.W.WalkO q loose XP YP l.row.toRowW d [] (fun f vs=>PySem.call f vs):=by
 refine Att.attach_call hn hdf fun w s₀ s₁ mg mb fa o pm cd doc a vs ns G Y ho hd hcd hmg hobj hints hlen hg=>?_
 have KX:=hY w _ Y
 obtain ⟨fd,hb,hF⟩:=F w mg fa _ KX G.T.g hmg
 exact aIG KX G.T.g G.T.b G.T.builtins G.T.nolimit hg hobj hints (Nat.le_trans hlen hn2) hr hF hb (fun H hO hS=>hsp w H a ns hlen hO hS) fun H e s'=>hCX w H s₁ e s'
end L2
namespace L2
open PySem PySem.Spec PyProof.Rows
def eJ (s:Stmt) (j:Nat):Stmt:=match s with
 | .ClassDef _ _ _ body _ _ _ _ _ _ _=>body.getD j (.Pass ⟨0,0,0,0⟩)
 | _=>.Pass ⟨0,0,0,0⟩
def aS (s:Stmt):Arguments:=match s with
 | .FunctionDef _ a _ _ _ _ _ _ _ _=>a
 | _=>{ posonlyargs:=[],args:=[],vararg:=none,kwonlyargs:=[],kw_defaults:=[],kwarg:=none,defaults:=[] }
def aO (s:Stmt):List Stmt:=match s with
 | .FunctionDef _ _ b _ _ _ _ _ _ _=>b
 | _=>[]
def aF (s:Stmt):Scope:=match s with
 | .FunctionDef _ _ _ _ _ _ sc _ _ _=>sc
 | _=>{ kind:=.function,names:=[],isGenerator:=false,isCoroutine:=false }
abbrev CX0:CXT:=fun _ _ _ _ _ _=>False
abbrev E0:XK:=fun _ _ _=>False
theorem aER {X:Cx}:qN CX0 X E0:=fun _ _ _ _ _ _ _ h=>h.elim
structure Fun (K:PySem.W.Frag) (x qual:Str) (st:Stmt) (f:Addr) (fd:FuncData):Prop where
 ex:∃ (oc:Value) (od:Option Addr) (kV doc pm:Value) (an:Option Addr) (cdv ct:Value) (osl:Array (Option Value)),
  fd = PySem.W.fnOf x qual (aS st) (aO st) (aF st) .none kV doc pm an cdv ct ∧ K.lookup f = some ⟨oc,od,.func fd,osl⟩ ∧ PySem.W.codeIn K cdv qual = true
 kp:PySem.W.keepIn K (.ref f) = true
section
variable {P:Program} {w:World} {K:PySem.W.Frag} {mg:Str → Option Value} {base:Heap}
theorem Fun.ok {x qual:Str} {st:Stmt} {f:Addr} {fd:FuncData} {N ps:List Str} {k:Nat} {sp:Sp} (F:Fun K x qual st f fd) (S:FnScope N ps (aF st)) (len:∀ vs H Q E,sp vs H Q E → vs.length = ps.length)
  (hbody:∀ (cdv:Value) (A:Around) (outer:List Env) (s:Shared) (H:Hp) (vs:List V) (Q:VK) (E:XK),Room k (A.deeper (envOfC qual (aF st) s.heap.objs.size f cdv)) → sp vs H Q E →
   ∃ t,PSs (wL CX0 P w K mg base N qual (aF st) f cdv A outer s H E).nox (aO st) t ∧ t { nx:=fun _ H'=>Q .non H',rt:=Q } (lV N vs) H):FnOk P w K mg base CX0 (k + 1) f fd ps sp:=by
 obtain ⟨oc,od,kV,doc,pm,an,cdv,ct,osl,rfl,lk,hcd⟩:=F.ex
 refine aOJ lk hcd S len fun A outer s H vs Q E hr hsp=>?_
 obtain ⟨t,h,q⟩:=hbody cdv A outer s H vs Q E hr hsp
 exact ⟨t,h.nox,q⟩
theorem Fun.binds {x qual:Str} {st:Stmt} {f:Addr} {fd:FuncData} {ps:List Str} (F:Fun K x qual st f fd)
  (h:∀ (kV doc pm:Value) (an:Option Addr) (cdv ct:Value) (us:List Value),us.length = ps.length → bindArgs (PySem.W.fnOf x qual (aS st) (aO st) (aF st) .none kV doc pm an cdv ct) ⟨us,[]⟩ = pure (ps.zip us)):iU K fd ps []:=by
 obtain ⟨oc,od,kV,doc,pm,an,cdv,ct,osl,rfl,lk,hcd⟩:=F.ex
 exact .all (h kV doc pm an cdv ct)
theorem sC {x qual:Str} {st:Stmt} {f:Addr} {oc:Value} {od an:Option Addr} {osl:Array (Option Value)} {kV doc pm cdv ct:Value} (l:K.lookup f = some ⟨oc,od,.func (PySem.W.fnOf x qual (aS st) (aO st) (aF st) .none kV doc pm an cdv ct),osl⟩)
  (c:PySem.W.codeIn K cdv qual = true) (k:PySem.W.keepIn K (.ref f) = true):Fun K x qual st f (PySem.W.fnOf x qual (aS st) (aO st) (aF st) .none kV doc pm an cdv ct):=⟨⟨oc,od,kV,doc,pm,an,cdv,ct,osl,rfl,l,c⟩,k⟩
end
theorem jP {A:Around} {k:Nat} (hr:Room k A):A.units + 1 < cLine:=Nat.lt_of_le_of_lt (Nat.add_le_add_left (by decide:1 ≤ 64) _) hr.units
section
variable {X:Cx}
theorem pv (i:Nat) {x:Str} {pos:Pos} (hN:X.N[i]? = some x:=by rfl) (hv:Vis X.env.scope x:=by first | exact Or.inl rfl | exact Or.inr (Or.inl rfl) | exact Or.inr (Or.inr rfl)) (hd:(x == ("__debug__":Str)) = false:=by decide)
  (hcd:(x == ("__classdict__":Str)) = false:=by decide):PE X (.Name x pos) (aNA i):=aMA hN hv hd hcd
end
theorem bC {A B:Prop} (h:B):if false = true then A else B:=by
 rw [if_neg Bool.false_ne_true]
 exact h
theorem bW {A B:Prop} (h:A):if true = true then A else B:=by
 rw [if_pos rfl]
 exact h
theorem mP {c A B:Prop} [Decidable c] (h1:c → A) (h2:¬ c → B):if c then A else B:=by
 by_cases h:c
 ·rw [if_pos h]
  exact h1 h
 ·rw [if_neg h]
  exact h2 h
def aK (H H':Hp):Prop:=∀ b o,H b = some o → H' b = some o
theorem aK.refl (H:Hp):aK H H:=fun _ _ h=>h
theorem aK.trans {H H1 H2:Hp} (a:aK H H1) (b:aK H1 H2):aK H H2:=fun c o h=>b c o (a c o h)
theorem aK.free {H H':Hp} (e:aK H H') {l:Addr} (h:H' l = Option.none):H l = Option.none:=by
 cases q:H l with
 | none=>rfl
 | some o =>
  rw [e l o q] at h
  cases h
theorem aK.seq {K:PySem.W.Frag} {H H':Hp} {a:Addr} {xs:List V} (e:aK H H') (h:SqL K H a xs):SqL K H' a xs:=by
 rcases h with (h | ⟨o,h⟩) | h
 ·exact .inl (.inl (e _ _ h))
 ·exact .inl (.inr ⟨o,e _ _ h⟩)
 ·exact .inr h
end L2
namespace L2
open PySem PySem.Spec PyProof.Rows
section
variable {X:Cx}
end
section
variable {κ:Type} [DecidableEq κ]
theorem aDT {kvs:List (κ × V)} {k:κ} {v:V} (h:eK kvs k = some v):k ∈ kvs.map (·.1):=by
 have q:(kvs.any fun kv=>decide (kv.1 = k)) = true:=by
  rw [lU,h]
  all_goals rfl
 obtain ⟨p,hp,e⟩:=List.any_eq_true.mp q
 exact List.mem_map.mpr ⟨p,hp,of_decide_eq_true e⟩
end
end L2
namespace Tx
open PySem PySem.Builtin PySem.Builtin.Str
def cl (n d:Nat):Option Int → Nat
 | none=>d
 | some i=>(max 0 (min (if i < 0 then i + n else i) n)).toNat
theorem cl_nat (n d k:Nat):cl n d (some (k:Int)) = min k n:=by
 show (max 0 (min (if (k:Int) < 0 then (k:Int) + n else (k:Int)) n)).toNat = min k n
 rw [if_neg (by omega)]
 omega
theorem aLK (n d:Nat) (hd:d ≤ n):∀ o,cl n d o ≤ n
 | none=>hd
 | some i=>by
  show (max 0 (min (if i < 0 then i + n else i) n)).toNat ≤ n
  omega
theorem aDJ (lo hi:Option Int) (n:Nat):strSliceIndices lo hi 1 n = (List.range (cl n n hi - cl n 0 lo)).map (cl n 0 lo + ·):=by
 have h1:∀ (v:Option Int) (d:Nat),d ≤ n → (match v with | none=>(d:Int) | some i=>if (1:Int) > 0 then max 0 (min (if i < 0 then i + n else i) n) else max (-1) (min (if i < 0 then i + n else i) (n - 1))) = ((cl n d v:Nat):Int):=by
  intro v d hd
  cases v with
  | none=>rfl
  | some i =>
   show (if (1:Int) > 0 then max 0 (min (if i < 0 then i + n else i) n) else max (-1) (min (if i < 0 then i + n else i) (n - 1))) = (((max 0 (min (if i < 0 then i + n else i) n)).toNat:Nat):Int)
   rw [if_pos (by decide)]
   omega
 rw [← sliceRange_one]
 unfold strSliceIndices
 have a:=h1 lo 0 (Nat.zero_le _)
 have b:=h1 hi n (Nat.le_refl _)
 simp only [show (1:Int) > 0 by decide,if_true] at a b ⊢
 congr 1
theorem slice_codes (x:Str) (lo hi:Option Int):(Txt.slice x lo hi).cps.toList = (x.cps.toList.drop (cl x.length 0 lo)).take (cl x.length x.length hi - cl x.length 0 lo):=by
 unfold Txt.slice
 rw [aDJ]
 split
 ·rename_i h
  have h':cl x.length x.length hi - cl x.length 0 lo = x.length:=by
   have:=(Bool.and_eq_true_iff.mp h).2
   have:=beq_iff_eq.mp this
   simpa using this
  have h2:=aLK x.length x.length (Nat.le_refl _) hi
  have h4:=aLK x.length 0 (Nat.zero_le _) lo
  have h3:cl x.length 0 lo = 0:=by omega
  rw [h',h3,List.drop_zero,List.take_of_length_le]
  show x.cps.toList.length ≤ x.cps.size
  simp
 ·rw [pick_run]
theorem app_codes (a b:Str):(a ++ b).cps.toList = a.cps.toList ++ b.cps.toList:=by
 simp [Str.cps_append]
theorem app_len (a b:Str):(a ++ b).length = a.length + b.length:=Str.length_append a b
end Tx
set_option maxHeartbeats 4000000
namespace L2
open PySem PySem.Spec PyProof.Rows
theorem oZ {env:Env} {f:(Str × NameKind) → List (Str × Addr) → Sem (ForInStep (List (Str × Addr)))}
  (hf:∀ n k cs,f (n,k) cs = if (k == NameKind.free) = true then (cellOf env n >>= fun c=>pure (ForInStep.yield ((n,c) :: cs))) else pure (ForInStep.yield cs)) :
  ∀ (names:List (Str × NameKind)) (acc:List (Str × Addr)),
  (∀ y ∈ names,y.2 = .free → ∃ c,env.cells.lookup y.1 = some c) →
  (∀ x c,acc.lookup x = some c → env.cells.lookup x = some c) →
  ∃ cl,forIn names acc f = (pure cl:Sem _) ∧ (∀ x c,cl.lookup x = some c → env.cells.lookup x = some c) ∧ (∀ x c,acc.lookup x = some c → ∃ d,cl.lookup x = some d) ∧
   ∀ x,(x,NameKind.free) ∈ names → ∃ c,cl.lookup x = some c
 | [],acc,_,ha=>⟨acc,rfl,ha,fun x c e=>⟨c,e⟩,fun x m=>absurd m (by simp)⟩
 | (n,k) :: r,acc,hn,ha=>by
  have hr:∀ y ∈ r,y.2 = .free → ∃ c,env.cells.lookup y.1 = some c:=fun y hy=>hn y (List.mem_cons_of_mem _ hy)
  by_cases hk:k = .free
  ·subst hk
   obtain ⟨c,hc⟩:=hn (n,.free) List.mem_cons_self rfl
   have hcell:cellOf env n = pure c:=by
    have hc':env.cells.lookup n = some c:=hc
    unfold cellOf
    rw [hc']
   have ha':∀ x d,List.lookup x ((n,c) :: acc) = some d → env.cells.lookup x = some d:=fun x d e=>by
    by_cases hx:(x == n) = true
    ·rw [List.lookup_cons,hx] at e
     obtain rfl:=beq_iff_eq.mp hx
     cases e
     exact hc
    ·have hx':(x == n) = false:=by simpa using hx
     rw [List.lookup_cons,hx'] at e
     exact ha x d e
   obtain ⟨cl,e1,e2,e3,e4⟩:=oZ hf r ((n,c) :: acc) hr ha'
   refine ⟨cl,?_,e2,fun x d e=>?_,fun x m=>?_⟩
   ·rw [List.forIn_cons,hf,if_pos (beq_self_eq_true _),hcell,pure_bind,pure_bind]
    exact e1
   ·by_cases hx:(x == n) = true
    ·exact e3 x c (by rw [List.lookup_cons,hx])
    ·have hx':(x == n) = false:=by simpa using hx
     exact e3 x d (by rw [List.lookup_cons,hx'];exact e)
   ·rcases List.mem_cons.mp m with q | q
    ·have q':x = n:=congrArg Prod.fst q
     subst q'
     exact e3 x c (by rw [List.lookup_cons,beq_self_eq_true])
    ·exact e4 x q
  ·have hk':(k == NameKind.free) = false:=by simpa using hk
   obtain ⟨cl,e1,e2,e3,e4⟩:=oZ hf r acc hr ha
   refine ⟨cl,?_,e2,e3,fun x m=>?_⟩
   ·rw [List.forIn_cons,hf,hk',if_neg Bool.false_ne_true,pure_bind]
    exact e1
   ·rcases List.mem_cons.mp m with q | q
    ·exact absurd (congrArg Prod.snd q).symm hk
    ·exact e4 x q
theorem wS {scope:Scope} {env:Env} (h:∀ y ∈ scope.names,y.2 = .free → ∃ c,env.cells.lookup y.1 = some c) :
  ∃ cl,closureFor scope env = pure cl ∧ (∀ x c,cl.lookup x = some c → env.cells.lookup x = some c) ∧ ∀ x,(x,NameKind.free) ∈ scope.names → ∃ c,cl.lookup x = some c:=by
 obtain ⟨cl,e1,e2,_,e4⟩:=oZ (env:=env) (f:=fun (x:Str × NameKind) cs=>match x with | (name,kind)=>if (kind == NameKind.free) = true then (cellOf env name >>= fun c=>pure (ForInStep.yield ((name,c) :: cs))) else pure (ForInStep.yield cs)) (fun n k cs=>rfl) scope.names [] h (fun x c e=>by cases e)
 refine ⟨cl,?_,e2,e4⟩
 have:closureFor scope env = (forIn scope.names [] (fun (x:Str × NameKind) cs=>match x with | (name,kind)=>if (kind == NameKind.free) = true then (cellOf env name >>= fun c=>pure (ForInStep.yield ((name,c) :: cs))) else pure (ForInStep.yield cs)) >>= fun cs=>pure cs):=by
  first | rfl | (unfold closureFor;rfl) | (unfold closureFor;simp only [pure_bind,bind_pure])
 rw [this,e1,pure_bind]
theorem kA {env:Env}:∀ {names:List (Str × NameKind)} {x:Str},names.lookup x = some .free →
  (names.map fun (n,k)=>if (k == NameKind.free && env.scope.kind == .function && env.kindOf n == some .cell) then (n,NameKind.cell) else (n,k)).lookup x = some .cell ∨
  (names.map fun (n,k)=>if (k == NameKind.free && env.scope.kind == .function && env.kindOf n == some .cell) then (n,NameKind.cell) else (n,k)).lookup x = some .free
 | [],_,h=>by simp at h
 | (n,k) :: r,x,h=>by
  have ih:=@kA env r x
  show List.lookup x ((if (k == NameKind.free && env.scope.kind == .function && env.kindOf n == some .cell) = true then (n,NameKind.cell) else (n,k)) :: _) = _ ∨ List.lookup x ((if (k == NameKind.free && env.scope.kind == .function && env.kindOf n == some .cell) = true then (n,NameKind.cell) else (n,k)) :: _) = _
  cases hx:x == n with
  | true =>
   simp only [List.lookup_cons,hx] at h
   cases h
   by_cases hc:(NameKind.free == NameKind.free && env.scope.kind == .function && env.kindOf n == some .cell) = true
   ·rw [if_pos hc];left;simp only [List.lookup_cons,hx]
   ·rw [if_neg hc];right;simp only [List.lookup_cons,hx]
  | false =>
   simp only [List.lookup_cons,hx] at h
   by_cases hc:(k == NameKind.free && env.scope.kind == .function && env.kindOf n == some .cell) = true
   ·rw [if_pos hc];simp only [List.lookup_cons,hx];exact ih h
   ·rw [if_neg hc];simp only [List.lookup_cons,hx];exact ih h
theorem mG {env:Env}:∀ {names:List (Str × NameKind)} {x:Str},(∀ y ∈ names,y.2 ≠ .cell) →
  ((names.map fun (n,k)=>if (k == NameKind.free && env.scope.kind == .function && env.kindOf n == some .cell) then (n,NameKind.cell) else (n,k)).lookup x = some .cell ∨
  (names.map fun (n,k)=>if (k == NameKind.free && env.scope.kind == .function && env.kindOf n == some .cell) then (n,NameKind.cell) else (n,k)).lookup x = some .free) → (x,NameKind.free) ∈ names
 | [],_,_,h=>by rcases h with h | h <;> simp at h
 | (n,k) :: r,x,hn,h=>by
  have ih:=@mG env r x (fun y hy=>hn y (List.mem_cons_of_mem _ hy))
  have h':List.lookup x ((if (k == NameKind.free && env.scope.kind == .function && env.kindOf n == some .cell) = true then (n,NameKind.cell) else (n,k)) :: (r.map fun (n,k)=>if (k == NameKind.free && env.scope.kind == .function && env.kindOf n == some .cell) then (n,NameKind.cell) else (n,k))) = some .cell ∨
   List.lookup x ((if (k == NameKind.free && env.scope.kind == .function && env.kindOf n == some .cell) = true then (n,NameKind.cell) else (n,k)) :: (r.map fun (n,k)=>if (k == NameKind.free && env.scope.kind == .function && env.kindOf n == some .cell) then (n,NameKind.cell) else (n,k))) = some .free:=h
  cases hx:x == n with
  | true =>
   obtain rfl:=beq_iff_eq.mp hx
   have hk:k = .free:=by
    by_cases hc:(k == NameKind.free && env.scope.kind == .function && env.kindOf x == some .cell) = true
    ·have:=(Bool.and_eq_true_iff.mp (Bool.and_eq_true_iff.mp hc).1).1
     exact beq_iff_eq.mp this
    ·rw [if_neg hc] at h'
     simp only [List.lookup_cons,hx] at h'
     rcases h' with e | e
     ·cases e;exact absurd rfl (hn (x,.cell) List.mem_cons_self)
     ·cases e;rfl
   subst hk
   exact List.mem_cons_self
  | false =>
   refine List.mem_cons_of_mem _ (ih ?_)
   by_cases hc:(k == NameKind.free && env.scope.kind == .function && env.kindOf n == some .cell) = true
   ·rw [if_pos hc] at h';simp only [List.lookup_cons,hx] at h';exact h'
   ·rw [if_neg hc] at h';simp only [List.lookup_cons,hx] at h';exact h'
structure BlkR where
 cl:List (Str × Addr)
 C:Addr
 s₀:Shared
 H₀:Hp
 ex:List Addr
abbrev blk (X:Cx) (scope:Scope) (N':List Str) (R:BlkR):Cx :=
 { prog:=X.prog,w:=X.w,K:=X.K,mg:=X.mg,base:=X.base,A:=X.A,N:=N',s₀:=R.s₀,H₀:=R.H₀,env:=compEnvC scope R.cl R.C X.env,outer:=X.stack,stack:=X.stack,ex:=R.ex,fn:=fun _=>false,calm:=X.calm,pn:=[],xe:=fun _ _=>False }
def aJM (X:Cx) (ifs:List Expr) (t:TT):Prop :=
 ∀ (pins:List (Addr × Obj)) (s:Shared) (σ:St) (H:Hp) (Q:Bool → Hp → Prop),Inv X pins σ H s → t σ H Q →
  wpAny (model X.prog X.w) X.A (forIn ifs true fun c r=>if r = true then do let ok ← isTrue c X.env (eval c X.env);pure (ForInStep.yield ok) else pure (ForInStep.yield r)) (TP X pins σ Q) X.xe s
def aNB:TT:=fun _ H Q=>Q true H
theorem cN {X:Cx}:aJM X [] aNB:=fun pins s σ H Q I h=>wpAny_tests_nil ⟨H,I,h⟩
theorem kU {X:Cx} {c:Expr} {t:TT} (h:PT X c t):aJM X [c] t:=fun pins s σ H Q I hw=>wpAny_tests_one (h pins s σ H Q I hw)
def aFD (nt:Nat) (g:TG):Prop:=∀ x σ H Q,g x σ H Q → g x σ H fun σ2 H2=>Q σ2 H2 ∧ σ2.length = σ.length ∧ ∀ i,nt ≤ i → σ2[i]? = σ[i]?
theorem bG {nt i:Nat} (h:i < nt):aFD nt (qA i):=fun x σ H Q q =>
 ⟨q,by simp,fun j hj=>List.getElem?_set_ne (by omega)⟩
def pG (nt:Nat) (cap:List Nat) (σ:St):St:=List.replicate nt none ++ cap.map fun j=>(σ[j]?).join
theorem aGK {nt:Nat} {cap:List Nat} {σ:St}:(pG nt cap σ).length = nt + cap.length:=by simp [pG]
theorem yI {nt:Nat} {cap:List Nat} {σ:St} {i:Nat} {v:V} (h:(pG nt cap σ)[i]? = some (some v)):∃ j,nt ≤ i ∧ cap[i - nt]? = some j ∧ σ[j]? = some (some v):=by
 unfold pG at h
 by_cases hi:i < nt
 ·rw [List.getElem?_append_left (by simpa using hi),List.getElem?_replicate] at h
  rw [if_pos hi] at h
  cases h
 ·rw [List.getElem?_append_right (by simp;omega),List.length_replicate,List.getElem?_map] at h
  cases e:cap[i - nt]? with
  | none=>rw [e] at h;cases h
  | some j =>
   rw [e] at h
   refine ⟨j,by omega,rfl,?_⟩
   have h':(σ[j]?).join = some v:=by simpa using h
   cases q:σ[j]? with
   | none=>rw [q] at h';cases h'
   | some o=>rw [q] at h';cases o with
    | none=>cases h'
    | some z=>cases h';rfl
theorem wQ {prog:Program} {w:World} {A:Around} {R:Result → Shared → Prop} {s:Shared} {elt target iter:Expr} {ifs:List Expr} {scope:Scope} {pos:Pos} {it acc:Value} {env:Env} (I:Nat → Shared → Prop)
  (turn:∀ n s,I n s → wpAny (model prog w) A (pyNext it) (fun r s₁=>match r with
   | none=>R (.ok .next) s₁
   | some v=>wpAny (model prog w) A (letOwnedTupleGo target it v) (fun _ s₁=>wpAny (model prog w) A (assign target env v) (fun _ s₂ =>
     wpAny (model prog w) A (forIn ifs true fun c r=>if r = true then do let ok ← isTrue c env (eval c env);pure (ForInStep.yield ok) else pure (ForInStep.yield r)) (fun ok s₃ =>
      if ok = true then wpAny (model prog w) A (eval elt env) (fun x s₄ =>
       wpAny (model prog w) A (call (.builtin "list.append") [acc,x]) (fun _ s₅=>∃ m,m < n ∧ I m s₅) (notedBy (model prog w) A env fun e s'=>R (.error e) s') s₄) (notedBy (model prog w) A env fun e s'=>R (.error e) s') s₃
      else ∃ m,m < n ∧ I m s₃) (notedBy (model prog w) A env fun e s'=>R (.error e) s') s₂) (notedBy (model prog w) A env fun e s'=>R (.error e) s') s₁) (notedBy (model prog w) A env fun e s'=>R (.error e) s') s₁) (notedBy (model prog w) A env fun e s'=>R (.error e) s') s)
  (n:Nat) (h:I n s) :
  codeAny (model prog w) A (.compLoop (.ListComp elt [⟨target,iter,ifs,0⟩] scope pos) 0 it acc env) R s:=by
 refine codeAny_loop rfl I (fun n s hI=>?_) n h
 show wpAny _ A ((compTurn (.ListComp elt [⟨target,iter,ifs,0⟩] scope pos) 0 it acc env).onRaise (fun x=>do noteFrame x env;theTreesLotGoes x)) _ _ s
 refine wpAny_noted ?_
 rw [compTurn_list]
 refine wpAny_bind (wpAny_standAt (wpAny_bind (wpAny_mono (turn n s hI) (fun r s₁ h₁=>?_) fun _ _ h'=>h')))
 cases r with
 | none=>exact wpAny_pure h₁
 | some v =>
  refine wpAny_bind (wpAny_mono h₁ (fun _ s₁' h₁'=>?_) fun _ _ h'=>h')
  refine wpAny_bind (wpAny_mono h₁' (fun _ s₂ h₂=>wpAny_bind (wpAny_mono h₂ (fun ok s₃ h₃=>?_) fun _ _ h'=>h')) fun _ _ h'=>h')
  cases ok with
  | false=>exact wpAny_pure ⟨rfl,h₃⟩
  | true =>
   exact wpAny_bind (wpAny_bind (wpAny_mono h₃ (fun x s₄ h₄=>wpAny_bind (wpAny_mono h₄ (fun _ s₅ h₅=>wpAny_pure (wpAny_pure ⟨rfl,h₅⟩)) fun _ _ h'=>h')) fun _ _ h'=>h'))
abbrev CW:=Nat → Nat → List V → Hp → Prop
def xN (σb:St) (J:It) (g:TG) (tt:TT) (te:TE) (W:CW) (fin:List V → Hp → Prop) (i m:Nat) (ys:List V) (H:Hp):Prop :=
 (J.stop i H ∧ fin ys H) ∨
 (J.go i H ∧ ys.length < sizeLine ∧ ∀ x H',J.yld i H x H' → g x σb H' fun σ2 H2=>tt σ2 H2 fun b H3 =>
  if b = true then te σ2 H3 fun y H4=>∃ m',m' < m ∧ W (i + 1) m' (ys ++ [y]) H4 else ∃ m',m' < m ∧ W (i + 1) m' ys H3)
structure BlkEnd (X:Cx) (pins:List (Addr × Obj)) (H:Hp) (C:Addr) (s:Shared):Prop where
 ns:∃ m,s.heap.Ns C m
 fr:H C = none
 ne:C ≠ X.env.locals
 ab:X.s₀.heap.objs.size ≤ C
 cl:∀ x c,X.env.cells.lookup x = some c → c ≠ C
 pn:∀ p ∈ X.pn ++ pins,p.1 ≠ C
theorem wP {X:Cx} {pins:List (Addr × Obj)} {σ:St} {s₂:Shared} {H₂:Hp} {elt iter tg:Expr} {ifs:List Expr} {scope:Scope} {pos:Pos} {N':List Str} {nt:Nat} {cap:List Nat} {g:TG} {tt:TT} {te:TE} {cl:List (Str × Addr)}
  {it:Addr} {fp:List Addr} {tn:Nat → Heap → Prop} {J:It} {Q:List V → Hp → Prop} {E:Value → Shared → Prop}
  (hc:X.calm = true) (I₂:Inv X pins σ H₂ s₂) (T:Turn X.prog X.w X.K tg J fp it tn) (st:tn 0 s₂.heap) (hf:∀ b ∈ fp,aAB X pins H₂ b)
  (hclk:∀ x c,cl.lookup x = some c → X.env.cells.lookup x = some c) (hclh:∀ x,(x,NameKind.free) ∈ scope.names → ∃ c,cl.lookup x = some c)
  (hcell:∀ y ∈ scope.names,y.2 ≠ .cell) (hkind:scope.kind = .function)
  (hfr:∀ y ∈ scope.names,y.2 = .free → (X.env.kindOf y.1 = some .cell ∨ X.env.kindOf y.1 = some .free))
  (hN:N'.length = nt + cap.length) (hcapN:∀ (k j:Nat),cap[k]? = some j → N'[nt + k]? = X.N[j]?) (hcapF:∀ x ∈ N'.drop nt,scope.names.lookup x = some .free)
  (hg:∀ R,PG (blk X scope N' R) tg g) (hgk:aFD nt g) (ht:∀ R,aJM (blk X scope N' R) ifs tt) (he:∀ R,PE (blk X scope N' R) elt te)
  (h:∃ W:CW,(∃ m,W 0 m [] H₂) ∧ ∀ i m ys H,W i m ys H → xN (pG nt cap σ) J g tt te W Q i m ys H)
  {RR:Value → Addr → Result → Shared → Prop}
  (hRR:∀ D C s' H' ys,H' D = none → Q ys H' → Inv X pins σ (upd H' D (.lst ys)) s' → BlkEnd X pins (upd H' D (.lst ys)) C s' → RR (.ref D) C (.ok .next) s') :
  wpAny (model X.prog X.w) X.A (newList []) (fun acc s₃=>wpAny (model X.prog X.w) X.A (newFunctionEnv scope X.env.globals cl [] X.env.qual none .none (some X.env)) (fun cenv s₄ =>
   codeAny (model X.prog X.w) X.A (.compStart (.ListComp elt [⟨tg,iter,ifs,0⟩] scope pos) 0 (.ref it) acc { cenv with scope:=relabel scope X.env }) (RR acc cenv.locals) s₄) E s₃) E s₂:=by
 obtain ⟨W,⟨m0,w0⟩,turn⟩:=h
 refine wpAny_newObj_type (wpAny_newFunctionEnv hcell (by intro y hy;simp at hy) (fun h₁ hns₁ hsb₁=>?_) hkind)
 dsimp only at hns₁ hsb₁ ⊢
 generalize hH2:s₂.heap.push { cls:=.type "list",dict:=none,data:=.seq ([]:List Value).toArray } = Hx at hns₁ hsb₁ ⊢
 have hC:Hx.objs.size = s₂.heap.objs.size + 1:=by rw [← hH2,Heap.size_push]
 generalize hD:s₂.heap.objs.size = D at hC ⊢
 generalize hCC:Hx.objs.size = C at hns₁ hsb₁ hC ⊢
 have hDC:D ≠ C:=by omega
 have below:∀ b,b < s₂.heap.objs.size → b ≠ C ∧ b ≠ D:=fun b hb=>by omega
 have old:∀ b o,s₂.heap.get? b = some o → h₁.get? b = some o:=fun b o e=>hsb₁.extBut b o (below b (Heap.lt_size e)).1 (Heap.get?_push_of_some _ (hH2 ▸ Heap.get?_push_of_some _ e))
 have hacc:h₁.get? D = some { cls:=.type "list",data:=.seq ([]:List Value).toArray }:=hsb₁.extBut _ _ hDC (Heap.get?_push_of_some _ (by rw [← hH2,← hD];exact Heap.get?_push_size _ rfl))
 have freshD:H₂ D = none:=I₂.hok.fresh (by omega)
 have freshC:H₂ C = none:=I₂.hok.fresh (by omega)
 have fpo:∀ b ∈ fp,∃ o,s₂.heap.get? b = some o ∧ ∀ v,o.data ≠ .cell v:=T.obj 0 _ st
 have fplt:∀ b ∈ fp,b < s₂.heap.objs.size:=fun b hb=>let ⟨o,e,_⟩:=fpo b hb;Heap.lt_size e
 have celllt:∀ x c,X.env.cells.lookup x = some c → c < s₂.heap.objs.size:=fun x c e=>let ⟨v,z⟩:=I₂.cell x c e;z.lt
 have pinlt:∀ p ∈ X.pn ++ pins,p.1 < s₂.heap.objs.size:=fun p hp=>Heap.lt_size (I₂.pin p hp).1
 let R:BlkR:=⟨cl,C,s₂,H₂,fp⟩
 have okb:(blk X scope N' R).Ok:={
  mod:=I₂.mod
  kind:=hkind
  glob:=I₂.ok.glob
  blt:=I₂.ok.blt
  above:=(by show s₂.heap.objs.size ≤ C;omega)
  inj:=fun x y c e1 e2=>I₂.ok.inj x y c (hclk x c e1) (hclk y c e2)
  has:=fun x hx=>hclh x (mG hcell hx)
  cab:=fun x c hx _=>by cases hx
  hd:=I₂.ok.hd
  frames:=I₂.ok.frames
  stk:=.inl rfl
  exf:=fun b hb=>⟨(below b (fplt b hb)).1,fun x c e=>(hf b hb).2.2.2.2.1 x c (hclk x c e)⟩
  bs:=I₂.bs
  bsz:=Nat.le_trans I₂.ok.bsz I₂.sz
  noex:=fun b o e hb=>by
   rcases (hf b hb).2.2.2.1 with z | z
   ·exact I₂.ok.noex b o e z
   ·exact absurd (Nat.lt_of_lt_of_le (Heap.lt_size e) (Nat.le_trans I₂.ok.bsz z)) (Nat.lt_irrefl _)
  exfs:=fun b hb z=>by
   rcases List.mem_cons.mp (I₂.stkSub b z) with q | q
   ·exact (hf b hb).2.1 q
   ·exact (hf b hb).2.2.1 q
  funs:=I₂.stack
  frf:=I₂.stkFree }
 have nofs:∀ a,s₂.heap.objs.size ≤ a → a ∉ frs X.stack:=fun a ha z=>by
  rcases List.mem_cons.mp (I₂.stkSub a z) with q | q
  ·exact absurd (Nat.lt_of_lt_of_le I₂.lt ha) (by rw [q];exact Nat.lt_irrefl _)
  ·exact I₂.nofs ha q
 have hDle:s₂.heap.objs.size ≤ D:=by omega
 have hCle:s₂.heap.objs.size ≤ C:=by omega
 have stat:∀ {H':Hp} {ob:Obj},(∀ b ∈ fp,H' b = none) → ∀ b ∈ fp,aAB (blk X scope N' R) [(D,ob)] H' b:=fun {H' ob} hn b hb =>
  ⟨hn b hb,(below b (fplt b hb)).1,okb.exfs b hb,.inl hb,fun x c e=>(hf b hb).2.2.2.2.1 x c (hclk x c e),fun p hp=>by
   have e:p = (D,ob):=by simpa using hp
   rw [e]
   exact Ne.symm (below b (fplt b hb)).2⟩
 have entry:∀ tk,Inv (blk X scope N' R) [(D,{ cls:=.type "list",data:=.seq ([]:List Value).toArray })] (pG nt cap σ) H₂ { s₂ with heap:=h₁,toks:=tk }:=fun tk=>{
  ok:=okb
  os:=rfl
  bare:=I₂.bare
  base:=Un.kept old
  loc:=by
   refine ⟨_,hns₁,fun i x v e1 e2 e3=>?_⟩
   obtain ⟨j,hi,hj,hv⟩:=yI e2
   have hx:X.N[j]? = some x:=by
    rw [← hcapN _ _ hj,show nt + (i - nt) = i by omega]
    exact e1
   have hxm:x ∈ N'.drop nt:=by
    refine List.mem_of_getElem? (i:=i - nt) ?_
    rw [List.getElem?_drop,show nt + (i - nt) = i by omega]
    exact e1
   have hfree:=hcapF x hxm
   have hmem:(x,NameKind.free) ∈ scope.names:=by
    have:∀ (l:List (Str × NameKind)),l.lookup x = some .free → (x,NameKind.free) ∈ l:=by
     intro l
     induction l with
     | nil=>intro q;cases q
     | cons a r ih =>
      intro q
      obtain ⟨n,k⟩:=a
      cases hxn:x == n with
      | true =>
       rw [List.lookup_cons,hxn] at q
       obtain rfl:=beq_iff_eq.mp hxn
       cases q
       exact List.mem_cons_self
      | false =>
       rw [List.lookup_cons,hxn] at q
       exact List.mem_cons_of_mem _ (ih q)
    exact this _ hfree
   have hk:=hfr (x,.free) hmem rfl
   obtain ⟨m,hn,hl⟩:=I₂.loc
   have vis:Vis X.env.scope x:=by
    rcases hk with k | k
    ·exact .inr (.inl k)
    ·exact .inr (.inr k)
   obtain ⟨u,ru,lk⟩:=hl j x v hx hv vis
   refine ⟨u,ru,?_⟩
   rcases lk with ⟨k,_⟩ | ⟨k,c,hc1,hc2⟩
   ·exfalso
    rcases hk with z | z
    ·rw [z] at k;cases k
    ·rw [z] at k;cases k
   ·obtain ⟨d,hd⟩:=hclh x hmem
    have hd':=hclk x d hd
    rw [hc1] at hd'
    cases hd'
    refine .inr ⟨kA hfree,c,hd,?_⟩
    obtain ⟨o,ho,hdat⟩:=hc2
    exact ⟨o,old c o ho,hdat⟩
  cell:=fun x c e=>by
   obtain ⟨v,o,ho,hdat⟩:=I₂.cell x c (hclk x c e)
   exact ⟨v,o,old c o ho,hdat⟩
  free:=freshC
  freeC:=fun x c e=>I₂.freeC x c (hclk x c e)
  pin:=fun p hp=>by
   have e:p = (D,{ cls:=.type "list",data:=.seq ([]:List Value).toArray }):=by simpa using hp
   subst e
   exact ⟨hacc,freshD,hDC,nofs D hDle,fun v z=>by cases z⟩
  hok:=I₂.hok.kept old
  len:=by rw [aGK,hN] }
 have loop:∀ tk,codeAny (model X.prog X.w) X.A (.compLoop (.ListComp elt [⟨tg,iter,ifs,0⟩] scope pos) 0 (.ref it) (.ref D) (compEnvC scope cl C X.env)) (RR (.ref D) C) { s₂ with heap:=h₁,toks:=tk }:=by
  intro tk
  refine wQ (fun n s'=>∃ i ys H' its k,Inv (blk X scope N' R) [(D,{ cls:=.type "list",data:=.seq its.toArray k })] (pG nt cap σ) H' s' ∧ tn i s'.heap ∧ (∀ b ∈ fp,H' b = none) ∧ bS ys its ∧ ys.length ≤ sizeLine ∧ W i n ys H') ?_ m0
   ⟨0,[],H₂,[],0,entry tk,T.keep _ _ _ st fun b hb o e=>old b o e,fun b hb=>(hf b hb).1,.nil,Nat.zero_le _,w0⟩
  rintro n s3 ⟨i,ys,H3,its,k,I3,st3,fr3,rv,hz,w3⟩
  have pD:=I3.pin (D,{ cls:=.type "list",data:=.seq its.toArray k }) (by simp)
  rcases turn i n ys H3 w3 with ⟨stop,qn⟩ | ⟨go,hlt,step⟩
  ·-- the end
   refine wpAny_mono (T.done (blk X scope N' R) rfl rfl rfl hc i _ s3 _ H3 (fun _ _=>False) I3 (stat fr3) st3 stop) (fun r s4 ⟨hr,I4⟩=>?_) fun _ _ z=>z.elim
   subst hr
   have pD4:=I4.pin (D,{ cls:=.type "list",data:=.seq its.toArray k }) (by simp)
   have b4:Un (frs X.stack) fp H₂ H3 s₂.heap s4.heap:=I4.base
   have u4:Un (frs X.stack) fp H₂ (upd H3 D (.lst ys)) s₂.heap s4.heap:={
    keep:=b4.keep
    slot:=b4.slot
    free:=fun b o e n hx=>by
     rw [aP (below b (Heap.lt_size e)).2]
     exact b4.free b o e n hx
    there:=b4.there
    tups:=fun b xs e=>by
     have z:=b4.tups b xs e
     rw [aP (aL z pD4.2.1)]
     exact z
    frzs:=fun b o u e=>by
     have z:=b4.frzs b o u e
     rw [aP (aL z pD4.2.1)]
     exact z
    tbls:=fun b ps e=>by
     obtain ⟨more,z⟩:=b4.tbls b ps e
     exact ⟨more,by rw [aP (aL z pD4.2.1)];exact z⟩ }
   have hok4:HOk X.prog X.w (upd H3 D (.lst ys)) s4.heap:=fun b u e=>by
    by_cases hb:b = D
    ·subst hb
     rw [aB] at e
     cases e
     exact ⟨hz,its,k,rv,pD4.1⟩
    ·rw [aP hb] at e
     exact (I4.hok b u e).stay (fun c v _ q=>q) (fun c q=>by rw [aP (aL q pD4.2.1)];exact q) fun c xs q=>by rw [aP (aL q pD4.2.1)];exact q
   have I5:Inv X pins σ (upd H3 D (.lst ys)) s4:=I₂.call' I4.os u4 hok4 I4.bare fun b hb=>⟨(hf b hb).2.2.2.1,(hf b hb).2.1,(hf b hb).2.2.2.2.1,(hf b hb).2.2.2.2.2⟩
   refine hRR D C s4 H3 ys pD4.2.1 qn I5 ?_
   obtain ⟨m,hn,_⟩:=I4.loc
   exact ⟨⟨m,hn⟩,by rw [aP (Ne.symm hDC)];exact I4.free,fun z=>absurd I₂.lt (by rw [← z];exact Nat.not_lt.mpr hCle),Nat.le_trans I₂.sz hCle,fun x c e=>Nat.ne_of_lt (Nat.lt_of_lt_of_le (celllt x c e) hCle),fun p hp=>Nat.ne_of_lt (Nat.lt_of_lt_of_le (pinlt p hp) hCle)⟩
  ·-- a turn
   refine wpAny_mono (T.item (blk X scope N' R) rfl rfl rfl hc i _ s3 _ H3 (fun _ _=>False) I3 (stat fr3) st3 go) (fun r s4 ⟨u,hr,h4⟩=>?_) fun _ _ z=>z.elim
   subst hr
   refine wpAny_mono h4 (fun _ s5 ⟨x,H5,I5,r5,y5,st5,fr5⟩=>?_) fun _ _ z=>z.elim
   have I5':=I5.pinned (stat fr5) (T.obj _ _ st5)
   refine wpAny_mono (hg R _ s5 _ H5 x u _ I5' r5 (hgk _ _ _ _ (step x H5 y5))) (fun _ s6 ⟨σ6,H6,I6,q6,l6,k6⟩=>?_) fun _ _ z=>z.elim
   refine wpAny_mono (ht R _ s6 σ6 H6 _ I6 q6) (fun ok s7 ⟨H7,I7,q7⟩=>?_) fun _ _ z=>z.elim
   have weak:∀ {H8:Hp} {s8:Shared} {ps:List (Addr × Obj)},Inv (blk X scope N' R) ps σ6 H8 s8 → Inv (blk X scope N' R) ps (pG nt cap σ) H8 s8:=fun I8=>I8.weak (by rw [l6]) fun j v e=>by
    obtain ⟨_,hj,_,_⟩:=yI e
    rw [k6 j hj]
    exact e
   have tnK:∀ {H8:Hp} {s8:Shared} {σ8:St},Inv (blk X scope N' R) ([(D,{ cls:=.type "list",data:=.seq its.toArray k })] ++ oQ fp s5.heap) σ8 H8 s8 → tn (i + 1) s8.heap ∧ ∀ b ∈ fp,H8 b = none:=fun {H8 s8 σ8} I8 =>
    ⟨T.keep _ _ _ st5 fun b hb o e=>(I8.pin (b,o) (List.mem_append_right _ (List.mem_append_right _ (nP hb e)))).1,fun b hb=>by
     obtain ⟨o,e,_⟩:=T.obj _ _ st5 b hb
     exact (I8.pin (b,o) (List.mem_append_right _ (List.mem_append_right _ (nP hb e)))).2.1⟩
   cases ok with
   | false =>
    rw [if_neg Bool.false_ne_true] at q7 ⊢
    obtain ⟨m',hm,w7⟩:=q7
    exact ⟨m',hm,i + 1,ys,H7,its,k,weak I7.unpinned,(tnK I7).1,(tnK I7).2,rv,hz,w7⟩
   | true =>
    rw [if_pos rfl] at q7 ⊢
    refine wpAny_mono (he R _ s7 σ6 H7 _ I7 q7) (fun xv s8 ⟨y,H8,I8,ry,q8⟩=>?_) fun _ _ z=>z.elim
    obtain ⟨m',hm,w8⟩:=q8
    have pD8:=I8.pin (D,{ cls:=.type "list",data:=.seq its.toArray k }) (by simp)
    have hsz:its.toArray.size ≤ sizeLine:=by rw [List.size_toArray,← rv.length];omega
    refine wpAny_list_append_plain (hsz:=hsz) ⟨k,pD8.1⟩ fun h9 hl9 hs9=>?_
    obtain ⟨k9,hl9⟩:=hl9
    have tn8:=tnK I8
    have I8':Inv (blk X scope N' R) (oQ fp s5.heap) (pG nt cap σ) H8 s8:=(weak I8).pins_of fun p hp=>I8.pin p (List.mem_append_right _ (List.mem_append_right _ hp))
    have I9:Inv (blk X scope N' R) (oQ fp s5.heap) (pG nt cap σ) H8 { s8 with heap:=h9 }:=I8'.turned (it:=D) (t':=s8.toks) (fun b o hb e=>hs9.extBut b o hb e) pD8.2.1 pD8.2.2.1 (.inr hDle)
     (fun x c e=>Nat.ne_of_lt (Nat.lt_of_lt_of_le (celllt x c (hclk x c e)) hDle)) fun p hp=>by
      have hp':p ∈ oQ fp s5.heap:=by simpa using hp
      exact Nat.ne_of_lt (Nat.lt_of_lt_of_le (fplt p.1 (xQ hp').1) hDle)
    have e9:h9.get? D = some { cls:=.type "list",data:=.seq (its ++ [xv]).toArray k9 }:=by
     rw [hl9]
     simp
    refine ⟨m',hm,i + 1,ys ++ [y],H8,its ++ [xv],k9,I9.pins_of fun p hp=>?_,T.keep _ _ _ tn8.1 fun b hb o e=>hs9.extBut b o (Nat.ne_of_lt (Nat.lt_of_lt_of_le (fplt b hb) hDle)) e,tn8.2,rv.append (.cons ry .nil),by rw [List.length_append];exact hlt,w8⟩
    have e:p = (D,{ cls:=.type "list",data:=.seq (its ++ [xv]).toArray k9 }):=by simpa using hp
    subst e
    exact ⟨e9,pD8.2.1,pD8.2.2.1,pD8.2.2.2.1,fun v z=>by cases z⟩
 exact codeAny_compStart_list (loop _) (T.self _ 0 _ _ _ (T.keep _ _ _ st fun b hb o e=>old b o e) (loop _))
def aKX (nt:Nat) (cap:List Nat) (wi:TI) (g:TG) (tt:TT) (te:TE):TE:=fun σ H Q=>wi σ H fun J H1=>∃ W:CW,(∃ m,W 0 m [] H1) ∧ ∀ i m ys H,W i m ys H → xN (pG nt cap σ) J g tt te W (fun ys H'=>∀ p,H' p = none → Q (.ref p) (upd H' p (.lst ys))) i m ys H
theorem lG {α:Type} {l:List α} {p:α → Bool} (h:l.all p = true):∀ x ∈ l,p x = true:=fun x hx=>List.all_eq_true.mp h x hx
theorem cQ {X:Cx} {elt iter tg:Expr} {ifs:List Expr} {scope:Scope} {pos:Pos} {wi:TI} {g:TG} {tt:TT} {te:TE} (N':List Str) (nt:Nat) (cap:List Nat)
  (hc:X.calm = true) (hi:PI X tg iter wi) (hg:∀ R,PG (blk X scope N' R) tg g) (hgk:aFD nt g) (ht:∀ R,aJM (blk X scope N' R) ifs tt) (he:∀ R,PE (blk X scope N' R) elt te)
  (hcell:(scope.names.all fun y=>!(y.2 == .cell)) = true:=by rfl) (hkind:scope.kind = .function:=by rfl)
  (hnames:(scope.names.all fun y=>!(y.2 == .local) || (scope.names.lookup y.1 == some .local)) = true:=by rfl)
  (hfr:(scope.names.all fun y=>!(y.2 == .free) || (X.env.kindOf y.1 == some .cell || X.env.kindOf y.1 == some .free)) = true:=by rfl)
  (hN:N'.length = nt + cap.length:=by rfl) (hcapN:(cap.map fun j=>X.N[j]?) = (N'.drop nt).map some:=by rfl) (hcapF:((N'.drop nt).all fun x=>scope.names.lookup x == some .free) = true:=by rfl)
  (hs:∀ x,foldedSetIterable iter X.env x = pure x:=by intro _;rfl) :
  PE X (.ListComp elt [⟨tg,iter,ifs,0⟩] scope pos) (aKX nt cap wi g tt te):=by
 intro pins s σ H Q I h
 have hfr':∀ y ∈ scope.names,y.2 = .free → (X.env.kindOf y.1 = some .cell ∨ X.env.kindOf y.1 = some .free):=fun y hy e=>by
  have z:=lG hfr y hy
  rw [e] at z
  have z':(X.env.kindOf y.1 == some .cell || X.env.kindOf y.1 == some .free) = true:=z
  rcases Bool.or_eq_true_iff.mp z' with q | q
  ·exact .inl (beq_iff_eq.mp q)
  ·exact .inr (beq_iff_eq.mp q)
 have hcell':∀ y ∈ scope.names,y.2 ≠ .cell:=fun y hy e=>by
  have z:=lG hcell y hy
  rw [e] at z
  cases z
 obtain ⟨cl,hcl,hclk,hclh⟩:=wS (scope:=scope) (env:=X.env) fun y hy e=>I.ok.has y.1 (hfr' y hy e)
 have hnames':∀ y ∈ scope.names,y.2 = .local → scope.names.lookup y.1 = some .local:=fun y hy e=>by
  have z:=lG hnames y hy
  rw [e] at z
  exact beq_iff_eq.mp z
 have hcapN':∀ (k j:Nat),cap[k]? = some j → N'[nt + k]? = X.N[j]?:=fun k j e=>by
  have z:=congrArg (fun l:List (Option Str)=>l[k]?) hcapN
  simp only [List.getElem?_map,e,Option.map_some,List.getElem?_drop] at z
  cases q:N'[nt + k]? with
  | none=>rw [q] at z;cases z
  | some x=>rw [q] at z;exact (Option.some.inj z).symm
 rw [eval_ListComp]
 refine wpAny_comprehension_free (use:=none) rfl hs hcl hkind hnames' (thn (hi pins s σ H _ I h) fun v s1 h1=>thn h1 fun itv s2 h2=>?_)
 obtain ⟨it,fp,tn,J,H2,e,I2,T,st2,f2,hw⟩:=h2
 subst e
 refine wP (RR:=fun acc C=>compPost (model X.prog X.w) X.A X.xe none (EP X pins σ Q) acc C) hc I2 T st2 f2 hclk hclh hcell' hkind hfr' hN hcapN' (fun x hx=>beq_iff_eq.mp (lG hcapF x hx)) hg hgk ht he hw ?_
 intro D C s' H' ys hD q I' B
 obtain ⟨m,hn⟩:=B.ns
 refine ⟨m,hn,fun h' hs'=>⟨.ref D,_,I'.turned (it:=C) (t':=s'.toks) (fun b o hb e=>hs'.extBut b o hb e) B.fr B.ne (.inr B.ab) B.cl B.pn,rfl,q D hD⟩⟩
end L2
namespace L2
open PySem PySem.Spec PyProof.Rows
section
variable {X:Cx}
def aMQ:V → Option Value
 | .ty n=>some (.type n)
 | .ref a=>some (.ref a)
 | _=>none
theorem aJH {y:V} {c u:Value} (h:aMQ y = some c) (r:bM y u):u = c:=by
 cases y with
 | ty n=>cases h;exact r
 | ref a=>cases h;exact r
 | non=>cases h
 | bl b=>cases h
 | int i=>cases h
 | str x=>cases h
 | byt b=>cases h
 | flt b=>cases h
theorem aCH:iF X (.builtin "isinstance") (fun xs H Q=>∃ x y c t b,xs = [x,y] ∧ aMQ y = some c ∧ TyOf X.K H x t ∧ PySem.W.kitOne X.K t c = some b ∧ Q (.bl b) H):=by
 intro pins s σ H xs us Q I r h
 obtain ⟨x,y,c,t,b,rfl,hc,ty,e,q⟩:=h
 obtain ⟨u,v,rfl,ru,rv⟩:=bS.two r
 obtain rfl:=aJH hc rv
 exact aFX I ru ty e fun tk=>⟨.bl b,H,I.tok tk,rfl,q⟩
theorem sX:∀ {bs:List Bool} {us:List Value},bS (bs.map V.bl) us → LSm.BoolsAre us bs
 | [],us,r=>by
  rw [List.map_nil] at r
  cases r
  exact .nil
 | b :: bs,us,r=>by
  rw [List.map_cons] at r
  cases r with
  | cons r1 r2 =>
   cases r1
   exact .cons b (sX r2)
theorem jQ (hc:X.calm = true):iF X (.builtin "all") (fun xs H Q=>∃ (p:Addr) (bs:List Bool),xs = [.ref p] ∧ SqL X.K H p (bs.map V.bl) ∧ Q (.bl (bs.all id)) H):=by
 intro pins s σ H xs us Q I r h
 obtain ⟨p,bs,rfl,hq,q⟩:=h
 obtain ⟨u,rfl,ru⟩:=bS.one r
 cases ru
 obtain ⟨its,rv,pl,hz⟩:=I.list hq
 obtain ⟨m,F⟩:=I.fr
 have hb:=sX rv
 have hl:=pl.isList
 have hlt:p < s.heap.objs.size:=by obtain ⟨_,e,_⟩:=hl;exact Heap.lt_size e
 refine call_all_walk (wpAny_pyIter_list hl ?_)
 refine ⟨s.heap.objs.size,[s.heap.objs.size,p],[s.heap.objs.size],its.toArray.size,_,_,fun i=>(bs[i]?).getD true,rfl,Walks.list (A:=X.A.in1) (I.ok.hd hc) _ p (Nat.ne_of_lt hlt) its.toArray,
  ⟨⟨_,Heap.get?_push_size _ rfl,rfl,rfl⟩,hl.push _⟩,fun i v s' Q' E' hP hQ=>?_,fun h' tk hk=>?_⟩
 ·obtain ⟨b,e,rfl⟩:=hb.get i v (by simpa using hP)
  simp only [e,Option.getD_some] at hQ
  exact wpAny_truthy_bool hQ
 ·have e:((List.range its.toArray.size).all fun i=>(bs[i]?).getD true) = bs.all id:=by
   rw [List.size_toArray,hb.length];exact LSm.range_all bs
  rw [e]
  exact ⟨.bl _,H,I.kept (LSm.kept_iter hk),rfl,q⟩
theorem aHJ:SlR X (fun x lo hi H Q=>∃ z,x = .str z ∧ z.length ≤ sizeLine ∧ Q (.str (Txt.slice z lo hi)) H):=by
 intro pins s σ H x v vl vu lo hi sl Q I rx hs pl pu h
 obtain ⟨z,rfl,hz,q⟩:=h
 obtain ⟨t,rfl⟩:=rx
 refine ⟨"str",_,F.slot_str_getitem.lookup,typeIs_str _ _ _,?_⟩
 have fin:∀ (t':Tok) (k:Nat),EP X pins σ Q (.str (Txt.slice z lo hi) t') { s with toks:=k }:=fun t' k=>⟨.str _,H,I.tok k,⟨t',rfl⟩,q⟩
 cases pl with
 | none =>
  cases pu with
  | none=>exact wpAny_getItem_str_slice (l:=none) (u:=none) (st:=none) hs rfl (post_val_or_str ⟨Nat.le_trans (Txt.slice_le z _ _) hz,fun t' k=>fin t' k⟩)
  | int j uj=>exact wpAny_getItem_str_slice (l:=none) (u:=some (j,uj)) (st:=none) hs rfl (post_val_or_str ⟨Nat.le_trans (Txt.slice_le z _ _) hz,fun t' k=>fin t' k⟩)
 | int i ui =>
  cases pu with
  | none=>exact wpAny_getItem_str_slice (l:=some (i,ui)) (u:=none) (st:=none) hs rfl (post_val_or_str ⟨Nat.le_trans (Txt.slice_le z _ _) hz,fun t' k=>fin t' k⟩)
  | int j uj=>exact wpAny_getItem_str_slice (l:=some (i,ui)) (u:=some (j,uj)) (st:=none) hs rfl (post_val_or_str ⟨Nat.le_trans (Txt.slice_le z _ _) hz,fun t' k=>fin t' k⟩)
theorem bR:OpR X (binaryOp .FloorDiv) (rI (fun _ j=>0 < j ∧ j.natAbs.log2 < 9000) fun i j=>.int (i / j)):=opI fun i j _ _ _ _ _ hc q=>by
 have h1:(0:Int) < j:=hc.1
 exact floordiv_int (by omega) (by rw [Int.fdiv_eq_ediv_of_nonneg i (by omega)];exact q) (.inl (PyProof.noPylong_of_log2 hc.2))
def Its (x:Str):It where
 go:=fun i _=>i < x.cps.size
 yld:=fun i H v H'=>H' = H ∧ ∃ c,x.cps[i]? = some c ∧ v = .str ⟨#[c]⟩
 stop:=fun i _=>i = x.cps.size
theorem aAE {P:Program} {w:World} {K:PySem.W.Frag} {tg:Expr} (it:Addr) (x:Str) (t:Tok) (ty:String)
  (W:∀ A:Around,A.handled = none → Walks P w A it [it] [it] x.cps.size (SignAt x) (fun i h=>h.IsStrIter it ty x t i))
  (hn:["enumerate","zip","dict_itemiterator","dict_reverseitemiterator","odict_iterator","itertools.zip_longest","itertools.pairwise"].contains ty = false)
  (self:∀ (A:Around) (i:Nat) (s:Shared) (Q:Value → Shared → Prop) (E:Value → Shared → Prop),s.heap.IsStrIter it ty x t i → Q (.ref it) s → wpAny (model P w) A (pyIter (.ref it)) Q E s) :
  Turn P w K tg (Its x) [it] it (fun i h=>h.IsStrIter it ty x t i) where
 mem:=by simp
 obj:=fun i h st b hb=>by
  have e:b = it:=by simpa using hb
  subst e
  obtain ⟨o,e,c,d⟩:=st
  exact ⟨o,e,fun v z=>by rw [d] at z;cases z⟩
 keep:=fun i h h' st k=>let ⟨o,ho,r⟩:=st;⟨o,k it (by simp) o ho,r⟩
 item:=by
  intro X hP hw hK hc i pins s σ H E I hf st hg
  subst hP hw hK
  obtain ⟨f0,f1,f2,f3,f4,f5⟩:=hf it (by simp)
  refine (W X.A (I.ok.hd hc)).item i s _ _ hg st fun v h' tk hv st' kk=>?_
  obtain ⟨c,u,hx,rfl⟩:=hv
  have I1:Inv X pins σ H { s with heap:=h',toks:=tk }:=I.turned (fun b o hb e=>kk b o (by simpa using hb) e) f0 f1 f3 f4 f5
  obtain ⟨o,e,cc,d⟩:=id st'
  exact ⟨_,rfl,aEW (s:={ s with heap:=h',toks:=tk }) e cc d hn ⟨.str ⟨#[c]⟩,H,I1,⟨u,rfl⟩,⟨rfl,c,hx,rfl⟩,st',fun b hb=>(hf b hb).1⟩⟩
 done:=by
  intro X hP hw hK hc i pins s σ H E I hf st hg
  subst hP hw hK
  obtain ⟨f0,f1,f2,f3,f4,f5⟩:=hf it (by simp)
  have hg':i = x.cps.size:=hg
  subst hg'
  exact (W X.A (I.ok.hd hc)).done s _ _ st fun h' tk kk=>⟨rfl,I.turned (fun b o hb e=>kk b o (by simpa using hb) e) f0 f1 f3 f4 f5⟩
 self:=self
def aPK (tl:TE):TI:=fun σ H R=>tl σ H fun x H1=>∃ z,x = .str z ∧ R (Its z) H1
theorem aLZ {tg l:Expr} {tl:TE} (hl:PE X l tl):PI X tg l (aPK tl):=by
 intro pins s σ H R I h
 refine thn (hl pins s σ H _ I h) fun v s1 ⟨x,H1,I1,r1,q1⟩=>?_
 obtain ⟨z,e,q⟩:=q1
 subst e
 obtain ⟨t,rfl⟩:=r1
 have fp:∀ b ∈ [s1.heap.objs.size],aAB X pins H1 b:=fun b hb=>by
  have e:b = s1.heap.objs.size:=by simpa using hb
  subst e
  exact I1.fpOk (Nat.le_refl _) (I1.hok.fresh (Nat.le_refl _))
 cases ha:z.cps.all (· < 128)
 ·refine wpAny_pyIter_wide ha ?_
  exact ⟨s1.heap.objs.size,[s1.heap.objs.size],_,_,H1,rfl,I1.kept (t':=s1.toks) fun b o e=>Heap.get?_push_of_some _ e,aAE _ z t "str_iterator" (fun A hA=>Walks.strWide hA _ z t) (by decide) (fun A i s Q E st h=>wpAny_pyIter_striter_wide st h),
   ⟨_,Heap.get?_push_size _ rfl,rfl,rfl⟩,fp,q⟩
 ·refine wpAny_pyIter_ascii ha ?_
  exact ⟨s1.heap.objs.size,[s1.heap.objs.size],_,_,H1,rfl,I1.kept (t':=s1.toks) fun b o e=>Heap.get?_push_of_some _ e,aAE _ z t "str_ascii_iterator" (fun A hA=>Walks.strAscii hA _ z t) (by decide) (fun A i s Q E st h=>wpAny_pyIter_striter_ascii st h),
   ⟨_,Heap.get?_push_size _ rfl,rfl,rfl⟩,fp,q⟩
end
theorem aJG {σb:St} {x:Str} {g:TG} {tt:TT} {te:TE} {fin:List V → Hp → Prop} {H:Hp} (hz:x.cps.size ≤ sizeLine) (Pv:Nat → List V → Hp → Prop) (h0:Pv 0 [] H) (hl:∀ i ys H,Pv i ys H → ys.length ≤ i)
  (hs:∀ i c ys H (K:VK) (K':Hp → Prop),x.cps[i]? = some c → Pv i ys H → (∀ y H4,Pv (i + 1) (ys ++ [y]) H4 → K y H4) → (∀ H3,Pv (i + 1) ys H3 → K' H3) →
   g (.str ⟨#[c]⟩) σb H fun σ2 H2=>tt σ2 H2 fun b H3=>if b = true then te σ2 H3 K else K' H3)
  (hd:∀ ys H,Pv x.cps.size ys H → fin ys H):∃ W:CW,(∃ m,W 0 m [] H) ∧ ∀ i m ys H,W i m ys H → xN σb (Its x) g tt te W fin i m ys H:=by
 refine ⟨fun i m ys H=>m = x.cps.size - i ∧ i ≤ x.cps.size ∧ Pv i ys H,⟨x.cps.size,by simp,Nat.zero_le _,h0⟩,?_⟩
 rintro i m ys H ⟨rfl,hi,p⟩
 by_cases hlt:i < x.cps.size
 ·refine .inr ⟨hlt,?_,fun v H' y=>?_⟩
  ·have:=hl i ys H p;omega
  ·obtain ⟨e,c,hx,rfl⟩:=y
   subst e
   exact hs i c ys _ _ _ hx p (fun y H4 q=>⟨x.cps.size - (i + 1),by omega,rfl,hlt,q⟩) fun H3 q=>⟨x.cps.size - (i + 1),by omega,rfl,hlt,q⟩
 ·have e:i = x.cps.size:=by omega
  subst e
  exact .inl ⟨rfl,hd ys H p⟩
theorem bV {F:PySem.W.Frag} {a:Addr} {xs:List V} {σb:St} {g:TG} {tt:TT} {te:TE} {fin:List V → Hp → Prop} {H:Hp} (hz:xs.length ≤ sizeLine) (Pv:Nat → List V → Hp → Prop) (h0:Pv 0 [] H)
  (hl:∀ i ys H,i ≤ xs.length → Pv i ys H → SqL F H a xs ∧ ys.length ≤ i)
  (hs:∀ i x ys H (K:VK) (K':Hp → Prop),xs[i]? = some x → Pv i ys H → (∀ y H4,Pv (i + 1) (ys ++ [y]) H4 → K y H4) → (∀ H3,Pv (i + 1) ys H3 → K' H3) →
   g x σb H fun σ2 H2=>tt σ2 H2 fun b H3=>if b = true then te σ2 H3 K else K' H3)
  (hd:∀ ys H,Pv xs.length ys H → fin ys H):∃ W:CW,(∃ m,W 0 m [] H) ∧ ∀ i m ys H,W i m ys H → xN σb (Itl F a) g tt te W fin i m ys H:=by
 refine ⟨fun i m ys H=>m = xs.length - i ∧ i ≤ xs.length ∧ Pv i ys H,⟨xs.length,by simp,Nat.zero_le _,h0⟩,?_⟩
 rintro i m ys H ⟨rfl,hi,p⟩
 obtain ⟨q,ql⟩:=hl i ys H hi p
 by_cases hlt:i < xs.length
 ·refine .inr ⟨⟨xs,xs[i],q,by simp [hlt]⟩,by omega,fun x H' y=>?_⟩
  obtain ⟨e,y⟩:=y
  subst e
  exact hs i x ys _ _ _ (y xs q) p (fun y H4 q=>⟨xs.length - (i + 1),by omega,rfl,hlt,q⟩) fun H3 q=>⟨xs.length - (i + 1),by omega,rfl,hlt,q⟩
 ·have e:i = xs.length:=by omega
  subst e
  exact .inl ⟨⟨xs,q,Nat.le_refl _⟩,hd ys H p⟩
theorem wO {lo:Int} {n:Nat} {σb:St} {g:TG} {tt:TT} {te:TE} {fin:List V → Hp → Prop} {H:Hp} (hz:n ≤ sizeLine) (Pv:Nat → List V → Hp → Prop) (h0:Pv 0 [] H) (hl:∀ i ys H,Pv i ys H → ys.length ≤ i)
  (hs:∀ i ys H (K:VK) (K':Hp → Prop),i < n → Pv i ys H → (∀ y H4,Pv (i + 1) (ys ++ [y]) H4 → K y H4) → (∀ H3,Pv (i + 1) ys H3 → K' H3) →
   g (.int (lo + i)) σb H fun σ2 H2=>tt σ2 H2 fun b H3=>if b = true then te σ2 H3 K else K' H3)
  (hd:∀ ys H,Pv n ys H → fin ys H):∃ W:CW,(∃ m,W 0 m [] H) ∧ ∀ i m ys H,W i m ys H → xN σb (Itr lo n) g tt te W fin i m ys H:=by
 refine ⟨fun i m ys H=>m = n - i ∧ i ≤ n ∧ Pv i ys H,⟨n,by simp,Nat.zero_le _,h0⟩,?_⟩
 rintro i m ys H ⟨rfl,hi,p⟩
 by_cases hlt:i < n
 ·refine .inr ⟨hlt,?_,fun v H' y=>?_⟩
  ·have:=hl i ys H p;omega
  ·obtain ⟨e,y⟩:=y
   subst e y
   exact hs i ys _ _ _ hlt p (fun y H4 q=>⟨n - (i + 1),by omega,rfl,hlt,q⟩) fun H3 q=>⟨n - (i + 1),by omega,rfl,hlt,q⟩
 ·have e:i = n:=by omega
  subst e
  exact .inl ⟨Nat.le_refl _,hd ys H p⟩
end L2
namespace L2
open PySem PySem.Spec PyProof.Rows
structure DefAt (K:PySem.W.Frag) (mg:Str → Option Value) (x:Str) (st:Stmt) (ps:List Str):Prop where
 ex:∃ (f:Addr) (fd:FuncData),Fun K x x st f fd ∧ iU K fd ps [] ∧ mg x = some (.ref f)
structure Fc (P:Program) (w:World) (K:PySem.W.Frag) (mg:Str → Option Value) (base:Heap) (k:Nat) (x:Str) (ps:List Str) (sp:Sp):Prop where
 ex:∃ (f:Addr) (fd:FuncData),FnOk P w K mg base CX0 k f fd ps sp ∧ iU K fd ps [] ∧ mg x = some (.ref f) ∧ PySem.W.keepIn K (.ref f) = true
section
variable {P:Program} {w:World} {K:PySem.W.Frag} {mg:Str → Option Value} {base:Heap}
theorem DefAt.fc {x:Str} {st:Stmt} {N ps:List Str} {k:Nat} {sp:Sp} (D:DefAt K mg x st ps) (S:FnScope N ps (aF st)) (len:∀ vs H Q E,sp vs H Q E → vs.length = ps.length)
  (hbody:∀ (f:Addr) (cdv:Value) (A:Around) (outer:List Env) (s:Shared) (H:Hp) (vs:List V) (Q:VK) (E:XK),Room k (A.deeper (envOfC x (aF st) s.heap.objs.size f cdv)) → sp vs H Q E →
   ∃ t,PSs (wL CX0 P w K mg base N x (aF st) f cdv A outer s H E).nox (aO st) t ∧ t { nx:=fun _ H'=>Q .non H',rt:=Q } (lV N vs) H):Fc P w K mg base (k + 1) x ps sp:=by
 obtain ⟨f,fd,F,b,m⟩:=D.ex
 exact ⟨f,fd,F.ok S len fun cdv A outer s H vs Q E hr h=>hbody f cdv A outer s H vs Q E hr h,b,m,F.kp⟩
theorem bL {h:Heap} {x:Str} {st:Stmt} {ps:List Str} {f:Addr} {oc:Value} {od an:Option Addr} {osl:Array (Option Value)} {kV doc pm cdv ct:Value} (X:K.In h) (G:h.Ns mainGlobals mg)
  (a:PySem.W.nsIn K mainGlobals x = some (some (.ref f))) (l:K.lookup f = some ⟨oc,od,.func (PySem.W.fnOf x x (aS st) (aO st) (aF st) .none kV doc pm an cdv ct),osl⟩)
  (c:PySem.W.codeIn K cdv x = true) (k:PySem.W.keepIn K (.ref f) = true)
  (hb:∀ (kV doc pm:Value) (an:Option Addr) (cdv ct:Value) (us:List Value),us.length = ps.length → bindArgs (PySem.W.fnOf x x (aS st) (aO st) (aF st) .none kV doc pm an cdv ct) ⟨us,[]⟩ = pure (ps.zip us)):DefAt K mg x st ps :=
 ⟨f,_,sC l c k,(sC l c k).binds hb,PySem.W.mg_of X G a⟩
end
section
variable {X:Cx} {k:Nat} {ps:List Str} {sp:Sp} {x:Str} {p pos:Pos} {e:Expr} {es:List Expr} {t:TA}
theorem bN (F:Fc X.prog X.w X.K X.mg X.base k x ps sp) (hr:Room k X.A) (ha:PA X (e :: es) t) (hg:Gl X x:=by rfl) (hdb:(x == ("__debug__":Str)) = false:=by decide)
  (he:starEach (e :: es) X.env = (false,eval e X.env) :: starEach es X.env:=by rfl) (hpl:(backTo pos (starEach es X.env)).any (·.1) = false:=by rfl) :
  PE X (.Call (.Name x p) (e :: es) [] pos) (aKY sp [] E0 t):=by
 obtain ⟨f,fd,G,b,m,kp⟩:=F.ex
 exact aJZ G hr hg m kp b .nil aER ha hdb he hpl
end
def sp1 (f:V → Hp → VK → Prop):Sp:=fun vs H Q _=>∃ x,vs = [x] ∧ f x H Q
def sp2 (f:V → V → Hp → VK → Prop):Sp:=fun vs H Q _=>∃ x y,vs = [x,y] ∧ f x y H Q
def sp3 (f:V → V → V → Hp → VK → Prop):Sp:=fun vs H Q _=>∃ x y z,vs = [x,y,z] ∧ f x y z H Q
theorem lM {f:V → Hp → VK → Prop}:∀ vs H Q E,sp1 f vs H Q E → vs.length = 1:=fun vs H Q E ⟨x,e,_⟩=>by rw [e];rfl
theorem gK {f:V → V → Hp → VK → Prop}:∀ vs H Q E,sp2 f vs H Q E → vs.length = 2:=fun vs H Q E ⟨x,y,e,_⟩=>by rw [e];rfl
theorem aIF {f:V → V → V → Hp → VK → Prop}:∀ vs H Q E,sp3 f vs H Q E → vs.length = 3:=fun vs H Q E ⟨x,y,z,e,_⟩=>by rw [e];rfl
theorem bX:bootBuiltins "isinstance" = some (.builtin "isinstance"):=by decide +kernel
theorem iE:bootBuiltins "all" = some (.builtin "all"):=by decide +kernel
theorem cT:bootBuiltins "len" = some (.builtin "len"):=by decide +kernel
theorem kF:bootBuiltins "max" = some (.builtin "max"):=by decide +kernel
theorem mX:bootBuiltins "min" = some (.builtin "min"):=by decide +kernel
theorem sK:bootBuiltins "str" = some (.type "str"):=by decide +kernel
theorem yH:bootBuiltins "int" = some (.type "int"):=by decide +kernel
theorem wU:bootBuiltins "bool" = some (.type "bool"):=by decide +kernel
theorem dG:bootBuiltins "list" = some (.type "list"):=by decide +kernel
theorem aCI:bootBuiltins "tuple" = some (.type "tuple"):=by decide +kernel
theorem eX:bootBuiltins "dict" = some (.type "dict"):=by decide +kernel
theorem aGJ:bootBuiltins "set" = some (.type "set"):=by decide +kernel
inductive Pl (K:PySem.W.Frag) (H:Hp):V → Prop where
 | non:Pl K H .non
 | bl (b:Bool):Pl K H (.bl b)
 | int (i:Int):Pl K H (.int i)
 | str (x:Str):Pl K H (.str x)
 | lst {a:Addr} {xs:List V} (e:H a = some (.lst xs)):Pl K H (.ref a)
 | frz {a:Addr} {o:Obj} {xs:List V} (e:H a = some (.frz o (.lst xs))):Pl K H (.ref a)
 | tup {a:Addr} {xs:List V} (e:H a = some (.tup xs)):Pl K H (.ref a)
 | dK {a:Addr} {kvs:List (Key × V)} (e:H a = some (.dK kvs)):Pl K H (.ref a)
theorem mN (K:PySem.W.Frag) (n:String):PySem.W.kitOne K (.type n) (.type n) = some true:=by
 unfold PySem.W.kitOne
 rw [if_pos (by simp)]
end L2
namespace L2
open PySem PySem.Spec PyProof.Rows
def jY (mg:Str → Option Value) (x:Str) (v:V):Prop:=∃ u,mg x = some u ∧ bM v u
theorem qG {X:Cx} {x:Str} {v:V} {pos:Pos} (h:jY X.mg x v) (hg:Gl X x:=by rfl) (hd:(x == ("__debug__":Str)) = false:=by decide):PE X (.Name x pos) (tC v):=by
 obtain ⟨u,hm,r⟩:=h
 exact tX hg hm r hd
theorem jF {K:PySem.W.Frag} {mg:Str → Option Value} {h:Heap} {x:Str} {v:V} {u:Value} (X:K.In h) (G:h.Ns mainGlobals mg) (a:PySem.W.nsIn K mainGlobals x = some (some u)) (r:bM v u):jY mg x v:=⟨u,PySem.W.mg_of X G a,r⟩
end L2
namespace L2
open PySem PySem.Spec PyProof.Rows
def sF:HO → Bool
 | .lst _=>true
 | .dK _=>true
 | .set _ _=>true
 | .ext _=>true
 | .rng _ _=>true
 | _=>false
def iH (H' H'':Hp):Prop:=∀ b,H'' b = H' b ∨ (H'' b = none ∧ ∃ o,H' b = some o ∧ sF o = true)
theorem iH.refl (H:Hp):iH H H:=fun _=>.inl rfl
theorem iH.trans {H1 H2 H3:Hp} (a:iH H1 H2) (b:iH H2 H3):iH H1 H3:=fun c=>by
 rcases b c with e | ⟨e,o,q,d⟩
 ·rcases a c with e' | ⟨e',o,q,d⟩
  ·exact .inl (e.trans e')
  ·exact .inr ⟨e.trans e',o,q,d⟩
 ·rcases a c with e' | ⟨e',_⟩
  ·exact .inr ⟨e,o,e' ▸ q,d⟩
  ·rw [e'] at q;cases q
theorem iH.new {H:Hp} {p:Addr} {o:HO} (h:H p = none) (d:sF o = true):iH (upd H p o) H:=fun b=>by
 by_cases hb:b = p
 ·subst hb
  exact .inr ⟨h,o,aB,d⟩
 ·exact .inl (aP hb).symm
theorem iH.lst {H:Hp} {p:Addr} {xs:List V} (h:H p = none):iH (upd H p (.lst xs)) H:=iH.new h rfl
def dI (Q:VK):VK:=fun v H'=>∃ H'',iH H' H'' ∧ Q v H''
theorem dI.of {Q:VK} {v:V} {H H':Hp} (d:iH H' H) (q:Q v H):dI Q v H':=⟨H,d,q⟩
theorem HOk.drop {P:Program} {w:World} {H' H'':Hp} {h:Heap} (d:iH H' H'') (ok:HOk P w H' h):HOk P w H'' h:=fun b o e=>by
 have e':H' b = some o:=by
  rcases d b with z | ⟨z,_⟩
  ·exact z.symm.trans e
  ·rw [z] at e;cases e
 refine (ok b o e').stay (fun _ _ _ q=>q) (fun c q=>?_) fun c xs q=>?_
 ·rcases d c with z | ⟨_,o',z',dr⟩
  ·exact z.trans q
  ·rw [q] at z';cases z';cases dr
 ·rcases d c with z | ⟨_,o',z',dr⟩
  ·exact z.trans q
  ·rw [q] at z';cases z';cases dr
theorem Un.drop {fs ex:List Addr} {H H' H'':Hp} {h h':Heap} (d:iH H' H'') (u:Un fs ex H H' h h'):Un fs ex H H'' h h' where
 keep:=u.keep
 slot:=u.slot
 free:=fun b o e n hx=>by
  rcases d b with z | ⟨z,_⟩
  ·exact z.trans (u.free b o e n hx)
  ·exact z
 there:=u.there
 tups:=fun b xs e=>by
  have q:=u.tups b xs e
  rcases d b with z | ⟨_,o',z',dr⟩
  ·exact z.trans q
  ·rw [q] at z';cases z';cases dr
 frzs:=fun b o v e=>by
  have q:=u.frzs b o v e
  rcases d b with z | ⟨_,o',z',dr⟩
  ·exact z.trans q
  ·rw [q] at z';cases z';cases dr
 tbls:=fun b ps e=>by
  obtain ⟨m,q⟩:=u.tbls b ps e
  rcases d b with z | ⟨_,o',z',dr⟩
  ·exact ⟨m,z.trans q⟩
  ·rw [q] at z';cases z';cases dr
theorem FnOk.drop {P:Program} {w:World} {K:PySem.W.Frag} {mg:Str → Option Value} {base:Heap} {k:Nat} {f:Addr} {fd:FuncData} {ps:List Str} {sp:Sp} (len:∀ vs H Q E,sp vs H Q E → vs.length = ps.length)
  (F:FnOk P w K mg base CX0 k f fd ps (fun vs H Qd E=>∃ Q,sp vs H Q E ∧ Qd = dI Q)):FnOk P w K mg base CX0 k f fd ps sp:=by
 refine ⟨len,fun A outer s H args us vs Q E hr he hb hv hs=>codeAny_mono (F.run A outer s H args us vs (dI Q) E hr he hb hv ⟨Q,hs,rfl⟩) fun r s' h=>?_⟩
 cases r with
 | error e=>exact h
 | ok fl =>
  cases fl with
  | ret u =>
   obtain ⟨v,H',os,bare,un,hok,rv,H'',d,q⟩:=h
   exact ⟨v,H'',os,bare,un.drop d,hok.drop d,rv,q⟩
  | next=>exact h
  | brk=>exact h
  | cont=>exact h
theorem DefAt.fcD {P:Program} {w:World} {K:PySem.W.Frag} {mg:Str → Option Value} {base:Heap} {x:Str} {st:Stmt} {N ps:List Str} {k:Nat} {sp:Sp} (D:DefAt K mg x st ps) (S:FnScope N ps (aF st)) (len:∀ vs H Q E,sp vs H Q E → vs.length = ps.length)
  (hbody:∀ (f:Addr) (cdv:Value) (A:Around) (outer:List Env) (s:Shared) (H:Hp) (vs:List V) (Q:VK) (E:XK),Room k (A.deeper (envOfC x (aF st) s.heap.objs.size f cdv)) → sp vs H Q E →
   ∃ t,PSs (wL CX0 P w K mg base N x (aF st) f cdv A outer s H E).nox (aO st) t ∧ t { nx:=fun _ H'=>dI Q .non H',rt:=dI Q } (lV N vs) H):Fc P w K mg base (k + 1) x ps sp:=by
 obtain ⟨f,fd,F,b,m⟩:=D.ex
 refine ⟨f,fd,FnOk.drop len (F.ok S (fun vs H Q E ⟨Q',h,_⟩=>len vs H Q' E h) fun cdv A outer s H vs Q E hr ⟨Q',h,e⟩=>?_),b,m,F.kp⟩
 subst e
 exact hbody f cdv A outer s H vs Q' E hr h
end L2
namespace L2
open PySem PySem.Spec PyProof.Rows
theorem aK.upd {H:Hp} {p:Addr} {o:HO} (h:H p = none):aK H (upd H p o):=fun b u e=>by
 rw [aP (aL e h)]
 exact e
def aEA (K:PySem.W.Frag):Sp:=sp1 fun x H Q=>∃ (a:Addr) (ns:List Int),x = .ref a ∧ SqL K H a (ns.map V.int) ∧ ns.length ≤ 63 ∧ ∀ H',Q (.bl true) H'
theorem walk_law {l:PySem.W.OpenLaw} {q:Program} {loose:List Str} {XP:(Str → Option Value) → Heap → Prop} {YP:World → Heap → Prop} {d:DefRec} {K:Params → PySem.W.Frag} (k:Nat) (hr:Room k callerA) (hn:l.most = some 63) (hdf:d.params.defaults = [])
  (hY:∀ (w:World) (h:Heap),YP w h → (K w.params).In h)
  (F:∀ (w:World) (mg:Str → Option Value) (fa:Addr) (h:Heap),(K w.params).In h → h.Ns mainGlobals mg → mg d.name = some (.ref fa) →
   ∃ fd:FuncData,(∀ (s:Shared) (u:Value),BindsTo s fd ⟨[u],[]⟩ [("_law_script",u)]) ∧ ∀ base:Heap,(K w.params).In base → base.Ns mainGlobals mg → FnOk l.prog w (K w.params) mg base CX0 k fa fd ["_law_script"] (aEA (K w.params))) :
  PySem.W.WalkO q loose XP YP l.row.toRowW d [] (fun f vs=>PySem.call f vs) :=
 L2.walk_of (n:=63) (k:=k) (x:="_law_script") (CX:=fun _=>CX0) (sp:=fun w=>aEA (K w.params)) hn (by decide) hdf hr hY F (fun _ _ a ns hl _ hS=>⟨_,rfl,a,ns,rfl,hS,hl,fun _=>rfl⟩) fun _ _ _ _ _ z=>z
end L2
namespace L2
open PySem PySem.Spec PyProof.Rows
theorem nX {X:Cx} {x:Str} {n:String} {pos:Pos} (hm:X.mg x = none) (hv:bootBuiltins x = some (.type n)) (hg:Gl X x:=by rfl) (hn:x ≠ "__name__":=by decide) (hd:(x == ("__debug__":Str)) = false:=by decide):PE X (.Name x pos) (tC (.ty n)) :=
 aKA hg hm hv rfl hn hd
end L2
namespace L2
theorem aQ {n:Nat} (h:Nat.ble n 1000 = true):n ≤ PySem.sizeLine:=Nat.le_trans (Nat.le_of_ble_eq_true h) (by decide)
end L2
namespace L2
open PySem PySem.Spec PyProof.Rows
def Ite (K:PySem.W.Frag) (a:Addr):It where
 go:=fun i H=>∃ xs x,SqL K H a xs ∧ xs[i]? = some x
 yld:=fun i H v H'=>∃ p x,H p = none ∧ v = .ref p ∧ H' = upd H p (.tup [.int i,x]) ∧ ∀ ys,SqL K H a ys → ys[i]? = some x
 stop:=fun i H=>∃ xs,SqL K H a xs ∧ xs.length ≤ i
end L2
namespace L2
open PySem PySem.Spec PyProof.Rows
inductive Dv where
 | non | bl (b:Bool) | int (i:Int) | str (x:Str) | lst (ds:List Dv) | tup (ds:List Dv) | dct (ks:List Key) (ds:List Dv)
mutual
def Is (H:Hp):Dv → V → Prop
 | .non,v=>v = .non
 | .bl b,v=>v = .bl b
 | .int i,v=>v = .int i
 | .str x,v=>v = .str x
 | .lst ds,v=>∃ a vs,v = .ref a ∧ H a = some (.lst vs) ∧ IsL H ds vs
 | .tup ds,v=>∃ a vs,v = .ref a ∧ H a = some (.tup vs) ∧ IsL H ds vs
 | .dct ks ds,v=>∃ a vs,v = .ref a ∧ H a = some (.dK (ks.zip vs)) ∧ vs.length = ks.length ∧ IsL H ds vs
def IsL (H:Hp):List Dv → List V → Prop
 | [],vs=>vs = []
 | d :: ds,vs=>∃ v r,vs = v :: r ∧ Is H d v ∧ IsL H ds r
end
def aMK:HO → Bool
 | .lst _=>true
 | .tup _=>true
 | .dK _=>true
 | _=>false
def aFC (H H':Hp):Prop:=∀ b o,H b = some o → aMK o = true → H' b = some o
mutual
theorem Is.sameD {H H':Hp} (S:aFC H H'):∀ (d:Dv) (v:V),Is H d v → Is H' d v
 | .non,_,h=>h
 | .bl _,_,h=>h
 | .int _,_,h=>h
 | .str _,_,h=>h
 | .lst ds,_,⟨a,vs,e,o,h⟩=>⟨a,vs,e,S _ _ o rfl,IsL.sameD S ds vs h⟩
 | .tup ds,_,⟨a,vs,e,o,h⟩=>⟨a,vs,e,S _ _ o rfl,IsL.sameD S ds vs h⟩
 | .dct ks ds,_,⟨a,vs,e,o,l,h⟩=>⟨a,vs,e,S _ _ o rfl,l,IsL.sameD S ds vs h⟩
theorem IsL.sameD {H H':Hp} (S:aFC H H'):∀ (ds:List Dv) (vs:List V),IsL H ds vs → IsL H' ds vs
 | [],_,h=>h
 | d :: ds,_,⟨v,r,e,h,t⟩=>⟨v,r,e,Is.sameD S d v h,IsL.sameD S ds r t⟩
end
theorem Is.same {H H':Hp} (S:aK H H') (d:Dv) (v:V) (h:Is H d v):Is H' d v:=Is.sameD (fun b o e _=>S b o e) d v h
theorem IsL.same {H H':Hp} (S:aK H H') (ds:List Dv) (vs:List V) (h:IsL H ds vs):IsL H' ds vs:=IsL.sameD (fun b o e _=>S b o e) ds vs h
mutual
def qJ:Dv → Bool
 | .lst _=>false
 | .dct _ _=>false
 | .tup ds=>rG ds
 | _=>true
def rG:List Dv → Bool
 | []=>true
 | d :: ds=>qJ d && rG ds
end
def mZ (H H':Hp):Prop:=∀ a xs,H a = some (.tup xs) → H' a = some (.tup xs)
mutual
theorem Is.keep {H H':Hp} (S:mZ H H'):∀ (d:Dv) (v:V),qJ d = true → Is H d v → Is H' d v
 | .non,_,_,h=>h
 | .bl _,_,_,h=>h
 | .int _,_,_,h=>h
 | .str _,_,_,h=>h
 | .lst ds,_,f,_=>by cases f
 | .tup ds,_,f,⟨a,vs,e,o,h⟩=>⟨a,vs,e,S _ _ o,IsL.keep S ds vs f h⟩
 | .dct ks ds,_,f,_=>by cases f
theorem IsL.keep {H H':Hp} (S:mZ H H'):∀ (ds:List Dv) (vs:List V),rG ds = true → IsL H ds vs → IsL H' ds vs
 | [],_,_,h=>h
 | d :: ds,_,f,⟨v,r,e,h,t⟩=>⟨v,r,e,Is.keep S d v (Bool.and_eq_true_iff.mp f).1 h,IsL.keep S ds r (Bool.and_eq_true_iff.mp f).2 t⟩
end
mutual
def deq:Dv → Dv → Bool
 | .non,.non=>true
 | .bl a,.bl b=>a == b
 | .bl a,.int b=>(if a then 1 else 0) == b
 | .int a,.bl b=>a == (if b then 1 else 0)
 | .int a,.int b=>a == b
 | .str a,.str b=>a == b
 | .lst a,.lst b=>xG a b
 | .tup a,.tup b=>xG a b
 | _,_=>false
def xG:List Dv → List Dv → Bool
 | [],[]=>true
 | a :: r,b :: q=>deq a b && xG r q
 | _,_=>false
end
mutual
def bA:Nat → Dv → Bool
 | _,.dct _ _=>false
 | 0,.lst _=>false
 | 0,.tup _=>false
 | n + 1,.lst ds=>cY n ds
 | n + 1,.tup ds=>cY n ds
 | _,_=>true
def cY:Nat → List Dv → Bool
 | _,[]=>true
 | n,d :: ds=>bA n d && cY n ds
end
mutual
theorem wJ:∀ (n:Nat) (d:Dv),bA n d = true → deq d d = true
 | _,.non,_=>rfl
 | _,.bl b,_=>beq_self_eq_true b
 | _,.int i,_=>beq_self_eq_true i
 | _,.str x,_=>beq_self_eq_true x
 | 0,.lst ds,f=>by simp [bA] at f
 | 0,.tup ds,f=>by simp [bA] at f
 | n + 1,.lst ds,f=>sG n ds (by simpa [bA] using f)
 | n + 1,.tup ds,f=>sG n ds (by simpa [bA] using f)
 | n,.dct ks ds,f=>by simp [bA] at f
theorem sG:∀ (n:Nat) (ds:List Dv),cY n ds = true → xG ds ds = true
 | _,[],_=>rfl
 | n,d :: ds,f=>by
  rw [cY,Bool.and_eq_true] at f
  show (deq d d && xG ds ds) = true
  rw [wJ n d f.1,sG n ds f.2];rfl
end
theorem IsL.length {H:Hp}:∀ {ds:List Dv} {vs:List V},IsL H ds vs → vs.length = ds.length
 | [],_,h=>by rw [show _ = [] from h];rfl
 | d :: ds,_,⟨v,r,e,_,t⟩=>by rw [e,List.length_cons,List.length_cons,IsL.length t]
mutual
theorem Is.inj {H:Hp}:∀ (d e:Dv) (v:V),Is H d v → Is H e v → (∃ n,bA n d = true) → (∃ n,bA n e = true) → d = e
 | .non,e,v,h,h',_,_=>by
  cases e <;> simp_all [Is]
 | .bl b,e,v,h,h',_,_=>by
  cases e <;> simp_all [Is]
 | .int b,e,v,h,h',_,_=>by
  cases e <;> simp_all [Is]
 | .str b,e,v,h,h',_,_=>by
  cases e <;> simp_all [Is]
 | .lst ds,e,v,⟨a,vs,q,o,h⟩,h',⟨n,f⟩,⟨m,g⟩=>by
  subst q
  cases e with
  | lst es =>
   obtain ⟨a',vs',q',o',h'⟩:=h'
   cases q'
   rw [o] at o'
   cases o'
   cases n with
   | zero=>simp [bA] at f
   | succ n =>
    cases m with
    | zero=>simp [bA] at g
    | succ m=>rw [IsL.inj ds es vs h h' ⟨n,by simpa [bA] using f⟩ ⟨m,by simpa [bA] using g⟩]
  | tup es =>
   obtain ⟨a',vs',q',o',h'⟩:=h'
   cases q'
   rw [o] at o'
   cases o'
  | dct ks es=>simp [bA] at g
  | _=>simp_all [Is]
 | .tup ds,e,v,⟨a,vs,q,o,h⟩,h',⟨n,f⟩,⟨m,g⟩=>by
  subst q
  cases e with
  | tup es =>
   obtain ⟨a',vs',q',o',h'⟩:=h'
   cases q'
   rw [o] at o'
   cases o'
   cases n with
   | zero=>simp [bA] at f
   | succ n =>
    cases m with
    | zero=>simp [bA] at g
    | succ m=>rw [IsL.inj ds es vs h h' ⟨n,by simpa [bA] using f⟩ ⟨m,by simpa [bA] using g⟩]
  | lst es =>
   obtain ⟨a',vs',q',o',h'⟩:=h'
   cases q'
   rw [o] at o'
   cases o'
  | dct ks es=>simp [bA] at g
  | _=>simp_all [Is]
 | .dct ks ds,e,v,_,h',⟨n,f⟩,_=>by simp [bA] at f
theorem IsL.inj {H:Hp}:∀ (ds es:List Dv) (vs:List V),IsL H ds vs → IsL H es vs → (∃ n,cY n ds = true) → (∃ n,cY n es = true) → ds = es
 | [],es,vs,h,h',_,_=>by
  rw [show vs = [] from h] at h'
  cases es with
  | nil=>rfl
  | cons e es=>obtain ⟨v,r,q,_⟩:=h';cases q
 | d :: ds,es,vs,⟨v,r,q,h,t⟩,h',⟨n,f⟩,⟨m,g⟩=>by
  subst q
  cases es with
  | nil=>cases (show v :: r = [] from h')
  | cons e es =>
   obtain ⟨v',r',q',h',t'⟩:=h'
   cases q'
   rw [cY,Bool.and_eq_true] at f g
   rw [Is.inj d e v h h' ⟨n,f.1⟩ ⟨m,g.1⟩,IsL.inj ds es r t t' ⟨n,f.2⟩ ⟨m,g.2⟩]
end
theorem IsL.get {H:Hp}:∀ {ds:List Dv} {vs:List V} {i:Nat} {d:Dv},IsL H ds vs → ds[i]? = some d → ∃ v,vs[i]? = some v ∧ Is H d v
 | [],_,_,_,_,e=>by simp at e
 | d :: ds,_,0,d',⟨v,r,e,h,t⟩,q=>by
  simp at q
  subst q e
  exact ⟨v,rfl,h⟩
 | d :: ds,_,i + 1,d',⟨v,r,e,h,t⟩,q=>by
  subst e
  obtain ⟨u,h1,h2⟩:=IsL.get (i:=i) t (by simpa using q)
  exact ⟨u,by simpa using h1,h2⟩
theorem qK:∀ (ds es:List Dv),ds.length = es.length → (List.range ds.length).all (fun j=>deq (ds.getD j .non) (es.getD j .non)) = xG ds es
 | [],[],_=>rfl
 | d :: ds,e :: es,h=>by
  have ih:=qK ds es (by simpa using h)
  rw [List.length_cons,List.range_succ_eq_map,List.all_cons,List.all_map]
  show (deq d e && (List.range ds.length).all (fun j=>deq (ds.getD j .non) (es.getD j .non))) = (deq d e && xG ds es)
  rw [ih]
 | [],_ :: _,h=>by simp at h
 | _ :: _,[],h=>by simp at h
theorem wK:∀ (ds es:List Dv),ds.length ≠ es.length → xG ds es = false
 | [],[],h=>absurd rfl h
 | d :: ds,e :: es,h=>by
  show (deq d e && xG ds es) = false
  rw [wK ds es (fun q=>h (by simp [q]))]
  simp
 | [],_ :: _,_=>rfl
 | _ :: _,[],_=>rfl
theorem pB:∀ {n:Nat} {ds:List Dv} {i:Nat} {d:Dv},cY n ds = true → ds[i]? = some d → bA n d = true
 | n,[],_,_,_,e=>by simp at e
 | n,d :: ds,0,d',f,e=>by
  simp at e
  subst e
  rw [cY,Bool.and_eq_true] at f
  exact f.1
 | n,d :: ds,i + 1,d',f,e=>by
  rw [cY,Bool.and_eq_true] at f
  exact pB (i:=i) f.2 (by simpa using e)
theorem IsL.snoc {H:Hp} {d:Dv} {v:V} (h:Is H d v):∀ {ds:List Dv} {vs:List V},IsL H ds vs → IsL H (ds ++ [d]) (vs ++ [v])
 | [],_,e=>by
  rw [show _ = [] from e]
  exact ⟨v,[],rfl,h,rfl⟩
 | d' :: ds,_,⟨v',r,e,h',t⟩=>by
  subst e
  exact ⟨v',r ++ [v],rfl,h',IsL.snoc h t⟩
theorem IsL.strs (H:Hp):∀ zs:List Str,IsL H (zs.map Dv.str) (zs.map V.str)
 | []=>rfl
 | z :: zs=>⟨.str z,zs.map V.str,rfl,rfl,IsL.strs H zs⟩
theorem eG:∀ {ds:List Dv},(∀ d ∈ ds,qJ d = true) → rG ds = true
 | [],_=>rfl
 | d :: ds,h=>by
  rw [rG,h d List.mem_cons_self,eG fun e m=>h e (List.mem_cons_of_mem _ m)]
  rfl
theorem mZ.lst {H:Hp} {l:Addr} {xs:List V} {o:HO} (h:H l = some (.lst xs)):mZ H (upd H l o):=fun a ys e=>by
 have:a ≠ l:=aET e h (by intro z;cases z)
 rw [aP this]
 exact e
theorem aK.over {H H':Hp} {l:Addr} {o:HO} (S:aK H H') (hl:H l = none):aK H (L2.upd H' l o):=fun b u e=>by
 rw [aP (aL e hl)]
 exact S b u e
theorem nT {n:Nat}:∀ {ds:List Dv},(∀ d ∈ ds,bA n d = true) → cY n ds = true
 | [],_=>by rw [cY]
 | d :: ds,h=>by
  rw [cY,h d List.mem_cons_self,nT fun e m=>h e (List.mem_cons_of_mem _ m)]
  rfl
inductive View (s:Shared) (H:Hp):Dv → Value → Prop where
 | non:View s H .non .none
 | bl (b:Bool):View s H (.bl b) (.bool b)
 | int (i:Int) (t:Tok):View s H (.int i) (.int i t)
 | str (x:Str) (t:Tok):View s H (.str x) (.str x t)
 | lst {ds:List Dv} {l:Addr} {its:List Value} {vs:List V} (hl:s.heap.IsList l its.toArray) (r:bS vs its) (h:IsL H ds vs):View s H (.lst ds) (.ref l)
 | tup {ds:List Dv} {l:Addr} {its:List Value} {vs:List V} (hl:s.heap.IsTuple l its.toArray) (r:bS vs its) (h:IsL H ds vs):View s H (.tup ds) (.ref l)
section
variable {X:Cx} {pins:List (Addr × Obj)} {σ:St} {H:Hp} {s:Shared}
theorem Is.view (I:Inv X pins σ H s) {n:Nat} {d:Dv} {v:V} {u:Value} (f:bA n d = true) (h:Is H d v) (r:bM v u):View s H d u:=by
 cases d with
 | non=>cases (show v = .non from h);cases r;exact .non
 | bl b=>cases (show v = .bl b from h);cases r;exact .bl b
 | int b=>cases (show v = .int b from h);obtain ⟨t,rfl⟩:=r;exact .int b t
 | str b=>cases (show v = .str b from h);obtain ⟨t,rfl⟩:=r;exact .str b t
 | lst ds =>
  obtain ⟨a,vs,rfl,o,h⟩:=h
  cases r
  obtain ⟨its,rv,pl,hz⟩:=I.list (SqL.of o)
  exact .lst pl.isList rv h
 | tup ds =>
  obtain ⟨a,vs,rfl,o,h⟩:=h
  cases r
  obtain ⟨its,rv,pl,hz⟩:=I.tuple (SqT.of o)
  exact .tup pl rv h
 | dct ks ds=>simp [bA] at f
open PySem.SeqAt in
theorem nR {n:Nat} {A:Around} (hu:A.units + n < cLine)
  (ih:∀ (d e:Dv) (v v':V) (u u':Value) (A:Around),A.units + n < cLine → bA n d = true → bA n e = true → Is H d v → Is H e v' → bM v u → bM v' u' → EqAt A s u u' (deq d e))
  {ds es:List Dv} {vs vs':List V} {its its':List Value} (f:cY n ds = true) (g:cY n es = true) (h:IsL H ds vs) (h':IsL H es vs') (r:bS vs its) (r':bS vs' its')
  (j:Nat) (h1:j < its.toArray.size) (h2:j < its'.toArray.size):EqAt A s its.toArray[j] its'.toArray[j] (deq (ds.getD j .non) (es.getD j .non)):=by
 have l1:=r.length
 have l2:=r'.length
 have l3:=h.length
 have l4:=h'.length
 rw [List.size_toArray] at h1 h2
 have e1:ds[j]? = some (ds.getD j .non):=by
  rw [List.getD_eq_getElem?_getD,List.getElem?_eq_getElem (by omega)];rfl
 have e2:es[j]? = some (es.getD j .non):=by
  rw [List.getD_eq_getElem?_getD,List.getElem?_eq_getElem (by omega)];rfl
 obtain ⟨v,q1,i1⟩:=h.get e1
 obtain ⟨v',q2,i2⟩:=h'.get e2
 obtain ⟨u,p1,k1⟩:=r.get q1
 obtain ⟨u',p2,k2⟩:=r'.get q2
 have z1:its.toArray[j] = u:=by
  have:=List.getElem?_eq_some_iff.mp p1
  obtain ⟨_,e⟩:=this
  simpa using e
 have z2:its'.toArray[j] = u':=by
  have:=List.getElem?_eq_some_iff.mp p2
  obtain ⟨_,e⟩:=this
  simpa using e
 rw [z1,z2]
 exact ih _ _ v v' u u' A hu (pB f e1) (pB g e2) i1 i2 k1 k2
open PySem.SeqAt in
theorem aHS (I:Inv X pins σ H s) {n:Nat}
  (ih:∀ (d e:Dv) (v v':V) (u u':Value) (A:Around),A.units + n < cLine → bA n d = true → bA n e = true → Is H d v → Is H e v' → bM v u → bM v' u' → EqAt A s u u' (deq d e))
  (d e:Dv) (v v':V) (u u':Value) (A:Around) (hu:A.units + (n + 1) < cLine) (f:bA (n + 1) d = true) (g:bA (n + 1) e = true) (h:Is H d v) (h':Is H e v') (r:bM v u) (r':bM v' u') :
  RcAt A s u u' (deq d e) ∧ RcNeAt A s u u' (!deq d e):=by
 have hu0:A.units < cLine:=by omega
 have hu1:A.in1.units + n < cLine:=by show A.units + 1 + n < cLine;omega
 have w:=Is.view I f h r
 have w':=Is.view I g h' r'
 cases w with
 | non =>
  cases w' with
  | non=>exact ⟨RcAt.none_none,RcNeAt.none_none⟩
  | bl b=>exact ⟨RcAt.none_bool _,RcNeAt.none_bool _⟩
  | int b t=>exact ⟨RcAt.none_int _ _,RcNeAt.none_int _ _⟩
  | str b t=>exact ⟨RcAt.none_str _ _,RcNeAt.none_str _ _⟩
  | lst hl _ _=>exact ⟨RcAt.none_list hl hu0,RcNeAt.none_list hl hu0⟩
  | tup hl _ _=>exact ⟨RcAt.none_tuple hl hu0,RcNeAt.none_tuple hl hu0⟩
 | bl a =>
  cases w' with
  | non=>exact ⟨RcAt.bool_none _,RcNeAt.bool_none _⟩
  | bl b=>exact ⟨RcAt.bool_bool _ _,RcNeAt.bool_bool _ _⟩
  | int b t=>exact ⟨RcAt.bool_int _ _ _,RcNeAt.bool_int _ _ _⟩
  | str b t=>exact ⟨RcAt.bool_str _ _ _,RcNeAt.bool_str _ _ _⟩
  | lst hl _ _=>exact ⟨RcAt.bool_list _ hl hu0,RcNeAt.bool_list _ hl hu0⟩
  | tup hl _ _=>exact ⟨RcAt.bool_tuple _ hl hu0,RcNeAt.bool_tuple _ hl hu0⟩
 | int a t =>
  cases w' with
  | non=>exact ⟨RcAt.int_none _ _,RcNeAt.int_none _ _⟩
  | bl b=>exact ⟨RcAt.int_bool _ _ _,RcNeAt.int_bool _ _ _⟩
  | int b t=>exact ⟨RcAt.int_int _ _ _ _,RcNeAt.int_int _ _ _ _⟩
  | str b t=>exact ⟨RcAt.int_str _ _ _ _,RcNeAt.int_str _ _ _ _⟩
  | lst hl _ _=>exact ⟨RcAt.int_list _ _ hl hu0,RcNeAt.int_list _ _ hl hu0⟩
  | tup hl _ _=>exact ⟨RcAt.int_tuple _ _ hl hu0,RcNeAt.int_tuple _ _ hl hu0⟩
 | str a t =>
  cases w' with
  | non=>exact ⟨RcAt.str_none _ _,RcNeAt.str_none _ _⟩
  | bl b=>exact ⟨RcAt.str_bool _ _ _,RcNeAt.str_bool _ _ _⟩
  | int b t=>exact ⟨RcAt.str_int _ _ _ _,RcNeAt.str_int _ _ _ _⟩
  | str b t=>exact ⟨RcAt.str_str _ _ _ _,RcNeAt.str_str _ _ _ _⟩
  | lst hl _ _=>exact ⟨RcAt.str_list _ _ hl hu0,RcNeAt.str_list _ _ hl hu0⟩
  | tup hl _ _=>exact ⟨RcAt.str_tuple _ _ hl hu0,RcNeAt.str_tuple _ _ hl hu0⟩
 | @lst ds l its vs hl rv hi =>
  cases w' with
  | non=>exact ⟨RcAt.list_none hl hu0,RcNeAt.list_none hl hu0⟩
  | bl b=>exact ⟨RcAt.list_bool _ hl hu0,RcNeAt.list_bool _ hl hu0⟩
  | int b t=>exact ⟨RcAt.list_int _ _ hl hu0,RcNeAt.list_int _ _ hl hu0⟩
  | str b t=>exact ⟨RcAt.list_str _ _ hl hu0,RcNeAt.list_str _ _ hl hu0⟩
  | @lst es l' its' vs' hl' rv' hi' =>
   have f':cY n ds = true:=by simpa [bA] using f
   have g':cY n es = true:=by simpa [bA] using g
   have l1:=rv.length
   have l2:=rv'.length
   have l3:=hi.length
   have l4:=hi'.length
   by_cases hq:ds.length = es.length
   ·have hsz:its.toArray.size = its'.toArray.size:=by rw [List.size_toArray,List.size_toArray];omega
    have key:(List.range its.toArray.size).all (fun j=>deq (ds.getD j .non) (es.getD j .non)) = deq (.lst ds) (.lst es):=by
     rw [List.size_toArray,show its.length = ds.length by omega]
     exact qK ds es hq
    rw [← key]
    exact ⟨RcAt.lists hl hl' hsz hu0 (nR hu1 ih f' g' hi hi' rv rv'),RcNeAt.lists hl hl' hsz hu0 (nR hu1 ih f' g' hi hi' rv rv')⟩
   ·have key:deq (.lst ds) (.lst es) = false:=wK ds es hq
    have hsz:(its.toArray.size != its'.toArray.size) = true:=by
     rw [List.size_toArray,List.size_toArray,bne_iff_ne];omega
    rw [key]
    exact ⟨RcAt.lists_lengths hl hl' hsz hu0,RcNeAt.lists_lengths hl hl' hsz hu0⟩
  | tup hl' _ _=>exact ⟨RcAt.list_tuple hl hl' hu0,RcNeAt.list_tuple hl hl' hu0⟩
 | @tup ds l its vs hl rv hi =>
  cases w' with
  | non=>exact ⟨RcAt.tuple_none hl hu0,RcNeAt.tuple_none hl hu0⟩
  | bl b=>exact ⟨RcAt.tuple_bool _ hl hu0,RcNeAt.tuple_bool _ hl hu0⟩
  | int b t=>exact ⟨RcAt.tuple_int _ _ hl hu0,RcNeAt.tuple_int _ _ hl hu0⟩
  | str b t=>exact ⟨RcAt.tuple_str _ _ hl hu0,RcNeAt.tuple_str _ _ hl hu0⟩
  | lst hl' _ _=>exact ⟨RcAt.tuple_list hl hl' hu0,RcNeAt.tuple_list hl hl' hu0⟩
  | @tup es l' its' vs' hl' rv' hi' =>
   have f':cY n ds = true:=by simpa [bA] using f
   have g':cY n es = true:=by simpa [bA] using g
   have l1:=rv.length
   have l2:=rv'.length
   have l3:=hi.length
   have l4:=hi'.length
   have key:((List.range (min its.toArray.size its'.toArray.size)).all (fun j=>deq (ds.getD j .non) (es.getD j .non)) && its.toArray.size == its'.toArray.size) = deq (.tup ds) (.tup es):=by
    rw [List.size_toArray,List.size_toArray,show its.length = ds.length by omega,show its'.length = es.length by omega]
    show _ = xG ds es
    by_cases hq:ds.length = es.length
    ·rw [← hq,Nat.min_self,qK ds es hq]
     simp
    ·rw [wK ds es hq,beq_eq_false_iff_ne.mpr hq]
     simp
   rw [← key]
   exact ⟨RcAt.tuples hl hl' hu0 (nR hu1 ih f' g' hi hi' rv rv'),RcNeAt.tuples hl hl' hu0 (nR hu1 ih f' g' hi hi' rv rv')⟩
open PySem.SeqAt in
theorem Is.eqAt (I:Inv X pins σ H s):∀ (n:Nat) (d e:Dv) (v v':V) (u u':Value) (A:Around),A.units + n < cLine → bA n d = true → bA n e = true → Is H d v → Is H e v' → bM v u → bM v' u' → EqAt A s u u' (deq d e):=by
 intro n
 induction n with
 | zero =>
  intro d e v v' u u' A hu f g h h' r r'
  cases d with
  | lst _=>simp [bA] at f
  | tup _=>simp [bA] at f
  | dct _ _=>simp [bA] at f
  | non =>
   cases e with
   | lst _=>simp [bA] at g
   | tup _=>simp [bA] at g
   | dct _ _=>simp [bA] at g
   | _=>cases h;cases h';exact nU r r' rfl rfl
  | bl b =>
   cases e with
   | lst _=>simp [bA] at g
   | tup _=>simp [bA] at g
   | dct _ _=>simp [bA] at g
   | _=>cases h;cases h';exact nU r r' rfl rfl
  | int b =>
   cases e with
   | lst _=>simp [bA] at g
   | tup _=>simp [bA] at g
   | dct _ _=>simp [bA] at g
   | _=>cases h;cases h';exact nU r r' rfl rfl
  | str b =>
   cases e with
   | lst _=>simp [bA] at g
   | tup _=>simp [bA] at g
   | dct _ _=>simp [bA] at g
   | _=>cases h;cases h';exact nU r r' rfl rfl
 | succ n ih =>
  intro d e v v' u u' A hu f g h h' r r'
  have rc:=(aHS I ih d e v v' u u' A hu f g h h' r r').1
  have w:=Is.view I f h r
  have w':=Is.view I g h' r'
  have fin:∀ (l l':Addr),u = .ref l → u' = .ref l' → EqAt A s u u' (deq d e):=by
   rintro l l' rfl rfl
   by_cases hq:l = l'
   ·subst hq
    have e1:v = .ref l:=r.inj (show bM (.ref l) (.ref l) from rfl)
    have e2:v' = .ref l:=r'.inj (show bM (.ref l) (.ref l) from rfl)
    subst e1 e2
    have e3:=Is.inj d e _ h h' ⟨_,f⟩ ⟨_,g⟩
    subst e3
    rw [wJ _ d f]
    exact EqAt.same _
   ·exact EqAt.of_refs hq rc
  cases w with
  | lst hl _ _ =>
   cases w' with
   | lst hl' _ _=>exact fin _ _ rfl rfl
   | tup hl' _ _=>exact fin _ _ rfl rfl
   | non=>exact EqAt.list_none hl (by omega)
   | bl b=>exact EqAt.list_bool _ hl (by omega)
   | int b t=>exact EqAt.list_int _ _ hl (by omega)
   | str b t=>exact EqAt.list_str _ _ hl (by omega)
  | tup hl _ _ =>
   cases w' with
   | lst hl' _ _=>exact fin _ _ rfl rfl
   | tup hl' _ _=>exact fin _ _ rfl rfl
   | non=>exact EqAt.tuple_none hl (by omega)
   | bl b=>exact EqAt.tuple_bool _ hl (by omega)
   | int b t=>exact EqAt.tuple_int _ _ hl (by omega)
   | str b t=>exact EqAt.tuple_str _ _ hl (by omega)
  | non =>
   cases w' with
   | lst hl' _ _=>exact EqAt.none_list hl' (by omega)
   | tup hl' _ _=>exact EqAt.none_tuple hl' (by omega)
   | _=>cases h;cases h';exact nU r r' rfl rfl
  | bl b =>
   cases w' with
   | lst hl' _ _=>exact EqAt.bool_list _ hl' (by omega)
   | tup hl' _ _=>exact EqAt.bool_tuple _ hl' (by omega)
   | _=>cases h;cases h';exact nU r r' rfl rfl
  | int b t =>
   cases w' with
   | lst hl' _ _=>exact EqAt.int_list _ _ hl' (by omega)
   | tup hl' _ _=>exact EqAt.int_tuple _ _ hl' (by omega)
   | _=>cases h;cases h';exact nU r r' rfl rfl
  | str b t =>
   cases w' with
   | lst hl' _ _=>exact EqAt.str_list _ _ hl' (by omega)
   | tup hl' _ _=>exact EqAt.str_tuple _ _ hl' (by omega)
   | _=>cases h;cases h';exact nU r r' rfl rfl
end
def aLY (neg:Bool):R2:=fun x y H Q=>∃ d e,Is H d x ∧ Is H e y ∧ bA 30 d = true ∧ bA 30 e = true ∧ Q (.bl (if neg then !deq d e else deq d e)) H
theorem aMC {X:Cx} (hu:X.A.units + 64 < cLine):OpR X (compareOp .Eq) (aLY false):=by
 intro pins s σ H x y v u Q I rx ry h
 obtain ⟨d,e,h,h',f,g,q⟩:=h
 exact (aHS (n:=29) I (Is.eqAt I 29) d e x y v u X.A (by omega) f g h h' rx ry).1 _ _ _ _ ⟨.bl _,H,I,rfl,q⟩
theorem zC {X:Cx} (hu:X.A.units + 64 < cLine):OpR X (compareOp .NotEq) (aLY true):=by
 intro pins s σ H x y v u Q I rx ry h
 obtain ⟨d,e,h,h',f,g,q⟩:=h
 exact (aHS (n:=29) I (Is.eqAt I 29) d e x y v u X.A (by omega) f g h h' rx ry).2 _ _ _ _ ⟨.bl _,H,I,rfl,q⟩
end L2
namespace L2
open PySem PySem.Spec PyProof.Rows
instance keyMem (k:Key) (l:List Key):Decidable (k ∈ l):=decidable_of_iff (l.any (fun x=>decide (x = k)) = true) (by simp)
def fL (key:Nat → Key):Nat → List Key
 | 0=>[]
 | i + 1=>if key i ∈ fL key i then fL key i else fL key i ++ [key i]
theorem tY (key:Nat → Key):∀ i,(fL key i).length ≤ i
 | 0=>Nat.le_refl _
 | i + 1=>by
  have ih:=tY key i
  show (if key i ∈ fL key i then fL key i else fL key i ++ [key i]).length ≤ i + 1
  split
  ·omega
  ·rw [List.length_append,List.length_singleton];omega
theorem aBU (key:Nat → Key) (k:Key):∀ i,k ∈ fL key i ↔ ∃ j,j < i ∧ key j = k
 | 0=>by
  constructor
  ·intro h;cases h
  ·rintro ⟨j,h,_⟩;omega
 | i + 1=>by
  have ih:=aBU key k i
  show k ∈ (if key i ∈ fL key i then fL key i else fL key i ++ [key i]) ↔ _
  have step:(k ∈ fL key i ∨ k = key i) ↔ ∃ j,j < i + 1 ∧ key j = k:=by
   rw [ih]
   constructor
   ·rintro (⟨j,h,e⟩ | e)
    ·exact ⟨j,by omega,e⟩
    ·exact ⟨i,by omega,e.symm⟩
   ·rintro ⟨j,h,e⟩
    by_cases hj:j = i
    ·subst hj;exact .inr e.symm
    ·exact .inl ⟨j,by omega,e⟩
  rw [← step]
  split
  ·rename_i h
   constructor
   ·exact .inl
   ·rintro (h' | rfl)
    ·exact h'
    ·exact h
  ·rw [List.mem_append,List.mem_singleton]
theorem xS (key:Nat → Key):∀ n,(fL key n).length = n ↔ ∀ i j,i < j → j < n → key i ≠ key j
 | 0=>⟨fun _ i j _ h=>absurd h (Nat.not_lt_zero _),fun _=>rfl⟩
 | n + 1=>by
  have ih:=xS key n
  have le:=tY key n
  have mm:=aBU key (key n) n
  show (if key n ∈ fL key n then fL key n else fL key n ++ [key n]).length = n + 1 ↔ _
  split
  ·rename_i h
   constructor
   ·intro e;omega
   ·intro e
    obtain ⟨j,hj,q⟩:=mm.mp h
    exact absurd q (e j n hj (Nat.lt_succ_self n))
  ·rename_i h
   rw [List.length_append,List.length_singleton,Nat.add_right_cancel_iff,ih]
   constructor
   ·intro e i j hi hj
    by_cases q:j = n
    ·subst q
     exact fun z=>h (mm.mpr ⟨i,hi,z⟩)
    ·exact e i j hi (by omega)
   ·intro e i j hi hj
    exact e i j hi (by omega)
def xH (ks:List Key):List Key:=fL (fun i=>ks.getD i (.inl 0)) ks.length
theorem aGG (ks:List Key):(xH ks).length = ks.length ↔ ks.Nodup:=by
 unfold xH
 rw [xS,List.nodup_iff_pairwise_ne,List.pairwise_iff_getElem]
 constructor
 ·intro h i j hi hj hij
  have:=h i j hij hj
  simpa [List.getD_eq_getElem?_getD,hi,hj] using this
 ·intro h i j hij hj
  have hi:i < ks.length:=by omega
  have:=h i j hi hj hij
  simpa [List.getD_eq_getElem?_getD,hi,hj] using this
theorem aKN (ks:List Key):(xH ks).length ≤ ks.length:=tY _ _
def aGL (P:Program) (w:World) (a:Addr) (S:Key → Bool) (n:Nat):HO:=.ext fun h=>h.SetOf (bB P w) a S n
theorem aGL.ok {P:Program} {w:World} {H:Hp} {h:Heap} {a:Addr} {S:Key → Bool} {n:Nat} (x:h.SetOf (bB P w) a S n):cW P w H h a (aGL P w a S n) :=
 ⟨x,let ⟨o,_,_,_,ho,_⟩:=x;⟨o,ho⟩,fun _ _ ⟨o,es,ep,t,ho,r⟩ k=>⟨o,es,ep,t,k o ho,r⟩⟩
theorem aIJ {P:Program} {w:World} {k:Key} {v:Value} (h:(bB P w).is k v = true):v.scannable = true:=by
 rcases dM h with ⟨i,t,rfl,rfl⟩ | ⟨x,t,rfl,rfl⟩ <;> rfl
section
variable {P:Program} {w:World} {A:Around} {R:Result → Shared → Prop} {I:Addr} {fp wr:List Addr} {G:Array GenState → Array GenState → Prop} {n:Nat} {Pv:Nat → Value → Prop} {Stt:Nat → Shared → Prop}
theorem aCS {h:Heap} {a:Addr} {S S':Key → Bool} {n n':Nat} (x:h.SetOf (bB P w) a S n) (e:∀ k,S k = S' k) (q:n = n'):h.SetOf (bB P w) a S' n':=by
 obtain rfl:S = S':=funext e
 subst q
 exact x
theorem aHN (W:WalksS P w A.in1 I fp wr G n Pv Stt) (D:Addr) (hD:D ∉ fp) (key:Nat → Key) (hv:∀ i v,Pv i v → (bB P w).is (key i) v = true) (hb:n + 1 < scanBound) (fin:∀ s s',Moved (D :: wr) G s s' → s'.heap.SetOf (bB P w) D (fun k=>decide (k ∈ fL key n)) (fL key n).length → True) :
  ∀ (m i:Nat) (s:Shared),n - i = m → i ≤ n → Stt i s → s.heap.SetOf (bB P w) D (fun k=>decide (k ∈ fL key i)) (fL key i).length →
   (∀ s',Moved (D :: wr) G s s' → s'.heap.SetOf (bB P w) D (fun k=>decide (k ∈ fL key n)) (fL key n).length → R (.ok (.ret .none)) s') →
   codeAny (model P w) A (.builtin "set.update.loop" ⟨[.ref D,.ref I],[]⟩) R s:=by
 have hDw:D ∉ wr:=fun z=>hD (W.sub _ z)
 have sub:∀ b ∈ wr,b ∈ D :: wr:=fun b z=>List.mem_cons_of_mem _ z
 have moved:∀ {s s':Shared} {S:Key → Bool} {c:Nat},Moved wr G s s' → s.heap.SetOf (bB P w) D S c → s'.heap.SetOf (bB P w) D S c:=fun mv ⟨o,es,ep,t,ho,r⟩=>⟨o,es,ep,t,mv.heap D _ hDw ho,r⟩
 intro m
 induction m with
 | zero =>
  intro i s e1 e2 st hS hR
  obtain rfl:i = n:=by omega
  refine codeAny_builtin PyProof.Rows.F.entry_set_update_loop ?_
  rw [Around.under_plainId PyProof.Rows.F.plain_set_update_loop _]
  show wpAny _ A.in1 (pyNext (.ref I) >>= _) _ _ s
  refine wpAny_bind (W.done s _ _ st fun s' mv=>?_)
  exact wpAny_pure (hR s' (mv.mono sub) (moved mv hS))
 | succ m ih =>
  intro i s e1 e2 st hS hR
  have lt:i < n:=by omega
  refine codeAny_builtin PyProof.Rows.F.entry_set_update_loop ?_
  rw [Around.under_plainId PyProof.Rows.F.plain_set_update_loop _]
  show wpAny _ A.in1 (pyNext (.ref I) >>= _) _ _ s
  refine wpAny_bind (W.item i s _ _ lt st fun v s' pv st' mv=>?_)
  have hk:=hv i v pv
  have hS1:=moved mv hS
  show wpAny _ A.in1 (holding [v] (setAdd D v) >>= _) _ _ s'
  refine wpAny_bind (wpAny_holding ?_)
  unfold setAdd
  refine wpAny_holding (wpAny_bind ((bB P w).pyHash (k:=key i) hk ?_))
  have room:(fL key i).length + 1 < scanBound:=by have:=tY key i;omega
  refine wpAny_setAddHashed_of (knd:=bB P w) (s:={ s' with toks:=s'.toks + 1 }) hk (aIJ hk) hS1 room fun h' sb hS2=>?_
  have hS3:h'.SetOf (bB P w) D (fun k=>decide (k ∈ fL key (i + 1))) (fL key (i + 1)).length:=by
   refine aCS hS2 (fun k=>?_) ?_
   ·show (decide (k ∈ fL key i) || decide (k = key i)) = decide (k ∈ if key i ∈ fL key i then fL key i else fL key i ++ [key i])
    by_cases z:key i ∈ fL key i
    ·rw [if_pos z]
     by_cases y:k = key i
     ·subst y;simp [z]
     ·simp [y]
    ·rw [if_neg z]
     simp
   ·show (if decide (key i ∈ fL key i) = true then (fL key i).length else (fL key i).length + 1) = (if key i ∈ fL key i then fL key i else fL key i ++ [key i]).length
    by_cases z:key i ∈ fL key i
    ·rw [if_pos z,if_pos (decide_eq_true z)]
    ·rw [if_neg z,if_neg (by simpa using z)]
     simp
  refine wpAny_pure ⟨plainId_quiet PyProof.Rows.F.plain_set_update_loop _,ih (i + 1) _ (by omega) lt (W.frame _ s' _ _ st' (Nat.le_succ _) fun b hb o e=>?_) hS3 fun s2 mv2 hS4=>?_⟩
  ·rw [sb.2 b (fun z:b = D=>hD (by rw [← z];exact hb))]
   exact e
  ·refine hR s2 (Moved.trans W.gtrans ((mv.mono sub).then_heap (Nat.le_succ _) fun b o hb e=>?_) mv2) hS4
   rw [sb.2 b (fun z:b = D=>hb (by rw [z];exact List.mem_cons_self))]
   exact e
end
section
variable {P:Program} {w:World} {A:Around} {E:Value → Shared → Prop} {s:Shared}
abbrev vT (led:Bool):Obj:={ cls:=.type "set",dict:=none,data:=.set #[] 0 (.fresh 0 0 led) }
set_option maxHeartbeats 8000000 in
theorem aAS {l:Addr} {its:List Value} {ks:List Key} {Q:Value → Shared → Prop} (hh:A.handled = none) (hl:s.heap.IsList l its.toArray) (hk:∀ i v,its[i]? = some v → (bB P w).is (ks.getD i (.inl 0)) v = true) (hn:its.length = ks.length) (hb:its.length + 1 < scanBound)
  (h:∀ (h':Heap) (tk:Nat),h'.SetOf (bB P w) s.heap.objs.size (fun k=>decide (k ∈ xH ks)) (xH ks).length → (∀ b o,s.heap.get? b = some o → h'.get? b = some o) → Q (.ref s.heap.objs.size) { s with heap:=h',toks:=tk }) :
  wpAny (model P w) A (call (.type "set") [.ref l]) Q E s:=by
 obtain ⟨c,tl,hmro⟩:=PySem.F.called_set.mro
 have m1:=PySem.F.called_set.made
 have m2:=PySem.F.called_set.sub
 refine wpAny_call (codeAny_of_tree ?_)
 show wpAny _ _ (callAny (.type "set") _) _ _ _
 refine wpAny_pure ⟨Code.quiet_builtin _ (by decide +kernel),codeAny_builtin PySem.F.entry_type_call ?_⟩
 rw [Around.under_plain (weight_type_call_type "set" [.ref l] []) rfl]
 have m3:=PySem.F.called_set.notType
 have m4:=PySem.F.called_set.canCreate
 have m5:=PySem.F.typeCall_set_1 (.ref l)
 repeat (any_goals (first | assumption | wp_step))
 refine codeAny_mono (code_set_new_1 (.ref l) (E:=E) (Q₁:=fun ob s1=>∃ led:Bool,ob = .ref s.heap.objs.size ∧ s1 = { s with heap:=s.heap.push (vT led) }) fun led=>⟨led,rfl,rfl⟩) fun r s1 hr=>?_
 cases r with
 | error e=>exact hr
 | ok fl =>
  cases fl with
  | ret ob =>
   obtain ⟨led,rfl,rfl⟩:=hr
   have hS:(s.heap.push (vT led)).get? s.heap.objs.size = some (vT led):=Heap.get?_push_size _ rfl
   have hT:Shared.TypeIs { s with heap:=s.heap.push (vT led) } (.ref s.heap.objs.size) "set":=⟨_,hS,rfl⟩
   have m6:=PySem.F.called_set.init.lookup
   have m7:=PySem.F.called_set.init.bind (.ref s.heap.objs.size)
   repeat (any_goals (first | assumption | wp_step))
   refine codeAny_mono (codeAny_call_builtin (R:=wants (fun r s2=>r = .none ∧ ∃ h' tk,s2 = { s with heap:=h',toks:=tk } ∧ h'.SetOf (bB P w) s.heap.objs.size (fun k=>decide (k ∈ xH ks)) (xH ks).length ∧ (∀ b o,s.heap.get? b = some o → h'.get? b = some o)) E)
    PySem.F.called_set.init.plain PySem.F.entry_set_init (check_set_init_1 hT ?_)) fun r2 s2 hr2=>?_
   ·obtain ⟨⟨oc,od,oda,osl⟩,hol,hcl,nl,hdl⟩:=hl
    simp only at hcl hdl
    subst hcl hdl
    have hol1:(s.heap.push (vT led)).get? l = some { cls:=.type "list",dict:=od,data:=.seq its.toArray nl,slots:=osl }:=Heap.get?_push_of_some _ hol
    have m8:=PySem.F.sub_list_set
    have m9:=PySem.F.sub_list_frozenset
    have m10:(Value.type "list" == Value.type "dict") = false:=by decide
    have hl1:(s.heap.push (vT led)).IsList l its.toArray:=⟨_,hol1,rfl,nl,rfl⟩
    have lS:l < s.heap.objs.size:=Heap.lt_size hol
    unfold Builtin.«set.__init__» noKeywords Builtin.Frozenset.updateFrom
    generalize hPI:pyIter = PI
    wp_walk
    subst hPI
    refine wpAny_pyIter_list hl1 (wpAny_bind (wpAny_runValue ?_))
    have hh3:A.in1.in1.in1.handled = none:=by simp [hh]
    have nI:l ≠ (s.heap.push (vT led)).objs.size:=by rw [Heap.size_push];exact Nat.ne_of_lt (Nat.lt_succ_of_lt lS)
    have nS:s.heap.objs.size ∉ [(s.heap.push (vT led)).objs.size,l]:=by
     rw [Heap.size_push]
     simp only [List.mem_cons,List.mem_singleton,List.not_mem_nil,or_false,not_or]
     exact ⟨Nat.ne_of_lt (Nat.lt_succ_self _),Nat.ne_of_gt lS⟩
    have sz:its.toArray.size = ks.length:=by rw [List.size_toArray,hn]
    refine aHN ((Walks.list hh3 _ l nI its.toArray).toS) s.heap.objs.size nS (fun i=>ks.getD i (.inl 0)) (fun i v pv=>hk i v (by simpa using pv)) (by rw [List.size_toArray];exact hb) (fun _ _ _ _=>trivial) (its.toArray.size - 0) 0 _ (by omega) (Nat.zero_le _)
     ⟨⟨_,Heap.get?_push_size _ rfl,rfl,rfl⟩,(hl1.push _)⟩ ?_ ?_
    ·have g:((s.heap.push (vT led)).push { cls:=.type "list_iterator",data:=.fields #[.ref l,.int 0 0] }).get? s.heap.objs.size = some (vT led):=Heap.get?_push_of_some _ hS
     exact ⟨_,#[],0,_,g,⟨rfl,rfl,rfl⟩,rfl,fun e he=>by simp at he,fun k=>by simp [fL],by decide,by rfl,rfl⟩
    ·intro s3 mv hS3
     obtain ⟨h3,g3,d3,t3,o3⟩:=s3
     have e1:g3 = s.gens:=mv.gens
     have e2:d3 = s.drawn:=mv.drawn
     have e3:o3 = s.os:=mv.os
     subst e1 e2 e3
     rw [sz] at hS3
     show wpAny _ _ _ _ _ _
     refine wpAny_pure ?_
     show wpAny _ _ (ret Value.none) _ _ _
     refine wpAny_pure ⟨rfl,h3,t3,rfl,hS3,fun b o e=>?_⟩
     have lb:=Heap.lt_size e
     have b1:b ≠ s.heap.objs.size:=Nat.ne_of_lt lb
     have b2:b ≠ (s.heap.push (vT led)).objs.size:=by rw [Heap.size_push];exact Nat.ne_of_lt (Nat.lt_succ_of_lt lb)
     exact mv.heap b o (by simp only [List.mem_cons,List.mem_singleton,List.not_mem_nil,or_false,not_or];exact ⟨b1,b2⟩) (Heap.get?_push_of_some _ (Heap.get?_push_of_some _ e))
   ·cases r2 with
    | error e=>exact hr2
    | ok f2 =>
     cases f2 with
     | ret r =>
      obtain ⟨rfl,h',tk,rfl,hS2,hk2⟩:=hr2
      repeat (any_goals (first | assumption | wp_step))
      exact h _ _ hS2 hk2
     | _=>exact hr2.elim
  | _=>exact hr.elim
end
section
variable {X:Cx}
theorem aEU {P:Program} {w:World}:∀ {ks:List Key} {us:List Value},bS (ks.map kV) us → ∀ i v,us[i]? = some v → (bB P w).is (ks.getD i (.inl 0)) v = true
 | [],us,r,i,v,e=>by
  rw [List.map_nil] at r
  cases r
  simp at e
 | k :: ks,us,r,i,v,e=>by
  rw [List.map_cons] at r
  cases r with
  | cons r1 r2 =>
   cases i with
   | zero =>
    simp at e
    subst e
    cases k with
    | inl z=>obtain ⟨t,rfl⟩:=r1;exact sB z t
    | inr z=>obtain ⟨t,rfl⟩:=r1;exact rZ z t
   | succ i =>
    have:=aEU (P:=P) (w:=w) r2 i v (by simpa using e)
    simpa using this
theorem xI (hc:X.calm = true):iF X (.type "set") (fun xs H Q=>∃ (p:Addr) (ks:List Key),xs = [.ref p] ∧ SqL X.K H p (ks.map kV) ∧ ks.length ≤ 1000 ∧
  ∀ l,H l = none → Q (.ref l) (upd H l (aGL X.prog X.w l (fun k=>decide (k ∈ xH ks)) (xH ks).length))):=by
 intro pins s σ H xs us Q I r h
 obtain ⟨p,ks,rfl,hq,hn,q⟩:=h
 obtain ⟨u,rfl,ru⟩:=bS.one r
 cases ru
 obtain ⟨its,rv,pl,hz⟩:=I.list hq
 have hlen:=rv.length
 rw [List.length_map] at hlen
 refine aAS (ks:=ks) (I.ok.hd hc) pl.isList (aEU rv) hlen.symm (by unfold scanBound;omega) fun h' tk hS hk=>?_
 exact ⟨.ref s.heap.objs.size,_,I.laid (t':=tk) hk (Nat.le_refl _) (aGL.ok hS),rfl,q _ (I.hok.fresh (Nat.le_refl _))⟩
theorem call_len_set:iF X (.builtin "len") (fun xs H Q=>∃ l S n,xs = [.ref l] ∧ H l = some (aGL X.prog X.w l S n) ∧ n ≤ 1000 ∧ Q (.int n) H):=by
 intro pins s σ H xs us Q I r h
 obtain ⟨l,S,n,rfl,e,hn,q⟩:=h
 obtain ⟨u,rfl,ru⟩:=bS.one r
 cases ru
 obtain ⟨⟨o,es,ep,t,ho,hex,hd,hel,hmem,hb,hf,hes⟩,_⟩:=I.hok l _ e
 refine PySem.call_len_set ho hex hd hf (by rw [hes];omega) ⟨.int n,H,I.tok _,⟨s.toks + 1,by rw [hes]⟩,q⟩
end
end L2
namespace L2
open PySem PySem.Spec PyProof.Rows
section
variable {X:Cx}
theorem sA {k:Key} {v:Value} (h:sR k v = true):bM (kV k) v:=by
 rcases dM h with ⟨i,t,rfl,rfl⟩ | ⟨x,t,rfl,rfl⟩
 ·exact ⟨t,rfl⟩
 ·exact ⟨t,rfl⟩
theorem yO:∀ {xs:List V} {us:List Value},us.length = xs.length → (∀ (j:Nat) (u:Value) (x:V),us[j]? = some u → xs[j]? = some x → bM x u) → bS xs us
 | [],[],_,_=>.nil
 | x :: xs,u :: us,hl,h=>.cons (h 0 u x rfl rfl) (yO (by simpa using hl) fun j v y e1 e2=>h (j + 1) v y (by simpa using e1) (by simpa using e2))
 | [],_ :: _,hl,_=>by simp at hl
 | _ :: _,[],hl,_=>by simp at hl
theorem KV.get:∀ {kvs:List (Key × V)} {vs:List (Key × Value)} {i:Nat} {p:Key × Value},KV kvs vs → vs[i]? = some p → ∃ q,kvs[i]? = some q ∧ q.1 = p.1 ∧ bM q.2 p.2
 | _,_,_,_,.nil,e=>by simp at e
 | _,_,0,_,.cons r _,e=>by simp at e;subst e;exact ⟨_,rfl,r.1,r.2⟩
 | _,_,i + 1,p,.cons _ t,e=>by
  obtain ⟨q,h1,h2⟩:=KV.get (i:=i) (p:=p) t (by simpa using e)
  exact ⟨q,by simpa using h1,h2⟩
theorem pE (hc:X.calm = true):iF X (.type "list") (fun xs H Q=>∃ p kvs,xs = [.ref p] ∧ Rd H p (.dK kvs) ∧ ∀ l,H l = none → Q (.ref l) (upd H l (.lst (kvs.map fun kv=>kV kv.1)))):=by
 intro pins s σ H xs us Q I r h
 obtain ⟨p,kvs,rfl,hq,q⟩:=h
 obtain ⟨u,rfl,ru⟩:=bS.one r
 cases ru
 obtain ⟨hz,lo,vs,kv,hD⟩:=hq.ok I.hok
 obtain ⟨ep,hat⟩:=hD.dictAt
 have hl:=KV.length kv
 refine PySem.W.kdl_call (PySem.W.kdl_dict (knd:=bB X.prog X.w) (kvs:=vs) (ep:=ep) lo) (I.ok.hd hc) hat (by omega) fun h' tk acc c hk hg hi=>?_
 refine ⟨.ref s.heap.objs.size,_,I.laid (t':=tk) hk (Nat.le_refl _) (show cW X.prog X.w _ h' _ (.lst (kvs.map fun kv=>kV kv.1)) from ⟨by rw [List.length_map];exact hz,acc.toList,c,?_,by simpa using hg⟩),rfl,q _ (I.hok.fresh (Nat.le_refl _))⟩
 refine yO (by rw [List.length_map,Array.length_toList,hi.1,hl]) fun j u x e1 e2=>?_
 obtain ⟨k,y,e3,e4⟩:=hi.2 j u (by rw [← Array.getElem?_toList];exact e1)
 obtain ⟨z,e5,e6,_⟩:=KV.get kv e3
 rw [List.getElem?_map,e5] at e2
 have e2':kV z.1 = x:=by simpa using e2
 subst e2'
 rw [show z.1 = k from e6]
 exact sA e4
def aCK (v d:Addr):HO:=.ext fun h=>h.IsValuesView v d
theorem aCK.ok {P:Program} {w:World} {H:Hp} {h:Heap} {v d:Addr} (x:h.IsValuesView v d):cW P w H h v (aCK v d) :=
 ⟨x,let ⟨o,ho,_⟩:=x;⟨o,ho⟩,fun _ _ ⟨o,ho,r⟩ k=>⟨o,k o ho,r⟩⟩
theorem xR:MtR X "dict.values" (fun x vs H Q=>∃ d kvs,x = .ref d ∧ vs = [] ∧ Rd H d (.dK kvs) ∧ ∀ v,H v = none → Q (.ref v) (upd H v (aCK v d))):=by
 intro pins s σ H x vs v us Q I rx rv h
 obtain ⟨d,kvs,rfl,rfl,hq,q⟩:=h
 cases rx
 have hus:=rv.zero
 subst hus
 obtain ⟨hz,lo,ws,kv,hD⟩:=hq.ok I.hok
 refine call_meetsIn PySem.F.slot_dict_values hD.typeIs PySem.F.entry_dict_values (PySem.F.args_dict_values_1 _) (meets_dict_values (bB X.prog X.w) d lo) ⟨⟨ws,hD⟩,?_⟩
 exact ⟨.ref s.heap.objs.size,_,I.laid (t':=s.toks) (fun b ob e=>Heap.get?_push_of_some _ e) (Nat.le_refl _) (aCK.ok ⟨_,Heap.get?_push_size _ rfl,rfl,rfl⟩),rfl,q _ (I.hok.fresh (Nat.le_refl _))⟩
theorem mW (hc:X.calm = true):iF X (.type "list") (fun xs H Q=>∃ v d kvs,xs = [.ref v] ∧ H v = some (aCK v d) ∧ Rd H d (.dK kvs) ∧ ∀ l,H l = none → Q (.ref l) (upd H l (.lst (kvs.map (·.2))))):=by
 intro pins s σ H xs us Q I r h
 obtain ⟨v,d,kvs,rfl,ev,hq,q⟩:=h
 obtain ⟨u,rfl,ru⟩:=bS.one r
 cases ru
 obtain ⟨hz,lo,vs,kv,hD⟩:=hq.ok I.hok
 obtain ⟨hv,_⟩:=I.hok v _ ev
 obtain ⟨ep,hat⟩:=hD.dictAt
 have hl:=KV.length kv
 refine PySem.W.kdl_call (PySem.W.kdl_values (knd:=bB X.prog X.w) (kvs:=vs) (ep:=ep)) (I.ok.hd hc) ⟨hv,hat⟩ (by omega) fun h' tk acc c hk hg hi=>?_
 refine ⟨.ref s.heap.objs.size,_,I.laid (t':=tk) hk (Nat.le_refl _) (show cW X.prog X.w _ h' _ (.lst (kvs.map (·.2))) from ⟨by rw [List.length_map];exact hz,acc.toList,c,?_,by simpa using hg⟩),rfl,q _ (I.hok.fresh (Nat.le_refl _))⟩
 refine yO (by rw [List.length_map,Array.length_toList,hi.1,hl]) fun j u x e1 e2=>?_
 obtain ⟨k,e3⟩:=hi.2 j u (by rw [← Array.getElem?_toList];exact e1)
 obtain ⟨z,e5,_,e6⟩:=KV.get kv e3
 rw [List.getElem?_map,e5] at e2
 have e2':z.2 = x:=by simpa using e2
 subst e2'
 exact e6
end
section
variable {X:Cx} {e se:Expr} {te ts:TE} {p2 pos:Pos}
end
end L2
namespace L2
open PySem PySem.Spec PyProof.Rows
theorem vU:typeLookup (.type "list") "keys" = pure none:=by rw [typeLookup_type,builtinLookup_eq_fast];kernel_rfl
section
variable {P:Program} {w:World} {A:Around} {E:Value → Shared → Prop} {s:Shared}
theorem zK {a:Addr} {xs:Array Value} {k:Nat} {sl:Array (Option Value)} {Q:Option Value → Shared → Prop} (hA:A.handled = none) (hx:s.heap.get? a = some { cls:=.type "list",dict:=none,data:=.seq xs k,slots:=sl })
  (h:∀ h' tk,(∀ b o,s.heap.get? b = some o → h'.get? b = some o) → Q none { s with heap:=h',toks:=tk }):wpAny (model P w) A (getAttr? (.ref a) "keys") Q E s:=by
 obtain ⟨hp,g,d,tk,os⟩:=s
 have hT:∀ tk',(⟨hp,g,d,tk',os⟩:Shared).TypeIs (.ref a) "list":=fun _=>⟨_,hx,rfl⟩
 have f1:=sub_AttributeError
 have f3:=F.slot_list_getattribute.lookup
 have f4:=F.slot_list_getattribute.bind (.ref a)
 have f5:=am_list_getattr_none
 unfold getAttr? getAttrBy? getAttrBy
 repeat (any_goals (first | assumption | exact hT _ | ((with_reducible show wpAny _ _ (call (Value.builtin "list.__getattribute__") _ _) _ _ _);refine call_meets F.slot_list_getattribute (hT _) am_entry_list_getattribute (F.args_list_getattribute_2 _ _) (meets_getattribute_miss_list a xs k sl "keys" _ vU (by decide +kernel)) ⟨hx,hA,fun h' tk' e hx'=>?_⟩) | wp_step))
 obtain ⟨t',u',he⟩:=hx'.there
 show wpAny _ _ (getattributeRaised _ _ _ _ _ _ _) _ _ _
 unfold getattributeRaised
 repeat (any_goals (first | assumption | wp_step))
 exact h _ _ hx'.keeps
end
theorem oH:entryFor table "dict.update.loop" = some Builtin.«dict.update.loop»:=entryFor_of_tree (by kernel_rfl)
theorem iI:plainId "dict.update.loop" = true:=by decide +kernel
section
variable {P:Program} {w:World} {A:Around} {R:Result → Shared → Prop} {I:Addr} {fp wr:List Addr} {G:Array GenState → Array GenState → Prop} {n:Nat} {Pv:Nat → Value → Prop} {Stt:Nat → Shared → Prop}
theorem aGF (W:WalksS P w A.in1 I fp wr G n Pv Stt) (D:Addr) (hD:D ∉ fp) (res:Value) (kvs:List (Key × Value)) (hn:kvs.length = n) (hz:n ≤ sizeLine) (s₀:Shared)
  (hv:∀ (i:Nat) (v:Value),Pv i v → ∃ (a:Addr) (k:Key) (kv x:Value) (ob:Obj) (c:Nat),v = .ref a ∧ a ∉ D :: wr ∧ s₀.heap.get? a = some ob ∧ ob.cls = .type "tuple" ∧ ob.data = .seq #[kv,x] c ∧ kvs[i]? = some (k,x) ∧ (bB P w).is k kv = true) :
  ∀ (m i:Nat) (s:Shared),n - i = m → i ≤ n → Stt i s → (∀ b o,b ∉ D :: wr → s₀.heap.get? b = some o → s.heap.get? b = some o) → s.heap.DictOf (bB P w) D (merged [] (kvs.take i)) →
   (∀ s',Moved (D :: wr) G s s' → s'.heap.DictOf (bB P w) D (merged [] kvs) → R (.ok (.ret res)) s') →
   codeAny (model P w) A (.builtin "dict.update.loop" ⟨[.ref D,.ref I,rawInt i,res],[]⟩) R s:=by
 have hDw:D ∉ wr:=fun z=>hD (W.sub _ z)
 have sub:∀ b ∈ wr,b ∈ D :: wr:=fun b z=>List.mem_cons_of_mem _ z
 have moved:∀ {s s':Shared} {l:List (Key × Value)},Moved wr G s s' → s.heap.DictOf (bB P w) D l → s'.heap.DictOf (bB P w) D l:=fun mv ⟨o,es,ep,ho,r⟩=>⟨o,es,ep,mv.heap D _ hDw ho,r⟩
 intro m
 induction m with
 | zero =>
  intro i s e1 e2 st kp hS hR
  obtain rfl:i = n:=by omega
  rw [List.take_of_length_le (by omega)] at hS
  refine codeAny_builtin oH ?_
  rw [Around.under_plainId iI _]
  show wpAny _ A.in1 (pyNext (.ref I) >>= _) _ _ s
  refine wpAny_bind (W.done s _ _ st fun s' mv=>?_)
  show wpAny _ A.in1 (Builtin.Dict.addKeywords D [] >>= _) _ _ s'
  refine wpAny_bind (wpAny_pure ?_)
  exact wpAny_pure (hR s' (mv.mono sub) (moved mv hS))
 | succ m ih =>
  intro i s e1 e2 st kp hS hR
  have lt:i < n:=by omega
  refine codeAny_builtin oH ?_
  rw [Around.under_plainId iI _]
  show wpAny _ A.in1 (pyNext (.ref I) >>= _) _ _ s
  refine wpAny_bind (W.item i s _ _ lt st fun v s' pv st' mv=>?_)
  obtain ⟨a,k,kv,x,ob,c,rfl,ha,hg,hc,hd,hi,hk⟩:=hv i v pv
  have hS1:=moved mv hS
  have hg1:s'.heap.get? a = some ob:=mv.heap a ob (fun z=>ha (sub a z)) (kp a ob ha hg)
  have hT:s'.TypeIs (.ref a) "tuple":=⟨ob,hg1,hc⟩
  refine wpAny_bind (wpAny_holding (wpAny_bind (wpAny_tryCatch ?_)))
  unfold Builtin.Dict.pairItems
  refine wpAny_bind (wpAny_typeOf hT ?_)
  rw [if_pos (by decide)]
  refine wpAny_bind (wpAny_seqItems hg1 hd (wpAny_pure ?_))
  show wpAny _ _ (holding [kv,x] (dictSet D kv x)) _ _ s'
  refine wpAny_holding (wpAny_dictSet_pairs hk hS1 (fun h' hS2 sb=>?_) ?_)
  ·have e:merged [] (kvs.take (i + 1)) = stored (merged [] (kvs.take i)) k x:=merged_take_succ [] kvs i (k,x) hi
   rw [← e] at hS2
   refine wpAny_pure ⟨plainId_quiet iI _,ih (i + 1) _ (by omega) lt (W.frame _ s' _ _ st' (Nat.le_succ _) fun b hb o e=>?_) (fun b o hb e=>?_) hS2 fun s2 mv2 hS4=>?_⟩
   ·rw [sb.2 b (fun z:b = D=>hD (by rw [← z];exact hb))]
    exact e
   ·rw [sb.2 b (fun z:b = D=>hb (by rw [z];exact List.mem_cons_self))]
    exact mv.heap b o (fun z=>hb (sub b z)) (kp b o hb e)
   ·refine hR s2 (Moved.trans W.gtrans ((mv.mono sub).then_heap (Nat.le_succ _) fun b o hb e=>?_) mv2) hS4
    rw [sb.2 b (fun z:b = D=>hb (by rw [z];exact List.mem_cons_self))]
    exact e
  ·have:=merged_length_le ([]:List (Key × Value)) (kvs.take i)
   rw [List.length_take] at this
   simp only [List.length_nil] at this
   omega
end
section
variable {P:Program} {w:World} {A:Around} {E:Value → Shared → Prop} {s:Shared}
theorem xF {l:Addr} {its:List Value} {kvs:List (Key × Value)} {Q:Value → Shared → Prop} (hh:A.handled = none) (hl:PlainL s.heap l its.toArray) (hn:its.length = kvs.length) (hz:its.length ≤ sizeLine)
  (hv:∀ (i:Nat) (v:Value),its[i]? = some v → ∃ (a:Addr) (k:Key) (kv x:Value) (ob:Obj) (c:Nat),v = .ref a ∧ s.heap.get? a = some ob ∧ ob.cls = .type "tuple" ∧ ob.data = .seq #[kv,x] c ∧ kvs[i]? = some (k,x) ∧ (bB P w).is k kv = true)
  (h:∀ (h':Heap) (tk:Nat),h'.DictOf (bB P w) s.heap.objs.size (merged [] kvs) → (∀ b o,s.heap.get? b = some o → h'.get? b = some o) → Q (.ref s.heap.objs.size) { s with heap:=h',toks:=tk }) :
  wpAny (model P w) A (call (.type "dict") [.ref l]) Q E s:=by
 refine callType_codes (Q₁:=fun (obj:Value) (s₁:Shared)=>obj = Value.ref s.heap.objs.size ∧ s₁ = { s with heap:=s.heap.push { cls:=.type "dict",data:=.dict #[] } }) F.kt_called_dict (F.kt_typeCall_dict_1 _) F.entry_dict_init (kt_code_dict_new _ ⟨rfl,rfl⟩) ?_
 rintro obj s₁ ⟨rfl,rfl⟩
 have hnew:(s.heap.push { cls:=.type "dict",data:=.dict #[] }).DictOf (bB P w) s.heap.objs.size []:=Heap.DictOf.new s.heap
 obtain ⟨⟨oc,od,oda,osl⟩,nl,hol,hcl,hod,hdl⟩:=id hl
 simp only at hcl hod hdl
 subst hcl hod hdl
 have lS:l < s.heap.objs.size:=Heap.lt_size hol
 have hol1:=Heap.get?_push_of_some (h:=s.heap) { cls:=.type "dict",data:=.dict #[] } hol
 refine ⟨hnew.typeIs,F.args_dict_init_2 _ _,?_⟩
 unfold Builtin.«dict.__init__»
 refine wpAny_bind ?_
 unfold Builtin.Dict.selfAndRest
 refine wpAny_bind (wpAny_notOrdered_dict hnew.typeIs ?_)
 show wpAny _ _ (pure (s.heap.objs.size,[Value.ref l])) _ _ _
 refine wpAny_pure ?_
 show wpAny _ _ (Builtin.Dict.updateFrom "dict.__init__" s.heap.objs.size (.ref l) [] .none) _ _ _
 unfold Builtin.Dict.updateFrom
 refine wpAny_bind (wpAny_typeOf (T:="list") ⟨_,hol1,rfl⟩ ?_)
 rw [if_pos (by decide)]
 refine wpAny_bind (zK (by simp [hh]) hol1 fun h1 t1 k1=>?_)
 show wpAny _ _ (rule _ >>= _) _ _ _
 refine wpAny_bind (wpAny_rule ?_)
 have hol2:=k1 _ _ hol1
 have hl2:h1.IsList l its.toArray:=⟨_,hol2,rfl,nl,rfl⟩
 refine wpAny_bind (wpAny_pyIter_list (s:={ s with heap:=h1,toks:=t1 }) hl2 ?_)
 have sz1:s.heap.objs.size < h1.objs.size:=by
  obtain ⟨o,es,ep,ho,_⟩:=hnew
  exact Heap.lt_size (k1 _ _ ho)
 have nI:l ≠ h1.objs.size:=Nat.ne_of_lt (Heap.lt_size hol2)
 have nD:s.heap.objs.size ∉ [h1.objs.size,l]:=by
  simp only [List.mem_cons,List.mem_singleton,List.not_mem_nil,or_false,not_or]
  exact ⟨Nat.ne_of_lt sz1,Nat.ne_of_gt lS⟩
 refine wpAny_pure ⟨plainId_quiet iI _,?_⟩
 have hh2:A.in1.in1.handled = none:=by simp [hh]
 refine aGF ((Walks.list hh2 _ l nI its.toArray).toS) s.heap.objs.size nD .none kvs (by rw [List.size_toArray,hn]) (by rw [List.size_toArray];exact hz) { s with heap:=h1.push { cls:=.type "list_iterator",data:=.fields #[.ref l,.int 0 0] },toks:=t1 } (fun i v pv=>?_) (its.toArray.size - 0) 0 _ (by omega) (Nat.zero_le _)
  ⟨⟨_,Heap.get?_push_size _ rfl,rfl,rfl⟩,(hl2.push _)⟩ (fun _ _ _ e=>e) ?_ ?_
 ·obtain ⟨a,k,kv,x,ob,c,rfl,hg,hc,hd,hi,hk⟩:=hv i v (by simpa using pv)
  have la:=Heap.lt_size hg
  refine ⟨a,k,kv,x,ob,c,rfl,?_,Heap.get?_push_of_some _ (k1 _ _ (Heap.get?_push_of_some _ hg)),hc,hd,hi,hk⟩
  simp only [List.mem_cons,List.mem_singleton,List.not_mem_nil,or_false,not_or]
  exact ⟨Nat.ne_of_lt la,Nat.ne_of_lt (Nat.lt_trans la sz1)⟩
 ·obtain ⟨o,es,ep,ho,r⟩:=hnew
  exact ⟨o,es,ep,Heap.get?_push_of_some _ (k1 _ _ ho),r⟩
 ·intro s3 mv hS3
  obtain ⟨h3,g3,d3,t3,o3⟩:=s3
  have e1:g3 = s.gens:=mv.gens
  have e2:d3 = s.drawn:=mv.drawn
  have e3:o3 = s.os:=mv.os
  subst e1 e2 e3
  refine ⟨rfl,h h3 t3 hS3 fun b o e=>?_⟩
  have lb:=Heap.lt_size e
  refine mv.heap b o ?_ (Heap.get?_push_of_some _ (k1 _ _ (Heap.get?_push_of_some _ e)))
  simp only [List.mem_cons,List.mem_singleton,List.not_mem_nil,or_false,not_or]
  exact ⟨Nat.ne_of_lt lb,Nat.ne_of_lt (Nat.lt_trans lb sz1)⟩
end
def cC (H:Hp) (ys:List V) (kvs:List (Key × V)):Prop:=Paired (fun (y:V) (kv:Key × V)=>∃ a,y = .ref a ∧ H a = some (.tup [kV kv.1,kv.2])) ys kvs
theorem cC.nil (H:Hp):cC H [] []:=Paired.nil
theorem cC.len {H:Hp} {ys:List V} {kvs:List (Key × V)} (h:cC H ys kvs):ys.length = kvs.length:=Paired.length h
theorem cC.same {H H':Hp} (S:aK H H'):∀ {ys:List V} {kvs:List (Key × V)},cC H ys kvs → cC H' ys kvs
 | _,_,Paired.nil=>Paired.nil
 | _,_,Paired.cons ⟨a,e,o⟩ t=>Paired.cons ⟨a,e,S _ _ o⟩ (cC.same S t)
theorem cC.snoc {H:Hp} {ys:List V} {kvs:List (Key × V)} {p:Addr} {k:Key} {v:V} (h:cC H ys kvs) (hp:H p = none):cC (upd H p (.tup [kV k,v])) (ys ++ [.ref p]) (kvs ++ [(k,v)]) :=
 Paired.snoc (h.same (aK.upd hp)) ⟨p,rfl,aB⟩
section
variable {X:Cx}
theorem aJU {P:Program} {w:World} {k:Key} {u:Value} (r:bM (kV k) u):(bB P w).is k u = true:=by
 cases k with
 | inl z=>obtain ⟨t,rfl⟩:=r;exact sB z t
 | inr z=>obtain ⟨t,rfl⟩:=r;exact rZ z t
theorem qZ {pins:List (Addr × Obj)} {σ:St} {H:Hp} {s:Shared} (I:Inv X pins σ H s):∀ {ys:List V} {kvs:List (Key × V)} {its:List Value},cC H ys kvs → bS ys its →
  ∃ vk:List (Key × Value),KV kvs vk ∧ its.length = vk.length ∧ ∀ (i:Nat) (v:Value),its[i]? = some v → ∃ (a:Addr) (k:Key) (kv x:Value) (ob:Obj) (c:Nat),v = .ref a ∧ s.heap.get? a = some ob ∧ ob.cls = .type "tuple" ∧ ob.data = .seq #[kv,x] c ∧ vk[i]? = some (k,x) ∧ (bB X.prog X.w).is k kv = true
 | _,_,_,Paired.nil,Paired.nil=>⟨[],Paired.nil,rfl,fun i v e=>by simp at e⟩
 | _,(k,v0) :: kvs,u :: its,Paired.cons ⟨a,e,o⟩ t,Paired.cons r rs=>by
  obtain ⟨vk,h1,h2,h3⟩:=qZ I t rs
  subst e
  cases r
  obtain ⟨tis,rt,⟨ob,g,hc,c,hd⟩,_⟩:=I.tuple (SqT.of o)
  obtain ⟨ku,xu,rfl,rk,rx⟩:=bS.two rt
  refine ⟨(k,xu) :: vk,Paired.cons ⟨rfl,rx⟩ h1,by simp [h2],fun i v e=>?_⟩
  cases i with
  | zero =>
   simp at e
   subst e
   exact ⟨a,k,ku,xu,ob,c,rfl,g,hc,hd,rfl,aJU rk⟩
  | succ i =>
   obtain ⟨a',k',kv',x',ob',c',q⟩:=h3 i v (by simpa using e)
   exact ⟨a',k',kv',x',ob',c',by simpa using q⟩
theorem cZ (hc:X.calm = true):iF X (.type "dict") (fun xs H Q=>∃ (p:Addr) (ys:List V) (kvs:List (Key × V)),xs = [.ref p] ∧ SqL X.K H p ys ∧ cC H ys kvs ∧ kvs.length ≤ 1000 ∧ (kvs.map (·.1)).Nodup ∧ ∀ l,H l = none → Q (.ref l) (upd H l (.dK kvs))):=by
 intro pins s σ H xs us Q I r h
 obtain ⟨p,ys,kvs,rfl,hq,hp,hn,nd,q⟩:=h
 obtain ⟨u,rfl,ru⟩:=bS.one r
 cases ru
 obtain ⟨its,rv,pl,hz⟩:=I.list hq
 obtain ⟨vk,kv,el,hv⟩:=qZ I hp rv
 have big:(1000:Nat) ≤ sizeLine:=by decide
 have l1:=KV.length kv
 have ek:vk.map (·.1) = kvs.map (·.1):=(KV.keys kv).symm
 refine xF (kvs:=vk) (I.ok.hd hc) pl el (by omega) hv fun h' tk hD hk=>?_
 rw [merged_nil_of_nodup vk (by rw [ek];exact nd)] at hD
 refine ⟨.ref s.heap.objs.size,_,I.laid (t':=tk) hk (Nat.le_refl _) (show cW X.prog X.w _ h' _ (.dK kvs) from ⟨by omega,?_,vk,kv,hD⟩),rfl,q _ (I.hok.fresh (Nat.le_refl _))⟩
 have b:=I.big
 exact beq_eq_false_iff_ne.mpr (Nat.ne_of_gt b)
end
end L2
namespace L2
open PySem PySem.Spec PyProof.Rows
structure MethAt (K:PySem.W.Frag) (C:Addr) (m qual:Str) (st:Stmt) (ps:List Str):Prop where
 ex:∃ (f:Addr) (fd:FuncData),Fun K m qual st f fd ∧ iU K fd ps [] ∧ Meth K C m f
structure InitAt (K:PySem.W.Frag) (C:Addr) (qual:Str) (st:Stmt) (ps:List Str):Prop where
 ex:∃ (f:Addr) (fd:FuncData),Fun K "__init__" qual st f fd ∧ iU K fd ps [] ∧ Mk K C f
structure Mc (P:Program) (w:World) (K:PySem.W.Frag) (mg:Str → Option Value) (base:Heap) (k:Nat) (C:Addr) (m:Str) (ps:List Str) (sp:Sp):Prop where
 ex:∃ (f:Addr) (fd:FuncData),FnOk P w K mg base CX0 k f fd ps sp ∧ iU K fd ps [] ∧ Meth K C m f
structure Ic (P:Program) (w:World) (K:PySem.W.Frag) (mg:Str → Option Value) (base:Heap) (k:Nat) (C:Addr) (ps:List Str) (sp:Sp):Prop where
 ex:∃ (f:Addr) (fd:FuncData),FnOk P w K mg base CX0 k f fd ps sp ∧ iU K fd ps [] ∧ Mk K C f
section
variable {P:Program} {w:World} {K:PySem.W.Frag} {mg:Str → Option Value} {base:Heap} {C:Addr} {m qual:Str} {st:Stmt} {N ps:List Str} {k:Nat} {sp:Sp}
theorem MethAt.mc (D:MethAt K C m qual st ps) (S:FnScope N ps (aF st)) (len:∀ vs H Q E,sp vs H Q E → vs.length = ps.length)
  (hbody:∀ (f:Addr) (cdv:Value) (A:Around) (outer:List Env) (s:Shared) (H:Hp) (vs:List V) (Q:VK) (E:XK),Room k (A.deeper (envOfC qual (aF st) s.heap.objs.size f cdv)) → sp vs H Q E →
   ∃ t,PSs (wL CX0 P w K mg base N qual (aF st) f cdv A outer s H E).nox (aO st) t ∧ t { nx:=fun _ H'=>Q .non H',rt:=Q } (lV N vs) H):Mc P w K mg base (k + 1) C m ps sp:=by
 obtain ⟨f,fd,F,b,mm⟩:=D.ex
 exact ⟨f,fd,F.ok S len fun cdv A outer s H vs Q E hr h=>hbody f cdv A outer s H vs Q E hr h,b,mm⟩
theorem InitAt.ic (D:InitAt K C qual st ps) (S:FnScope N ps (aF st)) (len:∀ vs H Q E,sp vs H Q E → vs.length = ps.length)
  (hbody:∀ (f:Addr) (cdv:Value) (A:Around) (outer:List Env) (s:Shared) (H:Hp) (vs:List V) (Q:VK) (E:XK),Room k (A.deeper (envOfC qual (aF st) s.heap.objs.size f cdv)) → sp vs H Q E →
   ∃ t,PSs (wL CX0 P w K mg base N qual (aF st) f cdv A outer s H E).nox (aO st) t ∧ t { nx:=fun _ H'=>Q .non H',rt:=Q } (lV N vs) H):Ic P w K mg base (k + 1) C ps sp:=by
 obtain ⟨f,fd,F,b,mm⟩:=D.ex
 exact ⟨f,fd,F.ok S len fun cdv A outer s H vs Q E hr h=>hbody f cdv A outer s H vs Q E hr h,b,mm⟩
theorem Mc.imp {sp':Sp} (F:Mc P w K mg base k C m ps sp) (h:∀ vs H Q E,sp' vs H Q E → sp vs H Q E):Mc P w K mg base k C m ps sp':=by
 obtain ⟨f,fd,G,b,mm⟩:=F.ex
 exact ⟨f,fd,G.imp h,b,mm⟩
theorem eZ {f:Addr} {oc:Value} {od an:Option Addr} {osl:Array (Option Value)} {kV doc pm cdv ct:Value} (a:PySem.W.findIn K (.ref C) m = some (some (.ref f))) (i:PySem.W.isFn K (.ref f) = true)
  (l:K.lookup f = some ⟨oc,od,.func (PySem.W.fnOf m qual (aS st) (aO st) (aF st) .none kV doc pm an cdv ct),osl⟩) (c:PySem.W.codeIn K cdv qual = true) (kp:PySem.W.keepIn K (.ref f) = true)
  (hb:∀ (kV doc pm:Value) (an:Option Addr) (cdv ct:Value) (us:List Value),us.length = ps.length → bindArgs (PySem.W.fnOf m qual (aS st) (aO st) (aF st) .none kV doc pm an cdv ct) ⟨us,[]⟩ = pure (ps.zip us)):MethAt K C m qual st ps :=
 ⟨f,_,sC l c kp,(sC l c kp).binds hb,⟨a,i,kp⟩⟩
theorem aEV {f:Addr} {oc:Value} {od an:Option Addr} {osl:Array (Option Value)} {kV doc pm cdv ct:Value} (a:PySem.W.findIn K (.ref C) "__init__" = some (some (.ref f))) (i:PySem.W.isFn K (.ref f) = true)
  (l:K.lookup f = some ⟨oc,od,.func (PySem.W.fnOf "__init__" qual (aS st) (aO st) (aF st) .none kV doc pm an cdv ct),osl⟩) (c:PySem.W.codeIn K cdv qual = true) (kp:PySem.W.keepIn K (.ref f) = true)
  (mk:PySem.W.makesIn K C = true) (kc:PySem.W.keepIn K (.ref C) = true)
  (hb:∀ (kV doc pm:Value) (an:Option Addr) (cdv ct:Value) (us:List Value),us.length = ps.length → bindArgs (PySem.W.fnOf "__init__" qual (aS st) (aO st) (aF st) .none kV doc pm an cdv ct) ⟨us,[]⟩ = pure (ps.zip us)):InitAt K C qual st ps :=
 ⟨f,_,sC l c kp,(sC l c kp).binds hb,⟨mk,a,i,kc⟩⟩
end
section
variable {X:Cx} {k:Nat} {ps:List Str} {sp:Sp} {x m:Str} {p pos apos:Pos} {o e:Expr} {es:List Expr} {ta:TE} {t:TA} {C:Addr}
theorem aCX {pl:Sem Bool} (c:Cls X.K C) (F:Mc X.prog X.w X.K X.mg X.base k C m ps sp) (hr:Room k X.A) (ho:PE X o ta) (ha:PA X (e :: es) t)
  (hst:starEach (e :: es) X.env = (false,eval e X.env) :: starEach es X.env:=by rfl) (hpl:(backTo pos (starEach es X.env)).any (·.1) = false:=by rfl)
  (ht:eval (.Call (.Attribute o m apos) (e :: es) [] pos) X.env = (do
   let ov ← eval o X.env
   standAt apos.atName
   let (f,first) ← holding [ov] (getMethod ov m pl)
   callWith pos f first (backTo pos (starEach (e :: es) X.env)) (backToKw pos (keywordEach [] X.env))):=by rfl) :
  PE X (.Call (.Attribute o m apos) (e :: es) [] pos) (aDW C m sp [] E0 ta t):=by
 obtain ⟨f,fd,G,b,mm⟩:=F.ex
 exact aJX (pl:=pl) ho c mm G hr b .nil aER ha hst hpl ht
theorem gH {pl:Sem Bool} (c:Cls X.K C) (F:Mc X.prog X.w X.K X.mg X.base k C m ps sp) (hr:Room k X.A) (ho:PE X o ta)
  (ht:eval (.Call (.Attribute o m apos) [] [] pos) X.env = (do
   let ov ← eval o X.env
   standAt apos.atName
   let (f,first) ← holding [ov] (getMethod ov m pl)
   callWith pos f first (backTo pos (starEach [] X.env)) (backToKw pos (keywordEach [] X.env))):=by rfl) :
  PE X (.Call (.Attribute o m apos) [] [] pos) (aDW C m sp [] E0 ta aLP):=by
 obtain ⟨f,fd,G,b,mm⟩:=F.ex
 exact aHZ (pl:=pl) ho c mm G hr b .nil aER ht
theorem aEP (hm:X.mg x = some (.ref C)) (F:Ic X.prog X.w X.K X.mg X.base k C ps sp) (hr:Room (k + 1) X.A) (ha:PA X (e :: es) t) (hg:Gl X x:=by rfl) (hdb:(x == ("__debug__":Str)) = false:=by decide)
  (he:starEach (e :: es) X.env = (false,eval e X.env) :: starEach es X.env:=by rfl) (hpl:(backTo pos (starEach es X.env)).any (·.1) = false:=by rfl) :
  PE X (.Call (.Name x p) (e :: es) [] pos) (aKW C sp [] E0 t):=by
 obtain ⟨f,fd,G,b,mm⟩:=F.ex
 exact aJY mm G hr hg hm b .nil aER ha hdb he hpl
end
section
variable {X:Cx} {K:PySem.W.Frag}
theorem aM (e:X.K = K):IxR X (aNS K):=by subst e;exact aMJ
theorem bO (e:X.K = K):IxR X (aNT K):=by subst e;exact aKH
theorem aEL (e:X.K = K):SlR X (aNQ K):=by subst e;exact aLW
theorem jH (e:X.K = K):SlR X (aNR K):=by subst e;exact aJR
theorem aBF (e:X.K = K):OpR X (binaryOp .Add) (aLH K):=by subst e;exact aKB
theorem eW (e:X.K = K):OpR X (compareOp .In) (rIn K false):=by subst e;exact aFT
theorem pW (e:X.K = K):OpR X (compareOp .NotIn) (rIn K true):=by subst e;exact zB
theorem bU (e:X.K = K):iF X (.builtin "len") (fun xs H Q=>∃ p ys,xs = [.ref p] ∧ (SqL K H p ys ∨ SqT K H p ys) ∧ Q (.int ys.length) H):=by subst e;exact zY
theorem cR (e:X.K = K):iF X (.builtin "isinstance") (fun xs H Q=>∃ x y c t b,xs = [x,y] ∧ aMQ y = some c ∧ TyOf K H x t ∧ PySem.W.kitOne K t c = some b ∧ Q (.bl b) H):=by subst e;exact aCH
theorem lQ (e:X.K = K):iF X (.type "list") (fun xs H Q=>∃ p ys,xs = [.ref p] ∧ (SqL K H p ys ∨ SqT K H p ys) ∧ ∀ l,H l = none → Q (.ref l) (upd H l (.lst ys))):=by subst e;exact zW
end
theorem lH {j:Int} (h:decide (0 < j) = true):0 < j:=of_decide_eq_true h
end L2
namespace L2
open PySem PySem.Spec PyProof.Rows
theorem nH {X:Cx} {i:Nat} {x:Str} {elt iter tg:Expr} {ifs:List Expr} {scope:Scope} {pos pos' cpos:Pos} {wi:TI} {g:TG} {tt:TT} {te:TE} (hXN:X.N.Nodup) (hix:X.N[i]? = some x) (N':List Str) (nt:Nat) (cap:List Nat)
  (hc:X.calm = true) (hi:PI X tg iter wi) (hg:∀ R,PG (blk X scope N' R) tg g) (hgk:aFD nt g) (ht:∀ R,aJM (blk X scope N' R) ifs tt) (he:∀ R,PE (blk X scope N' R) elt te)
  (hx:Loc X.env.scope x:=by exact Or.inl rfl) (hfn:X.fn x = true ∨ X.env.scope.names.lookup x = some .local:=by first | exact .inl rfl | exact .inr rfl | assumption)
  (hsw:swapsWith (.ListComp elt [⟨tg,iter,ifs,0⟩] scope cpos) (some (.Name x pos')) pos.line X.env = pure true:=by rfl)
  (hcell:(scope.names.all fun y=>!(y.2 == .cell)) = true:=by rfl) (hkind:scope.kind = .function:=by rfl)
  (hnames:(scope.names.all fun y=>!(y.2 == .local) || (scope.names.lookup y.1 == some .local)) = true:=by rfl)
  (hfr:(scope.names.all fun y=>!(y.2 == .free) || (X.env.kindOf y.1 == some .cell || X.env.kindOf y.1 == some .free)) = true:=by rfl)
  (hN:N'.length = nt + cap.length:=by rfl) (hcapN:(cap.map fun j=>X.N[j]?) = (N'.drop nt).map some:=by rfl) (hcapF:((N'.drop nt).all fun x=>scope.names.lookup x == some .free) = true:=by rfl)
  (hs:∀ x,foldedSetIterable iter X.env x = pure x:=by intro _;rfl) :
  PS X (.Assign [.Name x pos'] (.ListComp elt [⟨tg,iter,ifs,0⟩] scope cpos) pos) (aLU (aKX nt cap wi g tt te) (qA i)):=by
 intro pins s σ H Ds I h
 have hfr':∀ y ∈ scope.names,y.2 = .free → (X.env.kindOf y.1 = some .cell ∨ X.env.kindOf y.1 = some .free):=fun y hy e=>by
  have z:=lG hfr y hy
  rw [e] at z
  have z':(X.env.kindOf y.1 == some .cell || X.env.kindOf y.1 == some .free) = true:=z
  rcases Bool.or_eq_true_iff.mp z' with q | q
  ·exact .inl (beq_iff_eq.mp q)
  ·exact .inr (beq_iff_eq.mp q)
 have hcell':∀ y ∈ scope.names,y.2 ≠ .cell:=fun y hy e=>by
  have z:=lG hcell y hy
  rw [e] at z
  cases z
 obtain ⟨cl,hcl,hclk,hclh⟩:=wS (scope:=scope) (env:=X.env) fun y hy e=>I.ok.has y.1 (hfr' y hy e)
 have hnames':∀ y ∈ scope.names,y.2 = .local → scope.names.lookup y.1 = some .local:=fun y hy e=>by
  have z:=lG hnames y hy
  rw [e] at z
  exact beq_iff_eq.mp z
 have hcapN':∀ (k j:Nat),cap[k]? = some j → N'[nt + k]? = X.N[j]?:=fun k j e=>by
  have z:=congrArg (fun l:List (Option Str)=>l[k]?) hcapN
  simp only [List.getElem?_map,e,Option.map_some,List.getElem?_drop] at z
  cases q:N'[nt + k]? with
  | none=>rw [q] at z;cases z
  | some x=>rw [q] at z;exact (Option.some.inj z).symm
 rw [exec_Assign_Name_used _ _ _ _ hsw]
 refine wpAny_bind (wpAny_standAt (wpAny_bind ?_))
 show wpAny _ X.A (do let _ ← comprehension (.ListComp elt [⟨tg,iter,ifs,0⟩] scope cpos) scope X.env _ (newList []) false (eval iter X.env) (some (assign (.Name x pos') X.env))) _ _ s
 refine wpAny_bind (wpAny_mono (wpAny_comprehension_free (use:=some (assign (.Name x pos') X.env)) (Q:=fun _ s'=>SP X pins Ds .next s') rfl hs hcl hkind hnames'
  (thn (hi pins s σ H _ I h) fun v s1 h1=>thn h1 fun itv s2 h2=>?_)) (fun _ s' hq=>wpAny_pure (wpAny_pure hq)) fun _ _ e=>e)
 obtain ⟨it,fp,tn,J,H2,e,I2,T,st2,f2,hw⟩:=h2
 subst e
 refine wP (RR:=fun acc C=>compPost (model X.prog X.w) X.A X.xe (some (assign (.Name x pos') X.env)) (fun _ s'=>SP X pins Ds .next s') acc C) hc I2 T st2 f2 hclk hclh hcell' hkind hfr' hN hcapN' (fun x hx=>beq_iff_eq.mp (lG hcapF x hx)) hg hgk ht he hw ?_
 intro D C s' H' ys hD q I' B
 obtain ⟨m,hn⟩:=B.ns
 obtain ⟨oC,es,ep,hoC,hdC,hrest⟩:=id hn
 have nofs:C ∉ X.fs:=fun hb=>by
  obtain ⟨_,o,ho,_⟩:=I'.ok.funs.mem hb
  exact absurd (Nat.lt_of_lt_of_le (Heap.lt_size ho) B.ab) (Nat.lt_irrefl _)
 have IC:Inv X ((C,oC) :: pins) σ (upd H' D (.lst ys)) s':=I'.pins_of fun p hp=>by
  rcases List.mem_cons.mp hp with rfl | hp
  ·exact ⟨hoC,B.fr,B.ne,nofs,fun v z=>by rw [hdC] at z;cases z⟩
  ·exact I'.pin p (List.mem_append_right _ hp)
 show wpAny _ X.A (assign (.Name x pos') X.env (.ref D)) _ _ _
 refine thn (aN hXN hix hx hfn ((C,oC) :: pins) s' σ (upd H' D (.lst ys)) (.ref D) (.ref D) Ds.nx IC rfl (q D hD)) fun _ s'' h''=>?_
 obtain ⟨σ2,H3,I3,q3⟩:=h''
 have pC:=I3.pin (C,oC) (List.mem_append_right _ List.mem_cons_self)
 refine ⟨m,hn.at' (fun o e=>?_),fun h4 hs4=>⟨σ2,H3,?_,q3⟩⟩
 ·rw [hoC] at e
  cases e
  exact pC.1
 ·have I4:Inv X pins σ2 H3 s'':=I3.pins_of fun p hp=>I3.pin p (List.mem_append_right _ (List.mem_cons_of_mem _ hp))
  exact I4.turned (it:=C) (t':=s''.toks) (fun b o hb e=>hs4.extBut b o hb e) pC.2.1 B.ne (.inr B.ab) B.cl B.pn
end L2
namespace L2
open PySem PySem.Spec PyProof.Rows
section
variable {X:Cx}
end
structure InstC (K:PySem.W.Frag) (C:Addr):Prop where
 ha:PySem.W.findIn K (.ref C) "__class__" = some (some (.builtin "object.__class__"))
 hn:PySem.W.specialIn K (.builtin "object.__class__") "__get__" = some (some (.builtin "getset_descriptor.__get__"))
 htk:PySem.W.takesIn K (.builtin "object.__class__") = some true
 hm:PySem.W.mroIn K C (.type "object") = some true
theorem MethAt.mcD {P:Program} {w:World} {K:PySem.W.Frag} {mg:Str → Option Value} {base:Heap} {C:Addr} {m qual:Str} {st:Stmt} {N ps:List Str} {k:Nat} {sp:Sp} (D:MethAt K C m qual st ps) (S:FnScope N ps (aF st)) (len:∀ vs H Q E,sp vs H Q E → vs.length = ps.length)
  (hbody:∀ (f:Addr) (cdv:Value) (A:Around) (outer:List Env) (s:Shared) (H:Hp) (vs:List V) (Q:VK) (E:XK),Room k (A.deeper (envOfC qual (aF st) s.heap.objs.size f cdv)) → sp vs H Q E →
   ∃ t,PSs (wL CX0 P w K mg base N qual (aF st) f cdv A outer s H E).nox (aO st) t ∧ t { nx:=fun _ H'=>dI Q .non H',rt:=dI Q } (lV N vs) H):Mc P w K mg base (k + 1) C m ps sp:=by
 obtain ⟨f,fd,F,b,mm⟩:=D.ex
 refine ⟨f,fd,FnOk.drop len (F.ok S (fun vs H Q E ⟨Q',h,_⟩=>len vs H Q' E h) fun cdv A outer s H vs Q E hr ⟨Q',h,e⟩=>?_),b,mm⟩
 subst e
 exact hbody f cdv A outer s H vs Q' E hr h
theorem iH.under {H:Hp} {p q:Addr} {o u:HO} (hp:H p = none) (d:sF o = true) (hq:L2.upd H p o q = none):iH (L2.upd (L2.upd H p o) q u) (L2.upd H q u):=fun b=>by
 by_cases hb:b = q
 ·subst hb
  left
  rw [aB,aB]
 ·rw [aP hb,aP hb]
  by_cases hc:b = p
  ·subst hc
   right
   exact ⟨hp,o,aB,d⟩
  ·left
   rw [aP hc]
end L2
namespace Ld
open PySem L2
def iY (c:Nat):Bool:=decide (97 ≤ c) && decide (c ≤ 122)
def fV (z:Str):Bool:=decide (1 ≤ z.length) && decide (z.length ≤ 8) && !decide (z = "sea") && z.cps.toList.all iY
def isInt:Dv → Bool
 | .int _=>true
 | _=>false
def aIN:Dv → Bool
 | .bl _=>true
 | _=>false
def aOC:Dv → Bool
 | .str _=>true
 | _=>false
def aOD:Dv → Bool
 | .lst _=>true
 | _=>false
def aOB:Dv → Bool
 | .tup _=>true
 | _=>false
def sN (n:Int):Dv → Bool
 | .tup ds=>decide ((ds.length:Int) = n)
 | _=>false
def aNY (n:Int):Dv → Bool
 | .lst ds=>decide (1 ≤ ds.length) && decide ((ds.length:Int) ≤ n)
 | _=>false
def qI:Dv → Bool
 | .str z=>fV z
 | _=>false
def hgt (i:Int):Bool:=decide (-1000000 ≤ i) && decide (i ≤ 1000000)
def amt (i:Int):Bool:=decide (0 ≤ i) && decide (i ≤ 1000000)
def eU:Dv → Bool
 | .int i=>hgt i
 | _=>false
def mQ:Dv → Bool
 | .int i=>amt i
 | _=>false
def cH (zs:List Str):Dv → Bool
 | .str z=>decide (z ∈ zs)
 | _=>false
def cV:Dv → Option Str
 | .tup (.str z :: _)=>some z
 | _=>none
def cM:Dv → Bool
 | .tup [a,b,c]=>qI a && (eU b && mQ c)
 | _=>false
def mY:Dv → Bool
 | .lst ds=>(decide (1 ≤ ds.length) && decide (ds.length ≤ 12)) && (ds.all cM && decide ((ds.map cV).Nodup))
 | _=>false
def pH (zs:List Str) (a b:Dv):Bool:=cH zs a && (cH zs b && !deq a b)
def lN (c:Dv):Dv → Bool
 | .non=>true
 | .int i=>hgt i && (match c with | .int j=>decide (i < j) | _=>false)
 | _=>false
def dA (zs:List Str):Dv → Bool
 | .tup [n,a,b,c,r,s]=>qI n && pH zs a b && (eU c && (mQ r && lN c s))
 | _=>false
def pI (zs:List Str):Dv → Bool
 | .lst ds=>(decide (1 ≤ ds.length) && decide (ds.length ≤ 40)) && (ds.all (dA zs) && decide ((ds.map cV).Nodup))
 | _=>false
mutual
def dY:Dv → Bool
 | .str z=>decide (z.length ≤ 1000)
 | .lst ds=>decide (ds.length ≤ 1000) && fW ds
 | .tup ds=>decide (ds.length ≤ 1000) && fW ds
 | _=>true
def fW:List Dv → Bool
 | []=>true
 | d :: ds=>dY d && fW ds
end
theorem hW:∀ {ds:List Dv} {d:Dv},fW ds = true → d ∈ ds → dY d = true
 | [],_,_,m=>by cases m
 | e :: ds,d,f,m=>by
  rw [fW,Bool.and_eq_true] at f
  rcases List.mem_cons.mp m with rfl | m
  ·exact f.1
  ·exact hW f.2 m
theorem rL {ds:List Dv} (h:dY (.tup ds) = true):fW ds = true:=(Bool.and_eq_true_iff.mp (show (decide (ds.length ≤ 1000) && fW ds) = true from h)).2
theorem nV (K:PySem.W.Frag) {H:Hp} {d:Dv} {x:V} (h:Is H d x):∃ t,TyOf K H x t ∧ PySem.W.kitOne K t (.type "int") = some (isInt d || aIN d) ∧ PySem.W.kitOne K t (.type "bool") = some (aIN d) ∧
  PySem.W.kitOne K t (.type "str") = some (aOC d) ∧ PySem.W.kitOne K t (.type "list") = some (aOD d) ∧ PySem.W.kitOne K t (.type "tuple") = some (aOB d):=by
 cases d with
 | non=>cases (show x = .non from h);exact ⟨_,.non,rfl,rfl,rfl,rfl,rfl⟩
 | bl b=>cases (show x = .bl b from h);exact ⟨_,.bl b,rfl,mN _ _,rfl,rfl,rfl⟩
 | int i=>cases (show x = .int i from h);exact ⟨_,.int i,mN _ _,rfl,rfl,rfl,rfl⟩
 | str z=>cases (show x = .str z from h);exact ⟨_,.str z,rfl,rfl,mN _ _,rfl,rfl⟩
 | lst ds=>obtain ⟨a,vs,rfl,e,_⟩:=h;exact ⟨_,.lst e,rfl,rfl,rfl,mN _ _,rfl⟩
 | tup ds=>obtain ⟨a,vs,rfl,e,_⟩:=h;exact ⟨_,.tup e,rfl,rfl,rfl,rfl,mN _ _⟩
 | dct ks ds=>obtain ⟨a,vs,rfl,e,_⟩:=h;exact ⟨_,.dK e,rfl,rfl,rfl,rfl,rfl⟩
theorem zL:("abcdefghijklmnopqrstuvwxyz":Str).cps.toList = [97,98,99,100,101,102,103,104,105,106,107,108,109,110,111,112,113,114,115,116,117,118,119,120,121,122]:=by decide +kernel
theorem aDK (c:Nat):(!(Builtin.Str.occurrences ("abcdefghijklmnopqrstuvwxyz":Str) ⟨#[c]⟩ 0 ("abcdefghijklmnopqrstuvwxyz":Str).length 1).isEmpty) = iY c:=by
 rw [PySem.StrLaws.found_one,zL]
 have h1:∀ d,d ∈ ([97,98,99,100,101,102,103,104,105,106,107,108,109,110,111,112,113,114,115,116,117,118,119,120,121,122]:List Nat) → 97 ≤ d ∧ d ≤ 122:=by decide
 have h2:∀ k,k < 26 → (97 + k) ∈ ([97,98,99,100,101,102,103,104,105,106,107,108,109,110,111,112,113,114,115,116,117,118,119,120,121,122]:List Nat):=by decide
 unfold iY
 by_cases h:97 ≤ c ∧ c ≤ 122
 ·have e:=h2 (c - 97) (by omega)
  rw [show 97 + (c - 97) = c by omega] at e
  rw [decide_eq_true e,decide_eq_true h.1,decide_eq_true h.2]
  rfl
 ·have e:¬ c ∈ ([97,98,99,100,101,102,103,104,105,106,107,108,109,110,111,112,113,114,115,116,117,118,119,120,121,122]:List Nat):=fun m=>h (h1 c m)
  rw [decide_eq_false e]
  by_cases h':97 ≤ c
  ·rw [decide_eq_true h',decide_eq_false (fun z=>h ⟨h',z⟩)]
   rfl
  ·rw [decide_eq_false h']
   rfl
def aJ (d:Dv):Str:=(cV d).getD ""
def lD (d:Dv):Key:=.inr (aJ d)
theorem aIY {d:Dv} {z:Str} (h:cV d = some z):aJ d = z:=by unfold aJ;rw [h];rfl
def oA (d1 d2:Addr):List (Str × V):=cF "dyke_rows" (.ref d2) (cF "field_rows" (.ref d1) [])
theorem aOK:¬ (("field_rows":Str) = "dyke_rows"):=by decide +kernel
theorem nQ (d1 d2:Addr):(oA d1 d2).lookup ("field_rows":Str) = some (.ref d1):=by
 unfold oA
 rw [aV,if_neg aOK,aV,if_pos rfl]
theorem zO (d1 d2:Addr):(oA d1 d2).lookup ("dyke_rows":Str) = some (.ref d2):=by
 unfold oA
 rw [aV,if_pos rfl]
theorem eF (d1 d2:Addr) {m:Str} (h1:¬ m = "dyke_rows") (h2:¬ m = "field_rows"):(oA d1 d2).lookup m = none:=by
 unfold oA
 rw [aV,if_neg h1,aV,if_neg h2]
 all_goals rfl
def rK (H:Hp) (a:Addr) (ds:List Dv):Prop:=∃ kvs,H a = some (.dK kvs) ∧ kvs.map (·.1) = ds.map lD ∧ IsL H ds (kvs.map (·.2))
theorem rK.same {H H':Hp} (S:aK H H') {a:Addr} {ds:List Dv} (h:rK H a ds):rK H' a ds:=by
 obtain ⟨kvs,e,k,i⟩:=h
 exact ⟨kvs,S _ _ e,k,IsL.same S _ _ i⟩
structure LandAt (C:Addr) (H:Hp) (x:Addr) (fs ds:List Dv):Prop where
 ex:∃ dx d1 d2,H x = some (.ins C dx (oA d1 d2)) ∧ rK H d1 fs ∧ rK H d2 ds
 okf:mY (.lst fs) = true
 okd:pI ("sea" :: fs.map aJ) (.lst ds) = true
theorem LandAt.same {C:Addr} {H H':Hp} (S:aK H H') {x:Addr} {fs ds:List Dv} (h:LandAt C H x fs ds):LandAt C H' x fs ds:=by
 obtain ⟨⟨dx,d1,d2,e,t1,t2⟩,a,b⟩:=h
 exact ⟨⟨dx,d1,d2,S _ _ e,t1.same S,t2.same S⟩,a,b⟩
theorem yP:∀ {kvs:List (Key × V)} {H:Hp} {ds:List Dv} {d:Dv},kvs.map (·.1) = ds.map lD → IsL H ds (kvs.map (·.2)) → (ds.map aJ).Nodup → d ∈ ds → ∃ v,eK kvs (.inr (aJ d)) = some v ∧ Is H d v
 | [],_,[],_,_,_,_,m=>by cases m
 | [],_,_ :: _,_,e,_,_,_=>by simp at e
 | _ :: _,_,[],_,_,_,_,m=>by cases m
 | (k,v) :: kvs,H,d0 :: ds,d,e,i,n,m=>by
  obtain ⟨v',r,e1,h0,t⟩:=i
  rw [List.map_cons] at e1
  cases e1
  rw [List.map_cons,List.map_cons,List.cons.injEq] at e
  have ek:k = lD d0:=e.1
  rw [List.map_cons,List.nodup_cons] at n
  by_cases q:aJ d = aJ d0
  ·have:d = d0:=by
    rcases List.mem_cons.mp m with rfl | m
    ·rfl
    ·exact absurd (List.mem_map.mpr ⟨d,m,q⟩) n.1
   subst this
   refine ⟨v,?_,h0⟩
   unfold eK
   rw [List.find?_cons,ek]
   simp [lD]
  ·have m':d ∈ ds:=by
    rcases List.mem_cons.mp m with rfl | m
    ·exact absurd rfl q
    ·exact m
   obtain ⟨u,e2,h2⟩:=yP (kvs:=kvs) e.2 t n.2 m'
   refine ⟨u,?_,h2⟩
   unfold eK at e2 ⊢
   have hk:¬ k = Sum.inr (aJ d):=by
    rw [ek]
    intro z
    exact q (Sum.inr.inj z).symm
   rw [List.find?_cons,decide_eq_false (show ¬ (k,v).1 = Sum.inr (aJ d) from hk)]
   exact e2
theorem jB:∀ {ds:List Dv} {p:Dv → Bool},(∀ d,p d = true → ∃ z,cV d = some z) → ds.all p = true → ds.map cV = (ds.map aJ).map some
 | [],_,_,_=>rfl
 | d :: ds,p,hp,h=>by
  rw [List.all_cons,Bool.and_eq_true] at h
  obtain ⟨z,e⟩:=hp d h.1
  rw [List.map_cons,List.map_cons,List.map_cons,jB hp h.2,aIY e,e]
theorem fK (zs:List Str):(zs.map some).Nodup ↔ zs.Nodup:=by
 induction zs with
 | nil=>simp
 | cons z zs ih =>
  rw [List.map_cons,List.nodup_cons,List.nodup_cons,ih]
  simp
theorem bP {d:Dv} (h:cM d = true):∃ z g e,d = .tup [.str z,.int g,.int e] ∧ fV z = true ∧ hgt g = true ∧ amt e = true:=by
 unfold cM at h
 split at h
 ·rename_i a b c
  rw [Bool.and_eq_true,Bool.and_eq_true] at h
  obtain ⟨h1,h2,h3⟩:=h
  cases a with
  | str z =>
   cases b with
   | int g =>
    cases c with
    | int e=>exact ⟨z,g,e,rfl,h1,h2,h3⟩
    | _=>cases h3
   | _=>cases h2
  | _=>cases h1
 ·cases h
theorem sT (d:Dv) (h:cM d = true):∃ z,cV d = some z:=by
 obtain ⟨z,_,_,rfl,_⟩:=bP h
 exact ⟨z,rfl⟩
theorem bI {zs:List Str} {d:Dv} (h:dA zs d = true):∃ n a b c r s,d = .tup [.str n,.str a,.str b,.int c,.int r,s] ∧ fV n = true ∧ a ∈ zs ∧ b ∈ zs ∧ a ≠ b ∧ hgt c = true ∧ amt r = true ∧ lN (.int c) s = true:=by
 unfold dA at h
 split at h
 ·rename_i n a b c r s
  rw [Bool.and_eq_true,Bool.and_eq_true,Bool.and_eq_true,Bool.and_eq_true] at h
  obtain ⟨⟨h1,h2⟩,h3,h4,h5⟩:=h
  unfold pH at h2
  rw [Bool.and_eq_true,Bool.and_eq_true] at h2
  obtain ⟨h6,h7,h8⟩:=h2
  cases n with
  | str n =>
   cases a with
   | str a =>
    cases b with
    | str b =>
     cases c with
     | int c =>
      cases r with
      | int r =>
       refine ⟨n,a,b,c,r,s,rfl,h1,of_decide_eq_true h6,of_decide_eq_true h7,?_,h3,h4,h5⟩
       intro z
       subst z
       have:(!(a == a)) = true:=h8
       rw [beq_self_eq_true] at this
       cases this
      | _=>cases h4
     | _=>cases h3
    | _=>cases h7
   | _=>cases h6
  | _=>cases h1
 ·cases h
theorem wF {zs:List Str} (d:Dv) (h:dA zs d = true):∃ z,cV d = some z:=by
 obtain ⟨z,_,_,_,_,_,rfl,_⟩:=bI h
 exact ⟨z,rfl⟩
structure GoodF (fs:List Dv):Prop where
 l1:1 ≤ fs.length
 l2:fs.length ≤ 12
 all:∀ d ∈ fs,cM d = true
 nd:(fs.map aJ).Nodup
structure GoodD (zs:List Str) (ds:List Dv):Prop where
 l1:1 ≤ ds.length
 l2:ds.length ≤ 40
 all:∀ d ∈ ds,dA zs d = true
 nd:(ds.map aJ).Nodup
theorem pT (fs:List Dv):mY (.lst fs) = true ↔ GoodF fs:=by
 show ((decide (1 ≤ fs.length) && decide (fs.length ≤ 12)) && (fs.all cM && decide ((fs.map cV).Nodup))) = true ↔ _
 rw [Bool.and_eq_true,Bool.and_eq_true,Bool.and_eq_true,decide_eq_true_iff,decide_eq_true_iff,decide_eq_true_iff]
 constructor
 ·rintro ⟨⟨a,b⟩,c,d⟩
  rw [jB sT c,fK] at d
  exact ⟨a,b,List.all_eq_true.mp c,d⟩
 ·rintro ⟨a,b,c,d⟩
  have c':=List.all_eq_true.mpr c
  refine ⟨⟨a,b⟩,c',?_⟩
  rw [jB sT c',fK]
  exact d
theorem kE (zs:List Str) (ds:List Dv):pI zs (.lst ds) = true ↔ GoodD zs ds:=by
 show ((decide (1 ≤ ds.length) && decide (ds.length ≤ 40)) && (ds.all (dA zs) && decide ((ds.map cV).Nodup))) = true ↔ _
 rw [Bool.and_eq_true,Bool.and_eq_true,Bool.and_eq_true,decide_eq_true_iff,decide_eq_true_iff,decide_eq_true_iff]
 constructor
 ·rintro ⟨⟨a,b⟩,c,d⟩
  rw [jB wF c,fK] at d
  exact ⟨a,b,List.all_eq_true.mp c,d⟩
 ·rintro ⟨a,b,c,d⟩
  have c':=List.all_eq_true.mpr c
  refine ⟨⟨a,b⟩,c',?_⟩
  rw [jB wF c',fK]
  exact d
def vZ:Dv → Bool
 | .non=>true
 | _=>false
def aX:Dv → Bool
 | .tup [_,_,_,_,_,s]=>!vZ s
 | _=>false
theorem aBW {H:Hp} {d:Dv} {v:V} (h:Is H d v):decide (v = .non) = vZ d:=by
 cases d with
 | non=>cases (show v = .non from h);rfl
 | bl b=>cases (show v = .bl b from h);exact decide_eq_false (by intro z;cases z)
 | int b=>cases (show v = .int b from h);exact decide_eq_false (by intro z;cases z)
 | str b=>cases (show v = .str b from h);exact decide_eq_false (by intro z;cases z)
 | lst b=>obtain ⟨a,vs,rfl,_⟩:=h;exact decide_eq_false (by intro z;cases z)
 | tup b=>obtain ⟨a,vs,rfl,_⟩:=h;exact decide_eq_false (by intro z;cases z)
 | dct b c=>obtain ⟨a,vs,rfl,_⟩:=h;exact decide_eq_false (by intro z;cases z)
theorem pL:∀ {ds:List Dv},(∀ d ∈ ds,dY d = true) → fW ds = true
 | [],_=>rfl
 | d :: ds,h=>by
  rw [fW,h d List.mem_cons_self,pL fun e m=>h e (List.mem_cons_of_mem _ m)]
  rfl
end Ld
namespace Mt02
open PySem L2 Ld
def aPP (i:Nat):Nat:=if i < 18 then 97 + i else 98 + i
def rst (c:Int):Nat → Int
 | 0=>c / 3
 | j + 1=>rst c j / 25
def num (o:Nat → Int) (c p b:Int) (k j:Nat):Int:=if (j:Int) = b then c / 17 + ((k:Int) / 25) else if (j:Int) = p then c / 11 + (k:Int) else o j
def aOO (o:Nat → Int) (c p b:Int) (k j:Nat):Nat:=aPP (num o c p b k j % 25).toNat
def nm (o:Nat → Int) (c p b:Int) (n k:Nat):Str:=⟨((List.range n).map (aOO o c p b k)).toArray⟩
structure Names (zs:List Str) (n:Nat):Prop where
 len:zs.length = n
 nd:zs.Nodup
 good:∀ z ∈ zs,fV z = true
end Mt02
namespace Mt04
open PySem L2 Ld
def aDP:Dv → Int
 | .tup [_,_,_,.int c,_,_]=>c
 | _=>0
def hOf:Dv → Int
 | .tup [_,.int h]=>h
 | _=>0
def jG (ds:List Dv) (z:Str):Int:=(ds.find? fun d=>decide (aJ d = z)).elim 0 aDP
def eL (ds:List Dv):Dv → Bool
 | .tup [.str z,.int h]=>decide (z ∈ ds.map aJ) && (hgt h && decide (jG ds z ≤ h))
 | _=>false
def aCJ (ds:List Dv):Dv → Bool
 | .lst ws=>ws.all (eL ds) && decide ((ws.map cV).Nodup)
 | _=>false
theorem aKL {ds:List Dv} (nd:(ds.map aJ).Nodup) {d:Dv} (m:d ∈ ds):(ds.find? fun e=>decide (aJ e = aJ d)) = some d:=by
 induction ds with
 | nil=>cases m
 | cons e ds ih =>
  rw [List.map_cons,List.nodup_cons] at nd
  rw [List.find?_cons]
  by_cases q:aJ e = aJ d
  ·rw [decide_eq_true q]
   rcases List.mem_cons.mp m with rfl | m
   ·rfl
   ·exact absurd (List.mem_map.mpr ⟨d,m,q.symm⟩) nd.1
  ·rw [decide_eq_false q]
   rcases List.mem_cons.mp m with rfl | m
   ·exact absurd rfl q
   ·exact ih nd.2 m
theorem wN {ds:List Dv} (nd:(ds.map aJ).Nodup) {d:Dv} (m:d ∈ ds):jG ds (aJ d) = aDP d:=by
 unfold jG
 rw [aKL nd m]
 rfl
theorem iV {ds:List Dv} {d:Dv} (h:eL ds d = true):∃ z v,d = .tup [.str z,.int v] ∧ z ∈ ds.map aJ ∧ hgt v = true ∧ jG ds z ≤ v:=by
 unfold eL at h
 split at h
 ·rename_i z v
  rw [Bool.and_eq_true,Bool.and_eq_true] at h
  exact ⟨z,v,rfl,of_decide_eq_true h.1,h.2.1,of_decide_eq_true h.2.2⟩
 ·cases h
theorem qB {ds:List Dv} (d:Dv) (h:eL ds d = true):∃ z,cV d = some z:=by
 obtain ⟨z,_,rfl,_⟩:=iV h
 exact ⟨z,rfl⟩
structure GoodW (ds ws:List Dv):Prop where
 all:∀ d ∈ ws,eL ds d = true
 nd:(ws.map aJ).Nodup
theorem aGB (ds ws:List Dv):aCJ ds (.lst ws) = true ↔ GoodW ds ws:=by
 show (ws.all (eL ds) && decide ((ws.map cV).Nodup)) = true ↔ _
 rw [Bool.and_eq_true,decide_eq_true_iff]
 constructor
 ·rintro ⟨c,d⟩
  rw [jB qB c,fK] at d
  exact ⟨List.all_eq_true.mp c,d⟩
 ·rintro ⟨c,d⟩
  have c':=List.all_eq_true.mpr c
  refine ⟨c',?_⟩
  rw [jB qB c',fK]
  exact d
def wAt (ws:List Dv) (z:Str):Option Int:=(ws.find? fun d=>decide (aJ d = z)).map hOf
def tQ (ws:List Dv):Dv → Dv
 | .tup [.str n,a,b,.int c,r,s]=>.tup [.str n,a,b,.int ((wAt ws n).getD c),r,s]
 | d=>d
def dB (ds ws:List Dv):List Dv:=ds.map (tQ ws)
theorem aES (ws:List Dv) (d:Dv):aJ (tQ ws d) = aJ d:=by
 unfold tQ
 split <;> rfl
theorem aFO (ds ws:List Dv):(dB ds ws).map aJ = ds.map aJ:=by
 unfold dB
 rw [List.map_map]
 exact List.map_congr_left fun d _=>aES ws d
def xD (d:Dv):Key × V:=(lD d,.int (hOf d))
theorem aCN (ws:List Dv) (z:Str):eK (ws.map xD) (.inr z) = (wAt ws z).map V.int:=by
 induction ws with
 | nil=>rfl
 | cons d ws ih =>
  unfold eK wAt at ih ⊢
  rw [List.map_cons,List.find?_cons,List.find?_cons]
  have e:decide ((xD d).1 = Sum.inr z) = decide (aJ d = z):=by
   rw [Bool.eq_iff_iff,decide_eq_true_iff,decide_eq_true_iff]
   exact ⟨fun h=>Sum.inr.inj h,fun h=>congrArg Sum.inr h⟩
  rw [e]
  cases decide (aJ d = z) with
  | true=>rfl
  | false=>exact ih
theorem aGO {ds ws:List Dv} (g:GoodW ds ws) {z:Str} {v:Int} (h:wAt ws z = some v):hgt v = true ∧ jG ds z ≤ v:=by
 unfold wAt at h
 cases e:ws.find? (fun d=>decide (aJ d = z)) with
 | none=>rw [e] at h;cases h
 | some d =>
  rw [e] at h
  have m:=List.mem_of_find?_eq_some e
  have q:aJ d = z:=by
   have:=List.find?_some e
   exact of_decide_eq_true this
  obtain ⟨z',v',rfl,_,h1,h2⟩:=iV (g.all d m)
  have ev:v' = v:=Option.some.inj h
  have ez:z' = z:=q
  subst ev ez
  exact ⟨h1,h2⟩
theorem zJ {zs:List Str} {ds ws:List Dv} (gd:GoodD zs ds) (g:GoodW ds ws) {d:Dv} (m:d ∈ ds):dA zs (tQ ws d) = true:=by
 obtain ⟨n,a,b,c,r,s,rfl,hn,ha,hb,hab,hc,hr,hs⟩:=bI (gd.all d m)
 have ec:jG ds n = c:=wN gd.nd m
 show dA zs (.tup [.str n,.str a,.str b,.int ((wAt ws n).getD c),.int r,s]) = true
 have key:hgt ((wAt ws n).getD c) = true ∧ c ≤ (wAt ws n).getD c:=by
  cases e:wAt ws n with
  | none=>exact ⟨hc,Int.le_refl _⟩
  | some v =>
   have:=aGO g e
   rw [ec] at this
   exact this
 have ks:lN (.int ((wAt ws n).getD c)) s = true:=by
  cases s with
  | non=>rfl
  | int i =>
   have h1:(hgt i && decide (i < c)) = true:=hs
   rw [Bool.and_eq_true] at h1
   show (hgt i && decide (i < (wAt ws n).getD c)) = true
   rw [h1.1,decide_eq_true (Int.lt_of_lt_of_le (of_decide_eq_true h1.2) key.2)]
   rfl
  | _=>cases hs
 show (fV n && (decide (a ∈ zs) && (decide (b ∈ zs) && !(a == b))) && (hgt _ && (amt r && lN _ s))) = true
 rw [hn,decide_eq_true ha,decide_eq_true hb,key.1,hr,ks,beq_eq_false_iff_ne.mpr hab]
 rfl
theorem aAX {zs:List Str} {ds ws:List Dv} (gd:GoodD zs ds) (g:GoodW ds ws):GoodD zs (dB ds ws) where
 l1:=by unfold dB;rw [List.length_map];exact gd.l1
 l2:=by unfold dB;rw [List.length_map];exact gd.l2
 all:=fun d m=>by
  obtain ⟨e,me,rfl⟩:=List.mem_map.mp m
  exact zJ gd g me
 nd:=by rw [aFO];exact gd.nd
theorem aFE (ds:List Dv):GoodW ds []:=⟨(fun d m=>by cases m),by simp⟩
theorem sO {zs:List Str} {ds ws:List Dv} (gd:GoodD zs ds):((dB ds ws).filter aX).map aJ = (ds.filter aX).map aJ:=by
 have key:∀ d ∈ ds,aX (tQ ws d) = aX d:=fun d m=>by
  obtain ⟨n,a,b,c,r,s,rfl,_⟩:=bI (gd.all d m)
  rfl
 clear gd
 induction ds with
 | nil=>rfl
 | cons d ds ih =>
  have k0:=key d List.mem_cons_self
  have ih':=ih fun e m=>key e (List.mem_cons_of_mem _ m)
  unfold dB at ih' ⊢
  rw [List.map_cons,List.filter_cons,List.filter_cons,k0]
  cases aX d with
  | true=>simp only [if_true,List.map_cons];rw [aES,ih']
  | false=>simpa using ih'
end Mt04
namespace Mt22
open PySem L2 Ld
structure St where
 nm:Str
 near:Str
 far:Str
 h:Int
abbrev Lo:=Str → Option Int
def sea:Str:="sea"
def lo0:Lo:=fun z=>if z = sea then some (-1000000) else none
def eB (lo:Lo) (s:St):Lo:=match lo s.near with
 | none=>lo
 | some a=>fun z=>if z = s.far then some (match lo s.far with | none=>max a s.h | some b=>min (max a s.h) b) else lo z
def aNP (S:List St) (lo:Lo):Lo:=S.foldl eB lo
def iO (S:List St):Nat → Lo
 | 0=>lo0
 | n + 1=>aNP S (iO S n)
inductive Walk (S:List St):Nat → Str → Int → Prop
 | sea:Walk S 0 Mt22.sea (-1000000)
 | step {k:Nat} {a:Int} {s:St} (w:Walk S k s.near a) (m:s ∈ S):Walk S (k + 1) s.far (max a s.h)
def Le (lo lo':Lo):Prop:=∀ z c,lo' z = some c → ∃ d,lo z = some d ∧ d ≤ c
def Att (S:List St) (lo:Lo):Prop:=∀ z c,lo z = some c → ∃ k,Walk S k z c
inductive Path (S:List St):List Str → Str → Int → Prop
 | sea:Path S [] Mt22.sea (-1000000)
 | step {p:List Str} {a:Int} {s:St} (w:Path S p s.near a) (m:s ∈ S) (n:s.far ∉ p):Path S (s.far :: p) s.far (max a s.h)
structure Flood (S:List St) (lo:Lo):Prop where
 att:Att S lo
 low:∀ k v b,Walk S k v b → ∃ c,lo v = some c ∧ c ≤ b
inductive Come (S:List St) (L:Int):Str → Prop
 | sea:Come S L Mt22.sea
 | step {s:St} (w:Come S L s.near) (m:s ∈ S) (h:s.h < L):Come S L s.far
end Mt22
namespace MtF
open PySem L2 Ld Mt04 Mt22
def aHK:Dv → Dv
 | .tup [_,_,_,_,_,s]=>s
 | _=>.non
def aIO:Dv → Int
 | .int i=>i
 | _=>0
def xA:Dv → Str
 | .tup [_,.str a,_,_,_,_]=>a
 | _=>""
def lI:Dv → Str
 | .tup [_,_,.str b,_,_,_]=>b
 | _=>""
def fT (op:List Str) (d:Dv):Int:=if aJ d ∈ op then aIO (aHK d) else aDP d
def lE:Dv → Int
 | .tup [_,.int g,_]=>g
 | _=>0
def aW (fs:List Dv) (z:Str):Int:=(fs.find? fun d=>decide (aJ d = z)).elim 0 lE
theorem uC {ds:List Dv} (nd:(ds.map aJ).Nodup) {d:Dv} (m:d ∈ ds):(ds.find? fun e=>decide (aJ e = aJ d)) = some d:=by
 induction ds with
 | nil=>cases m
 | cons e ds ih =>
  rw [List.map_cons,List.nodup_cons] at nd
  rw [List.find?_cons]
  rcases List.mem_cons.mp m with rfl | m
  ·rw [decide_eq_true rfl]
  ·have hne:aJ e ≠ aJ d:=fun c=>nd.1 (c ▸ List.mem_map.mpr ⟨d,m,rfl⟩)
   rw [decide_eq_false hne]
   exact ih nd.2 m
theorem mS {fs:List Dv} (nd:(fs.map aJ).Nodup) {d:Dv} (m:d ∈ fs):aW fs (aJ d) = lE d:=by
 show (fs.find? fun e=>decide (aJ e = aJ d)).elim 0 lE = _
 rw [uC nd m]
 rfl
def dC (fs:List Dv) (op:List Str) (d:Dv) (near far:Str):List Mt22.St:=if far = "sea" then [] else [⟨aJ d,near,far,max (fT op d) (aW fs far)⟩]
def iJ (fs:List Dv) (op:List Str) (d:Dv):List Mt22.St:=dC fs op d (xA d) (lI d) ++ dC fs op d (lI d) (xA d)
def bT (fs ds:List Dv) (op:List Str):List Mt22.St:=ds.flatMap (iJ fs op)
def oI (s:Mt22.St):Dv:=.tup [.str s.nm,.str s.near,.str s.far,.int s.h]
def flo (fs ds:List Dv) (op:List Str):Mt22.Lo:=iO (bT fs ds op) fs.length
def vD:Option Int → V
 | some i=>.int i
 | none=>.non
theorem aAH (fs:List Dv) (op:List Str) (d:Dv):(iJ fs op d).length ≤ 2:=by
 unfold iJ dC
 rw [List.length_append]
 split <;> split <;> simp
theorem nC (fs:List Dv) (op:List Str):∀ ds:List Dv,(bT fs ds op).length ≤ 2 * ds.length
 | []=>Nat.le_refl _
 | d :: ds=>by
  have h1:=aAH fs op d
  have h2:=nC fs op ds
  unfold bT at h2 ⊢
  rw [List.flatMap_cons,List.length_append,List.length_cons]
  omega
theorem aDE {fs:List Dv} {op:List Str} {d:Dv} {near far:Str} {s:Mt22.St}:s ∈ dC fs op d near far ↔ far ≠ "sea" ∧ s = ⟨aJ d,near,far,max (fT op d) (aW fs far)⟩:=by
 unfold dC
 split
 ·rename_i h
  simp [h]
 ·rename_i h
  simp [h]
theorem pS {fs ds:List Dv} {op:List Str} {s:Mt22.St}:s ∈ bT fs ds op ↔ ∃ d ∈ ds,(lI d ≠ "sea" ∧ s = ⟨aJ d,xA d,lI d,max (fT op d) (aW fs (lI d))⟩) ∨ (xA d ≠ "sea" ∧ s = ⟨aJ d,lI d,xA d,max (fT op d) (aW fs (xA d))⟩):=by
 unfold bT iJ
 simp only [List.mem_flatMap,List.mem_append,aDE]
theorem aDM {fs ds:List Dv} {op:List Str} (gd:GoodD ("sea" :: fs.map aJ) ds) {s:Mt22.St} (h:s ∈ bT fs ds op):s.far ∈ fs.map aJ:=by
 obtain ⟨d,m,h⟩:=pS.mp h
 obtain ⟨n,a,b,c,r,sl,rfl,_,ha,hb,_⟩:=bI (gd.all d m)
 rcases h with ⟨hn,rfl⟩ | ⟨hn,rfl⟩
 ·rcases List.mem_cons.mp hb with e | m
  ·exact absurd e hn
  ·exact m
 ·rcases List.mem_cons.mp ha with e | m
  ·exact absurd e hn
  ·exact m
end MtF
namespace Mt21
open PySem L2 Ld Mt02
def ab (i:Int):Nat:=97 + (i % 26).toNat
theorem yN (i:Int):iY (ab i) = true:=by
 have h0:=Int.emod_nonneg i (show (26:Int) ≠ 0 by decide)
 have h1:=Int.emod_lt_of_pos i (show (0:Int) < 26 by decide)
 unfold ab iY
 rw [decide_eq_true (by omega),decide_eq_true (by omega)]
 rfl
theorem aKT:("abcdefghijklmnopqrstuvwxyz":Str).cps.toList = (List.range 26).map fun i=>97 + i:=by decide +kernel
theorem aLM (i:Int):atI ("abcdefghijklmnopqrstuvwxyz":Str).cps.toList (i % 26) = some (ab i):=by
 have h0:=Int.emod_nonneg i (show (26:Int) ≠ 0 by decide)
 have h1:=Int.emod_lt_of_pos i (show (0:Int) < 26 by decide)
 obtain ⟨k,hk⟩:=Int.eq_ofNat_of_zero_le h0
 unfold ab
 rw [hk,aKT]
 refine aH ?_
 rw [List.getElem?_map,List.getElem?_range (by omega)]
 rfl
def vH (i:Int):Str:=⟨#[ab i]⟩
theorem vY:∀ (ys:List Str) (acc:Array Nat),(ys.foldl (fun acc p=>acc ++ ("":Str).cps ++ p.cps) acc).toList = acc.toList ++ (ys.map fun y=>y.cps.toList).flatten
 | [],acc=>by simp
 | y :: ys,acc=>by
  rw [List.foldl_cons,vY ys]
  have:("":Str).cps = #[]:=by decide +kernel
  rw [this]
  simp
theorem aDI (ys:List Str):(Txt.join "" ys).cps.toList = (ys.map fun y=>y.cps.toList).flatten:=by
 cases ys with
 | nil =>
  show (Str.empty.cps).toList = []
  decide +kernel
 | cons y ys =>
  show (List.foldl (fun acc p=>acc ++ ("":Str).cps ++ p.cps) y.cps ys).toList = _
  rw [vY]
  simp
theorem uE (z:Str) (k:Nat) (h:k ≤ z.length):(Txt.slice z none (some (k:Int))).cps.toList = z.cps.toList.take k:=by
 rw [Tx.slice_codes,Tx.cl_nat]
 show (z.cps.toList.drop 0).take (min k z.length - 0) = _
 rw [List.drop_zero,Nat.sub_zero,Nat.min_eq_left h]
theorem wH (z:Str) (k:Nat) (h:k ≤ z.length):(Txt.slice z (some (k:Int)) none).cps.toList = z.cps.toList.drop k:=by
 rw [Tx.slice_codes,Tx.cl_nat,Nat.min_eq_left h]
 show (z.cps.toList.drop k).take (z.length - k) = _
 rw [List.take_of_length_le]
 rw [List.length_drop]
 show z.cps.toList.length - k ≤ z.length - k
 simp [Str.length]
theorem kD (z:Str):z.length = z.cps.toList.length:=by simp [Str.length]
theorem aBO {f:Nat → Str} {n:Nat} (h:∀ k l,k < n → l < n → f k = f l → k = l):((List.range n).map f).Nodup:=by
 rw [List.nodup_iff_pairwise_ne,List.pairwise_map]
 refine List.Pairwise.imp_of_mem ?_ (List.pairwise_lt_range (n:=n))
 intro k l hk hl hkl he
 have:=h k l (List.mem_range.mp hk) (List.mem_range.mp hl) he
 omega
structure Put (z b:Str) (at':Nat) (x y:Int):Prop where
 codes:z.cps.toList = b.cps.toList.take at' ++ [ab x,ab y] ++ b.cps.toList.drop at'
end Mt21
namespace Mt05
open PySem L2 Ld Mt02
def noS (z:Str):Prop:=¬ (115:Nat) ∈ z.cps.toList
structure NamesS (zs:List Str) (n:Nat):Prop where
 nm:Names zs n
 nos:∀ z ∈ zs,noS z
end Mt05
namespace Mt23
open PySem L2 Ld Mt02 Mt04 Mt22 MtF
def noHigher:Option Int → Option Int → Bool
 | some a,none=>true
 | some a,some b=>decide (a ≤ b)
 | none,none=>true
 | none,some _=>false
def StepsLe (S S':List Mt22.St):Prop:=∀ s ∈ S',∃ t ∈ S,t.near = s.near ∧ t.far = s.far ∧ t.h ≤ s.h
def aPC (d:Dv):Bool:=decide (Mt22.sea ∈ [xA d,lI d])
def firsts (ds:List Dv) (op:List Str):List Int:=(ds.filter aPC).map (fT op)
end Mt23
namespace L2
open PySem PySem.Spec PyProof.Rows
section
variable {X:Cx}
theorem aMZ {x y z:V} {us:List Value} (r:bS [x,y,z] us):∃ u v w,us = [u,v,w] ∧ bM x u ∧ bM y v ∧ bM z w:=by
 cases r with
 | cons r1 r2 =>
  obtain ⟨u,w',rfl,h1,h2⟩:=aGP r2
  exact ⟨_,_,_,rfl,r1,h1,h2⟩
theorem aGI (hc:X.calm = true):iF X (.builtin "max") (fun xs H Q=>∃ i j k,xs = [.int i,.int j,.int k] ∧ Q (.int (max (max i j) k)) H):=by
 intro pins s σ H xs us Q I r h
 obtain ⟨i,j,k,rfl,q⟩:=h
 obtain ⟨u,v,w',rfl,⟨t,rfl⟩,⟨t',rfl⟩,⟨t'',rfl⟩⟩:=aMZ r
 refine max_three_ints (I.ok.hd hc) fun h' tk kk=>⟨_,H,I.kept kk,?_,q⟩
 by_cases h1:j > i
 ·rw [if_pos h1]
  by_cases h2:k > j
  ·rw [if_pos h2]
   exact ⟨_,by rw [show max (max i j) k = k by omega]⟩
  ·rw [if_neg h2]
   exact ⟨_,by rw [show max (max i j) k = j by omega]⟩
 ·rw [if_neg h1]
  by_cases h2:k > i
  ·rw [if_pos h2]
   exact ⟨_,by rw [show max (max i j) k = k by omega]⟩
  ·rw [if_neg h2]
   exact ⟨_,by rw [show max (max i j) k = i by omega]⟩
end
end L2
namespace L2
open PySem PySem.Spec PyProof.Rows
section
variable {X:Cx}
end
end L2
namespace L2
open PySem PySem.Spec PyProof.Rows
section
variable {X:Cx}
end
end L2
namespace L2
open PySem PySem.Spec PyProof.Rows
section
variable {X:Cx} {e:Expr} {t:TA} {p1 p2:Pos} {pos1 pos2:Pos}
end
end L2
namespace L2
open PySem PySem.Spec PyProof.Rows
theorem uF:∀ {ys:List Str} {us:List Value},bS (ys.map V.str) us → StrsAre us ys
 | [],us,r=>by
  rw [List.map_nil] at r
  cases r
  exact .nil
 | b :: bs,us,r=>by
  rw [List.map_cons] at r
  cases r with
  | cons r1 r2 =>
   obtain ⟨t,rfl⟩:=r1
   exact .cons b t (uF r2)
section
variable {X:Cx}
theorem aKE:MtR X "str.join" (fun x vs H Q=>∃ z p ys,x = .str z ∧ vs = [.ref p] ∧ SqL X.K H p (ys.map V.str) ∧ (ys.map fun y=>y.length).sum + ys.length * z.length ≤ 16777216 ∧ Q (.str (Txt.join z ys)) H):=by
 intro pins s σ H x xs v us Q I rx r h
 obtain ⟨z,p,ys,rfl,rfl,hq,hz,q⟩:=h
 obtain ⟨t,rfl⟩:=rx
 obtain ⟨u,rfl,ru⟩:=bS.one r
 cases ru
 obtain ⟨its,rv,pl,hl⟩:=I.list hq
 exact join_list pl.isList (uF rv) hz fun t' k=>⟨.str _,H,I.tok k,⟨_,rfl⟩,q⟩
end
end L2
namespace L2
open PySem PySem.Spec PyProof.Rows
section
variable {X:Cx}
end
end L2
namespace L2
open PySem PySem.Spec PyProof.Rows
section
variable {prog:Program} {w:World} {A:Around} {R:Result → Shared → Prop} {I S:Addr} {fp wr:List Addr} {n:Nat} {P:Nat → Value → Prop} {St:Nat → Heap → Prop}
end
section
variable {prog:Program} {w:World} {A:Around} {E:Value → Shared → Prop} {s:Shared}
end
section
variable {X:Cx}
end
end L2
namespace L2
open PySem PySem.Spec PyProof.Rows
def Itd (d:Addr) (o:Obj) (kvs:List (Key × V)):It :=
 ⟨fun i H=>H d = some (.frz o (.dK kvs)) ∧ i < kvs.length,fun i H x H'=>H' = H ∧ ∃ kv,kvs[i]? = some kv ∧ x = kV kv.1,fun i H=>H d = some (.frz o (.dK kvs)) ∧ kvs.length ≤ i⟩
theorem aFG {P:Program} {w:World} {K:PySem.W.Frag} {tg:Expr} {d it:Addr} {o:Obj} {kvs:List (Key × V)} {vs:List (Key × Value)} {ep:Nat} {h0:Heap} (kv:KV kvs vs) (hd0:h0.get? d = some o) (hat:h0.DictAt (bB P w) d vs ep) :
  Turn P w K tg (Itd d o kvs) [it] it (fun i h=>h.IsKeyIter it d i vs.length ep) where
 mem:=by simp
 obj:=fun i h st b hb=>by
  have e:b = it:=by simpa using hb
  subst e
  obtain ⟨ob,e,c,dd⟩:=st
  exact ⟨ob,e,fun v z=>by rw [dd] at z;cases z⟩
 keep:=fun i h h' st k=>st.at fun ob e=>k it (by simp) ob e
 item:=by
  intro X hP hw hK hc i pins s σ H E I hf st hg
  subst hP hw hK
  obtain ⟨hH,hi⟩:=hg
  obtain ⟨f0,f1,f2,f3,f4,f5⟩:=hf it (by simp)
  have hget:s.heap.get? d = some o:=(show cW X.prog X.w H s.heap d (.frz o (.dK kvs)) from I.hok d _ hH).1
  have hat':=hat.at' (h':=s.heap) fun ob e=>by rw [hd0] at e;cases e;exact hget
  have hl:=KV.length kv
  obtain ⟨⟨k,v⟩,hx⟩:∃ p,vs[i]? = some p:=⟨_,List.getElem?_eq_getElem (by omega)⟩
  obtain ⟨q,eq,e1,e2⟩:=KV.get kv hx
  refine wpAny_pyNext_dict_item st hat' hx fun key h' hkey st' sb=>?_
  have I1:Inv X pins σ H { s with heap:=h' }:=I.turned (t':=s.toks) (fun b ob hb e=>(sb.2 b hb).trans e) f0 f1 f3 f4 f5
  obtain ⟨ob,e,c,dd⟩:=id st'
  refine ⟨key,rfl,aEW (s:={ s with heap:=h' }) e c dd (by decide) ⟨kV q.1,H,I1,?_,⟨rfl,q,eq,rfl⟩,st',fun b hb=>(hf b hb).1⟩⟩
  rw [show q.1 = k from e1]
  exact sA hkey
 done:=by
  intro X hP hw hK hc i pins s σ H E I hf st hg
  subst hP hw hK
  obtain ⟨hH,hi⟩:=hg
  obtain ⟨f0,f1,f2,f3,f4,f5⟩:=hf it (by simp)
  have hget:s.heap.get? d = some o:=(show cW X.prog X.w H s.heap d (.frz o (.dK kvs)) from I.hok d _ hH).1
  have hat':=hat.at' (h':=s.heap) fun ob e=>by rw [hd0] at e;cases e;exact hget
  have hl:=KV.length kv
  exact wpAny_pyNext_dict_end (I.ok.hd hc) st hat' (List.getElem?_eq_none (by omega)) fun h' eb=>⟨rfl,I.turned (t':=s.toks) (fun b ob hb e=>eb b ob hb e) f0 f1 f3 f4 f5⟩
 self:=fun _ _ _ _ _ st h=>wpAny_pyIter_keyiter st h
section
variable {X:Cx} {tg:Expr}
def aOF (td:TE):TI:=fun σ H R=>td σ H fun x H1=>∃ d kvs,x = .ref d ∧ H1 d = some (.dK kvs) ∧ ∀ o,R (Itd d o kvs) (upd H1 d (.frz o (.dK kvs)))
theorem aEN {l:Expr} {tl:TE} (hl:PE X l tl):PI X tg l (aOF tl):=by
 intro pins s σ H R I h
 refine thn (hl pins s σ H _ I h) fun v s1 ⟨x,H1,I1,r1,q1⟩=>?_
 obtain ⟨d,kvs,e,hH,q⟩:=q1
 subst e
 cases r1
 have hok:=I1.hok d _ hH
 obtain ⟨hz,lo,vs,kv,hD⟩:=id hok
 obtain ⟨ep,hat⟩:=hD.dictAt
 obtain ⟨o,es,ho,_⟩:=id hat
 refine wpAny_pyIter_dict lo hat ?_
 have I2:Inv X pins σ (upd H1 d (.frz o (.dK kvs))) s1:=I1.write (x:=d) (e:=d) (o:=.frz o (.dK kvs)) (h':=s1.heap) (t':=s1.toks) (by rw [hH];exact trivial) (.inl rfl) (fun _ _ _ q=>q) ⟨o,ho⟩ ⟨ho,hz,lo,vs,kv,hD⟩
 refine ⟨s1.heap.objs.size,[s1.heap.objs.size],_,_,upd H1 d (.frz o (.dK kvs)),rfl,I2.kept (t':=s1.toks) fun b ob e=>Heap.get?_push_of_some _ e,aFG kv ho hat,⟨_,Heap.get?_push_size _ rfl,rfl,rfl⟩,fun b hb=>?_,q o⟩
 have e:b = s1.heap.objs.size:=by simpa using hb
 subst e
 exact I2.fpOk (Nat.le_refl _) (I2.hok.fresh (Nat.le_refl _))
theorem yD {d:Addr} {o:Obj} {kvs:List (Key × V)} {σb:St} {g:TG} {tt:TT} {te:TE} {fin:List V → Hp → Prop} {H:Hp} (hz:kvs.length ≤ sizeLine) (Pv:Nat → List V → Hp → Prop) (h0:Pv 0 [] H)
  (hl:∀ i ys H,i ≤ kvs.length → Pv i ys H → H d = some (.frz o (.dK kvs)) ∧ ys.length ≤ i)
  (hs:∀ i kv ys H (K:VK) (K':Hp → Prop),kvs[i]? = some kv → Pv i ys H → (∀ y H4,Pv (i + 1) (ys ++ [y]) H4 → K y H4) → (∀ H3,Pv (i + 1) ys H3 → K' H3) →
   g (kV kv.1) σb H fun σ2 H2=>tt σ2 H2 fun b H3=>if b = true then te σ2 H3 K else K' H3)
  (hd:∀ ys H,Pv kvs.length ys H → fin ys H):∃ W:CW,(∃ m,W 0 m [] H) ∧ ∀ i m ys H,W i m ys H → xN σb (Itd d o kvs) g tt te W fin i m ys H:=by
 refine ⟨fun i m ys H=>m = kvs.length - i ∧ i ≤ kvs.length ∧ Pv i ys H,⟨kvs.length,by simp,Nat.zero_le _,h0⟩,?_⟩
 rintro i m ys H ⟨rfl,hi,p⟩
 obtain ⟨q,ql⟩:=hl i ys H hi p
 by_cases hlt:i < kvs.length
 ·refine .inr ⟨⟨q,hlt⟩,by omega,fun x H' y=>?_⟩
  obtain ⟨e,kv,ek,ex⟩:=y
  subst e ex
  exact hs i kv ys _ _ _ ek p (fun y H4 q=>⟨kvs.length - (i + 1),by omega,rfl,hlt,q⟩) fun H3 q=>⟨kvs.length - (i + 1),by omega,rfl,hlt,q⟩
 ·have e:i = kvs.length:=by omega
  subst e
  exact .inl ⟨⟨q,Nat.le_refl _⟩,hd ys H p⟩
end
end L2
namespace L2
open PySem PySem.Spec PyProof.Rows
section
variable {X:Cx}
end
end L2
namespace L2
open PySem PySem.Spec PyProof.Rows
def CX2 (P:Program) (w:World):CXT:=fun outer H s E e s'=>∃ (ea:Addr) (cls a0:Value) (B:Heap) (H':Hp),e = .ref ea ∧ s'.os = s.os ∧ AllBare s'.gens ∧ Un (frs outer) [] H H' s.heap s'.heap ∧ HOk P w H' s'.heap ∧
 Heap.FlyingW B outer ea cls a0 s'.heap ∧ (∀ b o o',s.heap.get? b = some o → s'.heap.get? b = some o' → b ∉ frs outer → B.get? b = some o') ∧ (∀ b o',H' b ≠ none → s'.heap.get? b = some o' → B.get? b = some o') ∧ E cls none H'
section
variable {X:Cx} {pins:List (Addr × Obj)} {σ:St} {H H':Hp} {s s':Shared} {B h2:Heap} {ea:Addr} {cls a0:Value}
end
section
variable {P:Program} {w:World} {K:PySem.W.Frag} {mg:Str → Option Value} {base:Heap} {N:List Str} {qual:Str} {scope:Scope} {f:Addr} {cd:Value} {A:Around} {outer:List Env} {s:Shared} {H:Hp} {E:XK}
end
end L2
namespace L2
open PySem PySem.Spec PyProof.Rows
abbrev aMY:List Value:=[.type "ValueError",.type "Exception",.type "BaseException",.type "object"]
structure ExcC (K:PySem.W.Frag) (C:Addr):Prop where
 q:PySem.W.excIn K C aMY "ValueError.__new__" = true
section
variable {X:Cx} {C:Addr} {x:Str} {E:XK} {np cpos pos:Pos} {e:Expr} {es:List Expr} {t:TA}
end
def CAt (X:Cx) (pins:List (Addr × Obj)) (σ:St) (E:XK) (e:Value) (s':Shared):Prop:=∃ s1 H1,Inv X pins σ H1 s1 ∧ CX2 X.prog X.w X.stack H1 s1 E e s'
abbrev TX:=XK → TE
section
variable {X:Cx} {k:Nat} {f C:Addr} {fd:FuncData} {ps:List Str} {sp:Sp} {E:XK} {x m:Str} {p pos apos:Pos} {e o:Expr} {es:List Expr} {ta:TE} {t:TA}
end
end L2
namespace L2
open PySem PySem.Spec PyProof.Rows
structure FcX (P:Program) (w:World) (K:PySem.W.Frag) (mg:Str → Option Value) (base:Heap) (k:Nat) (x:Str) (ps:List Str) (sp:Sp):Prop where
 ex:∃ (f:Addr) (fd:FuncData),FnOk P w K mg base (CX2 P w) k f fd ps sp ∧ iU K fd ps [] ∧ mg x = some (.ref f) ∧ PySem.W.keepIn K (.ref f) = true
structure McX (P:Program) (w:World) (K:PySem.W.Frag) (mg:Str → Option Value) (base:Heap) (k:Nat) (C:Addr) (m:Str) (ps:List Str) (sp:Sp):Prop where
 ex:∃ (f:Addr) (fd:FuncData),FnOk P w K mg base (CX2 P w) k f fd ps sp ∧ iU K fd ps [] ∧ Meth K C m f
structure IcX (P:Program) (w:World) (K:PySem.W.Frag) (mg:Str → Option Value) (base:Heap) (k:Nat) (C:Addr) (ps:List Str) (sp:Sp):Prop where
 ex:∃ (f:Addr) (fd:FuncData),FnOk P w K mg base (CX2 P w) k f fd ps sp ∧ iU K fd ps [] ∧ Mk K C f
section
variable {P:Program} {w:World} {K:PySem.W.Frag} {mg:Str → Option Value} {base:Heap} {C:Addr} {x m qual:Str} {st:Stmt} {N ps:List Str} {k:Nat} {sp sp':Sp}
end
section
variable {X:Cx} {k:Nat} {C:Addr} {ps:List Str} {sp:Sp} {E:XK} {x m:Str} {p pos apos:Pos} {e o:Expr} {es:List Expr} {ta:TE} {t:TA}
abbrev TB:=XK → TS
end
end L2
namespace L2
open PySem PySem.Spec PyProof.Rows
abbrev Cx.held (X:Cx) (ea:Addr):Cx:={ X with A:=X.A.mark (some (.ref ea)),calm:=false,xe:=fun _ _=>False }
section
variable {X:Cx} {pins:List (Addr × Obj)} {σ:St} {H H':Hp} {s s':Shared} {ea:Addr}
end
section
variable {X:Cx} {C:Addr} {x:Str} {np hpos pos:Pos} {body suite:List Stmt} {b₀:Stmt} {tb:TB} {ts:TS}
end
end L2
namespace L2
open PySem PySem.Spec PyProof.Rows
def aPM (a:Addr) (cls:Value) (h:Heap):Prop:=∃ o vs,h.get? a = some o ∧ o.cls = cls ∧ o.data = .fields vs
def excO (a:Addr) (cls:Value):HO:=.ext (aPM a cls)
section
variable {X:Cx} {pins:List (Addr × Obj)} {σ:St} {H H':Hp} {s s':Shared} {B h2:Heap} {ea:Addr} {cls a0:Value}
end
section
variable {X:Cx} {C:Addr} {x n:Str} {np hpos pos:Pos} {body suite:List Stmt} {b₀:Stmt} {tb:TB} {ts:TS} {i:Nat}
def Ends.gone (D:Ends) (i:Nat):Ends:={ nx:=fun σ H=>D.nx (σ.set i none) H,rt:=D.rt,bk:=fun σ H=>D.bk (σ.set i none) H,ct:=fun σ H=>D.ct (σ.set i none) H }
end
end L2
namespace L2
open PySem PySem.Spec PyProof.Rows
section
open PySem.W PySem.Calls PySem.Builtin PySem.Builtin.ObjectAttr PySem.Builtin.Getset_descriptor
variable {prog:Program} {w:World} {A:Around} {E:Value → Shared → Prop} {s:Shared} {K:PySem.W.Frag} {x C:Addr}
end
structure ExA (K:PySem.W.Frag) (C:Addr):Prop where
 ex:ExcC K C
 em:PySem.W.exmOne K (.ref C) (.ref C) = some true
structure ExI (K:PySem.W.Frag) (C:Addr):Prop extends ExA K C where
 pg:PySem.W.plainGet K C "__class__" = true
 ic:InstC K C
end L2
namespace L2
open PySem PySem.Spec PyProof.Rows
section
open PySem.W PySem.Calls PySem.Builtin PySem.Builtin.ObjectAttr PySem.Builtin.Getset_descriptor
variable {prog:Program} {w:World} {A:Around} {E:Value → Shared → Prop} {s:Shared} {K:PySem.W.Frag} {x C:Addr}
end
structure ExJ (K:PySem.W.Frag) (C:Addr):Prop extends ExA K C where
 ga:PySem.W.findIn K (.ref C) "__getattribute__" = some (some (.builtin "BaseException.__getattribute__"))
 gt:PySem.W.findIn K (.ref C) "__getattr__" = some none
 mb:PySem.W.mroIn K C (.type "BaseException") = some true
 ic:InstC K C
end L2
namespace L2
open PySem PySem.Spec PyProof.Rows
section
variable {X:Cx} {k:Nat} {ps:List Str} {sp:Sp} {x:Str} {p pos:Pos} {e:Expr} {es:List Expr} {t:TA} {E:XK}
end
end L2
namespace L2
open PySem PySem.Spec PyProof.Rows
section
variable {X:Cx} {tg:Expr}
end
end L2
namespace L2
open PySem PySem.Spec PyProof.Rows
def Itw (d:Addr) (o:Obj) (kvs:List (Key × V)):It :=
 ⟨fun i H=>H d = some (.frz o (.dK kvs)) ∧ i < kvs.length,fun i H x H'=>H' = H ∧ ∃ kv,kvs[i]? = some kv ∧ x = kv.2,fun i H=>H d = some (.frz o (.dK kvs)) ∧ kvs.length ≤ i⟩
section
variable {X:Cx} {tg:Expr}
end
end L2
namespace L2
open PySem PySem.Spec PyProof.Rows
def qO (v d:Addr):HO:=.ext fun h=>h.IsItemsView v d
theorem qO.ok {P:Program} {w:World} {H:Hp} {h:Heap} {v d:Addr} (x:h.IsItemsView v d):cW P w H h v (qO v d) :=
 ⟨x,let ⟨o,ho,_⟩:=x;⟨o,ho⟩,fun _ _ ⟨o,ho,r⟩ k=>⟨o,k o ho,r⟩⟩
def kC (H:Hp):List Addr → List (Key × V) → Prop
 | [],kvs=>kvs = []
 | a :: as,kvs=>∃ k v r,kvs = (k,v) :: r ∧ H a = some (.tup [kV k,v]) ∧ kC H as r
theorem kC.same {H H':Hp} (S:aK H H'):∀ {as:List Addr} {kvs:List (Key × V)},kC H as kvs → kC H' as kvs
 | [],_,h=>h
 | _ :: _,_,⟨k,v,r,e,h,t⟩=>⟨k,v,r,e,S _ _ h,kC.same S t⟩
section
variable {P:Program} {w:World} {fs:List Addr} {H0 H:Hp} {h h':Heap}
theorem aKG {a:Addr} {xs:List V} (U:Un fs [] H0 H h h') (ok:HOk P w H h') (hp:h.objs.size ≤ a) (hn:H a = none) (new:cW P w (upd H a (.tup xs)) h' a (.tup xs)) :
  Un fs [] H0 (upd H a (.tup xs)) h h' ∧ HOk P w (upd H a (.tup xs)) h':=by
 refine ⟨⟨U.keep,U.slot,fun b o q n hx=>?_,U.there,fun b ys q=>?_,fun b o u q=>?_,fun b ps q=>?_⟩,fun b u e=>?_⟩
 ·rw [aP (Nat.ne_of_lt (Nat.lt_of_lt_of_le (Heap.lt_size q) hp))]
  exact U.free b o q n hx
 ·rw [aP (aL (U.tups b ys q) hn)]
  exact U.tups b ys q
 ·rw [aP (aL (U.frzs b o u q) hn)]
  exact U.frzs b o u q
 ·obtain ⟨m,z⟩:=U.tbls b ps q
  exact ⟨m,by rw [aP (aL z hn)];exact z⟩
 ·by_cases hb:b = a
  ·subst hb;rw [aB] at e;cases e;exact new
  ·rw [aP hb] at e
   exact (ok b u e).stay (fun c v _ q=>q) (fun c q=>by rw [aP (aL q hn)];exact q) fun c xs q=>by rw [aP (aL q hn)];exact q
theorem xT:∀ (as:List Addr) (kvs:List (Key × V)) (vs:List (Key × Value)) (H:Hp),KV kvs vs → as.length = vs.length → as.Pairwise (· < ·) → (∀ a ∈ as,h.objs.size ≤ a) → (∀ a ∈ as,H a = none) →
      (∀ (j:Nat) (a:Addr),as[j]? = some a → ∃ key kk x,vs[j]? = some (kk,x) ∧ sR kk key = true ∧ h'.get? a = some { cls:=.type "tuple",data:=.seq #[key,x] }) →
      Un fs [] H0 H h h' → HOk P w H h' → ∃ H',aK H H' ∧ kC H' as kvs ∧ Un fs [] H0 H' h h' ∧ HOk P w H' h'
  | [],kvs,vs,H,kv,hl,_,_,_,_,U,ok=>by
    cases kv with
    | nil=>exact ⟨H,aK.refl _,rfl,U,ok⟩
    | cons _ _=>cases hl
  | a :: as,kvs,vs,H,kv,hl,hp,hs,hn,hj,U,ok=>by
    cases kv with
    | nil=>cases hl
    | @cons p q kvs vs r t =>
      obtain ⟨key,kk,x,e1,e2,e3⟩:=hj 0 a rfl
      have e1':q = (kk,x):=by simpa using e1
      subst e1'
      obtain ⟨r1,r2⟩:=r
      obtain ⟨pk,pv⟩:=p
      have r1':pk = kk:=r1
      subst r1'
      have ha:=hn a List.mem_cons_self
      have big:(2:Nat) ≤ sizeLine:=by decide
      obtain ⟨U1,ok1⟩:=aKG (xs:=[kV pk,pv]) U ok (hs a List.mem_cons_self) ha ⟨big,[key,x],.cons (sA e2) (.cons r2 .nil),_,e3,rfl,0,rfl,rfl⟩
      obtain ⟨H',S',P',U',ok'⟩:=xT as kvs vs (upd H a (.tup [kV pk,pv])) t (by simpa using hl) (List.pairwise_cons.mp hp).2 (fun b m=>hs b (List.mem_cons_of_mem _ m))
        (fun b m=>by rw [aP (Ne.symm (Nat.ne_of_lt ((List.pairwise_cons.mp hp).1 b m)))];exact hn b (List.mem_cons_of_mem _ m)) (fun j b e=>by
          obtain ⟨key,kk,x,f1,f2,f3⟩:=hj (j + 1) b (by simpa using e)
          exact ⟨key,kk,x,by simpa using f1,f2,f3⟩) U1 ok1
      exact ⟨H',(aK.upd ha).trans S',⟨pk,pv,kvs,rfl,S' _ _ aB,P'⟩,U',ok'⟩
theorem xK:∀ as:List Addr,bS (as.map V.ref) (as.map Value.ref)
 | []=>.nil
 | a :: as=>.cons rfl (xK as)
end
section
variable {X:Cx}
theorem aBR:MtR X "dict.items" (fun x vs H Q=>∃ d kvs,x = .ref d ∧ vs = [] ∧ Rd H d (.dK kvs) ∧ ∀ v,H v = none → Q (.ref v) (upd H v (qO v d))):=by
 intro pins s σ H x vs v us Q I rx rv h
 obtain ⟨d,kvs,rfl,rfl,hq,q⟩:=h
 cases rx
 have hus:=rv.zero
 subst hus
 obtain ⟨hz,lo,ws,kv,hD⟩:=hq.ok I.hok
 refine call_meetsIn PySem.F.slot_dict_items hD.typeIs PySem.F.entry_dict_items (PySem.F.args_dict_items_1 _) (meets_dict_items (bB X.prog X.w) d lo) ⟨⟨ws,hD⟩,?_⟩
 exact ⟨.ref s.heap.objs.size,_,I.laid (t':=s.toks) (fun b ob e=>Heap.get?_push_of_some _ e) (Nat.le_refl _) (qO.ok ⟨_,Heap.get?_push_size _ rfl,rfl,rfl⟩),rfl,q _ (I.hok.fresh (Nat.le_refl _))⟩
theorem oB (hc:X.calm = true):iF X (.type "list") (fun xs H Q=>∃ v d kvs,xs = [.ref v] ∧ H v = some (qO v d) ∧ Rd H d (.dK kvs) ∧ ∀ (l:Addr) (as:List Addr) (H':Hp),H l = none → aK H H' → H' l = some (.lst (as.map V.ref)) → kC H' as kvs → Q (.ref l) H'):=by
 intro pins s σ H xs us Q I r h
 obtain ⟨v,d,kvs,rfl,ev,hq,q⟩:=h
 obtain ⟨u,rfl,ru⟩:=bS.one r
 cases ru
 obtain ⟨hz,lo,vs,kv,hD⟩:=hq.ok I.hok
 obtain ⟨hv,_⟩:=I.hok v _ ev
 obtain ⟨ep,hat⟩:=hD.dictAt
 have hl:=KV.length kv
 refine PySem.W.kdx_call (knd:=bB X.prog X.w) (kvs:=vs) (ep:=ep) (I.ok.hd hc) hv hat (by omega) fun h' tk acc c as hk hg ha hG hacc=>?_
 have U1:Un X.fs [] H (upd H s.heap.objs.size (.lst (as.map V.ref))) s.heap h':=Un.laid hk (Nat.le_refl _) (I.hok.fresh (Nat.le_refl _))
 have ok1:HOk X.prog X.w (upd H s.heap.objs.size (.lst (as.map V.ref))) h':=I.hok.laid hk (Nat.le_refl _) ⟨by rw [List.length_map];omega,as.map Value.ref,c,xK as,by rw [← hacc];simpa using hg⟩
 obtain ⟨H',S',P',U',ok'⟩:=xT as kvs vs _ kv ha hG.rise (fun a m=>Nat.le_of_lt (hG.above a m)) (fun a m=>by
  rw [aP (Nat.ne_of_gt (hG.above a m))]
  exact I.hok.fresh (Nat.le_of_lt (hG.above a m))) hG.pairs U1 ok1
 exact ⟨.ref s.heap.objs.size,H',I.un (t':=tk) U' ok',rfl,q _ as H' (I.hok.fresh (Nat.le_refl _)) ((aK.upd (I.hok.fresh (Nat.le_refl _))).trans S') (S' _ _ aB) P'⟩
theorem Inv.thaw {pins:List (Addr × Obj)} {σ:List (Option V)} {H:Hp} {s:Shared} {d:Addr} {o:Obj} {kvs:List (Key × V)} (I:Inv X pins σ H s) (hd:H d = some (.frz o (.dK kvs))) (h0:X.H₀ d = none):Inv X pins σ (upd H d (.dK kvs)) s:=by
 have nn:∀ b,H b = none → b ≠ d:=fun b e c=>by rw [c,hd] at e;cases e
 refine ⟨I.ok,I.os,I.bare,⟨I.base.keep,I.base.slot,fun b u q n hx=>?_,I.base.there,fun b xs q=>?_,fun b u x q=>?_,fun b ps q=>?_⟩,I.loc,I.cell,?_,fun x c e=>?_,fun p hp=>?_,fun b u e=>?_,I.len⟩
 ·have:=I.base.free b u q n hx
  rw [aP (nn b this)]
  exact this
 ·rw [aP (aL q h0)]
  exact I.base.tups b xs q
 ·rw [aP (aL q h0)]
  exact I.base.frzs b u x q
 ·rw [aP (aL q h0)]
  exact I.base.tbls b ps q
 ·rw [aP (nn _ I.free)]
  exact I.free
 ·rw [aP (nn _ (I.freeC x c e))]
  exact I.freeC x c e
 ·obtain ⟨a,b,c⟩:=I.pin p hp
  exact ⟨a,by rw [aP (nn _ b)];exact b,c⟩
 ·by_cases hb:b = d
  ·subst hb
   rw [aB] at e
   cases e
   obtain ⟨_,x⟩:=(show cW X.prog X.w H s.heap b (.frz o (.dK kvs)) from I.hok b _ hd)
   exact x
  ·rw [aP hb] at e
   refine (I.hok b u e).stay (fun c v _ q=>q) (fun c q=>?_) fun c xs q=>?_
   ·rw [aP (fun z=>by rw [z,hd] at q;cases q)];exact q
   ·rw [aP (fun z=>by rw [z,hd] at q;cases q)];exact q
theorem aFV:MtR X "dict.clear" (fun x vs H Q=>∃ d kvs,x = .ref d ∧ vs = [] ∧ (H d = some (.dK kvs) ∨ ∃ o,H d = some (.frz o (.dK kvs)) ∧ X.H₀ d = none) ∧ Q .non (upd H d (.dK []))):=by
 intro pins s σ H x vs v us Q I rx rv h
 obtain ⟨d,kvs,rfl,rfl,hq,q⟩:=h
 cases rx
 have hus:=rv.zero
 subst hus
 have key:∀ H1:Hp,Inv X pins σ H1 s → H1 d = some (.dK kvs) → upd H1 d (.dK []) = upd H d (.dK []) → wpAny (model X.prog X.w) X.A (call (.builtin "dict.clear") [.ref d]) (EP X pins σ Q) X.xe s:=fun H1 I1 e1 e2=>by
  obtain ⟨hz,lo,ws,kv,hD⟩:=(show cW X.prog X.w H1 s.heap d (.dK kvs) from I1.hok d _ e1)
  have l1:=KV.length kv
  refine call_meetsIn PySem.F.slot_dict_clear hD.typeIs PySem.F.entry_dict_clear (PySem.F.args_dict_clear_1 _) (meets_dict_clear (knd:=bB X.prog X.w) (d:=d)) ⟨ws,hD,by omega,fun h' hd' hs=>?_⟩
  have hg:∃ z,h'.get? d = some z:=by
   obtain ⟨ob,_,_,e,_⟩:=hd'
   exact ⟨ob,e⟩
  refine ⟨.non,_,I1.write (t':=s.toks) (x:=d) (e:=d) (o:=.dK []) (by rw [e1];trivial) (.inl rfl) (fun b z nb e=>(hs.2 b nb).trans e) hg ⟨Nat.zero_le _,lo,[],.nil,hd'⟩,rfl,?_⟩
  rw [e2]
  exact q
 rcases hq with e | ⟨o,e,h0⟩
 ·exact key H I e rfl
 ·exact key _ (I.thaw e h0) aB aJO
end
end L2
namespace L2
open PySem PySem.Spec PyProof.Rows
def aPA (r:V → List V → Hp → VK → Prop) (to:TE):TE:=fun σ H Q=>to σ H fun x H1=>(∃ p kvs,x = .ref p ∧ Rd H1 p (.dK kvs)) ∧ r x [] H1 Q
section
variable {X:Cx} {o:Expr} {to:TE} {name:Str} {apos cpos:Pos} {id:String} {r:V → List V → Hp → VK → Prop}
theorem aMB (slot:Slot "dict" name id) (hty:typeOf (.builtin id) = pure (.type "method_descriptor")) (hm:MtR X id r) (ho:PE X o to)
  (hbase:attributeBase o name X.env (eval o X.env) = eval o X.env:=by rfl) (hline:(apos.endLine == cpos.line) = true:=by rfl):PE X (.Call (.Attribute o name apos) [] [] cpos) (aPA r to):=by
 intro pins s σ H Q I h
 refine wpAny_Call_method0_late hbase hline (thn (ho pins s σ H _ I h) fun v s1 ⟨x,H1,I1,r1,⟨p,kvs,e,hq⟩,q1⟩=>?_)
 subst e
 cases r1
 obtain ⟨_,_,_,_,ob,_,_,e,ex,_⟩:=hq.ok I1.hok
 have h2:∀ a,Value.ref p = .ref a → ∃ ob,s1.heap.get? a = some ob ∧ ob.dict = none:=fun a e2=>by
  cases e2
  exact ⟨ob,e,ex.2.1⟩
 exact ⟨"dict",id,PySem.F.plainAttrs_dict,slot,hty,⟨ob,e,ex.1⟩,h2,Calls.callWith_builtin rfl (PySem.evalArgs_none (hm pins s1 σ H1 (.ref p) [] _ [] Q I1 rfl .nil q1))⟩
end
end L2
namespace L2
open PySem PySem.Spec PyProof.Rows
section
variable {X:Cx}
theorem pF:iF X (.type "dict") (fun xs H Q=>∃ (p:Addr) (kvs:List (Key × V)),xs = [.ref p] ∧ H p = some (.dK kvs) ∧ ∀ l,H l = none → Q (.ref l) (upd H l (.dK kvs))):=by
 intro pins s σ H xs us Q I r h
 obtain ⟨p,kvs,rfl,hp,q⟩:=h
 obtain ⟨u,rfl,ru⟩:=bS.one r
 cases ru
 obtain ⟨hz,lo,ws,kv,hD⟩:=(show cW X.prog X.w H s.heap p (.dK kvs) from I.hok p _ hp)
 have l1:=KV.length kv
 refine kt_call_dict lo hD (by omega) fun h' hD' hs=>?_
 have k:∀ b o,s.heap.get? b = some o → h'.get? b = some o:=fun b o e=>(hs.2 b (Nat.ne_of_lt (Heap.lt_size e))).trans (Heap.get?_push_of_some _ e)
 refine ⟨.ref s.heap.objs.size,_,I.laid (t':=s.toks) k (Nat.le_refl _) (show cW X.prog X.w _ h' _ (.dK kvs) from ⟨hz,?_,ws,kv,hD'⟩),rfl,q _ (I.hok.fresh (Nat.le_refl _))⟩
 have b:=I.big
 exact beq_eq_false_iff_ne.mpr (Nat.ne_of_gt b)
end
end L2
namespace Mt46
open PySem L2 Ld Mt21
def units:List Int:=[1,3,5,7,9,11,15,17,19,21,23,25]
theorem aGR:∀ u ∈ units,∀ d ∈ List.range 26,d ≠ 0 → ((d:Int) * u) % 26 ≠ 0:=by decide +kernel
theorem aMT {i j:Int} (e:ab i = ab j):i % 26 = j % 26:=by
 unfold ab at e
 have h1:=Int.emod_nonneg i (show (26:Int) ≠ 0 by decide)
 have h2:=Int.emod_nonneg j (show (26:Int) ≠ 0 by decide)
 omega
theorem aDU {u r:Int} (hu:u ∈ units) {k l:Nat} (hl:l < 26) (h:k < l) (e:ab ((k:Int) * u + r) = ab ((l:Int) * u + r)):False:=by
 have e1:=(Int.emod_eq_emod_iff_emod_sub_eq_zero).mp (aMT e.symm)
 have e2:(l:Int) * u + r - ((k:Int) * u + r) = ((l - k:Nat):Int) * u:=by
  rw [Int.ofNat_sub (by omega),Int.sub_mul]
  omega
 rw [e2] at e1
 exact aGR u hu (l - k) (List.mem_range.mpr (by omega)) (by omega) e1
theorem aGS {u r:Int} (hu:u ∈ units) {k l:Nat} (hk:k < 26) (hl:l < 26) (e:ab ((k:Int) * u + r) = ab ((l:Int) * u + r)):k = l:=by
 rcases Nat.lt_trichotomy k l with h | h | h
 ·exact (aDU hu hl h e).elim
 ·exact h
 ·exact (aDU hu hk h e.symm).elim
theorem aDH (a:Str):∀ l:List Str,l.Nodup → l.length ≤ (l.filter fun z=>!decide (z = a)).length + 1
 | [],_=>by simp
 | z :: l,nd=>by
  rw [List.nodup_cons] at nd
  by_cases h:z = a
  ·have e:(l.filter fun z=>!decide (z = a)) = l:=by
    rw [List.filter_eq_self]
    intro y my
    have:y ≠ a:=fun e=>nd.1 (by rw [h,← e];exact my)
    simp [this]
   rw [List.filter_cons_of_neg (by simp [h]),e]
   simp
  ·rw [List.filter_cons_of_pos (by simp [h])]
   have:=aDH a l nd.2
   simp only [List.length_cons]
   omega
structure Nm (zs:List Str):Prop where
 nd:zs.Nodup
 nm:∀ z ∈ zs,fV z = true
 l1:25 ≤ zs.length
 l2:zs.length ≤ 26
theorem aNW {b:Str} {sz pl:Nat} {u r:Int} {g:Nat → Str} (hb:b.cps.toList.all iY = true) (hl:b.length = sz) (h1:1 ≤ sz) (h8:sz ≤ 8) (hp:pl < sz) (hu:u ∈ units)
  (pu:∀ k,k < 26 → (g k).cps.toList = b.cps.toList.take pl ++ [ab ((k:Int) * u + r)] ++ b.cps.toList.drop (pl + 1)):Nm (((List.range 26).map g).filter fun z=>!decide (z = "sea")):=by
 have bl:b.cps.toList.length = sz:=by rw [← kD];exact hl
 have lg:∀ k,k < 26 → (g k).length = sz:=fun k hk=>by
  rw [kD,pu k hk,List.length_append,List.length_append,List.length_take,List.length_drop,bl]
  show min pl sz + 1 + (sz - (pl + 1)) = sz
  omega
 have nd:((List.range 26).map g).Nodup:=aBO fun k l hk hl e=>by
  have e1:(g k).cps.toList = (g l).cps.toList:=by rw [e]
  rw [pu k hk,pu l hl,List.append_assoc,List.append_assoc] at e1
  have e2:=List.append_cancel_left e1
  rw [List.singleton_append,List.singleton_append] at e2
  exact aGS hu hk hl (List.cons.inj e2).1
 have ln:=aDH "sea" _ nd
 rw [List.length_map,List.length_range] at ln
 have lf:=List.length_filter_le (fun z=>!decide (z = ("sea":Str))) ((List.range 26).map g)
 rw [List.length_map,List.length_range] at lf
 refine ⟨nd.sublist List.filter_sublist,fun z mz=>?_,by omega,lf⟩
 obtain ⟨m1,m2⟩:=List.mem_filter.mp mz
 obtain ⟨k,mk,rfl⟩:=List.mem_map.mp m1
 have hk:=List.mem_range.mp mk
 have all:(g k).cps.toList.all iY = true:=by
  rw [pu k hk,List.all_append,List.all_append]
  have hb':=List.all_eq_true.mp hb
  rw [List.all_eq_true.mpr fun x m=>hb' x (List.mem_of_mem_take m),List.all_eq_true.mpr fun x m=>hb' x (List.mem_of_mem_drop m)]
  simp [yN]
 unfold fV
 rw [lg k hk,decide_eq_true h1,decide_eq_true h8,m2,all]
 rfl
theorem aPO {i:Int} (h0:0 ≤ i) (h1:i < 12):∃ u ∈ units,atI ([.int 1,.int 3,.int 5,.int 7,.int 9,.int 11,.int 15,.int 17,.int 19,.int 21,.int 23,.int 25]:List V) i = some (.int u):=by
 obtain ⟨k,rfl⟩:=Int.eq_ofNat_of_zero_le h0
 have hk:k < 12:=by omega
 have hk2:k < units.length:=hk
 refine ⟨units[k],List.getElem_mem hk2,aH ?_⟩
 show (units.map V.int)[k]? = some (V.int units[k])
 rw [List.getElem?_map,List.getElem?_eq_getElem hk2]
 rfl
end Mt46
namespace L2
open PySem PySem.Spec PyProof.Rows
section
variable {prog:Program} {w:World} {A:Around} {E:Value → Shared → Prop} {s:Shared}
theorem aBY {it t:Addr} {items:Array Value} (hne:t ≠ it):∀ (n i:Nat) (s:Shared) (Q:List Value → Shared → Prop),s.heap.IsListIter it t i → s.heap.IsList t items → i + n ≤ items.size →
  (∀ h',h'.IsListIter it t (i + n) → Heap.SameBut it s.heap h' → Q ((items.toList.drop i).take n) { s with heap:=h' }) → wpAny (model prog w) A (draw (.ref it) n) Q E s
 | 0,i,s,Q,hit,_,_,hQ=>by
  show wpAny _ _ (pure []) Q E s
  exact wpAny_pure (by simpa using hQ s.heap hit (Heap.SameBut.refl ..))
 | n + 1,i,s,Q,hit,ht,hle,hQ=>by
  have hlt:i < items.size:=by omega
  show wpAny _ _ (pyNext (.ref it) >>= _) Q E s
  refine wpAny_bind (wpAny_pyNext_list_item hit ht (x:=items[i]) (by simp [hlt]) fun h₁ hit₁ hs₁=>?_)
  refine wpAny_bind (wpAny_holding (aBY hne n (i + 1) _ _ hit₁ (ht.extBut hs₁.extBut hne) (by omega) fun h₂ hit₂ hs₂=>wpAny_pure ?_))
  have hd:items.toList.drop i = items[i] :: items.toList.drop (i + 1):=by simp [List.drop_eq_getElem_cons,hlt]
  have:=hQ h₂ (by rw [show i + (n + 1) = i + 1 + n by omega];exact hit₂) (hs₁.trans hs₂)
  rw [hd,List.take_succ_cons] at this
  exact this
theorem tD {t:Addr} {items:Array Value} {Q:List Value → Shared → Prop} (hh:A.handled = none) (ht:s.heap.IsList t items)
  (hQ:∀ h',Heap.ExtBut s.heap.objs.size s.heap h' → Q items.toList { s with heap:=h' }):wpAny (model prog w) A (unpackItems (.ref t) items.size none) Q E s:=by
 have hlt:t ≠ s.heap.objs.size:=by obtain ⟨o,ho,_⟩:=ht;exact Nat.ne_of_lt (Heap.lt_size ho)
 unfold unpackItems
 refine wpAny_bind ?_
 ·unfold notIterableAtAll
  refine wpAny_bind (wpAny_specialOf ht.typeIs slot_list_iter.lookup ?_)
  refine wpAny_pure ?_
  simp only [Bool.false_eq_true,if_false]
  refine wpAny_bind (wpAny_holding (wpAny_pyIter_list ht ?_))
  refine wpAny_bind (wpAny_holding (aBY hlt items.size 0 _ _ ⟨_,Heap.get?_push_size _ rfl,rfl,rfl⟩ (ht.push _) (by omega) fun h₁ hit₁ hs₁=>?_))
  have hall:List.take items.size (List.drop 0 items.toList) = items.toList:=by
   rw [List.drop_zero];exact List.take_of_length_le (by simp)
  rw [hall]
  rw [if_neg (by simp)]
  have ht₁:h₁.IsList t items:=(ht.push _).extBut hs₁.extBut hlt
  refine wpAny_bind (wpAny_holding (wpAny_pyNext_list_end hh hit₁ ht₁ (by simp) fun h₂ he₂=>?_))
  simp only [Option.isSome_none,Bool.false_eq_true,if_false]
  refine wpAny_pure (hQ h₂ fun b o hb e=>he₂ b o hb (hs₁.extBut b o hb (Heap.get?_push_of_some _ e)))
theorem sL {env:Env} {elts:List Expr} {x1} {pos:Pos} {t:Addr} {items:Array Value} {Q:Unit → Shared → Prop} (hh:A.handled = none) (ht:s.heap.IsList t items)
  (hn:(assignEach elts env).length = items.size) (hstar:(assignEach elts env).findIdx? (·.1) = none)
  (h:∀ h',Heap.ExtBut s.heap.objs.size s.heap h' → wpAny (model prog w) A (assignInOrder ((assignEach elts env).map (·.2)) items.toList) Q E { s with heap:=h' }) :
  wpAny (model prog w) A (assign (.Tuple elts x1 pos) env (.ref t)) Q E s:=by
 rw [assign_Tuple]
 refine wpAny_bind (wpAny_standAt ?_)
 unfold unpack
 rw [hn,hstar]
 exact wpAny_bind (wpAny_holding (tD hh ht h))
end
section
variable {X:Cx} {pos:Pos}
def aOG (K:PySem.W.Frag) (n:Nat) (t:TGs):TG:=fun v σ H Q=>∃ a xs,v = .ref a ∧ SqL K H a xs ∧ xs.length = n ∧ t xs σ H Q
theorem aEO {es:List Expr} {k:Nat} {t:TGs} {n:Nat} (hc:X.calm = true) (h:PGs X es t)
  (hn:(assignEach es X.env).length = n:=by rfl) (hst:(assignEach es X.env).findIdx? (·.1) = none:=by rfl):PG X (.Tuple es k pos) (aOG X.K n t):=by
 intro pins s σ H v u Q I r hw
 obtain ⟨a,xs,e1,hq,hl,hw⟩:=hw
 subst e1
 cases r
 obtain ⟨its,rv,⟨o,m,e,c1,c2,c3⟩,hz⟩:=I.list hq
 refine sL (I.ok.hd hc) ⟨o,e,c1,m,c3⟩ (by simp [hn,← hl,rv.length]) hst fun h' hx=>?_
 have I1:Inv X pins σ H { s with heap:=h' }:=I.kept (t':=s.toks) fun b o e=>hx b o (Nat.ne_of_lt (Heap.lt_size e)) e
 exact h pins _ σ H xs _ Q I1 (by simpa using rv) hw
end
end L2
namespace L2
open PySem PySem.Spec PyProof.Rows
section
variable {X:Cx} {K:PySem.W.Frag}
theorem mI {ex:Expr} {T:String} {r:V → List V → Hp → VK → Prop} {to:TE} {ta:TA} (e:X.K = K) (h:PE X ex (tBM X.K T r to ta)):PE X ex (tBM K T r to ta):=e ▸ h
theorem bJ {tg l:Expr} {tl:TE} (e:X.K = K) (h:PI X tg l (aIQ X.K tl)):PI X tg l (aIQ K tl):=e ▸ h
theorem nK {pos:Pos} {es:List Expr} {k n:Nat} {t:TGs} (e:X.K = K) (m:Nat) (en:n = m) (h:PG X (.Tuple es k pos) (aMM X.K n t)):PG X (.Tuple es k pos) (aMM K m t):=by
 subst e
 subst en
 exact h
theorem xY {i:Nat} {v:V} {tb:TS} {D:Ends} {σ:St} {H:Hp} (h:∀ D':Ends,(∀ σ' H',D.nx σ' H' → D'.nx σ' H') → tb D' (σ.set i (some v)) H):qA i v σ H fun σ2 H2=>tb D σ2 H2:=h D fun _ _ x=>x
theorem aAF {g:TG} {x:V} {tb:TS} {D:Ends} {σ:St} {H:Hp} (h:∀ D':Ends,(∀ σ' H',D.nx σ' H' → D'.nx σ' H') → g x σ H fun σ2 H2=>tb D' σ2 H2):g x σ H fun σ2 H2=>tb D σ2 H2:=h D fun _ _ x=>x
theorem aHO {a b:TS} {D:Ends} {σ:St} {H:Hp} (h:∀ u:TS,(∀ D' σ' H',b D' σ' H' → u D' σ' H') → nB a u D σ H):nB a b D σ H:=h b fun _ _ _ x=>x
theorem kI {a1 a2 b:TS} {D:Ends} {σ:St} {H:Hp} (h:∀ u:TS,(∀ D' σ' H',b D' σ' H' → u D' σ' H') → nB a1 (nB a2 u) D σ H):nB a1 (nB a2 b) D σ H:=h b fun _ _ _ x=>x
theorem uP {a1 a2 a3 b:TS} {D:Ends} {σ:St} {H:Hp} (h:∀ u:TS,(∀ D' σ' H',b D' σ' H' → u D' σ' H') → nB a1 (nB a2 (nB a3 u)) D σ H):nB a1 (nB a2 (nB a3 b)) D σ H:=h b fun _ _ _ x=>x
end
end L2
namespace K49
open PySem L2
local macro_rules | `(tactic| trivial)=>`(tactic| first | exact .inl rfl | exact .inr rfl | assumption)
def top (i:Nat):Stmt:=PySem.Challenge.pw_dykemoot_k49_led_on.main.body.getD i (.Pass ⟨0,0,0,0⟩)
abbrev qX:Stmt:=top 0
abbrev iL:Stmt:=top 16
theorem wX:FnScope ["thing"] ["thing"] (aF iL):=⟨rfl,rfl,rfl,by decide +kernel,rfl,by decide +kernel,by decide +kernel⟩
abbrev jK:Stmt:=top 17
theorem yY:FnScope ["thing"] ["thing"] (aF jK):=⟨rfl,rfl,rfl,by decide +kernel,rfl,by decide +kernel,by decide +kernel⟩
abbrev gR:Stmt:=top 18
theorem uQ:FnScope ["thing"] ["thing"] (aF gR):=⟨rfl,rfl,rfl,by decide +kernel,rfl,by decide +kernel,by decide +kernel⟩
abbrev gU:Stmt:=top 19
theorem uT:FnScope ["thing"] ["thing"] (aF gU):=⟨rfl,rfl,rfl,by decide +kernel,rfl,by decide +kernel,by decide +kernel⟩
abbrev gQ:Stmt:=top 20
theorem oK:FnScope ["thing","names"] ["thing","names"] (aF gQ):=⟨rfl,rfl,rfl,by decide +kernel,rfl,by decide +kernel,by decide +kernel⟩
abbrev gD:Stmt:=top 21
theorem tI:FnScope ["thing","most"] ["thing","most"] (aF gD):=⟨rfl,rfl,rfl,by decide +kernel,rfl,by decide +kernel,by decide +kernel⟩
abbrev fN:Stmt:=top 22
theorem rO:FnScope ["thing","length"] ["thing","length"] (aF fN):=⟨rfl,rfl,rfl,by decide +kernel,rfl,by decide +kernel,by decide +kernel⟩
abbrev gC:Stmt:=top 23
theorem tH:FnScope ["rows"] ["rows"] (aF gC):=⟨rfl,rfl,rfl,by decide +kernel,rfl,by decide +kernel,by decide +kernel⟩
abbrev iM:Stmt:=top 24
theorem wY:FnScope ["thing"] ["thing"] (aF iM):=⟨rfl,rfl,rfl,by decide +kernel,rfl,by decide +kernel,by decide +kernel⟩
abbrev gE:Stmt:=top 25
theorem tJ:FnScope ["thing"] ["thing"] (aF gE):=⟨rfl,rfl,rfl,by decide +kernel,rfl,by decide +kernel,by decide +kernel⟩
abbrev gX:Stmt:=top 26
theorem uV:FnScope ["one","other","sides"] ["one","other","sides"] (aF gX):=⟨rfl,rfl,rfl,by decide +kernel,rfl,by decide +kernel,by decide +kernel⟩
abbrev jJ:Stmt:=top 27
theorem yX:FnScope ["thing","crown"] ["thing","crown"] (aF jJ):=⟨rfl,rfl,rfl,by decide +kernel,rfl,by decide +kernel,by decide +kernel⟩
abbrev jL:Stmt:=top 28
theorem yZ:FnScope ["thing","sides"] ["thing","sides"] (aF jL):=⟨rfl,rfl,rfl,by decide +kernel,rfl,by decide +kernel,by decide +kernel⟩
abbrev gY:Stmt:=top 29
theorem uW:FnScope ["thing","sides"] ["thing","sides"] (aF gY):=⟨rfl,rfl,rfl,by decide +kernel,rfl,by decide +kernel,by decide +kernel⟩
abbrev jI:Stmt:=top 30
theorem yW:FnScope ["land","thing"] ["land","thing"] (aF jI):=⟨rfl,rfl,rfl,by decide +kernel,rfl,by decide +kernel,by decide +kernel⟩
abbrev gW:Stmt:=top 31
theorem uU:FnScope ["land","thing"] ["land","thing"] (aF gW):=⟨rfl,rfl,rfl,by decide +kernel,rfl,by decide +kernel,by decide +kernel⟩
abbrev gA:Stmt:=top 32
theorem tG:FnScope ["dyke","crown"] ["dyke","crown"] (aF gA):=⟨rfl,rfl,rfl,by decide +kernel,rfl,by decide +kernel,by decide +kernel⟩
abbrev iN:Stmt:=eJ (top 33) 0
theorem wZ:FnScope ["self","fields","dykes"] ["self","fields","dykes"] (aF iN):=⟨rfl,rfl,rfl,by decide +kernel,rfl,by decide +kernel,by decide +kernel⟩
abbrev fR:Stmt:=eJ (top 33) 1
theorem rQ:FnScope ["self"] ["self"] (aF fR):=⟨rfl,rfl,rfl,by decide +kernel,rfl,by decide +kernel,by decide +kernel⟩
abbrev gG:Stmt:=eJ (top 33) 2
theorem tK:FnScope ["self"] ["self"] (aF gG):=⟨rfl,rfl,rfl,by decide +kernel,rfl,by decide +kernel,by decide +kernel⟩
abbrev dL:Stmt:=eJ (top 33) 3
theorem oE:FnScope ["self"] ["self"] (aF dL):=⟨rfl,rfl,rfl,by decide +kernel,rfl,by decide +kernel,by decide +kernel⟩
abbrev dP:Stmt:=eJ (top 33) 4
theorem oN:FnScope ["self"] ["self"] (aF dP):=⟨rfl,rfl,rfl,by decide +kernel,rfl,by decide +kernel,by decide +kernel⟩
abbrev fE:Stmt:=eJ (top 33) 5
theorem qW:FnScope ["self"] ["self"] (aF fE):=⟨rfl,rfl,rfl,by decide +kernel,rfl,by decide +kernel,by decide +kernel⟩
abbrev fQ:Stmt:=eJ (top 33) 6
theorem rP:FnScope ["self","field"] ["self","field"] (aF fQ):=⟨rfl,rfl,rfl,by decide +kernel,rfl,by decide +kernel,by decide +kernel⟩
abbrev jC:Stmt:=eJ (top 33) 7
abbrev gZ:Stmt:=eJ (top 33) 8
theorem uX:FnScope ["self","name"] ["self","name"] (aF gZ):=⟨rfl,rfl,rfl,by decide +kernel,rfl,by decide +kernel,by decide +kernel⟩
abbrev fP:Stmt:=eJ (top 33) 9
theorem iX:FnScope ["self","works","crowns","dykes"] ["self","works"] (aF fP):=⟨rfl,rfl,rfl,by decide +kernel,rfl,by decide +kernel,by decide +kernel⟩
abbrev eS:Stmt:=top 35
theorem kK:FnScope ["land","thing","sluices"] ["land","thing"] (aF eS):=⟨rfl,rfl,rfl,by decide +kernel,rfl,by decide +kernel,by decide +kernel⟩
abbrev kL:Stmt:=top 36
theorem aAT:FnScope ["land","opened"] ["land","opened"] (aF kL):=⟨rfl,rfl,rfl,by decide +kernel,rfl,by decide +kernel,by decide +kernel⟩
abbrev fC:Stmt:=top 37
theorem eO:FnScope ["land","stand_of","steps","dyke","near","far"] ["land","stand_of"] (aF fC):=⟨rfl,rfl,rfl,by decide +kernel,rfl,by decide +kernel,by decide +kernel⟩
abbrev eR:Stmt:=top 38
theorem cA:FnScope ["land","opened","steps","lowest","turn","name","near","far","height","reached"] ["land","opened"] (aF eR):=⟨rfl,rfl,rfl,by decide +kernel,rfl,by decide +kernel,by decide +kernel⟩
abbrev gT:Stmt:=top 46
theorem uS:FnScope ["number","turn"] ["number","turn"] (aF gT):=⟨rfl,rfl,rfl,by decide +kernel,rfl,by decide +kernel,by decide +kernel⟩
abbrev fD:Stmt:=top 47
theorem qV:FnScope ["thing","fields"] ["thing","fields"] (aF fD):=⟨rfl,rfl,rfl,by decide +kernel,rfl,by decide +kernel,by decide +kernel⟩
abbrev gS:Stmt:=top 48
theorem uR:FnScope ["thing","sluices","fields"] ["thing","sluices","fields"] (aF gS):=⟨rfl,rfl,rfl,by decide +kernel,rfl,by decide +kernel,by decide +kernel⟩
abbrev fO:Stmt:=top 49
theorem iW:FnScope ["land","thing","sluices","fields"] ["land","thing"] (aF fO):=⟨rfl,rfl,rfl,by decide +kernel,rfl,by decide +kernel,by decide +kernel⟩
abbrev eT:Stmt:=top 50
theorem qD:FnScope ["land","thing"] ["land","thing"] (aF eT):=⟨rfl,rfl,rfl,by decide +kernel,rfl,by decide +kernel,by decide +kernel⟩
abbrev kN:Stmt:=top 51
theorem aAV:FnScope ["decrees"] ["decrees"] (aF kN):=⟨rfl,rfl,rfl,by decide +kernel,rfl,by decide +kernel,by decide +kernel⟩
abbrev dO:Stmt:=top 52
theorem oM:FnScope ["condition","level","wet","day"] ["condition","level","wet","day"] (aF dO):=⟨rfl,rfl,rfl,by decide +kernel,rfl,by decide +kernel,by decide +kernel⟩
abbrev lY:Stmt:=top 53
theorem aCT:FnScope ["decree","level","wet","day"] ["decree","level","wet","day"] (aF lY):=⟨rfl,rfl,rfl,by decide +kernel,rfl,by decide +kernel,by decide +kernel⟩
abbrev gP:Stmt:=top 54
theorem kJ:FnScope ["land","decrees","opened","level","wet","day","stand_open","decree"] ["land","decrees","opened","level","wet","day"] (aF gP):=⟨rfl,rfl,rfl,by decide +kernel,rfl,by decide +kernel,by decide +kernel⟩
abbrev kM:Stmt:=top 56
theorem aAU:FnScope ["height","ground","level","was_wet"] ["height","ground","level","was_wet"] (aF kM):=⟨rfl,rfl,rfl,by decide +kernel,rfl,by decide +kernel,by decide +kernel⟩
abbrev gB:Stmt:=top 57
theorem nW:FnScope ["land","opened","level","before","heights"] ["land","opened","level","before"] (aF gB):=⟨rfl,rfl,rfl,by decide +kernel,rfl,by decide +kernel,by decide +kernel⟩
abbrev fX:Stmt:=eJ (top 58) 0
theorem tE:FnScope ["self","land","decrees"] ["self","land","decrees"] (aF fX):=⟨rfl,rfl,rfl,by decide +kernel,rfl,by decide +kernel,by decide +kernel⟩
abbrev fZ:Stmt:=eJ (top 58) 1
theorem jR:FnScope ["self","level","land","name"] ["self","level"] (aF fZ):=⟨rfl,rfl,rfl,by decide +kernel,rfl,by decide +kernel,by decide +kernel⟩
abbrev hJ:Stmt:=eJ (top 58) 2
abbrev eQ:Stmt:=eJ (top 58) 3
theorem qC:FnScope ["self"] ["self"] (aF eQ):=⟨rfl,rfl,rfl,by decide +kernel,rfl,by decide +kernel,by decide +kernel⟩
abbrev fY:Stmt:=eJ (top 58) 4
theorem tF:FnScope ["self"] ["self"] (aF fY):=⟨rfl,rfl,rfl,by decide +kernel,rfl,by decide +kernel,by decide +kernel⟩
abbrev fB:Stmt:=eJ (top 58) 5
theorem qU:FnScope ["self"] ["self"] (aF fB):=⟨rfl,rfl,rfl,by decide +kernel,rfl,by decide +kernel,by decide +kernel⟩
abbrev dN:Stmt:=eJ (top 58) 6
theorem oJ:FnScope ["self"] ["self"] (aF dN):=⟨rfl,rfl,rfl,by decide +kernel,rfl,by decide +kernel,by decide +kernel⟩
abbrev fM:Stmt:=eJ (top 58) 7
theorem lW:FnScope ["self","land","season"] ["self","land"] (aF fM):=⟨rfl,rfl,rfl,by decide +kernel,rfl,by decide +kernel,by decide +kernel⟩
abbrev mD:Stmt:=top 60
theorem qE:FnScope ["_law_script","_law_k","_law_number"] ["_law_script","_law_k"] (aF mD):=⟨rfl,rfl,rfl,by decide +kernel,rfl,by decide +kernel,by decide +kernel⟩
abbrev mC:Stmt:=top 61
theorem fJ:FnScope ["_law_cell","_law_letters","_law_size","_law_place","_law_by","_law_base","_law_found","_law_k","_law_sign"] ["_law_cell"] (aF mC):=⟨rfl,rfl,rfl,by decide +kernel,rfl,by decide +kernel,by decide +kernel⟩
abbrev kR:Stmt:=top 62
theorem aAW:FnScope ["_law_cell"] ["_law_cell"] (aF kR):=⟨rfl,rfl,rfl,by decide +kernel,rfl,by decide +kernel,by decide +kernel⟩
abbrev kT:Stmt:=top 63
theorem iB:FnScope ["_law_script","_law_most","_law_names_here","_law_fields_here","_law_k","_law_cell","_law_dues"] ["_law_script","_law_most"] (aF kT):=⟨rfl,rfl,rfl,by decide +kernel,rfl,by decide +kernel,by decide +kernel⟩
abbrev mF:Stmt:=top 64
theorem dD:FnScope ["_law_script","_law_at","_law_most","_law_fields_here","_law_names_here","_law_sides","_law_dykes_here","_law_k","_law_cell","_law_one","_law_others","_law_other","_law_crown","_law_rate","_law_sill"] ["_law_script","_law_at","_law_most","_law_fields_here"] (aF mF):=⟨rfl,rfl,rfl,by decide +kernel,rfl,by decide +kernel,by decide +kernel⟩
abbrev kO:Stmt:=top 65
theorem fH:FnScope ["_law_dykes_here","_law_opened_here","_law_told_stands","_law_name","_law_one","_law_other","_law_crown","_law_rate","_law_sill"] ["_law_dykes_here","_law_opened_here"] (aF kO):=⟨rfl,rfl,rfl,by decide +kernel,rfl,by decide +kernel,by decide +kernel⟩
abbrev kS:Stmt:=top 66
theorem bZ:FnScope ["_law_fields_here","_law_dykes_here","_law_told_stands","_law_found","_law_turn","_law_name","_law_one","_law_other","_law_crown","_law_rate","_law_sill","_law_start","_law_goal","_law_ground","_law_height_here","_law_told","_law_dues"] ["_law_fields_here","_law_dykes_here","_law_told_stands"] (aF kS):=⟨rfl,rfl,rfl,by decide +kernel,rfl,by decide +kernel,by decide +kernel⟩
abbrev jM:Stmt:=top 67
theorem eP:FnScope ["_law_script","_law_at","_law_most","_law_fields_here","_law_dykes_here","_law_sluices","_law_decrees_here","_law_k","_law_cell","_law_conditions","_law_j","_law_spot"] ["_law_script","_law_at","_law_most","_law_fields_here","_law_dykes_here"] (aF jM):=⟨rfl,rfl,rfl,by decide +kernel,rfl,by decide +kernel,by decide +kernel⟩
abbrev hE:Stmt:=top 68
theorem eA:FnScope ["_law_cell","_law_fields_here","_law_height_here","_law_name","_law_turn","_law_some"] ["_law_cell","_law_fields_here"] (aF hE):=⟨rfl,rfl,rfl,by decide +kernel,rfl,by decide +kernel,by decide +kernel⟩
abbrev mE:Stmt:=top 69
theorem nF:FnScope ["_law_conditions","_law_level","_law_wet_here","_law_day","_law_one","_law_good"] ["_law_conditions","_law_level","_law_wet_here","_law_day"] (aF mE):=⟨rfl,rfl,rfl,by decide +kernel,rfl,by decide +kernel,by decide +kernel⟩
abbrev kQ:Stmt:=top 70
theorem fI:FnScope ["_law_dykes_here","_law_decrees_here","_law_opened_here","_law_level","_law_wet_here","_law_day","_law_found","_law_dyke","_law_told_stands","_law_deed","_law_name","_law_conditions"] ["_law_dykes_here","_law_decrees_here","_law_opened_here","_law_level","_law_wet_here","_law_day"] (aF kQ):=⟨rfl,rfl,rfl,by decide +kernel,rfl,by decide +kernel,by decide +kernel⟩
abbrev qY:Stmt:=top 71
theorem lX:FnScope ["_law_fields_here","_law_heights","_law_wet_here","_law_level","_law_found","_law_name","_law_ground","_law_dues","_law_height_here"] ["_law_fields_here","_law_heights","_law_wet_here","_law_level"] (aF qY):=⟨rfl,rfl,rfl,by decide +kernel,rfl,by decide +kernel,by decide +kernel⟩
abbrev lZ:Stmt:=top 72
theorem aCU:FnScope ["_law_found"] ["_law_found"] (aF lZ):=⟨rfl,rfl,rfl,by decide +kernel,rfl,by decide +kernel,by decide +kernel⟩
abbrev mB:Stmt:=top 73
theorem uY:FnScope ["_law_season","_law_due","_law_number","_law_soaked","_law_found"] ["_law_season","_law_due","_law_number","_law_soaked"] (aF mB):=⟨rfl,rfl,rfl,by decide +kernel,rfl,by decide +kernel,by decide +kernel⟩
abbrev oO:Stmt:=top 74
theorem fA:FnScope ["_law_season","_law_fields_here","_law_dykes_here","_law_decrees_here","_law_levels","_law_before","_law_opened_here","_law_wet_here","_law_number","_law_soaked","_law_level","_law_name"] ["_law_season","_law_fields_here","_law_dykes_here","_law_decrees_here","_law_levels","_law_before"] (aF oO):=⟨rfl,rfl,rfl,by decide +kernel,rfl,by decide +kernel,by decide +kernel⟩
abbrev kP:Stmt:=top 75
theorem dJ:FnScope ["_law_dykes_here","_law_script","_law_works","_law_raised_here","_law_name","_law_one","_law_other","_law_crown","_law_rate","_law_sill","_law_cell","_law_height_here"] ["_law_dykes_here","_law_script"] (aF kP):=⟨rfl,rfl,rfl,by decide +kernel,rfl,by decide +kernel,by decide +kernel⟩
abbrev pM:Stmt:=top 76
theorem dZ:FnScope ["_law_script","_law_fields_here","_law_dykes_here","_law_decrees_here","_law_levels","_law_cut","_law_land","_law_season","_law_soaked","_law_here","_law_works","_law_raised_here","_law_other","_law_there","_law_third"] ["_law_script"] (aF pM):=⟨rfl,rfl,rfl,by decide +kernel,rfl,by decide +kernel,by decide +kernel⟩
structure Txt (K:PySem.W.Frag) (mg:Str → Option Value) (C:Addr):Prop where
 cl_Land:Cls K C
 mg_Land:mg "Land" = some (.ref C)
 a_field_rows:iA K C "field_rows"
 a_dyke_rows:iA K C "dyke_rows"
 i_Land:InitAt K C "Land.__init__" iN ["self","fields","dykes"]
 m_land_p_fields:MethAt K C "fields" "Land.fields" fR ["self"]
 m_land_p_dykes:MethAt K C "dykes" "Land.dykes" gG ["self"]
 m_land_p_field_names:MethAt K C "field_names" "Land.field_names" dL ["self"]
 m_land_p_dyke_names:MethAt K C "dyke_names" "Land.dyke_names" dP ["self"]
 m_land_p_sluices:MethAt K C "sluices" "Land.sluices" fE ["self"]
 m_land_p_ground:MethAt K C "ground" "Land.ground" fQ ["self","field"]
 m_land_p_dues:MethAt K C "dues" "Land.dues" jC ["self","field"]
 m_land_p_dyke:MethAt K C "dyke" "Land.dyke" gZ ["self","name"]
 m_land_p_raised:MethAt K C "raised" "Land.raised" fP ["self","works"]
 k_Season:∃ C_Season:Addr,Cls K C_Season ∧ mg "Season" = some (.ref C_Season) ∧ iA K C_Season "on_land" ∧ iA K C_Season "own_decrees" ∧ iA K C_Season "open_names" ∧ iA K C_Season "wet_names" ∧ iA K C_Season "day_count" ∧ iA K C_Season "wet_counts" ∧ InitAt K C_Season "Season.__init__" fX ["self","land","decrees"] ∧ MethAt K C_Season "day" "Season.day" fZ ["self","level"] ∧ MethAt K C_Season "days" "Season.days" hJ ["self","levels"] ∧ MethAt K C_Season "opened" "Season.opened" eQ ["self"] ∧ MethAt K C_Season "wet" "Season.wet" fY ["self"] ∧ MethAt K C_Season "count" "Season.count" fB ["self"] ∧ MethAt K C_Season "wet_days" "Season.wet_days" dN ["self"] ∧ MethAt K C_Season "onto" "Season.onto" fM ["self","land"]
 d_p_wall:DefAt K mg "_wall" qX ["k"]
 d_p_is_whole:DefAt K mg "is_whole" iL ["thing"]
 d_p_is_name:DefAt K mg "is_name" jK ["thing"]
 d_p_is_height:DefAt K mg "is_height" gR ["thing"]
 d_p_is_amount:DefAt K mg "is_amount" gU ["thing"]
 d_p_is_one_of:DefAt K mg "is_one_of" gQ ["thing","names"]
 d_p_is_list_of:DefAt K mg "is_list_of" gD ["thing","most"]
 d_p_is_tuple_of:DefAt K mg "is_tuple_of" fN ["thing","length"]
 d_p_none_twice:DefAt K mg "none_twice" gC ["rows"]
 d_p_is_field:DefAt K mg "is_field" iM ["thing"]
 d_p_are_fields:DefAt K mg "are_fields" gE ["thing"]
 d_p_are_sides:DefAt K mg "are_sides" gX ["one","other","sides"]
 d_p_is_sill:DefAt K mg "is_sill" jJ ["thing","crown"]
 d_p_is_dyke:DefAt K mg "is_dyke" jL ["thing","sides"]
 d_p_are_dykes:DefAt K mg "are_dykes" gY ["thing","sides"]
 d_p_is_work:DefAt K mg "is_work" jI ["land","thing"]
 d_p_are_works:DefAt K mg "are_works" gW ["land","thing"]
 d_p_with_crown:DefAt K mg "with_crown" gA ["dyke","crown"]
 d_p_check_sluices:DefAt K mg "check_sluices" eS ["land","thing"]
 d_p_stands:DefAt K mg "stands" kL ["land","opened"]
 d_p_steps_inland:DefAt K mg "steps_inland" fC ["land","stand_of"]
 d_p_flood_heights:DefAt K mg "flood_heights" eR ["land","opened"]
 d_p_is_day_of:DefAt K mg "is_day_of" gT ["number","turn"]
 d_p_is_condition:DefAt K mg "is_condition" fD ["thing","fields"]
 d_p_is_decree:DefAt K mg "is_decree" gS ["thing","sluices","fields"]
 d_p_are_decrees:DefAt K mg "are_decrees" fO ["land","thing"]
 d_p_check_decrees:DefAt K mg "check_decrees" eT ["land","thing"]
 d_p_copied:DefAt K mg "copied" kN ["decrees"]
 d_p_condition_holds:DefAt K mg "condition_holds" dO ["condition","level","wet","day"]
 d_p_holds:DefAt K mg "holds" lY ["decree","level","wet","day"]
 d_p_opened_by:DefAt K mg "opened_by" gP ["land","decrees","opened","level","wet","day"]
 d_p_is_wet:DefAt K mg "is_wet" kM ["height","ground","level","was_wet"]
 d_p_wet_fields:DefAt K mg "wet_fields" gB ["land","opened","level","before"]
 d_l_mixed:DefAt K mg "_law_mixed" mD ["_law_script","_law_k"]
 d_l_names:DefAt K mg "_law_names" mC ["_law_cell"]
 d_l_height:DefAt K mg "_law_height" kR ["_law_cell"]
 d_l_fields:DefAt K mg "_law_fields" kT ["_law_script","_law_most"]
 d_l_dykes:DefAt K mg "_law_dykes" mF ["_law_script","_law_at","_law_most","_law_fields_here"]
 d_l_stands:DefAt K mg "_law_stands" kO ["_law_dykes_here","_law_opened_here"]
 d_l_floods:DefAt K mg "_law_floods" kS ["_law_fields_here","_law_dykes_here","_law_told_stands"]
 d_l_decrees:DefAt K mg "_law_decrees" jM ["_law_script","_law_at","_law_most","_law_fields_here","_law_dykes_here"]
 d_l_condition:DefAt K mg "_law_condition" hE ["_law_cell","_law_fields_here"]
 d_l_holds:DefAt K mg "_law_holds" mE ["_law_conditions","_law_level","_law_wet_here","_law_day"]
 d_l_opened:DefAt K mg "_law_opened" kQ ["_law_dykes_here","_law_decrees_here","_law_opened_here","_law_level","_law_wet_here","_law_day"]
 d_l_wet:DefAt K mg "_law_wet" qY ["_law_fields_here","_law_heights","_law_wet_here","_law_level"]
 d_l_whole:DefAt K mg "_law_whole" lZ ["_law_found"]
 d_l_tells:DefAt K mg "_law_tells" mB ["_law_season","_law_due","_law_number","_law_soaked"]
 d_l_days:DefAt K mg "_law_days" oO ["_law_season","_law_fields_here","_law_dykes_here","_law_decrees_here","_law_levels","_law_before"]
 d_l_raised:DefAt K mg "_law_raised" kP ["_law_dykes_here","_law_script"]
 d_p_law:DefAt K mg "law" pM ["_law_script"]
 g_DEEDS:∃ a,mg "DEEDS" = some (.ref a) ∧ ∀ H:Hp,SqT K H a [(.str "open"),(.str "shut")]
 g_TIDES:∃ a,mg "TIDES" = some (.ref a) ∧ ∀ H:Hp,SqT K H a [(.str "above"),(.str "below")]
 g_WATERS:∃ a,mg "WATERS" = some (.ref a) ∧ ∀ H:Hp,SqT K H a [(.str "wet"),(.str "dry")]
 g_SEA:jY mg "SEA" (.str "sea")
 g_LETTERS:jY mg "LETTERS" (.str "abcdefghijklmnopqrstuvwxyz")
 g_MOST_LETTERS:jY mg "MOST_LETTERS" (.int 8)
 g_MOST_HEIGHT:jY mg "MOST_HEIGHT" (.int 1000000)
 g_MOST_AMOUNT:jY mg "MOST_AMOUNT" (.int 1000000)
 g_MOST_FIELDS:jY mg "MOST_FIELDS" (.int 12)
 g_MOST_DYKES:jY mg "MOST_DYKES" (.int 40)
 g_MOST_DECREES:jY mg "MOST_DECREES" (.int 60)
 g_MOST_CONDITIONS:jY mg "MOST_CONDITIONS" (.int 6)
 g_MOST_ROUND:jY mg "MOST_ROUND" (.int 100)
 n_all:mg "all" = none
 n_bool:mg "bool" = none
 n_dict:mg "dict" = none
 n_int:mg "int" = none
 n_isinstance:mg "isinstance" = none
 n_len:mg "len" = none
 n_list:mg "list" = none
 n_max:mg "max" = none
 n_min:mg "min" = none
 n_range:mg "range" = none
 n_set:mg "set" = none
 n_str:mg "str" = none
 n_tuple:mg "tuple" = none
section
variable {P:Program} {w:World} {K:PySem.W.Frag} {mg:Str → Option Value} {base:Heap} {C:Addr}
open Ld
theorem bY:(1000:Nat) ≤ sizeLine:=by decide
def tS:Sp:=sp1 fun x H Q=>∃ d,Is H d x ∧ Q (.bl (isInt d)) H
theorem lL (T:Txt K mg C):Fc P w K mg base 1 "is_whole" ["thing"] tS:=by
 refine T.d_p_is_whole.fc wX lM (fun f cdv A outer s H vs Q E hr h=>?_)
 obtain ⟨x,rfl,d,hd,q⟩:=h
 obtain ⟨t,ty,e1,e2,_⟩:=nV K hd
 refine ⟨_,(aI (@aT _ _ _ _ (@cL _ _ _ _ _ _ _ (@aZ _ _ _ _ _ _ _ _ _ (@cR _ (K) rfl) rfl T.n_isinstance bX (aA (pv 0) (aA (@nX _ _ _ _ T.n_int yH (by rfl) (by decide) (by decide)) aE)) (by decide) (by decide) (by rfl) (by rfl)) (@cX _ _ _ _ _ (@aHY _ _ _ _ (@aZ _ _ _ _ _ _ _ _ _ (@cR _ (K) rfl) rfl T.n_isinstance bX (aA (pv 0) (aA (@nX _ _ _ _ T.n_bool wU (by rfl) (by decide) (by decide)) aE)) (by decide) (by decide) (by rfl) (by rfl))))))),?_⟩
 refine ⟨_,rfl,_,_,_,t,_,rfl,rfl,ty,e1,_,rfl,?_⟩
 refine mP (fun h=>?_) (fun h=>?_)
 ·refine ⟨_,rfl,_,_,_,t,_,rfl,rfl,ty,e2,_,rfl,?_⟩
  have e:(!aIN d) = isInt d:=by cases d <;> simp_all [isInt,aIN]
  rw [e]
  exact q
 ·have e:isInt d = false:=by cases d <;> simp_all [isInt,aIN]
  rw [e] at q
  exact q
def aCQ:Sp:=sp1 fun x H Q=>∃ d,Is H d x ∧ dY d = true ∧ Q (.bl (qI d)) H
theorem rC (T:Txt K mg C):Fc P w K mg base 1 "is_name" ["thing"] aCQ:=by
 refine T.d_p_is_name.fcD yY lM (fun f cdv A outer s H vs Q E hr h=>?_)
 obtain ⟨x,rfl,d,hd,hz,q⟩:=h
 obtain ⟨t,ty,e1,e2,e3,_⟩:=nV K hd
 have big:=bY
 refine ⟨_,(aG (@cD _ _ _ _ _ _ _ _ (@PW.pt _ _ _ (@jZ _ _ _ _ _ _ _ (@dE _ _ _ _ (@cJ _ _ _ (@aZ _ _ _ _ _ _ _ _ _ (@cR _ (K) rfl) rfl T.n_isinstance bX (aA (pv 0) (aA (@nX _ _ _ _ T.n_str sK (by rfl) (by decide) (by decide)) aE)) (by decide) (by decide) (by rfl) (by rfl)) (by intro _;rfl))) (@jS _ _ _ _ (@dE _ _ _ _ (@aHV _ _ _ _ _ _ _ _ _ _ _ _ oT oT aD (@aZ _ _ _ _ _ _ _ _ _ zX rfl T.n_len cT (aA (pv 0) aE) (by decide) (by decide) (by rfl) (by rfl)) (@qG _ _ _ _ T.g_MOST_LETTERS (by rfl) (by decide)) (by with_unfolding_all rfl)))))) (aI (@aT _ _ _ _ iC)) bE) (aI (@aT _ _ _ _ (@cL _ _ _ _ _ _ _ (@cB _ _ _ _ _ _ _ _ oS (pv 0) (@qG _ _ _ _ T.g_SEA (by rfl) (by decide)) (@bF _ _ (by decide) (by decide))) (@cX _ _ _ _ _ (@aZ _ _ _ _ _ _ _ _ _ (@jQ _ rfl) rfl T.n_all iE (aA (@cQ _ _ _ _ _ _ _ _ _ _ _ ["sign"] 1 [] rfl (@aLZ _ _ _ _ (pv 0)) (fun R=>@aN _ _ (0) _ (show List.Nodup (["sign"]:List Str) by decide +kernel) rfl (Or.inl rfl) (by trivial)) (@bG _ _ (by decide)) (fun R=>cN) (fun R=>(@cB _ _ _ _ _ _ _ _ aFS (pv 0) (@qG _ _ _ _ T.g_LETTERS (by rfl) (by decide)) (by with_unfolding_all rfl))) (by rfl) (by rfl) (by rfl) (by rfl) (by rfl) (by rfl) (by rfl) (by intro _;rfl)) aE) (by decide) (by decide) (by rfl) (by rfl))))))),?_⟩
 refine ⟨_,rfl,_,_,_,t,_,rfl,rfl,ty,e3,_,rfl,?_⟩
 cases d with
 | str z =>
  cases (show x = .str z from hd)
  have hz:z.length ≤ 1000:=of_decide_eq_true hz
  have q:Q (.bl (fV z)) H:=q
  have hzs:z.length ≤ sizeLine:=by omega
  refine bC ?_
  refine ⟨_,rfl,z,rfl,hzs,_,_,rfl,rfl,_,rfl,?_⟩
  refine mP (fun h1=>?_) (fun h1=>?_)
  ·refine ⟨_,_,rfl,rfl,_,rfl,?_⟩
   have h1':1 ≤ z.length:=by
    have:=of_decide_eq_true h1
    omega
   refine mP (fun h2=>?_) (fun h2=>?_)
   ·have e:fV z = false:=by
     have h2':¬ z.length ≤ 8:=by
      intro h3
      have:((z.length:Nat):Int) ≤ 8:=by omega
      simp [this] at h2
     simp [fV,h2']
    rw [e] at q
    exact dI.of (.refl _) q
   ·have h2':z.length ≤ 8:=by
     have h3:decide (((z.length:Nat):Int) ≤ 8) = true:=by
      cases h4:decide (((z.length:Nat):Int) ≤ 8) with
      | true=>rfl
      | false=>exact absurd (by rw [h4];rfl) h2
     have:=of_decide_eq_true h3
     omega
    refine ⟨_,rfl,rfl,_,rfl,?_⟩
    refine mP (fun h3=>?_) (fun h3=>?_)
    ·have h3':¬ z = "sea":=by
      intro h4
      subst h4
      simp at h3
     refine ⟨_,rfl,z,rfl,?_⟩
     refine aJG (Nat.le_trans hz (by decide)) (fun i ys H'=>H' = H ∧ ys = (z.cps.toList.take i).map fun c=>V.bl (iY c)) ⟨rfl,rfl⟩ ?_ ?_ ?_
     ·rintro i ys H' ⟨_,rfl⟩
      rw [List.length_map,List.length_take]
      omega
     ·rintro i c ys H' K1 K2 hc ⟨rfl,rfl⟩ k1 k2
      refine ⟨_,rfl,_,_,rfl,rfl,k1 _ _ ⟨rfl,?_⟩⟩
      have hc':z.cps.toList[i]? = some c:=by simpa using hc
      rw [List.take_add_one,hc',aDK]
      simp
     ·rintro ys H' ⟨rfl,rfl⟩
      intro p hp'
      refine ⟨p,z.cps.toList.map iY,rfl,SqL.of ?_,?_⟩
      ·rw [aB,List.take_of_length_le (by simp),List.map_map]
       rfl
      ·refine ⟨H',iH.lst hp',?_⟩
       have e:fV z = (z.cps.toList.map iY).all id:=by
        rw [List.all_map]
        simp [fV,h1',h2',h3']
       rw [← e]
       exact q
    ·have e:fV z = false:=by
      have h4:z = "sea":=by
       apply Classical.byContradiction
       intro h5
       exact h3 (by simp [h5])
      subst h4
      simp [fV]
     rw [e] at q
     exact dI.of (.refl _) q
  ·have e:fV z = false:=by
    have h1':¬ 1 ≤ z.length:=by
     intro h3
     exact h1 (decide_eq_true (by omega))
    simp [fV,h1']
   rw [e] at q
   exact ⟨_,rfl,dI.of (.refl _) q⟩
 | non=>exact dI.of (.refl _) q
 | bl b=>exact dI.of (.refl _) q
 | int i=>exact dI.of (.refl _) q
 | lst a=>exact dI.of (.refl _) q
 | tup a=>exact dI.of (.refl _) q
 | dct a b=>exact dI.of (.refl _) q
def kH:Sp:=sp1 fun x H Q=>∃ d,Is H d x ∧ Q (.bl (eU d)) H
theorem fG (T:Txt K mg C):Fc P w K mg base 2 "is_height" ["thing"] kH:=by
 have G_p_is_whole:Fc P w K mg base 1 "is_whole" ["thing"] tS:=lL T
 refine T.d_p_is_height.fc uQ lM (fun f cdv A outer s H vs Q E hr h=>?_)
 obtain ⟨x,rfl,d,hd,q⟩:=h
 refine ⟨_,(aI (@aT _ _ _ _ (@cL _ _ _ _ _ _ _ (@bN _ _ _ _ _ _ _ _ _ _ G_p_is_whole (hr.mono (by decide)) (aA (pv 0) aE) (by rfl) (by decide) (by rfl) (by rfl)) (@cX _ _ _ _ _ (@oR _ _ _ _ _ _ _ _ _ _ _ _ oT oT (@aLI _ _ _ _ _ _ aGT (@qG _ _ _ _ T.g_MOST_HEIGHT (by rfl) (by decide))) (pv 0) (@qG _ _ _ _ T.g_MOST_HEIGHT (by rfl) (by decide)) (by with_unfolding_all rfl)))))),?_⟩
 refine ⟨_,rfl,_,rfl,d,hd,_,rfl,?_⟩
 cases d with
 | int i =>
  cases (show x = .int i from hd)
  refine bW ?_
  have q:Q (.bl (decide (-1000000 ≤ i) && decide (i ≤ 1000000))) H:=q
  refine ⟨_,rfl,_,rfl,_,_,rfl,rfl,_,rfl,?_⟩
  refine mP (fun h1=>?_) (fun h1=>?_)
  ·refine ⟨_,_,rfl,rfl,?_⟩
   rw [decide_eq_true (show -1000000 ≤ i from of_decide_eq_true h1),Bool.true_and] at q
   exact q
  ·rw [show decide (-1000000 ≤ i) = false from by simpa using h1,Bool.false_and] at q
   exact q
 | _=>exact bC q
def uL:Sp:=sp1 fun x H Q=>∃ d,Is H d x ∧ Q (.bl (mQ d)) H
theorem oU (T:Txt K mg C):Fc P w K mg base 2 "is_amount" ["thing"] uL:=by
 have G_p_is_whole:Fc P w K mg base 1 "is_whole" ["thing"] tS:=lL T
 refine T.d_p_is_amount.fc uT lM (fun f cdv A outer s H vs Q E hr h=>?_)
 obtain ⟨x,rfl,d,hd,q⟩:=h
 refine ⟨_,(aI (@aT _ _ _ _ (@cL _ _ _ _ _ _ _ (@bN _ _ _ _ _ _ _ _ _ _ G_p_is_whole (hr.mono (by decide)) (aA (pv 0) aE) (by rfl) (by decide) (by rfl) (by rfl)) (@cX _ _ _ _ _ (@oR _ _ _ _ _ _ _ _ _ _ _ _ oT oT aD (pv 0) (@qG _ _ _ _ T.g_MOST_AMOUNT (by rfl) (by decide)) (by with_unfolding_all rfl)))))),?_⟩
 refine ⟨_,rfl,_,rfl,d,hd,_,rfl,?_⟩
 cases d with
 | int i =>
  cases (show x = .int i from hd)
  refine bW ?_
  have q:Q (.bl (decide (0 ≤ i) && decide (i ≤ 1000000))) H:=q
  refine ⟨_,rfl,_,_,rfl,rfl,_,rfl,?_⟩
  refine mP (fun h1=>?_) (fun h1=>?_)
  ·refine ⟨_,_,rfl,rfl,?_⟩
   rw [decide_eq_true (show 0 ≤ i from of_decide_eq_true h1),Bool.true_and] at q
   exact q
  ·rw [show decide (0 ≤ i) = false from by simpa using h1,Bool.false_and] at q
   exact q
 | _=>exact bC q
def tW (K:PySem.W.Frag):Sp:=sp2 fun x y H Q=>∃ (d:Dv) (p:Addr) (zs:List Str),Is H d x ∧ y = .ref p ∧ SqL K H p (zs.map V.str) ∧ Q (.bl (cH zs d)) H
theorem gL (z:Str) (zs:List Str):inV (.str z) (zs.map V.str) = decide (z ∈ zs):=by
 unfold inV
 rw [Bool.eq_iff_iff,List.any_eq_true,decide_eq_true_iff]
 constructor
 ·rintro ⟨y,hy,e⟩
  obtain ⟨u,hu,rfl⟩:=List.mem_map.mp hy
  have e':(u == z) = true:=e
  rw [← beq_iff_eq.mp e']
  exact hu
 ·intro h
  exact ⟨_,List.mem_map.mpr ⟨z,h,rfl⟩,beq_self_eq_true z⟩
theorem dU (zs:List Str):(zs.map V.str).all rH = true:=by
 rw [List.all_eq_true]
 intro y hy
 obtain ⟨u,_,rfl⟩:=List.mem_map.mp hy
 rfl
theorem kW (T:Txt K mg C):Fc P w K mg base 1 "is_one_of" ["thing","names"] (tW K):=by
 refine T.d_p_is_one_of.fc oK gK (fun f cdv A outer s H vs Q E hr h=>?_)
 obtain ⟨x,y,rfl,d,p,zs,hd,rfl,hp,q⟩:=h
 obtain ⟨t,ty,e1,e2,e3,_⟩:=nV K hd
 refine ⟨_,(aI (@aT _ _ _ _ (@cL _ _ _ _ _ _ _ (@aZ _ _ _ _ _ _ _ _ _ (@cR _ (K) rfl) rfl T.n_isinstance bX (aA (pv 0) (aA (@nX _ _ _ _ T.n_str sK (by rfl) (by decide) (by decide)) aE)) (by decide) (by decide) (by rfl) (by rfl)) (@cX _ _ _ _ _ (@cB _ _ _ _ _ _ _ _ (@eW _ (K) rfl) (pv 0) (pv 1) (by with_unfolding_all rfl)))))),?_⟩
 refine ⟨_,rfl,_,_,_,t,_,rfl,rfl,ty,e3,_,rfl,?_⟩
 cases d with
 | str z =>
  cases (show x = .str z from hd)
  refine bW ⟨_,rfl,_,rfl,p,_,rfl,.inl hp,rfl,dU zs,?_⟩
  show Q (.bl (inV (.str z) (zs.map V.str))) H
  rw [gL]
  exact q
 | _=>exact bC q
def qS:Sp:=sp2 fun x y H Q=>∃ (d:Dv) (n:Int),Is H d x ∧ y = .int n ∧ Q (.bl (aNY n d)) H
theorem jW (T:Txt K mg C):Fc P w K mg base 1 "is_list_of" ["thing","most"] qS:=by
 refine T.d_p_is_list_of.fc tI gK (fun f cdv A outer s H vs Q E hr h=>?_)
 obtain ⟨x,y,rfl,d,n,hd,rfl,q⟩:=h
 obtain ⟨t,ty,e1,e2,e3,e4,_⟩:=nV K hd
 refine ⟨_,(aI (@aT _ _ _ _ (@cL _ _ _ _ _ _ _ (@aZ _ _ _ _ _ _ _ _ _ (@cR _ (K) rfl) rfl T.n_isinstance bX (aA (pv 0) (aA (@nX _ _ _ _ T.n_list dG (by rfl) (by decide) (by decide)) aE)) (by decide) (by decide) (by rfl) (by rfl)) (@cX _ _ _ _ _ (@oR _ _ _ _ _ _ _ _ _ _ _ _ oT oT aD (@aZ _ _ _ _ _ _ _ _ _ (@bU _ (K) rfl) rfl T.n_len cT (aA (pv 0) aE) (by decide) (by decide) (by rfl) (by rfl)) (pv 1) (by with_unfolding_all rfl)))))),?_⟩
 refine ⟨_,rfl,_,_,_,t,_,rfl,rfl,ty,e4,_,rfl,?_⟩
 cases d with
 | lst ds =>
  obtain ⟨a,vs,rfl,o,hl⟩:=hd
  have hlen:=hl.length
  have q:Q (.bl (decide (1 ≤ ds.length) && decide ((ds.length:Int) ≤ n))) H:=q
  refine bW ⟨_,rfl,a,vs,rfl,.inl (SqL.of o),_,_,rfl,rfl,_,rfl,?_⟩
  rw [hlen]
  refine mP (fun h1=>?_) (fun h1=>?_)
  ·refine ⟨_,rfl,_,_,rfl,rfl,?_⟩
   have h1':1 ≤ ds.length:=by have:=of_decide_eq_true h1;omega
   rw [decide_eq_true h1',Bool.true_and] at q
   exact q
  ·have h1':¬ 1 ≤ ds.length:=fun c=>h1 (decide_eq_true (by omega))
   rw [decide_eq_false h1',Bool.false_and] at q
   exact q
 | _=>exact bC q
def pK:Sp:=sp2 fun x y H Q=>∃ (d:Dv) (n:Int),Is H d x ∧ y = .int n ∧ Q (.bl (sN n d)) H
theorem fF (T:Txt K mg C):Fc P w K mg base 1 "is_tuple_of" ["thing","length"] pK:=by
 refine T.d_p_is_tuple_of.fc rO gK (fun f cdv A outer s H vs Q E hr h=>?_)
 obtain ⟨x,y,rfl,d,n,hd,rfl,q⟩:=h
 obtain ⟨t,ty,e1,e2,e3,e4,e5⟩:=nV K hd
 refine ⟨_,(aI (@aT _ _ _ _ (@cL _ _ _ _ _ _ _ (@aZ _ _ _ _ _ _ _ _ _ (@cR _ (K) rfl) rfl T.n_isinstance bX (aA (pv 0) (aA (@nX _ _ _ _ T.n_tuple aCI (by rfl) (by decide) (by decide)) aE)) (by decide) (by decide) (by rfl) (by rfl)) (@cX _ _ _ _ _ (@cB _ _ _ _ _ _ _ _ iD (@aZ _ _ _ _ _ _ _ _ _ (@bU _ (K) rfl) rfl T.n_len cT (aA (pv 0) aE) (by decide) (by decide) (by rfl) (by rfl)) (pv 1) (@bF _ _ (by decide) (by decide))))))),?_⟩
 refine ⟨_,rfl,_,_,_,t,_,rfl,rfl,ty,e5,_,rfl,?_⟩
 cases d with
 | tup ds =>
  obtain ⟨a,vs,rfl,o,hl⟩:=hd
  have hlen:=hl.length
  have q:Q (.bl (decide ((ds.length:Int) = n))) H:=q
  refine bW ⟨_,rfl,a,vs,rfl,.inr (SqT.of o),_,rfl,rfl,?_⟩
  rw [hlen]
  have e:decide (V.int (ds.length:Int) = V.int n) = decide ((ds.length:Int) = n):=by rw [kB,Bool.eq_iff_iff];simp
  rw [e]
  exact q
 | _=>exact bC q
def tT:Sp:=sp1 fun x H Q=>∃ (p:Addr) (vs:List V) (ds:List Dv) (zs:List Str),x = .ref p ∧ H p = some (.lst vs) ∧ IsL H ds vs ∧ ds.map cV = zs.map some ∧ zs.length ≤ 1000 ∧ Q (.bl (decide zs.Nodup)) H
theorem aGC {H:Hp} {d:Dv} {v:V} {z:Str} (h:Is H d v) (e:cV d = some z):∃ a r,v = .ref a ∧ H a = some (.tup (.str z :: r)):=by
 cases d with
 | tup ds =>
  cases ds with
  | nil=>cases e
  | cons d0 ds =>
   cases d0 with
   | str y =>
    cases e
    obtain ⟨a,vs,rfl,o,v0,r,rfl,h0,_⟩:=h
    cases (show v0 = .str z from h0)
    exact ⟨a,r,rfl,o⟩
   | _=>cases e
 | _=>cases e
theorem mL (zs:List Str):(zs.map (Sum.inr:Str → Key)).Nodup ↔ zs.Nodup:=by
 induction zs with
 | nil=>simp
 | cons z zs ih =>
  rw [List.map_cons,List.nodup_cons,List.nodup_cons,ih]
  simp
theorem aKF (zs:List Str):(zs.map (Sum.inr:Str → Key)).map kV = zs.map V.str:=by
 rw [List.map_map];rfl
theorem jV (T:Txt K mg C):Fc P w K mg base 1 "none_twice" ["rows"] tT:=by
 refine T.d_p_none_twice.fcD tH lM (fun f cdv A outer s H vs Q E hr h=>?_)
 obtain ⟨x,rfl,p,us,ds,zs,rfl,hp,hi,hz,hn,q⟩:=h
 have big:=bY
 have l1:=hi.length
 have l2:ds.length = zs.length:=by have:=congrArg List.length hz;simpa using this
 refine ⟨_,(aI (@aT _ _ _ _ (@cB _ _ _ _ _ _ _ _ iD (@aZ _ _ _ _ _ _ _ _ _ call_len_set rfl T.n_len cT (aA (@cE _ _ _ _ _ _ _ _ _ (@xI _ rfl) rfl T.n_set aGJ (aA (@cQ _ _ _ _ _ _ _ _ _ _ _ ["row"] 1 [] rfl (@bJ _ (K) _ _ _ rfl (@bK _ _ _ _ (pv 0))) (fun R=>@aN _ _ (0) _ (show List.Nodup (["row"]:List Str) by decide +kernel) rfl (Or.inl rfl) (by trivial)) (@bG _ _ (by decide)) (fun R=>cN) (fun R=>(@aU _ _ _ _ _ _ _ (@aM _ (K) rfl) (pv 0) aD (fun _ _=>rfl))) (by rfl) (by rfl) (by rfl) (by rfl) (by rfl) (by rfl) (by rfl) (by intro _;rfl)) aE) (by decide) (by decide) (by rfl) (by rfl)) aE) (by decide) (by decide) (by rfl) (by rfl)) (@aZ _ _ _ _ _ _ _ _ _ (@bU _ (K) rfl) rfl T.n_len cT (aA (pv 0) aE) (by decide) (by decide) (by rfl) (by rfl)) (@bF _ _ (by decide) (by decide))))),?_⟩
 refine ⟨_,rfl,p,rfl,⟨_,SqL.of hp⟩,?_⟩
 refine bV (F:=K) (xs:=us) (by omega) (fun i ys H'=>H' = H ∧ ys = (zs.take i).map V.str) ⟨rfl,rfl⟩ ?_ ?_ ?_
 ·rintro i ys H' hi' ⟨rfl,rfl⟩
  exact ⟨SqL.of hp,by rw [List.length_map,List.length_take];omega⟩
 ·rintro i x ys H' K1 K2 hx ⟨rfl,rfl⟩ k1 k2
  have hil:i < us.length:=(List.getElem?_eq_some_iff.mp hx).1
  obtain ⟨d,ed⟩:∃ d,ds[i]? = some d:=⟨_,List.getElem?_eq_getElem (by omega)⟩
  obtain ⟨z,ez⟩:∃ z,zs[i]? = some z:=⟨_,List.getElem?_eq_getElem (by omega)⟩
  obtain ⟨v,ev,iv⟩:=hi.get ed
  rw [hx] at ev
  cases ev
  have ef:cV d = some z:=by
   have:=congrArg (fun l=>l[i]?) hz
   simpa [ed,ez] using this
  obtain ⟨a,r,rfl,o⟩:=aGC iv ef
  refine ⟨_,rfl,a,_,0,.str z,rfl,rfl,SqT.of o,aH (j:=0) rfl,k1 _ _ ⟨rfl,?_⟩⟩
  rw [List.take_add_one,ez]
  simp
 ·rintro ys H' ⟨rfl,rfl⟩
  intro p1 hp1
  have hys:(zs.take us.length).map V.str = (zs.map (Sum.inr:Str → Key)).map kV:=by
   rw [List.take_of_length_le (by omega),aKF]
  refine ⟨p1,zs.map Sum.inr,rfl,SqL.of (by rw [aB,hys]),by rw [List.length_map];exact hn,fun p2 hp2=>?_⟩
  have hle:=aKN (zs.map (Sum.inr:Str → Key))
  rw [List.length_map] at hle
  have np:p ≠ p1:=aL hp hp1
  have np2:p ≠ p2:=aL (show upd H' p1 _ p = _ from (aP np).trans hp) hp2
  refine ⟨p2,_,_,rfl,aB,by omega,_,rfl,p,us,rfl,.inl (SqL.of (by rw [aP np2,aP np];exact hp)),rfl,?_⟩
  have e:decide (V.int ((xH (zs.map (Sum.inr:Str → Key))).length:Int) = V.int (us.length:Int)) = decide zs.Nodup:=by
   rw [kB,Bool.eq_iff_iff,decide_eq_true_iff,← mL,← aGG,List.length_map,beq_iff_eq]
   omega
  rw [e]
  exact dI.of ((iH.new hp2 rfl).trans (iH.lst hp1)) q
def aEE:Sp:=sp1 fun x H Q=>∃ d,Is H d x ∧ dY d = true ∧ Q (.bl (cM d)) H
theorem xB (T:Txt K mg C):Fc P w K mg base 3 "is_field" ["thing"] aEE:=by
 have G_p_is_tuple_of:Fc P w K mg base 1 "is_tuple_of" ["thing","length"] pK:=fF T
 have G_p_is_name:Fc P w K mg base 1 "is_name" ["thing"] aCQ:=rC T
 have G_p_is_height:Fc P w K mg base 2 "is_height" ["thing"] kH:=fG T
 have G_p_is_amount:Fc P w K mg base 2 "is_amount" ["thing"] uL:=oU T
 refine T.d_p_is_field.fc wY lM (fun f cdv A outer s H vs Q E hr h=>?_)
 obtain ⟨x,rfl,d,hd,hs,q⟩:=h
 refine ⟨_,(aG (@cD _ _ _ _ _ _ _ _ (@dE _ _ _ _ (@cJ _ _ _ (@bN _ _ _ _ _ _ _ _ _ _ G_p_is_tuple_of (hr.mono (by decide)) (aA (pv 0) (aA aD aE)) (by rfl) (by decide) (by rfl) (by rfl)) (by intro _;rfl))) (aI (@aT _ _ _ _ iC)) bE) (aI (@aT _ _ _ _ (@cL _ _ _ _ _ _ _ (@bN _ _ _ _ _ _ _ _ _ _ G_p_is_name (hr.mono (by decide)) (aA (@aU _ _ _ _ _ _ _ (@aM _ (K) rfl) (pv 0) aD (fun _ _=>rfl)) aE) (by rfl) (by decide) (by rfl) (by rfl)) (@cL _ _ _ _ _ _ _ (@bN _ _ _ _ _ _ _ _ _ _ G_p_is_height (hr.mono (by decide)) (aA (@aU _ _ _ _ _ _ _ (@aM _ (K) rfl) (pv 0) aD (fun _ _=>rfl)) aE) (by rfl) (by decide) (by rfl) (by rfl)) (@cX _ _ _ _ _ (@bN _ _ _ _ _ _ _ _ _ _ G_p_is_amount (hr.mono (by decide)) (aA (@aU _ _ _ _ _ _ _ (@aM _ (K) rfl) (pv 0) aD (fun _ _=>rfl)) aE) (by rfl) (by decide) (by rfl) (by rfl)))))))),?_⟩
 refine ⟨_,rfl,_,_,rfl,d,3,hd,rfl,_,rfl,?_⟩
 by_cases h3:∃ a b c,d = .tup [a,b,c]
 ·obtain ⟨a,b,c,rfl⟩:=h3
  obtain ⟨t,us,rfl,o,va,r1,rfl,ha,vb,r2,rfl,hb,vc,r3,rfl,hc,h0⟩:=hd
  cases (show r3 = [] from h0)
  have sa:dY a = true:=by
   exact hW (rL hs) List.mem_cons_self
  have q:Q (.bl (qI a && (eU b && mQ c))) H:=q
  refine bC ⟨_,rfl,t,_,0,va,rfl,rfl,SqT.of o,aH (j:=0) rfl,_,rfl,a,ha,sa,_,rfl,?_⟩
  cases ea:qI a with
  | false=>rw [ea] at q;exact bC q
  | true =>
   rw [ea,Bool.true_and] at q
   refine bW ⟨_,rfl,t,_,1,vb,rfl,rfl,SqT.of o,aH (j:=1) rfl,_,rfl,b,hb,_,rfl,?_⟩
   cases eb:eU b with
   | false=>rw [eb] at q;exact bC q
   | true =>
    rw [eb,Bool.true_and] at q
    exact bW ⟨_,rfl,t,_,2,vc,rfl,rfl,SqT.of o,aH (j:=2) rfl,_,rfl,c,hc,q⟩
 ·have e1:cM d = false:=by
   unfold cM
   split
   ·rename_i a b c
    exact absurd ⟨a,b,c,rfl⟩ h3
   ·rfl
  have e2:sN 3 d = false:=by
   cases d with
   | tup ds =>
    refine decide_eq_false (fun e=>?_)
    have e':ds.length = 3:=by omega
    match ds,e',h3 with
    | [a,b,c],_,h3=>exact h3 ⟨a,b,c,rfl⟩
   | _=>rfl
  dsimp only
  rw [e2]
  rw [e1] at q
  exact bW q
theorem pU {p:Dv → Bool} (hp:∀ d,p d = true → ∃ z,cV d = some z):∀ {ds:List Dv},ds.all p = true → ∃ zs:List Str,ds.map cV = zs.map some
 | [],_=>⟨[],rfl⟩
 | d :: ds,h=>by
  rw [List.all_cons,Bool.and_eq_true] at h
  obtain ⟨z,e⟩:=hp d h.1
  obtain ⟨zs,e2⟩:=pU hp h.2
  exact ⟨z :: zs,by rw [List.map_cons,List.map_cons,e,e2]⟩
theorem xE (d:Dv) (h:cM d = true):∃ z,cV d = some z:=by
 unfold cM at h
 split at h
 ·rename_i a b c
  rw [Bool.and_eq_true] at h
  cases a with
  | str z=>exact ⟨z,rfl⟩
  | _=>cases h.1
 ·cases h
def aAP:Sp:=sp1 fun x H Q=>∃ d,Is H d x ∧ dY d = true ∧ Q (.bl (mY d)) H
theorem tP (T:Txt K mg C):Fc P w K mg base 4 "are_fields" ["thing"] aAP:=by
 have G_p_is_list_of:Fc P w K mg base 1 "is_list_of" ["thing","most"] qS:=jW T
 have G_p_is_field:Fc P w K mg base 3 "is_field" ["thing"] aEE:=xB T
 have G_p_none_twice:Fc P w K mg base 1 "none_twice" ["rows"] tT:=jV T
 refine T.d_p_are_fields.fcD tJ lM (fun f cdv A outer s H vs Q E hr h=>?_)
 obtain ⟨x,rfl,d,hd,hs,q⟩:=h
 have big:=bY
 refine ⟨_,(aI (@aT _ _ _ _ (@cL _ _ _ _ _ _ _ (@bN _ _ _ _ _ _ _ _ _ _ G_p_is_list_of (hr.mono (by decide)) (aA (pv 0) (aA (@qG _ _ _ _ T.g_MOST_FIELDS (by rfl) (by decide)) aE)) (by rfl) (by decide) (by rfl) (by rfl)) (@cL _ _ _ _ _ _ _ (@aZ _ _ _ _ _ _ _ _ _ (@jQ _ rfl) rfl T.n_all iE (aA (@cQ _ _ _ _ _ _ _ _ _ _ _ ["row"] 1 [] rfl (@bJ _ (K) _ _ _ rfl (@bK _ _ _ _ (pv 0))) (fun R=>@aN _ _ (0) _ (show List.Nodup (["row"]:List Str) by decide +kernel) rfl (Or.inl rfl) (by trivial)) (@bG _ _ (by decide)) (fun R=>cN) (fun R=>(@bN _ _ _ _ _ _ _ _ _ _ G_p_is_field (hr.mono (by decide)) (aA (pv 0) aE) (by rfl) (by decide) (by rfl) (by rfl))) (by rfl) (by rfl) (by rfl) (by rfl) (by rfl) (by rfl) (by rfl) (by intro _;rfl)) aE) (by decide) (by decide) (by rfl) (by rfl)) (@cX _ _ _ _ _ (@bN _ _ _ _ _ _ _ _ _ _ G_p_none_twice (hr.mono (by decide)) (aA (pv 0) aE) (by rfl) (by decide) (by rfl) (by rfl))))))),?_⟩
 refine ⟨_,rfl,_,_,rfl,d,12,hd,rfl,_,rfl,?_⟩
 cases d with
 | lst ds =>
  obtain ⟨p,us,rfl,o,hi⟩:=hd
  have l1:=hi.length
  have hs':=Bool.and_eq_true_iff.mp (show (decide (ds.length ≤ 1000) && fW ds) = true from hs)
  have l2:ds.length ≤ 1000:=of_decide_eq_true hs'.1
  have q:Q (.bl ((decide (1 ≤ ds.length) && decide (ds.length ≤ 12)) && (ds.all cM && decide ((ds.map cV).Nodup)))) H:=q
  have e0:(decide (1 ≤ ds.length) && decide ((ds.length:Int) ≤ 12)) = (decide (1 ≤ ds.length) && decide (ds.length ≤ 12)):=by
   congr 1
   rw [Bool.eq_iff_iff,decide_eq_true_iff,decide_eq_true_iff]
   omega
  show if (decide (1 ≤ ds.length) && decide ((ds.length:Int) ≤ 12)) = true then _ else _
  rw [e0]
  refine mP (fun h1=>?_) (fun h1=>?_)
  ·rw [h1,Bool.true_and] at q
   refine ⟨_,rfl,p,rfl,⟨_,SqL.of o⟩,?_⟩
   refine bV (F:=K) (xs:=us) (by omega) (fun i ys H'=>H' = H ∧ ys = (ds.take i).map fun d=>V.bl (cM d)) ⟨rfl,rfl⟩ ?_ ?_ ?_
   ·rintro i ys H' hi' ⟨rfl,rfl⟩
    exact ⟨SqL.of o,by rw [List.length_map,List.length_take];omega⟩
   ·rintro i x ys H' K1 K2 hx ⟨rfl,rfl⟩ k1 k2
    have hil:i < us.length:=(List.getElem?_eq_some_iff.mp hx).1
    obtain ⟨d,ed⟩:∃ d,ds[i]? = some d:=⟨_,List.getElem?_eq_getElem (by omega)⟩
    obtain ⟨v,ev,iv⟩:=hi.get ed
    rw [hx] at ev
    cases ev
    refine ⟨_,rfl,_,rfl,d,iv,hW hs'.2 (List.mem_of_getElem? ed),k1 _ _ ⟨rfl,?_⟩⟩
    rw [List.take_add_one,ed]
    simp
   ·rintro ys H' ⟨rfl,rfl⟩
    intro p1 hp1
    have np:p ≠ p1:=aL o hp1
    refine ⟨p1,ds.map cM,rfl,SqL.of ?_,_,rfl,?_⟩
    ·rw [aB,List.take_of_length_le (by omega),List.map_map]
     rfl
    have e1:(ds.map cM).all id = ds.all cM:=by rw [List.all_map];rfl
    rw [e1]
    refine mP (fun h2=>?_) (fun h2=>?_)
    ·rw [h2,Bool.true_and] at q
     obtain ⟨zs,ez⟩:=pU xE h2
     have l3:zs.length = ds.length:=by have:=congrArg List.length ez;simpa using this.symm
     refine ⟨_,rfl,_,rfl,p,us,ds,zs,rfl,by rw [aP np];exact o,IsL.same (aK.upd hp1) _ _ hi,ez,by omega,?_⟩
     have e2:decide zs.Nodup = decide (ds.map cV).Nodup:=by rw [ez,Bool.eq_iff_iff,decide_eq_true_iff,decide_eq_true_iff,fK]
     rw [e2]
     exact dI.of (iH.lst hp1) q
    ·have h2':ds.all cM = false:=by simpa using h2
     rw [h2'] at q
     exact dI.of (iH.lst hp1) q
  ·have h1':(decide (1 ≤ ds.length) && decide (ds.length ≤ 12)) = false:=by simpa using h1
   rw [h1'] at q
   exact dI.of (.refl _) q
 | _=>exact bC (dI.of (.refl _) q)
def aDZ (K:PySem.W.Frag):Sp:=sp3 fun x y u H Q=>∃ (a b:Dv) (p:Addr) (zs:List Str),Is H a x ∧ Is H b y ∧ u = .ref p ∧ SqL K H p (zs.map V.str) ∧ Q (.bl (pH zs a b)) H
theorem vM (T:Txt K mg C):Fc P w K mg base 2 "are_sides" ["one","other","sides"] (aDZ K):=by
 have G_p_is_one_of:Fc P w K mg base 1 "is_one_of" ["thing","names"] (tW K):=kW T
 refine T.d_p_are_sides.fc uV aIF (fun f cdv A outer s H vs Q E hr h=>?_)
 obtain ⟨x,y,u,rfl,a,b,p,zs,ha,hb,rfl,hp,q⟩:=h
 refine ⟨_,(aI (@aT _ _ _ _ (@cL _ _ _ _ _ _ _ (@bN _ _ _ _ _ _ _ _ _ _ G_p_is_one_of (hr.mono (by decide)) (aA (pv 0) (aA (pv 2) aE)) (by rfl) (by decide) (by rfl) (by rfl)) (@cL _ _ _ _ _ _ _ (@bN _ _ _ _ _ _ _ _ _ _ G_p_is_one_of (hr.mono (by decide)) (aA (pv 1) (aA (pv 2) aE)) (by rfl) (by decide) (by rfl) (by rfl)) (@cX _ _ _ _ _ (@cB _ _ _ _ _ _ _ _ oS (pv 0) (pv 1) (@bF _ _ (by decide) (by decide)))))))),?_⟩
 have q:Q (.bl (cH zs a && (cH zs b && !deq a b))) H:=q
 refine ⟨_,rfl,_,rfl,_,_,rfl,a,p,zs,ha,rfl,hp,_,rfl,?_⟩
 cases ea:cH zs a with
 | false=>rw [ea] at q;exact bC q
 | true =>
  rw [ea,Bool.true_and] at q
  refine bW ⟨_,rfl,_,rfl,_,_,rfl,b,p,zs,hb,rfl,hp,_,rfl,?_⟩
  cases eb:cH zs b with
  | false=>rw [eb] at q;exact bC q
  | true =>
   rw [eb,Bool.true_and] at q
   cases a with
   | str z =>
    cases b with
    | str z' =>
     cases (show x = .str z from ha)
     cases (show y = .str z' from hb)
     refine bW ⟨_,rfl,_,rfl,rfl,?_⟩
     have e:(!decide (V.str z = V.str z')) = !deq (.str z) (.str z'):=by rw [lF];rfl
     rw [e]
     exact q
    | _=>cases eb
   | _=>cases ea
def aHB:Sp:=sp2 fun x y H Q=>∃ (d:Dv) (j:Int),Is H d x ∧ y = .int j ∧ Q (.bl (lN (.int j) d)) H
theorem zF (T:Txt K mg C):Fc P w K mg base 3 "is_sill" ["thing","crown"] aHB:=by
 have G_p_is_height:Fc P w K mg base 2 "is_height" ["thing"] kH:=fG T
 refine T.d_p_is_sill.fc yX gK (fun f cdv A outer s H vs Q E hr h=>?_)
 obtain ⟨x,y,rfl,d,j,hd,rfl,q⟩:=h
 refine ⟨_,(aI (@aT _ _ _ _ (@aBA _ _ _ _ _ _ _ (@cB _ _ _ _ _ _ _ _ zD (pv 0) jT (@bF _ _ (by decide) (by decide))) (@cX _ _ _ _ _ (@cL _ _ _ _ _ _ _ (@bN _ _ _ _ _ _ _ _ _ _ G_p_is_height (hr.mono (by decide)) (aA (pv 0) aE) (by rfl) (by decide) (by rfl) (by rfl)) (@cX _ _ _ _ _ (@cB _ _ _ _ _ _ _ _ sP (pv 0) (pv 1) (@bF _ _ (by decide) (by decide))))))))),?_⟩
 refine ⟨_,rfl,rfl,_,rfl,?_⟩
 cases d with
 | non =>
  cases (show x = .non from hd)
  rw [decide_eq_true rfl]
  exact bW q
 | int i =>
  cases (show x = .int i from hd)
  rw [decide_eq_false (show ¬ V.int i = V.non by intro z;cases z)]
  refine bC ⟨_,rfl,_,rfl,.int i,rfl,_,rfl,?_⟩
  have q:Q (.bl (hgt i && decide (i < j))) H:=q
  show if hgt i = true then _ else _
  cases e:hgt i with
  | false=>rw [e] at q;exact bC q
  | true=>rw [e,Bool.true_and] at q;exact bW ⟨_,rfl,_,rfl,_,_,rfl,rfl,q⟩
 | bl b =>
  cases (show x = .bl b from hd)
  rw [decide_eq_false (show ¬ V.bl b = V.non by intro z;cases z)]
  exact bC ⟨_,rfl,_,rfl,.bl b,rfl,_,rfl,bC q⟩
 | str b =>
  cases (show x = .str b from hd)
  rw [decide_eq_false (show ¬ V.str b = V.non by intro z;cases z)]
  exact bC ⟨_,rfl,_,rfl,.str b,rfl,_,rfl,bC q⟩
 | lst b =>
  obtain ⟨a,us,rfl,o⟩:=id hd
  rw [decide_eq_false (show ¬ V.ref a = V.non by intro z;cases z)]
  exact bC ⟨_,rfl,_,rfl,.lst b,hd,_,rfl,bC q⟩
 | tup b =>
  obtain ⟨a,us,rfl,o⟩:=id hd
  rw [decide_eq_false (show ¬ V.ref a = V.non by intro z;cases z)]
  exact bC ⟨_,rfl,_,rfl,.tup b,hd,_,rfl,bC q⟩
 | dct b c =>
  obtain ⟨a,us,rfl,o⟩:=id hd
  rw [decide_eq_false (show ¬ V.ref a = V.non by intro z;cases z)]
  exact bC ⟨_,rfl,_,rfl,.dct b c,hd,_,rfl,bC q⟩
def aHG (K:PySem.W.Frag):Sp:=sp2 fun x y H Q=>∃ (d:Dv) (p:Addr) (zs:List Str),Is H d x ∧ dY d = true ∧ y = .ref p ∧ SqL K H p (zs.map V.str) ∧ Q (.bl (dA zs d)) H
theorem zG (T:Txt K mg C):Fc P w K mg base 4 "is_dyke" ["thing","sides"] (aHG K):=by
 have G_p_is_tuple_of:Fc P w K mg base 1 "is_tuple_of" ["thing","length"] pK:=fF T
 have G_p_is_name:Fc P w K mg base 1 "is_name" ["thing"] aCQ:=rC T
 have G_p_are_sides:Fc P w K mg base 2 "are_sides" ["one","other","sides"] (aDZ K):=vM T
 have G_p_is_height:Fc P w K mg base 2 "is_height" ["thing"] kH:=fG T
 have G_p_is_amount:Fc P w K mg base 2 "is_amount" ["thing"] uL:=oU T
 have G_p_is_sill:Fc P w K mg base 3 "is_sill" ["thing","crown"] aHB:=zF T
 refine T.d_p_is_dyke.fc yZ gK (fun f cdv A outer s H vs Q E hr h=>?_)
 obtain ⟨x,y,rfl,d,p,zs,hd,hs,rfl,hp,q⟩:=h
 refine ⟨_,(aG (@cD _ _ _ _ _ _ _ _ (@PW.pt _ _ _ (@jZ _ _ _ _ _ _ _ (@dE _ _ _ _ (@cJ _ _ _ (@bN _ _ _ _ _ _ _ _ _ _ G_p_is_tuple_of (hr.mono (by decide)) (aA (pv 0) (aA aD aE)) (by rfl) (by decide) (by rfl) (by rfl)) (by intro _;rfl))) (@jZ _ _ _ _ _ _ _ (@dE _ _ _ _ (@cJ _ _ _ (@bN _ _ _ _ _ _ _ _ _ _ G_p_is_name (hr.mono (by decide)) (aA (@aU _ _ _ _ _ _ _ (@aM _ (K) rfl) (pv 0) aD (fun _ _=>rfl)) aE) (by rfl) (by decide) (by rfl) (by rfl)) (by intro _;rfl))) (@jS _ _ _ _ (@dE _ _ _ _ (@cJ _ _ _ (@bN _ _ _ _ _ _ _ _ _ _ G_p_are_sides (hr.mono (by decide)) (aA (@aU _ _ _ _ _ _ _ (@aM _ (K) rfl) (pv 0) aD (fun _ _=>rfl)) (aA (@aU _ _ _ _ _ _ _ (@aM _ (K) rfl) (pv 0) aD (fun _ _=>rfl)) (aA (pv 1) aE))) (by rfl) (by decide) (by rfl) (by rfl)) (by intro _;rfl))))))) (aI (@aT _ _ _ _ iC)) bE) (aI (@aT _ _ _ _ (@cL _ _ _ _ _ _ _ (@bN _ _ _ _ _ _ _ _ _ _ G_p_is_height (hr.mono (by decide)) (aA (@aU _ _ _ _ _ _ _ (@aM _ (K) rfl) (pv 0) aD (fun _ _=>rfl)) aE) (by rfl) (by decide) (by rfl) (by rfl)) (@cL _ _ _ _ _ _ _ (@bN _ _ _ _ _ _ _ _ _ _ G_p_is_amount (hr.mono (by decide)) (aA (@aU _ _ _ _ _ _ _ (@aM _ (K) rfl) (pv 0) aD (fun _ _=>rfl)) aE) (by rfl) (by decide) (by rfl) (by rfl)) (@cX _ _ _ _ _ (@bN _ _ _ _ _ _ _ _ _ _ G_p_is_sill (hr.mono (by decide)) (aA (@aU _ _ _ _ _ _ _ (@aM _ (K) rfl) (pv 0) aD (fun _ _=>rfl)) (aA (@aU _ _ _ _ _ _ _ (@aM _ (K) rfl) (pv 0) aD (fun _ _=>rfl)) aE)) (by rfl) (by decide) (by rfl) (by rfl)))))))),?_⟩
 refine ⟨_,rfl,_,_,rfl,d,6,hd,rfl,_,rfl,?_⟩
 by_cases h6:∃ n a b c r l,d = .tup [n,a,b,c,r,l]
 ·obtain ⟨n,a,b,c,r,l,rfl⟩:=h6
  obtain ⟨t,us,rfl,o,v0,r0,rfl,i0,v1,r1,rfl,i1,v2,r2,rfl,i2,v3,r3,rfl,i3,v4,r4,rfl,i4,v5,r5,rfl,i5,h0⟩:=hd
  cases (show r5 = [] from h0)
  have sn:dY n = true:=by
   exact hW (rL hs) List.mem_cons_self
  have q:Q (.bl (qI n && pH zs a b && (eU c && (mQ r && lN c l)))) H:=q
  have at_:∀ (j:Nat) (v:V),([v0,v1,v2,v3,v4,v5]:List V)[j]? = some v → atI [v0,v1,v2,v3,v4,v5] (j:Int) = some v:=fun j v e=>aH e
  refine bC ⟨_,rfl,t,_,0,v0,rfl,rfl,SqT.of o,at_ 0 _ rfl,_,rfl,n,i0,sn,_,rfl,?_⟩
  cases en:qI n with
  | false=>rw [en] at q;exact bW q
  | true =>
   rw [en,Bool.true_and] at q
   refine bC ⟨_,rfl,t,_,1,v1,rfl,rfl,SqT.of o,at_ 1 _ rfl,_,rfl,t,_,2,v2,rfl,rfl,SqT.of o,at_ 2 _ rfl,_,rfl,_,_,_,rfl,a,b,p,zs,i1,i2,rfl,hp,_,rfl,?_⟩
   cases es:pH zs a b with
   | false=>rw [es] at q;exact bW q
   | true =>
    rw [es,Bool.true_and] at q
    refine bC ⟨_,rfl,t,_,3,v3,rfl,rfl,SqT.of o,at_ 3 _ rfl,_,rfl,c,i3,_,rfl,?_⟩
    cases ec:eU c with
    | false=>rw [ec] at q;exact bC q
    | true =>
     rw [ec,Bool.true_and] at q
     refine bW ⟨_,rfl,t,_,4,v4,rfl,rfl,SqT.of o,at_ 4 _ rfl,_,rfl,r,i4,_,rfl,?_⟩
     cases er:mQ r with
     | false=>rw [er] at q;exact bC q
     | true =>
      rw [er,Bool.true_and] at q
      cases c with
      | int j =>
       cases (show v3 = .int j from i3)
       exact bW ⟨_,rfl,t,_,5,v5,rfl,rfl,SqT.of o,at_ 5 _ rfl,_,rfl,t,_,3,_,rfl,rfl,SqT.of o,at_ 3 _ rfl,_,_,rfl,l,j,i5,rfl,q⟩
      | _=>cases ec
 ·have e1:dA zs d = false:=by
   unfold dA
   split
   ·rename_i n a b c r l
    exact absurd ⟨n,a,b,c,r,l,rfl⟩ h6
   ·rfl
  have e2:sN 6 d = false:=by
   cases d with
   | tup ds =>
    refine decide_eq_false (fun e=>?_)
    have e':ds.length = 6:=by omega
    match ds,e',h6 with
    | [n,a,b,c,r,l],_,h6=>exact h6 ⟨n,a,b,c,r,l,rfl⟩
   | _=>rfl
  dsimp only
  rw [e2]
  rw [e1] at q
  exact bW q
theorem zP {zs:List Str} (d:Dv) (h:dA zs d = true):∃ z,cV d = some z:=by
 unfold dA at h
 split at h
 ·rename_i n a b c r l
  rw [Bool.and_eq_true,Bool.and_eq_true] at h
  cases n with
  | str z=>exact ⟨z,rfl⟩
  | _=>cases h.1.1
 ·cases h
def aEF (K:PySem.W.Frag):Sp:=sp2 fun x y H Q=>∃ (d:Dv) (p:Addr) (zs:List Str),Is H d x ∧ dY d = true ∧ y = .ref p ∧ H p = some (.lst (zs.map V.str)) ∧ Q (.bl (pI zs d)) H
theorem vN (T:Txt K mg C):Fc P w K mg base 5 "are_dykes" ["thing","sides"] (aEF K):=by
 have G_p_is_list_of:Fc P w K mg base 1 "is_list_of" ["thing","most"] qS:=jW T
 have G_p_is_dyke:Fc P w K mg base 4 "is_dyke" ["thing","sides"] (aHG K):=zG T
 have G_p_none_twice:Fc P w K mg base 1 "none_twice" ["rows"] tT:=jV T
 refine T.d_p_are_dykes.fcD uW gK (fun f cdv A outer s H vs Q E hr h=>?_)
 obtain ⟨x,y,rfl,d,p0,zs0,hd,hs,rfl,hp0,q⟩:=h
 have big:=bY
 refine ⟨_,(aI (@aT _ _ _ _ (@cL _ _ _ _ _ _ _ (@bN _ _ _ _ _ _ _ _ _ _ G_p_is_list_of (hr.mono (by decide)) (aA (pv 0) (aA (@qG _ _ _ _ T.g_MOST_DYKES (by rfl) (by decide)) aE)) (by rfl) (by decide) (by rfl) (by rfl)) (@cL _ _ _ _ _ _ _ (@aZ _ _ _ _ _ _ _ _ _ (@jQ _ rfl) rfl T.n_all iE (aA (@cQ _ _ _ _ _ _ _ _ _ _ _ ["row","sides"] 1 [1] rfl (@bJ _ (K) _ _ _ rfl (@bK _ _ _ _ (pv 0))) (fun R=>@aN _ _ (0) _ (show List.Nodup (["row","sides"]:List Str) by decide +kernel) rfl (Or.inl rfl) (by trivial)) (@bG _ _ (by decide)) (fun R=>cN) (fun R=>(@bN _ _ _ _ _ _ _ _ _ _ G_p_is_dyke (hr.mono (by decide)) (aA (pv 0) (aA (pv 1) aE)) (by rfl) (by decide) (by rfl) (by rfl))) (by rfl) (by rfl) (by rfl) (by rfl) (by rfl) (by rfl) (by rfl) (by intro _;rfl)) aE) (by decide) (by decide) (by rfl) (by rfl)) (@cX _ _ _ _ _ (@bN _ _ _ _ _ _ _ _ _ _ G_p_none_twice (hr.mono (by decide)) (aA (pv 0) aE) (by rfl) (by decide) (by rfl) (by rfl))))))),?_⟩
 refine ⟨_,rfl,_,_,rfl,d,40,hd,rfl,_,rfl,?_⟩
 cases d with
 | lst ds =>
  obtain ⟨p,us,rfl,o,hi⟩:=hd
  have l1:=hi.length
  have hs':=Bool.and_eq_true_iff.mp (show (decide (ds.length ≤ 1000) && fW ds) = true from hs)
  have l2:ds.length ≤ 1000:=of_decide_eq_true hs'.1
  have q:Q (.bl ((decide (1 ≤ ds.length) && decide (ds.length ≤ 40)) && (ds.all (dA zs0) && decide ((ds.map cV).Nodup)))) H:=q
  have e0:(decide (1 ≤ ds.length) && decide ((ds.length:Int) ≤ 40)) = (decide (1 ≤ ds.length) && decide (ds.length ≤ 40)):=by
   congr 1
   rw [Bool.eq_iff_iff,decide_eq_true_iff,decide_eq_true_iff]
   omega
  show if (decide (1 ≤ ds.length) && decide ((ds.length:Int) ≤ 40)) = true then _ else _
  rw [e0]
  refine mP (fun h1=>?_) (fun h1=>?_)
  ·rw [h1,Bool.true_and] at q
   refine ⟨_,rfl,p,rfl,⟨_,SqL.of o⟩,?_⟩
   refine bV (F:=K) (xs:=us) (by omega) (fun i ys H'=>H' = H ∧ ys = (ds.take i).map fun d=>V.bl (dA zs0 d)) ⟨rfl,rfl⟩ ?_ ?_ ?_
   ·rintro i ys H' hi' ⟨rfl,rfl⟩
    exact ⟨SqL.of o,by rw [List.length_map,List.length_take];omega⟩
   ·rintro i x ys H' K1 K2 hx ⟨rfl,rfl⟩ k1 k2
    have hil:i < us.length:=(List.getElem?_eq_some_iff.mp hx).1
    obtain ⟨d,ed⟩:∃ d,ds[i]? = some d:=⟨_,List.getElem?_eq_getElem (by omega)⟩
    obtain ⟨v,ev,iv⟩:=hi.get ed
    rw [hx] at ev
    cases ev
    refine ⟨_,rfl,_,rfl,_,_,rfl,d,p0,zs0,iv,hW hs'.2 (List.mem_of_getElem? ed),rfl,SqL.of hp0,k1 _ _ ⟨rfl,?_⟩⟩
    rw [List.take_add_one,ed]
    simp
   ·rintro ys H' ⟨rfl,rfl⟩
    intro p1 hp1
    have np:p ≠ p1:=aL o hp1
    refine ⟨p1,ds.map (dA zs0),rfl,SqL.of ?_,_,rfl,?_⟩
    ·rw [aB,List.take_of_length_le (by omega),List.map_map]
     rfl
    have e1:(ds.map (dA zs0)).all id = ds.all (dA zs0):=by rw [List.all_map];rfl
    rw [e1]
    refine mP (fun h2=>?_) (fun h2=>?_)
    ·rw [h2,Bool.true_and] at q
     obtain ⟨zs,ez⟩:=pU zP h2
     have l3:zs.length = ds.length:=by have:=congrArg List.length ez;simpa using this.symm
     refine ⟨_,rfl,_,rfl,p,us,ds,zs,rfl,by rw [aP np];exact o,IsL.same (aK.upd hp1) _ _ hi,ez,by omega,?_⟩
     have e2:decide zs.Nodup = decide (ds.map cV).Nodup:=by rw [ez,Bool.eq_iff_iff,decide_eq_true_iff,decide_eq_true_iff,fK]
     rw [e2]
     exact dI.of (iH.lst hp1) q
    ·have h2':ds.all (dA zs0) = false:=by simpa using h2
     rw [h2'] at q
     exact dI.of (iH.lst hp1) q
  ·have h1':(decide (1 ≤ ds.length) && decide (ds.length ≤ 40)) = false:=by simpa using h1
   rw [h1'] at q
   exact dI.of (.refl _) q
 | _=>exact bC (dI.of (.refl _) q)
def aCR (C:Addr):Sp:=sp3 fun x v1 v2 H Q=>∃ (p dx:Addr) (fs ds:List Dv),x = .ref p ∧ H p = some (.ins C dx []) ∧ Is H (.lst fs) v1 ∧ Is H (.lst ds) v2 ∧ dY (.lst fs) = true ∧ dY (.lst ds) = true ∧
 mY (.lst fs) = true ∧ pI ("sea" :: fs.map aJ) (.lst ds) = true ∧ ∀ H',LandAt C H' p fs ds → (∀ b o,H b = some o → b ≠ p → H' b = some o) → Q .non H'
def uH (C:Addr) (sel:List Dv → List Dv → List Dv):Sp:=sp1 fun x H Q=>∃ (p:Addr) (fs ds:List Dv),x = .ref p ∧ LandAt C H p fs ds ∧ ∀ (l:Addr) (vs:List V) (H':Hp),aK H H' → H l = none → H' l = some (.lst vs) → IsL H' (sel fs ds) vs → Q (.ref l) H'
def nE (C:Addr) (sel:List Dv → List Dv → List Str):Sp:=sp1 fun x H Q=>∃ (p:Addr) (fs ds:List Dv),x = .ref p ∧ LandAt C H p fs ds ∧ ∀ (l:Addr) (H':Hp),aK H H' → H l = none → H' l = some (.lst ((sel fs ds).map V.str)) → Q (.ref l) H'
def qR (C:Addr) (sel:List Dv → List Dv → List Dv):Sp:=sp1 fun x H Q=>∃ (p:Addr) (fs ds:List Dv),x = .ref p ∧ LandAt C H p fs ds ∧ ∀ (l:Addr) (vs:List V),H l = none → IsL H (sel fs ds) vs → Q (.ref l) (upd H l (.lst vs))
def tU (C:Addr) (sel:List Dv → List Dv → List Str):Sp:=sp1 fun x H Q=>∃ (p:Addr) (fs ds:List Dv),x = .ref p ∧ LandAt C H p fs ds ∧ ∀ (l:Addr),H l = none → Q (.ref l) (upd H l (.lst ((sel fs ds).map V.str)))
theorem aHR {C:Addr} {sel:List Dv → List Dv → List Dv}:∀ vs H Q E,uH C sel vs H Q E → qR C sel vs H Q E:=by
 rintro vs H Q E ⟨x,rfl,p,fs,ds,rfl,L,q⟩
 exact ⟨_,rfl,p,fs,ds,rfl,L,fun l us hl hi=>q l us _ (aK.upd hl) hl aB (IsL.same (aK.upd hl) _ _ hi)⟩
theorem aGX {C:Addr} {sel:List Dv → List Dv → List Str}:∀ vs H Q E,nE C sel vs H Q E → tU C sel vs H Q E:=by
 rintro vs H Q E ⟨x,rfl,p,fs,ds,rfl,L,q⟩
 exact ⟨_,rfl,p,fs,ds,rfl,L,fun l hl=>q l _ (aK.upd hl) hl aB⟩
theorem rE (T:Txt K mg C):Mc P w K mg base 1 C "fields" ["self"] (qR C fun fs _=>fs):=by
 refine T.m_land_p_fields.mcD rQ lM (fun f cdv A outer s H vs Q E hr h=>?_)
 obtain ⟨x,rfl,p,fs,ds,rfl,L,q⟩:=h
 obtain ⟨dx,d1,d2,hx,⟨k1,h1,e1,i1⟩,t2⟩:=L.ex
 refine ⟨_,(aI (@aT _ _ _ _ (@cE _ _ _ _ _ _ _ _ _ (@mW _ rfl) rfl T.n_list dG (aA (@zA _ _ _ _ _ _ _ _ _ PySem.F.plainAttrs_dict PySem.F.slot_dict_values PySem.F.type_dict_values xR (@eV _ _ _ _ _ (pv 0) rfl) (by rfl) (by rfl)) aE) (by decide) (by decide) (by rfl) (by rfl)))),?_⟩
 refine ⟨_,rfl,p,C,dx,_,_,rfl,hx,T.cl_Land,T.a_field_rows,nQ _ _,.inr (.inr (.inl ⟨rfl,.inl ⟨_,h1⟩⟩)),d1,k1,rfl,rfl,.inl h1,fun v hv=>?_⟩
 have nv:d1 ≠ v:=aL h1 hv
 refine ⟨v,d1,k1,rfl,aB,.inl (by rw [aP nv];exact h1),fun l hl=>?_⟩
 exact dI.of (iH.under hv rfl hl) (q l _ ((aK.upd hv).free hl) i1)
theorem mK (T:Txt K mg C):Mc P w K mg base 1 C "dykes" ["self"] (qR C fun _ ds=>ds):=by
 refine T.m_land_p_dykes.mcD tK lM (fun f cdv A outer s H vs Q E hr h=>?_)
 obtain ⟨x,rfl,p,fs,ds,rfl,L,q⟩:=h
 obtain ⟨dx,d1,d2,hx,t1,⟨k1,h1,e1,i1⟩⟩:=L.ex
 refine ⟨_,(aI (@aT _ _ _ _ (@cE _ _ _ _ _ _ _ _ _ (@mW _ rfl) rfl T.n_list dG (aA (@zA _ _ _ _ _ _ _ _ _ PySem.F.plainAttrs_dict PySem.F.slot_dict_values PySem.F.type_dict_values xR (@eV _ _ _ _ _ (pv 0) rfl) (by rfl) (by rfl)) aE) (by decide) (by decide) (by rfl) (by rfl)))),?_⟩
 refine ⟨_,rfl,p,C,dx,_,_,rfl,hx,T.cl_Land,T.a_dyke_rows,zO _ _,.inr (.inr (.inl ⟨rfl,.inl ⟨_,h1⟩⟩)),d2,k1,rfl,rfl,.inl h1,fun v hv=>?_⟩
 have nv:d2 ≠ v:=aL h1 hv
 refine ⟨v,d2,k1,rfl,aB,.inl (by rw [aP nv];exact h1),fun l hl=>?_⟩
 exact dI.of (iH.under hv rfl hl) (q l _ ((aK.upd hv).free hl) i1)
theorem jX (T:Txt K mg C):Mc P w K mg base 1 C "dykes" ["self"] (uH C fun _ ds=>ds):=(mK T).imp aHR
theorem vW {kvs:List (Key × V)} {ds:List Dv} (e:kvs.map (·.1) = ds.map lD):(kvs.map fun kv=>kV kv.1) = (ds.map aJ).map V.str:=by
 have h:(kvs.map fun kv=>kV kv.1) = (kvs.map (·.1)).map kV:=by rw [List.map_map];rfl
 rw [h,e,List.map_map,List.map_map]
 rfl
theorem nN (T:Txt K mg C):Mc P w K mg base 1 C "field_names" ["self"] (tU C fun fs _=>fs.map aJ):=by
 refine T.m_land_p_field_names.mc oE lM (fun f cdv A outer s H vs Q E hr h=>?_)
 obtain ⟨x,rfl,p,fs,ds,rfl,L,q⟩:=h
 obtain ⟨dx,d1,d2,hx,⟨k1,h1,e1,i1⟩,t2⟩:=L.ex
 refine ⟨_,(aI (@aT _ _ _ _ (@cE _ _ _ _ _ _ _ _ _ (@pE _ rfl) rfl T.n_list dG (aA (@eV _ _ _ _ _ (pv 0) rfl) aE) (by decide) (by decide) (by rfl) (by rfl)))),?_⟩
 refine ⟨_,rfl,p,C,dx,_,_,rfl,hx,T.cl_Land,T.a_field_rows,nQ _ _,d1,k1,rfl,.inl h1,fun l hl=>?_⟩
 have:=q l hl
 rw [vW e1]
 exact this
theorem oF (T:Txt K mg C):Mc P w K mg base 1 C "dyke_names" ["self"] (tU C fun _ ds=>ds.map aJ):=by
 refine T.m_land_p_dyke_names.mc oN lM (fun f cdv A outer s H vs Q E hr h=>?_)
 obtain ⟨x,rfl,p,fs,ds,rfl,L,q⟩:=h
 obtain ⟨dx,d1,d2,hx,t1,⟨k1,h1,e1,i1⟩⟩:=L.ex
 refine ⟨_,(aI (@aT _ _ _ _ (@cE _ _ _ _ _ _ _ _ _ (@pE _ rfl) rfl T.n_list dG (aA (@eV _ _ _ _ _ (pv 0) rfl) aE) (by decide) (by decide) (by rfl) (by rfl)))),?_⟩
 refine ⟨_,rfl,p,C,dx,_,_,rfl,hx,T.cl_Land,T.a_dyke_rows,zO _ _,d2,k1,rfl,.inl h1,fun l hl=>?_⟩
 have:=q l hl
 rw [vW e1]
 exact this
theorem fU (T:Txt K mg C):Mc P w K mg base 1 C "field_names" ["self"] (nE C fun fs _=>fs.map aJ):=(nN T).imp aGX
theorem gI {H:Hp} {n a b:Str} {c r:Int} {s:Dv} {v:V} (h:Is H (.tup [.str n,.str a,.str b,.int c,.int r,s]) v):∃ t vs,v = .ref t ∧ H t = some (.tup [.str n,.str a,.str b,.int c,.int r,vs]) ∧ Is H s vs:=by
 obtain ⟨t,us,rfl,o,v0,r0,rfl,i0,v1,r1,rfl,i1,v2,r2,rfl,i2,v3,r3,rfl,i3,v4,r4,rfl,i4,v5,r5,rfl,i5,h0⟩:=h
 cases (show r5 = [] from h0)
 cases (show v0 = _ from i0)
 cases (show v1 = _ from i1)
 cases (show v2 = _ from i2)
 cases (show v3 = _ from i3)
 cases (show v4 = _ from i4)
 exact ⟨t,v5,rfl,o,i5⟩
theorem gM {H:Hp} {n:Str} {g e:Int} {v:V} (h:Is H (.tup [.str n,.int g,.int e]) v):∃ t,v = .ref t ∧ H t = some (.tup [.str n,.int g,.int e]):=by
 obtain ⟨t,us,rfl,o,v0,r0,rfl,i0,v1,r1,rfl,i1,v2,r2,rfl,i2,h0⟩:=h
 cases (show r2 = [] from h0)
 cases (show v0 = _ from i0)
 cases (show v1 = _ from i1)
 cases (show v2 = _ from i2)
 exact ⟨t,rfl,o⟩
theorem iR (T:Txt K mg C):Mc P w K mg base 2 C "sluices" ["self"] (nE C fun _ ds=>(ds.filter aX).map aJ):=by
 have G_land_p_dykes:Mc P w K mg base 1 C "dykes" ["self"] (uH C fun _ ds=>ds):=jX T
 refine T.m_land_p_sluices.mc qW lM (fun f cdv A outer s H vs Q E hr h=>?_)
 obtain ⟨x,rfl,p,fs,ds,rfl,L,q⟩:=h
 have big:=bY
 obtain ⟨dx,d1,d2,hx,_⟩:=L.ex
 have gd:=(kE _ _).mp L.okd
 refine ⟨_,(aI (@aT _ _ _ _ (@cQ _ _ _ _ _ _ _ _ _ _ _ ["dyke"] 1 [] rfl (@bJ _ (K) _ _ _ rfl (@bK _ _ _ _ (@gH _ _ _ _ _ _ _ _ _ _ _ T.cl_Land G_land_p_dykes (hr.mono (by decide)) (pv 0) (by rfl)))) (fun R=>@aN _ _ (0) _ (show List.Nodup (["dyke"]:List Str) by decide +kernel) rfl (Or.inl rfl) (by trivial)) (@bG _ _ (by decide)) (fun R=>@kU _ _ _ (@bH _ _ _ _ _ _ _ _ pP (@aU _ _ _ _ _ _ _ (@aM _ (K) rfl) (pv 0) aD (fun _ _=>rfl)) jT (@bF _ _ (by decide) (by decide)))) (fun R=>(@aU _ _ _ _ _ _ _ (@aM _ (K) rfl) (pv 0) aD (fun _ _=>rfl))) (by rfl) (by rfl) (by rfl) (by rfl) (by rfl) (by rfl) (by rfl) (by intro _;rfl)))),?_⟩
 refine ⟨_,rfl,p,dx,_,rfl,hx,eF _ _ (by decide +kernel) (by decide +kernel),_,rfl,p,fs,ds,rfl,L,fun l us H1 S1 fl hl hi=>?_⟩
 have hi:IsL H1 ds us:=hi
 have l1:=hi.length
 have l2:=gd.l2
 refine ⟨l,rfl,⟨_,SqL.of hl⟩,?_⟩
 refine bV (F:=K) (xs:=us) (by omega) (fun i ys H'=>H' = H1 ∧ ys = (((ds.take i).filter aX).map aJ).map V.str ∧ ys.length ≤ i) ⟨rfl,rfl,Nat.le_refl _⟩ ?_ ?_ ?_
 ·rintro i ys H' hi' ⟨rfl,rfl,hy⟩
  exact ⟨SqL.of hl,hy⟩
 ·rintro i x ys H' K1 K2 hx ⟨rfl,rfl,hy⟩ k1 k2
  have hil:i < us.length:=(List.getElem?_eq_some_iff.mp hx).1
  obtain ⟨d,ed⟩:∃ d,ds[i]? = some d:=⟨_,List.getElem?_eq_getElem (by omega)⟩
  obtain ⟨v,ev,iv⟩:=hi.get ed
  rw [hx] at ev
  cases ev
  obtain ⟨n,a,b,c,r,sl,rfl,_⟩:=bI (gd.all d (List.mem_of_getElem? ed))
  obtain ⟨t,vs,rfl,o,iss⟩:=gI iv
  refine ⟨_,rfl,t,_,5,vs,rfl,rfl,SqT.of o,aH (j:=5) rfl,rfl,_,rfl,?_⟩
  rw [aBW iss]
  have e0:aX (.tup [.str n,.str a,.str b,.int c,.int r,sl]) = !vZ sl:=rfl
  cases e:vZ sl with
  | true =>
   refine bC (k2 _ ⟨rfl,?_,by omega⟩)
   rw [List.take_add_one,ed]
   simp [e0,e]
  | false =>
   refine bW ⟨_,rfl,t,_,0,.str n,rfl,rfl,SqT.of o,aH (j:=0) rfl,k1 _ _ ⟨rfl,?_,by rw [List.length_append,List.length_singleton];omega⟩⟩
   rw [List.take_add_one,ed]
   simp [e0,e,aJ,cV]
 ·rintro ys H' ⟨rfl,rfl,hy⟩
  intro l2 hl2
  refine q l2 _ (S1.trans (aK.upd hl2)) (S1.free hl2) ?_
  rw [aB,List.take_of_length_le (by omega)]
theorem cS {C:Addr} {H:Hp} {p:Addr} {fs ds:List Dv} (L:LandAt C H p fs ds):GoodF fs ∧ GoodD ("sea" :: fs.map aJ) ds:=⟨(pT _).mp L.okf,(kE _ _).mp L.okd⟩
def uJ (C:Addr):Sp:=sp2 fun x y H Q=>∃ (p:Addr) (fs ds:List Dv) (z:Str) (g e:Int),x = .ref p ∧ y = .str z ∧ LandAt C H p fs ds ∧ Dv.tup [.str z,.int g,.int e] ∈ fs ∧ Q (.int g) H
theorem mJ (T:Txt K mg C):Mc P w K mg base 1 C "ground" ["self","field"] (uJ C):=by
 refine T.m_land_p_ground.mc rP gK (fun f cdv A outer s H vs Q E hr h=>?_)
 obtain ⟨x,y,rfl,p,fs,ds,z,g,e,rfl,rfl,L,m,q⟩:=h
 have hu:=jP hr
 obtain ⟨dx,d1,d2,hx,⟨k1,h1,e1,i1⟩,t2⟩:=L.ex
 obtain ⟨v,ev,iv⟩:=yP e1 i1 (cS L).1.nd m
 obtain ⟨t,rfl,o⟩:=gM iv
 refine ⟨_,(aI (@aT _ _ _ _ (@aU _ _ _ _ _ _ _ (@aM _ (K) rfl) (@jD _ _ _ _ _ _ hu (@eV _ _ _ _ _ (pv 0) rfl) (pv 1) (fun _ _=>rfl)) aD (fun _ _=>rfl)))),?_⟩
 refine ⟨_,rfl,p,C,dx,_,_,rfl,hx,T.cl_Land,T.a_field_rows,nQ _ _,_,rfl,d1,.ref t,rfl,?_,t,_,1,.int g,rfl,rfl,SqT.of o,aH (j:=1) rfl,q⟩
 rw [← ev]
 exact lT.k (k:=Sum.inr z) h1
def aEG (C:Addr):Sp:=sp2 fun x y H Q=>∃ (p:Addr) (fs ds:List Dv) (d:Dv),x = .ref p ∧ y = .str (aJ d) ∧ LandAt C H p fs ds ∧ d ∈ ds ∧ ∀ v,Is H d v → Q v H
theorem vO (T:Txt K mg C):Mc P w K mg base 1 C "dyke" ["self","name"] (aEG C):=by
 refine T.m_land_p_dyke.mc uX gK (fun f cdv A outer s H vs Q E hr h=>?_)
 obtain ⟨x,y,rfl,p,fs,ds,d,rfl,rfl,L,m,q⟩:=h
 have hu:=jP hr
 obtain ⟨dx,d1,d2,hx,t1,⟨k1,h1,e1,i1⟩⟩:=L.ex
 obtain ⟨v,ev,iv⟩:=yP e1 i1 (cS L).2.nd m
 refine ⟨_,(aI (@aT _ _ _ _ (@jD _ _ _ _ _ _ hu (@eV _ _ _ _ _ (pv 0) rfl) (pv 1) (fun _ _=>rfl)))),?_⟩
 refine ⟨_,rfl,p,C,dx,_,_,rfl,hx,T.cl_Land,T.a_dyke_rows,zO _ _,_,rfl,d2,v,rfl,?_,q v iv⟩
 rw [← ev]
 exact lT.k (k:=Sum.inr (aJ d)) h1
theorem aDS {α β:Type}:∀ {xs:List α} {ys:List β},xs.length = ys.length → (xs.zip ys).map (·.1) = xs
 | [],[],_=>rfl
 | x :: xs,y :: ys,h=>by rw [List.zip_cons_cons,List.map_cons,aDS (by simpa using h)]
 | [],_ :: _,h=>by simp at h
 | _ :: _,[],h=>by simp at h
theorem aDR {α β:Type}:∀ {xs:List α} {ys:List β},xs.length = ys.length → (xs.zip ys).map (·.2) = ys
 | [],[],_=>rfl
 | x :: xs,y :: ys,h=>by rw [List.zip_cons_cons,List.map_cons,aDR (by simpa using h)]
 | [],_ :: _,h=>by simp at h
 | _ :: _,[],h=>by simp at h
def dR (ds:List Dv) (us:List V):List (Key × V):=(ds.map lD).zip us
theorem nM {ds:List Dv} {us:List V} (h:us.length = ds.length):(dR ds us).map (·.1) = ds.map lD:=aDS (by rw [List.length_map];exact h.symm)
theorem vC {ds:List Dv} {us:List V} (h:us.length = ds.length):(dR ds us).map (·.2) = us:=aDR (by rw [List.length_map];exact h.symm)
theorem pO {ds:List Dv} {us:List V} (h:us.length = ds.length):(dR ds us).length = us.length:=by
 unfold dR
 rw [List.length_zip,List.length_map]
 omega
theorem aBD {ds:List Dv} {us:List V} {i:Nat} {d:Dv} {v:V} (e1:ds[i]? = some d) (e2:us[i]? = some v):(dR ds us)[i]? = some (lD d,v):=by
 unfold dR
 rw [List.getElem?_zip_eq_some]
 exact ⟨by rw [List.getElem?_map,e1];rfl,e2⟩
theorem mO {ds:List Dv} (h:(ds.map aJ).Nodup):(ds.map lD).Nodup:=by
 have e:ds.map lD = (ds.map aJ).map Sum.inr:=by rw [List.map_map];rfl
 rw [e,mL]
 exact h
theorem pX (T:Txt K mg C):Ic P w K mg base 6 C ["self","fields","dykes"] (aCR C):=by
 have G_p_are_fields:Fc P w K mg base 4 "are_fields" ["thing"] aAP:=tP T
 have G_p_are_dykes:Fc P w K mg base 5 "are_dykes" ["thing","sides"] (aEF K):=vN T
 refine T.i_Land.ic wZ aIF (fun f cdv A outer s H vs Q E hr h=>?_)
 obtain ⟨x,v1,v2,rfl,p,dx,fs,ds,rfl,hx,hf,hd,sf,sd,okf,okd,q⟩:=h
 have big:=bY
 have gf:=(pT _).mp okf
 have gd:=(kE _ _).mp okd
 have lf:=gf.l2
 have ld:=gd.l2
 obtain ⟨a1,us,rfl,o1,i1⟩:=id hf
 obtain ⟨a2,ws,rfl,o2,i2⟩:=id hd
 have l1:=i1.length
 have l2:=i2.length
 refine ⟨_,(aG (@cD _ _ _ _ _ _ _ _ (@dE _ _ _ _ (@cJ _ _ _ (@bN _ _ _ _ _ _ _ _ _ _ G_p_are_fields (hr.mono (by decide)) (aA (pv 1) aE) (by rfl) (by decide) (by rfl) (by rfl)) (by intro _;rfl))) (aI mH) bE) (aG (@cD _ _ _ _ _ _ _ _ (@dE _ _ _ _ (@cJ _ _ _ (@bN _ _ _ _ _ _ _ _ _ _ G_p_are_dykes (hr.mono (by decide)) (aA (pv 2) (aA (@aR _ _ _ _ _ _ _ _ aCY (@cK _ _ _ _ (aA (@qG _ _ _ _ T.g_SEA (by rfl) (by decide)) aE)) (@cQ _ _ _ _ _ _ _ _ _ _ _ ["field"] 1 [] rfl (@bJ _ (K) _ _ _ rfl (@bK _ _ _ _ (pv 1))) (fun R=>@aN _ _ (0) _ (show List.Nodup (["field"]:List Str) by decide +kernel) rfl (Or.inl rfl) (by trivial)) (@bG _ _ (by decide)) (fun R=>cN) (fun R=>(@aU _ _ _ _ _ _ _ (@aM _ (K) rfl) (pv 0) aD (fun _ _=>rfl))) (by rfl) (by rfl) (by rfl) (by rfl) (by rfl) (by rfl) (by rfl) (by intro _;rfl))) aE)) (by rfl) (by decide) (by rfl) (by rfl)) (by intro _;rfl))) (aI mH) bE) (aG (@iP _ _ _ _ _ _ _ _ (pv 0) (@cE _ _ _ _ _ _ _ _ _ (@cZ _ rfl) rfl T.n_dict eX (aA (@cQ _ _ _ _ _ _ _ _ _ _ _ ["field"] 1 [] rfl (@bJ _ (K) _ _ _ rfl (@bK _ _ _ _ (pv 1))) (fun R=>@aN _ _ (0) _ (show List.Nodup (["field"]:List Str) by decide +kernel) rfl (Or.inl rfl) (by trivial)) (@bG _ _ (by decide)) (fun R=>cN) (fun R=>(@cU _ _ _ _ _ (aA (@aU _ _ _ _ _ _ _ (@aM _ (K) rfl) (pv 0) aD (fun _ _=>rfl)) (aA (pv 0) aE)))) (by rfl) (by rfl) (by rfl) (by rfl) (by rfl) (by rfl) (by rfl) (by intro _;rfl)) aE) (by decide) (by decide) (by rfl) (by rfl)) rfl) (aI (@iP _ _ _ _ _ _ _ _ (pv 0) (@cE _ _ _ _ _ _ _ _ _ (@cZ _ rfl) rfl T.n_dict eX (aA (@cQ _ _ _ _ _ _ _ _ _ _ _ ["dyke"] 1 [] rfl (@bJ _ (K) _ _ _ rfl (@bK _ _ _ _ (pv 2))) (fun R=>@aN _ _ (0) _ (show List.Nodup (["dyke"]:List Str) by decide +kernel) rfl (Or.inl rfl) (by trivial)) (@bG _ _ (by decide)) (fun R=>cN) (fun R=>(@cU _ _ _ _ _ (aA (@aU _ _ _ _ _ _ _ (@aM _ (K) rfl) (pv 0) aD (fun _ _=>rfl)) (aA (pv 0) aE)))) (by rfl) (by rfl) (by rfl) (by rfl) (by rfl) (by rfl) (by rfl) (by intro _;rfl)) aE) (by decide) (by decide) (by rfl) (by rfl)) rfl))))),?_⟩
 refine ⟨_,rfl,_,rfl,.lst fs,hf,sf,_,rfl,?_⟩
 rw [okf]
 refine bC ?_
 refine ⟨_,rfl,aQ rfl,fun p1 hp1=>?_⟩
 have S1:=aK.upd (o:=.lst [.str "sea"]) hp1
 refine ⟨_,rfl,a1,rfl,⟨_,SqL.of (S1 _ _ o1)⟩,?_⟩
 refine bV (F:=K) (xs:=us) (by omega) (fun i ys H'=>H' = upd H p1 (.lst [.str "sea"]) ∧ ys = ((fs.take i).map aJ).map V.str) ⟨rfl,rfl⟩ ?_ ?_ ?_
 ·rintro i ys H' hi' ⟨rfl,rfl⟩
  exact ⟨SqL.of (S1 _ _ o1),by rw [List.length_map,List.length_map,List.length_take];omega⟩
 ·rintro i x ys H' K1 K2 hx' ⟨rfl,rfl⟩ k1 k2
  have hil:i < us.length:=(List.getElem?_eq_some_iff.mp hx').1
  obtain ⟨d,ed⟩:∃ d,fs[i]? = some d:=⟨_,List.getElem?_eq_getElem (by omega)⟩
  obtain ⟨v,ev,iv⟩:=i1.get ed
  rw [hx'] at ev
  cases ev
  obtain ⟨z,g,e,rfl,_⟩:=bP (gf.all d (List.mem_of_getElem? ed))
  obtain ⟨t,rfl,o⟩:=gM iv
  refine ⟨_,rfl,t,_,0,.str z,rfl,rfl,SqT.of (S1 _ _ o),aH (j:=0) rfl,k1 _ _ ⟨rfl,?_⟩⟩
  rw [List.take_add_one,ed]
  simp [aJ,cV]
 ·rintro ys H' ⟨rfl,rfl⟩
  intro p2 hp2
  rw [List.take_of_length_le (by omega)]
  have S2:=aK.upd (o:=.lst ((fs.map aJ).map V.str)) hp2
  refine ⟨p1,p2,_,_,rfl,rfl,S2 _ _ aB,aB,by simp only [List.length_map,List.length_cons,List.length_nil];omega,fun p3 hp3=>?_⟩
  have S3:=aK.upd (o:=.lst ([.str "sea"] ++ (fs.map aJ).map V.str)) hp3
  have S:=S1.trans (S2.trans S3)
  generalize hH3:upd (upd (upd H p1 (.lst [.str "sea"])) p2 (.lst ((fs.map aJ).map V.str))) p3 (.lst ([.str "sea"] ++ (fs.map aJ).map V.str)) = H3 at S
  have hp3':H3 p3 = some (.lst ((("sea":Str) :: fs.map aJ).map V.str)):=by rw [← hH3,aB];rfl
  refine ⟨_,_,rfl,.lst ds,p3,_,Is.same S _ _ hd,sd,rfl,hp3',_,rfl,?_⟩
  rw [okd]
  refine bC ?_
  refine ⟨_,rfl,a1,rfl,⟨_,SqL.of (S _ _ o1)⟩,?_⟩
  refine bV (F:=K) (xs:=us) (by omega) (fun i ys H'=>aK H3 H' ∧ cC H' ys ((dR fs us).take i)) ⟨aK.refl _,cC.nil _⟩ ?_ ?_ ?_
  ·rintro i ys H' hi' ⟨S4,pr⟩
   exact ⟨SqL.of (S4 _ _ (S _ _ o1)),by have:=pr.len;rw [List.length_take] at this;omega⟩
  ·rintro i x ys H' K1 K2 hx' ⟨S4,pr⟩ k1 k2
   have hil:i < us.length:=(List.getElem?_eq_some_iff.mp hx').1
   obtain ⟨d,ed⟩:∃ d,fs[i]? = some d:=⟨_,List.getElem?_eq_getElem (by omega)⟩
   obtain ⟨v,ev,iv⟩:=i1.get ed
   rw [hx'] at ev
   cases ev
   obtain ⟨z,g,e,rfl,_⟩:=bP (gf.all d (List.mem_of_getElem? ed))
   obtain ⟨t,rfl,o⟩:=gM iv
   have ot:=S4 _ _ (S _ _ o)
   refine ⟨_,rfl,t,_,0,.str z,rfl,rfl,SqT.of ot,aH (j:=0) rfl,_,rfl,aQ rfl,fun pt hpt=>k1 _ _ ⟨S4.trans (aK.upd hpt),?_⟩⟩
   rw [List.take_add_one,aBD ed hx']
   exact pr.snoc (k:=Sum.inr z) hpt
  ·rintro ys H4 ⟨S4,pr⟩
   rw [List.take_of_length_le (by rw [pO l1];omega)] at pr
   intro p4 hp4
   have S5:=aK.upd (o:=.lst ys) hp4
   refine ⟨p4,ys,dR fs us,rfl,SqL.of aB,pr.same S5,by rw [pO l1];omega,by rw [nM l1];exact mO gf.nd,fun d1 hd1=>?_⟩
   have S6:=aK.upd (o:=.dK (dR fs us)) hd1
   have SA:=S.trans (S4.trans (S5.trans S6))
   have hd1':upd (upd H4 p4 (.lst ys)) d1 (.dK (dR fs us)) d1 = some (.dK (dR fs us)):=aB
   generalize upd (upd H4 p4 (.lst ys)) d1 (.dK (dR fs us)) = H6 at SA hd1'
   refine ⟨_,rfl,p,C,dx,[],rfl,SA _ _ hx,T.cl_Land,T.a_field_rows,(by show 0 < 1000;decide),?_⟩
   have SB:∀ b o,H b = some o → b ≠ p → upd H6 p (.ins C dx (cF "field_rows" (.ref d1) [])) b = some o:=fun b o e hb=>by rw [aP hb];exact SA _ _ e
   have nd1:d1 ≠ p:=aET hd1' (SA _ _ hx) (by intro z;cases z)
   have SD:aFC H (upd H6 p (.ins C dx (cF "field_rows" (.ref d1) []))):=fun b o e dt=>SB b o e (fun z=>by subst z;rw [hx] at e;cases e;cases dt)
   have hp7:upd H6 p (.ins C dx (cF "field_rows" (.ref d1) [])) p = some (.ins C dx (cF "field_rows" (.ref d1) [])):=aB
   have hd7:upd H6 p (.ins C dx (cF "field_rows" (.ref d1) [])) d1 = some (.dK (dR fs us)):=by rw [aP nd1];exact hd1'
   generalize upd H6 p (.ins C dx (cF "field_rows" (.ref d1) [])) = H7 at SB SD hp7 hd7
   refine ⟨_,rfl,a2,rfl,⟨_,SqL.of (SD _ _ o2 rfl)⟩,?_⟩
   refine bV (F:=K) (xs:=ws) (by omega) (fun i ys H'=>aK H7 H' ∧ cC H' ys ((dR ds ws).take i)) ⟨aK.refl _,cC.nil _⟩ ?_ ?_ ?_
   ·rintro i ys H' hi' ⟨S8,pr⟩
    exact ⟨SqL.of (S8 _ _ (SD _ _ o2 rfl)),by have:=pr.len;rw [List.length_take] at this;omega⟩
   ·rintro i x ys H' K1 K2 hx' ⟨S8,pr⟩ k1 k2
    have hil:i < ws.length:=(List.getElem?_eq_some_iff.mp hx').1
    obtain ⟨d,ed⟩:∃ d,ds[i]? = some d:=⟨_,List.getElem?_eq_getElem (by omega)⟩
    obtain ⟨v,ev,iv⟩:=i2.get ed
    rw [hx'] at ev
    cases ev
    obtain ⟨n,a,b,c,r,sl,rfl,_⟩:=bI (gd.all d (List.mem_of_getElem? ed))
    obtain ⟨t,vs,rfl,o,_⟩:=gI iv
    have ot:=S8 _ _ (SD _ _ o rfl)
    refine ⟨_,rfl,t,_,0,.str n,rfl,rfl,SqT.of ot,aH (j:=0) rfl,_,rfl,aQ rfl,fun pt hpt=>k1 _ _ ⟨S8.trans (aK.upd hpt),?_⟩⟩
    rw [List.take_add_one,aBD ed hx']
    exact pr.snoc (k:=Sum.inr n) hpt
   ·rintro ys H8 ⟨S8,pr⟩
    rw [List.take_of_length_le (by rw [pO l2];omega)] at pr
    intro p9 hp9
    have S9:=aK.upd (o:=.lst ys) hp9
    refine ⟨p9,ys,dR ds ws,rfl,SqL.of aB,pr.same S9,by rw [pO l2];omega,by rw [nM l2];exact mO gd.nd,fun d2 hd2=>?_⟩
    have S10:=aK.upd (o:=.dK (dR ds ws)) hd2
    have SC:=S8.trans (S9.trans S10)
    have hd2':upd (upd H8 p9 (.lst ys)) d2 (.dK (dR ds ws)) d2 = some (.dK (dR ds ws)):=aB
    generalize upd (upd H8 p9 (.lst ys)) d2 (.dK (dR ds ws)) = H10 at SC hd2'
    refine ⟨_,rfl,p,C,dx,_,rfl,SC _ _ hp7,T.cl_Land,T.a_dyke_rows,(by show 1 < 1000;decide),?_⟩
    have nd2:d2 ≠ p:=aET hd2' (SC _ _ hp7) (by intro z;cases z)
    have SE:aFC H (upd H10 p (.ins C dx (oA d1 d2))):=fun b o e dt=>by
     have hb:b ≠ p:=fun z=>by subst z;rw [hx] at e;cases e;cases dt
     rw [aP hb]
     exact SC _ _ (SB _ _ e hb)
    refine q _ ⟨⟨dx,d1,d2,aB,⟨_,(aP nd1).trans (SC _ _ hd7),nM l1,?_⟩,⟨_,(aP nd2).trans hd2',nM l2,?_⟩⟩,okf,okd⟩ fun b o e hb=>?_
    ·rw [vC l1]
     exact IsL.sameD SE _ _ i1
    ·rw [vC l2]
     exact IsL.sameD SE _ _ i2
    ·show upd H10 p (.ins C dx (oA d1 d2)) b = some o
     rw [aP hb]
     exact SC _ _ (SB _ _ e hb)
open Mt02
def Scr (K:PySem.W.Frag) (H:Hp) (x:V):Prop:=∃ (a:Addr) (ns:List Int),x = .ref a ∧ SqL K H a (ns.map V.int) ∧ ns.length ≤ 63
theorem Scr.same {K:PySem.W.Frag} {H H':Hp} {x:V} (S:aK H H') (h:Scr K H x):Scr K H' x:=by
 obtain ⟨a,ns,e,q,l⟩:=h
 exact ⟨a,ns,e,S.seq q,l⟩
theorem at4 {a b c d i:Int} (h0:0 ≤ i) (h1:i < 4):∃ m:Int,atI ([.int a,.int b,.int c,.int d]:List V) i = some (.int m) ∧ (m = a ∨ m = b ∨ m = c ∨ m = d):=by
 obtain ⟨k,rfl⟩:=Int.eq_ofNat_of_zero_le h0
 have hk:k < 4:=by omega
 match k,hk with
 | 0,_=>exact ⟨a,aH rfl,.inl rfl⟩
 | 1,_=>exact ⟨b,aH rfl,.inr (.inl rfl)⟩
 | 2,_=>exact ⟨c,aH rfl,.inr (.inr (.inl rfl))⟩
 | 3,_=>exact ⟨d,aH rfl,.inr (.inr (.inr rfl))⟩
structure Fds (fs:List Dv) (n:Nat):Prop where
 l1:1 ≤ fs.length
 l2:fs.length ≤ n
 all:∀ d ∈ fs,cM d = true
 nd:(fs.map aJ).Nodup
theorem aDL {d:Dv} (h:cM d = true):qJ d = true:=by
 obtain ⟨z,g,e,rfl,_⟩:=bP h
 rfl
theorem aIZ {z:Str} {g e:Int} (hz:fV z = true) (g0:-1000000 ≤ g) (g1:g ≤ 1000000) (e0:0 ≤ e) (e1:e ≤ 1000000):cM (.tup [.str z,.int g,.int e]) = true:=by
 show (fV z && (hgt g && amt e)) = true
 unfold hgt amt
 rw [hz,decide_eq_true g0,decide_eq_true g1,decide_eq_true e0,decide_eq_true e1]
 rfl
structure Dks (zs:List Str) (ds:List Dv) (n:Nat):Prop where
 l1:1 ≤ ds.length
 l2:ds.length ≤ n
 all:∀ d ∈ ds,dA zs d = true
 nd:(ds.map aJ).Nodup
theorem aFL {c s:Dv} (h:lN c s = true):qJ s = true:=by
 cases s with
 | non=>rfl
 | int i=>rfl
 | _=>cases h
theorem sE {zs:List Str} {d:Dv} (h:dA zs d = true):qJ d = true:=by
 obtain ⟨n,a,b,c,r,s,rfl,_,_,_,_,_,_,hs⟩:=bI h
 have:=aFL hs
 show (true && (true && (true && (true && (true && (qJ s && true)))))) = true
 rw [this]
 rfl
theorem aKM {zs:List Str} {n a b:Str} {c r:Int} {s:Dv} (hn:fV n = true) (ha:a ∈ zs) (hb:b ∈ zs) (hab:a ≠ b) (hc:hgt c = true) (hr:amt r = true) (hs:lN (.int c) s = true):dA zs (.tup [.str n,.str a,.str b,.int c,.int r,s]) = true:=by
 show (fV n && (decide (a ∈ zs) && (decide (b ∈ zs) && !(a == b))) && (hgt c && (amt r && lN (.int c) s))) = true
 rw [hn,decide_eq_true ha,decide_eq_true hb,hc,hr,hs,beq_eq_false_iff_ne.mpr hab]
 rfl
theorem zR {i:Int} (h0:-1000000 ≤ i) (h1:i ≤ 1000000):hgt i = true:=by
 unfold hgt
 rw [decide_eq_true h0,decide_eq_true h1]
 rfl
theorem aMS {i:Int} (h0:0 ≤ i) (h1:i ≤ 1000000):amt i = true:=by
 unfold amt
 rw [decide_eq_true h0,decide_eq_true h1]
 rfl
theorem yV {z:Str} (h:fV z = true):z ≠ "sea":=by
 intro e
 subst e
 simp [fV] at h
theorem aHL {fs:List Dv} {n:Nat} (h:Fds fs n):("sea" :: fs.map aJ:List Str).Nodup:=by
 rw [List.nodup_cons]
 refine ⟨fun m=>?_,h.nd⟩
 obtain ⟨d,md,e⟩:=List.mem_map.mp m
 obtain ⟨z,g,e',rfl,hz,_⟩:=bP (h.all d md)
 exact yV hz e
theorem at2 {a b i:Int} (h0:0 ≤ i) (h1:i < 2):∃ m:Int,atI ([.int a,.int b]:List V) i = some (.int m) ∧ (m = a ∨ m = b):=by
 obtain ⟨k,rfl⟩:=Int.eq_ofNat_of_zero_le h0
 have hk:k < 2:=by omega
 match k,hk with
 | 0,_=>exact ⟨a,aH rfl,.inl rfl⟩
 | 1,_=>exact ⟨b,aH rfl,.inr rfl⟩
theorem aGD {fs:List Dv} {n:Nat} (h:Fds fs n) (hn:n ≤ 12):mY (.lst fs) = true:=(pT fs).mpr ⟨h.l1,Nat.le_trans h.l2 hn,h.all,h.nd⟩
theorem aJB {zs:List Str} {ds:List Dv} {n:Nat} (h:Dks zs ds n) (hn:n ≤ 40):pI zs (.lst ds) = true:=(kE zs ds).mpr ⟨h.l1,Nat.le_trans h.l2 hn,h.all,h.nd⟩
theorem nO {z:Str} (h:fV z = true):z.length ≤ 1000:=by
 unfold fV at h
 rw [Bool.and_eq_true,Bool.and_eq_true,Bool.and_eq_true] at h
 have:=of_decide_eq_true h.1.1.2
 omega
theorem sS {d:Dv} (h:cM d = true):dY d = true:=by
 obtain ⟨z,g,e,rfl,hz,_⟩:=bP h
 show (decide (3 ≤ 1000) && (decide (z.length ≤ 1000) && (true && (true && true)))) = true
 rw [decide_eq_true (nO hz)]
 rfl
theorem uN {fs:List Dv} (hf:∀ d ∈ fs,cM d = true) {a:Str} (h:a ∈ ("sea" :: fs.map aJ:List Str)):a.length ≤ 1000:=by
 rcases List.mem_cons.mp h with rfl | h
 ·decide +kernel
 ·obtain ⟨d,m,rfl⟩:=List.mem_map.mp h
  obtain ⟨z,g,e,rfl,hz,_⟩:=bP (hf d m)
  exact nO hz
theorem wC {fs:List Dv} (hf:∀ d ∈ fs,cM d = true) {d:Dv} (h:dA ("sea" :: fs.map aJ) d = true):dY d = true:=by
 obtain ⟨n,a,b,c,r,s,rfl,hn,ha,hb,_,_,_,hs⟩:=bI h
 have e:dY s = true:=by
  cases s with
  | non=>rfl
  | int i=>rfl
  | _=>cases hs
 show (decide (6 ≤ 1000) && (decide (n.length ≤ 1000) && (decide (a.length ≤ 1000) && (decide (b.length ≤ 1000) && (true && (true && (dY s && true))))))) = true
 rw [decide_eq_true (nO hn),decide_eq_true (uN hf ha),decide_eq_true (uN hf hb),e]
 rfl
theorem mM {ds:List Dv} (h:∀ d ∈ ds,dY d = true) (hl:ds.length ≤ 1000):dY (.lst ds) = true:=by
 show (decide (ds.length ≤ 1000) && fW ds) = true
 rw [decide_eq_true hl,pL h]
 rfl
theorem aBX {ds:List Dv} (h:∀ d ∈ ds,bA 29 d = true):bA 30 (.lst ds) = true:=by
 have:=nT h
 simpa [bA] using this
theorem pA (zs:List Str):bA 30 (.lst (zs.map Dv.str)) = true:=aBX fun d m=>by
 obtain ⟨z,_,rfl⟩:=List.mem_map.mp m
 rfl
theorem rF {d:Dv} {x y:V} {H:Hp} {Q:VK} (hx:Is H d x) (hy:Is H d y) (f:bA 30 d = true) (q:Q (.bl false) H):aLY true x y H Q:=⟨d,d,hx,hy,f,f,by rw [wJ 30 d f];exact q⟩
theorem aCB (xs:List V) (k:Nat):wM xs (some (k:Int)) none = xs.drop k:=by
 unfold wM
 rw [HT.sIx_nat,HT.sIx_none]
 by_cases h:k ≤ xs.length
 ·rw [Nat.min_eq_left h,List.take_of_length_le (by rw [List.length_drop];exact Nat.le_refl _)]
 ·rw [Nat.min_eq_right (by omega),Nat.sub_self,List.take_zero,List.drop_eq_nil_of_le (by omega)]
theorem pJ {H:Hp} {l:Addr} {zs:List Str} (h:H l = some (.lst (zs.map V.str))):Is H (.lst (zs.map Dv.str)) (.ref l):=⟨l,_,rfl,h,IsL.strs H zs⟩
open Mt04
def aGY (C:Addr):Sp:=sp2 fun x y H Q=>∃ (p:Addr) (fs ds:List Dv) (d:Dv),x = .ref p ∧ LandAt C H p fs ds ∧ Is H d y ∧ Q (.bl (eL ds d)) H
theorem zE (T:Txt K mg C):Fc P w K mg base 3 "is_work" ["land","thing"] (aGY C):=by
 have G_p_is_tuple_of:Fc P w K mg base 1 "is_tuple_of" ["thing","length"] pK:=fF T
 have G_p_is_one_of:Fc P w K mg base 1 "is_one_of" ["thing","names"] (tW K):=kW T
 have G_p_is_height:Fc P w K mg base 2 "is_height" ["thing"] kH:=fG T
 have G_land_p_dyke_names:Mc P w K mg base 1 C "dyke_names" ["self"] (tU C fun _ ds=>ds.map aJ):=oF T
 have G_land_p_dyke:Mc P w K mg base 1 C "dyke" ["self","name"] (aEG C):=vO T
 refine T.d_p_is_work.fcD yW gK (fun f cdv A outer s H vs Q E hr h=>?_)
 obtain ⟨x,y,rfl,p,fs,ds,d,rfl,L,hd,q⟩:=h
 obtain ⟨dx,e1,e2,hx,_⟩:=L.ex
 have no:∀ m:Str,¬ m = "dyke_rows" → ¬ m = "field_rows" → (oA e1 e2).lookup m = none:=fun m h1 h2=>eF _ _ h1 h2
 refine ⟨_,(aG (@cD _ _ _ _ _ _ _ _ (@PW.pt _ _ _ (@jZ _ _ _ _ _ _ _ (@dE _ _ _ _ (@cJ _ _ _ (@bN _ _ _ _ _ _ _ _ _ _ G_p_is_tuple_of (hr.mono (by decide)) (aA (pv 1) (aA aD aE)) (by rfl) (by decide) (by rfl) (by rfl)) (by intro _;rfl))) (@jS _ _ _ _ (@dE _ _ _ _ (@cJ _ _ _ (@bN _ _ _ _ _ _ _ _ _ _ G_p_is_one_of (hr.mono (by decide)) (aA (@aU _ _ _ _ _ _ _ (@aM _ (K) rfl) (pv 1) aD (fun _ _=>rfl)) (aA (@gH _ _ _ _ _ _ _ _ _ _ _ T.cl_Land G_land_p_dyke_names (hr.mono (by decide)) (pv 0) (by rfl)) aE)) (by rfl) (by decide) (by rfl) (by rfl)) (by intro _;rfl)))))) (aI (@aT _ _ _ _ iC)) bE) (aI (@aT _ _ _ _ (@cL _ _ _ _ _ _ _ (@bN _ _ _ _ _ _ _ _ _ _ G_p_is_height (hr.mono (by decide)) (aA (@aU _ _ _ _ _ _ _ (@aM _ (K) rfl) (pv 1) aD (fun _ _=>rfl)) aE) (by rfl) (by decide) (by rfl) (by rfl)) (@cX _ _ _ _ _ (@cB _ _ _ _ _ _ _ _ aNU (@aU _ _ _ _ _ _ _ (@aM _ (K) rfl) (pv 1) aD (fun _ _=>rfl)) (@aU _ _ _ _ _ _ _ (@aM _ (K) rfl) (@aCX _ _ _ _ _ _ _ _ _ _ _ _ _ _ T.cl_Land G_land_p_dyke (hr.mono (by decide)) (pv 0) (aA (@aU _ _ _ _ _ _ _ (@aM _ (K) rfl) (pv 1) aD (fun _ _=>rfl)) aE) (by rfl) (by rfl) (by rfl)) aD (fun _ _=>rfl)) (@bF _ _ (by decide) (by decide)))))))),?_⟩
 refine ⟨_,rfl,_,_,rfl,d,2,hd,rfl,_,rfl,?_⟩
 by_cases h2:∃ a b,d = .tup [a,b]
 ·obtain ⟨a,b,rfl⟩:=h2
  obtain ⟨t,us,rfl,o,va,r1,rfl,ha,vb,r2,rfl,hb,h0⟩:=hd
  cases (show r2 = [] from h0)
  refine bC ⟨_,rfl,t,_,0,va,rfl,rfl,SqT.of o,aH (j:=0) rfl,_,rfl,p,dx,_,rfl,hx,no _ (by decide +kernel) (by decide +kernel),_,rfl,p,fs,ds,rfl,L,fun l hl=>?_⟩
  have S:=aK.upd (o:=.lst ((ds.map aJ).map V.str)) hl
  refine ⟨_,_,rfl,a,l,ds.map aJ,Is.same S _ _ ha,rfl,SqL.of aB,_,rfl,?_⟩
  have dr:=iH.lst (xs:=(ds.map aJ).map V.str) hl
  cases ea:cH (ds.map aJ) a with
  | false =>
   have e:eL ds (.tup [a,b]) = false:=by
    unfold eL
    split
    ·rename_i z v hq
     cases hq
     have:decide (z ∈ ds.map aJ) = false:=ea
     rw [this]
     rfl
    ·rfl
   rw [e] at q
   exact bW (dI.of dr q)
  | true =>
   refine bC ⟨_,rfl,t,_,1,vb,rfl,rfl,SqT.of (S _ _ o),aH (j:=1) rfl,_,rfl,b,Is.same S _ _ hb,_,rfl,?_⟩
   cases eb:eU b with
   | false =>
    have e:eL ds (.tup [a,b]) = false:=by
     unfold eL
     split
     ·rename_i z v hq
      cases hq
      have:hgt v = false:=eb
      rw [this]
      simp
     ·rfl
    rw [e] at q
    exact bC (dI.of dr q)
   | true =>
    cases a with
    | str z =>
     cases b with
     | int v =>
      have mz:z ∈ ds.map aJ:=of_decide_eq_true ea
      obtain ⟨d',md,rfl⟩:=List.mem_map.mp mz
      cases (show va = .str (aJ d') from ha)
      cases (show vb = .int v from hb)
      have gd:=(cS L).2
      refine bW ⟨_,rfl,t,_,1,_,rfl,rfl,SqT.of (S _ _ o),aH (j:=1) rfl,_,rfl,p,dx,_,rfl,S _ _ hx,no _ (by decide +kernel) (by decide +kernel),_,rfl,t,_,0,_,rfl,rfl,SqT.of (S _ _ o),aH (j:=0) rfl,_,_,rfl,p,fs,ds,d',rfl,rfl,L.same S,md,fun v1 iv1=>?_⟩
      have ec:=wN gd.nd md
      obtain ⟨n,a',b',c,r,sl,rfl,_⟩:=bI (gd.all d' md)
      obtain ⟨t',sv,rfl,o',_⟩:=gI iv1
      refine ⟨t',_,3,.int c,rfl,rfl,SqT.of o',aH (j:=3) rfl,_,_,rfl,rfl,dI.of dr ?_⟩
      have e:eL ds (.tup [.str (aJ (.tup [.str n,.str a',.str b',.int c,.int r,sl])),.int v]) = decide (c ≤ v):=by
       show (decide (_ ∈ ds.map aJ) && (hgt v && decide (jG ds _ ≤ v))) = _
       rw [decide_eq_true mz,show hgt v = true from eb,ec]
       rfl
      rw [e] at q
      exact q
     | _=>cases eb
    | _=>cases ea
 ·have e1':eL ds d = false:=by
   unfold eL
   split
   ·rename_i z v
    exact absurd ⟨_,_,rfl⟩ h2
   ·rfl
  have e2':sN 2 d = false:=by
   cases d with
   | tup ds' =>
    refine decide_eq_false (fun e=>?_)
    have e':ds'.length = 2:=by omega
    match ds',e',h2 with
    | [a,b],_,h2=>exact h2 ⟨a,b,rfl⟩
   | _=>rfl
  dsimp only
  rw [e2']
  rw [e1'] at q
  exact bW (dI.of (.refl _) q)
def aDY (C:Addr):Sp:=sp2 fun x y H Q=>∃ (p:Addr) (fs ds:List Dv) (d:Dv),x = .ref p ∧ LandAt C H p fs ds ∧ Is H d y ∧ dY d = true ∧ Q (.bl (aCJ ds d)) H
theorem vL (T:Txt K mg C):Fc P w K mg base 4 "are_works" ["land","thing"] (aDY C):=by
 have G_p_is_work:Fc P w K mg base 3 "is_work" ["land","thing"] (aGY C):=zE T
 have G_p_none_twice:Fc P w K mg base 1 "none_twice" ["rows"] tT:=jV T
 refine T.d_p_are_works.fcD uU gK (fun f cdv A outer s H vs Q E hr h=>?_)
 obtain ⟨x,y,rfl,p0,fs,ds0,d,rfl,L,hd,hs,q⟩:=h
 have big:=bY
 obtain ⟨t,ty,e1,e2,e3,e4,_⟩:=nV K hd
 refine ⟨_,(aI (@aT _ _ _ _ (@cL _ _ _ _ _ _ _ (@aZ _ _ _ _ _ _ _ _ _ (@cR _ (K) rfl) rfl T.n_isinstance bX (aA (pv 1) (aA (@nX _ _ _ _ T.n_list dG (by rfl) (by decide) (by decide)) aE)) (by decide) (by decide) (by rfl) (by rfl)) (@cL _ _ _ _ _ _ _ (@aZ _ _ _ _ _ _ _ _ _ (@jQ _ rfl) rfl T.n_all iE (aA (@cQ _ _ _ _ _ _ _ _ _ _ _ ["row","land"] 1 [0] rfl (@bJ _ (K) _ _ _ rfl (@bK _ _ _ _ (pv 1))) (fun R=>@aN _ _ (0) _ (show List.Nodup (["row","land"]:List Str) by decide +kernel) rfl (Or.inl rfl) (by trivial)) (@bG _ _ (by decide)) (fun R=>cN) (fun R=>(@bN _ _ _ _ _ _ _ _ _ _ G_p_is_work (hr.mono (by decide)) (aA (pv 1) (aA (pv 0) aE)) (by rfl) (by decide) (by rfl) (by rfl))) (by rfl) (by rfl) (by rfl) (by rfl) (by rfl) (by rfl) (by rfl) (by intro _;rfl)) aE) (by decide) (by decide) (by rfl) (by rfl)) (@cX _ _ _ _ _ (@bN _ _ _ _ _ _ _ _ _ _ G_p_none_twice (hr.mono (by decide)) (aA (pv 1) aE) (by rfl) (by decide) (by rfl) (by rfl))))))),?_⟩
 refine ⟨_,rfl,_,_,_,t,_,rfl,rfl,ty,e4,_,rfl,?_⟩
 cases d with
 | lst ds =>
  obtain ⟨p,us,rfl,o,hi⟩:=hd
  have l1:=hi.length
  have hs':=Bool.and_eq_true_iff.mp (show (decide (ds.length ≤ 1000) && fW ds) = true from hs)
  have l2:ds.length ≤ 1000:=of_decide_eq_true hs'.1
  have q:Q (.bl (ds.all (eL ds0) && decide ((ds.map cV).Nodup))) H:=q
  refine bW ⟨_,rfl,p,rfl,⟨_,SqL.of o⟩,?_⟩
  refine bV (F:=K) (xs:=us) (by omega) (fun i ys H'=>H' = H ∧ ys = (ds.take i).map fun d=>V.bl (eL ds0 d)) ⟨rfl,rfl⟩ ?_ ?_ ?_
  ·rintro i ys H' hi' ⟨rfl,rfl⟩
   exact ⟨SqL.of o,by rw [List.length_map,List.length_take];omega⟩
  ·rintro i x ys H' K1 K2 hx ⟨rfl,rfl⟩ k1 k2
   have hil:i < us.length:=(List.getElem?_eq_some_iff.mp hx).1
   obtain ⟨d,ed⟩:∃ d,ds[i]? = some d:=⟨_,List.getElem?_eq_getElem (by omega)⟩
   obtain ⟨v,ev,iv⟩:=hi.get ed
   rw [hx] at ev
   cases ev
   refine ⟨_,rfl,_,rfl,_,_,rfl,p0,fs,ds0,d,rfl,L,iv,k1 _ _ ⟨rfl,?_⟩⟩
   rw [List.take_add_one,ed]
   simp
  ·rintro ys H' ⟨rfl,rfl⟩
   intro p1 hp1
   have np:p ≠ p1:=aL o hp1
   refine ⟨p1,ds.map (eL ds0),rfl,SqL.of ?_,_,rfl,?_⟩
   ·rw [aB,List.take_of_length_le (by omega),List.map_map]
    rfl
   have e1:(ds.map (eL ds0)).all id = ds.all (eL ds0):=by rw [List.all_map];rfl
   rw [e1]
   refine mP (fun h2=>?_) (fun h2=>?_)
   ·rw [h2,Bool.true_and] at q
    obtain ⟨zs,ez⟩:=pU qB h2
    have l3:zs.length = ds.length:=by have:=congrArg List.length ez;simpa using this.symm
    refine ⟨_,rfl,_,rfl,p,us,ds,zs,rfl,by rw [aP np];exact o,IsL.same (aK.upd hp1) _ _ hi,ez,by omega,?_⟩
    have e2:decide zs.Nodup = decide (ds.map cV).Nodup:=by rw [ez,Bool.eq_iff_iff,decide_eq_true_iff,decide_eq_true_iff,fK]
    rw [e2]
    exact dI.of (iH.lst hp1) q
   ·have h2':ds.all (eL ds0) = false:=by simpa using h2
    rw [h2'] at q
    exact dI.of (iH.lst hp1) q
 | _=>exact bC (dI.of (.refl _) q)
def aEJ:Sp:=sp2 fun x y H Q=>∃ (t:Addr) (n a b:Str) (c r h:Int) (sv:V),x = .ref t ∧ y = .int h ∧ H t = some (.tup [.str n,.str a,.str b,.int c,.int r,sv]) ∧
 ∀ (p:Addr) (H':Hp),aK H H' → H' p = some (.tup [.str n,.str a,.str b,.int h,.int r,sv]) → Q (.ref p) H'
theorem tN (T:Txt K mg C):Fc P w K mg base 1 "with_crown" ["dyke","crown"] aEJ:=by
 refine T.d_p_with_crown.fc tG gK (fun f cdv A outer s H vs Q E hr h=>?_)
 obtain ⟨x,y,rfl,t,n,a,b,c,r,h,sv,rfl,rfl,o,q⟩:=h
 refine ⟨_,(aI (@aT _ _ _ _ (@aR _ _ _ _ _ _ _ _ (@aBF _ (K) rfl) (@aR _ _ _ _ _ _ _ _ (@aBF _ (K) rfl) (@fS _ _ _ _ _ _ _ _ _ _ (@aEL _ (K) rfl) (pv 0) hV (@hU _ _ _ aD)) (@cU _ _ _ _ _ (aA (pv 1) aE))) (@fS _ _ _ _ _ _ _ _ _ _ (@aEL _ (K) rfl) (pv 0) (@hU _ _ _ aD) hV)))),?_⟩
 refine ⟨_,rfl,_,rfl,t,_,rfl,SqT.of o,(fun w=>absurd (show HT.sIx 6 6 (some 3) = 6 from w.2) (by decide)),fun p1 hp1=>?_⟩
 have S1:=aK.upd (o:=.tup [.str n,.str a,.str b]) hp1
 refine ⟨_,rfl,aQ rfl,fun p2 hp2=>?_⟩
 have S2:=aK.upd (o:=.tup [.int h]) hp2
 refine ⟨p1,p2,[.str n,.str a,.str b],[.int h],rfl,rfl,SqT.of (S2 _ _ aB),SqT.of aB,(by intro w;cases w),aQ rfl,(fun w=>by cases w),fun _ p3 hp3=>?_⟩
 have S3:=aK.upd (o:=.tup ([.str n,.str a,.str b] ++ [.int h])) hp3
 have T3:=S1.trans (S2.trans S3)
 refine ⟨_,rfl,_,rfl,t,_,rfl,SqT.of (T3 _ _ o),(fun w=>absurd (show HT.sIx 6 0 (some 4) = 0 from w.1) (by decide)),fun p4 hp4=>?_⟩
 have S4:=aK.upd (o:=.tup [.int r,sv]) hp4
 refine ⟨p3,p4,[.str n,.str a,.str b] ++ [.int h],[.int r,sv],rfl,rfl,SqT.of (S4 _ _ aB),SqT.of aB,(by intro w;cases w),aQ rfl,(fun w=>by cases w),fun _ p5 hp5=>?_⟩
 have S5:=aK.upd (o:=.tup (([.str n,.str a,.str b] ++ [.int h]) ++ [.int r,sv])) hp5
 exact q p5 _ (T3.trans (S4.trans S5)) aB
theorem aGM {H:Hp} {z:Str} {v:Int} {x:V} (h:Is H (.tup [.str z,.int v]) x):∃ t,x = .ref t ∧ H t = some (.tup [.str z,.int v]):=by
 obtain ⟨t,us,rfl,o,v0,r0,rfl,i0,v1,r1,rfl,i1,h0⟩:=h
 cases (show r1 = [] from h0)
 cases (show v0 = _ from i0)
 cases (show v1 = _ from i1)
 exact ⟨t,rfl,o⟩
theorem sM {ds:List Dv} {H:Hp}:∀ {ws:List Dv} {us:List V},(∀ d ∈ ws,eL ds d = true) → IsL H ws us → cC H us (ws.map xD)
 | [],_,_,e=>by rw [show _ = [] from e];exact cC.nil _
 | d :: ws,_,g,⟨v,r,e,h,t⟩=>by
  subst e
  obtain ⟨z,n,rfl,_⟩:=iV (g d List.mem_cons_self)
  obtain ⟨a,rfl,o⟩:=aGM h
  exact .cons ⟨a,rfl,o⟩ (sM (fun e m=>g e (List.mem_cons_of_mem _ m)) t)
theorem aCM (ws:List Dv):(ws.map xD).map (·.1) = ws.map lD:=by
 rw [List.map_map]
 rfl
def aAM (C:Addr):Sp:=sp2 fun x y H Q=>∃ (p:Addr) (fs ds ws:List Dv),x = .ref p ∧ LandAt C H p fs ds ∧ Is H (.lst ws) y ∧ ws.length ≤ 1000 ∧ GoodW ds ws ∧ ∀ (p':Addr) (H':Hp),aK H H' → H p' = none → LandAt C H' p' fs (dB ds ws) → Q (.ref p') H'
theorem aIW {o:Option Int} {c:Int}:(o.map V.int).getD (.int c) = .int (o.getD c):=by cases o <;> rfl
theorem rW (T:Txt K mg C):Mc P w K mg base 8 C "raised" ["self","works"] (aAM C):=by
 have G_p_are_works:Fc P w K mg base 4 "are_works" ["land","thing"] (aDY C):=vL T
 have G_land_p_dykes:Mc P w K mg base 1 C "dykes" ["self"] (qR C fun _ ds=>ds):=mK T
 have G_land_p_fields:Mc P w K mg base 1 C "fields" ["self"] (qR C fun fs _=>fs):=rE T
 have G_p_with_crown:Fc P w K mg base 1 "with_crown" ["dyke","crown"] aEJ:=tN T
 have G_land_pinit:Ic P w K mg base 6 C ["self","fields","dykes"] (aCR C):=pX T
 refine T.m_land_p_raised.mc iX gK (fun f cdv A outer s H vs Q E hr h=>?_)
 obtain ⟨x,y,rfl,p,fs,ds,ws,rfl,L,hw,lw,gw,q⟩:=h
 have big:=bY
 have hu:=jP hr
 obtain ⟨dx,e1,e2,hx,_⟩:=L.ex
 have no:∀ m:Str,¬ m = "dyke_rows" → ¬ m = "field_rows" → (oA e1 e2).lookup m = none:=fun m h1 h2=>eF _ _ h1 h2
 have gf:=(cS L).1
 have gd:=(cS L).2
 have d2:=gd.l2
 have f2:=gf.l2
 have fa:∀ d ∈ fs,cM d = true:=gf.all
 have sw:dY (.lst ws) = true:=mM (fun d m=>by
  obtain ⟨z,v,rfl,hz,_⟩:=iV (gw.all d m)
  obtain ⟨d',md,rfl⟩:=List.mem_map.mp hz
  obtain ⟨n,a,b,c,r,sl,rfl,hn,_⟩:=bI (gd.all d' md)
  have e:=nO hn
  show (decide (2 ≤ 1000) && (decide (n.length ≤ 1000) && (true && true))) = true
  rw [decide_eq_true e]
  rfl) lw
 refine ⟨_,(aG (@cD _ _ _ _ _ _ _ _ (@dE _ _ _ _ (@cJ _ _ _ (@bN _ _ _ _ _ _ _ _ _ _ G_p_are_works (hr.mono (by decide)) (aA (pv 0) (aA (pv 1) aE)) (by rfl) (by decide) (by rfl) (by rfl)) (by intro _;rfl))) (aI mH) bE) (aG (@aY _ _ (2) _ _ _ _ iX.nd rfl (Or.inr rfl) (@cE _ _ _ _ _ _ _ _ _ (@cZ _ rfl) rfl T.n_dict eX (aA (pv 1) aE) (by decide) (by decide) (by rfl) (by rfl)) (by rfl) (by trivial)) (aG (@nH _ (3) _ _ _ _ _ _ _ _ _ _ _ _ _ iX.nd rfl ["dyke","crowns"] 1 [2] rfl (@bJ _ (K) _ _ _ rfl (@bK _ _ _ _ (@gH _ _ _ _ _ _ _ _ _ _ _ T.cl_Land G_land_p_dykes (hr.mono (by decide)) (pv 0) (by rfl)))) (fun R=>@aN _ _ (0) _ (show List.Nodup (["dyke","crowns"]:List Str) by decide +kernel) rfl (Or.inl rfl) (by trivial)) (@bG _ _ (by decide)) (fun R=>cN) (fun R=>(@bN _ _ _ _ _ _ _ _ _ _ G_p_with_crown (hr.mono (by decide)) (aA (pv 0) (aA (@vB _ _ _ _ _ _ _ _ _ hu (pv 1) (@aU _ _ _ _ _ _ _ (@aM _ (K) rfl) (pv 0) aD (fun _ _=>rfl)) (@aU _ _ _ _ _ _ _ (@aM _ (K) rfl) (pv 0) aD (fun _ _=>rfl)) ⟨rfl,rfl,rfl,rfl⟩) aE)) (by rfl) (by decide) (by rfl) (by rfl))) (by exact Or.inl rfl) (by trivial) (by rfl) (by rfl) (by rfl) (by rfl) (by rfl) (by rfl) (by rfl) (by rfl) (by intro _;rfl)) (aI (@aT _ _ _ _ (@aEP _ _ _ _ _ _ _ _ _ _ _ T.mg_Land G_land_pinit (hr.mono (by decide)) (aA (@gH _ _ _ _ _ _ _ _ _ _ _ T.cl_Land G_land_p_fields (hr.mono (by decide)) (pv 0) (by rfl)) (aA (pv 3) aE)) (by rfl) (by decide) (by rfl) (by rfl))))))),?_⟩
 refine ⟨_,rfl,_,rfl,_,_,rfl,p,fs,ds,.lst ws,rfl,L,hw,sw,_,rfl,?_⟩
 rw [(aGB ds ws).mpr gw]
 refine bC ?_
 obtain ⟨a,us,rfl,ho,hi⟩:=hw
 refine ⟨_,rfl,a,us,ws.map xD,rfl,SqL.of ho,sM gw.all hi,by rw [List.length_map];exact lw,by rw [aCM];exact mO gw.nd,fun cd hcd=>?_⟩
 have S1:=aK.upd (o:=.dK (ws.map xD)) hcd
 refine ⟨_,rfl,p,dx,_,rfl,S1 _ _ hx,no _ (by decide +kernel) (by decide +kernel),_,rfl,p,fs,ds,rfl,L.same S1,fun l vs hl hv=>?_⟩
 have S2:=aK.upd (o:=.lst vs) hl
 have hcd2:upd (upd H cd (.dK (ws.map xD))) l (.lst vs) cd = some (.dK (ws.map xD)):=S2 _ _ aB
 have hl2:upd (upd H cd (.dK (ws.map xD))) l (.lst vs) l = some (.lst vs):=aB
 have hv2:=IsL.same S2 _ _ hv
 have T2:=S1.trans S2
 generalize upd (upd H cd (.dK (ws.map xD))) l (.lst vs) = H2 at hcd2 hl2 hv2 T2
 have lv:vs.length = ds.length:=hv2.length
 refine ⟨l,rfl,⟨_,SqL.of hl2⟩,?_⟩
 refine bV (F:=K) (xs:=vs) (by omega) (fun i ys H'=>aK H2 H' ∧ IsL H' ((ds.take i).map (tQ ws)) ys) ⟨aK.refl _,rfl⟩ ?_ ?_ ?_
 ·rintro i ys H' hi' ⟨S,ie⟩
  have:=ie.length
  rw [List.length_map,List.length_take] at this
  exact ⟨SqL.of (S _ _ hl2),by omega⟩
 ·rintro i xv ys H' K1 K2 hx' ⟨S,ie⟩ k1 k2
  have hil:i < vs.length:=(List.getElem?_eq_some_iff.mp hx').1
  obtain ⟨d,ed⟩:∃ d,ds[i]? = some d:=⟨_,List.getElem?_eq_getElem (by omega)⟩
  obtain ⟨v,ev,iv⟩:=(show IsL H2 ds vs from hv2).get ed
  rw [hx'] at ev
  cases ev
  obtain ⟨n,a',b',c,r,sl,rfl,_⟩:=bI (gd.all d (List.mem_of_getElem? ed))
  obtain ⟨t,sv,rfl,o,isv⟩:=gI iv
  refine ⟨_,rfl,_,rfl,cd,rfl,.inl ⟨_,.inl (S _ _ hcd2)⟩,_,rfl,t,_,0,.str n,rfl,rfl,SqT.of (S _ _ o),aH (j:=0) rfl,_,rfl,t,_,3,.int c,rfl,rfl,SqT.of (S _ _ o),aH (j:=3) rfl,_,lT.k (k:=Sum.inr n) (S _ _ hcd2),?_⟩
  refine ⟨_,_,rfl,t,n,a',b',c,r,(wAt ws n).getD c,sv,rfl,by rw [aCN,aIW],S _ _ o,fun p3 H3 S3 hp3=>k1 _ _ ⟨S.trans S3,?_⟩⟩
  rw [List.take_add_one,ed,List.map_append]
  refine IsL.snoc ?_ (IsL.same S3 _ _ ie)
  exact ⟨p3,_,rfl,hp3,.str n,_,rfl,rfl,.str a',_,rfl,rfl,.str b',_,rfl,rfl,.int _,_,rfl,rfl,.int r,_,rfl,rfl,sv,_,rfl,Is.same (S.trans S3) _ _ isv,rfl⟩
 rintro ys H3 ⟨S3,ie⟩
 rw [List.take_of_length_le (by omega)] at ie
 intro p4 hp4
 have S4:=aK.upd (o:=.lst ys) hp4
 have hp4':upd H3 p4 (.lst ys) p4 = some (.lst ys):=aB
 have ie4:=IsL.same S4 _ _ ie
 have T4:=T2.trans (S3.trans S4)
 generalize upd H3 p4 (.lst ys) = H4 at hp4' ie4 T4
 refine ⟨_,rfl,p,dx,_,rfl,T4 _ _ hx,no _ (by decide +kernel) (by decide +kernel),_,rfl,p,fs,ds,rfl,L.same T4,fun l5 v5 hl5 hv5=>?_⟩
 have S5:=aK.upd (o:=.lst v5) hl5
 refine ⟨_,rfl,fun p' dx' np' ndx' nex'=>?_⟩
 have S6:aK (upd H4 l5 (.lst v5)) (upd (upd (upd H4 l5 (.lst v5)) dx' (.own p')) p' (.ins C dx' [])):=fun b o e=>by
  rw [aP (aL e np'),aP (aL e ndx')]
  exact e
 have gd':=aAX gd gw
 have d2':=gd'.l2
 refine ⟨_,_,_,rfl,p',dx',fs,dB ds ws,rfl,aB,⟨l5,v5,rfl,S6 _ _ aB,IsL.same (S5.trans S6) _ _ hv5⟩,⟨p4,ys,rfl,S6 _ _ (S5 _ _ hp4'),IsL.same (S5.trans S6) _ _ ie4⟩,mM (fun d m=>sS (fa d m)) (by omega),mM (fun d m=>wC fa (gd'.all d m)) (by omega),L.okf,(kE _ _).mpr gd',fun H' L' fr=>⟨rfl,?_⟩⟩
 refine q p' H' (fun b o e=>?_) (T4.free (S5.free np')) L'
 have e':=S5 _ _ (T4 _ _ e)
 exact fr b o (S6 _ _ e') (aL e' np')
open Ld
def xV:Dv → Dv → Bool
 | .int n,.int m=>(decide (1 ≤ m) && decide (m ≤ 100)) && (decide (0 ≤ n) && decide (n < m))
 | _,_=>false
def iZ (zs:List Str):Dv → Bool
 | .tup [a]=>cH ["always"] a
 | .tup [a,b,c]=>cH ["day"] a && xV b c
 | .tup [a,b]=>if cH ["above","below"] a then eU b else cH ["wet","dry"] a && cH zs b
 | _=>false
def wV (zs:List Str):Dv → Bool
 | .lst cs=>(decide (1 ≤ cs.length) && decide ((cs.length:Int) ≤ 6)) && cs.all (iZ zs)
 | _=>false
def pZ (gs zs:List Str):Dv → Bool
 | .tup [a,b,c]=>(cH ["open","shut"] a && cH gs b) && wV zs c
 | _=>false
def pV (gs zs:List Str):Dv → Bool
 | .lst ds=>decide (ds.length ≤ 60) && ds.all (pZ gs zs)
 | _=>false
def uI (K:PySem.W.Frag):Sp:=sp2 fun x y H Q=>∃ (d:Dv) (p:Addr) (zs:List Str),Is H d x ∧ y = .ref p ∧ (SqL K H p (zs.map V.str) ∨ SqT K H p (zs.map V.str)) ∧ Q (.bl (cH zs d)) H
theorem nZ (T:Txt K mg C):Fc P w K mg base 1 "is_one_of" ["thing","names"] (uI K):=by
 refine T.d_p_is_one_of.fc oK gK (fun f cdv A outer s H vs Q E hr h=>?_)
 obtain ⟨x,y,rfl,d,p,zs,hd,rfl,hp,q⟩:=h
 obtain ⟨t,ty,e1,e2,e3,_⟩:=nV K hd
 refine ⟨_,(aI (@aT _ _ _ _ (@cL _ _ _ _ _ _ _ (@aZ _ _ _ _ _ _ _ _ _ (@cR _ (K) rfl) rfl T.n_isinstance bX (aA (pv 0) (aA (@nX _ _ _ _ T.n_str sK (by rfl) (by decide) (by decide)) aE)) (by decide) (by decide) (by rfl) (by rfl)) (@cX _ _ _ _ _ (@cB _ _ _ _ _ _ _ _ (@eW _ (K) rfl) (pv 0) (pv 1) (by with_unfolding_all rfl)))))),?_⟩
 refine ⟨_,rfl,_,_,_,t,_,rfl,rfl,ty,e3,_,rfl,?_⟩
 cases d with
 | str z =>
  cases (show x = .str z from hd)
  refine bW ⟨_,rfl,_,rfl,p,_,rfl,hp,rfl,dU zs,?_⟩
  show Q (.bl (inV (.str z) (zs.map V.str))) H
  rw [gL]
  exact q
 | _=>exact bC q
def aEI:Sp:=sp2 fun x y H Q=>∃ a b:Dv,Is H a x ∧ Is H b y ∧ Q (.bl (xV a b)) H
theorem vK (T:Txt K mg C):Fc P w K mg base 2 "is_day_of" ["number","turn"] aEI:=by
 have G_p_is_whole:Fc P w K mg base 1 "is_whole" ["thing"] tS:=lL T
 refine T.d_p_is_day_of.fc uS gK (fun f cdv A outer s H vs Q E hr h=>?_)
 obtain ⟨x,y,rfl,a,b,ha,hb,q⟩:=h
 refine ⟨_,(aI (@aT _ _ _ _ (@cL _ _ _ _ _ _ _ (@bN _ _ _ _ _ _ _ _ _ _ G_p_is_whole (hr.mono (by decide)) (aA (pv 0) aE) (by rfl) (by decide) (by rfl) (by rfl)) (@cL _ _ _ _ _ _ _ (@bN _ _ _ _ _ _ _ _ _ _ G_p_is_whole (hr.mono (by decide)) (aA (pv 1) aE) (by rfl) (by decide) (by rfl) (by rfl)) (@cL _ _ _ _ _ _ _ (@oR _ _ _ _ _ _ _ _ _ _ _ _ oT oT aD (pv 1) (@qG _ _ _ _ T.g_MOST_ROUND (by rfl) (by decide)) (by with_unfolding_all rfl)) (@cX _ _ _ _ _ (@oR _ _ _ _ _ _ _ _ _ _ _ _ oT sP aD (pv 0) (pv 1) (by with_unfolding_all rfl)))))))),?_⟩
 refine ⟨_,rfl,_,rfl,a,ha,_,rfl,?_⟩
 by_cases e:∃ n m:Int,a = .int n ∧ b = .int m
 ·obtain ⟨n,m,rfl,rfl⟩:=e
  cases (show x = .int n from ha)
  cases (show y = .int m from hb)
  refine bW ⟨_,rfl,_,rfl,.int m,rfl,_,rfl,bW ?_⟩
  have q:Q (.bl ((decide (1 ≤ m) && decide (m ≤ 100)) && (decide (0 ≤ n) && decide (n < m)))) H:=q
  refine ⟨_,rfl,_,_,rfl,rfl,_,rfl,?_⟩
  cases e1:decide (1 ≤ m) with
  | false =>
   rw [e1] at q
   exact bC ⟨_,rfl,bC q⟩
  | true =>
   rw [e1] at q
   refine bW ⟨_,_,rfl,rfl,_,rfl,?_⟩
   cases e2:decide (m ≤ 100) with
   | false =>
    rw [e2] at q
    exact bC q
   | true =>
    rw [e2] at q
    refine bW ⟨_,rfl,_,_,rfl,rfl,_,rfl,?_⟩
    cases e3:decide (0 ≤ n) with
    | false =>
     rw [e3] at q
     exact bC q
    | true =>
     rw [e3] at q
     exact bW ⟨_,rfl,_,_,rfl,rfl,q⟩
 ·have e0:xV a b = false:=by
   unfold xV
   split
   ·rename_i n m
    exact absurd ⟨n,m,rfl,rfl⟩ e
   ·rfl
  rw [e0] at q
  cases ia:isInt a with
  | false=>exact bC q
  | true =>
   refine bW ⟨_,rfl,_,rfl,b,hb,_,rfl,?_⟩
   cases ib:isInt b with
   | false=>exact bC q
   | true =>
    cases a with
    | int n=>cases b with
     | int m=>exact absurd ⟨n,m,rfl,rfl⟩ e
     | _=>cases ib
    | _=>cases ia
def aHI (K:PySem.W.Frag):Sp:=sp2 fun x y H Q=>∃ (d:Dv) (p:Addr) (zs:List Str),Is H d x ∧ y = .ref p ∧ SqL K H p (zs.map V.str) ∧ ∀ H',aK H H' → Q (.bl (iZ zs d)) H'
theorem rD (T:Txt K mg C):Fc P w K mg base 3 "is_condition" ["thing","fields"] (aHI K):=by
 have G_p_is_tuple_of:Fc P w K mg base 1 "is_tuple_of" ["thing","length"] pK:=fF T
 have G_p_is_one_of:Fc P w K mg base 1 "is_one_of" ["thing","names"] (uI K):=nZ T
 have G_p_is_day_of:Fc P w K mg base 2 "is_day_of" ["number","turn"] aEI:=vK T
 have G_p_is_height:Fc P w K mg base 2 "is_height" ["thing"] kH:=fG T
 obtain ⟨a_TIDES,m_TIDES,s_TIDES⟩:=T.g_TIDES
 obtain ⟨a_WATERS,m_WATERS,s_WATERS⟩:=T.g_WATERS
 refine T.d_p_is_condition.fc qV gK (fun f cdv A outer s H vs Q E hr h=>?_)
 obtain ⟨x,y,rfl,d,p,zs,hd,rfl,hp,q⟩:=h
 refine ⟨_,(aG (@cD _ _ _ _ _ _ _ _ (@cJ _ _ _ (@bN _ _ _ _ _ _ _ _ _ _ G_p_is_tuple_of (hr.mono (by decide)) (aA (pv 0) (aA aD aE)) (by rfl) (by decide) (by rfl) (by rfl)) (by intro _;rfl)) (aI (@aT _ _ _ _ (@bN _ _ _ _ _ _ _ _ _ _ G_p_is_one_of (hr.mono (by decide)) (aA (@aU _ _ _ _ _ _ _ (@aM _ (K) rfl) (pv 0) aD (fun _ _=>rfl)) (aA (@cU _ _ _ _ _ (aA cP aE)) aE)) (by rfl) (by decide) (by rfl) (by rfl)))) bE) (aG (@cD _ _ _ _ _ _ _ _ (@cJ _ _ _ (@bN _ _ _ _ _ _ _ _ _ _ G_p_is_tuple_of (hr.mono (by decide)) (aA (pv 0) (aA aD aE)) (by rfl) (by decide) (by rfl) (by rfl)) (by intro _;rfl)) (aI (@aT _ _ _ _ (@cL _ _ _ _ _ _ _ (@bN _ _ _ _ _ _ _ _ _ _ G_p_is_one_of (hr.mono (by decide)) (aA (@aU _ _ _ _ _ _ _ (@aM _ (K) rfl) (pv 0) aD (fun _ _=>rfl)) (aA (@cU _ _ _ _ _ (aA cP aE)) aE)) (by rfl) (by decide) (by rfl) (by rfl)) (@cX _ _ _ _ _ (@bN _ _ _ _ _ _ _ _ _ _ G_p_is_day_of (hr.mono (by decide)) (aA (@aU _ _ _ _ _ _ _ (@aM _ (K) rfl) (pv 0) aD (fun _ _=>rfl)) (aA (@aU _ _ _ _ _ _ _ (@aM _ (K) rfl) (pv 0) aD (fun _ _=>rfl)) aE)) (by rfl) (by decide) (by rfl) (by rfl)))))) bE) (aG (@cD _ _ _ _ _ _ _ _ (@dE _ _ _ _ (@cJ _ _ _ (@bN _ _ _ _ _ _ _ _ _ _ G_p_is_tuple_of (hr.mono (by decide)) (aA (pv 0) (aA aD aE)) (by rfl) (by decide) (by rfl) (by rfl)) (by intro _;rfl))) (aI (@aT _ _ _ _ iC)) bE) (aG (@cD _ _ _ _ _ _ _ _ (@cJ _ _ _ (@bN _ _ _ _ _ _ _ _ _ _ G_p_is_one_of (hr.mono (by decide)) (aA (@aU _ _ _ _ _ _ _ (@aM _ (K) rfl) (pv 0) aD (fun _ _=>rfl)) (aA (@tX _ _ (.ref a_TIDES) _ _ rfl m_TIDES rfl (by decide)) aE)) (by rfl) (by decide) (by rfl) (by rfl)) (by intro _;rfl)) (aI (@aT _ _ _ _ (@bN _ _ _ _ _ _ _ _ _ _ G_p_is_height (hr.mono (by decide)) (aA (@aU _ _ _ _ _ _ _ (@aM _ (K) rfl) (pv 0) aD (fun _ _=>rfl)) aE) (by rfl) (by decide) (by rfl) (by rfl)))) bE) (aI (@aT _ _ _ _ (@cL _ _ _ _ _ _ _ (@bN _ _ _ _ _ _ _ _ _ _ G_p_is_one_of (hr.mono (by decide)) (aA (@aU _ _ _ _ _ _ _ (@aM _ (K) rfl) (pv 0) aD (fun _ _=>rfl)) (aA (@tX _ _ (.ref a_WATERS) _ _ rfl m_WATERS rfl (by decide)) aE)) (by rfl) (by decide) (by rfl) (by rfl)) (@cX _ _ _ _ _ (@bN _ _ _ _ _ _ _ _ _ _ G_p_is_one_of (hr.mono (by decide)) (aA (@aU _ _ _ _ _ _ _ (@aM _ (K) rfl) (pv 0) aD (fun _ _=>rfl)) (aA (pv 1) aE)) (by rfl) (by decide) (by rfl) (by rfl)))))))))),?_⟩
 refine ⟨_,rfl,_,_,rfl,d,1,hd,rfl,_,rfl,?_⟩
 by_cases h1:∃ a,d = .tup [a]
 ·obtain ⟨a,rfl⟩:=h1
  obtain ⟨t,us,rfl,o,va,r1,rfl,ha,h0⟩:=hd
  cases (show r1 = [] from h0)
  refine bW ⟨_,rfl,t,_,0,va,rfl,rfl,SqT.of o,aH (j:=0) rfl,aQ rfl,fun p1 hp1=>?_⟩
  exact ⟨_,_,rfl,a,p1,["always"],Is.same (aK.upd hp1) _ _ ha,rfl,.inr (SqT.of aB),q _ (aK.upd hp1)⟩
 have e1:sN 1 d = false:=by
  cases d with
  | tup ds =>
   refine decide_eq_false (fun e=>?_)
   have e':ds.length = 1:=by omega
   match ds,e',h1 with
   | [a],_,h1=>exact h1 ⟨a,rfl⟩
  | _=>rfl
 rw [e1]
 refine bC ⟨_,rfl,_,_,rfl,d,3,hd,rfl,_,rfl,?_⟩
 by_cases h3:∃ a b c,d = .tup [a,b,c]
 ·obtain ⟨a,b,c,rfl⟩:=h3
  obtain ⟨t,us,rfl,o,va,r1,rfl,ha,vb,r2,rfl,hb,vc,r3,rfl,hc,h0⟩:=hd
  cases (show r3 = [] from h0)
  have q:∀ H',aK H H' → Q (.bl (cH ["day"] a && xV b c)) H':=q
  refine bW ⟨_,rfl,t,_,0,va,rfl,rfl,SqT.of o,aH (j:=0) rfl,aQ rfl,fun p1 hp1=>?_⟩
  have S:=aK.upd (o:=.tup [.str "day"]) hp1
  refine ⟨_,_,rfl,a,p1,["day"],Is.same S _ _ ha,rfl,.inr (SqT.of aB),_,rfl,?_⟩
  cases ea:cH ["day"] a with
  | false =>
   rw [ea] at q
   exact bC (q _ S)
  | true =>
   rw [ea] at q
   exact bW ⟨_,rfl,t,_,1,vb,rfl,rfl,SqT.of (S _ _ o),aH (j:=1) rfl,_,rfl,t,_,2,vc,rfl,rfl,SqT.of (S _ _ o),aH (j:=2) rfl,_,_,rfl,b,c,Is.same S _ _ hb,Is.same S _ _ hc,q _ S⟩
 have e3:sN 3 d = false:=by
  cases d with
  | tup ds =>
   refine decide_eq_false (fun e=>?_)
   have e':ds.length = 3:=by omega
   match ds,e',h3 with
   | [a,b,c],_,h3=>exact h3 ⟨a,b,c,rfl⟩
  | _=>rfl
 rw [e3]
 refine bC ⟨_,rfl,_,_,rfl,d,2,hd,rfl,_,rfl,?_⟩
 by_cases h2:∃ a b,d = .tup [a,b]
 ·obtain ⟨a,b,rfl⟩:=h2
  obtain ⟨t,us,rfl,o,va,r1,rfl,ha,vb,r2,rfl,hb,h0⟩:=hd
  cases (show r2 = [] from h0)
  have q:Q (.bl (if cH ["above","below"] a then eU b else cH ["wet","dry"] a && cH zs b)) H:=q H (aK.refl _)
  refine bC ⟨_,rfl,t,_,0,va,rfl,rfl,SqT.of o,aH (j:=0) rfl,_,_,rfl,a,a_TIDES,["above","below"],ha,rfl,.inr (s_TIDES H),_,rfl,?_⟩
  cases ea:cH ["above","below"] a with
  | true =>
   rw [ea] at q
   exact bW ⟨_,rfl,t,_,1,vb,rfl,rfl,SqT.of o,aH (j:=1) rfl,_,rfl,b,hb,q⟩
  | false =>
   rw [ea] at q
   refine bC ⟨_,rfl,t,_,0,va,rfl,rfl,SqT.of o,aH (j:=0) rfl,_,_,rfl,a,a_WATERS,["wet","dry"],ha,rfl,.inr (s_WATERS H),_,rfl,?_⟩
   have q:Q (.bl (cH ["wet","dry"] a && cH zs b)) H:=q
   cases eb:cH ["wet","dry"] a with
   | false =>
    rw [eb] at q
    exact bC (q)
   | true =>
    rw [eb] at q
    exact bW ⟨_,rfl,t,_,1,vb,rfl,rfl,SqT.of o,aH (j:=1) rfl,_,rfl,_,_,rfl,b,p,zs,hb,rfl,.inl hp,q⟩
 ·have e2:sN 2 d = false:=by
   cases d with
   | tup ds =>
    refine decide_eq_false (fun e=>?_)
    have e':ds.length = 2:=by omega
    match ds,e',h2 with
    | [a,b],_,h2=>exact h2 ⟨a,b,rfl⟩
   | _=>rfl
  have e0:iZ zs d = false:=by
   unfold iZ
   split
   ·exact absurd ⟨_,rfl⟩ h1
   ·exact absurd ⟨_,_,_,rfl⟩ h3
   ·exact absurd ⟨_,_,rfl⟩ h2
   ·rfl
  rw [e2]
  have q:=q H (aK.refl _)
  rw [e0] at q
  exact bW q
def aLC (K:PySem.W.Frag):Sp:=sp3 fun x y u H Q=>∃ (d:Dv) (p1 p2:Addr) (gs zs:List Str),Is H d x ∧ dY d = true ∧ y = .ref p1 ∧ SqL K H p1 (gs.map V.str) ∧ u = .ref p2 ∧ SqL K H p2 (zs.map V.str) ∧ ∀ H',aK H H' → Q (.bl (pZ gs zs d)) H'
theorem vJ (T:Txt K mg C):Fc P w K mg base 4 "is_decree" ["thing","sluices","fields"] (aLC K):=by
 have G_p_is_tuple_of:Fc P w K mg base 1 "is_tuple_of" ["thing","length"] pK:=fF T
 have G_p_is_one_of:Fc P w K mg base 1 "is_one_of" ["thing","names"] (uI K):=nZ T
 have G_p_is_list_of:Fc P w K mg base 1 "is_list_of" ["thing","most"] qS:=jW T
 have G_p_is_condition:Fc P w K mg base 3 "is_condition" ["thing","fields"] (aHI K):=rD T
 obtain ⟨a_DEEDS,m_DEEDS,s_DEEDS⟩:=T.g_DEEDS
 refine T.d_p_is_decree.fc uR aIF (fun f cdv A outer s H vs Q E hr h=>?_)
 obtain ⟨x,y,u,rfl,d,p1,p2,gs,zs,hd,sd,rfl,hp1,rfl,hp2,q⟩:=h
 have big:=bY
 refine ⟨_,(aG (@cD _ _ _ _ _ _ _ _ (@PW.pt _ _ _ (@jZ _ _ _ _ _ _ _ (@dE _ _ _ _ (@cJ _ _ _ (@bN _ _ _ _ _ _ _ _ _ _ G_p_is_tuple_of (hr.mono (by decide)) (aA (pv 0) (aA aD aE)) (by rfl) (by decide) (by rfl) (by rfl)) (by intro _;rfl))) (@jZ _ _ _ _ _ _ _ (@dE _ _ _ _ (@cJ _ _ _ (@bN _ _ _ _ _ _ _ _ _ _ G_p_is_one_of (hr.mono (by decide)) (aA (@aU _ _ _ _ _ _ _ (@aM _ (K) rfl) (pv 0) aD (fun _ _=>rfl)) (aA (@tX _ _ (.ref a_DEEDS) _ _ rfl m_DEEDS rfl (by decide)) aE)) (by rfl) (by decide) (by rfl) (by rfl)) (by intro _;rfl))) (@jS _ _ _ _ (@dE _ _ _ _ (@cJ _ _ _ (@bN _ _ _ _ _ _ _ _ _ _ G_p_is_one_of (hr.mono (by decide)) (aA (@aU _ _ _ _ _ _ _ (@aM _ (K) rfl) (pv 0) aD (fun _ _=>rfl)) (aA (pv 1) aE)) (by rfl) (by decide) (by rfl) (by rfl)) (by intro _;rfl))))))) (aI (@aT _ _ _ _ iC)) bE) (aI (@aT _ _ _ _ (@cL _ _ _ _ _ _ _ (@bN _ _ _ _ _ _ _ _ _ _ G_p_is_list_of (hr.mono (by decide)) (aA (@aU _ _ _ _ _ _ _ (@aM _ (K) rfl) (pv 0) aD (fun _ _=>rfl)) (aA (@qG _ _ _ _ T.g_MOST_CONDITIONS (by rfl) (by decide)) aE)) (by rfl) (by decide) (by rfl) (by rfl)) (@cX _ _ _ _ _ (@aZ _ _ _ _ _ _ _ _ _ (@jQ _ rfl) rfl T.n_all iE (aA (@cQ _ _ _ _ _ _ _ _ _ _ _ ["part","fields"] 1 [2] rfl (@bJ _ (K) _ _ _ rfl (@bK _ _ _ _ (@aU _ _ _ _ _ _ _ (@aM _ (K) rfl) (pv 0) aD (fun _ _=>rfl)))) (fun R=>@aN _ _ (0) _ (show List.Nodup (["part","fields"]:List Str) by decide +kernel) rfl (Or.inl rfl) (by trivial)) (@bG _ _ (by decide)) (fun R=>cN) (fun R=>(@bN _ _ _ _ _ _ _ _ _ _ G_p_is_condition (hr.mono (by decide)) (aA (pv 0) (aA (pv 1) aE)) (by rfl) (by decide) (by rfl) (by rfl))) (by rfl) (by rfl) (by rfl) (by rfl) (by rfl) (by rfl) (by rfl) (by intro _;rfl)) aE) (by decide) (by decide) (by rfl) (by rfl))))))),?_⟩
 refine ⟨_,rfl,_,_,rfl,d,3,hd,rfl,_,rfl,?_⟩
 by_cases h3:∃ a b c,d = .tup [a,b,c]
 ·obtain ⟨a,b,c,rfl⟩:=h3
  obtain ⟨t,us,rfl,o,va,r1,rfl,ha,vb,r2,rfl,hb,vc,r3,rfl,hc,h0⟩:=hd
  cases (show r3 = [] from h0)
  have sc:dY c = true:=hW (rL sd) (List.mem_cons_of_mem _ (List.mem_cons_of_mem _ List.mem_cons_self))
  have q:∀ H',aK H H' → Q (.bl ((cH ["open","shut"] a && cH gs b) && wV zs c)) H':=q
  refine bC ⟨_,rfl,t,_,0,va,rfl,rfl,SqT.of o,aH (j:=0) rfl,_,_,rfl,a,a_DEEDS,["open","shut"],ha,rfl,.inr (s_DEEDS H),_,rfl,?_⟩
  cases ea:cH ["open","shut"] a with
  | false =>
   simp only [ea] at q
   exact bW (q _ (aK.refl _))
  | true =>
   simp only [ea] at q
   refine bC ⟨_,rfl,t,_,1,vb,rfl,rfl,SqT.of o,aH (j:=1) rfl,_,rfl,_,_,rfl,b,p1,gs,hb,rfl,.inl hp1,_,rfl,?_⟩
   cases eb:cH gs b with
   | false =>
    simp only [eb] at q
    exact bW (q _ (aK.refl _))
   | true =>
    simp only [eb] at q
    have q:∀ H',aK H H' → Q (.bl (wV zs c)) H':=q
    refine bC ⟨_,rfl,t,_,2,vc,rfl,rfl,SqT.of o,aH (j:=2) rfl,_,_,rfl,c,6,hc,rfl,_,rfl,?_⟩
    cases c with
    | lst cs =>
     obtain ⟨l,vs,rfl,ol,hi⟩:=hc
     have lv:=hi.length
     have l2:cs.length ≤ 1000:=of_decide_eq_true (Bool.and_eq_true_iff.mp (show (decide (cs.length ≤ 1000) && fW cs) = true from sc)).1
     have q:∀ H',aK H H' → Q (.bl ((decide (1 ≤ cs.length) && decide ((cs.length:Int) ≤ 6)) && cs.all (iZ zs))) H':=q
     show if (decide (1 ≤ cs.length) && decide ((cs.length:Int) ≤ 6)) = true then _ else _
     cases el:(decide (1 ≤ cs.length) && decide ((cs.length:Int) ≤ 6)) with
     | false =>
      simp only [el] at q
      exact bC (q _ (aK.refl _))
     | true =>
      simp only [el,Bool.true_and] at q
      refine bW ⟨_,rfl,t,_,2,.ref l,rfl,rfl,SqT.of o,aH (j:=2) rfl,l,rfl,⟨_,SqL.of ol⟩,?_⟩
      refine bV (F:=K) (xs:=vs) (by omega) (fun i ys H'=>aK H H' ∧ ys = (cs.take i).map fun d=>V.bl (iZ zs d)) ⟨aK.refl _,rfl⟩ ?_ ?_ ?_
      ·rintro i ys H' hi' ⟨S,rfl⟩
       exact ⟨SqL.of (S _ _ ol),by rw [List.length_map,List.length_take];omega⟩
      ·rintro i xv ys H' K1 K2 hx ⟨S,rfl⟩ k1 k2
       have hil:i < vs.length:=(List.getElem?_eq_some_iff.mp hx).1
       obtain ⟨d,ed⟩:∃ d,cs[i]? = some d:=⟨_,List.getElem?_eq_getElem (by omega)⟩
       obtain ⟨v,ev,iv⟩:=hi.get ed
       rw [hx] at ev
       cases ev
       refine ⟨_,rfl,_,rfl,_,_,rfl,d,p2,zs,Is.same S _ _ iv,rfl,S.seq hp2,fun H5 S5=>k1 _ _ ⟨S.trans S5,?_⟩⟩
       rw [List.take_add_one,ed]
       simp
      ·rintro ys H' ⟨S,rfl⟩
       intro p4 hp4
       have q:=q _ (S.trans (aK.upd (o:=.lst ((cs.take vs.length).map fun d=>V.bl (iZ zs d))) hp4))
       refine ⟨p4,cs.map (iZ zs),rfl,SqL.of ?_,?_⟩
       ·rw [aB,List.take_of_length_le (by omega),List.map_map]
        rfl
       ·rw [List.all_map]
        exact q
    | _=>exact bC (q _ (aK.refl _))
 ·have e1:pZ gs zs d = false:=by
   unfold pZ
   split
   ·exact absurd ⟨_,_,_,rfl⟩ h3
   ·rfl
  have e2:sN 3 d = false:=by
   cases d with
   | tup ds =>
    refine decide_eq_false (fun e=>?_)
    have e':ds.length = 3:=by omega
    match ds,e',h3 with
    | [a,b,c],_,h3=>exact h3 ⟨a,b,c,rfl⟩
   | _=>rfl
  rw [e2]
  have q:=q H (aK.refl _)
  rw [e1] at q
  exact bW q
def aHH (C:Addr):Sp:=sp2 fun x y H Q=>∃ (p:Addr) (fs ds:List Dv) (d:Dv),x = .ref p ∧ LandAt C H p fs ds ∧ Is H d y ∧ dY d = true ∧ ∀ H',aK H H' → Q (.bl (pV ((ds.filter aX).map aJ) (fs.map aJ) d)) H'
theorem rV (T:Txt K mg C):Fc P w K mg base 5 "are_decrees" ["land","thing"] (aHH C):=by
 have G_land_p_sluices:Mc P w K mg base 2 C "sluices" ["self"] (nE C fun _ ds=>(ds.filter aX).map aJ):=iR T
 have G_land_p_field_names:Mc P w K mg base 1 C "field_names" ["self"] (nE C fun fs _=>fs.map aJ):=fU T
 have G_p_is_decree:Fc P w K mg base 4 "is_decree" ["thing","sluices","fields"] (aLC K):=vJ T
 refine T.d_p_are_decrees.fc iW gK (fun f cdv A outer s H vs Q E hr h=>?_)
 obtain ⟨x,y,rfl,p,fs,ds,d,rfl,L,hd,sd,q⟩:=h
 have big:=bY
 obtain ⟨t,ty,e1,e2,e3,e4,_⟩:=nV K hd
 refine ⟨_,(aG (@cD _ _ _ _ _ _ _ _ (@PW.pt _ _ _ (@jZ _ _ _ _ _ _ _ (@dE _ _ _ _ (@cJ _ _ _ (@aZ _ _ _ _ _ _ _ _ _ (@cR _ (K) rfl) rfl T.n_isinstance bX (aA (pv 1) (aA (@nX _ _ _ _ T.n_list dG (by rfl) (by decide) (by decide)) aE)) (by decide) (by decide) (by rfl) (by rfl)) (by intro _;rfl))) (@jS _ _ _ _ (@bH _ _ _ _ _ _ _ _ aBE (@aZ _ _ _ _ _ _ _ _ _ (@bU _ (K) rfl) rfl T.n_len cT (aA (pv 1) aE) (by decide) (by decide) (by rfl) (by rfl)) (@qG _ _ _ _ T.g_MOST_DECREES (by rfl) (by decide)) (@bF _ _ (by decide) (by decide)))))) (aI (@aT _ _ _ _ iC)) bE) (aG (@aY _ _ (2) _ _ _ _ iW.nd rfl (Or.inr rfl) (@gH _ _ _ _ _ _ _ _ _ _ _ T.cl_Land G_land_p_sluices (hr.mono (by decide)) (pv 0) (by rfl)) (by rfl) (by trivial)) (aG (@aY _ _ (3) _ _ _ _ iW.nd rfl (Or.inr rfl) (@gH _ _ _ _ _ _ _ _ _ _ _ T.cl_Land G_land_p_field_names (hr.mono (by decide)) (pv 0) (by rfl)) (by rfl) (by trivial)) (aI (@aT _ _ _ _ (@aZ _ _ _ _ _ _ _ _ _ (@jQ _ rfl) rfl T.n_all iE (aA (@cQ _ _ _ _ _ _ _ _ _ _ _ ["row","sluices","fields"] 1 [2,3] rfl (@bJ _ (K) _ _ _ rfl (@bK _ _ _ _ (pv 1))) (fun R=>@aN _ _ (0) _ (show List.Nodup (["row","sluices","fields"]:List Str) by decide +kernel) rfl (Or.inl rfl) (by trivial)) (@bG _ _ (by decide)) (fun R=>cN) (fun R=>(@bN _ _ _ _ _ _ _ _ _ _ G_p_is_decree (hr.mono (by decide)) (aA (pv 0) (aA (pv 1) (aA (pv 2) aE))) (by rfl) (by decide) (by rfl) (by rfl))) (by rfl) (by rfl) (by rfl) (by rfl) (by rfl) (by rfl) (by rfl) (by intro _;rfl)) aE) (by decide) (by decide) (by rfl) (by rfl))))))),?_⟩
 refine ⟨_,rfl,_,_,_,t,_,rfl,rfl,ty,e4,_,rfl,?_⟩
 cases d with
 | lst cs =>
  obtain ⟨l,us,rfl,o,hi⟩:=hd
  have l1:=hi.length
  have hs':=Bool.and_eq_true_iff.mp (show (decide (cs.length ≤ 1000) && fW cs) = true from sd)
  have l2:cs.length ≤ 1000:=of_decide_eq_true hs'.1
  refine bC ⟨_,rfl,l,us,rfl,.inl (SqL.of o),_,_,rfl,rfl,_,rfl,?_⟩
  rw [l1]
  refine mP (fun h1=>?_) (fun h1=>?_)
  ·have e:pV ((ds.filter aX).map aJ) (fs.map aJ) (.lst cs) = false:=by
    have h1':¬ cs.length ≤ 60:=by
     have:=of_decide_eq_true h1
     omega
    show (decide (cs.length ≤ 60) && _) = false
    rw [decide_eq_false h1']
    rfl
   have q:=q H (aK.refl _)
   rw [e] at q
   exact q
  ·have h1':cs.length ≤ 60:=by
    apply Classical.byContradiction
    intro c
    exact h1 (decide_eq_true (by omega))
   obtain ⟨dx,d1,d2,hx,_⟩:=L.ex
   refine ⟨_,rfl,p,dx,_,rfl,hx,eF _ _ (by decide +kernel) (by decide +kernel),_,rfl,p,fs,ds,rfl,L,fun ls H1 S1 fls hls=>?_⟩
   refine ⟨_,rfl,p,dx,_,rfl,S1 _ _ hx,eF _ _ (by decide +kernel) (by decide +kernel),_,rfl,p,fs,ds,rfl,L.same S1,fun lf H2 S2 flf hlf=>?_⟩
   have S:=S1.trans S2
   have hi2:=IsL.same S _ _ hi
   refine ⟨_,rfl,l,rfl,⟨_,SqL.of (S _ _ o)⟩,?_⟩
   refine bV (F:=K) (xs:=us) (by omega) (fun i ys H'=>aK H2 H' ∧ ys = (cs.take i).map fun d=>V.bl (pZ ((ds.filter aX).map aJ) (fs.map aJ) d)) ⟨aK.refl _,rfl⟩ ?_ ?_ ?_
   ·rintro i ys H' hi' ⟨S3,rfl⟩
    exact ⟨SqL.of (S3 _ _ (S _ _ o)),by rw [List.length_map,List.length_take];omega⟩
   ·rintro i xv ys H' K1 K2 hxi ⟨S3,rfl⟩ k1 k2
    have hil:i < us.length:=(List.getElem?_eq_some_iff.mp hxi).1
    obtain ⟨d,ed⟩:∃ d,cs[i]? = some d:=⟨_,List.getElem?_eq_getElem (by omega)⟩
    obtain ⟨v,ev,iv⟩:=hi2.get ed
    rw [hxi] at ev
    cases ev
    refine ⟨_,rfl,_,rfl,_,rfl,_,_,_,rfl,d,ls,lf,_,_,Is.same S3 _ _ iv,hW hs'.2 (List.mem_of_getElem? ed),rfl,SqL.of (S3 _ _ (S2 _ _ hls)),rfl,SqL.of (S3 _ _ hlf),fun H5 S5=>k1 _ _ ⟨S3.trans S5,?_⟩⟩
    rw [List.take_add_one,ed]
    simp
   ·rintro ys H' ⟨S3,rfl⟩
    intro p4 hp4
    have q:=q _ (S.trans (S3.trans (aK.upd (o:=.lst ((cs.take us.length).map fun d=>V.bl (pZ ((ds.filter aX).map aJ) (fs.map aJ) d))) hp4)))
    refine ⟨p4,cs.map (pZ ((ds.filter aX).map aJ) (fs.map aJ)),rfl,SqL.of ?_,?_⟩
    ·rw [aB,List.take_of_length_le (by omega),List.map_map]
     rfl
    ·have e:pV ((ds.filter aX).map aJ) (fs.map aJ) (.lst cs) = (cs.map (pZ ((ds.filter aX).map aJ) (fs.map aJ))).all id:=by
      show (decide (cs.length ≤ 60) && cs.all _) = _
      rw [decide_eq_true h1',Bool.true_and,List.all_map]
      rfl
     rw [e] at q
     exact q
 | _=>exact bW (q H (aK.refl _))
open Mt22 MtF
def uK (C:Addr):Sp:=sp2 fun x y H Q=>∃ (p l:Addr) (fs ds:List Dv) (op:List Str),x = .ref p ∧ LandAt C H p fs ds ∧ y = .ref l ∧ H l = some (.lst (op.map V.str)) ∧ op.length ≤ 1000 ∧ (∀ z ∈ op,z ∈ (ds.filter aX).map aJ) ∧ ∀ H',aK H H' → Q .non H'
theorem kX (T:Txt K mg C):Fc P w K mg base 3 "check_sluices" ["land","thing"] (uK C):=by
 have G_land_p_sluices:Mc P w K mg base 2 C "sluices" ["self"] (nE C fun _ ds=>(ds.filter aX).map aJ):=iR T
 have G_p_is_one_of:Fc P w K mg base 1 "is_one_of" ["thing","names"] (tW K):=kW T
 refine T.d_p_check_sluices.fc kK gK (fun f cdv A outer s H vs Q E hr h=>?_)
 obtain ⟨x,y,rfl,p,l,fs,ds,op,rfl,L,rfl,hl,lo,sub,q⟩:=h
 have big:=bY
 obtain ⟨dx,d1,d2,hx,_⟩:=L.ex
 refine ⟨_,(aG (@aY _ _ (2) _ _ _ _ kK.nd rfl (Or.inr rfl) (@gH _ _ _ _ _ _ _ _ _ _ _ T.cl_Land G_land_p_sluices (hr.mono (by decide)) (pv 0) (by rfl)) (by rfl) (by trivial)) (aI (@cD _ _ _ _ _ _ _ _ (@PW.pt _ _ _ (@jZ _ _ _ _ _ _ _ (@dE _ _ _ _ (@cJ _ _ _ (@aZ _ _ _ _ _ _ _ _ _ (@cR _ (K) rfl) rfl T.n_isinstance bX (aA (pv 1) (aA (@nX _ _ _ _ T.n_list dG (by rfl) (by decide) (by decide)) aE)) (by decide) (by decide) (by rfl) (by rfl)) (by intro _;rfl))) (@jS _ _ _ _ (@dE _ _ _ _ (@cJ _ _ _ (@aZ _ _ _ _ _ _ _ _ _ (@jQ _ rfl) rfl T.n_all iE (aA (@cQ _ _ _ _ _ _ _ _ _ _ _ ["name","sluices"] 1 [2] rfl (@bJ _ (K) _ _ _ rfl (@bK _ _ _ _ (pv 1))) (fun R=>@aN _ _ (0) _ (show List.Nodup (["name","sluices"]:List Str) by decide +kernel) rfl (Or.inl rfl) (by trivial)) (@bG _ _ (by decide)) (fun R=>cN) (fun R=>(@bN _ _ _ _ _ _ _ _ _ _ G_p_is_one_of (hr.mono (by decide)) (aA (pv 0) (aA (pv 1) aE)) (by rfl) (by decide) (by rfl) (by rfl))) (by rfl) (by rfl) (by rfl) (by rfl) (by rfl) (by rfl) (by rfl) (by intro _;rfl)) aE) (by decide) (by decide) (by rfl) (by rfl)) (by intro _;rfl)))))) (aI mH) bE))),?_⟩
 refine ⟨_,rfl,p,dx,_,rfl,hx,eF _ _ (by decide +kernel) (by decide +kernel),_,rfl,p,fs,ds,rfl,L,fun ls H1 S1 fls hls=>?_⟩
 refine ⟨_,rfl,_,_,_,_,_,rfl,rfl,.lst (S1 _ _ hl),mN _ _,_,rfl,bC ?_⟩
 refine ⟨_,rfl,l,rfl,⟨_,SqL.of (S1 _ _ hl)⟩,?_⟩
 refine bV (F:=K) (xs:=op.map V.str) (by rw [List.length_map];omega) (fun i ys H'=>H1 = H' ∧ ys = (op.take i).map fun z=>V.bl true) ⟨rfl,rfl⟩ ?_ ?_ ?_
 ·rintro i ys H' hi' ⟨rfl,rfl⟩
  exact ⟨SqL.of (S1 _ _ hl),by rw [List.length_map,List.length_take];omega⟩
 ·rintro i xv ys H' K1 K2 hx ⟨rfl,rfl⟩ k1 k2
  obtain ⟨z,ez⟩:∃ z,op[i]? = some z:=by
   have:=(List.getElem?_eq_some_iff.mp hx).1
   rw [List.length_map] at this
   exact ⟨_,List.getElem?_eq_getElem this⟩
  rw [List.getElem?_map,ez] at hx
  cases hx
  refine ⟨_,rfl,_,rfl,_,_,rfl,.str z,ls,_,rfl,rfl,SqL.of hls,?_⟩
  rw [show cH ((ds.filter aX).map aJ) (.str z) = true from decide_eq_true (sub z (List.mem_of_getElem? ez))]
  refine k1 _ _ ⟨rfl,?_⟩
  rw [List.take_add_one,ez,List.map_append]
  rfl
 ·rintro ys H' ⟨rfl,rfl⟩
  rw [List.length_map,List.take_of_length_le (Nat.le_refl _)]
  intro p4 hp4
  refine ⟨p4,op.map fun _=>true,rfl,SqL.of ?_,_,rfl,?_⟩
  ·rw [aB,List.map_map]
   rfl
  ·rw [show (op.map fun _=>true).all id = true from List.all_eq_true.mpr fun b m=>by obtain ⟨z,_,rfl⟩:=List.mem_map.mp m;rfl]
   exact bC (q _ (S1.trans (aK.upd hp4)))
def iS (op:List Str) (ds:List Dv):List (Key × V):=ds.map fun d=>(Sum.inr (aJ d),V.int (fT op d))
theorem xO (op:List Str) (ds:List Dv):(iS op ds).map (·.1) = ds.map lD:=by
 unfold iS
 rw [List.map_map]
 rfl
theorem kG {f:Dv → V}:∀ {ds:List Dv} {d:Dv},(ds.map aJ).Nodup → d ∈ ds → eK (ds.map fun d=>((Sum.inr (aJ d):Key),f d)) (Sum.inr (aJ d)) = some (f d)
 | e :: ds,d,nd,m=>by
  rw [List.map_cons] at nd ⊢
  rw [List.nodup_cons] at nd
  rcases List.mem_cons.mp m with rfl | m
  ·exact dW rfl
  ·rw [dX (fun c=>nd.1 (by rw [Sum.inr.inj c];exact List.mem_map.mpr ⟨d,m,rfl⟩))]
   exact kG nd.2 m
def aAK (C:Addr):Sp:=sp2 fun x y H Q=>∃ (p l:Addr) (fs ds:List Dv) (op:List Str),x = .ref p ∧ LandAt C H p fs ds ∧ y = .ref l ∧ H l = some (.lst (op.map V.str)) ∧ op.length ≤ 1000 ∧ (∀ z ∈ op,z ∈ (ds.filter aX).map aJ) ∧
 ∀ (d:Addr) (H':Hp),aK H H' → H d = none → H' d = some (.dK (iS op ds)) → Q (.ref d) H'
theorem aAR {zs:List Str} {ds:List Dv} (gd:GoodD zs ds) {op:List Str} (sub:∀ z ∈ op,z ∈ (ds.filter aX).map aJ) {d:Dv} (m:d ∈ ds) (h:aJ d ∈ op):∃ i,aHK d = .int i:=by
 obtain ⟨e,me,en⟩:=List.mem_map.mp (sub _ h)
 rw [List.mem_filter] at me
 have:e = d:=by
  have h1:=uC gd.nd me.1
  have h2:=uC gd.nd m
  rw [en,h2] at h1
  exact (Option.some.inj h1).symm
 subst this
 obtain ⟨n,a,b,c,r,s,rfl,_,_,_,_,_,_,hs⟩:=bI (gd.all e m)
 have h2:(!vZ s) = true:=me.2
 cases s with
 | int i=>exact ⟨i,rfl⟩
 | non=>cases h2
 | _=>cases hs
theorem aBG (T:Txt K mg C):Fc P w K mg base 4 "stands" ["land","opened"] (aAK C):=by
 have G_p_check_sluices:Fc P w K mg base 3 "check_sluices" ["land","thing"] (uK C):=kX T
 have G_land_p_dykes:Mc P w K mg base 1 C "dykes" ["self"] (uH C fun _ ds=>ds):=jX T
 refine T.d_p_stands.fc aAT gK (fun f cdv A outer s H vs Q E hr h=>?_)
 obtain ⟨x,y,rfl,p,l,fs,ds,op,rfl,L,rfl,hl,lo,sub,q⟩:=h
 have big:=bY
 have gd:=(cS L).2
 have d2:=gd.l2
 refine ⟨_,(aG (@eI _ _ _ _ (@bN _ _ _ _ _ _ _ _ _ _ G_p_check_sluices (hr.mono (by decide)) (aA (pv 0) (aA (pv 1) aE)) (by rfl) (by decide) (by rfl) (by rfl)) (by rfl)) (aI (@aT _ _ _ _ (@cE _ _ _ _ _ _ _ _ _ (@cZ _ rfl) rfl T.n_dict eX (aA (@cQ _ _ _ _ _ _ _ _ _ _ _ ["dyke","opened"] 1 [1] rfl (@bJ _ (K) _ _ _ rfl (@bK _ _ _ _ (@gH _ _ _ _ _ _ _ _ _ _ _ T.cl_Land G_land_p_dykes (hr.mono (by decide)) (pv 0) (by rfl)))) (fun R=>@aN _ _ (0) _ (show List.Nodup (["dyke","opened"]:List Str) by decide +kernel) rfl (Or.inl rfl) (by trivial)) (@bG _ _ (by decide)) (fun R=>cN) (fun R=>(@cU _ _ _ _ _ (aA (@aU _ _ _ _ _ _ _ (@aM _ (K) rfl) (pv 0) aD (fun _ _=>rfl)) (aA (@aIA _ _ _ _ _ _ _ _ (@bH _ _ _ _ _ _ _ _ (@eW _ (K) rfl) (@aU _ _ _ _ _ _ _ (@aM _ (K) rfl) (pv 0) aD (fun _ _=>rfl)) (pv 1) (by with_unfolding_all rfl)) (@aU _ _ _ _ _ _ _ (@aM _ (K) rfl) (pv 0) aD (fun _ _=>rfl)) (@aU _ _ _ _ _ _ _ (@aM _ (K) rfl) (pv 0) aD (fun _ _=>rfl))) aE)))) (by rfl) (by rfl) (by rfl) (by rfl) (by rfl) (by rfl) (by rfl) (by intro _;rfl)) aE) (by decide) (by decide) (by rfl) (by rfl))))),?_⟩
 refine ⟨_,rfl,_,rfl,_,_,rfl,p,l,fs,ds,op,rfl,L,rfl,hl,lo,sub,fun H1 S1=>?_⟩
 have L1:=L.same S1
 obtain ⟨dx,d1,d2',hx,_⟩:=L1.ex
 refine ⟨_,rfl,p,dx,_,rfl,hx,eF _ _ (by decide +kernel) (by decide +kernel),_,rfl,p,fs,ds,rfl,L1,fun lb vb H2 S2 flb hlb hib=>?_⟩
 have lvb:vb.length = ds.length:=hib.length
 have T2:=S1.trans S2
 have hl2:=T2 _ _ hl
 refine ⟨lb,rfl,⟨_,SqL.of hlb⟩,?_⟩
 refine bV (F:=K) (xs:=vb) (by omega) (fun i ys H'=>aK H2 H' ∧ cC H' ys (iS op (ds.take i))) ⟨aK.refl _,cC.nil _⟩ ?_ ?_ ?_
 ·rintro i ys H' hi' ⟨S',pa⟩
  have:=pa.len
  unfold iS at this
  rw [List.length_map,List.length_take] at this
  exact ⟨SqL.of (S' _ _ hlb),by omega⟩
 ·rintro i xv ys H' K1 K2 hx' ⟨S',pa⟩ k1 k2
  have hil:i < vb.length:=(List.getElem?_eq_some_iff.mp hx').1
  obtain ⟨d,ed⟩:∃ d,ds[i]? = some d:=⟨_,List.getElem?_eq_getElem (by omega)⟩
  obtain ⟨v,ev,iv⟩:=hib.get ed
  rw [hx'] at ev
  cases ev
  have md:=List.mem_of_getElem? ed
  have si:=fun h=>aAR gd sub md h
  obtain ⟨n,a',b',c,r,sl,rfl,_⟩:=bI (gd.all d md)
  obtain ⟨t,sv,rfl,o,isv⟩:=gI iv
  have ot:=S' _ _ o
  have ek:iS op (ds.take (i + 1)) = iS op (ds.take i) ++ [(Sum.inr n,V.int (fT op (.tup [.str n,.str a',.str b',.int c,.int r,sl])))]:=by
   unfold iS
   rw [List.take_add_one,ed,List.map_append]
   rfl
  have fin:∀ v,v = V.int (fT op (.tup [.str n,.str a',.str b',.int c,.int r,sl])) → ∀ p3,H' p3 = none → K1 (.ref p3) (upd H' p3 (.tup [.str n,v])):=fun v e p3 hp3=>by
   subst e
   refine k1 _ _ ⟨S'.trans (aK.upd hp3),?_⟩
   rw [ek]
   exact cC.snoc (k:=Sum.inr n) pa hp3
  refine ⟨_,rfl,t,_,0,.str n,rfl,rfl,SqT.of ot,aH (j:=0) rfl,_,rfl,t,_,0,.str n,rfl,rfl,SqT.of ot,aH (j:=0) rfl,_,rfl,l,_,rfl,.inl (SqL.of (S' _ _ hl2)),rfl,dU op,_,rfl,?_⟩
  rw [if_neg Bool.false_ne_true,gL]
  refine mP (fun h1=>?_) (fun h1=>?_)
  ·have mo:n ∈ op:=of_decide_eq_true h1
   obtain ⟨i2,e2⟩:=si mo
   have e2':sl = .int i2:=e2
   subst e2'
   cases (show sv = .int i2 from isv)
   refine ⟨_,rfl,t,_,5,.int i2,rfl,rfl,SqT.of ot,aH (j:=5) rfl,aQ rfl,fun p3 hp3=>fin _ ?_ p3 hp3⟩
   show V.int i2 = V.int (if n ∈ op then i2 else c)
   rw [if_pos mo]
  ·have mo:¬ n ∈ op:=fun c=>h1 (decide_eq_true c)
   refine ⟨_,rfl,t,_,3,.int c,rfl,rfl,SqT.of ot,aH (j:=3) rfl,aQ rfl,fun p3 hp3=>fin _ ?_ p3 hp3⟩
   show V.int c = V.int (if n ∈ op then aIO sl else c)
   rw [if_neg mo]
 rintro ys H3 ⟨S3,pa⟩
 rw [List.take_of_length_le (by omega)] at pa
 intro p4 hp4
 have S4:=aK.upd (o:=.lst ys) hp4
 refine ⟨p4,ys,iS op ds,rfl,SqL.of aB,pa.same S4,by unfold iS;rw [List.length_map];omega,by rw [xO];exact mO gd.nd,fun cd hcd=>?_⟩
 have T4:=T2.trans (S3.trans S4)
 exact q cd _ (T4.trans (aK.upd hcd)) (T4.free hcd) aB
open Mt22 MtF
theorem uD (a b:Str):(!decide (V.str a = V.str b)) = !decide (a = b):=by
 by_cases h:a = b
 ·subst h;simp
 ·rw [decide_eq_false h,decide_eq_false (fun c=>h (by cases c;rfl))]
theorem aGE {fs:List Dv} (gf:GoodF fs) {z:Str} (m:z ∈ fs.map aJ):∃ g e,Dv.tup [.str z,.int g,.int e] ∈ fs ∧ aW fs z = g ∧ hgt g = true:=by
 obtain ⟨d,md,rfl⟩:=List.mem_map.mp m
 obtain ⟨z,g,e,rfl,_,hg,_⟩:=bP (gf.all d md)
 exact ⟨g,e,md,mS gf.nd md,hg⟩
theorem aDN {zs:List Str} {d:Dv} (h:dA zs d = true):qJ d = true:=by
 obtain ⟨n,a,b,c,r,s,rfl,_,_,_,_,_,_,hs⟩:=bI h
 cases s with
 | non=>rfl
 | int i=>rfl
 | _=>cases hs
theorem aFJ (s:Mt22.St):qJ (oI s) = true:=rfl
def aAJ (C:Addr):Sp:=sp2 fun x y H Q=>∃ (p sd:Addr) (fs ds:List Dv) (op:List Str),x = .ref p ∧ LandAt C H p fs ds ∧ y = .ref sd ∧ H sd = some (.dK (iS op ds)) ∧
 ∀ (l:Addr) (us:List V) (H':Hp),aK H H' → H l = none → H' l = some (.lst us) → IsL H' ((bT fs ds op).map oI) us → Q (.ref l) H'
theorem rB (T:Txt K mg C):Fc P w K mg base 2 "steps_inland" ["land","stand_of"] (aAJ C):=by
 have G_land_p_dykes:Mc P w K mg base 1 C "dykes" ["self"] (uH C fun _ ds=>ds):=jX T
 have G_land_p_ground:Mc P w K mg base 1 C "ground" ["self","field"] (uJ C):=mJ T
 refine T.d_p_steps_inland.fc eO gK (fun f cdv A outer s H vs Q E hr h=>?_)
 obtain ⟨x,y,rfl,p,sd,fs,ds,op,rfl,L,rfl,hsd,q⟩:=h
 have big:=bY
 have hu:=jP hr
 have gf:=(cS L).1
 have gd:=(cS L).2
 have d2:=gd.l2
 refine ⟨_,(aG (@aY _ _ (2) _ _ _ _ eO.nd rfl (Or.inl rfl) (@cK _ _ _ _ aE) (by rfl) (by trivial)) (aG (@eC _ _ _ _ _ _ _ _ PassesOwn.never rfl (@bJ _ (K) _ _ _ rfl (@bK _ _ _ _ (@gH _ _ _ _ _ _ _ _ _ _ _ T.cl_Land G_land_p_dykes (hr.mono (by decide)) (pv 0) (by rfl)))) (@aN _ _ (3) _ eO.nd rfl (Or.inl rfl) (by trivial)) (aI (@eC _ _ _ _ _ _ _ _ PassesOwn.never rfl (@bJ _ (K) _ _ _ rfl (@bK _ _ _ _ (@cK _ _ _ _ (aA (@cU _ _ _ _ _ (aA (@aU _ _ _ _ _ _ _ (@aM _ (K) rfl) (pv 3) aD (fun _ _=>rfl)) (aA (@aU _ _ _ _ _ _ _ (@aM _ (K) rfl) (pv 3) aD (fun _ _=>rfl)) aE))) (aA (@cU _ _ _ _ _ (aA (@aU _ _ _ _ _ _ _ (@aM _ (K) rfl) (pv 3) aD (fun _ _=>rfl)) (aA (@aU _ _ _ _ _ _ _ (@aM _ (K) rfl) (pv 3) aD (fun _ _=>rfl)) aE))) aE))))) (@nK _ (K) _ _ _ _ _ rfl 2 rfl (@nL _ _ _ _ _ _ rfl (@bD _ _ _ _ _ (@aN _ _ (4) _ eO.nd rfl (Or.inl rfl) (by trivial)) (@bD _ _ _ _ _ (@aN _ _ (5) _ eO.nd rfl (Or.inl rfl) (by trivial)) iQ (by rfl)) (by rfl)) (by rfl) (by rfl))) (aI (@cD _ _ _ _ _ _ _ _ (@bH _ _ _ _ _ _ _ _ oS (pv 5) (@qG _ _ _ _ T.g_SEA (by rfl) (by decide)) (@bF _ _ (by decide) (by decide))) (aI (@eI _ _ _ _ (@mI _ (K) _ _ _ _ _ rfl (@lB _ _ _ _ _ _ _ _ _ _ _ _ PySem.F.plainAttrs_list PySem.F.slot_list_append PySem.F.type_list_append dS (pv 2) (aA (@cU _ _ _ _ _ (aA (@aU _ _ _ _ _ _ _ (@aM _ (K) rfl) (pv 3) aD (fun _ _=>rfl)) (aA (pv 4) (aA (pv 5) (aA (@aZ _ _ _ _ _ _ _ _ _ (@mV _ rfl) rfl T.n_max kF (aA (@jD _ _ _ _ _ _ hu (pv 1) (@aU _ _ _ _ _ _ _ (@aM _ (K) rfl) (pv 3) aD (fun _ _=>rfl)) (fun _ _=>rfl)) (aA (@aCX _ _ _ _ _ _ _ _ _ _ _ _ _ _ T.cl_Land G_land_p_ground (hr.mono (by decide)) (pv 0) (aA (pv 5) aE) (by rfl) (by rfl) (by rfl)) aE)) (by decide) (by decide) (by rfl) (by rfl)) aE))))) aE) (by rfl) (by rfl) (by rfl) (by rfl) (by rfl))) (by rfl))) bE)) (by intro _;rfl))) (by intro _;rfl)) (aI (@aT _ _ _ _ (pv 2))))),?_⟩
 refine ⟨aQ rfl,fun l hl=>?_⟩
 have S1:=aK.upd (o:=.lst []) hl
 have L1:=L.same S1
 obtain ⟨dx,d1,d2',hx,_⟩:=L1.ex
 have hl1:upd H l (.lst []) l = some (.lst []):=aB
 generalize upd H l (.lst []) = H1 at S1 L1 hx hl1
 refine ⟨_,rfl,p,dx,_,rfl,hx,eF _ _ (by decide +kernel) (by decide +kernel),_,rfl,p,fs,ds,rfl,L1,fun lb vb H2 S2 flb hlb hib=>?_⟩
 have lvb:vb.length = ds.length:=hib.length
 have T2:=S1.trans S2
 have nlb:l ≠ lb:=aL hl1 flb
 have hds:rG ds = true:=eG fun d m=>aDN (gd.all d m)
 refine ⟨lb,rfl,⟨_,SqL.of hlb⟩,dQ (K:=K) (a:=lb) (xs:=vb)
  (fun i σ H'=>∃ (v3 v4 v5:Option V) (us:List V),σ = [some (.ref p),some (.ref sd),some (.ref l),v3,v4,v5] ∧ aK H H' ∧ H' lb = some (.lst vb) ∧ IsL H' ds vb ∧ H' l = some (.lst us) ∧ IsL H' ((bT fs (ds.take i) op).map oI) us)
  ⟨_,_,_,[],rfl,T2,hlb,hib,S2 _ _ hl1,rfl⟩ (fun i σ H' _ ⟨_,_,_,_,_,_,e,_⟩=>SqL.of e) ?_ ?_⟩
 ·rintro i xv σ H3 hi ⟨v3,v4,v5,us,rfl,S3,hlb3,hib3,hl3,ius⟩
  refine aAF fun D1 hD1=>?_
  have hil:i < vb.length:=(List.getElem?_eq_some_iff.mp hi).1
  obtain ⟨d,ed⟩:∃ d,ds[i]? = some d:=⟨_,List.getElem?_eq_getElem (by omega)⟩
  obtain ⟨v,ev,iv⟩:=hib3.get ed
  rw [hi] at ev
  cases ev
  have md:=List.mem_of_getElem? ed
  have val:=kG (f:=fun d=>V.int (fT op d)) gd.nd md
  have elen:=nC fs op (ds.take i)
  rw [List.length_take] at elen
  have eapp:bT fs (ds.take (i + 1)) op = bT fs (ds.take i) op ++ iJ fs op d:=by
   unfold bT
   rw [List.take_add_one,ed,List.flatMap_append]
   simp
  obtain ⟨n,a',b',c,r,sl,rfl,_,ha,hb,_⟩:=bI (gd.all d md)
  obtain ⟨t,sv,rfl,o,isv⟩:=gI iv
  refine ⟨_,rfl,t,_,1,.str a',rfl,rfl,SqT.of o,aH (j:=1) rfl,_,rfl,t,_,2,.str b',rfl,rfl,SqT.of o,aH (j:=2) rfl,aQ rfl,fun q1 hq1=>?_⟩
  have R1:=aK.upd (o:=.tup [.str a',.str b']) hq1
  have o1:=R1 _ _ o
  refine ⟨_,rfl,t,_,2,.str b',rfl,rfl,SqT.of o1,aH (j:=2) rfl,_,rfl,t,_,1,.str a',rfl,rfl,SqT.of o1,aH (j:=1) rfl,aQ rfl,fun q2 hq2=>?_⟩
  have R2:=aK.upd (o:=.tup [.str b',.str a']) hq2
  refine ⟨aQ rfl,fun q3 hq3=>?_⟩
  have R3:=aK.upd (o:=.lst [.ref q1,.ref q2]) hq3
  have R:=R1.trans (R2.trans R3)
  have g1:upd (upd (upd H3 q1 (.tup [.str a',.str b'])) q2 (.tup [.str b',.str a'])) q3 (.lst [.ref q1,.ref q2]) q1 = some (.tup [.str a',.str b']):=(R2.trans R3) _ _ aB
  have g2:upd (upd (upd H3 q1 (.tup [.str a',.str b'])) q2 (.tup [.str b',.str a'])) q3 (.lst [.ref q1,.ref q2]) q2 = some (.tup [.str b',.str a']):=R3 _ _ aB
  have g3:upd (upd (upd H3 q1 (.tup [.str a',.str b'])) q2 (.tup [.str b',.str a'])) q3 (.lst [.ref q1,.ref q2]) q3 = some (.lst [.ref q1,.ref q2]):=aB
  have nq3:l ≠ q3:=aL ((R1.trans R2) _ _ hl3) hq3
  have S4:=S3.trans R
  have hlb4:=R _ _ hlb3
  have hib4:=IsL.same R _ _ hib3
  have hl4:=R _ _ hl3
  have ius4:=IsL.same R _ _ ius
  have o4:=R _ _ o
  generalize upd (upd (upd H3 q1 (.tup [.str a',.str b'])) q2 (.tup [.str b',.str a'])) q3 (.lst [.ref q1,.ref q2]) = H4 at g1 g2 g3 S4 hlb4 hib4 hl4 ius4 o4
  let sides:List (Str × Str):=[(a',b'),(b',a')]
  refine ⟨q3,rfl,⟨_,SqL.of g3⟩,dQ (K:=K) (a:=q3) (xs:=[.ref q1,.ref q2])
   (fun j σ H'=>∃ (v4 v5:Option V) (us:List V),σ = [some (.ref p),some (.ref sd),some (.ref l),some (.ref t),v4,v5] ∧ aK H H' ∧ H' lb = some (.lst vb) ∧ IsL H' ds vb ∧ H' t = some (.tup [.str n,.str a',.str b',.int c,.int r,sv]) ∧ H' q1 = some (.tup [.str a',.str b']) ∧ H' q2 = some (.tup [.str b',.str a']) ∧ H' q3 = some (.lst [.ref q1,.ref q2]) ∧ H' l = some (.lst us) ∧
    IsL H' ((bT fs (ds.take i) op ++ (sides.take j).flatMap fun s=>dC fs op (.tup [.str n,.str a',.str b',.int c,.int r,sl]) s.1 s.2).map oI) us)
   ⟨_,_,us,rfl,S4,hlb4,hib4,o4,g1,g2,g3,hl4,by simpa using ius4⟩ (fun j σ H' _ ⟨_,_,_,_,_,_,_,_,_,_,e,_⟩=>SqL.of e) ?_ ?_⟩
  ·rintro j yv σ H5 hj ⟨w4,w5,us5,rfl,S5,hlb5,hib5,o5,g15,g25,g35,hl5,ius5⟩
   refine aAF fun D2 hD2=>?_
   have hj2:j < 2:=(List.getElem?_eq_some_iff.mp hj).1
   obtain ⟨q,near,far,rfl,es,hq,hf⟩:∃ (q:Addr) (near far:Str),yv = .ref q ∧ sides[j]? = some (near,far) ∧ H5 q = some (.tup [.str near,.str far]) ∧ far ∈ (("sea":Str) :: fs.map aJ):=by
    match j,hj2 with
    | 0,_=>cases hj;exact ⟨q1,a',b',rfl,rfl,g15,hb⟩
    | 1,_=>cases hj;exact ⟨q2,b',a',rfl,rfl,g25,ha⟩
   have eflat:(sides.take (j + 1)).flatMap (fun s=>dC fs op (.tup [.str n,.str a',.str b',.int c,.int r,sl]) s.1 s.2) = (sides.take j).flatMap (fun s=>dC fs op (.tup [.str n,.str a',.str b',.int c,.int r,sl]) s.1 s.2) ++ dC fs op (.tup [.str n,.str a',.str b',.int c,.int r,sl]) near far:=by
    rw [List.take_add_one,es,List.flatMap_append]
    simp
   have elen5:us5.length ≤ 2 * ds.length + 2:=by
    have h1:=ius5.length
    rw [List.length_map,List.length_append] at h1
    have h2:((sides.take j).flatMap fun s=>dC fs op (.tup [.str n,.str a',.str b',.int c,.int r,sl]) s.1 s.2).length ≤ 2:=by
     match j,hj2 with
     | 0,_=>simp
     | 1,_ =>
      show ([(a',b')].flatMap _).length ≤ 2
      simp only [List.flatMap_cons,List.flatMap_nil,List.append_nil]
      unfold dC
      split <;> simp
    omega
   refine ⟨q,_,rfl,SqT.of hq,rfl,_,_,rfl,_,_,rfl,rfl,?_⟩
   refine ⟨_,rfl,rfl,_,rfl,?_⟩
   rw [uD]
   refine mP (fun h1=>?_) (fun h1=>?_)
   ·have hne:¬ far = "sea":=fun e=>by rw [decide_eq_true e] at h1;cases h1
    have mf:far ∈ fs.map aJ:=(List.mem_cons.mp hf).resolve_left hne
    obtain ⟨g,e',mfs,eg,_⟩:=aGE gf mf
    have L5:=L.same S5
    obtain ⟨dx5,x1,x2,hx5,_⟩:=L5.ex
    refine ⟨_,rfl,.inl ⟨rfl,_,SqL.of hl5⟩,_,rfl,t,_,0,.str n,rfl,rfl,SqT.of o5,aH (j:=0) rfl,_,rfl,_,rfl,_,rfl,_,rfl,t,_,0,.str n,rfl,rfl,SqT.of o5,aH (j:=0) rfl,sd,_,rfl,.inl ⟨_,Sum.inr n,.inl (S5 _ _ hsd),rfl,val.symm⟩,_,rfl,p,dx5,_,rfl,hx5,eF _ _ (by decide +kernel) (by decide +kernel),_,rfl,_,_,rfl,p,fs,ds,far,g,e',rfl,rfl,L5,mfs,_,_,rfl,aQ rfl,fun pt hpt=>?_⟩
    have emax:(if g > fT op (.tup [.str n,.str a',.str b',.int c,.int r,sl]) then g else fT op (.tup [.str n,.str a',.str b',.int c,.int r,sl])) = max (fT op (.tup [.str n,.str a',.str b',.int c,.int r,sl])) (aW fs far):=by
     rw [eg]
     split <;> omega
    dsimp only at hpt ⊢
    rw [emax] at *
    have R6:=aK.upd (o:=.tup [.str n,.str near,.str far,.int (max (fT op (.tup [.str n,.str a',.str b',.int c,.int r,sl])) (aW fs far))]) hpt
    have hl6:=R6 _ _ hl5
    have KT:=mZ.lst (o:=.lst (us5 ++ [.ref pt])) hl6
    refine ⟨l,us5,.ref pt,rfl,rfl,hl6,by omega,?_⟩
    have ks:=eG (ds:=(bT fs (ds.take i) op ++ (sides.take (j + 1)).flatMap fun s=>dC fs op (.tup [.str n,.str a',.str b',.int c,.int r,sl]) s.1 s.2).map oI) fun d m=>by
     obtain ⟨s,_,rfl⟩:=List.mem_map.mp m
     exact aFJ s
    refine hD2 _ _ ⟨_,_,us5 ++ [.ref pt],rfl,(S5.trans R6).over hl,?_,IsL.keep KT _ _ hds (IsL.same R6 _ _ hib5),?_,?_,?_,?_,aB,IsL.keep KT _ _ ks ?_⟩
    ·rw [aP (Ne.symm nlb)];exact R6 _ _ hlb5
    ·rw [aP (fun e=>by rw [e,hl5] at o5;cases o5)];exact R6 _ _ o5
    ·rw [aP (fun e=>by rw [e,hl5] at g15;cases g15)];exact R6 _ _ g15
    ·rw [aP (fun e=>by rw [e,hl5] at g25;cases g25)];exact R6 _ _ g25
    ·rw [aP (Ne.symm nq3)];exact R6 _ _ g35
    ·rw [eflat,← List.append_assoc,List.map_append]
     have e1:dC fs op (.tup [.str n,.str a',.str b',.int c,.int r,sl]) near far = [⟨n,near,far,max (fT op (.tup [.str n,.str a',.str b',.int c,.int r,sl])) (aW fs far)⟩]:=by
      unfold dC
      rw [if_neg hne]
      rfl
     rw [e1]
     exact IsL.snoc (d:=oI ⟨n,near,far,max (fT op (.tup [.str n,.str a',.str b',.int c,.int r,sl])) (aW fs far)⟩) (v:=.ref pt) ⟨pt,_,rfl,aB,_,_,rfl,rfl,_,_,rfl,rfl,_,_,rfl,rfl,_,_,rfl,rfl,rfl⟩ (IsL.same R6 _ _ ius5)
   ·have he:far = "sea":=by
     by_cases h:far = "sea"
     ·exact h
     ·rw [decide_eq_false h] at h1
      exact absurd rfl h1
    refine hD2 _ _ ⟨_,_,us5,rfl,S5,hlb5,hib5,o5,g15,g25,g35,hl5,?_⟩
    rw [eflat]
    unfold dC at ius5 ⊢
    rw [if_pos he,List.append_nil]
    exact ius5
  ·rintro σ H5 ⟨w4,w5,us5,rfl,S5,hlb5,hib5,o5,g15,g25,g35,hl5,ius5⟩
   refine hD1 _ _ ⟨_,_,_,us5,rfl,S5,hlb5,hib5,hl5,?_⟩
   rw [eapp]
   have e:((sides.take [V.ref q1,V.ref q2].length).flatMap fun s=>dC fs op (.tup [.str n,.str a',.str b',.int c,.int r,sl]) s.1 s.2) = iJ fs op (.tup [.str n,.str a',.str b',.int c,.int r,sl]):=by
    show [(a',b'),(b',a')].flatMap _ = _
    simp [iJ,xA,lI]
   rw [e] at ius5
   exact ius5
 ·rintro σ H3 ⟨v3,v4,v5,us,rfl,S3,hlb3,hib3,hl3,ius⟩
  rw [List.take_of_length_le (by omega)] at ius
  exact ⟨_,rfl,q l us H3 S3 hl hl3 ius⟩
open Mt22 MtF
def xJ (H:Hp) (d:Addr) (lo:Mt22.Lo) (n:Nat):Prop:=∃ kvs:List (Key × V),H d = some (.dK kvs) ∧ kvs.length ≤ n ∧ ∀ z:Str,eK kvs (Sum.inr z) = (lo z).map V.int
def iG (fs:List Dv) (lo:Mt22.Lo):List (Key × V):=fs.map fun d=>(Sum.inr (aJ d),vD (lo (aJ d)))
def aED (C:Addr):Sp:=sp2 fun x y H Q=>∃ (p l:Addr) (fs ds:List Dv) (op:List Str),x = .ref p ∧ LandAt C H p fs ds ∧ y = .ref l ∧ H l = some (.lst (op.map V.str)) ∧ op.length ≤ 1000 ∧ (∀ z ∈ op,z ∈ (ds.filter aX).map aJ) ∧
 ∀ (d:Addr) (H':Hp),aK H H' → H d = none → H' d = some (.dK (iG fs (flo fs ds op))) → Q (.ref d) H'
theorem vA {lo:Mt22.Lo} {s:Mt22.St} (h:lo s.near = none):eB lo s = lo:=by unfold eB;rw [h]
theorem xX {o:Option Int} {c:Int}:(o.map V.int).getD (.int c) = .int (o.getD c):=by cases o <;> rfl
theorem xW (o:Option Int):(o.map V.int).getD .non = vD o:=by cases o <;> rfl
theorem qH (T:Txt K mg C):Fc P w K mg base 5 "flood_heights" ["land","opened"] (aED C):=by
 have G_p_stands:Fc P w K mg base 4 "stands" ["land","opened"] (aAK C):=aBG T
 have G_p_steps_inland:Fc P w K mg base 2 "steps_inland" ["land","stand_of"] (aAJ C):=rB T
 have G_land_p_field_names:Mc P w K mg base 1 C "field_names" ["self"] (nE C fun fs _=>fs.map aJ):=fU T
 refine T.d_p_flood_heights.fc cA gK (fun f cdv A outer s H vs Q E hr h=>?_)
 obtain ⟨x,y,rfl,p,l,fs,ds,op,rfl,L,rfl,hl,lo,sub,q⟩:=h
 have big:=bY
 have hu:=jP hr
 have gf:=(cS L).1
 have gd:=(cS L).2
 have d2:=gd.l2
 have f2:=gf.l2
 have slen:=nC fs op ds
 refine ⟨_,(aG (@aY _ _ (2) _ _ _ _ cA.nd rfl (Or.inl rfl) (@bN _ _ _ _ _ _ _ _ _ _ G_p_steps_inland (hr.mono (by decide)) (aA (pv 0) (aA (@bN _ _ _ _ _ _ _ _ _ _ G_p_stands (hr.mono (by decide)) (aA (pv 0) (aA (pv 1) aE)) (by rfl) (by decide) (by rfl) (by rfl)) aE)) (by rfl) (by decide) (by rfl) (by rfl)) (by rfl) (by trivial)) (aG (@aY _ _ (3) _ _ _ _ cA.nd rfl (Or.inr rfl) (@aEQ _ _ _ _ _ (@aAZ _ _ _ _ _ _ _ _ _ (@qG _ _ _ _ T.g_SEA (by rfl) (by decide)) (@aLI _ _ _ _ _ _ aGT (@qG _ _ _ _ T.g_MOST_HEIGHT (by rfl) (by decide))) aEM) rfl rfl (by simp) (Nat.le_of_ble_eq_true rfl)) (by rfl) (by trivial)) (aG (@eC _ _ _ _ _ _ _ _ PassesOwn.never rfl (@gJ _ _ _ _ _ _ rfl T.n_range (aA (@aZ _ _ _ _ _ _ _ _ _ (@bU _ (K) rfl) rfl T.n_len cT (aA (@gH _ _ _ _ _ _ _ _ _ _ _ T.cl_Land G_land_p_field_names (hr.mono (by decide)) (pv 0) (by rfl)) aE) (by decide) (by decide) (by rfl) (by rfl)) aE) (by rfl)) (@aN _ _ (4) _ cA.nd rfl (Or.inl rfl) (by trivial)) (aI (@eC _ _ _ _ _ _ _ _ PassesOwn.never rfl (@bJ _ (K) _ _ _ rfl (@bK _ _ _ _ (pv 2))) (@nK _ (K) _ _ _ _ _ rfl 4 rfl (@nL _ _ _ _ _ _ rfl (@bD _ _ _ _ _ (@aN _ _ (5) _ cA.nd rfl (Or.inl rfl) (by trivial)) (@bD _ _ _ _ _ (@aN _ _ (6) _ cA.nd rfl (Or.inl rfl) (by trivial)) (@bD _ _ _ _ _ (@aN _ _ (7) _ cA.nd rfl (Or.inl rfl) (by trivial)) (@bD _ _ _ _ _ (@aN _ _ (8) _ cA.nd rfl (Or.inl rfl) (by trivial)) iQ (by rfl)) (by rfl)) (by rfl)) (by rfl)) (by rfl) (by rfl))) (aI (@cD _ _ _ _ _ _ _ _ (@aHU _ _ _ _ _ _ (@aIB _ _ _ _ _ hu (pv 6) (pv 3)) (by first | exact nobehind _ (by decide) (by decide) | rfl)) (aG (@aY _ _ (9) _ _ _ _ cA.nd rfl (Or.inl rfl) (@aZ _ _ _ _ _ _ _ _ _ (@mV _ rfl) rfl T.n_max kF (aA (@jD _ _ _ _ _ _ hu (pv 3) (pv 6) (fun _ _=>rfl)) (aA (pv 8) aE)) (by decide) (by decide) (by rfl) (by rfl)) (by rfl) (by trivial)) (aI (@nJ _ _ _ _ _ _ _ _ _ hu (pv 3) (pv 7) (@aZ _ _ _ _ _ _ _ _ _ (@mU _ rfl) rfl T.n_min mX (aA (pv 9) (aA (@vB _ _ _ _ _ _ _ _ _ hu (pv 3) (pv 7) (pv 9) ⟨rfl,rfl,rfl,rfl⟩) aE)) (by decide) (by decide) (by rfl) (by rfl)) rfl))) bE)) (by intro _;rfl))) (by intro _;rfl)) (aI (@aT _ _ _ _ (@cE _ _ _ _ _ _ _ _ _ (@cZ _ rfl) rfl T.n_dict eX (aA (@cQ _ _ _ _ _ _ _ _ _ _ _ ["name","lowest"] 1 [3] rfl (@bJ _ (K) _ _ _ rfl (@bK _ _ _ _ (@gH _ _ _ _ _ _ _ _ _ _ _ T.cl_Land G_land_p_field_names (hr.mono (by decide)) (pv 0) (by rfl)))) (fun R=>@aN _ _ (0) _ (show List.Nodup (["name","lowest"]:List Str) by decide +kernel) rfl (Or.inl rfl) (by trivial)) (@bG _ _ (by decide)) (fun R=>cN) (fun R=>(@cU _ _ _ _ _ (aA (pv 0) (aA (@aBC _ _ _ _ _ _ _ hu (pv 1) (pv 0) ⟨rfl,rfl,rfl,rfl⟩) aE)))) (by rfl) (by rfl) (by rfl) (by rfl) (by rfl) (by rfl) (by rfl) (by intro _;rfl)) aE) (by decide) (by decide) (by rfl) (by rfl))))))),?_⟩
 refine ⟨_,rfl,_,rfl,_,rfl,_,_,rfl,p,l,fs,ds,op,rfl,L,rfl,hl,lo,sub,fun sd H1 S1 fsd hsd=>?_⟩
 refine ⟨_,_,rfl,p,sd,fs,ds,op,rfl,L.same S1,rfl,hsd,fun ls us H2 S2 fls hls ius=>?_⟩
 have lus:=ius.length
 rw [List.length_map] at lus
 have T2:=S1.trans S2
 refine fun dl hdl=>?_
 refine ⟨_,rfl,aB,[(Sum.inr "sea",.int (-1000000))],rfl,by show 1 ≤ 15;decide,?_⟩
 have S3:aK H2 (upd (upd H2 dl (.dK [])) dl (.dK (lA [] [(Sum.inr "sea",.int (-1000000))]))):=(aK.upd hdl).over hdl
 have lo3:xJ (upd (upd H2 dl (.dK [])) dl (.dK (lA [] [(Sum.inr "sea",.int (-1000000))]))) dl lo0 1:=by
  refine ⟨[(Sum.inr "sea",.int (-1000000))],aB,Nat.le_refl _,fun z=>?_⟩
  unfold lo0
  by_cases hz:z = Mt22.sea
  ·subst hz
   rw [if_pos rfl]
   exact dW rfl
  ·rw [if_neg hz,dX (fun e=>hz (Sum.inr.inj e).symm)]
   rfl
 generalize upd (upd H2 dl (.dK [])) dl (.dK (lA [] [(Sum.inr "sea",.int (-1000000))])) = H3 at S3 lo3
 have L2':=L.same T2
 have L3:=L2'.same S3
 obtain ⟨dx,d1,d2',hx,_⟩:=L3.ex
 refine ⟨_,rfl,p,dx,_,rfl,hx,eF _ _ (by decide +kernel) (by decide +kernel),_,rfl,p,fs,ds,rfl,L3,fun ln H4 S4 fln hln=>?_⟩
 refine ⟨ln,_,rfl,.inl (SqL.of hln),(fs.length:Int),by rw [List.length_map,List.length_map],by omega,by omega,?_⟩
 have lo4:xJ H4 dl lo0 1:=by
  obtain ⟨kvs,e,r⟩:=lo3
  exact ⟨kvs,S4 _ _ e,r⟩
 refine jA (lo:=0) (n:=fs.length) (fun i σ H'=>∃ v4 v5 v6 v7 v8 v9:Option V,σ = [some (.ref p),some (.ref l),some (.ref ls),some (.ref dl),v4,v5,v6,v7,v8,v9] ∧ aK H2 H' ∧ xJ H' dl (iO (bT fs ds op) i) (1 + i * (bT fs ds op).length))
  ⟨_,_,_,_,_,_,rfl,S3.trans S4,by rw [Nat.zero_mul];exact lo4⟩ ?_ ?_
 ·rintro i σ H5 hi ⟨v4,v5,v6,v7,v8,v9,rfl,S5,lo5⟩
  refine xY fun D1 hD1=>?_
  refine ⟨_,rfl,ls,rfl,⟨_,SqL.of (S5 _ _ hls)⟩,dQ (K:=K) (a:=ls) (xs:=us)
   (fun j σ H'=>∃ v5 v6 v7 v8 v9:Option V,σ = [some (.ref p),some (.ref l),some (.ref ls),some (.ref dl),some (.int (0 + (i:Int))),v5,v6,v7,v8,v9] ∧ aK H2 H' ∧ xJ H' dl (((bT fs ds op).take j).foldl eB (iO (bT fs ds op) i)) (1 + i * (bT fs ds op).length + j))
   ⟨_,_,_,_,_,rfl,S5,lo5⟩ (fun j σ H' _ ⟨_,_,_,_,_,_,S,_⟩=>SqL.of (S _ _ hls)) ?_ ?_⟩
  ·rintro j xv σ H6 hj ⟨w5,w6,w7,w8,w9,rfl,S6,kvs,hk,lk,vk⟩
   refine aAF fun D2 hD2=>?_
   have hjl:j < us.length:=(List.getElem?_eq_some_iff.mp hj).1
   obtain ⟨st,es⟩:∃ st,(bT fs ds op)[j]? = some st:=⟨_,List.getElem?_eq_getElem (by omega)⟩
   obtain ⟨v,ev,iv⟩:=ius.get (show ((bT fs ds op).map oI)[j]? = some (oI st) by rw [List.getElem?_map,es];rfl)
   rw [hj] at ev
   cases ev
   obtain ⟨t,ts,rfl,o,x0,r0,rfl,e0,x1,r1,rfl,e1,x2,r2,rfl,e2,x3,r3,rfl,e3,h0⟩:=iv
   cases (show r3 = [] from h0)
   cases (show x0 = .str st.nm from e0)
   cases (show x1 = .str st.near from e1)
   cases (show x2 = .str st.far from e2)
   cases (show x3 = .int st.h from e3)
   have o6:=S6 _ _ o
   have efold:((bT fs ds op).take (j + 1)).foldl eB (iO (bT fs ds op) i) = eB (((bT fs ds op).take j).foldl eB (iO (bT fs ds op) i)) st:=by
    rw [List.take_add_one,es,List.foldl_append]
    rfl
   have lkb:kvs.length < sizeLine:=by
    have big2:(2000:Nat) ≤ sizeLine:=by decide
    have h1:i * (bT fs ds op).length ≤ 12 * 80:=Nat.mul_le_mul (by omega) (by omega)
    omega
   generalize ((bT fs ds op).take j).foldl eB (iO (bT fs ds op) i) = lw at vk efold
   refine ⟨t,_,rfl,SqT.of o6,rfl,_,_,rfl,_,_,rfl,_,_,rfl,_,_,rfl,rfl,?_⟩
   refine ⟨_,rfl,_,rfl,dl,_,rfl,.inl ⟨kvs,Sum.inr st.near,.inl hk,rfl,rfl⟩,_,rfl,?_⟩
   rw [vk]
   cases hn:lw st.near with
   | none =>
    refine bC (hD2 _ _ ⟨_,_,_,_,_,rfl,S6,?_⟩)
    rw [efold,vA hn]
    exact ⟨kvs,hk,by omega,vk⟩
   | some a =>
    refine bW ?_
    refine ⟨_,rfl,_,rfl,dl,.int a,rfl,.inl ⟨kvs,Sum.inr st.near,.inl hk,rfl,by rw [vk,hn];rfl⟩,_,rfl,_,_,rfl,?_⟩
    have emax:(if st.h > a then st.h else a) = max a st.h:=by split <;> omega
    dsimp only
    rw [emax]
    refine ⟨_,rfl,_,rfl,dl,rfl,.inl ⟨_,.inl hk⟩,_,rfl,_,rfl,_,lT.k (k:=Sum.inr st.far) hk,_,_,by rw [vk,xX],?_⟩
    refine ⟨_,rfl,_,rfl,dl,_,rfl,.inl ⟨kvs,Sum.inr st.far,hk,rfl,lkb,rfl⟩,?_⟩
    have hdl6:H2 dl = none:=hdl
    refine hD2 _ _ ⟨_,_,_,_,_,rfl,S6.over hdl6,_,aB,?_,fun z=>?_⟩
    ·have:=jO kvs (Sum.inr st.far:Key) (V.int (if (lw st.far).getD (max a st.h) < max a st.h then (lw st.far).getD (max a st.h) else max a st.h))
     omega
    ·rw [aAC,efold]
     unfold eB
     rw [hn]
     dsimp only
     by_cases hz:z = st.far
     ·subst hz
      rw [if_pos rfl,if_pos rfl]
      cases hf:lw st.far with
      | none =>
       show some (V.int (if max a st.h < max a st.h then _ else _)) = some (V.int (max a st.h))
       rw [if_neg (Int.lt_irrefl _)]
      | some b =>
       show some (V.int (if b < max a st.h then b else max a st.h)) = some (V.int (min (max a st.h) b))
       congr 2
       split <;> omega
     ·rw [if_neg (fun e=>hz (Sum.inr.inj e)),if_neg hz]
      exact vk z
  ·rintro σ H6 ⟨w5,w6,w7,w8,w9,rfl,S6,lo6⟩
   rw [List.take_of_length_le (by omega)] at lo6
   refine hD1 _ _ ⟨_,_,_,_,_,_,rfl,S6,?_⟩
   obtain ⟨kvs,hk,lk,vk⟩:=lo6
   exact ⟨kvs,hk,by rw [Nat.succ_mul];omega,vk⟩
 ·rintro σ H5 ⟨v4,v5,v6,v7,v8,v9,rfl,S5,kvs,hk,lk,vk⟩
  have L5:=L2'.same S5
  obtain ⟨dx5,x1,x2,hx5,_⟩:=L5.ex
  refine ⟨_,rfl,p,dx5,_,rfl,hx5,eF _ _ (by decide +kernel) (by decide +kernel),_,rfl,p,fs,ds,rfl,L5,fun lm H6 S6 flm hlm=>?_⟩
  have hk6:=S6 _ _ hk
  refine ⟨lm,rfl,⟨_,SqL.of hlm⟩,?_⟩
  refine bV (F:=K) (xs:=(fs.map aJ).map V.str) (by rw [List.length_map,List.length_map];omega) (fun i ys H'=>aK H6 H' ∧ cC H' ys (iG (fs.take i) (flo fs ds op))) ⟨aK.refl _,cC.nil _⟩ ?_ ?_ ?_
  ·rintro i ys H' hi' ⟨S',pa⟩
   have:=pa.len
   unfold iG at this
   rw [List.length_map,List.length_take] at this
   exact ⟨SqL.of (S' _ _ hlm),by omega⟩
  ·rintro i xv ys H' K1 K2 hx' ⟨S',pa⟩ k1 k2
   have hil:=(List.getElem?_eq_some_iff.mp hx').1
   rw [List.length_map,List.length_map] at hil
   obtain ⟨d,ed⟩:∃ d,fs[i]? = some d:=⟨_,List.getElem?_eq_getElem hil⟩
   rw [List.getElem?_map,List.getElem?_map,ed] at hx'
   cases hx'
   have ek:iG (fs.take (i + 1)) (flo fs ds op) = iG (fs.take i) (flo fs ds op) ++ [(Sum.inr (aJ d),vD (flo fs ds op (aJ d)))]:=by
    unfold iG
    rw [List.take_add_one,ed,List.map_append]
    rfl
   refine ⟨_,rfl,_,rfl,dl,rfl,.inl ⟨_,.inl (S' _ _ hk6)⟩,_,rfl,_,lT.k (k:=Sum.inr (aJ d)) (S' _ _ hk6),?_⟩
   rw [vk,xW]
   refine ⟨aQ rfl,fun p3 hp3=>k1 _ _ ⟨S'.trans (aK.upd hp3),?_⟩⟩
   rw [ek]
   exact cC.snoc (k:=Sum.inr (aJ d)) pa hp3
  rintro ys H7 ⟨S7,pa⟩
  rw [List.length_map,List.length_map,List.take_of_length_le (Nat.le_refl _)] at pa
  intro p4 hp4
  have S8:=aK.upd (o:=.lst ys) hp4
  have T8:=T2.trans (S5.trans (S6.trans (S7.trans S8)))
  refine ⟨p4,ys,iG fs (flo fs ds op),rfl,SqL.of aB,pa.same S8,by unfold iG;rw [List.length_map];omega,?_,fun cd hcd=>?_⟩
  ·have e:(iG fs (flo fs ds op)).map (·.1) = fs.map lD:=by
    unfold iG
    rw [List.map_map]
    rfl
   rw [e]
   exact mO gf.nd
  ·exact q cd _ (T8.trans (aK.upd hcd)) (T8.free hcd) aB
structure GoodC (zs:List Str) (d:Dv):Prop where
 ok:iZ zs d = true
 sm:dY d = true
 fl:bA 27 d = true
structure GoodX (gs zs:List Str) (d:Dv):Prop where
 ok:pZ gs zs d = true
 sm:dY d = true
 fl:bA 29 d = true
 sh:∃ (a g:Str) (cs:List Dv),d = .tup [.str a,.str g,.lst cs] ∧ cH ["open","shut"] (.str a) = true ∧ g ∈ gs ∧ 1 ≤ cs.length ∧ cs.length ≤ 6 ∧ (∀ c ∈ cs,GoodC zs c) ∧ a.length ≤ 1000 ∧ g.length ≤ 1000
theorem aIU {gs zs:List Str} {a g:Str} {cs:List Dv} (ha:cH ["open","shut"] (.str a) = true) (sa:a.length ≤ 1000) (hg:g ∈ gs) (sg:g.length ≤ 1000) (l1:1 ≤ cs.length) (l6:cs.length ≤ 6) (hc:∀ c ∈ cs,GoodC zs c):GoodX gs zs (.tup [.str a,.str g,.lst cs]):=by
 refine ⟨?_,?_,?_,a,g,cs,rfl,ha,hg,l1,l6,hc,sa,sg⟩
 ·show ((cH ["open","shut"] (.str a) && cH gs (.str g)) && ((decide (1 ≤ cs.length) && decide ((cs.length:Int) ≤ 6)) && cs.all (iZ zs))) = true
  rw [ha,show cH gs (.str g) = true from decide_eq_true hg,decide_eq_true l1,decide_eq_true (by omega:(cs.length:Int) ≤ 6),List.all_eq_true.mpr fun c m=>(hc c m).ok]
  rfl
 ·show (decide (3 ≤ 1000) && (decide (a.length ≤ 1000) && (decide (g.length ≤ 1000) && ((decide (cs.length ≤ 1000) && fW cs) && true)))) = true
  rw [decide_eq_true sa,decide_eq_true sg,decide_eq_true (by omega:cs.length ≤ 1000),pL fun c m=>(hc c m).sm]
  rfl
 ·have h:cY 27 cs = true:=nT fun c m=>(hc c m).fl
  show (bA 28 (.str a) && (bA 28 (.str g) && (bA 28 (.lst cs) && true))) = true
  have h2:bA 28 (.lst cs) = true:=by simpa [bA] using h
  rw [h2]
  rfl
def sp4 (f:V → V → V → V → Hp → VK → Prop):Sp:=fun vs H Q _=>∃ x y z u,vs = [x,y,z,u] ∧ f x y z u H Q
theorem aBV {f:V → V → V → V → Hp → VK → Prop}:∀ vs H Q E,sp4 f vs H Q E → vs.length = 4:=fun vs H Q E ⟨x,y,z,u,e,_⟩=>by rw [e];rfl
inductive Cd where
 | always | above (h:Int) | below (h:Int) | wet (z:Str) | dry (z:Str) | day (n m:Int)
def Cd.vs:Cd → List Dv
 | .always=>[.str "always"]
 | .above h=>[.str "above",.int h]
 | .below h=>[.str "below",.int h]
 | .wet z=>[.str "wet",.str z]
 | .dry z=>[.str "dry",.str z]
 | .day n m=>[.str "day",.int n,.int m]
def Cd.dv (c:Cd):Dv:=.tup c.vs
def Cd.ok:Cd → Prop
 | .day n m=>0 ≤ n ∧ n < m
 | _=>True
def Cd.so (l:Int) (ws:List Str) (d:Int):Cd → Bool
 | .always=>true
 | .above h=>decide (h < l)
 | .below h=>decide (l < h)
 | .wet z=>decide (z ∈ ws)
 | .dry z=>!decide (z ∈ ws)
 | .day n m=>d % m == n
theorem dH {a b:Str} {p q:Prop} (h:decide (a = b) = false) (hq:q):if decide (V.str a = V.str b) = true then p else q:=by
 rw [if_neg]
 ·exact hq
 ·intro e
  have:=of_decide_eq_true e
  cases this
  simp at h
theorem lO {a b:Str} {p q:Prop} (h:decide (a = b) = true) (hp:p):if decide (V.str a = V.str b) = true then p else q:=by
 rw [if_pos]
 ·exact hp
 ·rw [of_decide_eq_true h]
  exact decide_eq_true rfl
theorem yG {H:Hp} {x:V} (h:Is H Cd.always.dv x):∃ t,x = .ref t ∧ H t = some (.tup [.str "always"]):=by
 obtain ⟨t,us,rfl,o,a,r,rfl,rfl,h0⟩:=h
 cases (show r = [] from h0)
 exact ⟨t,rfl,o⟩
theorem zV {H:Hp} {x:V} {k:Str} {d:Dv} (h:Is H (.tup [.str k,d]) x):∃ t v,x = .ref t ∧ H t = some (.tup [.str k,v]) ∧ Is H d v:=by
 obtain ⟨t,us,rfl,o,a,r,rfl,rfl,v,r',rfl,hv,h0⟩:=h
 cases (show r' = [] from h0)
 exact ⟨t,v,rfl,o,hv⟩
theorem aCG {H:Hp} {x:V} {h:Int} (e:Is H (Cd.above h).dv x):∃ t,x = .ref t ∧ H t = some (.tup [.str "above",.int h]):=by
 obtain ⟨t,v,rfl,o,rfl⟩:=zV e
 exact ⟨t,rfl,o⟩
theorem aCF {H:Hp} {x:V} {h:Int} (e:Is H (Cd.below h).dv x):∃ t,x = .ref t ∧ H t = some (.tup [.str "below",.int h]):=by
 obtain ⟨t,v,rfl,o,rfl⟩:=zV e
 exact ⟨t,rfl,o⟩
theorem aJJ {H:Hp} {x:V} {h:Str} (e:Is H (Cd.wet h).dv x):∃ t,x = .ref t ∧ H t = some (.tup [.str "wet",.str h]):=by
 obtain ⟨t,v,rfl,o,rfl⟩:=zV e
 exact ⟨t,rfl,o⟩
theorem aJK {H:Hp} {x:V} {h:Str} (e:Is H (Cd.dry h).dv x):∃ t,x = .ref t ∧ H t = some (.tup [.str "dry",.str h]):=by
 obtain ⟨t,v,rfl,o,rfl⟩:=zV e
 exact ⟨t,rfl,o⟩
theorem aJL {H:Hp} {x:V} {n m:Int} (e:Is H (Cd.day n m).dv x):∃ t,x = .ref t ∧ H t = some (.tup [.str "day",.int n,.int m]):=by
 obtain ⟨t,us,rfl,o,a,r,rfl,rfl,v,r',rfl,rfl,v2,r2,rfl,rfl,h0⟩:=e
 cases (show r2 = [] from h0)
 exact ⟨t,rfl,o⟩
def aEK (K:PySem.W.Frag):Sp:=sp4 fun x l wv d H Q=>∃ (c:Cd) (ws:List Str) (lv dv:Int) (b:Addr),Is H c.dv x ∧ c.ok ∧ l = .int lv ∧ wv = .ref b ∧ H b = some (.lst (ws.map V.str)) ∧ d = .int dv ∧ Q (.bl (c.so lv ws dv)) H
theorem oV (T:Txt K mg C):Fc P w K mg base 1 "condition_holds" ["condition","level","wet","day"] (aEK K):=by
 refine T.d_p_condition_holds.fc oM aBV (fun f cdv A outer s H vs Q E hr h=>?_)
 obtain ⟨x,l,wv,d,rfl,c,ws,lv,dv,b,hx,ok,rfl,rfl,hb,rfl,q⟩:=h
 refine ⟨_,(aG (@cD _ _ _ _ _ _ _ _ (@bH _ _ _ _ _ _ _ _ iD (@aU _ _ _ _ _ _ _ (@aM _ (K) rfl) (pv 0) aD (fun _ _=>rfl)) cP (@bF _ _ (by decide) (by decide))) (aI (@aT _ _ _ _ (@cB _ _ _ _ _ _ _ _ aBE (pv 1) (@aU _ _ _ _ _ _ _ (@aM _ (K) rfl) (pv 0) aD (fun _ _=>rfl)) (@bF _ _ (by decide) (by decide))))) bE) (aG (@cD _ _ _ _ _ _ _ _ (@bH _ _ _ _ _ _ _ _ iD (@aU _ _ _ _ _ _ _ (@aM _ (K) rfl) (pv 0) aD (fun _ _=>rfl)) cP (@bF _ _ (by decide) (by decide))) (aI (@aT _ _ _ _ (@cB _ _ _ _ _ _ _ _ sP (pv 1) (@aU _ _ _ _ _ _ _ (@aM _ (K) rfl) (pv 0) aD (fun _ _=>rfl)) (@bF _ _ (by decide) (by decide))))) bE) (aG (@cD _ _ _ _ _ _ _ _ (@bH _ _ _ _ _ _ _ _ iD (@aU _ _ _ _ _ _ _ (@aM _ (K) rfl) (pv 0) aD (fun _ _=>rfl)) cP (@bF _ _ (by decide) (by decide))) (aI (@aT _ _ _ _ (@cB _ _ _ _ _ _ _ _ (@eW _ (K) rfl) (@aU _ _ _ _ _ _ _ (@aM _ (K) rfl) (pv 0) aD (fun _ _=>rfl)) (pv 2) (by with_unfolding_all rfl)))) bE) (aG (@cD _ _ _ _ _ _ _ _ (@bH _ _ _ _ _ _ _ _ iD (@aU _ _ _ _ _ _ _ (@aM _ (K) rfl) (pv 0) aD (fun _ _=>rfl)) cP (@bF _ _ (by decide) (by decide))) (aI (@aT _ _ _ _ (@cB _ _ _ _ _ _ _ _ (@pW _ (K) rfl) (@aU _ _ _ _ _ _ _ (@aM _ (K) rfl) (pv 0) aD (fun _ _=>rfl)) (pv 2) (by with_unfolding_all rfl)))) bE) (aG (@cD _ _ _ _ _ _ _ _ (@bH _ _ _ _ _ _ _ _ iD (@aU _ _ _ _ _ _ _ (@aM _ (K) rfl) (pv 0) aD (fun _ _=>rfl)) cP (@bF _ _ (by decide) (by decide))) (aI (@aT _ _ _ _ (@cB _ _ _ _ _ _ _ _ iD (@aR _ _ _ _ _ _ _ _ cG (pv 3) (@aU _ _ _ _ _ _ _ (@aM _ (K) rfl) (pv 0) aD (fun _ _=>rfl))) (@aU _ _ _ _ _ _ _ (@aM _ (K) rfl) (pv 0) aD (fun _ _=>rfl)) (@bF _ _ (by decide) (by decide))))) bE) (aI (@aT _ _ _ _ iC))))))),?_⟩
 cases c with
 | always  =>
  obtain ⟨t,o⟩:=yG hx
  obtain ⟨rfl,o⟩:=o
  refine ⟨_,rfl,t,_,0,.str "always",rfl,rfl,SqT.of o,aH (j:=0) rfl,rfl,_,rfl,dH (by decide +kernel) ?_⟩
  refine ⟨_,rfl,t,_,0,.str "always",rfl,rfl,SqT.of o,aH (j:=0) rfl,rfl,_,rfl,dH (by decide +kernel) ?_⟩
  refine ⟨_,rfl,t,_,0,.str "always",rfl,rfl,SqT.of o,aH (j:=0) rfl,rfl,_,rfl,dH (by decide +kernel) ?_⟩
  refine ⟨_,rfl,t,_,0,.str "always",rfl,rfl,SqT.of o,aH (j:=0) rfl,rfl,_,rfl,dH (by decide +kernel) ?_⟩
  refine ⟨_,rfl,t,_,0,.str "always",rfl,rfl,SqT.of o,aH (j:=0) rfl,rfl,_,rfl,dH (by decide +kernel) ?_⟩
  exact q
 | above h =>
  obtain ⟨t,o⟩:=aCG hx
  obtain ⟨rfl,o⟩:=o
  refine ⟨_,rfl,t,_,0,.str "above",rfl,rfl,SqT.of o,aH (j:=0) rfl,rfl,_,rfl,lO (by decide +kernel) ?_⟩
  exact ⟨_,rfl,_,rfl,t,_,1,.int h,rfl,rfl,SqT.of o,aH (j:=1) rfl,_,_,rfl,rfl,q⟩
 | below h =>
  obtain ⟨t,o⟩:=aCF hx
  obtain ⟨rfl,o⟩:=o
  refine ⟨_,rfl,t,_,0,.str "below",rfl,rfl,SqT.of o,aH (j:=0) rfl,rfl,_,rfl,dH (by decide +kernel) ?_⟩
  refine ⟨_,rfl,t,_,0,.str "below",rfl,rfl,SqT.of o,aH (j:=0) rfl,rfl,_,rfl,lO (by decide +kernel) ?_⟩
  exact ⟨_,rfl,_,rfl,t,_,1,.int h,rfl,rfl,SqT.of o,aH (j:=1) rfl,_,_,rfl,rfl,q⟩
 | wet z =>
  obtain ⟨t,o⟩:=aJJ hx
  obtain ⟨rfl,o⟩:=o
  refine ⟨_,rfl,t,_,0,.str "wet",rfl,rfl,SqT.of o,aH (j:=0) rfl,rfl,_,rfl,dH (by decide +kernel) ?_⟩
  refine ⟨_,rfl,t,_,0,.str "wet",rfl,rfl,SqT.of o,aH (j:=0) rfl,rfl,_,rfl,dH (by decide +kernel) ?_⟩
  refine ⟨_,rfl,t,_,0,.str "wet",rfl,rfl,SqT.of o,aH (j:=0) rfl,rfl,_,rfl,lO (by decide +kernel) ?_⟩
  exact ⟨_,rfl,t,_,1,.str z,rfl,rfl,SqT.of o,aH (j:=1) rfl,_,rfl,b,_,rfl,.inl (SqL.of hb),rfl,dU ws,by rw [gL];exact q⟩
 | dry z =>
  obtain ⟨t,o⟩:=aJK hx
  obtain ⟨rfl,o⟩:=o
  refine ⟨_,rfl,t,_,0,.str "dry",rfl,rfl,SqT.of o,aH (j:=0) rfl,rfl,_,rfl,dH (by decide +kernel) ?_⟩
  refine ⟨_,rfl,t,_,0,.str "dry",rfl,rfl,SqT.of o,aH (j:=0) rfl,rfl,_,rfl,dH (by decide +kernel) ?_⟩
  refine ⟨_,rfl,t,_,0,.str "dry",rfl,rfl,SqT.of o,aH (j:=0) rfl,rfl,_,rfl,dH (by decide +kernel) ?_⟩
  refine ⟨_,rfl,t,_,0,.str "dry",rfl,rfl,SqT.of o,aH (j:=0) rfl,rfl,_,rfl,lO (by decide +kernel) ?_⟩
  exact ⟨_,rfl,t,_,1,.str z,rfl,rfl,SqT.of o,aH (j:=1) rfl,_,rfl,b,_,rfl,.inl (SqL.of hb),rfl,dU ws,by rw [gL];exact q⟩
 | day n m =>
  obtain ⟨t,o⟩:=aJL hx
  obtain ⟨rfl,o⟩:=o
  refine ⟨_,rfl,t,_,0,.str "day",rfl,rfl,SqT.of o,aH (j:=0) rfl,rfl,_,rfl,dH (by decide +kernel) ?_⟩
  refine ⟨_,rfl,t,_,0,.str "day",rfl,rfl,SqT.of o,aH (j:=0) rfl,rfl,_,rfl,dH (by decide +kernel) ?_⟩
  refine ⟨_,rfl,t,_,0,.str "day",rfl,rfl,SqT.of o,aH (j:=0) rfl,rfl,_,rfl,dH (by decide +kernel) ?_⟩
  refine ⟨_,rfl,t,_,0,.str "day",rfl,rfl,SqT.of o,aH (j:=0) rfl,rfl,_,rfl,dH (by decide +kernel) ?_⟩
  refine ⟨_,rfl,t,_,0,.str "day",rfl,rfl,SqT.of o,aH (j:=0) rfl,rfl,_,rfl,lO (by decide +kernel) ?_⟩
  refine ⟨_,rfl,_,rfl,t,_,2,.int m,rfl,rfl,SqT.of o,aH (j:=2) rfl,_,_,rfl,rfl,(by have:=ok.1;have:=ok.2;show 0 < m;omega),_,rfl,t,_,1,.int n,rfl,rfl,SqT.of o,aH (j:=1) rfl,rfl,?_⟩
  rw [kB]
  exact q
def sW (cs:List Cd):Prop:=∀ c ∈ cs,c.ok
def aMN (a g:Str) (cs:List Cd):Dv:=.tup [.str a,.str g,.lst (cs.map Cd.dv)]
theorem zT {H:Hp} {x:V} {a g:Str} {cs:List Cd} (h:Is H (aMN a g cs) x):∃ t l us,x = .ref t ∧ H t = some (.tup [.str a,.str g,.ref l]) ∧ H l = some (.lst us) ∧ IsL H (cs.map Cd.dv) us:=by
 obtain ⟨t,us,rfl,o,v0,r0,rfl,rfl,v1,r1,rfl,rfl,v2,r2,rfl,⟨l,us',rfl,ol,hl⟩,h0⟩:=h
 cases (show r2 = [] from h0)
 exact ⟨t,l,us',rfl,o,ol,hl⟩
def aEC (K:PySem.W.Frag):Sp:=sp4 fun x l wv d H Q=>∃ (a g:Str) (cs:List Cd) (ws:List Str) (lv dv:Int) (b:Addr),Is H (aMN a g cs) x ∧ sW cs ∧ cs.length ≤ 6 ∧ l = .int lv ∧ wv = .ref b ∧ H b = some (.lst (ws.map V.str)) ∧ d = .int dv ∧ Q (.bl (cs.all (Cd.so lv ws dv))) H
theorem aCZ (T:Txt K mg C):Fc P w K mg base 2 "holds" ["decree","level","wet","day"] (aEC K):=by
 have G_p_condition_holds:Fc P w K mg base 1 "condition_holds" ["condition","level","wet","day"] (aEK K):=oV T
 refine T.d_p_holds.fcD aCT aBV (fun f cdv A outer s H vs Q E hr h=>?_)
 obtain ⟨x,l,wv,d,rfl,a,g,cs,ws,lv,dv,b,hx,ok,lc,rfl,rfl,hb,rfl,q⟩:=h
 obtain ⟨t,l,us,rfl,o,ol,hl⟩:=zT hx
 have big:=bY
 have lu:=hl.length
 rw [List.length_map] at lu
 refine ⟨_,(aI (@aT _ _ _ _ (@aZ _ _ _ _ _ _ _ _ _ (@jQ _ rfl) rfl T.n_all iE (aA (@cQ _ _ _ _ _ _ _ _ _ _ _ ["condition","level","wet","day"] 1 [1,2,3] rfl (@bJ _ (K) _ _ _ rfl (@bK _ _ _ _ (@aU _ _ _ _ _ _ _ (@aM _ (K) rfl) (pv 0) aD (fun _ _=>rfl)))) (fun R=>@aN _ _ (0) _ (show List.Nodup (["condition","level","wet","day"]:List Str) by decide +kernel) rfl (Or.inl rfl) (by trivial)) (@bG _ _ (by decide)) (fun R=>cN) (fun R=>(@bN _ _ _ _ _ _ _ _ _ _ G_p_condition_holds (hr.mono (by decide)) (aA (pv 0) (aA (pv 1) (aA (pv 2) (aA (pv 3) aE)))) (by rfl) (by decide) (by rfl) (by rfl))) (by rfl) (by rfl) (by rfl) (by rfl) (by rfl) (by rfl) (by rfl) (by intro _;rfl)) aE) (by decide) (by decide) (by rfl) (by rfl)))),?_⟩
 refine ⟨_,rfl,t,_,2,.ref l,rfl,rfl,SqT.of o,aH (j:=2) rfl,l,rfl,⟨_,SqL.of ol⟩,?_⟩
 refine bV (F:=K) (xs:=us) (by omega) (fun i ys H'=>H' = H ∧ ys = (cs.take i).map fun c=>V.bl (c.so lv ws dv)) ⟨rfl,rfl⟩ ?_ ?_ ?_
 ·rintro i ys H' hi' ⟨rfl,rfl⟩
  exact ⟨SqL.of ol,by rw [List.length_map,List.length_take];omega⟩
 ·rintro i x ys H' K1 K2 hxi ⟨rfl,rfl⟩ k1 k2
  have hil:i < us.length:=(List.getElem?_eq_some_iff.mp hxi).1
  obtain ⟨c,ec⟩:∃ c,cs[i]? = some c:=⟨_,List.getElem?_eq_getElem (by omega)⟩
  obtain ⟨v,ev,iv⟩:=hl.get (show (cs.map Cd.dv)[i]? = some c.dv by rw [List.getElem?_map,ec];rfl)
  rw [hxi] at ev
  cases ev
  refine ⟨_,rfl,_,rfl,_,rfl,_,rfl,_,_,_,_,rfl,c,ws,lv,dv,b,iv,ok c (List.mem_of_getElem? ec),rfl,rfl,hb,rfl,k1 _ _ ⟨rfl,?_⟩⟩
  rw [List.take_add_one,ec,List.map_append]
  rfl
 ·rintro ys H' ⟨rfl,rfl⟩
  intro p hp
  rw [List.take_of_length_le (by omega)]
  refine ⟨p,cs.map (Cd.so lv ws dv),rfl,SqL.of ?_,?_⟩
  ·rw [aB,List.map_map]
   rfl
  ·rw [List.all_map]
   exact dI.of (iH.lst hp) q
theorem aKQ {zs:List Str} {d:Dv} (h:iZ zs d = true):∃ c:Cd,d = c.dv ∧ c.ok:=by
 unfold iZ at h
 split at h
 ·rename_i a
  cases a with
  | str z =>
   have:=List.mem_singleton.mp (of_decide_eq_true (show decide (z ∈ (["always"]:List Str)) = true from h))
   subst this
   exact ⟨.always,rfl,trivial⟩
  | _=>cases h
 ·rename_i a b c
  rw [Bool.and_eq_true] at h
  cases a with
  | str z =>
   have:=List.mem_singleton.mp (of_decide_eq_true (show decide (z ∈ (["day"]:List Str)) = true from h.1))
   subst this
   have h2:=h.2
   unfold xV at h2
   split at h2
   ·rename_i n m
    rw [Bool.and_eq_true,Bool.and_eq_true,Bool.and_eq_true] at h2
    exact ⟨.day n m,rfl,of_decide_eq_true h2.2.1,of_decide_eq_true h2.2.2⟩
   ·cases h2
  | _=>cases h.1
 ·rename_i a b
  cases a with
  | str z =>
   cases e:cH ["above","below"] (.str z) with
   | true =>
    rw [e] at h
    have hb:eU b = true:=h
    cases b with
    | int i =>
     have m:=of_decide_eq_true (show decide (z ∈ (["above","below"]:List Str)) = true from e)
     rcases List.mem_cons.mp m with rfl | m
     ·exact ⟨.above i,rfl,trivial⟩
     ·have:=List.mem_singleton.mp m
      subst this
      exact ⟨.below i,rfl,trivial⟩
    | _=>cases hb
   | false =>
    rw [e] at h
    have h':(cH ["wet","dry"] (.str z) && cH zs b) = true:=h
    rw [Bool.and_eq_true] at h'
    cases b with
    | str y =>
     have m:=of_decide_eq_true (show decide (z ∈ (["wet","dry"]:List Str)) = true from h'.1)
     rcases List.mem_cons.mp m with rfl | m
     ·exact ⟨.wet y,rfl,trivial⟩
     ·have:=List.mem_singleton.mp m
      subst this
      exact ⟨.dry y,rfl,trivial⟩
    | _=>cases h'.2
  | _=>cases h
 ·cases h
theorem aCC {zs:List Str}:∀ {cs:List Dv},(∀ c ∈ cs,iZ zs c = true) → ∃ ks:List Cd,cs = ks.map Cd.dv ∧ sW ks
 | [],_=>⟨[],rfl,fun c m=>by cases m⟩
 | c :: cs,h=>by
  obtain ⟨k,e,ok⟩:=aKQ (h c List.mem_cons_self)
  obtain ⟨ks,es,oks⟩:=aCC fun d m=>h d (List.mem_cons_of_mem _ m)
  refine ⟨k :: ks,by rw [e,es];rfl,fun d m=>?_⟩
  rcases List.mem_cons.mp m with rfl | m
  ·exact ok
  ·exact oks d m
abbrev Dk:=Str × Str × List Cd
def dkD (x:Dk):Dv:=aMN x.1 x.2.1 x.2.2
def qQ (lv:Int) (ws:List Str) (dy:Int) (st:Str → Bool) (x:Dk):Str → Bool :=
 if x.2.2.all (Cd.so lv ws dy) then fun z=>if z = x.2.1 then decide (x.1 = "open") else st z else st
def eM (lv:Int) (ws:List Str) (dy:Int) (xs:List Dk) (st:Str → Bool):Str → Bool:=xs.foldl (qQ lv ws dy) st
def inS (op:List Str):Str → Bool:=fun z=>decide (z ∈ op)
def vE (lv:Int) (ws:List Str) (dy:Int) (gs op:List Str) (xs:List Dk):List Str:=gs.filter (eM lv ws dy xs (inS op))
theorem sY {lv:Int} {ws:List Str} {dy:Int} {xs:List Dk} {x:Dk} {st:Str → Bool}:eM lv ws dy (xs ++ [x]) st = qQ lv ws dy (eM lv ws dy xs st) x:=by
 unfold eM
 rw [List.foldl_append]
 rfl
def lP (gs:List Str) (st:Str → Bool):List (Key × V):=gs.map fun z=>(Sum.inr z,V.bl (st z))
theorem mR (gs:List Str) (st:Str → Bool):(lP gs st).length = gs.length:=List.length_map _
theorem aIS {gs:List Str} {st:Str → Bool} {z:Str} (m:z ∈ gs):eK (lP gs st) (Sum.inr z) = some (.bl (st z)):=by
 induction gs with
 | nil=>cases m
 | cons a r ih =>
  show eK ((Sum.inr a,V.bl (st a)) :: lP r st) (Sum.inr z) = _
  by_cases h:a = z
  ·subst h
   exact dW rfl
  ·rw [dX (fun e=>h (Sum.inr.inj e))]
   rcases List.mem_cons.mp m with e | m'
   ·exact absurd e.symm h
   ·exact ih m'
theorem aIT {gs:List Str} {st:Str → Bool} {g:Str} {b:Bool} (m:g ∈ gs):iT (lP gs st) (Sum.inr g) (.bl b) = lP gs fun z=>if z = g then b else st z:=by
 unfold iT
 have:((lP gs st).any fun kv=>decide (kv.1 = Sum.inr g)) = true:=by
  rw [List.any_eq_true]
  exact ⟨(Sum.inr g,.bl (st g)),List.mem_map.mpr ⟨g,m,rfl⟩,decide_eq_true rfl⟩
 rw [if_pos this]
 unfold lP
 rw [List.map_map]
 refine List.map_congr_left fun z _=>?_
 show (if (Sum.inr z:Key) = Sum.inr g then (Sum.inr z,V.bl b) else (Sum.inr z,V.bl (st z))) = (Sum.inr z,V.bl (if z = g then b else st z))
 by_cases h:z = g
 ·rw [if_pos (by rw [h]),if_pos h]
 ·rw [if_neg (fun e=>h (Sum.inr.inj e)),if_neg h]
def yT (C:Addr):Sp:=sp2 fun x y H Q=>∃ (p:Addr) (fs ds:List Dv) (d:Dv),x = .ref p ∧ LandAt C H p fs ds ∧ Is H d y ∧ dY d = true ∧ pV ((ds.filter aX).map aJ) (fs.map aJ) d = true ∧ ∀ H',aK H H' → Q .non H'
theorem kY (T:Txt K mg C):Fc P w K mg base 6 "check_decrees" ["land","thing"] (yT C):=by
 have G_p_are_decrees:Fc P w K mg base 5 "are_decrees" ["land","thing"] (aHH C):=rV T
 refine T.d_p_check_decrees.fc qD gK (fun f cdv A outer s H vs Q E hr h=>?_)
 obtain ⟨x,y,rfl,p,fs,ds,d,rfl,L,hd,sd,ok,q⟩:=h
 refine ⟨_,(aI (@cD _ _ _ _ _ _ _ _ (@dE _ _ _ _ (@cJ _ _ _ (@bN _ _ _ _ _ _ _ _ _ _ G_p_are_decrees (hr.mono (by decide)) (aA (pv 0) (aA (pv 1) aE)) (by rfl) (by decide) (by rfl) (by rfl)) (by intro _;rfl))) (aI mH) bE)),?_⟩
 refine ⟨_,rfl,_,rfl,_,_,rfl,p,fs,ds,d,rfl,L,hd,sd,fun H1 S1=>⟨_,rfl,?_⟩⟩
 rw [ok]
 exact bC (q H1 S1)
def sp6 (f:V → V → V → V → V → V → Hp → VK → Prop):Sp:=fun vs H Q _=>∃ x y z u w' r,vs = [x,y,z,u,w',r] ∧ f x y z u w' r H Q
theorem aME {f:V → V → V → V → V → V → Hp → VK → Prop}:∀ vs H Q E,sp6 f vs H Q E → vs.length = 6:=fun vs H Q E ⟨x,y,z,u,w',r,e,_⟩=>by rw [e];rfl
structure Decs (H:Hp) (l:Addr) (gs zs:List Str) (xs:List Dk):Prop where
 ex:∃ vs,H l = some (.lst vs) ∧ IsL H (xs.map dkD) vs
 ok:∀ x ∈ xs,GoodX gs zs (dkD x)
 cd:∀ x ∈ xs,sW x.2.2 ∧ x.2.2.length ≤ 6 ∧ x.2.1 ∈ gs
theorem Decs.same {H H':Hp} (S:aK H H') {l:Addr} {gs zs:List Str} {xs:List Dk} (h:Decs H l gs zs xs):Decs H' l gs zs xs:=by
 obtain ⟨vs,e,i⟩:=h.ex
 exact ⟨⟨vs,S _ _ e,IsL.same S _ _ i⟩,h.ok,h.cd⟩
theorem xZ {gs zs:List Str} {xs:List Dk} (h:∀ x ∈ xs,GoodX gs zs (dkD x)) (hl:xs.length ≤ 60):pV gs zs (.lst (xs.map dkD)) = true:=by
 show (decide ((xs.map dkD).length ≤ 60) && (xs.map dkD).all (pZ gs zs)) = true
 rw [decide_eq_true (by rw [List.length_map];exact hl),List.all_eq_true.mpr fun d m=>by obtain ⟨x,mx,rfl⟩:=List.mem_map.mp m;exact (h x mx).ok]
 rfl
theorem aEX {gs zs:List Str} {xs:List Dk} (h:∀ x ∈ xs,GoodX gs zs (dkD x)) (hl:xs.length ≤ 1000):dY (.lst (xs.map dkD)) = true:=by
 show (decide ((xs.map dkD).length ≤ 1000) && fW (xs.map dkD)) = true
 rw [decide_eq_true (by rw [List.length_map];exact hl),pL fun d m=>by obtain ⟨x,mx,rfl⟩:=List.mem_map.mp m;exact (h x mx).sm]
 rfl
theorem aIX {ds:List Dv} (h:(ds.map aJ).Nodup):((ds.filter aX).map aJ).Nodup:=h.sublist (List.Sublist.map _ List.filter_sublist)
def aAN (C:Addr):Sp:=sp6 fun x y z u w' r H Q=>∃ (p l lo lw:Addr) (fs ds:List Dv) (xs:List Dk) (op ws:List Str) (lv dy:Int),x = .ref p ∧ LandAt C H p fs ds ∧ y = .ref l ∧ Decs H l ((ds.filter aX).map aJ) (fs.map aJ) xs ∧ xs.length ≤ 60 ∧
 z = .ref lo ∧ H lo = some (.lst (op.map V.str)) ∧ op.length ≤ 1000 ∧ (∀ z ∈ op,z ∈ (ds.filter aX).map aJ) ∧ u = .int lv ∧ w' = .ref lw ∧ H lw = some (.lst (ws.map V.str)) ∧ r = .int dy ∧
 ∀ (l':Addr) (H':Hp),aK H H' → H l' = none → H' l' = some (.lst ((vE lv ws dy ((ds.filter aX).map aJ) op xs).map V.str)) → Q (.ref l') H'
theorem vI (T:Txt K mg C):Fc P w K mg base 7 "opened_by" ["land","decrees","opened","level","wet","day"] (aAN C):=by
 have G_p_check_decrees:Fc P w K mg base 6 "check_decrees" ["land","thing"] (yT C):=kY T
 have G_p_check_sluices:Fc P w K mg base 3 "check_sluices" ["land","thing"] (uK C):=kX T
 have G_land_p_sluices:Mc P w K mg base 2 C "sluices" ["self"] (nE C fun _ ds=>(ds.filter aX).map aJ):=iR T
 have G_p_holds:Fc P w K mg base 2 "holds" ["decree","level","wet","day"] (aEC K):=aCZ T
 refine T.d_p_opened_by.fc kJ aME (fun f cdv A outer s H vs Q E hr h=>?_)
 obtain ⟨x,y,z,u,w',r,rfl,p,l,lo,lw,fs,ds,xs,op,ws,lv,dy,rfl,L,rfl,dc,l60,rfl,hlo,lop,sub,rfl,rfl,hlw,rfl,q⟩:=h
 have big:=bY
 have hu:=jP hr
 obtain ⟨vs,hl,il⟩:=dc.ex
 have lvs:=il.length
 rw [List.length_map] at lvs
 have nd:=aIX (cS L).2.nd
 have lgs:((ds.filter aX).map aJ).length ≤ 40:=by
  rw [List.length_map]
  exact Nat.le_trans (List.length_filter_le _ _) (cS L).2.l2
 generalize hgs:(ds.filter aX).map aJ = gs at *
 refine ⟨_,(aG (@eI _ _ _ _ (@bN _ _ _ _ _ _ _ _ _ _ G_p_check_decrees (hr.mono (by decide)) (aA (pv 0) (aA (pv 1) aE)) (by rfl) (by decide) (by rfl) (by rfl)) (by rfl)) (aG (@eI _ _ _ _ (@bN _ _ _ _ _ _ _ _ _ _ G_p_check_sluices (hr.mono (by decide)) (aA (pv 0) (aA (pv 2) aE)) (by rfl) (by decide) (by rfl) (by rfl)) (by rfl)) (aG (@aY _ _ (6) _ _ _ _ kJ.nd rfl (Or.inr rfl) (@cE _ _ _ _ _ _ _ _ _ (@cZ _ rfl) rfl T.n_dict eX (aA (@cQ _ _ _ _ _ _ _ _ _ _ _ ["name","opened"] 1 [2] rfl (@bJ _ (K) _ _ _ rfl (@bK _ _ _ _ (@gH _ _ _ _ _ _ _ _ _ _ _ T.cl_Land G_land_p_sluices (hr.mono (by decide)) (pv 0) (by rfl)))) (fun R=>@aN _ _ (0) _ (show List.Nodup (["name","opened"]:List Str) by decide +kernel) rfl (Or.inl rfl) (by trivial)) (@bG _ _ (by decide)) (fun R=>cN) (fun R=>(@cU _ _ _ _ _ (aA (pv 0) (aA (@cB _ _ _ _ _ _ _ _ (@eW _ (K) rfl) (pv 0) (pv 1) (by with_unfolding_all rfl)) aE)))) (by rfl) (by rfl) (by rfl) (by rfl) (by rfl) (by rfl) (by rfl) (by intro _;rfl)) aE) (by decide) (by decide) (by rfl) (by rfl)) (by rfl) (by trivial)) (aG (@eC _ _ _ _ _ _ _ _ PassesOwn.never rfl (@bJ _ (K) _ _ _ rfl (@bK _ _ _ _ (pv 1))) (@aN _ _ (7) _ kJ.nd rfl (Or.inl rfl) (by trivial)) (aI (@cD _ _ _ _ _ _ _ _ (@cJ _ _ _ (@bN _ _ _ _ _ _ _ _ _ _ G_p_holds (hr.mono (by decide)) (aA (pv 7) (aA (pv 3) (aA (pv 4) (aA (pv 5) aE)))) (by rfl) (by decide) (by rfl) (by rfl)) (by intro _;rfl)) (aI (@nJ _ _ _ _ _ _ _ _ _ hu (pv 6) (@aU _ _ _ _ _ _ _ (@aM _ (K) rfl) (pv 7) aD (fun _ _=>rfl)) (@cB _ _ _ _ _ _ _ _ iD (@aU _ _ _ _ _ _ _ (@aM _ (K) rfl) (pv 7) aD (fun _ _=>rfl)) cP (@bF _ _ (by decide) (by decide))) rfl)) bE)) (by intro _;rfl)) (aI (@aT _ _ _ _ (@cQ _ _ _ _ _ _ _ _ _ _ _ ["name","stand_open"] 1 [6] rfl (@aEN _ _ _ _ (pv 6)) (fun R=>@aN _ _ (0) _ (show List.Nodup (["name","stand_open"]:List Str) by decide +kernel) rfl (Or.inl rfl) (by trivial)) (@bG _ _ (by decide)) (fun R=>@kU _ _ _ (@cJ _ _ _ (@jD _ _ _ _ _ _ hu (pv 1) (pv 0) (fun _ _=>rfl)) (by intro _;rfl))) (fun R=>(pv 0)) (by rfl) (by rfl) (by rfl) (by rfl) (by rfl) (by rfl) (by rfl) (by intro _;rfl)))))))),?_⟩
 refine ⟨_,rfl,_,rfl,_,_,rfl,p,fs,ds,.lst (xs.map dkD),rfl,L,⟨l,vs,rfl,hl,il⟩,aEX dc.ok (by omega),by rw [hgs];exact xZ dc.ok l60,fun H1 S1=>?_⟩
 refine ⟨_,rfl,_,rfl,_,_,rfl,p,lo,fs,ds,op,rfl,L.same S1,rfl,S1 _ _ hlo,lop,by rw [hgs];exact sub,fun H2 S2=>?_⟩
 have T2:=S1.trans S2
 obtain ⟨dx,d1,d2,hx,_⟩:=(L.same T2).ex
 refine ⟨_,rfl,p,dx,_,rfl,hx,eF _ _ (by decide +kernel) (by decide +kernel),_,rfl,p,fs,ds,rfl,L.same T2,fun ls H3 S3 fls hls=>?_⟩
 have hls:H3 ls = some (.lst (gs.map V.str)):=by rw [← hgs];exact hls
 have T3:=T2.trans S3
 refine ⟨ls,rfl,⟨_,SqL.of hls⟩,?_⟩
 refine bV (F:=K) (xs:=gs.map V.str) (by rw [List.length_map];omega) (fun i ys H'=>aK H3 H' ∧ cC H' ys ((lP gs (inS op)).take i)) ⟨aK.refl _,cC.nil _⟩ ?_ ?_ ?_
 ·rintro i ys H' hi' ⟨S,pr⟩
  exact ⟨SqL.of (S _ _ hls),by have:=pr.len;rw [List.length_take] at this;omega⟩
 ·rintro i xv ys H' K1 K2 hxi ⟨S,pr⟩ k1 k2
  obtain ⟨z,ez⟩:∃ z,gs[i]? = some z:=by
   have:=(List.getElem?_eq_some_iff.mp hxi).1
   rw [List.length_map] at this
   exact ⟨_,List.getElem?_eq_getElem this⟩
  rw [List.getElem?_map,ez] at hxi
  cases hxi
  refine ⟨_,rfl,_,rfl,_,rfl,lo,_,rfl,.inl (SqL.of ((T3.trans S) _ _ hlo)),rfl,dU op,?_⟩
  rw [gL]
  refine ⟨aQ rfl,fun t ht=>k1 _ _ ⟨S.trans (aK.upd ht),?_⟩⟩
  have e:(lP gs (inS op))[i]? = some (Sum.inr z,.bl (decide (z ∈ op))):=by
   unfold lP
   rw [List.getElem?_map,ez]
   rfl
  rw [List.take_add_one,e]
  exact pr.snoc (k:=Sum.inr z) ht
 rintro ys H4 ⟨S4,pr⟩
 rw [List.length_map,List.take_of_length_le (by rw [mR];exact Nat.le_refl _)] at pr
 intro p4 hp4
 have S5:=aK.upd (o:=.lst ys) hp4
 refine ⟨p4,ys,lP gs (inS op),rfl,SqL.of aB,pr.same S5,by rw [mR];omega,?_,fun d hd=>?_⟩
 ·have e:(lP gs (inS op)).map (·.1) = gs.map (Sum.inr:Str → Key):=by unfold lP;rw [List.map_map];rfl
  rw [e,mL]
  exact nd
 have T5:=T3.trans (S4.trans S5)
 have fd:H d = none:=T5.free hd
 have S6:=aK.upd (o:=.dK (lP gs (inS op))) hd
 have T6:=T5.trans S6
 have hd6:upd (upd H4 p4 (.lst ys)) d (.dK (lP gs (inS op))) d = some (.dK (lP gs (inS op))):=aB
 generalize upd (upd H4 p4 (.lst ys)) d (.dK (lP gs (inS op))) = H6 at T6 hd6
 clear S6 T5 S5 pr S4 T3 S3 hls hx T2 S2 S1 hd hp4
 refine ⟨_,rfl,l,rfl,⟨_,SqL.of (T6 _ _ hl)⟩,?_⟩
 refine dQ (K:=K) (a:=l) (xs:=vs) (fun i σ H'=>∃ v7,σ = [some (.ref p),some (.ref l),some (.ref lo),some (.int lv),some (.ref lw),some (.int dy),some (.ref d),v7] ∧ H' d = some (.dK (lP gs (eM lv ws dy (xs.take i) (inS op)))) ∧ aK H H')
  ⟨_,rfl,hd6,T6⟩ (fun i σ H' _ ⟨_,_,_,S⟩=>SqL.of (S _ _ hl)) ?_ ?_
 ·rintro i xv σ H' hxi ⟨v7,rfl,hd',S⟩
  have hil:i < vs.length:=(List.getElem?_eq_some_iff.mp hxi).1
  obtain ⟨x,ex⟩:∃ x,xs[i]? = some x:=⟨_,List.getElem?_eq_getElem (by omega)⟩
  obtain ⟨v,ev,iv0⟩:=il.get (show (xs.map dkD)[i]? = some (dkD x) by rw [List.getElem?_map,ex];rfl)
  rw [hxi] at ev
  cases ev
  have iv:=Is.same S _ _ iv0
  obtain ⟨okc,l6,mg'⟩:=dc.cd x (List.mem_of_getElem? ex)
  obtain ⟨a,g,ks⟩:=x
  obtain ⟨t,lc,us,rfl,o,_,_⟩:=zT iv
  refine ⟨_,rfl,_,rfl,_,rfl,_,rfl,_,_,_,_,rfl,a,g,ks,ws,lv,dy,lw,iv,okc,l6,rfl,rfl,S _ _ hlw,rfl,_,rfl,?_⟩
  have es:eM lv ws dy (xs.take (i + 1)) (inS op) = qQ lv ws dy (eM lv ws dy (xs.take i) (inS op)) (a,g,ks):=by
   rw [List.take_add_one,ex]
   exact sY
  cases hh:ks.all (Cd.so lv ws dy) with
  | false =>
   refine bC ⟨_,rfl,?_,S⟩
   rw [es]
   unfold qQ
   rw [if_neg (by show ¬ ks.all (Cd.so lv ws dy) = true;rw [hh];exact Bool.false_ne_true)]
   exact hd'
  | true =>
   refine bW ⟨_,rfl,t,_,0,.str a,rfl,rfl,SqT.of o,aH (j:=0) rfl,rfl,_,rfl,_,rfl,t,_,1,.str g,rfl,rfl,SqT.of o,aH (j:=1) rfl,d,_,rfl,aCL.k (k:=Sum.inr g) hd' (by rw [mR];omega),?_⟩
   refine ⟨_,rfl,?_,S.over fd⟩
   rw [aB,es]
   have e2:decide (V.str a = V.str "open") = decide (a = "open"):=by
    rw [Bool.eq_iff_iff,decide_eq_true_iff,decide_eq_true_iff]
    exact ⟨fun h=>V.str.inj h,fun h=>by rw [h]⟩
   rw [e2,aIT mg']
   unfold qQ
   rw [if_pos (show ks.all (Cd.so lv ws dy) = true from hh)]
 rintro σ H7 ⟨v7,rfl,hd7,S7⟩
 rw [List.take_of_length_le (by omega)] at hd7
 refine ⟨_,rfl,d,_,rfl,hd7,fun o=>?_⟩
 have S8:aK H (upd H7 d (.frz o (.dK (lP gs (eM lv ws dy xs (inS op)))))):=S7.over fd
 refine yD (by rw [mR];omega) (fun i ys H'=>upd H7 d (.frz o (.dK (lP gs (eM lv ws dy xs (inS op))))) = H' ∧ ys = ((gs.take i).filter (eM lv ws dy xs (inS op))).map V.str) ⟨rfl,rfl⟩ ?_ ?_ ?_
 ·rintro i ys H' hi' ⟨rfl,rfl⟩
  refine ⟨aB,?_⟩
  rw [List.length_map]
  have:=List.length_filter_le (eM lv ws dy xs (inS op)) (gs.take i)
  rw [List.length_take] at this
  omega
 ·rintro i kv ys H' K1 K2 hk ⟨rfl,rfl⟩ k1 k2
  obtain ⟨z,ez⟩:∃ z,gs[i]? = some z:=by
   have:=(List.getElem?_eq_some_iff.mp hk).1
   rw [mR] at this
   exact ⟨_,List.getElem?_eq_getElem this⟩
  unfold lP at hk
  rw [List.getElem?_map,ez] at hk
  cases hk
  have mz:=List.mem_of_getElem? ez
  refine ⟨_,rfl,_,rfl,d,.bl (eM lv ws dy xs (inS op) z),rfl,.inl ⟨_,Sum.inr z,.inr ⟨o,aB⟩,rfl,(aIS mz).symm⟩,_,rfl,?_⟩
  cases hz:eM lv ws dy xs (inS op) z with
  | false =>
   refine bC (k2 _ ⟨rfl,?_⟩)
   rw [List.take_add_one,ez,List.filter_append]
   show _ = ((_ ++ [z].filter _).map V.str)
   rw [List.filter_cons_of_neg (by rw [hz];exact Bool.false_ne_true),List.filter_nil,List.append_nil]
  | true =>
   refine bW ⟨_,rfl,k1 _ _ ⟨rfl,?_⟩⟩
   rw [List.take_add_one,ez,List.filter_append]
   show _ = ((_ ++ [z].filter _).map V.str)
   rw [List.filter_cons_of_pos (by exact hz),List.filter_nil,List.map_append]
   rfl
 ·rintro ys H' ⟨rfl,rfl⟩
  rw [mR,List.take_of_length_le (Nat.le_refl _)]
  intro l' hl'
  exact q l' _ (S8.trans (aK.upd hl')) (S8.free hl') aB
open Mt22 MtF
theorem rR {q:Str → Bool} {fs:List Dv} {i:Nat} {e:Dv} (ee:fs[i]? = some e):(((fs.take (i + 1)).map aJ).filter q).map V.str = (((fs.take i).map aJ).filter q).map V.str ++ (if q (aJ e) = true then [V.str (aJ e)] else []):=by
 rw [List.take_add_one,ee,List.map_append,List.filter_append,List.map_append]
 show _ ++ (List.filter q [aJ e]).map V.str = _
 by_cases h:q (aJ e) = true
 ·rw [if_pos h,List.filter_cons_of_pos h];rfl
 ·rw [if_neg h,List.filter_cons_of_neg h];rfl
open Mt22 MtF
def nA (h:Option Int) (g lv:Int) (was:Bool):Bool :=
 match h with
 | some c=>decide (c < lv) || (was && !decide (c = g))
 | none=>was
def aEB:Sp:=sp4 fun x y z u H Q=>∃ (h:Option Int) (g lv:Int) (b:Bool),x = vD h ∧ y = .int g ∧ z = .int lv ∧ u = .bl b ∧ Q (.bl (nA h g lv b)) H
theorem aBH (T:Txt K mg C):Fc P w K mg base 1 "is_wet" ["height","ground","level","was_wet"] aEB:=by
 refine T.d_p_is_wet.fc aAU aBV (fun f cdv A outer s H vs Q E hr h=>?_)
 obtain ⟨x,y,z,u,rfl,h,g,lv,b,rfl,rfl,rfl,rfl,q⟩:=h
 refine ⟨_,(aG (@cD _ _ _ _ _ _ _ _ (@PW.pt _ _ _ (@rS _ _ _ _ _ _ _ (@bH _ _ _ _ _ _ _ _ pP (pv 0) jT (@bF _ _ (by decide) (by decide))) (@pN _ _ _ _ (@bH _ _ _ _ _ _ _ _ sP (pv 0) (pv 2) (@bF _ _ (by decide) (by decide)))))) (aI (@aT _ _ _ _ iC)) bE) (aI (@aT _ _ _ _ (@cL _ _ _ _ _ _ _ (pv 3) (@cX _ _ _ _ _ (@cB _ _ _ _ _ _ _ _ oS (pv 0) (pv 1) (@bF _ _ (by decide) (by decide)))))))),?_⟩
 refine ⟨_,rfl,rfl,_,rfl,?_⟩
 cases h with
 | none =>
  refine bC ?_
  refine ⟨_,rfl,_,rfl,?_⟩
  cases b with
  | false=>exact bC q
  | true=>exact bW ⟨_,rfl,_,rfl,rfl,q⟩
 | some c =>
  refine bW ⟨_,rfl,_,rfl,_,_,rfl,rfl,_,rfl,?_⟩
  have q:Q (.bl (decide (c < lv) || (b && !decide (c = g)))) H:=q
  cases h1:decide (c < lv) with
  | true =>
   rw [h1] at q
   exact bW q
  | false =>
   rw [h1] at q
   refine bC ⟨_,rfl,_,rfl,?_⟩
   cases b with
   | false=>exact bC q
   | true =>
    refine bW ⟨_,rfl,_,rfl,rfl,?_⟩
    have e:decide (V.int c = V.int g) = decide (c = g):=by
     rw [Bool.eq_iff_iff,decide_eq_true_iff,decide_eq_true_iff]
     exact ⟨fun h=>V.int.inj h,fun h=>by rw [h]⟩
    show Q (.bl (!decide (V.int c = V.int g))) H
    rw [e]
    exact q
def aGN (fs ds:List Dv) (op:List Str) (lv:Int) (bf:List Str):List Str:=(fs.map aJ).filter fun z=>nA (flo fs ds op z) (aW fs z) lv (decide (z ∈ bf))
def aHA (C:Addr):Sp:=sp4 fun x y z u H Q=>∃ (p l lb:Addr) (fs ds:List Dv) (op bf:List Str) (lv:Int),x = .ref p ∧ LandAt C H p fs ds ∧ y = .ref l ∧ H l = some (.lst (op.map V.str)) ∧ op.length ≤ 1000 ∧ (∀ z ∈ op,z ∈ (ds.filter aX).map aJ) ∧ z = .int lv ∧ u = .ref lb ∧ H lb = some (.lst (bf.map V.str)) ∧
 ∀ (lr:Addr) (H':Hp),aK H H' → H lr = none → H' lr = some (.lst ((aGN fs ds op lv bf).map V.str)) → Q (.ref lr) H'
theorem tO (T:Txt K mg C):Fc P w K mg base 6 "wet_fields" ["land","opened","level","before"] (aHA C):=by
 have G_p_flood_heights:Fc P w K mg base 5 "flood_heights" ["land","opened"] (aED C):=qH T
 have G_p_is_wet:Fc P w K mg base 1 "is_wet" ["height","ground","level","was_wet"] aEB:=aBH T
 have G_land_p_ground:Mc P w K mg base 1 C "ground" ["self","field"] (uJ C):=mJ T
 refine T.d_p_wet_fields.fc nW aBV (fun f cdv A outer s H vs Q E hr h=>?_)
 obtain ⟨x,y,z,u,rfl,p,l,lb,fs,ds,op,bf,lv,rfl,L,rfl,hl,lo,sub,rfl,rfl,hlb,q⟩:=h
 have big:=bY
 have hu:=jP hr
 have gf:=(cS L).1
 have f2:=gf.l2
 obtain ⟨dx,d1,d2,hx,_⟩:=L.ex
 refine ⟨_,(aG (@aY _ _ (4) _ _ _ _ nW.nd rfl (Or.inr rfl) (@bN _ _ _ _ _ _ _ _ _ _ G_p_flood_heights (hr.mono (by decide)) (aA (pv 0) (aA (pv 1) aE)) (by rfl) (by decide) (by rfl) (by rfl)) (by rfl) (by trivial)) (aI (@aT _ _ _ _ (@cQ _ _ _ _ _ _ _ _ _ _ _ ["name","land","level","before","heights"] 1 [0,2,3,4] rfl (@aEN _ _ _ _ (pv 4)) (fun R=>@aN _ _ (0) _ (show List.Nodup (["name","land","level","before","heights"]:List Str) by decide +kernel) rfl (Or.inl rfl) (by trivial)) (@bG _ _ (by decide)) (fun R=>@kU _ _ _ (@cJ _ _ _ (@bN _ _ _ _ _ _ _ _ _ _ G_p_is_wet (hr.mono (by decide)) (aA (@jD _ _ _ _ _ _ hu (pv 4) (pv 0) (fun _ _=>rfl)) (aA (@aCX _ _ _ _ _ _ _ _ _ _ _ _ _ _ T.cl_Land G_land_p_ground (hr.mono (by decide)) (pv 1) (aA (pv 0) aE) (by rfl) (by rfl) (by rfl)) (aA (pv 2) (aA (@cB _ _ _ _ _ _ _ _ (@eW _ (K) rfl) (pv 0) (pv 3) (by with_unfolding_all rfl)) aE)))) (by rfl) (by decide) (by rfl) (by rfl)) (by intro _;rfl))) (fun R=>(pv 0)) (by rfl) (by rfl) (by rfl) (by rfl) (by rfl) (by rfl) (by rfl) (by intro _;rfl))))),?_⟩
 refine ⟨_,rfl,_,rfl,_,_,rfl,p,l,fs,ds,op,rfl,L,rfl,hl,lo,sub,fun dh H1 S1 fdh hdh=>?_⟩
 have val:∀ d ∈ fs,eK (iG fs (flo fs ds op)) (Sum.inr (aJ d)) = some (vD (flo fs ds op (aJ d))):=fun d m=>kG (f:=fun d=>vD (flo fs ds op (aJ d))) gf.nd m
 have lkv:(iG fs (flo fs ds op)).length = fs.length:=List.length_map ..
 refine ⟨_,rfl,dh,_,rfl,hdh,fun o=>?_⟩
 have S2:aK H (upd H1 dh (.frz o (.dK (iG fs (flo fs ds op))))):=S1.over fdh
 refine yD (by omega) (fun i ys H'=>upd H1 dh (.frz o (.dK (iG fs (flo fs ds op)))) = H' ∧ ys = (((fs.take i).map aJ).filter fun z=>nA (flo fs ds op z) (aW fs z) lv (decide (z ∈ bf))).map V.str) ⟨rfl,rfl⟩ ?_ ?_ ?_
 ·rintro i ys H' hi' ⟨rfl,rfl⟩
  refine ⟨aB,?_⟩
  rw [List.length_map]
  have:=List.length_filter_le (fun z=>nA (flo fs ds op z) (aW fs z) lv (decide (z ∈ bf))) ((fs.take i).map aJ)
  rw [List.length_map,List.length_take] at this
  omega
 ·rintro i kv ys H' K1 K2 hk ⟨rfl,rfl⟩ k1 k2
  obtain ⟨e,ee⟩:∃ e,fs[i]? = some e:=⟨_,List.getElem?_eq_getElem (by have:=(List.getElem?_eq_some_iff.mp hk).1;omega)⟩
  unfold iG at hk
  rw [List.getElem?_map,ee] at hk
  cases hk
  have me:=List.mem_of_getElem? ee
  obtain ⟨z,g,du,rfl,hz,_⟩:=bP (gf.all e me)
  have eg:aW fs z = g:=mS gf.nd me
  refine ⟨_,rfl,_,rfl,dh,_,rfl,.inl ⟨_,Sum.inr z,.inr ⟨o,aB⟩,rfl,(val _ me).symm⟩,_,rfl,p,dx,_,rfl,S2 _ _ hx,eF _ _ (by decide +kernel) (by decide +kernel),_,rfl,_,_,rfl,p,fs,ds,z,g,du,rfl,rfl,L.same S2,me,?_⟩
  refine ⟨_,rfl,_,rfl,_,rfl,lb,_,rfl,.inl (SqL.of (S2 _ _ hlb)),rfl,dU bf,?_⟩
  refine ⟨_,_,_,_,rfl,flo fs ds op z,g,lv,inV (.str z) (bf.map V.str),rfl,rfl,rfl,rfl,_,rfl,?_⟩
  rw [gL]
  refine mP (fun h1=>⟨_,rfl,k1 _ _ ⟨rfl,?_⟩⟩) (fun h1=>k2 _ ⟨rfl,?_⟩)
  ·rw [rR ee,if_pos (by show nA (flo fs ds op z) (aW fs z) lv (decide (z ∈ bf)) = true;rw [eg];exact h1)];rfl
  ·rw [rR ee,if_neg (by show ¬ nA (flo fs ds op z) (aW fs z) lv (decide (z ∈ bf)) = true;rw [eg];exact h1),List.append_nil]
 ·rintro ys H' ⟨rfl,rfl⟩
  rw [lkv,List.take_of_length_le (Nat.le_refl _)]
  intro lr hlr
  exact q lr _ (S2.trans (aK.upd hlr)) (S2.free hlr) aB
def noL (H H':Hp):Hp:=fun b=>match H b with
 | some (.lst _)=>none
 | _=>H' b
theorem pR {H H':Hp} {b:Addr} {o:HO} (e:H' b = some o) (h:∀ xs,H b ≠ some (.lst xs)):noL H H' b = some o:=by
 unfold noL
 split
 ·rename_i xs hx
  exact absurd hx (h xs)
 ·exact e
theorem pQ {H H':Hp} {b:Addr} {o:HO} (e:H' b = some o) (h:H b = none):noL H H' b = some o:=pR e fun xs z=>by rw [h] at z;cases z
theorem zI {H H':Hp} {b:Addr} {o:HO} (e:noL H H' b = some o):H' b = some o ∧ ∀ xs,H b ≠ some (.lst xs):=by
 unfold noL at e
 split at e
 ·cases e
 ·rename_i h
  exact ⟨e,fun xs=>h xs⟩
theorem vS {H H':Hp}:aK (noL H H') H':=fun b o e=>(zI e).1
theorem aBQ {H H' H'':Hp} (S:aK H' H''):aK (noL H H') (noL H H''):=fun b o e=>pR (S _ _ (zI e).1) (zI e).2
theorem aID {H H':Hp} (S:aK H H'):mZ H (noL H H'):=fun b xs e=>pR (S _ _ e) fun ys z=>by rw [e] at z;cases z
theorem aJI (cs:List Cd):rG (cs.map Cd.dv) = true:=eG fun d m=>by
 obtain ⟨c,_,rfl⟩:=List.mem_map.mp m
 cases c <;> rfl
def aAQ:Sp:=sp1 fun x H Q=>∃ (l:Addr) (gs zs:List Str) (xs:List Dk),x = .ref l ∧ Decs H l gs zs xs ∧ xs.length ≤ 1000 ∧ ∀ (l':Addr) (H':Hp),aK H H' → H l' = none → Decs (noL H H') l' gs zs xs → Q (.ref l') H'
theorem aBI (T:Txt K mg C):Fc P w K mg base 1 "copied" ["decrees"] aAQ:=by
 refine T.d_p_copied.fc aAV lM (fun f cdv A outer s H vs Q E hr h=>?_)
 obtain ⟨x,rfl,l,gs,zs,xs,rfl,dc,lx,q⟩:=h
 have big:=bY
 obtain ⟨us,hl,il⟩:=dc.ex
 have lus:=il.length
 rw [List.length_map] at lus
 refine ⟨_,(aI (@aT _ _ _ _ (@cQ _ _ _ _ _ _ _ _ _ _ _ ["decree"] 1 [] rfl (@bJ _ (K) _ _ _ rfl (@bK _ _ _ _ (pv 0))) (fun R=>@aN _ _ (0) _ (show List.Nodup (["decree"]:List Str) by decide +kernel) rfl (Or.inl rfl) (by trivial)) (@bG _ _ (by decide)) (fun R=>cN) (fun R=>(@cU _ _ _ _ _ (aA (@aU _ _ _ _ _ _ _ (@aM _ (K) rfl) (pv 0) aD (fun _ _=>rfl)) (aA (@aU _ _ _ _ _ _ _ (@aM _ (K) rfl) (pv 0) aD (fun _ _=>rfl)) (aA (@cE _ _ _ _ _ _ _ _ _ (@lQ _ (K) rfl) rfl T.n_list dG (aA (@aU _ _ _ _ _ _ _ (@aM _ (K) rfl) (pv 0) aD (fun _ _=>rfl)) aE) (by decide) (by decide) (by rfl) (by rfl)) aE))))) (by rfl) (by rfl) (by rfl) (by rfl) (by rfl) (by rfl) (by rfl) (by intro _;rfl)))),?_⟩
 refine ⟨_,rfl,l,rfl,⟨_,SqL.of hl⟩,?_⟩
 refine bV (F:=K) (xs:=us) (by omega) (fun i ys H'=>aK H H' ∧ IsL (noL H H') ((xs.take i).map dkD) ys) ⟨aK.refl _,rfl⟩ ?_ ?_ ?_
 ·rintro i ys H' hi' ⟨S,iy⟩
  have:=iy.length
  rw [List.length_map,List.length_take] at this
  exact ⟨SqL.of (S _ _ hl),by omega⟩
 ·rintro i xv ys H' K1 K2 hx ⟨S,iy⟩ k1 k2
  have hil:i < us.length:=(List.getElem?_eq_some_iff.mp hx).1
  obtain ⟨x,ex⟩:∃ x,xs[i]? = some x:=⟨_,List.getElem?_eq_getElem (by omega)⟩
  obtain ⟨v,ev,iv⟩:=il.get (show (xs.map dkD)[i]? = some (dkD x) by rw [List.getElem?_map,ex];rfl)
  rw [hx] at ev
  cases ev
  obtain ⟨a,g,cs⟩:=x
  obtain ⟨t,lc,cus,rfl,o,hlc,ic⟩:=zT iv
  refine ⟨_,rfl,t,_,0,.str a,rfl,rfl,SqT.of (S _ _ o),aH (j:=0) rfl,_,rfl,t,_,1,.str g,rfl,rfl,SqT.of (S _ _ o),aH (j:=1) rfl,_,rfl,t,_,2,.ref lc,rfl,rfl,SqT.of (S _ _ o),aH (j:=2) rfl,lc,cus,rfl,.inl (SqL.of (S _ _ hlc)),fun l1 hl1=>?_⟩
  have A1:=aK.upd (o:=.lst cus) hl1
  refine ⟨aQ rfl,fun pt hpt=>?_⟩
  have A2:=aK.upd (o:=.tup [.str a,.str g,.ref l1]) hpt
  have SS:=S.trans (A1.trans A2)
  refine k1 _ _ ⟨SS,?_⟩
  rw [List.take_add_one,ex,List.map_append]
  refine IsL.snoc ?_ (IsL.same (aBQ (A1.trans A2)) _ _ iy)
  exact ⟨pt,_,rfl,pQ aB ((S.trans A1).free hpt),_,_,rfl,rfl,_,_,rfl,rfl,_,_,rfl,⟨l1,cus,rfl,pQ (A2 _ _ aB) (S.free hl1),IsL.keep (aID SS) _ _ (aJI _) ic⟩,rfl⟩
 ·rintro ys H' ⟨S,iy⟩
  rw [List.take_of_length_le (by omega)] at iy
  intro l' hl'
  have A:=aK.upd (o:=.lst ys) hl'
  exact q l' _ (S.trans A) (S.free hl') ⟨⟨ys,pQ aB (S.free hl'),IsL.same (aBQ A) _ _ iy⟩,dc.ok,dc.cd⟩
mutual
def noD:Dv → Bool
 | .dct _ _=>false
 | .lst ds=>xC ds
 | .tup ds=>xC ds
 | _=>true
def xC:List Dv → Bool
 | []=>true
 | d :: ds=>noD d && xC ds
end
def aKJ:HO → Bool
 | .lst _=>true
 | .tup _=>true
 | _=>false
def gO (H H':Hp):Prop:=∀ b o,H b = some o → aKJ o = true → H' b = some o
mutual
theorem Is.sameLT {H H':Hp} (S:gO H H'):∀ (d:Dv) (v:V),noD d = true → Is H d v → Is H' d v
 | .non,_,_,h=>h
 | .bl _,_,_,h=>h
 | .int _,_,_,h=>h
 | .str _,_,_,h=>h
 | .lst ds,_,f,⟨a,vs,e,o,h⟩=>⟨a,vs,e,S _ _ o rfl,IsL.sameLT S ds vs f h⟩
 | .tup ds,_,f,⟨a,vs,e,o,h⟩=>⟨a,vs,e,S _ _ o rfl,IsL.sameLT S ds vs f h⟩
 | .dct ks ds,_,f,_=>by cases f
theorem IsL.sameLT {H H':Hp} (S:gO H H'):∀ (ds:List Dv) (vs:List V),xC ds = true → IsL H ds vs → IsL H' ds vs
 | [],_,_,h=>h
 | d :: ds,_,f,⟨v,r,e,h,t⟩=>⟨v,r,e,Is.sameLT S d v (Bool.and_eq_true_iff.mp f).1 h,IsL.sameLT S ds r (Bool.and_eq_true_iff.mp f).2 t⟩
end
theorem jE:∀ {ds:List Dv},(∀ d ∈ ds,noD d = true) → xC ds = true
 | [],_=>rfl
 | d :: ds,h=>by
  rw [xC,h d List.mem_cons_self,jE fun e m=>h e (List.mem_cons_of_mem _ m)]
  rfl
theorem zS (x:Dk):noD (dkD x) = true:=by
 show (true && (true && (xC (x.2.2.map Cd.dv) && true))) = true
 rw [jE fun d m=>by obtain ⟨c,_,rfl⟩:=List.mem_map.mp m;cases c <;> rfl]
 rfl
theorem Decs.sameLT {H H':Hp} (S:gO H H') {l:Addr} {gs zs:List Str} {xs:List Dk} (h:Decs H l gs zs xs):Decs H' l gs zs xs:=by
 obtain ⟨vs,e,i⟩:=h.ex
 exact ⟨⟨vs,S _ _ e rfl,IsL.sameLT S _ _ (jE fun d m=>by obtain ⟨x,_,rfl⟩:=List.mem_map.mp m;exact zS x) i⟩,h.ok,h.cd⟩
theorem sD {d:Dv} (h:cM d = true):noD d = true:=by
 obtain ⟨z,g,e,rfl,_⟩:=bP h
 rfl
theorem wD {zs:List Str} {d:Dv} (h:dA zs d = true):noD d = true:=by
 obtain ⟨n,a,b,c,r,s,rfl,_,_,_,_,_,_,hs⟩:=bI h
 cases s with
 | non=>rfl
 | int i=>rfl
 | _=>cases hs
def aNL:List Str:=["on_land","own_decrees","open_names","wet_names","day_count","wet_counts"]
structure SeaF (F:List (Str × V)) (pl ld lo lw dw:Addr) (n:Int):Prop where
 f1:F.lookup ("on_land":Str) = some (.ref pl)
 f2:F.lookup ("own_decrees":Str) = some (.ref ld)
 f3:F.lookup ("open_names":Str) = some (.ref lo)
 f4:F.lookup ("wet_names":Str) = some (.ref lw)
 f5:F.lookup ("day_count":Str) = some (.int n)
 f6:F.lookup ("wet_counts":Str) = some (.ref dw)
 no:∀ m:Str,¬ m ∈ aNL → F.lookup m = none
 len:F.length ≤ 6
theorem oP (f:Str) (v:V):∀ F:List (Str × V),(∃ u,F.lookup f = some u) → (cF f v F).length = F.length
 | [],⟨u,h⟩=>by cases h
 | (g,x) :: F,h=>by
  unfold cF
  by_cases e:g = f
  ·subst e
   simp
  ·have hb:(f == g) = false:=by rw [beq_eq_false_iff_ne];exact fun z=>e z.symm
   have h':∃ u,F.lookup f = some u:=by
    obtain ⟨u,hu⟩:=h
    rw [List.lookup_cons,hb] at hu
    exact ⟨u,hu⟩
   simp [e,oP f v F h']
theorem SeaF.put {F:List (Str × V)} {pl ld lo lw dw:Addr} {n:Int} (h:SeaF F pl ld lo lw dw n) (lo':Addr):SeaF (cF "open_names" (.ref lo') F) pl ld lo' lw dw n:=by
 refine ⟨?_,?_,?_,?_,?_,?_,fun m hm=>?_,?_⟩
 ·rw [aV,if_neg (by decide +kernel)];exact h.f1
 ·rw [aV,if_neg (by decide +kernel)];exact h.f2
 ·rw [aV,if_pos rfl]
 ·rw [aV,if_neg (by decide +kernel)];exact h.f4
 ·rw [aV,if_neg (by decide +kernel)];exact h.f5
 ·rw [aV,if_neg (by decide +kernel)];exact h.f6
 ·rw [aV,if_neg (fun e=>hm (by rw [e];decide +kernel))];exact h.no m hm
 ·rw [oP _ _ _ ⟨_,h.f3⟩];exact h.len
theorem SeaF.putW {F:List (Str × V)} {pl ld lo lw dw:Addr} {n:Int} (h:SeaF F pl ld lo lw dw n) (lw':Addr):SeaF (cF "wet_names" (.ref lw') F) pl ld lo lw' dw n:=by
 refine ⟨?_,?_,?_,?_,?_,?_,fun m hm=>?_,?_⟩
 ·rw [aV,if_neg (by decide +kernel)];exact h.f1
 ·rw [aV,if_neg (by decide +kernel)];exact h.f2
 ·rw [aV,if_neg (by decide +kernel)];exact h.f3
 ·rw [aV,if_pos rfl]
 ·rw [aV,if_neg (by decide +kernel)];exact h.f5
 ·rw [aV,if_neg (by decide +kernel)];exact h.f6
 ·rw [aV,if_neg (fun e=>hm (by rw [e];decide +kernel))];exact h.no m hm
 ·rw [oP _ _ _ ⟨_,h.f4⟩];exact h.len
theorem SeaF.putN {F:List (Str × V)} {pl ld lo lw dw:Addr} {n:Int} (h:SeaF F pl ld lo lw dw n) (n':Int):SeaF (cF "day_count" (.int n') F) pl ld lo lw dw n':=by
 refine ⟨?_,?_,?_,?_,?_,?_,fun m hm=>?_,?_⟩
 ·rw [aV,if_neg (by decide +kernel)];exact h.f1
 ·rw [aV,if_neg (by decide +kernel)];exact h.f2
 ·rw [aV,if_neg (by decide +kernel)];exact h.f3
 ·rw [aV,if_neg (by decide +kernel)];exact h.f4
 ·rw [aV,if_pos rfl]
 ·rw [aV,if_neg (by decide +kernel)];exact h.f6
 ·rw [aV,if_neg (fun e=>hm (by rw [e];decide +kernel))];exact h.no m hm
 ·rw [oP _ _ _ ⟨_,h.f5⟩];exact h.len
def bQ (zs:List Str) (cnt:Str → Int):List (Key × V):=zs.map fun z=>(Sum.inr z,V.int (cnt z))
structure SeaAt (CS C:Addr) (H:Hp) (p dw pl:Addr) (fs ds:List Dv) (xs:List Dk) (op wt:List Str) (n:Int) (cnt:Str → Int):Prop where
 ex:∃ dx F ld lo lw,H p = some (.ins CS dx F) ∧ SeaF F pl ld lo lw dw n ∧ Decs H ld ((ds.filter aX).map aJ) (fs.map aJ) xs ∧ H lo = some (.lst (op.map V.str)) ∧ H lw = some (.lst (wt.map V.str))
 land:LandAt C H pl fs ds
 dwt:H dw = some (.dK (bQ (fs.map aJ) cnt))
 sub:∀ z ∈ op,z ∈ (ds.filter aX).map aJ
 lop:op.length ≤ 1000
 lx:xs.length ≤ 60
theorem SeaAt.same {CS C:Addr} {H H':Hp} (S:aK H H') {p dw pl:Addr} {fs ds:List Dv} {xs:List Dk} {op wt:List Str} {n:Int} {cnt:Str → Int} (h:SeaAt CS C H p dw pl fs ds xs op wt n cnt):SeaAt CS C H' p dw pl fs ds xs op wt n cnt:=by
 obtain ⟨dx,F,ld,lo,lw,e,sf,dc,h1,h2⟩:=h.ex
 exact ⟨⟨dx,F,ld,lo,lw,S _ _ e,sf,dc.same S,S _ _ h1,S _ _ h2⟩,h.land.same S,S _ _ h.dwt,h.sub,h.lop,h.lx⟩
def tV (CS C:Addr):Sp:=sp1 fun x H Q=>∃ (p dw pl:Addr) (fs ds:List Dv) (xs:List Dk) (op wt:List Str) (n:Int) (cnt:Str → Int),x = .ref p ∧ SeaAt CS C H p dw pl fs ds xs op wt n cnt ∧ ∀ (l:Addr),H l = none → Q (.ref l) (upd H l (.lst (op.map V.str)))
theorem hZ (T:Txt K mg C) {CS:Addr} (hCS:mg "Season" = some (.ref CS)):Mc P w K mg base 1 CS "opened" ["self"] (tV CS C):=by
 obtain ⟨C_Season,cl_Season,mg_Season,na_on_land,na_own_decrees,na_open_names,na_wet_names,na_day_count,na_wet_counts,i_Season,m_season_p_day,m_season_p_days,m_season_p_opened,m_season_p_wet,m_season_p_count,m_season_p_wet_days,m_season_p_onto⟩:=T.k_Season
 rw [hCS] at mg_Season
 cases mg_Season
 refine m_season_p_opened.mc qC lM (fun f cdv A outer s H vs Q E hr h=>?_)
 obtain ⟨x,rfl,p,dw,pl,fs,ds,xs,op,wt,n,cnt,rfl,SA,q⟩:=h
 obtain ⟨dx,F,ld,lo,lw,e,sf,dc,h1,h2⟩:=SA.ex
 refine ⟨_,(aI (@aT _ _ _ _ (@cE _ _ _ _ _ _ _ _ _ (@lQ _ (K) rfl) rfl T.n_list dG (@aA _ _ _ _ _ (@eV _ _ _ _ _ (pv 0) rfl) aE (by rfl)) (by decide) (by decide) (by rfl) (by rfl)))),?_⟩
 exact ⟨_,rfl,p,CS,dx,F,_,rfl,e,cl_Season,na_open_names,sf.f3,lo,_,rfl,.inl (SqL.of h1),q⟩
def yQ (CS C:Addr):Sp:=sp1 fun x H Q=>∃ (p dw pl:Addr) (fs ds:List Dv) (xs:List Dk) (op wt:List Str) (n:Int) (cnt:Str → Int),x = .ref p ∧ SeaAt CS C H p dw pl fs ds xs op wt n cnt ∧ ∀ (l:Addr),H l = none → Q (.ref l) (upd H l (.lst (wt.map V.str)))
theorem jU (T:Txt K mg C) {CS:Addr} (hCS:mg "Season" = some (.ref CS)):Mc P w K mg base 1 CS "wet" ["self"] (yQ CS C):=by
 obtain ⟨C_Season,cl_Season,mg_Season,na_on_land,na_own_decrees,na_open_names,na_wet_names,na_day_count,na_wet_counts,i_Season,m_season_p_day,m_season_p_days,m_season_p_opened,m_season_p_wet,m_season_p_count,m_season_p_wet_days,m_season_p_onto⟩:=T.k_Season
 rw [hCS] at mg_Season
 cases mg_Season
 refine m_season_p_wet.mc tF lM (fun f cdv A outer s H vs Q E hr h=>?_)
 obtain ⟨x,rfl,p,dw,pl,fs,ds,xs,op,wt,n,cnt,rfl,SA,q⟩:=h
 obtain ⟨dx,F,ld,lo,lw,e,sf,dc,h1,h2⟩:=SA.ex
 refine ⟨_,(aI (@aT _ _ _ _ (@cE _ _ _ _ _ _ _ _ _ (@lQ _ (K) rfl) rfl T.n_list dG (@aA _ _ _ _ _ (@eV _ _ _ _ _ (pv 0) rfl) aE (by rfl)) (by decide) (by decide) (by rfl) (by rfl)))),?_⟩
 exact ⟨_,rfl,p,CS,dx,F,_,rfl,e,cl_Season,na_wet_names,sf.f4,lw,_,rfl,.inl (SqL.of h2),q⟩
def cI (p:Addr) (H H':Hp):Prop:=∀ b o,H b = some o → b ≠ p → H' b = some o
theorem cI.lt {p:Addr} {H H':Hp} {o:HO} (hp:H p = some o) (ho:aKJ o = false) (X:cI p H H'):gO H H':=fun b o' e l=>X b o' e (fun z=>by
 rw [z,hp] at e
 cases e
 rw [ho] at l
 cases l)
theorem cI.then {p:Addr} {H H' H'':Hp} (X:cI p H H') (S:aK H' H''):cI p H H'':=fun b o e n=>S _ _ (X b o e n)
theorem cI.put {p:Addr} {H H':Hp} {o:HO} (X:cI p H H'):cI p H (upd H' p o):=fun b o' e n=>by rw [aP n];exact X b o' e n
theorem aK.x {p:Addr} {H H':Hp} (S:aK H H'):cI p H H':=fun b o e _=>S _ _ e
theorem aHQ {H:Hp} {q:Dv → Bool} (hq:∀ d,q d = true → ∃ r,d = .tup r):∀ {ds:List Dv} {kvs:List (Key × V)},IsL H ds (kvs.map (·.2)) → (∀ d ∈ ds,q d = true) → 1 ≤ ds.length → ∃ kv ∈ kvs,∃ a,kv.2 = V.ref a
 | [],_,_,_,h=>absurd h (by decide)
 | d :: ds,[],⟨v,r,e,_⟩,_,_=>by cases e
 | d :: ds,kv :: kvs,⟨v,r,e,h,_⟩,g,_=>by
  rw [List.map_cons] at e
  cases e
  obtain ⟨r,rfl⟩:=hq d (g d List.mem_cons_self)
  obtain ⟨a,vs,ea,_⟩:=h
  exact ⟨kv,List.mem_cons_self,a,ea⟩
theorem aDV {H H':Hp} {p d:Addr} {o:HO} {ds:List Dv} {q:Dv → Bool} (hq:∀ d,q d = true → ∃ r,d = .tup r) (hp:H p = some o) (ho:aKJ o = false) (hk:∀ kvs,o = .dK kvs → ∀ kv ∈ kvs,∃ i,kv.2 = V.int i) (X:cI p H H') (t:rK H d ds) (g:∀ d ∈ ds,q d = true) (nD:∀ d ∈ ds,noD d = true) (l:1 ≤ ds.length):rK H' d ds:=by
 obtain ⟨kvs,e,k,i⟩:=t
 refine ⟨kvs,X _ _ e (fun z=>?_),k,IsL.sameLT (X.lt hp ho) _ _ (jE nD) i⟩
 rw [z,hp] at e
 cases e
 obtain ⟨kv,m,a,ea⟩:=aHQ hq i g l
 obtain ⟨j,ej⟩:=hk kvs rfl kv m
 rw [ea] at ej
 cases ej
theorem oY {C p pl:Addr} {H H':Hp} {o:HO} {fs ds:List Dv} (hp:H p = some o) (ho:aKJ o = false) (hk:∀ kvs,o = .dK kvs → ∀ kv ∈ kvs,∃ i,kv.2 = V.int i) (np:pl ≠ p) (X:cI p H H') (L:LandAt C H pl fs ds):LandAt C H' pl fs ds:=by
 obtain ⟨dx,d1,d2,hx,t1,t2⟩:=L.ex
 obtain ⟨gf,gd⟩:=cS L
 refine ⟨⟨dx,d1,d2,X _ _ hx np,?_,?_⟩,L.okf,L.okd⟩
 ·exact aDV (q:=cM) (fun d h=>by obtain ⟨z,g,e,rfl,_⟩:=bP h;exact ⟨_,rfl⟩) hp ho hk X t1 gf.all (fun d m=>sD (gf.all d m)) gf.l1
 ·exact aDV (q:=dA ("sea" :: fs.map aJ)) (fun d h=>by obtain ⟨n,a,b,c,r,s,rfl,_⟩:=bI h;exact ⟨_,rfl⟩) hp ho hk X t2 gd.all (fun d m=>wD (gd.all d m)) gd.l1
theorem aDO {gs zs:List Str} {xs:List Dk} {H:Hp} {l:Addr} (h:Decs H l gs zs xs) (hl:xs.length ≤ 60):dY (.lst (xs.map dkD)) = true ∧ pV gs zs (.lst (xs.map dkD)) = true:=⟨aEX h.ok (by omega),xZ h.ok hl⟩
def yR (CS C:Addr):Sp:=sp3 fun x y z H Q=>∃ (p dx pl ld:Addr) (fs ds:List Dv) (xs:List Dk),x = .ref p ∧ H p = some (.ins CS dx []) ∧ y = .ref pl ∧ LandAt C H pl fs ds ∧ z = .ref ld ∧ Decs H ld ((ds.filter aX).map aJ) (fs.map aJ) xs ∧ xs.length ≤ 60 ∧
 ∀ (dw:Addr) (H':Hp),SeaAt CS C (noL H H') p dw pl fs ds xs [] [] 0 (fun _=>0) → H dw = none → cI p H H' → Q .non H'
theorem aIH {C CS p pl dx:Addr} {F:List (Str × V)} {H H':Hp} {fs ds:List Dv} (hp:H p = some (.ins CS dx F)) (np:pl ≠ p) (X:cI p H H') (L:LandAt C H pl fs ds):LandAt C (noL H H') pl fs ds:=by
 obtain ⟨dx,d1,d2,hx,t1,t2⟩:=L.ex
 obtain ⟨gf,gd⟩:=cS L
 have get:∀ b o,H b = some o → (∀ xs,o ≠ .lst xs) → b ≠ p → noL H H' b = some o:=fun b o e h n=>pR (X _ _ e n) fun xs z=>by rw [e] at z;exact h xs (Option.some.inj z)
 have kp:mZ H (noL H H'):=fun b xs e=>get _ _ e (fun ys z=>by cases z) fun z=>by rw [z,hp] at e;cases e
 have tb:∀ {d:Addr} {ds:List Dv},rK H d ds → (∀ d ∈ ds,qJ d = true) → rK (noL H H') d ds:=fun ⟨kvs,e,k,i⟩ h=>⟨kvs,get _ _ e (fun ys z=>by cases z) (fun z=>by rw [z,hp] at e;cases e),k,IsL.keep kp _ _ (eG h) i⟩
 refine ⟨⟨dx,d1,d2,get _ _ hx (fun ys z=>by cases z) np,tb t1 fun d m=>?_,tb t2 fun d m=>?_⟩,L.okf,L.okd⟩
 ·obtain ⟨z,g,e,rfl,_⟩:=bP (gf.all d m)
  rfl
 ·obtain ⟨n,a,b,c,r,s,rfl,_,_,_,_,_,_,hs⟩:=bI (gd.all d m)
  cases s with
  | non=>rfl
  | int i=>rfl
  | _=>cases hs
theorem aII (d1 d2:Addr):oA d1 d2 ≠ []:=fun e=>by
 have:=nQ d1 d2
 rw [e] at this
 cases this
theorem nG (f:Str) (v:V):∀ F:List (Str × V),(cF f v F).length ≤ F.length + 1
 | []=>Nat.le_refl _
 | (g,x) :: F=>by
  have ih:=nG f v F
  unfold cF
  by_cases e:g = f
  ·subst e
   simp
  ·simp [e]
   exact ih
def sF1 (pl:Addr):List (Str × V):=cF "on_land" (.ref pl) []
def sF2 (pl ld:Addr):List (Str × V):=cF "own_decrees" (.ref ld) (sF1 pl)
def sF3 (pl ld lo:Addr):List (Str × V):=cF "open_names" (.ref lo) (sF2 pl ld)
def sF4 (pl ld lo lw:Addr):List (Str × V):=cF "wet_names" (.ref lw) (sF3 pl ld lo)
def sF5 (pl ld lo lw:Addr) (n:Int):List (Str × V):=cF "day_count" (.int n) (sF4 pl ld lo lw)
def sF6 (pl ld lo lw dw:Addr) (n:Int):List (Str × V):=cF "wet_counts" (.ref dw) (sF5 pl ld lo lw n)
theorem uZ (pl ld lo lw dw:Addr) (n:Int):(sF1 pl).length ≤ 1 ∧ (sF2 pl ld).length ≤ 2 ∧ (sF3 pl ld lo).length ≤ 3 ∧ (sF4 pl ld lo lw).length ≤ 4 ∧ (sF5 pl ld lo lw n).length ≤ 5 ∧ (sF6 pl ld lo lw dw n).length ≤ 6:=by
 have h1:(sF1 pl).length ≤ 1:=nG "on_land" (.ref pl) []
 have h2:=nG "own_decrees" (.ref ld) (sF1 pl)
 have h3:=nG "open_names" (.ref lo) (sF2 pl ld)
 have h4:=nG "wet_names" (.ref lw) (sF3 pl ld lo)
 have h5:=nG "day_count" (.int n) (sF4 pl ld lo lw)
 have h6:=nG "wet_counts" (.ref dw) (sF5 pl ld lo lw n)
 unfold sF6 sF5 sF4 sF3 sF2 at *
 omega
theorem aFM (pl ld lo lw dw:Addr) (n:Int):SeaF (sF6 pl ld lo lw dw n) pl ld lo lw dw n:=by
 have hl:=(uZ pl ld lo lw dw n).2.2.2.2.2
 unfold sF6 sF5 sF4 sF3 sF2 sF1 at hl ⊢
 have q:∀ (m f:Str) (v:V) (F:List (Str × V)),¬ m = f → (cF f v F).lookup m = F.lookup m:=fun m f v F h=>by rw [aV,if_neg h]
 have r:∀ (f:Str) (v:V) (F:List (Str × V)),(cF f v F).lookup f = some v:=fun f v F=>by rw [aV,if_pos rfl]
 refine ⟨?_,?_,?_,?_,?_,?_,fun m hm=>?_,hl⟩
 ·rw [q _ _ _ _ (by decide +kernel),q _ _ _ _ (by decide +kernel),q _ _ _ _ (by decide +kernel),q _ _ _ _ (by decide +kernel),q _ _ _ _ (by decide +kernel),r]
 ·rw [q _ _ _ _ (by decide +kernel),q _ _ _ _ (by decide +kernel),q _ _ _ _ (by decide +kernel),q _ _ _ _ (by decide +kernel),r]
 ·rw [q _ _ _ _ (by decide +kernel),q _ _ _ _ (by decide +kernel),q _ _ _ _ (by decide +kernel),r]
 ·rw [q _ _ _ _ (by decide +kernel),q _ _ _ _ (by decide +kernel),r]
 ·rw [q _ _ _ _ (by decide +kernel),r]
 ·rw [r]
 ·unfold aNL at hm
  simp only [List.mem_cons,List.not_mem_nil,or_false,not_or] at hm
  obtain ⟨m1,m2,m3,m4,m5,m6⟩:=hm
  rw [q _ _ _ _ m6,q _ _ _ _ m5,q _ _ _ _ m4,q _ _ _ _ m3,q _ _ _ _ m2,q _ _ _ _ m1]
  rfl
theorem nY (T:Txt K mg C) {CS:Addr} (hCS:mg "Season" = some (.ref CS)):Ic P w K mg base 7 CS ["self","land","decrees"] (yR CS C):=by
 obtain ⟨C_Season,cl_Season,mg_Season,na_on_land,na_own_decrees,na_open_names,na_wet_names,na_day_count,na_wet_counts,i_Season,m_season_p_day,m_season_p_days,m_season_p_opened,m_season_p_wet,m_season_p_count,m_season_p_wet_days,m_season_p_onto⟩:=T.k_Season
 rw [hCS] at mg_Season
 cases mg_Season
 have G_p_check_decrees:Fc P w K mg base 6 "check_decrees" ["land","thing"] (yT C):=kY T
 have G_p_copied:Fc P w K mg base 1 "copied" ["decrees"] aAQ:=aBI T
 have G_land_p_field_names:Mc P w K mg base 1 C "field_names" ["self"] (nE C fun fs _=>fs.map aJ):=fU T
 refine i_Season.ic tE aIF (fun f cdv A outer s H vs Q E hr h=>?_)
 obtain ⟨x,y,z,rfl,p,dx,pl,ld,fs,ds,xs,rfl,hp,rfl,L,rfl,dc,l60,q⟩:=h
 have big:=bY
 have np:pl ≠ p:=fun e=>by
  obtain ⟨dx',d1,d2,hx,_⟩:=L.ex
  rw [e,hp] at hx
  exact aII d1 d2 (HO.ins.inj (Option.some.inj hx)).2.2.symm
 obtain ⟨us,hl,il⟩:=dc.ex
 obtain ⟨sm,ok⟩:=aDO dc l60
 have gf:=(cS L).1
 have f2:=gf.l2
 have noK:∀ {o:HO} {F:List (Str × V)},o = .ins CS dx F → ∀ kvs,o = .dK kvs → ∀ kv ∈ kvs,∃ i,kv.2 = V.int i:=fun e kvs e'=>by rw [e] at e';cases e'
 refine ⟨_,(aG (@eI _ _ _ _ (@bN _ _ _ _ _ _ _ _ _ _ G_p_check_decrees (hr.mono (by decide)) (aA (pv 1) (aA (pv 2) aE)) (by rfl) (by decide) (by rfl) (by rfl)) (by rfl)) (aG (@iP _ _ _ _ _ _ _ _ (pv 0) (pv 1) rfl) (aG (@iP _ _ _ _ _ _ _ _ (pv 0) (@bN _ _ _ _ _ _ _ _ _ _ G_p_copied (hr.mono (by decide)) (aA (pv 2) aE) (by rfl) (by decide) (by rfl) (by rfl)) rfl) (aG (@iP _ _ _ _ _ _ _ _ (pv 0) (@cK _ _ _ _ aE) rfl) (aG (@iP _ _ _ _ _ _ _ _ (pv 0) (@cK _ _ _ _ aE) rfl) (aG (@iP _ _ _ _ _ _ _ _ (pv 0) aD rfl) (aI (@iP _ _ _ _ _ _ _ _ (pv 0) (@cE _ _ _ _ _ _ _ _ _ (@cZ _ rfl) rfl T.n_dict eX (aA (@cQ _ _ _ _ _ _ _ _ _ _ _ ["name"] 1 [] rfl (@bJ _ (K) _ _ _ rfl (@bK _ _ _ _ (@gH _ _ _ _ _ _ _ _ _ _ _ T.cl_Land G_land_p_field_names (hr.mono (by decide)) (pv 1) (by rfl)))) (fun R=>@aN _ _ (0) _ (show List.Nodup (["name"]:List Str) by decide +kernel) rfl (Or.inl rfl) (by trivial)) (@bG _ _ (by decide)) (fun R=>cN) (fun R=>(@cU _ _ _ _ _ (aA (pv 0) (aA aD aE)))) (by rfl) (by rfl) (by rfl) (by rfl) (by rfl) (by rfl) (by rfl) (by intro _;rfl)) aE) (by decide) (by decide) (by rfl) (by rfl)) rfl)))))))),?_⟩
 refine ⟨_,rfl,_,rfl,_,_,rfl,pl,fs,ds,.lst (xs.map dkD),rfl,L,⟨ld,us,rfl,hl,il⟩,sm,ok,fun H1 S1=>?_⟩
 refine ⟨_,rfl,_,rfl,p,CS,dx,[],rfl,S1 _ _ hp,cl_Season,na_on_land,by decide,?_⟩
 have X1:cI p H (upd H1 p (.ins CS dx (sF1 pl))):=(aK.x S1).put
 have hp1:upd H1 p (.ins CS dx (sF1 pl)) p = some (.ins CS dx (sF1 pl)):=aB
 change nB _ _ _ _ (upd H1 p (.ins CS dx (sF1 pl)))
 generalize upd H1 p (.ins CS dx (sF1 pl)) = H2 at X1 hp1
 have dc1:=dc.sameLT (X1.lt hp rfl)
 refine ⟨_,rfl,_,rfl,ld,_,_,xs,rfl,dc1,by omega,fun l3 H3 S3 nl3 dc3=>?_⟩
 have sl:=uZ pl l3 l3 l3 l3 0
 refine ⟨_,rfl,p,CS,dx,sF1 pl,rfl,S3 _ _ hp1,cl_Season,na_own_decrees,by omega,?_⟩
 have X2:cI p H (upd H3 p (.ins CS dx (sF2 pl l3))):=(X1.then S3).put
 have hp2:upd H3 p (.ins CS dx (sF2 pl l3)) p = some (.ins CS dx (sF2 pl l3)):=aB
 have dc4:Decs (upd H3 p (.ins CS dx (sF2 pl l3))) l3 _ _ xs:=(dc3.same vS).sameLT ((aK.x (aK.refl H3)).put.lt (S3 _ _ hp1) rfl)
 have X34:cI p H3 (upd H3 p (.ins CS dx (sF2 pl l3))):=(aK.x (aK.refl H3)).put
 change nB _ _ _ _ (upd H3 p (.ins CS dx (sF2 pl l3)))
 generalize upd H3 p (.ins CS dx (sF2 pl l3)) = H4 at X2 hp2 dc4 X34
 refine ⟨aQ rfl,fun lo hlo=>?_⟩
 have S5:=aK.upd (o:=.lst []) hlo
 have sl:=uZ pl l3 lo lo lo 0
 refine ⟨_,rfl,p,CS,dx,sF2 pl l3,rfl,S5 _ _ hp2,cl_Season,na_open_names,by omega,?_⟩
 have nlo:lo ≠ p:=fun z=>by rw [z,hp2] at hlo;cases hlo
 have X3:cI p H4 (upd (upd H4 lo (.lst [])) p (.ins CS dx (sF3 pl l3 lo))):=(aK.x S5).put
 have hp3:upd (upd H4 lo (.lst [])) p (.ins CS dx (sF3 pl l3 lo)) p = some (.ins CS dx (sF3 pl l3 lo)):=aB
 have hlo3:upd (upd H4 lo (.lst [])) p (.ins CS dx (sF3 pl l3 lo)) lo = some (.lst []):=by rw [aP nlo,aB]
 change nB _ _ _ _ (upd (upd H4 lo (.lst [])) p (.ins CS dx (sF3 pl l3 lo)))
 generalize upd (upd H4 lo (.lst [])) p (.ins CS dx (sF3 pl l3 lo)) = H5 at X3 hp3 hlo3
 have dc5:=dc4.sameLT (X3.lt hp2 rfl)
 have Y3:cI p H H5:=fun b o e n=>X3 _ _ (X2 b o e n) n
 refine ⟨aQ rfl,fun lw hlw=>?_⟩
 have S6:=aK.upd (o:=.lst []) hlw
 have sl:=uZ pl l3 lo lw lo 0
 refine ⟨_,rfl,p,CS,dx,sF3 pl l3 lo,rfl,S6 _ _ hp3,cl_Season,na_wet_names,by omega,?_⟩
 have nlw:lw ≠ p:=fun z=>by rw [z,hp3] at hlw;cases hlw
 have X4:cI p H5 (upd (upd H5 lw (.lst [])) p (.ins CS dx (sF4 pl l3 lo lw))):=(aK.x S6).put
 have hp4:upd (upd H5 lw (.lst [])) p (.ins CS dx (sF4 pl l3 lo lw)) p = some (.ins CS dx (sF4 pl l3 lo lw)):=aB
 have hlw4:upd (upd H5 lw (.lst [])) p (.ins CS dx (sF4 pl l3 lo lw)) lw = some (.lst []):=by rw [aP nlw,aB]
 change nB _ _ _ _ (upd (upd H5 lw (.lst [])) p (.ins CS dx (sF4 pl l3 lo lw)))
 generalize upd (upd H5 lw (.lst [])) p (.ins CS dx (sF4 pl l3 lo lw)) = H6 at X4 hp4 hlw4
 have dc6:=dc5.sameLT (X4.lt hp3 rfl)
 have hlo4:=X4 _ _ hlo3 nlo
 have Y4:cI p H H6:=fun b o e n=>X4 _ _ (Y3 b o e n) n
 refine ⟨_,rfl,p,CS,dx,sF4 pl l3 lo lw,rfl,hp4,cl_Season,na_day_count,by omega,?_⟩
 have X5:cI p H6 (upd H6 p (.ins CS dx (sF5 pl l3 lo lw 0))):=(aK.x (aK.refl H6)).put
 have hp5:upd H6 p (.ins CS dx (sF5 pl l3 lo lw 0)) p = some (.ins CS dx (sF5 pl l3 lo lw 0)):=aB
 change Ends.nx _ _ (upd H6 p (.ins CS dx (sF5 pl l3 lo lw 0)))
 generalize upd H6 p (.ins CS dx (sF5 pl l3 lo lw 0)) = H7 at X5 hp5
 have dc7:=dc6.sameLT (X5.lt hp4 rfl)
 have hlo5:=X5 _ _ hlo4 nlo
 have hlw5:=X5 _ _ hlw4 nlw
 have Y5:cI p H H7:=fun b o e n=>X5 _ _ (Y4 b o e n) n
 have L7:=oY hp rfl (noK rfl) np Y5 L
 obtain ⟨dxl,e1,e2,hxl,_⟩:=L7.ex
 refine ⟨_,rfl,pl,dxl,_,rfl,hxl,eF _ _ (by decide +kernel) (by decide +kernel),_,rfl,pl,fs,ds,rfl,L7,fun ln H8 S8 nln hln=>?_⟩
 refine ⟨ln,rfl,⟨_,SqL.of hln⟩,?_⟩
 have lcn:(bQ (fs.map aJ) (fun _=>0)).length = fs.length:=by unfold bQ;rw [List.length_map,List.length_map]
 refine bV (F:=K) (xs:=(fs.map aJ).map V.str) (by rw [List.length_map,List.length_map];omega) (fun i ys H'=>aK H8 H' ∧ cC H' ys ((bQ (fs.map aJ) (fun _=>0)).take i)) ⟨aK.refl _,cC.nil _⟩ ?_ ?_ ?_
 ·rintro i ys H' hi' ⟨S,pr⟩
  exact ⟨SqL.of (S _ _ hln),by have:=pr.len;rw [List.length_take] at this;omega⟩
 ·rintro i xv ys H' K1 K2 hxi ⟨S,pr⟩ k1 k2
  obtain ⟨z,ez⟩:∃ z,(fs.map aJ)[i]? = some z:=by
   have:=(List.getElem?_eq_some_iff.mp hxi).1
   rw [List.length_map] at this
   exact ⟨_,List.getElem?_eq_getElem this⟩
  rw [List.getElem?_map,ez] at hxi
  cases hxi
  refine ⟨_,rfl,aQ rfl,fun t ht=>k1 _ _ ⟨S.trans (aK.upd ht),?_⟩⟩
  have e:(bQ (fs.map aJ) (fun _=>0))[i]? = some (Sum.inr z,.int 0):=by
   unfold bQ
   rw [List.getElem?_map,ez]
   rfl
  rw [List.take_add_one,e]
  exact pr.snoc (k:=Sum.inr z) ht
 rintro ys H9 ⟨S9,pr⟩
 rw [List.take_of_length_le (by rw [lcn,List.length_map,List.length_map];exact Nat.le_refl _)] at pr
 intro p4 hp4'
 have S10:=aK.upd (o:=.lst ys) hp4'
 refine ⟨p4,ys,bQ (fs.map aJ) (fun _=>0),rfl,SqL.of aB,pr.same S10,by rw [lcn];omega,?_,fun dw hdw=>?_⟩
 ·have e:(bQ (fs.map aJ) (fun _=>0)).map (·.1) = (fs.map aJ).map (Sum.inr:Str → Key):=by unfold bQ;rw [List.map_map];rfl
  rw [e,mL]
  exact gf.nd
 have S11:=aK.upd (o:=.dK (bQ (fs.map aJ) (fun _=>0))) hdw
 have S12:=S8.trans (S9.trans (S10.trans S11))
 have hdw12:upd (upd H9 p4 (.lst ys)) dw (.dK (bQ (fs.map aJ) (fun _=>0))) dw = some (.dK (bQ (fs.map aJ) (fun _=>0))):=aB
 have ndw:H7 dw = none:=(S8.trans (S9.trans S10)).free hdw
 generalize upd (upd H9 p4 (.lst ys)) dw (.dK (bQ (fs.map aJ) (fun _=>0))) = H12 at S12 hdw12
 have sl:=uZ pl l3 lo lw dw 0
 refine ⟨_,rfl,p,CS,dx,sF5 pl l3 lo lw 0,rfl,S12 _ _ hp5,cl_Season,na_wet_counts,by omega,?_⟩
 have X6:cI p H7 (upd H12 p (.ins CS dx (sF6 pl l3 lo lw dw 0))):=(aK.x S12).put
 have ndp:dw ≠ p:=fun z=>by rw [z,hp5] at ndw;cases ndw
 have Y6:cI p H (upd H12 p (.ins CS dx (sF6 pl l3 lo lw dw 0))):=fun b o e n=>X6 _ _ (Y5 b o e n) n
 have fre:∀ {Hq:Hp} {b:Addr},cI p H Hq → b ≠ p → Hq b = none → H b = none:=fun {Hq b} X n h=>by
  cases e:H b with
  | none=>rfl
  | some o =>
   have:=X _ _ e n
   rw [h] at this
   cases this
 have ndw0:H dw = none:=fre Y5 ndp ndw
 have nlo0:H lo = none:=fre X2 nlo hlo
 have nlw0:H lw = none:=fre Y3 nlw hlw
 have hdwF:upd H12 p (.ins CS dx (sF6 pl l3 lo lw dw 0)) dw = some (.dK (bQ (fs.map aJ) (fun _=>0))):=by rw [aP ndp];exact hdw12
 have hpF:upd H12 p (.ins CS dx (sF6 pl l3 lo lw dw 0)) p = some (.ins CS dx (sF6 pl l3 lo lw dw 0)):=aB
 have hloF:=X6 _ _ hlo5 nlo
 have hlwF:=X6 _ _ hlw5 nlw
 have X3F:cI p H3 (upd H12 p (.ins CS dx (sF6 pl l3 lo lw dw 0))):=fun b o e n=>X6 _ _ (X5 _ _ (X4 _ _ (X3 _ _ (X34 _ _ e n) n) n) n) n
 show Q .non (upd H12 p (.ins CS dx (sF6 pl l3 lo lw dw 0)))
 generalize upd H12 p (.ins CS dx (sF6 pl l3 lo lw dw 0)) = HF at Y6 hdwF hpF hloF hlwF X3F ⊢
 have LT:gO (noL H2 H3) (noL H HF):=fun b o e l=>by
  obtain ⟨e1,e2⟩:=zI e
  have nb:b ≠ p:=fun z=>by rw [z,S3 _ _ hp1] at e1;cases e1;cases l
  exact pR (X3F _ _ e1 nb) fun xs z=>e2 xs (X1 _ _ z nb)
 refine q dw _ ⟨⟨dx,sF6 pl l3 lo lw dw 0,l3,lo,lw,pR hpF (fun xs z=>by rw [hp] at z;cases z),aFM _ _ _ _ _ _,dc3.sameLT LT,pQ hloF nlo0,pQ hlwF nlw0⟩,aIH hp np Y6 L,pQ hdwF ndw0,(fun z m=>by cases m),by decide,l60⟩ ndw0 Y6
theorem yE {zs:List Str} {c:Str → Int} {g:Str} {b:Int} (m:g ∈ zs):iT (bQ zs c) (Sum.inr g) (.int b) = bQ zs fun z=>if z = g then b else c z:=by
 unfold iT
 have:((bQ zs c).any fun kv=>decide (kv.1 = Sum.inr g)) = true:=by
  rw [List.any_eq_true]
  exact ⟨(Sum.inr g,.int (c g)),List.mem_map.mpr ⟨g,m,rfl⟩,decide_eq_true rfl⟩
 rw [if_pos this]
 unfold bQ
 rw [List.map_map]
 refine List.map_congr_left fun z _=>?_
 show (if (Sum.inr z:Key) = Sum.inr g then (Sum.inr z,V.int b) else (Sum.inr z,V.int (c z))) = (Sum.inr z,V.int (if z = g then b else c z))
 by_cases h:z = g
 ·rw [if_pos (by rw [h]),if_pos h]
 ·rw [if_neg (fun e=>h (Sum.inr.inj e)),if_neg h]
theorem sJ {c:Str → Int}:∀ {zs:List Str} {g:Str},g ∈ zs → eK (bQ zs c) (Sum.inr g) = some (.int (c g))
 | [],_,m=>by cases m
 | z :: zs,g,m=>by
  unfold eK bQ
  rw [List.map_cons,List.find?_cons]
  by_cases h:z = g
  ·subst h
   rw [decide_eq_true (show (Sum.inr z:Key) = Sum.inr z from rfl)]
   rfl
  ·rw [decide_eq_false (show ¬ (Sum.inr z:Key) = Sum.inr g from fun e=>h (Sum.inr.inj e))]
   have m':g ∈ zs:=by
    rcases List.mem_cons.mp m with e | e
    ·exact absurd e.symm h
    ·exact e
   exact sJ (zs:=zs) m'
theorem qM {zs:List Str} {c:Str → Int}:∀ kv ∈ bQ zs c,∃ i,kv.2 = V.int i:=fun kv m=>by
 obtain ⟨z,_,rfl⟩:=List.mem_map.mp m
 exact ⟨_,rfl⟩
def sZ (p dw:Addr) (H H':Hp):Prop:=∀ b o,H b = some o → b ≠ p → b ≠ dw → H' b = some o
def wR (wt:List Str) (cnt:Str → Int):Str → Int:=fun z=>if z ∈ wt then cnt z + 1 else cnt z
theorem yF {wt:List Str} {i:Nat} {z:Str} {cnt:Str → Int} (nd:wt.Nodup) (e:wt[i]? = some z):(fun y=>if y = z then wR (wt.take i) cnt z + 1 else wR (wt.take i) cnt y) = wR (wt.take (i + 1)) cnt:=by
 funext y
 obtain ⟨hi,ez⟩:=List.getElem?_eq_some_iff.mp e
 have nz:¬ z ∈ wt.take i:=fun m=>by
  obtain ⟨j,hj,ej⟩:=List.mem_iff_getElem.mp m
  rw [List.getElem_take] at ej
  rw [List.length_take] at hj
  have:=(List.getElem_inj nd).mp (ej.trans ez.symm)
  omega
 unfold wR
 rw [List.take_add_one,e]
 by_cases h:y = z
 ·subst h
  rw [if_pos rfl,if_neg nz,if_pos (List.mem_append_right _ (by simp))]
 ·rw [if_neg h]
  by_cases h2:y ∈ wt.take i
  ·rw [if_pos h2,if_pos (List.mem_append_left _ h2)]
  ·rw [if_neg h2,if_neg (fun m=>by
    rcases List.mem_append.mp m with m | m
    ·exact h2 m
    ·simp at m
     exact h m)]
def lK (ds:List Dv) (xs:List Dk) (op wt:List Str) (n lv:Int):List Str:=vE lv wt n ((ds.filter aX).map aJ) op xs
def gN (fs ds:List Dv) (xs:List Dk) (op wt:List Str) (n lv:Int):List Str:=aGN fs ds (lK ds xs op wt n lv) lv wt
def aMW (CS:Addr) (H H0:Hp) (p dw pl:Addr) (n:Int):Prop:=∀ dx F ld lo lw,H p = some (.ins CS dx F) → SeaF F pl ld lo lw dw n → ∃ F' lo' lw',H0 p = some (.ins CS dx F') ∧ SeaF F' pl ld lo' lw' dw (n + 1) ∧ H lo' = none ∧ H lw' = none
def aLE (CS C:Addr):Sp:=sp2 fun x y H Q=>∃ (p dw pl:Addr) (fs ds:List Dv) (xs:List Dk) (op wt:List Str) (n lv:Int) (cnt:Str → Int),x = .ref p ∧ SeaAt CS C H p dw pl fs ds xs op wt n cnt ∧ y = .int lv ∧ hgt lv = true ∧
 ∀ (t lo lw:Addr) (H0 H':Hp),sZ p dw H H0 → SeaAt CS C H0 p dw pl fs ds xs (lK ds xs op wt n lv) (gN fs ds xs op wt n lv) (n + 1) (wR (gN fs ds xs op wt n lv) cnt) → aMW CS H H0 p dw pl n → aK H0 H' → H0 t = none → H0 lo = none → H0 lw = none → lo ≠ lw → t ≠ lo → t ≠ lw →
  H' t = some (.tup [.ref lo,.ref lw]) → H' lo = some (.lst ((lK ds xs op wt n lv).map V.str)) → H' lw = some (.lst ((gN fs ds xs op wt n lv).map V.str)) → Q (.ref t) H'
theorem tM (T:Txt K mg C) {CS:Addr} (hCS:mg "Season" = some (.ref CS)):Mc P w K mg base 8 CS "day" ["self","level"] (aLE CS C):=by
 have G_season_p_opened:Mc P w K mg base 1 CS "opened" ["self"] (tV CS C):=hZ T hCS
 have G_season_p_wet:Mc P w K mg base 1 CS "wet" ["self"] (yQ CS C):=jU T hCS
 have G_p_is_height:Fc P w K mg base 2 "is_height" ["thing"] kH:=fG T
 have G_p_opened_by:Fc P w K mg base 7 "opened_by" ["land","decrees","opened","level","wet","day"] (aAN C):=vI T
 have G_p_wet_fields:Fc P w K mg base 6 "wet_fields" ["land","opened","level","before"] (aHA C):=tO T
 obtain ⟨C_Season,cl_Season,mg_Season,na_on_land,na_own_decrees,na_open_names,na_wet_names,na_day_count,na_wet_counts,i_Season,m_season_p_day,m_season_p_days,m_season_p_opened,m_season_p_wet,m_season_p_count,m_season_p_wet_days,m_season_p_onto⟩:=T.k_Season
 rw [hCS] at mg_Season
 cases mg_Season
 refine m_season_p_day.mc jR gK (fun f cdv A outer s H vs Q E hr h=>?_)
 obtain ⟨x,y,rfl,p,dw,pl,fs,ds,xs,op,wt,n,lv,cnt,rfl,SA,rfl,hlv,q⟩:=h
 obtain ⟨dx,F,ld,lo,lw,hp,sf,dc,hlo,hlw⟩:=SA.ex
 have L:=SA.land
 have gf:=(cS L).1
 have gd:=(cS L).2
 have f2:=gf.l2
 have d2:=gd.l2
 have big:=bY
 have hu:=jP hr
 have np:pl ≠ p:=fun e=>by
  obtain ⟨dx',d1,d2,hx,_⟩:=L.ex
  rw [e,hp] at hx
  have e':=(HO.ins.inj (Option.some.inj hx)).2.2
  have:=sf.no "field_rows" (by decide +kernel)
  rw [e',nQ] at this
  cases this
 have noK:∀ {o:HO} {F:List (Str × V)},o = .ins CS dx F → ∀ kvs,o = .dK kvs → ∀ kv ∈ kvs,∃ i,kv.2 = V.int i:=fun e kvs e'=>by rw [e] at e';cases e'
 refine ⟨_,(aG (@cD _ _ _ _ _ _ _ _ (@dE _ _ _ _ (@cJ _ _ _ (@bN _ _ _ _ _ _ _ _ _ _ G_p_is_height (hr.mono (by decide)) (aA (pv 1) aE) (by rfl) (by decide) (by rfl) (by rfl)) (by intro _;rfl))) (aI mH) bE) (aG (@aY _ _ (2) _ _ _ _ jR.nd rfl (Or.inl rfl) (@eV _ _ _ _ _ (pv 0) rfl) (by rfl) (by trivial)) (aG (@iP _ _ _ _ _ _ _ _ (pv 0) (@bN _ _ _ _ _ _ _ _ _ _ G_p_opened_by (hr.mono (by decide)) (@aA _ _ _ _ _ (pv 2) (@aA _ _ _ _ _ (@eV _ _ _ _ _ (pv 0) rfl) (@aA _ _ _ _ _ (@eV _ _ _ _ _ (pv 0) rfl) (@aA _ _ _ _ _ (pv 1) (@aA _ _ _ _ _ (@eV _ _ _ _ _ (pv 0) rfl) (@aA _ _ _ _ _ (@eV _ _ _ _ _ (pv 0) rfl) aE (by rfl)) (by rfl)) (by rfl)) (by rfl)) (by rfl)) (by rfl)) (by rfl) (by decide) (by rfl) (by rfl)) rfl) (aG (@iP _ _ _ _ _ _ _ _ (pv 0) (@bN _ _ _ _ _ _ _ _ _ _ G_p_wet_fields (hr.mono (by decide)) (aA (pv 2) (aA (@eV _ _ _ _ _ (pv 0) rfl) (aA (pv 1) (@aA _ _ _ _ _ (@eV _ _ _ _ _ (pv 0) rfl) aE (by rfl))))) (by rfl) (by decide) (by rfl) (by rfl)) rfl) (aG (@aFQ _ _ _ _ _ _ _ _ _ _ (pv 0) aD aIP) (aG (@eC _ _ _ _ _ _ _ _ PassesOwn.never rfl (@bJ _ (K) _ _ _ rfl (@bK _ _ _ _ (@eV _ _ _ _ _ (pv 0) rfl))) (@aN _ _ (3) _ jR.nd rfl (Or.inl rfl) (by trivial)) (aI (@aJW _ _ _ _ _ _ _ _ _ _ _ hu (@eV _ _ _ _ _ (pv 0) rfl) (pv 3) aD aIP (fun _ _ _=>rfl))) (by intro _;rfl)) (aI (@aT _ _ _ _ (@cU _ _ _ _ _ (aA (@gH _ _ _ _ _ _ _ _ _ _ _ cl_Season G_season_p_opened (hr.mono (by decide)) (pv 0) (by rfl)) (aA (@gH _ _ _ _ _ _ _ _ _ _ _ cl_Season G_season_p_wet (hr.mono (by decide)) (pv 0) (by rfl)) aE))))))))))),?_⟩
 refine ⟨_,rfl,_,rfl,.int lv,rfl,_,rfl,?_⟩
 rw [show eU (.int lv) = true from hlv]
 refine bC ?_
 refine ⟨_,rfl,p,CS,dx,F,_,rfl,hp,cl_Season,na_on_land,sf.f1,?_⟩
 refine ⟨_,rfl,_,rfl,p,CS,dx,F,_,rfl,hp,cl_Season,na_own_decrees,sf.f2,_,rfl,p,CS,dx,F,_,rfl,hp,cl_Season,na_open_names,sf.f3,_,rfl,_,rfl,p,CS,dx,F,_,rfl,hp,cl_Season,na_wet_names,sf.f4,_,rfl,p,CS,dx,F,_,rfl,hp,cl_Season,na_day_count,sf.f5,?_⟩
 refine ⟨_,_,_,_,_,_,rfl,pl,ld,lo,lw,fs,ds,xs,op,wt,lv,n,rfl,L,rfl,dc,SA.lx,rfl,hlo,SA.lop,SA.sub,rfl,rfl,hlw,rfl,fun lo1 H1 S1 nlo1 hlo1=>?_⟩
 have hlo1:H1 lo1 = some (.lst ((lK ds xs op wt n lv).map V.str)):=hlo1
 refine ⟨_,rfl,p,CS,dx,F,rfl,S1 _ _ hp,cl_Season,na_open_names,by have:=sf.len;omega,?_⟩
 have sf1:=sf.put lo1
 have nlop:lo1 ≠ p:=fun z=>by rw [z,hp] at nlo1;cases nlo1
 have X1:cI p H1 (upd H1 p (.ins CS dx (cF "open_names" (.ref lo1) F))):=(aK.x (aK.refl H1)).put
 have hp1:upd H1 p (.ins CS dx (cF "open_names" (.ref lo1) F)) p = some (.ins CS dx (cF "open_names" (.ref lo1) F)):=aB
 generalize cF "open_names" (.ref lo1) F = F1 at sf1 X1 hp1 ⊢
 generalize upd H1 p (.ins CS dx F1) = H2 at X1 hp1 ⊢
 have X2:cI p H H2:=fun b o e m=>X1 _ _ (S1 _ _ e) m
 have nlwp:lw ≠ p:=fun z=>by rw [z,hp] at hlw;cases hlw
 have ndwp:dw ≠ p:=fun z=>by have:=SA.dwt;rw [z,hp] at this;cases this
 have L2:=oY hp rfl (noK rfl) np X2 L
 have dc2:=dc.sameLT (X2.lt hp rfl)
 have hlo2:=X1 _ _ hlo1 nlop
 have lgs:((ds.filter aX).map aJ).length ≤ 40:=by
  rw [List.length_map]
  exact Nat.le_trans (List.length_filter_le _ _) d2
 have lop1:(lK ds xs op wt n lv).length ≤ 1000:=Nat.le_trans (List.length_filter_le _ _) (by omega)
 have sub1:∀ z ∈ lK ds xs op wt n lv,z ∈ (ds.filter aX).map aJ:=fun z m=>(List.mem_filter.mp m).1
 refine ⟨_,rfl,_,rfl,p,CS,dx,F1,_,rfl,hp1,cl_Season,na_open_names,sf1.f3,_,rfl,_,rfl,p,CS,dx,F1,_,rfl,hp1,cl_Season,na_wet_names,sf1.f4,_,_,_,_,rfl,pl,lo1,lw,fs,ds,lK ds xs op wt n lv,wt,lv,rfl,L2,rfl,hlo2,lop1,sub1,rfl,rfl,X2 _ _ hlw nlwp,fun lw1 H3 S3 nlw1 hlw1=>?_⟩
 have hlw1:H3 lw1 = some (.lst ((gN fs ds xs op wt n lv).map V.str)):=hlw1
 refine ⟨_,rfl,p,CS,dx,F1,rfl,S3 _ _ hp1,cl_Season,na_wet_names,by have:=sf1.len;omega,?_⟩
 have sf2:=sf1.putW lw1
 have nlw1p:lw1 ≠ p:=fun z=>by rw [z,hp1] at nlw1;cases nlw1
 have X3:cI p H3 (upd H3 p (.ins CS dx (cF "wet_names" (.ref lw1) F1))):=(aK.x (aK.refl H3)).put
 have hp2:upd H3 p (.ins CS dx (cF "wet_names" (.ref lw1) F1)) p = some (.ins CS dx (cF "wet_names" (.ref lw1) F1)):=aB
 generalize cF "wet_names" (.ref lw1) F1 = F2 at sf2 X3 hp2 ⊢
 generalize upd H3 p (.ins CS dx F2) = H4 at X3 hp2 ⊢
 refine ⟨_,rfl,p,CS,dx,F2,.int n,rfl,hp2,cl_Season,na_day_count,sf2.f5,n,1,rfl,rfl,dx,F2,hp2,by have:=sf2.len;omega,?_⟩
 have sf3:=sf2.putN (n + 1)
 have X4:cI p H4 (upd H4 p (.ins CS dx (cF "day_count" (.int (n + 1)) F2))):=(aK.x (aK.refl H4)).put
 have hp3:upd H4 p (.ins CS dx (cF "day_count" (.int (n + 1)) F2)) p = some (.ins CS dx (cF "day_count" (.int (n + 1)) F2)):=aB
 generalize cF "day_count" (.int (n + 1)) F2 = F3 at sf3 X4 hp3 ⊢
 generalize upd H4 p (.ins CS dx F3) = H5 at X4 hp3 ⊢
 have X5:cI p H2 H5:=fun b o e m=>X4 _ _ (X3 _ _ (S3 _ _ e) m) m
 have X6:cI p H H5:=fun b o e m=>X5 _ _ (X2 _ _ e m) m
 have L5:=oY hp1 rfl (noK rfl) np X5 L2
 have dc5:=dc2.sameLT (X5.lt hp1 rfl)
 have hlo5:=X5 _ _ hlo2 nlop
 have hlw5:H5 lw1 = some (.lst ((gN fs ds xs op wt n lv).map V.str)):=X4 _ _ (X3 _ _ hlw1 nlw1p) nlw1p
 have hdw5:=X6 _ _ SA.dwt ndwp
 have ndw:(gN fs ds xs op wt n lv).Nodup:=gf.nd.sublist List.filter_sublist
 have mwt:∀ z ∈ gN fs ds xs op wt n lv,z ∈ fs.map aJ:=fun z m=>(List.mem_filter.mp m).1
 have lcn:∀ c,(bQ (fs.map aJ) c).length = fs.length:=fun c=>by unfold bQ;rw [List.length_map,List.length_map]
 refine ⟨_,rfl,p,CS,dx,F3,_,rfl,hp3,cl_Season,na_wet_names,sf3.f4,lw1,rfl,⟨_,SqL.of hlw5⟩,?_⟩
 refine dQ (K:=K) (a:=lw1) (xs:=(gN fs ds xs op wt n lv).map V.str) (fun i σ H'=>∃ v3,σ = [some (.ref p),some (.int lv),some (.ref pl),v3] ∧ H' dw = some (.dK (bQ (fs.map aJ) (wR ((gN fs ds xs op wt n lv).take i) cnt))) ∧ cI dw H5 H')
  ⟨_,rfl,by rw [show wR (List.take 0 (gN fs ds xs op wt n lv)) cnt = cnt from funext fun z=>if_neg (by simp)];exact hdw5,fun b o e _=>e⟩ (fun i σ H' _ ⟨_,_,_,X⟩=>SqL.of (X _ _ hlw5 (fun z=>by rw [z,hdw5] at hlw5;cases hlw5))) ?_ ?_
 ·rintro i xv σ H' hxi ⟨v3,rfl,hd',X⟩
  obtain ⟨z,ez⟩:∃ z,(gN fs ds xs op wt n lv)[i]? = some z:=by
   have:=(List.getElem?_eq_some_iff.mp hxi).1
   rw [List.length_map] at this
   exact ⟨_,List.getElem?_eq_getElem this⟩
  rw [List.getElem?_map,ez] at hxi
  cases hxi
  have mz:=mwt z (List.mem_of_getElem? ez)
  refine ⟨_,rfl,p,CS,dx,F3,_,rfl,X _ _ hp3 ndwp.symm,cl_Season,na_wet_counts,sf3.f6,_,rfl,dw,_,rfl,(by rw [← sJ mz];exact lT.k (k:=Sum.inr z) hd'),_,1,rfl,rfl,_,aCL.k (k:=Sum.inr z) hd' (by rw [lcn];omega),?_⟩
  refine ⟨_,rfl,?_,X.put⟩
  rw [aB,yE mz,yF ndw ez]
 ·rintro σ H' ⟨v3,rfl,hd',X⟩
  rw [List.length_map,List.take_of_length_le (Nat.le_refl _)] at hd'
  have hp6:=X _ _ hp3 ndwp.symm
  have nl1:lo1 ≠ dw:=fun z=>by rw [z,hdw5] at hlo5;cases hlo5
  have nl2:lw1 ≠ dw:=fun z=>by rw [z,hdw5] at hlw5;cases hlw5
  have ndpl:pl ≠ dw:=fun z=>by
   obtain ⟨dx',e1,e2,hx,_⟩:=L5.ex
   rw [z,hdw5] at hx
   cases hx
  have SA':SeaAt CS C H' p dw pl fs ds xs (lK ds xs op wt n lv) (gN fs ds xs op wt n lv) (n + 1) (wR (gN fs ds xs op wt n lv) cnt) :=
   ⟨⟨dx,F3,ld,lo1,lw1,hp6,sf3,dc5.sameLT (X.lt hdw5 rfl),X _ _ hlo5 nl1,X _ _ hlw5 nl2⟩,oY hdw5 rfl (fun kvs e=>by cases e;exact qM) ndpl X L5,hd',sub1,lop1,SA.lx⟩
  have Y:sZ p dw H H':=fun b o e m1 m2=>X _ _ (X6 _ _ e m1) m2
  refine ⟨_,rfl,p,dx,F3,rfl,hp6,sf3.no _ (by decide +kernel),_,rfl,p,dw,pl,fs,ds,xs,_,_,_,_,rfl,SA',fun l1 hl1=>?_⟩
  have A1:=aK.upd (o:=.lst ((lK ds xs op wt n lv).map V.str)) hl1
  refine ⟨_,rfl,p,dx,F3,rfl,A1 _ _ hp6,sf3.no _ (by decide +kernel),_,rfl,p,dw,pl,fs,ds,xs,_,_,_,_,rfl,SA'.same A1,fun l2 hl2=>?_⟩
  have A2:=aK.upd (o:=.lst ((gN fs ds xs op wt n lv).map V.str)) hl2
  refine ⟨aQ rfl,fun t ht=>?_⟩
  have A3:=aK.upd (o:=.tup [.ref l1,.ref l2]) ht
  have n12:l1 ≠ l2:=fun z=>by rw [← z,aB] at hl2;cases hl2
  have n2t:t ≠ l2:=fun z=>by rw [z,aB] at ht;cases ht
  have n1t:t ≠ l1:=fun z=>by rw [z,aP n12,aB] at ht;cases ht
  have nlw0:H lw1 = none:=by
   cases e:H lw1 with
   | none=>rfl
   | some o =>
    have:=X2 _ _ e nlw1p
    rw [nlw1] at this
    cases this
  have DX:aMW CS H H' p dw pl n:=fun dx' F' ld' lo' lw' e1 e2=>by
   rw [hp] at e1
   cases e1
   have e3:=e2.f2
   rw [sf.f2] at e3
   cases e3
   exact ⟨F3,lo1,lw1,hp6,sf3,nlo1,nlw0⟩
  exact q t l1 l2 H' _ Y SA' DX (A1.trans (A2.trans A3)) ((A1.trans A2).free ht) hl1 (A1.free hl2) n12 n1t n2t aB ((A2.trans A3) _ _ aB) (A3 _ _ aB)
open Mt21 Mt46
def aFK (K:PySem.W.Frag):Sp:=sp2 fun x y H Q=>∃ k:Int,Scr K H x ∧ y = .int k ∧ 0 ≤ k ∧ ∀ m:Int,0 ≤ m → Q (.int m) H
theorem kZ (T:Txt K mg C):Fc P w K mg base 1 "_law_mixed" ["_law_script","_law_k"] (aFK K):=by
 refine T.d_l_mixed.fc qE gK (fun f cdv A outer s H vs Q E hr h=>?_)
 obtain ⟨x,y,rfl,k,⟨a,ns,rfl,hS,hl⟩,rfl,hk,q⟩:=h
 obtain ⟨j,rfl⟩:=Int.eq_ofNat_of_zero_le hk
 refine ⟨_,(aG (@aY _ _ (2) _ _ _ _ qE.nd rfl (Or.inl rfl) aD (by rfl) (by trivial)) (aG (@cD _ _ _ _ _ _ _ _ (@bH _ _ _ _ _ _ _ _ sP (pv 1) (@aZ _ _ _ _ _ _ _ _ _ (@bU _ (K) rfl) rfl T.n_len cT (aA (pv 0) aE) (by decide) (by decide) (by rfl) (by rfl)) (@bF _ _ (by decide) (by decide))) (aI (@aY _ _ (2) _ _ _ _ qE.nd rfl (Or.inl rfl) (@aU _ _ _ _ _ _ _ (@bO _ (K) rfl) (pv 0) (pv 1) (fun _ _=>rfl)) (by rfl) (by trivial))) bE) (aI (@aT _ _ _ _ (@aR _ _ _ _ _ _ _ _ cG (@aR _ _ _ _ _ _ _ _ vF (pv 2) aD) (@aR _ _ _ _ _ _ _ _ eD aD aD)))))),?_⟩
 have p24:(0:Int) < 10 ^ (24:Int).toNat:=by decide
 have fin:∀ m:Int,Q (.int (m % 10 ^ (24:Int).toNat)) H:=fun m=>q _ (Int.emod_nonneg _ (by decide))
 refine ⟨_,rfl,_,rfl,a,_,rfl,.inl hS,_,_,rfl,rfl,_,rfl,?_⟩
 rw [List.length_map]
 refine mP (fun h1=>?_) (fun h1=>?_)
 ·have h1':j < ns.length:=by
   have:=of_decide_eq_true h1
   omega
  refine ⟨_,rfl,_,rfl,a,_,_,.int (ns.getD j 0),rfl,rfl,hS,aH ?_,?_⟩
  ·rw [List.getElem?_map,List.getElem?_eq_getElem h1',List.getD_eq_getElem?_getD,List.getElem?_eq_getElem h1']
   rfl
  exact ⟨_,rfl,_,_,rfl,rfl,.inr ⟨by decide,by decide⟩,_,_,rfl,rfl,⟨by decide,by decide,by decide⟩,_,_,rfl,rfl,p24,fin _⟩
 ·exact ⟨_,rfl,_,_,rfl,rfl,.inr ⟨by decide,by decide⟩,_,_,rfl,rfl,⟨by decide,by decide,by decide⟩,_,_,rfl,rfl,p24,fin _⟩
def aHE:Sp:=sp1 fun x H Q=>∃ n:Int,x = .int n ∧ ∀ m:Int,hgt m = true → Q (.int m) H
theorem lC (T:Txt K mg C):Fc P w K mg base 1 "_law_height" ["_law_cell"] aHE:=by
 refine T.d_l_height.fc aAW lM (fun f cdv A outer s H vs Q E hr h=>?_)
 obtain ⟨x,rfl,n,rfl,q⟩:=h
 have p6':(10:Int) ^ (6:Int).toNat = 1000000:=by decide
 refine ⟨_,(aG (@cD _ _ _ _ _ _ _ _ (@bH _ _ _ _ _ _ _ _ iD (@aR _ _ _ _ _ _ _ _ cG (pv 0) aD) aD (@bF _ _ (by decide) (by decide))) (aI (@aT _ _ _ _ (@aR _ _ _ _ _ _ _ _ lJ (@aR _ _ _ _ _ _ _ _ cG (@aR _ _ _ _ _ _ _ _ bR (pv 0) aD) aD) (@aR _ _ _ _ _ _ _ _ eD aD aD)))) bE) (aI (@aT _ _ _ _ (@aR _ _ _ _ _ _ _ _ lJ (@aR _ _ _ _ _ _ _ _ cG (@aR _ _ _ _ _ _ _ _ bR (pv 0) aD) aD) aD)))),?_⟩
 refine ⟨_,rfl,_,_,rfl,rfl,(lH rfl),rfl,_,rfl,?_⟩
 rw [kB]
 refine mP (fun h1=>?_) (fun h1=>?_)
 ·refine ⟨_,rfl,_,_,rfl,rfl,⟨by decide,by decide⟩,_,_,rfl,rfl,(lH rfl),_,_,rfl,rfl,⟨by decide,by decide,by decide⟩,_,_,rfl,rfl,q _ ?_⟩
  rw [p6']
  have a0:=Int.emod_nonneg (n / 4) (show (2000001:Int) ≠ 0 by decide)
  have a1:=Int.emod_lt_of_pos (n / 4) (show (0:Int) < 2000001 by decide)
  exact zR (by omega) (by omega)
 ·refine ⟨_,rfl,_,_,rfl,rfl,⟨by decide,by decide⟩,_,_,rfl,rfl,(lH rfl),_,_,rfl,rfl,q _ ?_⟩
  have a0:=Int.emod_nonneg (n / 4) (show (7:Int) ≠ 0 by decide)
  have a1:=Int.emod_lt_of_pos (n / 4) (show (0:Int) < 7 by decide)
  exact zR (by omega) (by omega)
theorem aOA:("abcdefghijklmnopqrstuvwxyz":Str).length = 26:=by decide +kernel
def aLV:Sp:=sp1 fun x H Q=>∃ c:Int,x = .int c ∧ ∀ (zs:List Str) (l:Addr) (H':Hp),Nm zs → aK H H' → H l = none → H' l = some (.lst (zs.map V.str)) → Q (.ref l) H'
theorem vQ (T:Txt K mg C):Fc P w K mg base 1 "_law_names" ["_law_cell"] aLV:=by
 refine T.d_l_names.fc fJ lM (fun f cdv A outer s H vs Q E hr h=>?_)
 obtain ⟨x,rfl,c,rfl,q⟩:=h
 have big:=bY
 have l26:=aOA
 have hss:("abcdefghijklmnopqrstuvwxyz":Str).length ≤ sizeLine:=by rw [l26];omega
 refine ⟨_,(@aG _ _ _ _ _ (@aY _ _ (1) _ _ _ _ fJ.nd rfl (Or.inr rfl) cP (by rfl) (by trivial)) (@aG _ _ _ _ _ (@aY _ _ (2) _ _ _ _ fJ.nd rfl (Or.inl rfl) (@aR _ _ _ _ _ _ _ _ eE aD (@aR _ _ _ _ _ _ _ _ cG (pv 0) aD)) (by rfl) (by trivial)) (@aG _ _ _ _ _ (@aY _ _ (3) _ _ _ _ fJ.nd rfl (Or.inl rfl) (@aR _ _ _ _ _ _ _ _ cG (@aR _ _ _ _ _ _ _ _ bR (pv 0) aD) (pv 2)) (by rfl) (by trivial)) (@aG _ _ _ _ _ (@aY _ _ (4) _ _ _ _ fJ.nd rfl (Or.inl rfl) (@aU _ _ _ _ _ _ _ (@bO _ (K) rfl) (@cK _ _ _ _ (@aA _ _ _ _ _ aD (@aA _ _ _ _ _ aD (@aA _ _ _ _ _ aD (@aA _ _ _ _ _ aD (@aA _ _ _ _ _ aD (@aA _ _ _ _ _ aD (@aA _ _ _ _ _ aD (@aA _ _ _ _ _ aD (@aA _ _ _ _ _ aD (@aA _ _ _ _ _ aD (@aA _ _ _ _ _ aD (@aA _ _ _ _ _ aD aE (by rfl)) (by rfl)) (by rfl)) (by rfl)) (by rfl)) (by rfl)) (by rfl)) (by rfl)) (by rfl)) (by rfl)) (by rfl)) (by rfl))) (@aR _ _ _ _ _ _ _ _ cG (@aR _ _ _ _ _ _ _ _ bR (pv 0) aD) aD) (fun _ _=>rfl)) (by rfl) (by trivial)) (@aG _ _ _ _ _ (@aY _ _ (5) _ _ _ _ fJ.nd rfl (Or.inl rfl) (@lB _ _ _ _ _ _ _ _ _ _ _ _ PySem.F.plainAttrs_str PySem.F.slot_str_join PySem.F.type_str_join aKE cP (aA (@cQ _ _ _ _ _ _ _ _ _ _ _ ["_law_j","_law_cell","_law_letters"] 1 [0,1] rfl (@gJ _ _ _ _ _ _ rfl T.n_range (aA (pv 2) aE) (by rfl)) (fun R=>@aN _ _ (0) _ (show List.Nodup (["_law_j","_law_cell","_law_letters"]:List Str) by decide +kernel) rfl (Or.inl rfl) (by trivial)) (@bG _ _ (by decide)) (fun R=>cN) (fun R=>(@aU _ _ _ _ _ _ _ aIK (pv 2) (@aR _ _ _ _ _ _ _ _ cG (@aR _ _ _ _ _ _ _ _ eE (@aR _ _ _ _ _ _ _ _ bR (pv 1) aD) (@aR _ _ _ _ _ _ _ _ vF (pv 0) (pv 0))) aD) (fun _ _=>rfl))) (by rfl) (by rfl) (by rfl) (by rfl) (by rfl) (by rfl) (by rfl) (by intro _;rfl)) aE) (by rfl) (by rfl) (by rfl) (by rfl) (by rfl)) (by rfl) (by trivial)) (@aG _ _ _ _ _ (@aY _ _ (6) _ _ _ _ fJ.nd rfl (Or.inl rfl) (@cK _ _ _ _ aE) (by rfl) (by trivial)) (@aG _ _ _ _ _ (@eC _ _ _ _ _ _ _ _ PassesOwn.never rfl (@gJ _ _ _ _ _ _ rfl T.n_range (@aA _ _ _ _ _ aD aE (by rfl)) (by rfl)) (@aN _ _ (7) _ fJ.nd rfl (Or.inl rfl) (by trivial)) (@aG _ _ _ _ _ (@aY _ _ (8) _ _ _ _ fJ.nd rfl (Or.inl rfl) (@aU _ _ _ _ _ _ _ aIK (pv 1) (@aR _ _ _ _ _ _ _ _ cG (@aR _ _ _ _ _ _ _ _ eE (@aR _ _ _ _ _ _ _ _ vF (pv 7) (pv 4)) (@aR _ _ _ _ _ _ _ _ bR (pv 0) aD)) aD) (fun _ _=>rfl)) (by rfl) (by trivial)) (@aI _ _ _ (@eI _ _ _ _ (@mI _ (K) _ _ _ _ _ rfl (@lB _ _ _ _ _ _ _ _ _ _ _ _ PySem.F.plainAttrs_list PySem.F.slot_list_append PySem.F.type_list_append dS (pv 6) (aA (@aR _ _ _ _ _ _ _ _ vG (@aR _ _ _ _ _ _ _ _ vG (@fS _ _ _ _ _ _ _ _ _ _ aHJ (pv 5) hV (@hU _ _ _ (pv 3))) (pv 8)) (@fS _ _ _ _ _ _ _ _ _ _ aHJ (pv 5) (@hU _ _ _ (@aR _ _ _ _ _ _ _ _ eE (pv 3) aD)) hV)) aE) (by rfl) (by rfl) (by rfl) (by rfl) (by rfl))) (by rfl)))) (by intro _;rfl)) (@aI _ _ _ (@aT _ _ _ _ (@cQ _ _ _ _ _ _ _ _ _ _ _ ["_law_name"] 1 [] rfl (@bJ _ (K) _ _ _ rfl (@bK _ _ _ _ (pv 6))) (fun R=>@aN _ _ (0) _ (show List.Nodup (["_law_name"]:List Str) by decide +kernel) rfl (Or.inl rfl) (by trivial)) (@bG _ _ (by decide)) (fun R=>@kU _ _ _ (@bH _ _ _ _ _ _ _ _ oS (pv 0) cP (@bF _ _ (by decide) (by decide)))) (fun R=>(pv 0)) (by rfl) (by rfl) (by rfl) (by rfl) (by rfl) (by rfl) (by rfl) (by intro _;rfl))))))))))),?_⟩
 have z0:0 ≤ c % 8:=Int.emod_nonneg _ (by decide)
 have z1:c % 8 < 8:=Int.emod_lt_of_pos _ (by decide)
 obtain ⟨sz,hsz⟩:=Int.eq_ofNat_of_zero_le (show 0 ≤ 1 + c % 8 by omega)
 refine ⟨_,rfl,_,_,rfl,rfl,(lH rfl),_,_,rfl,rfl,?_⟩
 dsimp only
 rw [hsz]
 have szp:(0:Int) < (sz:Int):=by omega
 refine ⟨_,rfl,_,_,rfl,rfl,⟨by decide,by decide⟩,_,rfl,_,_,rfl,rfl,szp,?_⟩
 have a0:0 ≤ c / 8 % (sz:Int):=Int.emod_nonneg _ (by omega)
 have a1:c / 8 % (sz:Int) < (sz:Int):=Int.emod_lt_of_pos _ (by omega)
 obtain ⟨at',hat⟩:=Int.eq_ofNat_of_zero_le a0
 dsimp only
 rw [hat]
 refine ⟨aQ rfl,fun pb hpb=>?_⟩
 have S0:=aK.upd (o:=.lst [.int 1,.int 3,.int 5,.int 7,.int 9,.int 11,.int 15,.int 17,.int 19,.int 21,.int 23,.int 25]) hpb
 obtain ⟨u,mu,eu⟩:=aPO (i:=c / 64 % 12) (Int.emod_nonneg _ (by decide)) (Int.emod_lt_of_pos _ (by decide))
 refine ⟨_,rfl,_,_,rfl,rfl,⟨by decide,by decide⟩,_,_,rfl,rfl,(lH rfl),pb,_,_,.int u,rfl,rfl,SqL.of aB,eu,?_⟩
 generalize upd H pb (.lst [.int 1,.int 3,.int 5,.int 7,.int 9,.int 11,.int 15,.int 17,.int 19,.int 21,.int 23,.int 25]) = H0 at S0
 refine ⟨rfl,_,rfl,_,rfl,by omega,by omega,?_⟩
 refine wO (lo:=0) (n:=sz) (by omega) (fun i ys H'=>H0 = H' ∧ ys = ((List.range i).map fun (j:Nat)=>vH (c / 768 + (j:Int) * (j:Int))).map V.str) ⟨rfl,rfl⟩ ?_ ?_ ?_
 ·rintro i ys H' ⟨rfl,rfl⟩
  simp
 ·rintro i ys H' K1 K2 hi ⟨rfl,rfl⟩ k1 k2
  refine ⟨_,rfl,_,rfl,_,_,rfl,rfl,⟨by decide,by decide⟩,_,rfl,_,rfl,_,_,rfl,rfl,.inl ⟨by omega,by omega⟩,_,_,rfl,rfl,_,_,rfl,rfl,(lH rfl),_,_,ab (c / 768 + (0 + (i:Int)) * (0 + (i:Int))),rfl,rfl,hss,aLM _,k1 _ _ ⟨rfl,?_⟩⟩
  rw [List.range_succ,List.map_append,List.map_append]
  show _ ++ [V.str (vH _)] = _ ++ [V.str (vH _)]
  rw [Int.zero_add]
 rintro ys H' ⟨rfl,rfl⟩
 intro p1 hp1
 have S1:=aK.upd (o:=.lst (((List.range sz).map fun (j:Nat)=>vH (c / 768 + (j:Int) * (j:Int))).map V.str)) hp1
 have lsum:((((List.range sz).map fun (j:Nat)=>vH (c / 768 + (j:Int) * (j:Int)))).map fun y=>y.length).sum = sz:=by
  rw [List.map_map]
  show ((List.range sz).map fun _=>1).sum = sz
  have e:∀ m:Nat,((List.range m).map fun _=>1).sum = m:=fun m=>by
   induction m with
   | zero=>rfl
   | succ m ih=>rw [List.range_succ,List.map_append,List.sum_append,ih];rfl
  exact e sz
 refine ⟨"",p1,(List.range sz).map fun (j:Nat)=>vH (c / 768 + (j:Int) * (j:Int)),rfl,rfl,SqL.of aB,by rw [lsum,List.length_map,List.length_range,show ("":Str).length = 0 by decide +kernel];omega,?_⟩
 generalize hb:Txt.join "" ((List.range sz).map fun (j:Nat)=>vH (c / 768 + (j:Int) * (j:Int))) = b
 have bc:b.cps.toList = (List.range sz).map fun (j:Nat)=>ab (c / 768 + (j:Int) * (j:Int)):=by
  rw [← hb,aDI,List.map_map]
  show (((List.range sz).map fun j=>[ab _]).flatten) = _
  induction (List.range sz) with
  | nil=>rfl
  | cons x r ih=>rw [List.map_cons,List.flatten_cons,ih,List.map_cons];rfl
 have bl:b.length = sz:=by rw [kD,bc,List.length_map,List.length_range]
 have ball:b.cps.toList.all iY = true:=by
  rw [bc,List.all_eq_true]
  intro x hx
  obtain ⟨j,_,rfl⟩:=List.mem_map.mp hx
  exact yN _
 have bs:b.length ≤ sizeLine:=by omega
 refine ⟨aQ rfl,fun l hl=>?_⟩
 have S2:=aK.upd (o:=.lst []) hl
 have hl0:=S1.free hl
 have ub:1 ≤ u ∧ u ≤ 25:=(show ∀ u ∈ units,1 ≤ u ∧ u ≤ 25 by decide +kernel) u mu
 refine ⟨_,rfl,by omega,by omega,?_⟩
 refine jA (lo:=0) (n:=26) (fun i σ H'=>∃ (v7 v8:Option V) (g:Nat → Str),σ = [some (.int c),some (.str "abcdefghijklmnopqrstuvwxyz"),some (.int sz),some (.int at'),some (.int u),some (.str b),some (.ref l),v7,v8] ∧ aK H0 H' ∧ H' l = some (.lst (((List.range i).map g).map V.str)) ∧ ∀ k,k < i → (g k).cps.toList = b.cps.toList.take at' ++ [ab ((k:Int) * u + c / 19968)] ++ b.cps.toList.drop (at' + 1))
  ⟨_,_,fun _=>"",rfl,S1.trans S2,aB,(fun k hk=>absurd hk (by omega))⟩ ?_ ?_
 ·rintro i σ H3 hi ⟨v7,v8,g,rfl,S3,hl3,pu⟩
  have ku:0 ≤ (0 + (i:Int)) * u:=Int.mul_nonneg (by omega) (by omega)
  refine ⟨_,rfl,_,rfl,_,rfl,_,_,rfl,rfl,.inl ⟨by omega,by omega⟩,_,rfl,_,_,rfl,rfl,⟨by decide,by decide⟩,_,_,rfl,rfl,_,_,rfl,rfl,(lH rfl),_,_,ab ((0 + (i:Int)) * u + c / 19968),rfl,rfl,hss,aLM _,?_⟩
  have tl:(Txt.slice b none (some (at':Int))).length ≤ 8:=by
   rw [kD,uE b at' (by omega),List.length_take]
   omega
  have dl:(Txt.slice b (some ((at':Int) + 1)) none).length ≤ 8:=by
   rw [show ((at':Int) + 1) = ((at' + 1:Nat):Int) from rfl,kD,wH b (at' + 1) (by omega),List.length_drop,← kD]
   omega
  have ia:(vH ((0 + (i:Int)) * u + c / 19968)).length = 1:=rfl
  have sh1:(vH ((0 + (i:Int)) * u + c / 19968)).cps.toList = [ab ((0 + (i:Int)) * u + c / 19968)]:=rfl
  refine ⟨_,rfl,.inl ⟨rfl,_,SqL.of hl3⟩,_,rfl,_,rfl,_,rfl,b,rfl,bs,_,rfl,_,_,rfl,rfl,?_,_,rfl,_,rfl,_,_,rfl,rfl,_,rfl,b,rfl,bs,_,_,rfl,rfl,?_,l,_,_,rfl,rfl,hl3,by rw [List.length_map,List.length_map,List.length_range];omega,?_⟩
  ·refine Nat.le_trans (Nat.add_le_add tl (Nat.le_of_eq ia)) (by omega)
  ·rw [Tx.app_len]
   refine Nat.le_trans (Nat.add_le_add (Nat.add_le_add tl (Nat.le_of_eq ia)) dl) (by omega)
  ·refine ⟨_,_,fun k=>if k = i then Txt.slice b none (some (at':Int)) ++ vH ((0 + (i:Int)) * u + c / 19968) ++ Txt.slice b (some ((at':Int) + 1)) none else g k,rfl,S3.over ?_,?_,fun k hk=>?_⟩
   ·exact hl0
   ·rw [aB,List.range_succ,List.map_append,List.map_append]
    have e1:(List.range i).map (fun k=>if k = i then Txt.slice b none (some (at':Int)) ++ vH ((0 + (i:Int)) * u + c / 19968) ++ Txt.slice b (some ((at':Int) + 1)) none else g k) = (List.range i).map g:=List.map_congr_left fun k m=>by
     rw [if_neg (by have:=List.mem_range.mp m;omega)]
    rw [e1]
    show _ = some (HO.lst (_ ++ [V.str (if i = i then _ else _)]))
    rw [if_pos rfl]
    rfl
   ·by_cases hki:k = i
    ·subst hki
     dsimp only
     rw [if_pos rfl]
     rw [Tx.app_codes,Tx.app_codes,uE b at' (by omega),show ((at':Int) + 1) = ((at' + 1:Nat):Int) from rfl,wH b (at' + 1) (by omega),sh1,Int.zero_add]
    ·dsimp only
     rw [if_neg hki]
     exact pu k (by omega)
 ·rintro σ H3 ⟨v7,v8,g,rfl,S3,hl3,pu⟩
  have NM:=aNW (g:=g) (r:=c / 19968) ball bl (by omega) (by omega) (by omega) mu pu
  refine ⟨_,rfl,l,rfl,⟨_,SqL.of hl3⟩,?_⟩
  generalize hzs:(List.range 26).map g = zs at *
  have lz:zs.length = 26:=by rw [← hzs,List.length_map,List.length_range]
  refine bV (F:=K) (xs:=zs.map V.str) (by rw [List.length_map];omega) (fun i ys H'=>H3 = H' ∧ ys = ((zs.take i).filter fun z=>!decide (z = ("sea":Str))).map V.str ∧ ys.length ≤ i) ⟨rfl,rfl,Nat.le_refl _⟩ ?_ ?_ ?_
  ·rintro i ys H' hi' ⟨rfl,rfl,hy⟩
   exact ⟨SqL.of hl3,hy⟩
  ·rintro i xv ys H' K1 K2 hx ⟨rfl,rfl,hy⟩ k1 k2
   obtain ⟨z,ez⟩:∃ z,zs[i]? = some z:=by
    have:=(List.getElem?_eq_some_iff.mp hx).1
    rw [List.length_map] at this
    exact ⟨_,List.getElem?_eq_getElem this⟩
   rw [List.getElem?_map,ez] at hx
   cases hx
   refine ⟨_,rfl,rfl,_,rfl,?_⟩
   show if (!decide (V.str z = V.str "sea")) = true then _ else _
   rw [lF]
   have et:((zs.take (i + 1)).filter fun z=>!decide (z = ("sea":Str))) = ((zs.take i).filter fun z=>!decide (z = ("sea":Str))) ++ (if (!decide (z = ("sea":Str))) = true then [z] else []):=by
    rw [List.take_add_one,ez,List.filter_append]
    cases hb:(!decide (z = ("sea":Str))) <;> simp_all
   cases hb:(!decide (z = ("sea":Str))) with
   | true =>
    rw [hb] at et
    refine bW ⟨_,rfl,k1 _ _ ⟨rfl,?_,by rw [List.length_append,List.length_singleton];omega⟩⟩
    rw [et,List.map_append]
    rfl
   | false =>
    rw [hb] at et
    refine bC (k2 _ ⟨rfl,?_,by omega⟩)
    rw [et]
    simp
  rintro ys H' ⟨rfl,rfl,hy⟩
  rw [List.length_map,List.take_of_length_le (Nat.le_refl _)]
  intro l2 hl2
  exact q _ l2 _ NM (S0.trans (S3.trans (aK.upd hl2))) (S0.free (S3.free hl2)) aB
theorem uB {i:Int} (h:hgt i = true):-1000000 ≤ i ∧ i ≤ 1000000:=by
 unfold hgt at h
 rw [Bool.and_eq_true,decide_eq_true_iff,decide_eq_true_iff] at h
 exact h
theorem eG:∀ {ds:List Dv},(∀ d ∈ ds,qJ d = true) → rG ds = true
 | [],_=>rfl
 | d :: ds,h=>by
  rw [rG,h d List.mem_cons_self,eG fun e m=>h e (List.mem_cons_of_mem _ m)]
  rfl
def aLA (K:PySem.W.Frag):Sp:=sp2 fun x y H Q=>∃ n:Nat,Scr K H x ∧ y = .int n ∧ 1 ≤ n ∧ n ≤ 12 ∧ ∀ (l:Addr) (vs:List V) (fs:List Dv) (H':Hp),aK H H' → H l = none → H' l = some (.lst vs) → IsL H' fs vs → Fds fs n → Q (.ref l) H'
theorem aBN (T:Txt K mg C):Fc P w K mg base 2 "_law_fields" ["_law_script","_law_most"] (aLA K):=by
 have G_l_names:Fc P w K mg base 1 "_law_names" ["_law_cell"] aLV:=vQ T
 have G_l_mixed:Fc P w K mg base 1 "_law_mixed" ["_law_script","_law_k"] (aFK K):=kZ T
 have G_l_height:Fc P w K mg base 1 "_law_height" ["_law_cell"] aHE:=lC T
 refine T.d_l_fields.fc iB gK (fun f cdv A outer s H vs Q E hr h=>?_)
 obtain ⟨x,y,rfl,n,⟨a,ns,rfl,hS,hns⟩,rfl,n1,n12,q⟩:=h
 have scr:Scr K H (.ref a):=⟨a,ns,rfl,hS,hns⟩
 have big:=bY
 refine ⟨_,(aG (@aY _ _ (2) _ _ _ _ iB.nd rfl (Or.inl rfl) (@bN _ _ _ _ _ _ _ _ _ _ G_l_names (hr.mono (by decide)) (aA (@bN _ _ _ _ _ _ _ _ _ _ G_l_mixed (hr.mono (by decide)) (aA (pv 0) (@aA _ _ _ _ _ aD aE (by rfl))) (by rfl) (by decide) (by rfl) (by rfl)) aE) (by rfl) (by decide) (by rfl) (by rfl)) (by rfl) (by trivial)) (aG (@aY _ _ (3) _ _ _ _ iB.nd rfl (Or.inl rfl) (@cK _ _ _ _ aE) (by rfl) (by trivial)) (aG (@eC _ _ _ _ _ _ _ _ PassesOwn.never rfl (@gJ _ _ _ _ _ _ rfl T.n_range (aA (@aR _ _ _ _ _ _ _ _ eE aD (@aR _ _ _ _ _ _ _ _ cG (@bN _ _ _ _ _ _ _ _ _ _ G_l_mixed (hr.mono (by decide)) (aA (pv 0) (@aA _ _ _ _ _ aD aE (by rfl))) (by rfl) (by decide) (by rfl) (by rfl)) (pv 1))) aE) (by rfl)) (@aN _ _ (4) _ iB.nd rfl (Or.inl rfl) (by trivial)) (aG (@aY _ _ (5) _ _ _ _ iB.nd rfl (Or.inl rfl) (@bN _ _ _ _ _ _ _ _ _ _ G_l_mixed (hr.mono (by decide)) (aA (pv 0) (aA (@aR _ _ _ _ _ _ _ _ eE aD (pv 4)) aE)) (by rfl) (by decide) (by rfl) (by rfl)) (by rfl) (by trivial)) (aG (@aY _ _ (6) _ _ _ _ iB.nd rfl (Or.inl rfl) (@aU _ _ _ _ _ _ _ (@bO _ (K) rfl) (@cK _ _ _ _ (aA aD (aA aD (aA (@aR _ _ _ _ _ _ _ _ eE aD (@aR _ _ _ _ _ _ _ _ cG (@aR _ _ _ _ _ _ _ _ bR (pv 5) aD) aD)) (aA (@aR _ _ _ _ _ _ _ _ cG (@aR _ _ _ _ _ _ _ _ bR (pv 5) aD) (@aR _ _ _ _ _ _ _ _ eE (@aR _ _ _ _ _ _ _ _ eD aD aD) aD)) aE))))) (@aR _ _ _ _ _ _ _ _ cG (pv 5) aD) (fun _ _=>rfl)) (by rfl) (by trivial)) (aI (@eI _ _ _ _ (@mI _ (K) _ _ _ _ _ rfl (@lB _ _ _ _ _ _ _ _ _ _ _ _ PySem.F.plainAttrs_list PySem.F.slot_list_append PySem.F.type_list_append dS (pv 3) (aA (@cU _ _ _ _ _ (aA (@aU _ _ _ _ _ _ _ (@bO _ (K) rfl) (pv 2) (pv 4) (fun _ _=>rfl)) (aA (@bN _ _ _ _ _ _ _ _ _ _ G_l_height (hr.mono (by decide)) (aA (@aR _ _ _ _ _ _ _ _ bR (pv 5) (@aR _ _ _ _ _ _ _ _ eD aD aD)) aE) (by rfl) (by decide) (by rfl) (by rfl)) (aA (pv 6) aE)))) aE) (by rfl) (by rfl) (by rfl) (by rfl) (by rfl))) (by rfl))))) (by intro _;rfl)) (aI (@aT _ _ _ _ (pv 3)))))),?_⟩
 refine ⟨_,rfl,_,_,rfl,0,scr,rfl,by decide,fun m0 hm0=>?_⟩
 refine ⟨_,rfl,m0,rfl,fun zs ln H1 NM S1 nln hln=>?_⟩
 refine ⟨aQ rfl,fun l hl=>?_⟩
 have S2:=aK.upd (o:=.lst []) hl
 have nl:H l = none:=S1.free hl
 have hl2:upd H1 l (.lst []) l = some (.lst []):=aB
 have T2:=S1.trans S2
 have hln2:=S2 _ _ hln
 have nll:ln ≠ l:=fun z=>by rw [z,hl2] at hln2;have:=(HO.lst.inj (Option.some.inj hln2));have h1:=NM.l1;rw [← List.length_map (f:=V.str),← this] at h1;exact absurd h1 (by decide)
 generalize upd H1 l (.lst []) = H2 at T2 hl2 hln2
 refine ⟨_,rfl,_,_,rfl,1,scr.same T2,rfl,by decide,fun m1 hm1=>?_⟩
 have np:(0:Int) < (n:Int):=by omega
 have r0:0 ≤ m1 % (n:Int):=Int.emod_nonneg _ (by omega)
 have r1:m1 % (n:Int) < (n:Int):=Int.emod_lt_of_pos _ np
 obtain ⟨cnt,hcnt⟩:=Int.eq_ofNat_of_zero_le (show 0 ≤ 1 + m1 % (n:Int) by omega)
 refine ⟨_,rfl,_,_,rfl,rfl,np,_,_,rfl,rfl,_,rfl,by show -(2 ^ 62) ≤ 1 + m1 % (n:Int);omega,by show 1 + m1 % (n:Int) < 2 ^ 62;omega,?_⟩
 rw [show (1 + m1 % (n:Int)).toNat = cnt by omega]
 have nz:=NM.l1
 refine jA (lo:=0) (n:=cnt) (fun i σ H'=>∃ (v4 v5 v6:Option V) (vs:List V) (es:List Dv),σ = [some (.ref a),some (.int n),some (.ref ln),some (.ref l),v4,v5,v6] ∧ cI l H2 H' ∧ H' l = some (.lst vs) ∧ IsL H' es vs ∧ es.map aJ = zs.take i ∧ es.length = i ∧ ∀ d ∈ es,cM d = true) ⟨_,_,_,[],[],rfl,(fun b o e _=>e),hl2,rfl,rfl,rfl,fun d m=>by cases m⟩ ?_ ?_
 ·rintro i σ H' hi ⟨v4,v5,v6,ys,es,rfl,X,hly,iy,en,le,all⟩
  have SH:aK H H':=fun b o e=>X _ _ (T2 _ _ e) (fun z=>by rw [z,nl] at e;cases e)
  have ly:=iy.length
  obtain ⟨z,ez⟩:∃ z,zs[i]? = some z:=⟨_,List.getElem?_eq_getElem (by omega)⟩
  have zi:(0:Int) + (i:Int) = (i:Int):=Int.zero_add _
  refine ⟨_,rfl,_,rfl,_,_,rfl,rfl,_,_,rfl,_,scr.same SH,rfl,by show 0 ≤ 2 + (0 + (i:Int));omega,fun mc hmc=>?_⟩
  have p6':(10:Int) ^ (6:Int).toNat = 1000000:=by decide
  have pm6:(0:Int) < 10 ^ (6:Int).toNat + 1:=by decide
  refine ⟨_,rfl,_,_,rfl,rfl,⟨by decide,by decide⟩,_,_,rfl,rfl,(lH rfl),_,_,rfl,rfl,_,rfl,_,_,rfl,rfl,⟨by decide,by decide⟩,_,_,rfl,rfl,⟨by decide,by decide,by decide⟩,_,_,rfl,rfl,_,_,rfl,rfl,pm6,aQ rfl,fun p1 hp1=>?_⟩
  have A1:=aK.upd (o:=.lst [.int 0,.int 1,.int (1 + mc / 16 % 5),.int (mc / 16 % (10 ^ (6:Int).toNat + 1))]) hp1
  obtain ⟨du,edu,hdu⟩:=at4 (a:=0) (b:=1) (c:=1 + mc / 16 % 5) (d:=mc / 16 % (10 ^ (6:Int).toNat + 1)) (i:=mc % 4) (Int.emod_nonneg _ (by decide)) (Int.emod_lt_of_pos _ (by decide))
  have du01:0 ≤ du ∧ du ≤ 1000000:=by
   have b0:=Int.emod_nonneg (mc / 16) (show (5:Int) ≠ 0 by decide)
   have b1:=Int.emod_lt_of_pos (mc / 16) (show (0:Int) < 5 by decide)
   rw [p6'] at hdu
   have c0:=Int.emod_nonneg (mc / 16) (show (1000000 + 1:Int) ≠ 0 by decide)
   have c1:=Int.emod_lt_of_pos (mc / 16) (show (0:Int) < 1000000 + 1 by decide)
   rcases hdu with rfl | rfl | rfl | rfl <;> omega
  refine ⟨_,rfl,_,_,rfl,rfl,(lH rfl),p1,_,_,.int du,rfl,rfl,SqL.of aB,edu,?_⟩
  generalize upd H' p1 (.lst [.int 0,.int 1,.int (1 + mc / 16 % 5),.int (mc / 16 % (10 ^ (6:Int).toNat + 1))]) = H4 at A1 ⊢
  refine ⟨_,rfl,.inl ⟨rfl,_,SqL.of (A1 _ _ hly)⟩,?_⟩
  refine ⟨_,rfl,_,rfl,ln,_,_,.str z,rfl,rfl,SqL.of (A1 _ _ (X _ _ hln2 nll)),(by rw [zi];exact aH (by rw [List.getElem?_map,ez];rfl)),?_⟩
  refine ⟨_,rfl,_,_,rfl,rfl,⟨by decide,by decide,by decide⟩,_,_,rfl,rfl,⟨by decide,by decide⟩,_,rfl,_,rfl,fun g hg=>?_⟩
  refine ⟨_,rfl,aQ rfl,fun t ht=>?_⟩
  have A2:=aK.upd (o:=.tup [.str z,.int g,.int du]) ht
  have A:=A1.trans A2
  have hl5:=A _ _ hly
  refine ⟨l,_,_,rfl,rfl,hl5,by omega,?_⟩
  have nmz:=NM.nm z (List.mem_of_getElem? ez)
  have ntl:t ≠ l:=fun e=>by rw [e,A1 _ _ hly] at ht;cases ht
  have kp:mZ H' (upd (upd H4 t (.tup [.str z,.int g,.int du])) l (.lst (ys ++ [.ref t]))):=fun b xs e=>by
   rw [aP (fun z=>by rw [z,hly] at e;cases e)]
   exact A _ _ e
  have hh:=uB hg
  refine ⟨_,_,_,ys ++ [.ref t],es ++ [.tup [.str z,.int g,.int du]],rfl,(X.then A).put,aB,IsL.snoc ?_ (IsL.keep kp _ _ (eG fun d m=>aDL (all d m)) iy),?_,by rw [List.length_append,le];rfl,?_⟩
  ·exact ⟨t,_,rfl,by rw [aP ntl,aB],_,_,rfl,rfl,_,_,rfl,rfl,_,_,rfl,rfl,rfl⟩
  ·rw [List.map_append,en,List.take_add_one,ez]
   rfl
  ·intro d md
   rcases List.mem_append.mp md with md | md
   ·exact all d md
   ·rw [List.mem_singleton.mp md]
    exact aIZ nmz hh.1 hh.2 du01.1 du01.2
 ·rintro σ H' ⟨v4,v5,v6,ys,es,rfl,X,hly,iy,en,le,all⟩
  have SH:aK H H':=fun b o e=>X _ _ (T2 _ _ e) (fun z=>by rw [z,nl] at e;cases e)
  refine ⟨_,rfl,q l ys es H' SH nl hly iy ⟨by omega,by omega,all,?_⟩⟩
  rw [en]
  exact NM.nd.sublist (List.take_sublist _ _)
open Mt21 Mt46
theorem rN {c:TT} {a b u:TS} {D:Ends} {σ:L2.St} {H:Hp} (R:L2.St → Hp → Prop) (h:∀ σ' H',R σ' H' → u D σ' H') (k:∀ D':Ends,(∀ σ' H',R σ' H' → D'.nx σ' H') → aGV c a b D' σ H):nB (aGV c a b) u D σ H:=k { D with nx:=u D } h
theorem aPJ {b:Bool} {A B X:Prop} (hA:A) (hX:A → b = false → X):if b = true then (if true = true then A else B) else X:=by
 cases b with
 | true=>rw [if_pos rfl,if_pos rfl];exact hA
 | false=>rw [if_neg (by intro z;cases z)];exact hX hA rfl
def aLB (K:PySem.W.Frag):Sp:=sp4 fun x y z u H Q=>∃ (ia im:Nat) (lf:Addr) (vf:List V) (fs:List Dv) (nf:Nat),Scr K H x ∧ y = .int ia ∧ ia ≤ 63 ∧ z = .int im ∧ 1 ≤ im ∧ im ≤ 20 ∧ u = .ref lf ∧ H lf = some (.lst vf) ∧ IsL H fs vf ∧ Fds fs nf ∧ nf ≤ 12 ∧
 ∀ (l:Addr) (us:List V) (ds:List Dv) (H':Hp),aK H H' → H l = none → H' l = some (.lst us) → IsL H' ds us → Dks ("sea" :: fs.map aJ) ds im → Q (.ref l) H'
theorem aDC (T:Txt K mg C):Fc P w K mg base 2 "_law_dykes" ["_law_script","_law_at","_law_most","_law_fields_here"] (aLB K):=by
 have G_l_names:Fc P w K mg base 1 "_law_names" ["_law_cell"] aLV:=vQ T
 have G_l_mixed:Fc P w K mg base 1 "_law_mixed" ["_law_script","_law_k"] (aFK K):=kZ T
 have G_l_height:Fc P w K mg base 1 "_law_height" ["_law_cell"] aHE:=lC T
 refine T.d_l_dykes.fc dD aBV (fun f cdv A outer s H vs Q E hr h=>?_)
 obtain ⟨x,y,z,u,rfl,ia,im,lf,vf,fs,nf,⟨a,ns,rfl,hS,hns⟩,rfl,ia63,rfl,im1,im20,rfl,hlf,iff,gf,nf12,q⟩:=h
 have scr:Scr K H (.ref a):=⟨a,ns,rfl,hS,hns⟩
 have big:=bY
 have lvf:=iff.length
 have f1:=gf.l1
 have f2:=gf.l2
 have snd:=aHL gf
 refine ⟨_,(aG (@aY _ _ (4) _ _ _ _ dD.nd rfl (Or.inl rfl) (@bN _ _ _ _ _ _ _ _ _ _ G_l_names (hr.mono (by decide)) (aA (@aR _ _ _ _ _ _ _ _ bR (@bN _ _ _ _ _ _ _ _ _ _ G_l_mixed (hr.mono (by decide)) (aA (pv 0) (@aA _ _ _ _ _ aD aE (by rfl))) (by rfl) (by decide) (by rfl) (by rfl)) (@aR _ _ _ _ _ _ _ _ eD aD aD)) aE) (by rfl) (by decide) (by rfl) (by rfl)) (by rfl) (by trivial)) (aG (@aY _ _ (5) _ _ _ _ dD.nd rfl (Or.inl rfl) (@aR _ _ _ _ _ _ _ _ aCY (@cK _ _ _ _ (aA cP aE)) (@cQ _ _ _ _ _ _ _ _ _ _ _ ["_law_field"] 1 [] rfl (@bJ _ (K) _ _ _ rfl (@bK _ _ _ _ (pv 3))) (fun R=>@aN _ _ (0) _ (show List.Nodup (["_law_field"]:List Str) by decide +kernel) rfl (Or.inl rfl) (by trivial)) (@bG _ _ (by decide)) (fun R=>cN) (fun R=>(@aU _ _ _ _ _ _ _ (@aM _ (K) rfl) (pv 0) aD (fun _ _=>rfl))) (by rfl) (by rfl) (by rfl) (by rfl) (by rfl) (by rfl) (by rfl) (by intro _;rfl))) (by rfl) (by trivial)) (aG (@aY _ _ (6) _ _ _ _ dD.nd rfl (Or.inl rfl) (@cK _ _ _ _ aE) (by rfl) (by trivial)) (aG (@eC _ _ _ _ _ _ _ _ PassesOwn.never rfl (@gJ _ _ _ _ _ _ rfl T.n_range (aA (@aZ _ _ _ _ _ _ _ _ _ (@mV _ rfl) rfl T.n_max kF (aA aD (aA (@aZ _ _ _ _ _ _ _ _ _ (@mU _ rfl) rfl T.n_min mX (aA (pv 2) (aA (@aR _ _ _ _ _ _ _ _ lJ (@aZ _ _ _ _ _ _ _ _ _ (@bU _ (K) rfl) rfl T.n_len cT (aA (pv 0) aE) (by decide) (by decide) (by rfl) (by rfl)) (pv 1)) aE)) (by decide) (by decide) (by rfl) (by rfl)) aE)) (by decide) (by decide) (by rfl) (by rfl)) aE) (by rfl)) (@aN _ _ (7) _ dD.nd rfl (Or.inl rfl) (by trivial)) (aG (@aY _ _ (8) _ _ _ _ dD.nd rfl (Or.inl rfl) (@bN _ _ _ _ _ _ _ _ _ _ G_l_mixed (hr.mono (by decide)) (aA (pv 0) (aA (@aR _ _ _ _ _ _ _ _ eE (pv 1) (pv 7)) aE)) (by rfl) (by decide) (by rfl) (by rfl)) (by rfl) (by trivial)) (aG (@aY _ _ (9) _ _ _ _ dD.nd rfl (Or.inr rfl) (@aU _ _ _ _ _ _ _ (@bO _ (K) rfl) (pv 5) (@aR _ _ _ _ _ _ _ _ cG (pv 8) (@aZ _ _ _ _ _ _ _ _ _ (@bU _ (K) rfl) rfl T.n_len cT (aA (pv 5) aE) (by decide) (by decide) (by rfl) (by rfl))) (fun _ _=>rfl)) (by rfl) (by trivial)) (aG (@nH _ (10) _ _ _ _ _ _ _ _ _ _ _ _ _ dD.nd rfl ["_law_side","_law_one"] 1 [9] rfl (@bJ _ (K) _ _ _ rfl (@bK _ _ _ _ (pv 5))) (fun R=>@aN _ _ (0) _ (show List.Nodup (["_law_side","_law_one"]:List Str) by decide +kernel) rfl (Or.inl rfl) (by trivial)) (@bG _ _ (by decide)) (fun R=>@kU _ _ _ (@bH _ _ _ _ _ _ _ _ oS (pv 0) (pv 1) (@bF _ _ (by decide) (by decide)))) (fun R=>(pv 0)) (by exact Or.inl rfl) (by trivial) (by rfl) (by rfl) (by rfl) (by rfl) (by rfl) (by rfl) (by rfl) (by rfl) (by intro _;rfl)) (aG (@aY _ _ (11) _ _ _ _ dD.nd rfl (Or.inl rfl) (@aU _ _ _ _ _ _ _ (@bO _ (K) rfl) (pv 10) (@aR _ _ _ _ _ _ _ _ cG (@aR _ _ _ _ _ _ _ _ bR (pv 8) aD) (@aZ _ _ _ _ _ _ _ _ _ (@bU _ (K) rfl) rfl T.n_len cT (aA (pv 10) aE) (by decide) (by decide) (by rfl) (by rfl))) (fun _ _=>rfl)) (by rfl) (by trivial)) (aG (@aY _ _ (12) _ _ _ _ dD.nd rfl (Or.inl rfl) (@bN _ _ _ _ _ _ _ _ _ _ G_l_height (hr.mono (by decide)) (aA (@aR _ _ _ _ _ _ _ _ bR (pv 8) aD) aE) (by rfl) (by decide) (by rfl) (by rfl)) (by rfl) (by trivial)) (aG (@aY _ _ (13) _ _ _ _ dD.nd rfl (Or.inl rfl) (@aU _ _ _ _ _ _ _ (@bO _ (K) rfl) (@cK _ _ _ _ (aA aD (aA aD (aA (@aR _ _ _ _ _ _ _ _ eE aD (@aR _ _ _ _ _ _ _ _ cG (@aR _ _ _ _ _ _ _ _ bR (pv 8) (@aR _ _ _ _ _ _ _ _ eD aD aD)) aD)) (aA (@aR _ _ _ _ _ _ _ _ cG (@aR _ _ _ _ _ _ _ _ bR (pv 8) (@aR _ _ _ _ _ _ _ _ eD aD aD)) (@aR _ _ _ _ _ _ _ _ eE (@aR _ _ _ _ _ _ _ _ eD aD aD) aD)) aE))))) (@aR _ _ _ _ _ _ _ _ cG (@aR _ _ _ _ _ _ _ _ bR (pv 8) (@aR _ _ _ _ _ _ _ _ eD aD aD)) aD) (fun _ _=>rfl)) (by rfl) (by trivial)) (aG (@aY _ _ (14) _ _ _ _ dD.nd rfl (Or.inl rfl) (@aR _ _ _ _ _ _ _ _ lJ (@aR _ _ _ _ _ _ _ _ lJ (pv 12) aD) (@aU _ _ _ _ _ _ _ (@bO _ (K) rfl) (@cK _ _ _ _ (aA aD (aA aD (aA aD (aA (@aR _ _ _ _ _ _ _ _ eD aD aD) aE))))) (@aR _ _ _ _ _ _ _ _ cG (@aR _ _ _ _ _ _ _ _ bR (pv 8) (@aR _ _ _ _ _ _ _ _ eD aD aD)) aD) (fun _ _=>rfl))) (by rfl) (by trivial)) (aG (@cD _ _ _ _ _ _ _ _ (@PW.pt _ _ _ (@jZ _ _ _ _ _ _ _ (@bH _ _ _ _ _ _ _ _ iD (@aR _ _ _ _ _ _ _ _ cG (@aR _ _ _ _ _ _ _ _ bR (pv 8) (@aR _ _ _ _ _ _ _ _ eD aD aD)) aD) aD (@bF _ _ (by decide) (by decide))) (@jS _ _ _ _ (@bH _ _ _ _ _ _ _ _ sP (pv 14) (@aR _ _ _ _ _ _ _ _ lJ aD (@aR _ _ _ _ _ _ _ _ eD aD aD)) (@bF _ _ (by decide) (by decide)))))) (aI (@aY _ _ (14) _ _ _ _ dD.nd rfl (Or.inl rfl) jT (by rfl) (by trivial))) bE) (aI (@eI _ _ _ _ (@mI _ (K) _ _ _ _ _ rfl (@lB _ _ _ _ _ _ _ _ _ _ _ _ PySem.F.plainAttrs_list PySem.F.slot_list_append PySem.F.type_list_append dS (pv 6) (aA (@cU _ _ _ _ _ (@aA _ _ _ _ _ (@aU _ _ _ _ _ _ _ (@bO _ (K) rfl) (pv 4) (pv 7) (fun _ _=>rfl)) (@aA _ _ _ _ _ (pv 9) (@aA _ _ _ _ _ (pv 11) (@aA _ _ _ _ _ (pv 12) (@aA _ _ _ _ _ (pv 13) (@aA _ _ _ _ _ (pv 14) aE (by rfl)) (by rfl)) (by rfl)) (by rfl)) (by rfl)) (by rfl))) aE) (by rfl) (by rfl) (by rfl) (by rfl) (by rfl))) (by rfl))))))))))) (by intro _;rfl)) (aI (@aT _ _ _ _ (pv 6))))))),?_⟩
 refine ⟨_,rfl,_,_,rfl,1,scr,rfl,by decide,fun m0 hm0=>?_⟩
 refine ⟨_,_,rfl,rfl,⟨by decide,by decide,by decide⟩,_,_,rfl,rfl,⟨by decide,by decide⟩,_,rfl,_,rfl,fun zs ln H1 NM S1 nln hln=>?_⟩
 refine ⟨aQ rfl,fun p1 hp1=>?_⟩
 have A1:=aK.upd (o:=.lst [.str "sea"]) hp1
 have B1:=S1.trans A1
 refine ⟨_,rfl,lf,rfl,⟨_,SqL.of (B1 _ _ hlf)⟩,?_⟩
 refine bV (F:=K) (xs:=vf) (by omega) (fun i ys H'=>upd H1 p1 (.lst [.str "sea"]) = H' ∧ ys = ((fs.take i).map aJ).map V.str) ⟨rfl,rfl⟩ ?_ ?_ ?_
 ·rintro i ys H' hi' ⟨rfl,rfl⟩
  exact ⟨SqL.of (B1 _ _ hlf),by rw [List.length_map,List.length_map,List.length_take];omega⟩
 ·rintro i xv ys H' K1 K2 hx ⟨rfl,rfl⟩ k1 k2
  have hil:i < vf.length:=(List.getElem?_eq_some_iff.mp hx).1
  obtain ⟨d,ed⟩:∃ d,fs[i]? = some d:=⟨_,List.getElem?_eq_getElem (by omega)⟩
  obtain ⟨v,ev,iv⟩:=iff.get ed
  rw [hx] at ev
  cases ev
  obtain ⟨z,g,e,rfl,_⟩:=bP (gf.all d (List.mem_of_getElem? ed))
  obtain ⟨t,rfl,o⟩:=gM iv
  refine ⟨_,rfl,t,_,0,.str z,rfl,rfl,SqT.of (B1 _ _ o),aH (j:=0) rfl,k1 _ _ ⟨rfl,?_⟩⟩
  rw [List.take_add_one,ed]
  simp [aJ,cV]
 rintro ys H' ⟨rfl,rfl⟩
 rw [List.take_of_length_le (by omega)]
 intro p2 hp2
 have A2:=aK.upd (o:=.lst ((fs.map aJ).map V.str)) hp2
 refine ⟨p1,p2,_,_,rfl,rfl,A2 _ _ aB,aB,by simp only [List.length_map,List.length_cons,List.length_nil];omega,fun ls hls=>?_⟩
 have A3:=aK.upd (o:=.lst ([.str "sea"] ++ (fs.map aJ).map V.str)) hls
 have B3:=B1.trans (A2.trans A3)
 have C3:=A1.trans (A2.trans A3)
 have hls3:upd (upd (upd H1 p1 (.lst [.str "sea"])) p2 (.lst ((fs.map aJ).map V.str))) ls (.lst ([.str "sea"] ++ (fs.map aJ).map V.str)) ls = some (.lst ((("sea":Str) :: fs.map aJ).map V.str)):=aB
 have hln3:=C3 _ _ hln
 generalize upd (upd (upd H1 p1 (.lst [.str "sea"])) p2 (.lst ((fs.map aJ).map V.str))) ls (.lst ([.str "sea"] ++ (fs.map aJ).map V.str)) = H3 at B3 hls3 hln3
 generalize hsd:(("sea":Str) :: fs.map aJ) = sd at *
 have lsd:2 ≤ sd.length ∧ sd.length ≤ 13:=by rw [← hsd,List.length_cons,List.length_map];omega
 refine ⟨aQ rfl,fun l hl=>?_⟩
 have S4:=aK.upd (o:=.lst []) hl
 have T4:=B3.trans S4
 have nl:H l = none:=B3.free hl
 have hl4:upd H3 l (.lst []) l = some (.lst []):=aB
 have hls4:=S4 _ _ hls3
 have hln4:=S4 _ _ hln3
 have nls:ls ≠ l:=fun z=>by rw [z,hl] at hls3;cases hls3
 have nll:ln ≠ l:=fun z=>by rw [z,hl] at hln3;cases hln3
 generalize upd H3 l (.lst []) = H4 at T4 hl4 hls4 hln4
 have lns:(ns.map V.int).length = ns.length:=List.length_map ..
 refine ⟨_,rfl,_,rfl,a,_,rfl,.inl (T4.seq hS),_,rfl,_,_,rfl,rfl,_,_,rfl,_,_,rfl,?_⟩
 obtain ⟨cnt,hcnt,c1,c2⟩:∃ cnt:Nat,(if (if (((ns.map V.int).length:Nat):Int) - (ia:Int) < (im:Int) then (((ns.map V.int).length:Nat):Int) - (ia:Int) else (im:Int)) > 1 then (if (((ns.map V.int).length:Nat):Int) - (ia:Int) < (im:Int) then (((ns.map V.int).length:Nat):Int) - (ia:Int) else (im:Int)) else 1) = (cnt:Int) ∧ 1 ≤ cnt ∧ cnt ≤ im:=by
  generalize (((ns.map V.int).length:Nat):Int) - (ia:Int) = w
  by_cases h1:w < (im:Int)
  ·rw [if_pos h1]
   by_cases h2:w > 1
   ·rw [if_pos h2]
    exact ⟨w.toNat,by omega,by omega,by omega⟩
   ·rw [if_neg h2]
    exact ⟨1,rfl,by omega,by omega⟩
  ·rw [if_neg h1]
   by_cases h2:(im:Int) > 1
   ·rw [if_pos h2]
    exact ⟨im,rfl,by omega,by omega⟩
   ·rw [if_neg h2]
    exact ⟨1,rfl,by omega,by omega⟩
 refine ⟨(cnt:Int),congrArg (fun x=>[V.int x]) hcnt,by omega,by omega,?_⟩
 rw [Int.toNat_natCast]
 have nz:=NM.l1
 refine jA (lo:=0) (n:=cnt) (fun i σ H'=>∃ (w7 w8 w9 w10 w11 w12 w13 w14:Option V) (vs:List V) (es:List Dv),σ = [some (.ref a),some (.int ia),some (.int im),some (.ref lf),some (.ref ln),some (.ref ls),some (.ref l),w7,w8,w9,w10,w11,w12,w13,w14] ∧ cI l H4 H' ∧ H' l = some (.lst vs) ∧ IsL H' es vs ∧ es.map aJ = zs.take i ∧ es.length = i ∧ ∀ d ∈ es,dA sd d = true) ⟨_,_,_,_,_,_,_,_,[],[],rfl,(fun b o e _=>e),hl4,rfl,rfl,rfl,fun d m=>by cases m⟩ ?_ ?_
 ·rintro i σ H' hi ⟨w7,w8,w9,w10,w11,w12,w13,w14,ys,es,rfl,X,hly,iy,en,le,all⟩
  refine xY fun D1 hD1=>?_
  have SH:aK H H':=fun b o e=>X _ _ (T4 _ _ e) (fun z=>by rw [z,nl] at e;cases e)
  have ly:=iy.length
  obtain ⟨z,ez⟩:∃ z,zs[i]? = some z:=⟨_,List.getElem?_eq_getElem (by omega)⟩
  have nmz:=NM.nm z (List.mem_of_getElem? ez)
  have zi:(0:Int) + (i:Int) = (i:Int):=Int.zero_add _
  refine ⟨_,rfl,_,rfl,_,rfl,_,_,rfl,rfl,_,_,rfl,_,scr.same SH,rfl,by show 0 ≤ (ia:Int) + (0 + (i:Int));omega,fun mc hmc=>?_⟩
  have hls5:=X _ _ hls4 nls
  have psd:(0:Int) < (((sd.map V.str).length:Nat):Int):=by rw [List.length_map];omega
  have o0:0 ≤ mc % (((sd.map V.str).length:Nat):Int):=Int.emod_nonneg _ (by omega)
  have o1:mc % (((sd.map V.str).length:Nat):Int) < (((sd.map V.str).length:Nat):Int):=Int.emod_lt_of_pos _ psd
  obtain ⟨k1',hk1⟩:=Int.eq_ofNat_of_zero_le o0
  have lk1:k1' < sd.length:=by rw [hk1,List.length_map] at o1;omega
  obtain ⟨one,eone⟩:∃ z,sd[k1']? = some z:=⟨_,List.getElem?_eq_getElem lk1⟩
  refine ⟨_,rfl,_,rfl,_,rfl,ls,_,rfl,.inl (SqL.of hls5),_,_,rfl,rfl,psd,ls,_,_,.str one,rfl,rfl,SqL.of hls5,by rw [hk1];exact aH (by rw [List.getElem?_map,eone];rfl),?_⟩
  refine ⟨_,rfl,ls,rfl,⟨_,SqL.of hls5⟩,?_⟩
  refine bV (F:=K) (xs:=sd.map V.str) (by rw [List.length_map];omega) (fun i ys Hx=>H' = Hx ∧ ys = ((sd.take i).filter fun y=>!decide (y = one)).map V.str ∧ ys.length ≤ i) ⟨rfl,rfl,Nat.le_refl _⟩ ?_ ?_ ?_
  ·rintro i ys Hx hi' ⟨rfl,rfl,hy⟩
   exact ⟨SqL.of hls5,hy⟩
  ·rintro i xv ys Hx K1 K2 hx ⟨rfl,rfl,hy⟩ k1 k2
   obtain ⟨y,ey⟩:∃ y,sd[i]? = some y:=by
    have:=(List.getElem?_eq_some_iff.mp hx).1
    rw [List.length_map] at this
    exact ⟨_,List.getElem?_eq_getElem this⟩
   rw [List.getElem?_map,ey] at hx
   cases hx
   refine ⟨_,rfl,_,rfl,rfl,_,rfl,?_⟩
   show if (!decide (V.str y = V.str one)) = true then _ else _
   rw [lF]
   have et:((sd.take (i + 1)).filter fun y=>!decide (y = one)) = ((sd.take i).filter fun y=>!decide (y = one)) ++ (if (!decide (y = one)) = true then [y] else []):=by
    rw [List.take_add_one,ey,List.filter_append]
    cases hb:(!decide (y = one)) <;> simp_all
   cases hb:(!decide (y = one)) with
   | true =>
    rw [hb] at et
    refine bW ⟨_,rfl,k1 _ _ ⟨rfl,?_,by rw [List.length_append,List.length_singleton];omega⟩⟩
    rw [et,List.map_append]
    rfl
   | false =>
    rw [hb] at et
    refine bC (k2 _ ⟨rfl,?_,by omega⟩)
    rw [et]
    simp
  rintro ys' Hx ⟨rfl,rfl,hy⟩
  rw [List.length_map,List.take_of_length_le (Nat.le_refl _)]
  intro po hpo
  have A5:=aK.upd (o:=.lst ((sd.filter fun y=>!decide (y = one)).map V.str)) hpo
  have hpo5:upd H' po (.lst ((sd.filter fun y=>!decide (y = one)).map V.str)) po = some (.lst ((sd.filter fun y=>!decide (y = one)).map V.str)):=aB
  have lot:=aDH one sd snd
  have pot:(0:Int) < ((((sd.filter fun y=>!decide (y = one)).map V.str).length:Nat):Int):=by rw [List.length_map];omega
  generalize hot:(sd.filter fun y=>!decide (y = one)) = ot at *
  generalize upd H' po (.lst (ot.map V.str)) = H5 at A5 hpo5 ⊢
  have q0:0 ≤ mc / 16 % (((ot.map V.str).length:Nat):Int):=Int.emod_nonneg _ (by omega)
  have q1:mc / 16 % (((ot.map V.str).length:Nat):Int) < (((ot.map V.str).length:Nat):Int):=Int.emod_lt_of_pos _ pot
  obtain ⟨k2',hk2⟩:=Int.eq_ofNat_of_zero_le q0
  have lk2:k2' < ot.length:=by rw [hk2,List.length_map] at q1;omega
  obtain ⟨oth,eoth⟩:∃ z,ot[k2']? = some z:=⟨_,List.getElem?_eq_getElem lk2⟩
  have moth:=List.mem_of_getElem? eoth
  rw [← hot] at moth
  obtain ⟨moth1,moth2⟩:=List.mem_filter.mp moth
  have noth:one ≠ oth:=fun e=>by rw [e] at moth2;simp at moth2
  refine ⟨_,rfl,_,rfl,_,_,rfl,rfl,⟨by decide,by decide⟩,_,rfl,po,_,rfl,.inl (SqL.of hpo5),_,_,rfl,rfl,pot,po,_,_,.str oth,rfl,rfl,SqL.of hpo5,by rw [hk2];exact aH (by rw [List.getElem?_map,eoth];rfl),?_⟩
  refine ⟨_,rfl,_,_,rfl,rfl,⟨by decide,by decide⟩,_,rfl,_,rfl,fun cr hcr=>?_⟩
  have hcr':=uB hcr
  have p6':(10:Int) ^ (6:Int).toNat = 1000000:=by decide
  have pm6:(0:Int) < 10 ^ (6:Int).toNat + 1:=by decide
  refine ⟨_,rfl,_,_,rfl,rfl,⟨by decide,by decide,by decide⟩,_,_,rfl,rfl,⟨by decide,by decide⟩,_,_,rfl,rfl,(lH rfl),_,_,rfl,rfl,_,rfl,_,_,rfl,rfl,⟨by decide,by decide,by decide⟩,_,_,rfl,rfl,⟨by decide,by decide⟩,_,_,rfl,rfl,⟨by decide,by decide,by decide⟩,_,_,rfl,rfl,_,_,rfl,rfl,pm6,aQ rfl,fun p6 hp6=>?_⟩
  have A6:=aK.upd (o:=.lst [.int 0,.int 1,.int (1 + mc / 10 ^ (9:Int).toNat % 4),.int (mc / 10 ^ (9:Int).toNat % (10 ^ (6:Int).toNat + 1))]) hp6
  obtain ⟨rt,ert,hrt⟩:=at4 (a:=0) (b:=1) (c:=1 + mc / 10 ^ (9:Int).toNat % 4) (d:=mc / 10 ^ (9:Int).toNat % (10 ^ (6:Int).toNat + 1)) (i:=mc / 10 ^ (8:Int).toNat % 4) (Int.emod_nonneg _ (by decide)) (Int.emod_lt_of_pos _ (by decide))
  have rt01:0 ≤ rt ∧ rt ≤ 1000000:=by
   have b0:=Int.emod_nonneg (mc / 10 ^ (9:Int).toNat) (show (4:Int) ≠ 0 by decide)
   have b1:=Int.emod_lt_of_pos (mc / 10 ^ (9:Int).toNat) (show (0:Int) < 4 by decide)
   rw [p6'] at hrt
   have c0:=Int.emod_nonneg (mc / 10 ^ (9:Int).toNat) (show (1000000 + 1:Int) ≠ 0 by decide)
   have c1:=Int.emod_lt_of_pos (mc / 10 ^ (9:Int).toNat) (show (0:Int) < 1000000 + 1 by decide)
   rcases hrt with rfl | rfl | rfl | rfl <;> omega
  refine ⟨_,rfl,_,_,rfl,rfl,⟨by decide,by decide,by decide⟩,_,_,rfl,rfl,⟨by decide,by decide⟩,_,_,rfl,rfl,(lH rfl),p6,_,_,.int rt,rfl,rfl,SqL.of aB,ert,?_⟩
  generalize upd H5 p6 (.lst [.int 0,.int 1,.int (1 + mc / 10 ^ (9:Int).toNat % 4),.int (mc / 10 ^ (9:Int).toNat % (10 ^ (6:Int).toNat + 1))]) = H6 at A6 ⊢
  refine ⟨_,rfl,_,_,rfl,rfl,_,_,rfl,rfl,⟨by decide,by decide,by decide⟩,aQ rfl,fun p7 hp7=>?_⟩
  have A7:=aK.upd (o:=.lst [.int 0,.int 1,.int 2,.int (10 ^ (5:Int).toNat)]) hp7
  obtain ⟨sx,esx,hsx⟩:=at4 (a:=0) (b:=1) (c:=2) (d:=10 ^ (5:Int).toNat) (i:=mc / 10 ^ (15:Int).toNat % 4) (Int.emod_nonneg _ (by decide)) (Int.emod_lt_of_pos _ (by decide))
  have sx0:0 ≤ sx:=by rcases hsx with rfl | rfl | rfl | rfl <;> decide
  refine ⟨_,rfl,_,_,rfl,rfl,⟨by decide,by decide,by decide⟩,_,_,rfl,rfl,⟨by decide,by decide⟩,_,_,rfl,rfl,(lH rfl),p7,_,_,.int sx,rfl,rfl,SqL.of aB,esx,_,_,rfl,rfl,?_⟩
  generalize upd H6 p7 (.lst [.int 0,.int 1,.int 2,.int (10 ^ (5:Int).toNat)]) = H7 at A7 ⊢
  have A57:=A5.trans (A6.trans A7)
  unfold qA
  dsimp only
  refine rN (fun σ' Hz=>Hz = H7 ∧ ∃ (sv:V) (sl:Dv),σ' = [some (.ref a),some (.int ia),some (.int im),some (.ref lf),some (.ref ln),some (.ref ls),some (.ref l),some (.int (0 + (i:Int))),some (.int mc),some (.str one),some (.ref po),some (.str oth),some (.int cr),some (.int rt),some sv] ∧ (∀ G:Hp,Is G sl sv) ∧ lN (.int cr) sl = true ∧ qJ sl = true) (fun σ' Hz hR=>?_) (fun D' hD=>?_)
  rotate_left
  ·refine ⟨_,rfl,_,_,rfl,rfl,⟨by decide,by decide,by decide⟩,_,_,rfl,rfl,⟨by decide,by decide⟩,_,_,rfl,rfl,(lH rfl),rfl,_,rfl,?_⟩
   rw [kB]
   dsimp only
   refine aPJ ?_ (fun none' c1'=>?_)
   ·exact hD _ _ ⟨rfl,.non,.non,rfl,(fun _=>rfl),rfl,rfl⟩
   refine ⟨_,rfl,_,_,rfl,rfl,⟨by decide,by decide,by decide⟩,_,_,rfl,rfl,_,_,rfl,rfl,_,rfl,?_⟩
   refine mP (fun _=>none') (fun h2=>?_)
   have h2':¬ (cr - 1 - sx < 0 - 10 ^ (6:Int).toNat):=fun h=>h2 (decide_eq_true h)
   rw [p6'] at h2'
   refine hD _ _ ⟨rfl,.int (cr - 1 - sx),.int (cr - 1 - sx),rfl,(fun _=>rfl),?_,rfl⟩
   show (hgt _ && decide _) = true
   rw [zR (by omega) (by omega),decide_eq_true (by omega)]
   rfl
  obtain ⟨rfl,sv,sl,rfl,isv,okS,hrdS⟩:=hR
  have hly7:=A57 _ _ hly
  refine ⟨_,rfl,.inl ⟨rfl,_,SqL.of hly7⟩,?_⟩
  refine ⟨_,rfl,_,rfl,ln,_,_,.str z,rfl,rfl,SqL.of (A57 _ _ (X _ _ hln4 nll)),(by rw [zi];exact aH (by rw [List.getElem?_map,ez];rfl)),_,rfl,_,rfl,_,rfl,_,rfl,_,rfl,aQ rfl,fun t ht=>?_⟩
  have A8:=aK.upd (o:=.tup [.str z,.str one,.str oth,.int cr,.int rt,sv]) ht
  have A58:=A57.trans A8
  refine ⟨l,_,_,rfl,rfl,A58 _ _ hly,by omega,?_⟩
  have ntl:t ≠ l:=fun e=>by rw [e,hly7] at ht;cases ht
  have kp:mZ H' (upd (upd Hz t (.tup [.str z,.str one,.str oth,.int cr,.int rt,sv])) l (.lst (ys ++ [.ref t]))):=fun b xs e=>by
   rw [aP (fun z=>by rw [z,hly] at e;cases e)]
   exact A58 _ _ e
  refine hD1 _ _ ⟨_,_,_,_,_,_,_,_,ys ++ [.ref t],es ++ [.tup [.str z,.str one,.str oth,.int cr,.int rt,sl]],rfl,(X.then A58).put,aB,IsL.snoc ?_ (IsL.keep kp _ _ (eG fun d m=>sE (all d m)) iy),?_,by rw [List.length_append,le];rfl,?_⟩
  ·exact ⟨t,_,rfl,by rw [aP ntl,aB],_,_,rfl,rfl,_,_,rfl,rfl,_,_,rfl,rfl,_,_,rfl,rfl,_,_,rfl,rfl,_,_,rfl,isv _,rfl⟩
  ·rw [List.map_append,en,List.take_add_one,ez]
   rfl
  ·intro d md
   rcases List.mem_append.mp md with md | md
   ·exact all d md
   ·rw [List.mem_singleton.mp md]
    exact aKM nmz (List.mem_of_getElem? eone) moth1 noth hcr (aMS rt01.1 rt01.2) okS
 ·rintro σ H' ⟨w7,w8,w9,w10,w11,w12,w13,w14,ys,es,rfl,X,hly,iy,en,le,all⟩
  have SH:aK H H':=fun b o e=>X _ _ (T4 _ _ e) (fun z=>by rw [z,nl] at e;cases e)
  refine ⟨_,rfl,q l ys es H' SH nl hly iy ⟨by omega,by omega,all,?_⟩⟩
  rw [en]
  exact NM.nd.sublist (List.take_sublist _ _)
open Mt21 Mt46
theorem zZ {zs:List Str} {a:Str} {h:Int} (ha:cH ["above","below"] (.str a) = true) (sa:a.length ≤ 1000) (h0:-1000000 ≤ h) (h1:h ≤ 1000000):GoodC zs (.tup [.str a,.int h]):=by
 refine ⟨?_,?_,rfl⟩
 ·show (if cH ["above","below"] (.str a) then eU (.int h) else _) = true
  rw [ha]
  exact zR h0 h1
 ·show (decide (2 ≤ 1000) && (decide (a.length ≤ 1000) && (true && true))) = true
  rw [decide_eq_true sa]
  rfl
theorem aLL {zs:List Str} {a z:Str} (hn:cH ["above","below"] (.str a) = false) (ha:cH ["wet","dry"] (.str a) = true) (sa:a.length ≤ 1000) (mz:z ∈ zs) (sz:z.length ≤ 1000):GoodC zs (.tup [.str a,.str z]):=by
 refine ⟨?_,?_,rfl⟩
 ·show (if cH ["above","below"] (.str a) then eU (.str z) else cH ["wet","dry"] (.str a) && cH zs (.str z)) = true
  rw [hn,ha]
  exact decide_eq_true mz
 ·show (decide (2 ≤ 1000) && (decide (a.length ≤ 1000) && (decide (z.length ≤ 1000) && true))) = true
  rw [decide_eq_true sa,decide_eq_true sz]
  rfl
theorem aOP {zs:List Str} {n m:Int} (h0:0 ≤ n) (h1:n < m) (h2:m ≤ 100):GoodC zs (.tup [.str "day",.int n,.int m]):=by
 refine ⟨?_,rfl,rfl⟩
 show (cH ["day"] (.str "day") && ((decide (1 ≤ m) && decide (m ≤ 100)) && (decide (0 ≤ n) && decide (n < m)))) = true
 rw [decide_eq_true h0,decide_eq_true h1,decide_eq_true h2,decide_eq_true (by omega:1 ≤ m)]
 rfl
def del (X:Addr) (H:Hp):Hp:=fun b=>if b = X then none else H b
theorem aJD (X:Addr) (H:Hp):aK (del X H) H:=fun b o e=>by
 unfold del at e
 by_cases h:b = X
 ·rw [if_pos h] at e;cases e
 ·rw [if_neg h] at e;exact e
theorem aJE {X:Addr} {H:Hp} {b:Addr} {o:HO} (n:b ≠ X) (e:H b = some o):del X H b = some o:=by
 unfold del
 rw [if_neg n]
 exact e
theorem aOM {X:Addr} {H H':Hp} (S:aK H H'):aK (del X H) (del X H'):=fun b o e=>by
 unfold del at e ⊢
 by_cases h:b = X
 ·rw [if_pos h] at e;cases e
 ·rw [if_neg h] at e ⊢;exact S _ _ e
theorem aNX {X:Addr} {H Hz:Hp} {b:Addr} {o:HO} (hX:∃ o,H X = some o) (n:H b = none) (e:Hz b = some o):del X Hz b = some o:=by
 obtain ⟨o',h⟩:=hX
 exact aJE (fun z=>by rw [z,h] at n;cases n) e
theorem aON {X:Addr} {H:Hp} {o:HO}:aK (del X H) (del X (upd H X o)):=fun b o' e=>by
 unfold del at e ⊢
 by_cases h:b = X
 ·rw [if_pos h] at e;cases e
 ·rw [if_neg h] at e ⊢;rw [aP h];exact e
theorem aIL {H:Hp} {ds:List Dv} {vs:List V} (h:IsL H ds vs) {i:Int} (h0:0 ≤ i) (h1:i < ds.length):∃ d v,d ∈ ds ∧ atI vs i = some v ∧ Is H d v:=by
 obtain ⟨k,rfl⟩:=Int.eq_ofNat_of_zero_le h0
 have hk:k < ds.length:=by omega
 obtain ⟨v,ev,iv⟩:=h.get (List.getElem?_eq_getElem hk)
 exact ⟨_,v,List.getElem_mem hk,aH ev,iv⟩
def aLF:Sp:=sp2 fun x y H Q=>∃ (n:Int) (lf:Addr) (vf:List V) (fs:List Dv),x = .int n ∧ y = .ref lf ∧ H lf = some (.lst vf) ∧ IsL H fs vf ∧ GoodF fs ∧ ∀ (v:V) (d:Dv) (H':Hp),aK H H' → Is H' d v → GoodC (fs.map aJ) d → qJ d = true → Q v H'
theorem vR (T:Txt K mg C):Fc P w K mg base 2 "_law_condition" ["_law_cell","_law_fields_here"] aLF:=by
 have G_l_height:Fc P w K mg base 1 "_law_height" ["_law_cell"] aHE:=lC T
 refine T.d_l_condition.fc eA gK (fun f cdv A outer s H vs Q E hr h=>?_)
 obtain ⟨x,y,rfl,n,lf,vf,fs,rfl,rfl,hlf,iff,gf,q⟩:=h
 have big:=bY
 have lvf:=iff.length
 have f1:=gf.l1
 refine ⟨_,(aG (@aY _ _ (2) _ _ _ _ eA.nd rfl (Or.inl rfl) (@bN _ _ _ _ _ _ _ _ _ _ G_l_height (hr.mono (by decide)) (aA (@aR _ _ _ _ _ _ _ _ bR (pv 0) aD) aE) (by rfl) (by decide) (by rfl) (by rfl)) (by rfl) (by trivial)) (aG (@aY _ _ (3) _ _ _ _ eA.nd rfl (Or.inl rfl) (@aU _ _ _ _ _ _ _ (@aM _ (K) rfl) (@aU _ _ _ _ _ _ _ (@bO _ (K) rfl) (pv 1) (@aR _ _ _ _ _ _ _ _ cG (@aR _ _ _ _ _ _ _ _ bR (pv 0) aD) (@aZ _ _ _ _ _ _ _ _ _ (@bU _ (K) rfl) rfl T.n_len cT (aA (pv 1) aE) (by decide) (by decide) (by rfl) (by rfl))) (fun _ _=>rfl)) aD (fun _ _=>rfl)) (by rfl) (by trivial)) (aG (@aY _ _ (4) _ _ _ _ eA.nd rfl (Or.inl rfl) (@aR _ _ _ _ _ _ _ _ eE aD (@aR _ _ _ _ _ _ _ _ cG (@aR _ _ _ _ _ _ _ _ bR (pv 0) aD) aD)) (by rfl) (by trivial)) (aG (@cD _ _ _ _ _ _ _ _ (@bH _ _ _ _ _ _ _ _ iD (@aR _ _ _ _ _ _ _ _ cG (@aR _ _ _ _ _ _ _ _ bR (pv 0) aD) aD) aD (@bF _ _ (by decide) (by decide))) (aI (@aY _ _ (4) _ _ _ _ eA.nd rfl (Or.inl rfl) (@aR _ _ _ _ _ _ _ _ eE aD (@aR _ _ _ _ _ _ _ _ cG (@aR _ _ _ _ _ _ _ _ bR (pv 0) aD) aD)) (by rfl) (by trivial))) bE) (aG (@aY _ _ (5) _ _ _ _ eA.nd rfl (Or.inl rfl) (@cK _ _ _ _ (aA (@cU _ _ _ _ _ (aA cP aE)) (aA (@cU _ _ _ _ _ (aA cP (aA (pv 2) aE))) (aA (@cU _ _ _ _ _ (aA cP (aA (pv 2) aE))) (aA (@cU _ _ _ _ _ (aA cP (aA (pv 3) aE))) (aA (@cU _ _ _ _ _ (aA cP (aA (pv 3) aE))) aE)))))) (by rfl) (by trivial)) (aG (@aY _ _ (5) _ _ _ _ eA.nd rfl (Or.inl rfl) (@aR _ _ _ _ _ _ _ _ aCY (pv 5) (@cK _ _ _ _ (aA (@cU _ _ _ _ _ (aA cP (aA (@aR _ _ _ _ _ _ _ _ cG (@aR _ _ _ _ _ _ _ _ bR (pv 0) (@aR _ _ _ _ _ _ _ _ eD aD aD)) (pv 4)) (aA (pv 4) aE)))) (aA (@cU _ _ _ _ _ (aA cP (aA (@aZ _ _ _ _ _ _ _ _ _ (@mV _ rfl) rfl T.n_max kF (aA (@aR _ _ _ _ _ _ _ _ lJ (pv 2) aD) (aA (@aR _ _ _ _ _ _ _ _ lJ aD (@aR _ _ _ _ _ _ _ _ eD aD aD)) aE)) (by decide) (by decide) (by rfl) (by rfl)) aE))) aE)))) (by rfl) (by trivial)) (aI (@aT _ _ _ _ (@aU _ _ _ _ _ _ _ (@bO _ (K) rfl) (pv 5) (@aR _ _ _ _ _ _ _ _ cG (pv 0) aD) (fun _ _=>rfl)))))))))),?_⟩
 refine ⟨_,rfl,_,_,rfl,rfl,⟨by decide,by decide⟩,_,rfl,_,rfl,fun hh hhh=>?_⟩
 have hb:=uB hhh
 have pl:(0:Int) < ((vf.length:Nat):Int):=by omega
 obtain ⟨k,hk'⟩:=Int.eq_ofNat_of_zero_le (show 0 ≤ n / 7 % ((vf.length:Nat):Int) from Int.emod_nonneg _ (by omega))
 have hkl:k < vf.length:=by have:=Int.emod_lt_of_pos (n / 7) pl;omega
 obtain ⟨d,ed⟩:∃ d,fs[k]? = some d:=⟨_,List.getElem?_eq_getElem (by omega)⟩
 obtain ⟨v,ev,iv⟩:=iff.get ed
 obtain ⟨z,g,e,rfl,hz,_⟩:=bP (gf.all d (List.mem_of_getElem? ed))
 obtain ⟨t,rfl,o⟩:=gM iv
 have mz:z ∈ fs.map aJ:=List.mem_map.mpr ⟨_,List.mem_of_getElem? ed,rfl⟩
 have sz:z.length ≤ 1000:=by
  have:(decide (1 ≤ z.length) && decide (z.length ≤ 8) && !decide (z = "sea") && z.cps.toList.all iY) = true:=hz
  simp only [Bool.and_eq_true,decide_eq_true_eq] at this
  omega
 refine ⟨_,rfl,_,rfl,_,_,rfl,rfl,⟨by decide,by decide⟩,_,rfl,lf,_,rfl,.inl (SqL.of hlf),_,_,rfl,rfl,pl,lf,_,_,.ref t,rfl,rfl,SqL.of hlf,by rw [hk'];exact aH ev,t,_,0,.str z,rfl,rfl,SqT.of o,aH (j:=0) rfl,?_⟩
 refine ⟨_,rfl,_,_,rfl,rfl,⟨by decide,by decide⟩,_,_,rfl,rfl,(lH rfl),_,_,rfl,rfl,?_⟩
 have t0:=Int.emod_nonneg (n / 7) (show (4:Int) ≠ 0 by decide)
 have t1:=Int.emod_lt_of_pos (n / 7) (show (0:Int) < 4 by decide)
 have u0:=Int.emod_nonneg (n / 7) (show (100:Int) ≠ 0 by decide)
 have u1:=Int.emod_lt_of_pos (n / 7) (show (0:Int) < 100 by decide)
 unfold qA
 dsimp only
 refine rN (fun σ' Hz=>Hz = H ∧ ∃ tn:Int,1 ≤ tn ∧ tn ≤ 100 ∧ σ' = [some (.int n),some (.ref lf),some (.int hh),some (.str z),some (.int tn),none]) (fun σ' Hz hR=>?_) (fun D' hD=>?_)
 rotate_left
 ·refine ⟨_,rfl,_,_,rfl,rfl,⟨by decide,by decide⟩,_,_,rfl,rfl,(lH rfl),rfl,_,rfl,?_⟩
  rw [kB]
  refine mP (fun h1=>?_) (fun h1=>?_)
  ·exact ⟨_,rfl,_,_,rfl,rfl,⟨by decide,by decide⟩,_,_,rfl,rfl,(lH rfl),_,_,rfl,rfl,hD _ _ ⟨rfl,1 + n / 7 % 100,by omega,by omega,rfl⟩⟩
  ·exact hD _ _ ⟨rfl,1 + n / 7 % 4,by omega,by omega,rfl⟩
 obtain ⟨rfl,tn,tn1,tn100,rfl⟩:=hR
 refine ⟨aQ rfl,fun p1 hp1=>?_⟩
 have A1:=aK.upd (o:=.tup [.str "always"]) hp1
 refine ⟨_,rfl,aQ rfl,fun p2 hp2=>?_⟩
 have A2:=aK.upd (o:=.tup [.str "above",.int hh]) hp2
 refine ⟨_,rfl,aQ rfl,fun p3 hp3=>?_⟩
 have A3:=aK.upd (o:=.tup [.str "below",.int hh]) hp3
 refine ⟨_,rfl,aQ rfl,fun p4 hp4=>?_⟩
 have A4:=aK.upd (o:=.tup [.str "wet",.str z]) hp4
 refine ⟨_,rfl,aQ rfl,fun p5 hp5=>?_⟩
 have A5:=aK.upd (o:=.tup [.str "dry",.str z]) hp5
 refine ⟨aQ rfl,fun p6 hp6=>?_⟩
 have A6:=aK.upd (o:=.lst [.ref p1,.ref p2,.ref p3,.ref p4,.ref p5]) hp6
 have B6:=A1.trans (A2.trans (A3.trans (A4.trans (A5.trans A6))))
 have d1:=(A2.trans (A3.trans (A4.trans (A5.trans A6)))) _ _ aB
 have d2:=(A3.trans (A4.trans (A5.trans A6))) _ _ aB
 have d3:=(A4.trans (A5.trans A6)) _ _ aB
 have d4:=(A5.trans A6) _ _ aB
 have d5:=A6 _ _ aB
 have d6:_ = some (HO.lst [.ref p1,.ref p2,.ref p3,.ref p4,.ref p5]):=aB (H:=upd (upd (upd (upd (upd Hz p1 (.tup [.str "always"])) p2 (.tup [.str "above",.int hh])) p3 (.tup [.str "below",.int hh])) p4 (.tup [.str "wet",.str z])) p5 (.tup [.str "dry",.str z])) (a:=p6)
 generalize upd (upd (upd (upd (upd (upd Hz p1 (.tup [.str "always"])) p2 (.tup [.str "above",.int hh])) p3 (.tup [.str "below",.int hh])) p4 (.tup [.str "wet",.str z])) p5 (.tup [.str "dry",.str z])) p6 (.lst [.ref p1,.ref p2,.ref p3,.ref p4,.ref p5]) = H6 at B6 d1 d2 d3 d4 d5 d6 ⊢
 have ptn:(0:Int) < tn:=by omega
 refine ⟨_,rfl,_,rfl,_,_,rfl,rfl,⟨by decide,by decide,by decide⟩,_,_,rfl,rfl,⟨by decide,by decide⟩,_,rfl,_,_,rfl,rfl,ptn,_,rfl,aQ rfl,fun p7 hp7=>?_⟩
 have A7:=aK.upd (o:=.tup [.str "day",.int (n / 10 ^ (5:Int).toNat % tn),.int tn]) hp7
 refine ⟨_,rfl,_,_,rfl,rfl,_,_,rfl,rfl,⟨by decide,by decide,by decide⟩,_,_,rfl,rfl,_,_,rfl,aQ rfl,fun p8 hp8=>?_⟩
 have p6':(10:Int) ^ (6:Int).toNat = 1000000:=by decide
 obtain ⟨mx,emx,mx0,mx1⟩:∃ mx:Int,(if (0:Int) - 10 ^ (6:Int).toNat > hh - 1 then (0:Int) - 10 ^ (6:Int).toNat else hh - 1) = mx ∧ -1000000 ≤ mx ∧ mx ≤ 1000000:=by
  rw [p6']
  refine ⟨_,rfl,?_,?_⟩ <;> split <;> omega
 have A8:=aK.upd (o:=.tup [.str "above",.int (if (0:Int) - 10 ^ (6:Int).toNat > hh - 1 then (0:Int) - 10 ^ (6:Int).toNat else hh - 1)]) hp8
 refine ⟨aQ rfl,fun p9 hp9=>?_⟩
 have A9:=aK.upd (o:=.lst [.ref p7,.ref p8]) hp9
 refine ⟨p6,p9,_,_,rfl,rfl,(A7.trans (A8.trans A9)) _ _ d6,aB,aQ rfl,fun p10 hp10=>?_⟩
 have A10:=aK.upd (o:=.lst ([.ref p1,.ref p2,.ref p3,.ref p4,.ref p5] ++ [.ref p7,.ref p8])) hp10
 have A710:=A7.trans (A8.trans (A9.trans A10))
 have il:IsL (upd (upd (upd (upd H6 p7 (.tup [.str "day",.int (n / 10 ^ (5:Int).toNat % tn),.int tn])) p8 (.tup [.str "above",.int (if (0:Int) - 10 ^ (6:Int).toNat > hh - 1 then (0:Int) - 10 ^ (6:Int).toNat else hh - 1)])) p9 (.lst [.ref p7,.ref p8])) p10 (.lst ([.ref p1,.ref p2,.ref p3,.ref p4,.ref p5] ++ [.ref p7,.ref p8])))
   [.tup [.str "always"],.tup [.str "above",.int hh],.tup [.str "below",.int hh],.tup [.str "wet",.str z],.tup [.str "dry",.str z],.tup [.str "day",.int (n / 10 ^ (5:Int).toNat % tn),.int tn],.tup [.str "above",.int mx]] [.ref p1,.ref p2,.ref p3,.ref p4,.ref p5,.ref p7,.ref p8] :=
  ⟨_,_,rfl,⟨p1,_,rfl,A710 _ _ d1,_,_,rfl,rfl,rfl⟩,_,_,rfl,⟨p2,_,rfl,A710 _ _ d2,_,_,rfl,rfl,_,_,rfl,rfl,rfl⟩,_,_,rfl,⟨p3,_,rfl,A710 _ _ d3,_,_,rfl,rfl,_,_,rfl,rfl,rfl⟩,_,_,rfl,⟨p4,_,rfl,A710 _ _ d4,_,_,rfl,rfl,_,_,rfl,rfl,rfl⟩,_,_,rfl,⟨p5,_,rfl,A710 _ _ d5,_,_,rfl,rfl,_,_,rfl,rfl,rfl⟩,
   _,_,rfl,⟨p7,_,rfl,(A8.trans (A9.trans A10)) _ _ aB,_,_,rfl,rfl,_,_,rfl,rfl,_,_,rfl,rfl,rfl⟩,_,_,rfl,⟨p8,_,rfl,(A9.trans A10) _ _ aB,_,_,rfl,rfl,_,_,rfl,congrArg V.int emx,rfl⟩,rfl⟩
 obtain ⟨d',v',md',ev',iv'⟩:=aIL il (i:=n % 7) (Int.emod_nonneg _ (by decide)) (Int.emod_lt_of_pos _ (by decide))
 refine ⟨_,rfl,_,rfl,_,_,rfl,rfl,(lH rfl),p10,_,_,v',rfl,rfl,SqL.of aB,ev',?_⟩
 have ok:GoodC (fs.map aJ) d' ∧ qJ d' = true:=by
  simp only [List.mem_cons,List.not_mem_nil,or_false] at md'
  rcases md' with rfl | rfl | rfl | rfl | rfl | rfl | rfl
  ·exact ⟨⟨rfl,rfl,rfl⟩,rfl⟩
  ·exact ⟨zZ (by decide +kernel) (by decide +kernel) hb.1 hb.2,rfl⟩
  ·exact ⟨zZ (by decide +kernel) (by decide +kernel) hb.1 hb.2,rfl⟩
  ·exact ⟨aLL (by decide +kernel) (by decide +kernel) (by decide +kernel) mz sz,rfl⟩
  ·exact ⟨aLL (by decide +kernel) (by decide +kernel) (by decide +kernel) mz sz,rfl⟩
  ·exact ⟨aOP (Int.emod_nonneg _ (by omega)) (Int.emod_lt_of_pos _ ptn) tn100,rfl⟩
  ·exact ⟨zZ (by decide +kernel) (by decide +kernel) mx0 mx1,rfl⟩
 exact q v' d' _ (B6.trans A710) iv' ok.1 ok.2
open Mt21 Mt46
def sp5 (f:V → V → V → V → V → Hp → VK → Prop):Sp:=fun vs H Q _=>∃ x y z u v,vs = [x,y,z,u,v] ∧ f x y z u v H Q
theorem aPH {f:V → V → V → V → V → Hp → VK → Prop}:∀ vs H Q E,sp5 f vs H Q E → vs.length = 5:=fun vs H Q E ⟨x,y,z,u,v,e,_⟩=>by rw [e];rfl
theorem aEY {gs zs:List Str}:∀ {es:List Dv},(∀ d ∈ es,GoodX gs zs d) → ∃ xs:List Dk,es = xs.map dkD ∧ (∀ x ∈ xs,GoodX gs zs (dkD x)) ∧ (∀ x ∈ xs,sW x.2.2 ∧ x.2.2.length ≤ 6 ∧ x.2.1 ∈ gs)
 | [],_=>⟨[],rfl,(fun x m=>by cases m),fun x m=>by cases m⟩
 | e :: es,h=>by
  obtain ⟨xs,rfl,h1,h2⟩:=aEY fun d m=>h d (List.mem_cons_of_mem _ m)
  have g:=h e List.mem_cons_self
  obtain ⟨a,g',cs,rfl,ha,mg',l1,l6,hc,_⟩:=g.sh
  obtain ⟨ks,rfl,oks⟩:=aCC fun c m=>(hc c m).ok
  refine ⟨(a,g',ks) :: xs,rfl,fun x m=>?_,fun x m=>?_⟩
  ·rcases List.mem_cons.mp m with rfl | m
   ·exact g
   ·exact h1 x m
  ·rcases List.mem_cons.mp m with rfl | m
   ·exact ⟨oks,by rw [List.length_map] at l6;exact l6,mg'⟩
   ·exact h2 x m
theorem aDX (H:Hp):∀ zs:List Str,IsL H (zs.map Dv.str) (zs.map V.str)
 | []=>rfl
 | z :: zs=>⟨_,_,rfl,rfl,aDX H zs⟩
def aLD (K:PySem.W.Frag):Sp:=sp5 fun x y z u v H Q=>∃ (ia im:Nat) (lf ld:Addr) (vf vd:List V) (fs ds:List Dv),Scr K H x ∧ y = .int ia ∧ ia ≤ 63 ∧ z = .int im ∧ im ≤ 60 ∧ u = .ref lf ∧ H lf = some (.lst vf) ∧ IsL H fs vf ∧ GoodF fs ∧ v = .ref ld ∧ H ld = some (.lst vd) ∧ IsL H ds vd ∧ GoodD ("sea" :: fs.map aJ) ds ∧
 ∀ (l:Addr) (xs:List Dk) (H':Hp),aK H H' → H l = none → Decs H' l ((ds.filter aX).map aJ) (fs.map aJ) xs → xs.length ≤ im → Q (.ref l) H'
theorem zH (T:Txt K mg C):Fc P w K mg base 3 "_law_decrees" ["_law_script","_law_at","_law_most","_law_fields_here","_law_dykes_here"] (aLD K):=by
 have G_l_mixed:Fc P w K mg base 1 "_law_mixed" ["_law_script","_law_k"] (aFK K):=kZ T
 have G_l_condition:Fc P w K mg base 2 "_law_condition" ["_law_cell","_law_fields_here"] aLF:=vR T
 refine T.d_l_decrees.fc eP aPH (fun f cdv A outer s H vs Q E hr h=>?_)
 obtain ⟨x,y,z,u,v,rfl,ia,im,lf,ld,vf,vd,fs,ds,⟨a,ns,rfl,hS,hns⟩,rfl,ia63,rfl,im60,rfl,hlf,iff,gf,rfl,hld,idd,gd,q⟩:=h
 have scr:Scr K H (.ref a):=⟨a,ns,rfl,hS,hns⟩
 have big:=bY
 have lvd:=idd.length
 have d2:=gd.l2
 refine ⟨_,(aG (@nH _ (5) _ _ _ _ _ _ _ _ _ _ _ _ _ eP.nd rfl ["_law_dyke"] 1 [] rfl (@bJ _ (K) _ _ _ rfl (@bK _ _ _ _ (pv 4))) (fun R=>@aN _ _ (0) _ (show List.Nodup (["_law_dyke"]:List Str) by decide +kernel) rfl (Or.inl rfl) (by trivial)) (@bG _ _ (by decide)) (fun R=>@kU _ _ _ (@bH _ _ _ _ _ _ _ _ pP (@aU _ _ _ _ _ _ _ (@aM _ (K) rfl) (pv 0) aD (fun _ _=>rfl)) jT (@bF _ _ (by decide) (by decide)))) (fun R=>(@aU _ _ _ _ _ _ _ (@aM _ (K) rfl) (pv 0) aD (fun _ _=>rfl))) (by exact Or.inl rfl) (by trivial) (by rfl) (by rfl) (by rfl) (by rfl) (by rfl) (by rfl) (by rfl) (by rfl) (by intro _;rfl)) (aG (@aY _ _ (6) _ _ _ _ eP.nd rfl (Or.inl rfl) (@cK _ _ _ _ aE) (by rfl) (by trivial)) (aG (@cD _ _ _ _ _ _ _ _ (@bH _ _ _ _ _ _ _ _ (@aMC _ hr.units) (pv 5) (@cK _ _ _ _ aE) (@bF _ _ (by decide) (by decide))) (aI (@aT _ _ _ _ (@cK _ _ _ _ aE))) bE) (aG (@eC _ _ _ _ _ _ _ _ PassesOwn.never rfl (@gJ _ _ _ _ _ _ rfl T.n_range (aA (@aR _ _ _ _ _ _ _ _ cG (@bN _ _ _ _ _ _ _ _ _ _ G_l_mixed (hr.mono (by decide)) (aA (pv 0) (aA (pv 1) aE)) (by rfl) (by decide) (by rfl) (by rfl)) (@aR _ _ _ _ _ _ _ _ eE (pv 2) aD)) aE) (by rfl)) (@aN _ _ (7) _ eP.nd rfl (Or.inl rfl) (by trivial)) (aG (@aY _ _ (8) _ _ _ _ eP.nd rfl (Or.inl rfl) (@aR _ _ _ _ _ _ _ _ bR (@bN _ _ _ _ _ _ _ _ _ _ G_l_mixed (hr.mono (by decide)) (aA (pv 0) (aA (@aR _ _ _ _ _ _ _ _ eE (pv 1) (pv 7)) aE)) (by rfl) (by decide) (by rfl) (by rfl)) aD) (by rfl) (by trivial)) (aG (@aY _ _ (9) _ _ _ _ eP.nd rfl (Or.inl rfl) (@cK _ _ _ _ aE) (by rfl) (by trivial)) (aG (@eC _ _ _ _ _ _ _ _ PassesOwn.never rfl (@gJ _ _ _ _ _ _ rfl T.n_range (aA (@aR _ _ _ _ _ _ _ _ eE aD (@aR _ _ _ _ _ _ _ _ cG (pv 8) aD)) aE) (by rfl)) (@aN _ _ (10) _ eP.nd rfl (Or.inl rfl) (by trivial)) (aI (@eI _ _ _ _ (@mI _ (K) _ _ _ _ _ rfl (@lB _ _ _ _ _ _ _ _ _ _ _ _ PySem.F.plainAttrs_list PySem.F.slot_list_append PySem.F.type_list_append dS (pv 9) (aA (@bN _ _ _ _ _ _ _ _ _ _ G_l_condition (hr.mono (by decide)) (aA (@aR _ _ _ _ _ _ _ _ bR (pv 8) (@aU _ _ _ _ _ _ _ (@bO _ (K) rfl) (@cK _ _ _ _ (aA aD (aA (@aR _ _ _ _ _ _ _ _ vF aD (@aR _ _ _ _ _ _ _ _ eD aD aD)) (aA (@aR _ _ _ _ _ _ _ _ vF aD (@aR _ _ _ _ _ _ _ _ eD aD aD)) aE)))) (pv 10) (fun _ _=>rfl))) (aA (pv 3) aE)) (by rfl) (by decide) (by rfl) (by rfl)) aE) (by rfl) (by rfl) (by rfl) (by rfl) (by rfl))) (by rfl))) (by intro _;rfl)) (aG (@aY _ _ (11) _ _ _ _ eP.nd rfl (Or.inl rfl) (@aR _ _ _ _ _ _ _ _ bR (pv 8) (@aR _ _ _ _ _ _ _ _ eD aD aD)) (by rfl) (by trivial)) (aI (@eI _ _ _ _ (@mI _ (K) _ _ _ _ _ rfl (@lB _ _ _ _ _ _ _ _ _ _ _ _ PySem.F.plainAttrs_list PySem.F.slot_list_append PySem.F.type_list_append dS (pv 6) (aA (@cU _ _ _ _ _ (aA (@aU _ _ _ _ _ _ _ (@bO _ (K) rfl) (@cK _ _ _ _ (aA cP (aA cP aE))) (@aR _ _ _ _ _ _ _ _ cG (pv 11) aD) (fun _ _=>rfl)) (aA (@aU _ _ _ _ _ _ _ (@bO _ (K) rfl) (pv 5) (@aR _ _ _ _ _ _ _ _ cG (@aR _ _ _ _ _ _ _ _ bR (pv 11) aD) (@aZ _ _ _ _ _ _ _ _ _ (@bU _ (K) rfl) rfl T.n_len cT (aA (pv 5) aE) (by decide) (by decide) (by rfl) (by rfl))) (fun _ _=>rfl)) (aA (pv 9) aE)))) aE) (by rfl) (by rfl) (by rfl) (by rfl) (by rfl))) (by rfl))))))) (by intro _;rfl)) (aI (@aT _ _ _ _ (pv 6))))))),?_⟩
 refine ⟨_,rfl,ld,rfl,⟨_,SqL.of hld⟩,?_⟩
 refine bV (F:=K) (xs:=vd) (by omega) (fun i ys H'=>H = H' ∧ ys = (((ds.take i).filter aX).map aJ).map V.str ∧ ys.length ≤ i) ⟨rfl,rfl,Nat.le_refl _⟩ ?_ ?_ ?_
 ·rintro i ys H' hi' ⟨rfl,rfl,hy⟩
  exact ⟨SqL.of hld,hy⟩
 ·rintro i xv ys H' K1 K2 hx ⟨rfl,rfl,hy⟩ k1 k2
  have hil:i < vd.length:=(List.getElem?_eq_some_iff.mp hx).1
  obtain ⟨d,ed⟩:∃ d,ds[i]? = some d:=⟨_,List.getElem?_eq_getElem (by omega)⟩
  obtain ⟨v,ev,iv⟩:=idd.get ed
  rw [hx] at ev
  cases ev
  obtain ⟨n,a',b',c,r,sl,rfl,_⟩:=bI (gd.all d (List.mem_of_getElem? ed))
  obtain ⟨t,vs,rfl,o,iss⟩:=gI iv
  refine ⟨_,rfl,t,_,5,vs,rfl,rfl,SqT.of o,aH (j:=5) rfl,rfl,_,rfl,?_⟩
  rw [aBW iss]
  have e0:aX (.tup [.str n,.str a',.str b',.int c,.int r,sl]) = !vZ sl:=rfl
  cases e:vZ sl with
  | true =>
   refine bC (k2 _ ⟨rfl,?_,by omega⟩)
   rw [List.take_add_one,ed]
   simp [e0,e]
  | false =>
   refine bW ⟨_,rfl,t,_,0,.str n,rfl,rfl,SqT.of o,aH (j:=0) rfl,k1 _ _ ⟨rfl,?_,by rw [List.length_append,List.length_singleton];omega⟩⟩
   rw [List.take_add_one,ed]
   simp [e0,e,aJ,cV]
 rintro ys H' ⟨rfl,rfl,hy⟩
 rw [List.take_of_length_le (by omega)]
 intro lg hlg
 have A1:=aK.upd (o:=.lst (((ds.filter aX).map aJ).map V.str)) hlg
 have hlg1:upd H lg (.lst (((ds.filter aX).map aJ).map V.str)) lg = some (.lst (((ds.filter aX).map aJ).map V.str)):=aB
 have gsl:∀ z ∈ (ds.filter aX).map aJ,z.length ≤ 1000:=fun z m=>by
  obtain ⟨d,md,rfl⟩:=List.mem_map.mp m
  obtain ⟨n,a',b',c,r,sl,rfl,hn,_⟩:=bI (gd.all d (List.mem_filter.mp md).1)
  have:(decide (1 ≤ n.length) && decide (n.length ≤ 8) && !decide (n = "sea") && n.cps.toList.all iY) = true:=hn
  simp only [Bool.and_eq_true,decide_eq_true_eq] at this
  show n.length ≤ 1000
  omega
 generalize hgs:(ds.filter aX).map aJ = gs at *
 generalize upd H lg (.lst (gs.map V.str)) = H1 at A1 hlg1 ⊢
 refine ⟨aQ rfl,fun l hl=>?_⟩
 have A2:=aK.upd (o:=.lst []) hl
 have T2:=A1.trans A2
 have nl:H l = none:=A1.free hl
 have hl2:upd H1 l (.lst []) l = some (.lst []):=aB
 have hlg2:=A2 _ _ hlg1
 have nlg:lg ≠ l:=fun z=>by rw [z,hl] at hlg1;cases hlg1
 generalize upd H1 l (.lst []) = H2 at T2 hl2 hlg2 ⊢
 refine ⟨_,rfl,aQ rfl,fun pe hpe=>?_⟩
 have A3:=aK.upd (o:=.lst []) hpe
 have T3:=T2.trans A3
 refine ⟨.lst (gs.map Dv.str),.lst [],⟨lg,_,rfl,A3 _ _ hlg2,aDX _ _⟩,⟨pe,[],rfl,aB,rfl⟩,pA gs,by decide,_,rfl,?_⟩
 cases hg:gs with
 | nil =>
  refine bW ⟨aQ rfl,fun l' hl'=>?_⟩
  have A4:=aK.upd (o:=.lst []) hl'
  refine q l' [] _ (T3.trans A4) (T3.free hl') ⟨⟨[],aB,rfl⟩,(fun x m=>by cases m),fun x m=>by cases m⟩ (Nat.zero_le _)
 | cons g0 gr =>
  refine bC ?_
  have lgs:1 ≤ gs.length:=by rw [hg];simp
  have hl3:=A3 _ _ hl2
  have hlg3:=A3 _ _ hlg2
  generalize upd H2 pe (.lst []) = H3 at A3 T3 hl3 hlg3 ⊢
  refine ⟨_,rfl,_,rfl,_,_,rfl,_,scr.same T3,rfl,by omega,fun m0 hm0=>?_⟩
  have pim:(0:Int) < (im:Int) + 1:=by omega
  have r0:0 ≤ m0 % ((im:Int) + 1):=Int.emod_nonneg _ (by omega)
  have r1:m0 % ((im:Int) + 1) < (im:Int) + 1:=Int.emod_lt_of_pos _ pim
  obtain ⟨cnt,hcnt⟩:=Int.eq_ofNat_of_zero_le r0
  refine ⟨_,rfl,_,_,rfl,rfl,_,_,rfl,rfl,pim,(cnt:Int),congrArg (fun x=>[V.int x]) hcnt,by omega,by omega,?_⟩
  rw [Int.toNat_natCast]
  refine jA (lo:=0) (n:=cnt) (fun i σ H'=>∃ (w7 w8 w9 w10 w11:Option V) (vs:List V) (es:List Dv),σ = [some (.ref a),some (.int ia),some (.int im),some (.ref lf),some (.ref ld),some (.ref lg),some (.ref l),w7,w8,w9,w10,w11] ∧ cI l H3 H' ∧ H' l = some (.lst vs) ∧ IsL (del l H') es vs ∧ es.length = i ∧ ∀ d ∈ es,GoodX gs (fs.map aJ) d) ⟨_,_,_,_,_,[],[],rfl,(fun b o e _=>e),hl3,rfl,rfl,fun d m=>by cases m⟩ ?_ ?_
  ·rintro i σ H' hi ⟨w7,w8,w9,w10,w11,ys,es,rfl,X,hly,iy,le,all⟩
   refine xY fun D1 hD1=>?_
   have SH:aK H H':=fun b o e=>X _ _ (T3 _ _ e) (fun z=>by rw [z,nl] at e;cases e)
   have ly:=iy.length
   refine ⟨_,rfl,_,rfl,_,rfl,_,_,rfl,rfl,_,_,rfl,_,scr.same SH,rfl,by show 0 ≤ (ia:Int) + (0 + (i:Int));omega,fun m1 hm1=>?_⟩
   refine ⟨_,_,rfl,rfl,⟨by decide,by decide⟩,?_⟩
   dsimp only
   generalize m1 / 16 = mc
   refine ⟨aQ rfl,fun lc hlc=>?_⟩
   have A5:=aK.upd (o:=.lst []) hlc
   have nlc:lc ≠ l:=fun z=>by rw [z,hly] at hlc;cases hlc
   have hlc5:upd H' lc (.lst []) lc = some (.lst []):=aB
   generalize upd H' lc (.lst []) = H5 at A5 hlc5 ⊢
   have c0:=Int.emod_nonneg mc (show (3:Int) ≠ 0 by decide)
   have c1:=Int.emod_lt_of_pos mc (show (0:Int) < 3 by decide)
   obtain ⟨cj,hcj⟩:=Int.eq_ofNat_of_zero_le (show 0 ≤ 1 + mc % 3 by omega)
   refine ⟨_,rfl,_,_,rfl,rfl,(lH rfl),_,_,rfl,rfl,(cj:Int),congrArg (fun x=>[V.int x]) hcj,by omega,by omega,?_⟩
   rw [Int.toNat_natCast]
   refine jA (lo:=0) (n:=cj) (fun j σ Hx=>∃ (w10:Option V) (us:List V) (cs:List Dv),σ = [some (.ref a),some (.int ia),some (.int im),some (.ref lf),some (.ref ld),some (.ref lg),some (.ref l),some (.int (0 + (i:Int))),some (.int mc),some (.ref lc),w10,w11] ∧ cI lc H5 Hx ∧ Hx lc = some (.lst us) ∧ IsL Hx cs us ∧ cs.length = j ∧ ∀ d ∈ cs,GoodC (fs.map aJ) d ∧ qJ d = true) ⟨_,[],[],rfl,(fun b o e _=>e),hlc5,rfl,rfl,fun d m=>by cases m⟩ ?_ ?_
   ·rintro j σ Hx hj ⟨w10',us,cs,rfl,Xc,hlx,ic,lcs,okc⟩
    have SX:aK H' Hx:=fun b o e=>Xc _ _ (A5 _ _ e) (fun z=>by rw [z,hlc] at e;cases e)
    have lu:=ic.length
    refine ⟨_,rfl,.inl ⟨rfl,_,SqL.of hlx⟩,?_⟩
    refine ⟨_,rfl,_,_,rfl,rfl,⟨by decide,by decide,by decide⟩,_,_,rfl,rfl,.inl ⟨by decide,by decide⟩,_,_,rfl,rfl,⟨by decide,by decide,by decide⟩,_,_,rfl,rfl,.inl ⟨by decide,by decide⟩,aQ rfl,fun p6 hp6=>?_⟩
    obtain ⟨qd,eqd,qd0,qdl⟩:∃ qd:Int,atI ([.int 4,.int (4 * 10 ^ (7:Int).toNat),.int (4 * 10 ^ (14:Int).toNat)]:List V) (0 + (j:Int)) = some (.int qd) ∧ 0 < qd ∧ qd.natAbs.log2 < 9000:=by
     rw [Int.zero_add]
     obtain rfl | rfl | rfl:j = 0 ∨ j = 1 ∨ j = 2:=by omega
     ·exact ⟨_,aH (j:=0) rfl,by decide,by decide⟩
     ·exact ⟨_,aH (j:=1) rfl,by decide,by decide⟩
     ·exact ⟨_,aH (j:=2) rfl,by decide,by decide⟩
    have A6:=aK.upd (o:=.lst [.int 4,.int (4 * 10 ^ (7:Int).toNat),.int (4 * 10 ^ (14:Int).toNat)]) hp6
    have S6:=SH.trans (SX.trans A6)
    refine ⟨_,rfl,p6,_,_,.int qd,rfl,rfl,SqL.of aB,eqd,_,_,rfl,rfl,⟨qd0,qdl⟩,_,rfl,_,_,rfl,_,lf,vf,fs,rfl,rfl,S6 _ _ hlf,IsL.same S6 _ _ iff,gf,fun v d H7 S7 iv okd hrd=>?_⟩
    have A7:=A6.trans S7
    have hlx7:=A7 _ _ hlx
    refine ⟨lc,_,_,rfl,rfl,hlx7,by omega,?_⟩
    have kp:mZ Hx (upd H7 lc (.lst (us ++ [v]))):=fun b xs e=>by
     rw [aP (fun z=>by rw [z,hlx] at e;cases e)]
     exact A7 _ _ e
    have kp7:mZ H7 (upd H7 lc (.lst (us ++ [v]))):=fun b xs e=>by
     rw [aP (fun z=>by rw [z,hlx7] at e;cases e)]
     exact e
    refine ⟨_,us ++ [v],cs ++ [d],rfl,(Xc.then A7).put,aB,IsL.snoc (Is.keep kp7 _ _ hrd iv) (IsL.keep kp _ _ (eG fun d m=>(okc d m).2) ic),by rw [List.length_append,lcs];rfl,?_⟩
    intro d' md
    rcases List.mem_append.mp md with md | md
    ·exact okc d' md
    ·rw [List.mem_singleton.mp md]
     exact ⟨okd,hrd⟩
   ·rintro σ Hx ⟨w10',us,cs,rfl,Xc,hlx,ic,lcs,okc⟩
    have SX:aK H' Hx:=fun b o e=>Xc _ _ (A5 _ _ e) (fun z=>by rw [z,hlc] at e;cases e)
    have hlyx:=SX _ _ hly
    refine ⟨_,rfl,_,_,rfl,rfl,⟨by decide,by decide,by decide⟩,_,_,rfl,rfl,⟨by decide,by decide⟩,?_⟩
    dsimp only
    generalize mc / 10 ^ (21:Int).toNat = sp
    refine ⟨_,rfl,.inl ⟨rfl,_,SqL.of hlyx⟩,?_⟩
    refine ⟨aQ rfl,fun p8 hp8=>?_⟩
    have A8:=aK.upd (o:=.lst [.str "open",.str "shut"]) hp8
    obtain ⟨da,va,mda,eva,iva⟩:=aIL (H:=H) (ds:=[.str "open",.str "shut"]) (vs:=[.str "open",.str "shut"]) ⟨_,_,rfl,rfl,_,_,rfl,rfl,rfl⟩ (i:=sp % 2) (Int.emod_nonneg _ (by decide)) (Int.emod_lt_of_pos _ (by decide))
    obtain ⟨dd,rfl,rfl,oka,sa⟩:∃ dd:Str,da = .str dd ∧ va = .str dd ∧ cH ["open","shut"] (.str dd) = true ∧ dd.length ≤ 1000:=by
     simp only [List.mem_cons,List.not_mem_nil,or_false] at mda
     rcases mda with rfl | rfl
     ·exact ⟨_,rfl,iva,by decide +kernel,by decide +kernel⟩
     ·exact ⟨_,rfl,iva,by decide +kernel,by decide +kernel⟩
    have hlgx:=SX _ _ (X _ _ hlg3 nlg)
    have pg:(0:Int) < (((gs.map V.str).length:Nat):Int):=by rw [List.length_map];omega
    obtain ⟨kg,hkg⟩:=Int.eq_ofNat_of_zero_le (show 0 ≤ sp / 2 % (((gs.map V.str).length:Nat):Int) from Int.emod_nonneg _ (by omega))
    have lkg:kg < gs.length:=by have:=Int.emod_lt_of_pos (sp / 2) pg;rw [hkg,List.length_map] at this;omega
    obtain ⟨gt,egt⟩:∃ z,gs[kg]? = some z:=⟨_,List.getElem?_eq_getElem lkg⟩
    have mgt:=List.mem_of_getElem? egt
    refine ⟨_,rfl,_,_,rfl,rfl,(lH rfl),p8,_,_,.str dd,rfl,rfl,SqL.of aB,eva,?_⟩
    refine ⟨_,rfl,_,rfl,_,_,rfl,rfl,⟨by decide,by decide⟩,_,rfl,lg,_,rfl,.inl (SqL.of (A8 _ _ hlgx)),_,_,rfl,rfl,pg,lg,_,_,.str gt,rfl,rfl,SqL.of (A8 _ _ hlgx),by rw [hkg];exact aH (by rw [List.getElem?_map,egt];rfl),?_⟩
    refine ⟨_,rfl,aQ rfl,fun t ht=>?_⟩
    have A9:=aK.upd (o:=.tup [.str dd,.str gt,.ref lc]) ht
    have A89:=A8.trans A9
    refine ⟨l,_,_,rfl,rfl,A89 _ _ hlyx,by omega,?_⟩
    have S9:=SX.trans A89
    have hXl:∃ o,H' l = some o:=⟨_,hly⟩
    refine hD1 _ _ ⟨_,_,_,_,_,ys ++ [.ref t],es ++ [.tup [.str dd,.str gt,.lst cs]],rfl,(X.then S9).put,aB,IsL.snoc ?_ (IsL.same ((aOM S9).trans aON) _ _ iy),by rw [List.length_append,le];rfl,?_⟩
    ·have ntH:H' t = none:=(SX.trans A8).free ht
     refine Is.same aON _ _ ⟨t,_,rfl,aNX hXl ntH aB,_,_,rfl,rfl,_,_,rfl,rfl,_,_,rfl,⟨lc,us,rfl,aNX hXl hlc (A89 _ _ hlx),?_⟩,rfl⟩
     refine IsL.keep (fun b xs e=>?_) _ _ (eG fun d m=>(okc d m).2) ic
     exact aJE (fun z=>by rw [z,hlyx] at e;cases e) (A89 _ _ e)
    ·intro d' md
     rcases List.mem_append.mp md with md | md
     ·exact all d' md
     ·rw [List.mem_singleton.mp md]
      exact aIU oka sa mgt (gsl gt mgt) (by omega) (by omega) (fun c m=>(okc c m).1)
  ·rintro σ H' ⟨w7,w8,w9,w10,w11,ys,es,rfl,X,hly,iy,le,all⟩
   have SH:aK H H':=fun b o e=>X _ _ (T3 _ _ e) (fun z=>by rw [z,nl] at e;cases e)
   obtain ⟨xs,rfl,h1,h2⟩:=aEY all
   rw [List.length_map] at le
   exact ⟨_,rfl,q l xs H' SH nl ⟨⟨ys,hly,IsL.same (aJD _ _) _ _ iy⟩,h1,h2⟩ (by omega)⟩
open Mt22 MtF
def xP (K:PySem.W.Frag):Sp:=sp2 fun x y H Q=>∃ (a l:Addr) (vs:List V) (ds:List Dv) (zs op:List Str),x = .ref a ∧ y = .ref l ∧ H a = some (.lst vs) ∧ IsL H ds vs ∧ GoodD zs ds ∧ H l = some (.lst (op.map V.str)) ∧ (∀ z ∈ op,z ∈ (ds.filter aX).map aJ) ∧
 ∀ (d:Addr) (H':Hp),aK H H' → H d = none → H' d = some (.dK (iS op ds)) → Q (.ref d) H'
theorem aFP {kvs:List (Key × V)} {k:Key} {v v':V} (h:eK kvs k = none):iT (kvs ++ [(k,v)]) k v' = kvs ++ [(k,v')]:=by
 have no:∀ kv ∈ kvs,kv.1 ≠ k:=fun kv m e=>by
  unfold eK at h
  have h2:kvs.find? (fun kv=>decide (kv.1 = k)) = none:=by
   cases e2:kvs.find? (fun kv=>decide (kv.1 = k)) with
   | none=>rfl
   | some x=>rw [e2] at h;cases h
  have:=List.find?_eq_none.mp h2 kv m
  simp [e] at this
 unfold iT
 have:((kvs ++ [(k,v)]).any fun kv=>decide (kv.1 = k)) = true:=by
  rw [List.any_append]
  simp
 rw [if_pos this,List.map_append]
 congr 1
 ·have e:∀ l:List (Key × V),(∀ kv ∈ l,kv.1 ≠ k) → l.map (fun kv=>if kv.1 = k then (kv.1,v') else kv) = l:=fun l hl=>by
   conv=>rhs;rw [← List.map_id l]
   exact List.map_congr_left fun kv m=>by rw [if_neg (hl kv m)];rfl
  exact e kvs no
 ·simp
theorem aBJ (T:Txt K mg C):Fc P w K mg base 1 "_law_stands" ["_law_dykes_here","_law_opened_here"] (xP K):=by
 refine T.d_l_stands.fc fH gK (fun f cdv A outer s H vs Q E hr h=>?_)
 obtain ⟨x,y,rfl,a,l,vs,ds,zs,op,rfl,rfl,ha,hia,gd,hl,sub,q⟩:=h
 have big:=bY
 have hu:=jP hr
 have lv:=hia.length
 have d2:=gd.l2
 refine ⟨_,(aG (@aY _ _ (2) _ _ _ _ fH.nd rfl (Or.inl rfl) aBB (by rfl) (by trivial)) (aG (@eC _ _ _ _ _ _ _ _ PassesOwn.never rfl (@bJ _ (K) _ _ _ rfl (@bK _ _ _ _ (pv 0))) (@nK _ (K) _ _ _ _ _ rfl 6 rfl (@nL _ _ _ _ _ _ rfl (@bD _ _ _ _ _ (@aN _ _ (3) _ fH.nd rfl (Or.inl rfl) (by trivial)) (@bD _ _ _ _ _ (@aN _ _ (4) _ fH.nd rfl (Or.inl rfl) (by trivial)) (@bD _ _ _ _ _ (@aN _ _ (5) _ fH.nd rfl (Or.inl rfl) (by trivial)) (@bD _ _ _ _ _ (@aN _ _ (6) _ fH.nd rfl (Or.inl rfl) (by trivial)) (@bD _ _ _ _ _ (@aN _ _ (7) _ fH.nd rfl (Or.inl rfl) (by trivial)) (@bD _ _ _ _ _ (@aN _ _ (8) _ fH.nd rfl (Or.inl rfl) (by trivial)) iQ (by rfl)) (by rfl)) (by rfl)) (by rfl)) (by rfl)) (by rfl)) (by rfl) (by rfl))) (aG (@nJ _ _ _ _ _ _ _ _ _ hu (pv 2) (pv 3) (pv 6) rfl) (aI (@cD _ _ _ _ _ _ _ _ (@bH _ _ _ _ _ _ _ _ (@eW _ (K) rfl) (pv 3) (pv 1) (by with_unfolding_all rfl)) (aI (@nJ _ _ _ _ _ _ _ _ _ hu (pv 2) (pv 3) (pv 8) rfl)) bE))) (by intro _;rfl)) (aI (@aT _ _ _ _ (pv 2))))),?_⟩
 refine fun d hd=>?_
 have S1:=aK.upd (o:=.dK []) hd
 refine ⟨_,rfl,a,rfl,⟨_,SqL.of (S1 _ _ ha)⟩,dQ (K:=K) (a:=a) (xs:=vs)
  (fun i σ H'=>∃ v3 v4 v5 v6 v7 v8:Option V,σ = [some (.ref a),some (.ref l),some (.ref d),v3,v4,v5,v6,v7,v8] ∧ aK H H' ∧ H' d = some (.dK (iS op (ds.take i))))
  ⟨_,_,_,_,_,_,rfl,S1,aB⟩ (fun i σ H' _ ⟨_,_,_,_,_,_,_,S',_⟩=>SqL.of (S' _ _ ha)) ?_ ?_⟩
 ·rintro i xv σ H2 hi ⟨v3,v4,v5,v6,v7,v8,rfl,S2,hd2⟩
  have hil:i < vs.length:=(List.getElem?_eq_some_iff.mp hi).1
  obtain ⟨dd,ed⟩:∃ d,ds[i]? = some d:=⟨_,List.getElem?_eq_getElem (by omega)⟩
  obtain ⟨v,ev,iv⟩:=hia.get ed
  rw [hi] at ev
  cases ev
  have md:=List.mem_of_getElem? ed
  have si:=fun h=>aAR gd sub md h
  have knew:eK (iS op (ds.take i)) (Sum.inr (aJ dd)) = none:=by
   cases e:eK (iS op (ds.take i)) (Sum.inr (aJ dd)) with
   | none=>rfl
   | some v =>
    have:=aDT e
    rw [xO] at this
    obtain ⟨e2,me2,ee⟩:=List.mem_map.mp this
    have enm:aJ e2 = aJ dd:=Sum.inr.inj ee
    have h3:((ds.take (i + 1)).map aJ).Nodup:=by
     rw [List.map_take]
     exact List.Nodup.sublist (List.take_sublist _ _) gd.nd
    rw [List.take_add_one,ed,List.map_append,List.nodup_append] at h3
    exact absurd enm (h3.2.2 _ (List.mem_map.mpr ⟨e2,me2,rfl⟩) _ (List.mem_singleton.mpr rfl))
  have ek:iS op (ds.take (i + 1)) = iS op (ds.take i) ++ [(Sum.inr (aJ dd),V.int (fT op dd))]:=by
   unfold iS
   rw [List.take_add_one,ed,List.map_append]
   rfl
  have lk:(iS op (ds.take i)).length < sizeLine:=by
   unfold iS
   rw [List.length_map,List.length_take]
   omega
  obtain ⟨n,a',b',c,r,sl,rfl,_⟩:=bI (gd.all dd md)
  obtain ⟨t,sv,rfl,o,isv⟩:=gI iv
  refine ⟨t,_,rfl,SqT.of (S2 _ _ o),rfl,_,_,rfl,_,_,rfl,_,_,rfl,_,_,rfl,_,_,rfl,_,_,rfl,rfl,?_⟩
  have knew':eK (iS op (ds.take i)) (Sum.inr n) = none:=knew
  refine ⟨_,rfl,_,rfl,_,rfl,d,_,rfl,.inl ⟨_,Sum.inr n,hd2,rfl,lk,rfl⟩,?_⟩
  have S3:aK H (upd H2 d (.dK (iT (iS op (ds.take i)) (Sum.inr n) (.int c)))):=S2.over hd
  have hd3:upd H2 d (.dK (iT (iS op (ds.take i)) (Sum.inr n) (.int c))) d = some (.dK (iS op (ds.take i) ++ [(Sum.inr n,.int c)])):=by rw [aB,aAY _ knew']
  generalize upd H2 d (.dK (iT (iS op (ds.take i)) (Sum.inr n) (.int c))) = H3 at S3 hd3 ⊢
  refine ⟨_,rfl,_,rfl,l,_,rfl,.inl (SqL.of (S3 _ _ hl)),rfl,dU op,_,rfl,?_⟩
  rw [gL]
  by_cases mo:n ∈ op
  ·obtain ⟨i2,e2⟩:=si mo
   have e2':sl = .int i2:=e2
   subst e2'
   cases (show sv = .int i2 from isv)
   rw [decide_eq_true mo]
   refine bW ⟨_,rfl,_,rfl,_,rfl,d,_,rfl,.inl ⟨_,Sum.inr n,hd3,rfl,by rw [List.length_append];show _ + 1 < _;have h4:=d2;unfold iS;rw [List.length_map,List.length_take];omega,rfl⟩,?_⟩
   refine ⟨_,_,_,_,_,_,rfl,S3.over hd,?_⟩
   rw [aB,aFP knew',ek]
   show some (HO.dK (_ ++ [(Sum.inr n,V.int i2)])) = some (HO.dK (_ ++ [(Sum.inr n,V.int (if n ∈ op then i2 else c))]))
   rw [if_pos mo]
  ·rw [decide_eq_false mo]
   refine bC ⟨_,_,_,_,_,_,rfl,S3,?_⟩
   rw [hd3,ek]
   show some (HO.dK (_ ++ [(Sum.inr n,V.int c)])) = some (HO.dK (_ ++ [(Sum.inr n,V.int (if n ∈ op then aIO sl else c))]))
   rw [if_neg mo]
 ·rintro σ H2 ⟨v3,v4,v5,v6,v7,v8,rfl,S2,hd2⟩
  rw [List.take_of_length_le (by omega)] at hd2
  exact ⟨_,rfl,q d H2 S2 hd hd2⟩
def aAL (CS C:Addr):Sp:=sp1 fun x H Q=>∃ (p dw pl:Addr) (fs ds:List Dv) (xs:List Dk) (op wt:List Str) (n:Int) (cnt:Str → Int),x = .ref p ∧ SeaAt CS C H p dw pl fs ds xs op wt n cnt ∧ Q (.int n) H
theorem rA (T:Txt K mg C) {CS:Addr} (hCS:mg "Season" = some (.ref CS)):Mc P w K mg base 1 CS "count" ["self"] (aAL CS C):=by
 obtain ⟨C_Season,cl_Season,mg_Season,na_on_land,na_own_decrees,na_open_names,na_wet_names,na_day_count,na_wet_counts,i_Season,m_season_p_day,m_season_p_days,m_season_p_opened,m_season_p_wet,m_season_p_count,m_season_p_wet_days,m_season_p_onto⟩:=T.k_Season
 rw [hCS] at mg_Season
 cases mg_Season
 refine m_season_p_count.mc qU lM (fun f cdv A outer s H vs Q E hr h=>?_)
 obtain ⟨x,rfl,p,dw,pl,fs,ds,xs,op,wt,n,cnt,rfl,SA,q⟩:=h
 obtain ⟨dx,F,ld,lo,lw,e,sf,dc,h1,h2⟩:=SA.ex
 refine ⟨_,(aI (@aT _ _ _ _ (@eV _ _ _ _ _ (pv 0) rfl))),?_⟩
 exact ⟨_,rfl,p,CS,dx,F,_,rfl,e,cl_Season,na_day_count,sf.f5,q⟩
def yS (CS C:Addr):Sp:=sp1 fun x H Q=>∃ (p dw pl:Addr) (fs ds:List Dv) (xs:List Dk) (op wt:List Str) (n:Int) (cnt:Str → Int),x = .ref p ∧ SeaAt CS C H p dw pl fs ds xs op wt n cnt ∧ ∀ (l:Addr),H l = none → Q (.ref l) (upd H l (.dK (bQ (fs.map aJ) cnt)))
theorem jN (T:Txt K mg C) {CS:Addr} (hCS:mg "Season" = some (.ref CS)):Mc P w K mg base 1 CS "wet_days" ["self"] (yS CS C):=by
 obtain ⟨C_Season,cl_Season,mg_Season,na_on_land,na_own_decrees,na_open_names,na_wet_names,na_day_count,na_wet_counts,i_Season,m_season_p_day,m_season_p_days,m_season_p_opened,m_season_p_wet,m_season_p_count,m_season_p_wet_days,m_season_p_onto⟩:=T.k_Season
 rw [hCS] at mg_Season
 cases mg_Season
 refine m_season_p_wet_days.mc oJ lM (fun f cdv A outer s H vs Q E hr h=>?_)
 obtain ⟨x,rfl,p,dw,pl,fs,ds,xs,op,wt,n,cnt,rfl,SA,q⟩:=h
 obtain ⟨dx,F,ld,lo,lw,e,sf,dc,h1,h2⟩:=SA.ex
 refine ⟨_,(aI (@aT _ _ _ _ (@cE _ _ _ _ _ _ _ _ _ pF rfl T.n_dict eX (@aA _ _ _ _ _ (@eV _ _ _ _ _ (pv 0) rfl) aE (by rfl)) (by decide) (by decide) (by rfl) (by rfl)))),?_⟩
 exact ⟨_,rfl,p,CS,dx,F,_,rfl,e,cl_Season,na_wet_counts,sf.f6,dw,_,rfl,SA.dwt,q⟩
theorem SeaF.putD {F:List (Str × V)} {pl ld lo lw dw:Addr} {n:Int} (h:SeaF F pl ld lo lw dw n) (dw':Addr):SeaF (cF "wet_counts" (.ref dw') F) pl ld lo lw dw' n:=by
 refine ⟨?_,?_,?_,?_,?_,?_,fun m hm=>?_,?_⟩
 ·rw [aV,if_neg (by decide +kernel)];exact h.f1
 ·rw [aV,if_neg (by decide +kernel)];exact h.f2
 ·rw [aV,if_neg (by decide +kernel)];exact h.f3
 ·rw [aV,if_neg (by decide +kernel)];exact h.f4
 ·rw [aV,if_neg (by decide +kernel)];exact h.f5
 ·rw [aV,if_pos rfl]
 ·rw [aV,if_neg (fun e=>hm (by rw [e];decide +kernel))];exact h.no m hm
 ·rw [oP _ _ _ ⟨_,h.f6⟩];exact h.len
def aHD (CS C:Addr):Sp:=sp2 fun x y H Q=>∃ (p dw pl pl':Addr) (fs ds ds':List Dv) (xs:List Dk) (op wt:List Str) (n:Int) (cnt:Str → Int),x = .ref p ∧ SeaAt CS C H p dw pl fs ds xs op wt n cnt ∧ y = .ref pl' ∧ LandAt C H pl' fs ds' ∧ (ds'.filter aX).map aJ = (ds.filter aX).map aJ ∧
 ∀ (p' dw':Addr) (H':Hp),aK H H' → H p' = none → H dw' = none → SeaAt CS C H' p' dw' pl' fs ds' xs op wt n cnt → Q (.ref p') H'
theorem rT (T:Txt K mg C) {CS:Addr} (hCS:mg "Season" = some (.ref CS)):Mc P w K mg base 9 CS "onto" ["self","land"] (aHD CS C):=by
 have G_season_p_opened:Mc P w K mg base 1 CS "opened" ["self"] (tV CS C):=hZ T hCS
 have G_season_p_wet:Mc P w K mg base 1 CS "wet" ["self"] (yQ CS C):=jU T hCS
 have G_season_p_wet_days:Mc P w K mg base 1 CS "wet_days" ["self"] (yS CS C):=jN T hCS
 have G_season_pinit:Ic P w K mg base 7 CS ["self","land","decrees"] (yR CS C):=nY T hCS
 obtain ⟨C_Season,cl_Season,mg_Season,na_on_land,na_own_decrees,na_open_names,na_wet_names,na_day_count,na_wet_counts,i_Season,m_season_p_day,m_season_p_days,m_season_p_opened,m_season_p_wet,m_season_p_count,m_season_p_wet_days,m_season_p_onto⟩:=T.k_Season
 rw [hCS] at mg_Season
 cases mg_Season
 refine m_season_p_onto.mc lW gK (fun f cdv A outer s H vs Q E hr h=>?_)
 obtain ⟨x,y,rfl,p,dw,pl,pl',fs,ds,ds',xs,op,wt,n,cnt,rfl,SA,rfl,L',hgs,q⟩:=h
 obtain ⟨dx,F,ld,lo,lw,e,sf,dc,h1,h2⟩:=SA.ex
 have mg_Season:=hCS
 refine ⟨_,(aG (@aY _ _ (2) _ _ _ _ lW.nd rfl (Or.inl rfl) (@aEP _ _ _ _ _ _ _ _ _ _ _ mg_Season G_season_pinit (hr.mono (by decide)) (aA (pv 1) (@aA _ _ _ _ _ (@eV _ _ _ _ _ (pv 0) rfl) aE (by rfl))) (by rfl) (by decide) (by rfl) (by rfl)) (by rfl) (by trivial)) (aG (@iP _ _ _ _ _ _ _ _ (pv 2) (@gH _ _ _ _ _ _ _ _ _ _ _ cl_Season G_season_p_opened (hr.mono (by decide)) (pv 0) (by rfl)) rfl) (aG (@iP _ _ _ _ _ _ _ _ (pv 2) (@gH _ _ _ _ _ _ _ _ _ _ _ cl_Season G_season_p_wet (hr.mono (by decide)) (pv 0) (by rfl)) rfl) (aG (@iP _ _ _ _ _ _ _ _ (pv 2) (@eV _ _ _ _ _ (pv 0) rfl) rfl) (aG (@iP _ _ _ _ _ _ _ _ (pv 2) (@gH _ _ _ _ _ _ _ _ _ _ _ cl_Season G_season_p_wet_days (hr.mono (by decide)) (pv 0) (by rfl)) rfl) (aI (@aT _ _ _ _ (pv 2)))))))),?_⟩
 refine ⟨_,rfl,_,rfl,p,CS,dx,F,_,rfl,e,cl_Season,na_own_decrees,sf.f2,fun p' dx' np ndx nex=>?_⟩
 have S1':aK H (upd (upd H dx' (.own p')) p' (.ins CS dx' [])):=fun b o e=>by
  rw [aP (aL e np),aP (aL e ndx)]
  exact e
 refine ⟨_,_,_,rfl,p',dx',pl',ld,fs,ds',xs,rfl,aB,rfl,L'.same S1',rfl,by rw [hgs];exact dc.same S1',SA.lx,fun dw1 H1 SA1' ndw1 X1=>⟨rfl,?_⟩⟩
 have SA1:=SA1'.same vS
 have S1:aK H H1:=fun b o e=>X1 b o (S1' _ _ e) (aL e np)
 obtain ⟨dx1,F1,ld1,lo1,lw1,hp1,sf1,dc1,_,hlw1⟩:=SA1.ex
 have SAa:=SA.same S1
 obtain ⟨dxa,Fa,lda,loa,lwa,ea,sfa,_⟩:=SAa.ex
 have npp:p ≠ p':=fun z=>by rw [z,np] at e;cases e
 have ndw:H dw1 = none:=S1'.free ndw1
 refine ⟨_,rfl,p,dxa,Fa,rfl,ea,sfa.no _ (by decide +kernel),_,rfl,p,dw,pl,fs,ds,xs,_,_,_,_,rfl,SAa,fun l2 hl2=>?_⟩
 have A2:=aK.upd (o:=.lst (op.map V.str)) hl2
 have nl2:l2 ≠ p':=fun z=>by rw [z,hp1] at hl2;cases hl2
 refine ⟨_,rfl,p',CS,dx1,F1,rfl,A2 _ _ hp1,cl_Season,na_open_names,by have:=sf1.len;omega,?_⟩
 have sf2:=sf1.put l2
 have X2:cI p' H1 (upd (upd H1 l2 (.lst (op.map V.str))) p' (.ins CS dx1 (cF "open_names" (.ref l2) F1))):=(aK.x A2).put
 have hp2:upd (upd H1 l2 (.lst (op.map V.str))) p' (.ins CS dx1 (cF "open_names" (.ref l2) F1)) p' = some (.ins CS dx1 (cF "open_names" (.ref l2) F1)):=aB
 have hl22:upd (upd H1 l2 (.lst (op.map V.str))) p' (.ins CS dx1 (cF "open_names" (.ref l2) F1)) l2 = some (.lst (op.map V.str)):=by rw [aP nl2,aB]
 generalize cF "open_names" (.ref l2) F1 = F2 at sf2 X2 hp2 hl22 ⊢
 generalize upd (upd H1 l2 (.lst (op.map V.str))) p' (.ins CS dx1 F2) = H2 at X2 hp2 hl22 ⊢
 have S2:aK H H2:=fun b o e=>X2 _ _ (S1 _ _ e) (aL e np)
 have SAb:=SA.same S2
 obtain ⟨dxb,Fb,ldb,lob,lwb,eb,sfb,_⟩:=SAb.ex
 refine ⟨_,rfl,p,dxb,Fb,rfl,eb,sfb.no _ (by decide +kernel),_,rfl,p,dw,pl,fs,ds,xs,_,_,_,_,rfl,SAb,fun l3 hl3=>?_⟩
 have A3:=aK.upd (o:=.lst (wt.map V.str)) hl3
 have nl3:l3 ≠ p':=fun z=>by rw [z,hp2] at hl3;cases hl3
 refine ⟨_,rfl,p',CS,dx1,F2,rfl,A3 _ _ hp2,cl_Season,na_wet_names,by have:=sf2.len;omega,?_⟩
 have sf3:=sf2.putW l3
 have X3:cI p' H2 (upd (upd H2 l3 (.lst (wt.map V.str))) p' (.ins CS dx1 (cF "wet_names" (.ref l3) F2))):=(aK.x A3).put
 have hp3:upd (upd H2 l3 (.lst (wt.map V.str))) p' (.ins CS dx1 (cF "wet_names" (.ref l3) F2)) p' = some (.ins CS dx1 (cF "wet_names" (.ref l3) F2)):=aB
 have hl33:upd (upd H2 l3 (.lst (wt.map V.str))) p' (.ins CS dx1 (cF "wet_names" (.ref l3) F2)) l3 = some (.lst (wt.map V.str)):=by rw [aP nl3,aB]
 generalize cF "wet_names" (.ref l3) F2 = F3 at sf3 X3 hp3 hl33 ⊢
 generalize upd (upd H2 l3 (.lst (wt.map V.str))) p' (.ins CS dx1 F3) = H3 at X3 hp3 hl33 ⊢
 have S3:aK H H3:=fun b o e=>X3 _ _ (S2 _ _ e) (aL e np)
 refine ⟨_,rfl,p,CS,dx,F,_,rfl,S3 _ _ e,cl_Season,na_day_count,sf.f5,_,rfl,p',CS,dx1,F3,rfl,hp3,cl_Season,na_day_count,by have:=sf3.len;omega,?_⟩
 have sf4:=sf3.putN n
 have X4:cI p' H3 (upd H3 p' (.ins CS dx1 (cF "day_count" (.int n) F3))):=(aK.x (aK.refl H3)).put
 have hp4:upd H3 p' (.ins CS dx1 (cF "day_count" (.int n) F3)) p' = some (.ins CS dx1 (cF "day_count" (.int n) F3)):=aB
 generalize cF "day_count" (.int n) F3 = F4 at sf4 X4 hp4 ⊢
 generalize upd H3 p' (.ins CS dx1 F4) = H4 at X4 hp4 ⊢
 have S4:aK H H4:=fun b o e=>X4 _ _ (S3 _ _ e) (aL e np)
 have SAd:=SA.same S4
 obtain ⟨dxd,Fd,ldd,lod,lwd,ed,sfd,_⟩:=SAd.ex
 refine ⟨_,rfl,p,dxd,Fd,rfl,ed,sfd.no _ (by decide +kernel),_,rfl,p,dw,pl,fs,ds,xs,_,_,_,_,rfl,SAd,fun d5 hd5=>?_⟩
 have A5:=aK.upd (o:=.dK (bQ (fs.map aJ) cnt)) hd5
 have nd5:d5 ≠ p':=fun z=>by rw [z,hp4] at hd5;cases hd5
 refine ⟨_,rfl,p',CS,dx1,F4,rfl,A5 _ _ hp4,cl_Season,na_wet_counts,by have:=sf4.len;omega,?_⟩
 have sf5:=sf4.putD d5
 have X5:cI p' H4 (upd (upd H4 d5 (.dK (bQ (fs.map aJ) cnt))) p' (.ins CS dx1 (cF "wet_counts" (.ref d5) F4))):=(aK.x A5).put
 have hp5:upd (upd H4 d5 (.dK (bQ (fs.map aJ) cnt))) p' (.ins CS dx1 (cF "wet_counts" (.ref d5) F4)) p' = some (.ins CS dx1 (cF "wet_counts" (.ref d5) F4)):=aB
 have hd55:upd (upd H4 d5 (.dK (bQ (fs.map aJ) cnt))) p' (.ins CS dx1 (cF "wet_counts" (.ref d5) F4)) d5 = some (.dK (bQ (fs.map aJ) cnt)):=by rw [aP nd5,aB]
 generalize cF "wet_counts" (.ref d5) F4 = F5 at sf5 X5 hp5 hd55 ⊢
 generalize upd (upd H4 d5 (.dK (bQ (fs.map aJ) cnt))) p' (.ins CS dx1 F5) = H5 at X5 hp5 hd55 ⊢
 have S5:aK H H5:=fun b o e=>X5 _ _ (S4 _ _ e) (aL e np)
 have X25:cI p' H2 H5:=fun b o e m=>X5 _ _ (X4 _ _ (X3 _ _ e m) m) m
 have X15:cI p' H1 H5:=fun b o e m=>X25 _ _ (X2 _ _ e m) m
 have hl35:=X5 _ _ (X4 _ _ hl33 nl3) nl3
 refine ⟨_,rfl,q p' d5 H5 S5 np (S4.free hd5) ⟨⟨dx1,F5,ld1,l2,l3,hp5,sf5,dc1.sameLT (X15.lt hp1 rfl),X25 _ _ hl22 nl2,hl35⟩,L'.same S5,hd55,by rw [hgs];exact SA.sub,SA.lop,SA.lx⟩⟩
open Mt22 MtF
def mT (lo:Mt22.Lo):Mt22.Lo:=fun z=>if z = Mt22.sea then some (-10000000) else lo z
theorem qL {lo:Mt22.Lo} {s:Mt22.St} (hs:lo Mt22.sea = some (-1000000)) (hf:s.far ≠ Mt22.sea) (hh:-1000000 ≤ s.h):eB (mT lo) s = mT (eB lo s) ∧ eB lo s Mt22.sea = some (-1000000):=by
 have hsea:eB lo s Mt22.sea = some (-1000000):=by
  unfold eB
  cases e:lo s.near with
  | none=>exact hs
  | some a =>
   dsimp only
   rw [if_neg (fun h=>hf h.symm)]
   exact hs
 refine ⟨?_,hsea⟩
 funext z
 by_cases hn:s.near = Mt22.sea
 ·unfold eB mT
  rw [if_pos hn,hn,hs]
  dsimp only
  by_cases hz:z = Mt22.sea
  ·rw [if_pos hz,if_pos hz,if_neg (fun h=>hf (h.symm.trans hz))]
  ·rw [if_neg hz,if_neg hz]
   have e:max (-10000000) s.h = max (-1000000) s.h:=by omega
   rw [if_neg hf,e]
 ·unfold eB mT
  rw [if_neg hn]
  cases e:lo s.near with
  | none=>rfl
  | some a =>
   dsimp only
   by_cases hz:z = Mt22.sea
   ·rw [if_pos hz,if_pos hz,if_neg (fun h=>hf (h.symm.trans hz))]
   ·rw [if_neg hz,if_neg hz,if_neg hf]
theorem sH {S:List Mt22.St}:∀ {lo:Mt22.Lo},(∀ s ∈ S,s.far ≠ Mt22.sea ∧ -1000000 ≤ s.h) → lo Mt22.sea = some (-1000000) → S.foldl eB lo Mt22.sea = some (-1000000):=by
 induction S with
 | nil=>intro lo _ h;exact h
 | cons s S ih=>exact fun hs h=>ih (fun x m=>hs x (List.mem_cons_of_mem _ m)) (qL h (hs s List.mem_cons_self).1 (hs s List.mem_cons_self).2).2
theorem sU {S:List Mt22.St} (hs:∀ s ∈ S,s.far ≠ Mt22.sea ∧ -1000000 ≤ s.h):∀ n,iO S n Mt22.sea = some (-1000000)
 | 0=>rfl
 | n + 1=>sH hs (sU hs n)
theorem aFI {fs ds:List Dv} {op:List Str} (gf:GoodF fs) (gd:GoodD ("sea" :: fs.map aJ) ds):∀ s ∈ bT fs ds op,-1000000 ≤ s.h:=fun s m=>by
 obtain ⟨g,mg,eg⟩:=List.mem_map.mp (aDM gd m)
 have e:aW fs s.far = lE g:=by rw [← eg,mS gf.nd mg]
 obtain ⟨n,h,u,rfl,_,hh,_⟩:=bP (gf.all g mg)
 have hh':=of_decide_eq_true (Bool.and_eq_true_iff.mp hh).1
 have e':aW fs s.far = h:=e
 obtain ⟨d,md,r⟩:=pS.mp m
 rcases r with ⟨_,rfl⟩ | ⟨_,rfl⟩
 ·have e2:aW fs (lI d) = h:=e'
  show -1000000 ≤ max _ (aW fs (lI d))
  omega
 ·have e2:aW fs (xA d) = h:=e'
  show -1000000 ≤ max _ (aW fs (xA d))
  omega
def aHF (K:PySem.W.Frag):Sp:=sp3 fun x y u H Q=>∃ (lf ld dh:Addr) (vf vd:List V) (fs ds:List Dv) (op:List Str),x = .ref lf ∧ y = .ref ld ∧ u = .ref dh ∧ H lf = some (.lst vf) ∧ IsL H fs vf ∧ GoodF fs ∧ H ld = some (.lst vd) ∧ IsL H ds vd ∧ GoodD ("sea" :: fs.map aJ) ds ∧ H dh = some (.dK (iS op ds)) ∧
 ∀ (d:Addr) (H':Hp),aK H H' → H d = none → H' d = some (.dK (iG fs (flo fs ds op))) → Q (.ref d) H'
theorem aBM (T:Txt K mg C):Fc P w K mg base 1 "_law_floods" ["_law_fields_here","_law_dykes_here","_law_told_stands"] (aHF K):=by
 refine T.d_l_floods.fc bZ aIF (fun f cdv A outer s H vs Q E hr h=>?_)
 obtain ⟨x,y,u,rfl,lf,ld,dh,vf,vd,fs,ds,op,rfl,rfl,rfl,hlf,hif,gf,hld,hid,gd,hdh,q⟩:=h
 have big:=bY
 have hu:=jP hr
 have f2:=gf.l2
 have d2:=gd.l2
 have lvf:=hif.length
 have lvd:=hid.length
 refine ⟨_,(aG (@aY _ _ (3) _ _ _ _ bZ.nd rfl (Or.inl rfl) (@aEQ _ _ _ _ _ (@aAZ _ _ _ _ _ _ _ _ _ cP (@aR _ _ _ _ _ _ _ _ lJ aD (@aR _ _ _ _ _ _ _ _ eD aD aD)) aEM) rfl rfl (by simp) (Nat.le_of_ble_eq_true rfl)) (by rfl) (by trivial)) (aG (@eC _ _ _ _ _ _ _ _ PassesOwn.never rfl (@gJ _ _ _ _ _ _ rfl T.n_range (aA (@aZ _ _ _ _ _ _ _ _ _ (@bU _ (K) rfl) rfl T.n_len cT (aA (pv 0) aE) (by decide) (by decide) (by rfl) (by rfl)) aE) (by rfl)) (@aN _ _ (4) _ bZ.nd rfl (Or.inl rfl) (by trivial)) (aI (@eC _ _ _ _ _ _ _ _ PassesOwn.never rfl (@bJ _ (K) _ _ _ rfl (@bK _ _ _ _ (pv 1))) (@nK _ (K) _ _ _ _ _ rfl 6 rfl (@nL _ _ _ _ _ _ rfl (@bD _ _ _ _ _ (@aN _ _ (5) _ bZ.nd rfl (Or.inl rfl) (by trivial)) (@bD _ _ _ _ _ (@aN _ _ (6) _ bZ.nd rfl (Or.inl rfl) (by trivial)) (@bD _ _ _ _ _ (@aN _ _ (7) _ bZ.nd rfl (Or.inl rfl) (by trivial)) (@bD _ _ _ _ _ (@aN _ _ (8) _ bZ.nd rfl (Or.inl rfl) (by trivial)) (@bD _ _ _ _ _ (@aN _ _ (9) _ bZ.nd rfl (Or.inl rfl) (by trivial)) (@bD _ _ _ _ _ (@aN _ _ (10) _ bZ.nd rfl (Or.inl rfl) (by trivial)) iQ (by rfl)) (by rfl)) (by rfl)) (by rfl)) (by rfl)) (by rfl)) (by rfl) (by rfl))) (aI (@eC _ _ _ _ _ _ _ _ PassesOwn.never rfl (@bJ _ (K) _ _ _ rfl (@bK _ _ _ _ (@cK _ _ _ _ (aA (@cU _ _ _ _ _ (aA (pv 6) (aA (pv 7) aE))) (aA (@cU _ _ _ _ _ (aA (pv 7) (aA (pv 6) aE))) aE))))) (@nK _ (K) _ _ _ _ _ rfl 2 rfl (@nL _ _ _ _ _ _ rfl (@bD _ _ _ _ _ (@aN _ _ (11) _ bZ.nd rfl (Or.inl rfl) (by trivial)) (@bD _ _ _ _ _ (@aN _ _ (12) _ bZ.nd rfl (Or.inr rfl) (by trivial)) iQ (by rfl)) (by rfl)) (by rfl) (by rfl))) (aI (@cD _ _ _ _ _ _ _ _ (@PW.pt _ _ _ (@rS _ _ _ _ _ _ _ (@aHU _ _ _ _ _ _ (@aIB _ _ _ _ _ hu (pv 11) (pv 3)) (by first | exact nobehind _ (by decide) (by decide) | rfl)) (@pN _ _ _ _ (@bH _ _ _ _ _ _ _ _ oS (pv 12) cP (@bF _ _ (by decide) (by decide)))))) (aG (@aY _ _ (13) _ _ _ _ bZ.nd rfl (Or.inl rfl) (@aU _ _ _ _ _ _ _ (@bO _ (K) rfl) (@cQ _ _ _ _ _ _ _ _ _ _ _ ["_law_field","_law_goal"] 1 [12] rfl (@bJ _ (K) _ _ _ rfl (@bK _ _ _ _ (pv 0))) (fun R=>@aN _ _ (0) _ (show List.Nodup (["_law_field","_law_goal"]:List Str) by decide +kernel) rfl (Or.inl rfl) (by trivial)) (@bG _ _ (by decide)) (fun R=>@kU _ _ _ (@bH _ _ _ _ _ _ _ _ iD (@aU _ _ _ _ _ _ _ (@aM _ (K) rfl) (pv 0) aD (fun _ _=>rfl)) (pv 1) (@bF _ _ (by decide) (by decide)))) (fun R=>(@aU _ _ _ _ _ _ _ (@aM _ (K) rfl) (pv 0) aD (fun _ _=>rfl))) (by rfl) (by rfl) (by rfl) (by rfl) (by rfl) (by rfl) (by rfl) (by intro _;rfl)) aD (fun _ _=>rfl)) (by rfl) (by trivial)) (aG (@aY _ _ (14) _ _ _ _ bZ.nd rfl (Or.inl rfl) (@aZ _ _ _ _ _ _ _ _ _ (aGI rfl) rfl T.n_max kF (aA (@jD _ _ _ _ _ _ hu (pv 3) (pv 11) (fun _ _=>rfl)) (aA (@jD _ _ _ _ _ _ hu (pv 2) (pv 5) (fun _ _=>rfl)) (aA (pv 13) aE))) (by decide) (by decide) (by rfl) (by rfl)) (by rfl) (by trivial)) (aI (@nJ _ _ _ _ _ _ _ _ _ hu (pv 3) (pv 12) (@aZ _ _ _ _ _ _ _ _ _ (@mU _ rfl) rfl T.n_min mX (aA (pv 14) (aA (@vB _ _ _ _ _ _ _ _ _ hu (pv 3) (pv 12) (pv 14) ⟨rfl,rfl,rfl,rfl⟩) aE)) (by decide) (by decide) (by rfl) (by rfl)) rfl)))) bE)) (by intro _;rfl))) (by intro _;rfl))) (by intro _;rfl)) (aG (@aY _ _ (15) _ _ _ _ bZ.nd rfl (Or.inl rfl) aBB (by rfl) (by trivial)) (aG (@eC _ _ _ _ _ _ _ _ PassesOwn.never rfl (@bJ _ (K) _ _ _ rfl (@bK _ _ _ _ (pv 0))) (@nK _ (K) _ _ _ _ _ rfl 3 rfl (@nL _ _ _ _ _ _ rfl (@bD _ _ _ _ _ (@aN _ _ (5) _ bZ.nd rfl (Or.inl rfl) (by trivial)) (@bD _ _ _ _ _ (@aN _ _ (13) _ bZ.nd rfl (Or.inl rfl) (by trivial)) (@bD _ _ _ _ _ (@aN _ _ (16) _ bZ.nd rfl (Or.inl rfl) (by trivial)) iQ (by rfl)) (by rfl)) (by rfl)) (by rfl) (by rfl))) (aI (@nJ _ _ _ _ _ _ _ _ _ hu (pv 15) (pv 5) (@aBC _ _ _ _ _ _ _ hu (pv 3) (pv 5) ⟨rfl,rfl,rfl,rfl⟩) rfl)) (by intro _;rfl)) (aI (@aT _ _ _ _ (pv 15))))))),?_⟩
 refine kI fun u1 hu1=>?_
 have slen:=nC fs op
 have hsb:=aFI (op:=op) gf gd
 have hst:∀ s ∈ bT fs ds op,s.far ≠ Mt22.sea ∧ -1000000 ≤ s.h:=fun s m=>⟨fun e=>by
  obtain ⟨d,md,e'⟩:=List.mem_map.mp (aDM gd m)
  obtain ⟨z',g,u,rfl,hz,_⟩:=bP (gf.all d md)
  exact yV hz (e'.trans e),hsb s m⟩
 have hsi:∀ k,∀ s ∈ bT fs (ds.take k) op,s ∈ bT fs ds op:=fun k s m=>by
  obtain ⟨d,md,r⟩:=pS.mp m
  exact pS.mpr ⟨d,List.mem_of_mem_take md,r⟩
 refine fun dl hdl=>?_
 refine ⟨_,_,rfl,rfl,⟨by decide,by decide,by decide⟩,_,_,rfl,rfl,?_⟩
 have p7:(0:Int) - 10 ^ (7:Int).toNat = -10000000:=by decide
 refine ⟨aB,[(Sum.inr "sea",.int (-10000000))],by show [(V.str "sea",V.int (0 - 10 ^ (7:Int).toNat))] = _;rw [p7];rfl,by show 1 ≤ 15;decide,?_⟩
 have S3:aK H (upd (upd H dl (.dK [])) dl (.dK (lA [] [(Sum.inr "sea",.int (-10000000))]))):=(aK.upd hdl).over hdl
 have lo3:xJ (upd (upd H dl (.dK [])) dl (.dK (lA [] [(Sum.inr "sea",.int (-10000000))]))) dl (mT lo0) 1:=by
  refine ⟨[(Sum.inr "sea",.int (-10000000))],aB,Nat.le_refl _,fun z=>?_⟩
  unfold mT lo0
  by_cases hz:z = Mt22.sea
  ·subst hz
   rw [if_pos rfl]
   exact dW rfl
  ·rw [if_neg hz,if_neg hz,dX (fun e=>hz (Sum.inr.inj e).symm)]
   rfl
 generalize upd (upd H dl (.dK [])) dl (.dK (lA [] [(Sum.inr "sea",.int (-10000000))])) = H3 at S3 lo3
 refine ⟨_,rfl,lf,_,rfl,.inl (SqL.of (S3 _ _ hlf)),(fs.length:Int),by rw [lvf],by omega,by omega,?_⟩
 refine jA (lo:=0) (n:=fs.length) (fun i σ H'=>∃ v4 v5 v6 v7 v8 v9 v10 v11 v12 v13 v14:Option V,σ = [some (.ref lf),some (.ref ld),some (.ref dh),some (.ref dl),v4,v5,v6,v7,v8,v9,v10,v11,v12,v13,v14,none,none] ∧ aK H H' ∧ xJ H' dl (mT (iO (bT fs ds op) i)) (1 + i * 80))
  ⟨_,_,_,_,_,_,_,_,_,_,_,rfl,S3,lo3⟩ ?_ ?_
 ·rintro i σ H5 hi ⟨v4,v5,v6,v7,v8,v9,v10,v11,v12,v13,v14,rfl,S5,lo5⟩
  refine xY fun D1 hD1=>?_
  refine ⟨_,rfl,ld,rfl,⟨_,SqL.of (S5 _ _ hld)⟩,dQ (K:=K) (a:=ld) (xs:=vd)
   (fun j σ H'=>∃ v5 v6 v7 v8 v9 v10 v11 v12 v13 v14:Option V,σ = [some (.ref lf),some (.ref ld),some (.ref dh),some (.ref dl),some (.int (0 + (i:Int))),v5,v6,v7,v8,v9,v10,v11,v12,v13,v14,none,none] ∧ aK H H' ∧ xJ H' dl (mT ((bT fs (ds.take j) op).foldl eB (iO (bT fs ds op) i))) (1 + i * 80 + 2 * j))
   ⟨_,_,_,_,_,_,_,_,_,_,rfl,S5,lo5⟩ (fun j σ H' _ ⟨_,_,_,_,_,_,_,_,_,_,_,S,_⟩=>SqL.of (S _ _ hld)) ?_ ?_⟩
  ·rintro j xv σ HX hj ⟨w5,w6,w7,w8,w9,w10,w11,w12,w13,w14,rfl,SX,loX⟩
   refine aAF fun D2 hD2=>?_
   have hjl:j < vd.length:=(List.getElem?_eq_some_iff.mp hj).1
   obtain ⟨d,ed⟩:∃ d,ds[j]? = some d:=⟨_,List.getElem?_eq_getElem (by omega)⟩
   obtain ⟨v,ev,iv⟩:=hid.get ed
   rw [hj] at ev
   cases ev
   have md:=List.mem_of_getElem? ed
   have vald:=kG (f:=fun d=>V.int (fT op d)) gd.nd md
   have tk:ds.take (j + 1) = ds.take j ++ [d]:=by rw [List.take_add_one,ed];rfl
   have hin:∀ s ∈ iJ fs op d,s ∈ bT fs ds op:=fun s m=>List.mem_flatMap.mpr ⟨d,md,m⟩
   have hsea:=sH (fun s m=>hst s (hsi j s m)) (sU hst i)
   have efold:(bT fs (ds.take (j + 1)) op).foldl eB (iO (bT fs ds op) i) = (iJ fs op d).foldl eB ((bT fs (ds.take j) op).foldl eB (iO (bT fs ds op) i)):=by
    rw [tk]
    unfold bT
    rw [List.flatMap_append,List.foldl_append]
    simp
   generalize (bT fs (ds.take j) op).foldl eB (iO (bT fs ds op) i) = lw at loX efold hsea
   obtain ⟨n,a',b',c,r,sl,rfl,_,_,ma,nab,_⟩:=bI (gd.all d md)
   obtain ⟨t,sv,rfl,o,isv⟩:=gI iv
   have oX:=SX _ _ o
   generalize hsd:fT op (.tup [.str n,.str a',.str b',.int c,.int r,sl]) = sd at vald
   have vald':eK (iS op ds) (Sum.inr n) = some (.int sd):=vald
   refine ⟨t,_,rfl,SqT.of oX,rfl,_,_,rfl,_,_,rfl,_,_,rfl,_,_,rfl,_,_,rfl,_,_,rfl,rfl,?_⟩
   refine ⟨_,rfl,_,rfl,aQ rfl,fun t1 ht1=>?_⟩
   have B1:=aK.upd (o:=.tup [.str a',.str b']) ht1
   refine ⟨_,rfl,_,rfl,aQ rfl,fun t2 ht2=>?_⟩
   have B2:=aK.upd (o:=.tup [.str b',.str a']) ht2
   refine ⟨aQ rfl,fun pp hpp=>?_⟩
   have B3:=aK.upd (o:=.lst [.ref t1,.ref t2]) hpp
   have B:=B1.trans (B2.trans B3)
   have k1:=(B2.trans B3) _ _ (aB (H:=HX) (a:=t1) (o:=.tup [.str a',.str b']))
   have k2:=B3 _ _ (aB (H:=upd HX t1 (.tup [.str a',.str b'])) (a:=t2) (o:=.tup [.str b',.str a']))
   have k3:upd (upd (upd HX t1 (.tup [.str a',.str b'])) t2 (.tup [.str b',.str a'])) pp (.lst [.ref t1,.ref t2]) pp = some (.lst [.ref t1,.ref t2]):=aB
   generalize upd (upd (upd HX t1 (.tup [.str a',.str b'])) t2 (.tup [.str b',.str a'])) pp (.lst [.ref t1,.ref t2]) = HZ at B k1 k2 k3 ⊢
   have SZ:=SX.trans B
   have loZ:xJ HZ dl (mT lw) (1 + i * 80 + 2 * j):=by
    obtain ⟨kvs,e,r⟩:=loX
    exact ⟨kvs,B _ _ e,r⟩
   have isdk:∃ kvs,HZ dl = some (.dK kvs):=by
    obtain ⟨kvs,e,r⟩:=loZ
    exact ⟨kvs,e⟩
   obtain ⟨kz,ez⟩:=isdk
   have npp:pp ≠ dl:=fun e=>by rw [e,ez] at k3;cases k3
   have nt1:t1 ≠ dl:=fun e=>by rw [e,ez] at k1;cases k1
   have nt2:t2 ≠ dl:=fun e=>by rw [e,ez] at k2;cases k2
   obtain ⟨con,hcon⟩:∃ con:Nat → List Mt22.St,con = fun j=>(if 1 ≤ j then dC fs op (.tup [.str n,.str a',.str b',.int c,.int r,sl]) a' b' else []) ++ (if 2 ≤ j then dC fs op (.tup [.str n,.str a',.str b',.int c,.int r,sl]) b' a' else []):=⟨_,rfl⟩
   have con0:con 0 = []:=by rw [hcon];simp
   have con2:con 2 = iJ fs op (.tup [.str n,.str a',.str b',.int c,.int r,sl]):=by rw [hcon];rfl
   have conm:∀ k,∀ s ∈ con k,s ∈ bT fs ds op:=fun k s m=>by
    refine hin s ?_
    rw [hcon] at m
    unfold iJ
    rcases List.mem_append.mp m with m | m
    ·refine List.mem_append_left _ ?_
     by_cases h:1 ≤ k
     ·rw [if_pos h] at m;exact m
     ·rw [if_neg h] at m;cases m
    ·refine List.mem_append_right _ ?_
     by_cases h:2 ≤ k
     ·rw [if_pos h] at m;exact m
     ·rw [if_neg h] at m;cases m
   refine ⟨pp,rfl,⟨_,SqL.of k3⟩,dQ (K:=K) (a:=pp) (xs:=[.ref t1,.ref t2])
    (fun k σ Hy=>∃ (w11 w12 w13 w14:Option V),σ = [some (.ref lf),some (.ref ld),some (.ref dh),some (.ref dl),some (.int (0 + (i:Int))),some (.str n),some (.str a'),some (.str b'),some (.int c),some (.int r),some sv,w11,w12,w13,w14,none,none] ∧ aK H Hy ∧ cI dl HZ Hy ∧ xJ Hy dl (mT ((con k).foldl eB lw)) (1 + i * 80 + 2 * j + k))
    ⟨_,_,_,_,rfl,SZ,(fun b o e _=>e),by rw [con0];exact loZ⟩ (fun k σ Hy _ ⟨_,_,_,_,_,_,X',_⟩=>SqL.of (X' _ _ k3 npp)) ?_ ?_⟩
   ·rintro k xv σ Hy hk ⟨u11,u12,u13,u14,rfl,SY,XY,kvs,hkv,lk,vk⟩
    refine aAF fun D3 hD3=>?_
    have hk2:k < 2:=(List.getElem?_eq_some_iff.mp hk).1
    obtain ⟨x,y,tj,etj,htj,cj⟩:∃ x y tj,xv = .ref tj ∧ Hy tj = some (.tup [.str x,.str y]) ∧ con (k + 1) = con k ++ dC fs op (.tup [.str n,.str a',.str b',.int c,.int r,sl]) x y:=by
     obtain rfl | rfl:k = 0 ∨ k = 1:=by omega
     ·cases hk
      refine ⟨a',b',t1,rfl,XY _ _ k1 nt1,?_⟩
      rw [hcon]
      simp
     ·cases hk
      refine ⟨b',a',t2,rfl,XY _ _ k2 nt2,?_⟩
      rw [hcon]
      simp
    subst etj
    have hseaK:=sH (fun s m=>hst s (conm k s m)) hsea
    have ef2:(con (k + 1)).foldl eB lw = (dC fs op (.tup [.str n,.str a',.str b',.int c,.int r,sl]) x y).foldl eB ((con k).foldl eB lw):=by rw [cj,List.foldl_append]
    have minS:∀ s ∈ dC fs op (.tup [.str n,.str a',.str b',.int c,.int r,sl]) x y,s ∈ bT fs ds op:=fun s m=>conm (k + 1) s (by rw [cj];exact List.mem_append_right _ m)
    have lkb:kvs.length < sizeLine:=by
     have big2:(2000:Nat) ≤ sizeLine:=by decide
     have h1:i * 80 ≤ 12 * 80:=Nat.mul_le_mul_right _ (by omega)
     omega
    generalize (con k).foldl eB lw = lv at vk hseaK ef2
    refine ⟨tj,_,rfl,SqT.of htj,rfl,_,_,rfl,_,_,rfl,rfl,?_⟩
    refine ⟨_,rfl,_,rfl,dl,_,rfl,.inl ⟨kvs,Sum.inr x,.inl hkv,rfl,rfl⟩,_,rfl,?_⟩
    rw [vk]
    have nosea:y = "sea" → dC fs op (.tup [.str n,.str a',.str b',.int c,.int r,sl]) x y = []:=fun e=>by unfold dC;rw [if_pos e]
    cases hn:mT lv x with
    | none =>
     refine bC (bC (hD3 _ _ ⟨_,_,_,_,rfl,SY,XY,kvs,hkv,by omega,fun z=>?_⟩))
     rw [vk,ef2]
     by_cases hy:y = "sea"
     ·rw [nosea hy]
      rfl
     ·have es:dC fs op (.tup [.str n,.str a',.str b',.int c,.int r,sl]) x y = [⟨n,x,y,max sd (aW fs y)⟩]:=by unfold dC;rw [if_neg hy,hsd];rfl
      have hs1:=hst _ (minS ⟨n,x,y,max sd (aW fs y)⟩ (by rw [es];exact List.mem_singleton.mpr rfl))
      rw [es]
      show (mT lv z).map V.int = (mT (eB lv ⟨n,x,y,max sd (aW fs y)⟩) z).map V.int
      rw [← (qL hseaK hs1.1 hs1.2).1,vA hn]
    | some a =>
     refine bW ⟨_,rfl,rfl,_,rfl,?_⟩
     rw [uD]
     by_cases hy:y = "sea"
     ·rw [decide_eq_true hy]
      refine bC (hD3 _ _ ⟨_,_,_,_,rfl,SY,XY,kvs,hkv,by omega,fun z=>?_⟩)
      rw [vk,ef2,nosea hy]
      rfl
     ·rw [decide_eq_false hy]
      have es:dC fs op (.tup [.str n,.str a',.str b',.int c,.int r,sl]) x y = [⟨n,x,y,max sd (aW fs y)⟩]:=by unfold dC;rw [if_neg hy,hsd];rfl
      have ms1:=minS ⟨n,x,y,max sd (aW fs y)⟩ (by rw [es];exact List.mem_singleton.mpr rfl)
      have hs1:=hst _ ms1
      have mfar:y ∈ fs.map aJ:=aDM gd ms1
      refine bW ⟨_,rfl,lf,rfl,⟨_,SqL.of (SY _ _ hlf)⟩,?_⟩
      refine bV (F:=K) (xs:=vf) (by omega) (fun i ys H'=>Hy = H' ∧ ys = (((fs.take i).filter fun d=>decide (aJ d = y)).map lE).map V.int) ⟨rfl,rfl⟩ ?_ ?_ ?_
      ·rintro i ys H' hi' ⟨rfl,rfl⟩
       refine ⟨SqL.of (SY _ _ hlf),?_⟩
       rw [List.length_map,List.length_map]
       exact Nat.le_trans (List.length_filter_le _ _) (by rw [List.length_take];omega)
      ·rintro i xv ys H' K1 K2 hx' ⟨rfl,rfl⟩ k1 k2
       have hil:i < vf.length:=(List.getElem?_eq_some_iff.mp hx').1
       obtain ⟨d,ed⟩:∃ d,fs[i]? = some d:=⟨_,List.getElem?_eq_getElem (by omega)⟩
       obtain ⟨v,ev,iv⟩:=hif.get ed
       rw [hx'] at ev
       cases ev
       obtain ⟨z,g,e,rfl,fz⟩:=bP (gf.all d (List.mem_of_getElem? ed))
       obtain ⟨t,rfl,o⟩:=gM iv
       have oy:=SY _ _ o
       have etk:fs.take (i + 1) = fs.take i ++ [.tup [.str z,.int g,.int e]]:=by rw [List.take_add_one,ed];rfl
       refine ⟨_,rfl,t,_,0,.str z,rfl,rfl,SqT.of oy,aH (j:=0) rfl,_,rfl,rfl,_,rfl,?_⟩
       rw [lF]
       by_cases hzy:z = y
       ·rw [show (z == y) = true from beq_iff_eq.mpr hzy]
        refine bW ⟨_,rfl,t,_,1,.int g,rfl,rfl,SqT.of oy,aH (j:=1) rfl,k1 _ _ ⟨rfl,?_⟩⟩
        rw [etk,List.filter_append,List.map_append,List.map_append,List.filter_cons_of_pos (p:=fun d=>decide (aJ d = y)) (a:=.tup [.str z,.int g,.int e]) (show decide (aJ (.tup [.str z,.int g,.int e]) = y) = true from decide_eq_true hzy)]
        rfl
       ·rw [show (z == y) = false from beq_eq_false_iff_ne.mpr hzy]
        refine bC (k2 _ ⟨rfl,?_⟩)
        rw [etk,List.filter_append,List.map_append,List.map_append,List.filter_cons_of_neg (p:=fun d=>decide (aJ d = y)) (a:=.tup [.str z,.int g,.int e]) (show ¬ decide (aJ (.tup [.str z,.int g,.int e]) = y) = true from fun h=>hzy (of_decide_eq_true h))]
        exact (List.append_nil _).symm
      rintro ys H' ⟨rfl,rfl⟩
      rw [List.take_of_length_le (l:=fs) (i:=vf.length) (by omega)]
      intro pg hpg
      have AG:=aK.upd (o:=.lst (((fs.filter fun d=>decide (aJ d = y)).map lE).map V.int)) hpg
      have eg0:(((fs.filter fun d=>decide (aJ d = y)).map lE).map V.int)[0]? = some (.int (aW fs y)):=by
       obtain ⟨gF,mgF,enF⟩:=List.mem_map.mp mfar
       have h1:(fs.filter fun d=>decide (aJ d = y)).head? = some gF:=by
        rw [List.head?_filter,← enF]
        exact uC gf.nd mgF
       rw [← List.head?_eq_getElem?,List.head?_map,List.head?_map,h1,← enF,mS gf.nd mgF]
       rfl
      have hkG:=AG _ _ hkv
      have SG:=SY.trans AG
      have XG:cI dl HZ _:=XY.then AG
      have hdhG:=SG _ _ hdh
      refine ⟨pg,_,0,_,rfl,rfl,SqL.of aB,aH (j:=0) eg0,?_⟩
      generalize upd Hy pg (.lst (((fs.filter fun d=>decide (aJ d = y)).map lE).map V.int)) = HG at AG hkG SG XG hdhG ⊢
      refine ⟨_,rfl,_,rfl,dl,.int a,rfl,.inl ⟨kvs,Sum.inr x,.inl hkG,rfl,by rw [vk,hn];rfl⟩,_,rfl,_,rfl,dh,_,rfl,.inl ⟨_,Sum.inr n,.inl hdhG,rfl,vald'.symm⟩,_,rfl,_,_,_,rfl,?_⟩
      have emax:max (max a sd) (aW fs y) = max a (max sd (aW fs y)):=by omega
      rw [emax]
      refine ⟨_,rfl,_,rfl,dl,rfl,.inl ⟨_,.inl hkG⟩,_,rfl,_,rfl,_,lT.k (k:=Sum.inr y) hkG,_,_,by rw [vk,xX],?_⟩
      refine ⟨_,rfl,_,rfl,dl,_,rfl,.inl ⟨kvs,Sum.inr y,hkG,rfl,lkb,rfl⟩,?_⟩
      refine hD3 _ _ ⟨_,_,_,_,rfl,SG.over hdl,XG.put,_,aB,?_,fun z=>?_⟩
      ·have:=jO kvs (Sum.inr y:Key) (V.int (if (mT lv y).getD (max a (max sd (aW fs y))) < max a (max sd (aW fs y)) then (mT lv y).getD (max a (max sd (aW fs y))) else max a (max sd (aW fs y))))
       omega
      ·rw [aAC,ef2,es]
       show _ = (mT (eB lv ⟨n,x,y,max sd (aW fs y)⟩) z).map V.int
       rw [← (qL hseaK hs1.1 hs1.2).1]
       unfold eB
       dsimp only
       rw [hn]
       dsimp only
       by_cases hz:z = y
       ·subst hz
        rw [if_pos rfl,if_pos rfl]
        cases hf:mT lv z with
        | none =>
         show some (V.int (if max a (max sd (aW fs z)) < max a (max sd (aW fs z)) then _ else _)) = some (V.int (max a (max sd (aW fs z))))
         rw [if_neg (Int.lt_irrefl _)]
        | some b =>
         show some (V.int (if b < max a (max sd (aW fs z)) then b else max a (max sd (aW fs z)))) = some (V.int (min (max a (max sd (aW fs z))) b))
         congr 2
         split <;> omega
       ·rw [if_neg (fun e=>hz (Sum.inr.inj e)),if_neg hz]
        exact vk z
   ·rintro σ Hy ⟨u11,u12,u13,u14,rfl,SY,XY,loY⟩
    refine hD2 _ _ ⟨_,_,_,_,_,_,_,_,_,_,rfl,SY,?_⟩
    have loY':xJ Hy dl (mT ((con 2).foldl eB lw)) (1 + i * 80 + 2 * j + 2):=loY
    rw [con2,← efold] at loY'
    exact loY'
  ·rintro σ HX ⟨w5,w6,w7,w8,w9,w10,w11,w12,w13,w14,rfl,SX,loX⟩
   rw [List.take_of_length_le (l:=ds) (i:=vd.length) (by omega)] at loX
   refine hD1 _ _ ⟨_,_,_,_,_,_,_,_,_,_,_,rfl,SX,?_⟩
   obtain ⟨kvs,hk,lk,vk⟩:=loX
   exact ⟨kvs,hk,by rw [Nat.succ_mul];omega,vk⟩
 ·rintro σ H5 ⟨v4,v5,v6,v7,v8,v9,v10,v11,v12,v13,v14,rfl,S5,kvs,hk,lk,vk⟩
  refine hu1 _ _ _ ?_
  intro dt hdt
  have A1:=aK.upd (o:=.dK []) hdt
  have ndt:H dt = none:=S5.free hdt
  have nkd:dl ≠ dt:=fun e=>by rw [← e,hk] at hdt;cases hdt
  have hk1:=A1 _ _ hk
  have hdt1:upd H5 dt (.dK []) dt = some (.dK (iG (fs.take 0) (flo fs ds op))):=aB
  have S6:=S5.trans A1
  generalize upd H5 dt (.dK []) = H6 at hk1 hdt1 S6 ⊢
  refine ⟨_,rfl,lf,rfl,⟨_,SqL.of (S6 _ _ hlf)⟩,dQ (K:=K) (a:=lf) (xs:=vf)
   (fun i σ H'=>∃ v5 v13 v16:Option V,σ = [some (.ref lf),some (.ref ld),some (.ref dh),some (.ref dl),v4,v5,v6,v7,v8,v9,v10,v11,v12,v13,v14,some (.ref dt),v16] ∧ aK H H' ∧ H' dl = some (.dK kvs) ∧ H' dt = some (.dK (iG (fs.take i) (flo fs ds op))))
   ⟨_,_,_,rfl,S6,hk1,hdt1⟩ (fun i σ H' _ ⟨_,_,_,_,S',_⟩=>SqL.of (S' _ _ hlf)) ?_ ?_⟩
  ·rintro i xv σ H7 hi ⟨u5,u13,u16,rfl,S7,hk7,hdt7⟩
   have hil:i < vf.length:=(List.getElem?_eq_some_iff.mp hi).1
   obtain ⟨d,ed⟩:∃ d,fs[i]? = some d:=⟨_,List.getElem?_eq_getElem (by omega)⟩
   obtain ⟨v,ev,iv⟩:=hif.get ed
   rw [hi] at ev
   cases ev
   have md:=List.mem_of_getElem? ed
   have knew:eK (iG (fs.take i) (flo fs ds op)) (Sum.inr (aJ d)) = none:=by
    cases e:eK (iG (fs.take i) (flo fs ds op)) (Sum.inr (aJ d)) with
    | none=>rfl
    | some v =>
     have h2:=aDT e
     unfold iG at h2
     rw [List.map_map] at h2
     obtain ⟨e2,me2,ee⟩:=List.mem_map.mp h2
     have enm:aJ e2 = aJ d:=Sum.inr.inj ee
     have h3:((fs.take (i + 1)).map aJ).Nodup:=by
      rw [List.map_take]
      exact List.Nodup.sublist (List.take_sublist _ _) gf.nd
     rw [List.take_add_one,ed,List.map_append,List.nodup_append] at h3
     exact absurd enm (h3.2.2 _ (List.mem_map.mpr ⟨e2,me2,rfl⟩) _ (List.mem_singleton.mpr rfl))
   have ek:iG (fs.take (i + 1)) (flo fs ds op) = iG (fs.take i) (flo fs ds op) ++ [(Sum.inr (aJ d),vD (flo fs ds op (aJ d)))]:=by
    unfold iG
    rw [List.take_add_one,ed,List.map_append]
    rfl
   have lk7:(iG (fs.take i) (flo fs ds op)).length < sizeLine:=by
    unfold iG
    rw [List.length_map,List.length_take]
    omega
   obtain ⟨z,g,e,rfl,fz,_⟩:=bP (gf.all d md)
   obtain ⟨t,rfl,o⟩:=gM iv
   have oy:=S7 _ _ o
   refine ⟨t,_,rfl,SqT.of oy,rfl,_,_,rfl,_,_,rfl,_,_,rfl,rfl,?_⟩
   refine ⟨_,rfl,dl,rfl,.inl ⟨_,.inl hk7⟩,_,rfl,_,lT.k (k:=Sum.inr z) hk7,?_⟩
   rw [vk,xW]
   have ed2:mT (iO (bT fs ds op) fs.length) z = flo fs ds op z:=by
    unfold mT
    rw [if_neg (show ¬ z = Mt22.sea from yV fz)]
    rfl
   rw [ed2]
   refine ⟨_,rfl,_,rfl,dt,_,rfl,.inl ⟨_,Sum.inr z,hdt7,rfl,lk7,rfl⟩,?_⟩
   refine ⟨_,_,_,rfl,S7.over ndt,by rw [aP nkd];exact hk7,?_⟩
   have knew':eK (iG (fs.take i) (flo fs ds op)) (Sum.inr z) = none:=knew
   rw [aB,aAY _ knew',ek]
   rfl
  ·rintro σ H7 ⟨u5,u13,u16,rfl,S7,hk7,hdt7⟩
   rw [List.take_of_length_le (l:=fs) (i:=vf.length) (by omega)] at hdt7
   exact ⟨_,rfl,q dt H7 S7 ndt hdt7⟩
open Mt22 MtF
def aGZ (K:PySem.W.Frag):Sp:=sp4 fun x y u v H Q=>∃ (lf dF lw:Addr) (vf:List V) (fs ds:List Dv) (op wt:List Str) (lv:Int),x = .ref lf ∧ y = .ref dF ∧ u = .ref lw ∧ v = .int lv ∧ H lf = some (.lst vf) ∧ IsL H fs vf ∧ GoodF fs ∧ H dF = some (.dK (iG fs (flo fs ds op))) ∧ H lw = some (.lst (wt.map V.str)) ∧ wt.length ≤ 1000 ∧
 ∀ (l:Addr) (H':Hp),aK H H' → H l = none → H' l = some (.lst ((aGN fs ds op lv wt).map V.str)) → Q (.ref l) H'
theorem aIC (T:Txt K mg C):Fc P w K mg base 1 "_law_wet" ["_law_fields_here","_law_heights","_law_wet_here","_law_level"] (aGZ K):=by
 refine T.d_l_wet.fc lX aBV (fun f cdv A outer s H vs Q E hr h=>?_)
 obtain ⟨x,y,u,v,rfl,lf,dF,lw,vf,fs,ds,op,wt,lv,rfl,rfl,rfl,rfl,hlf,hif,gf,hdF,hlw,lwt,q⟩:=h
 have big:=bY
 have hu:=jP hr
 have f2:=gf.l2
 have lvf:=hif.length
 refine ⟨_,(aG (@aY _ _ (4) _ _ _ _ lX.nd rfl (Or.inl rfl) (@cK _ _ _ _ aE) (by rfl) (by trivial)) (aG (@eC _ _ _ _ _ _ _ _ PassesOwn.never rfl (@bJ _ (K) _ _ _ rfl (@bK _ _ _ _ (pv 0))) (@nK _ (K) _ _ _ _ _ rfl 3 rfl (@nL _ _ _ _ _ _ rfl (@bD _ _ _ _ _ (@aN _ _ (5) _ lX.nd rfl (Or.inl rfl) (by trivial)) (@bD _ _ _ _ _ (@aN _ _ (6) _ lX.nd rfl (Or.inl rfl) (by trivial)) (@bD _ _ _ _ _ (@aN _ _ (7) _ lX.nd rfl (Or.inl rfl) (by trivial)) iQ (by rfl)) (by rfl)) (by rfl)) (by rfl) (by rfl))) (aG (@aY _ _ (8) _ _ _ _ lX.nd rfl (Or.inl rfl) (@jD _ _ _ _ _ _ hu (pv 1) (pv 5) (fun _ _=>rfl)) (by rfl) (by trivial)) (aI (@cD _ _ _ _ _ _ _ _ (@PW.pt _ _ _ (@rS _ _ _ _ _ _ _ (@bH _ _ _ _ _ _ _ _ pP (pv 8) jT (@bF _ _ (by decide) (by decide))) (@pN _ _ _ _ (@bH _ _ _ _ _ _ _ _ sP (pv 8) (pv 3) (@bF _ _ (by decide) (by decide)))))) (aI (@eI _ _ _ _ (@mI _ (K) _ _ _ _ _ rfl (@lB _ _ _ _ _ _ _ _ _ _ _ _ PySem.F.plainAttrs_list PySem.F.slot_list_append PySem.F.type_list_append dS (pv 4) (aA (pv 5) aE) (by rfl) (by rfl) (by rfl) (by rfl) (by rfl))) (by rfl))) (aI (@cD _ _ _ _ _ _ _ _ (@PW.pt _ _ _ (@rS _ _ _ _ _ _ _ (@bH _ _ _ _ _ _ _ _ (@eW _ (K) rfl) (pv 5) (pv 2) (by with_unfolding_all rfl)) (@pN _ _ _ _ (@PW.pt _ _ _ (@jZ _ _ _ _ _ _ _ (@bH _ _ _ _ _ _ _ _ oS (pv 8) (pv 6) (@bF _ _ (by decide) (by decide))) (@jS _ _ _ _ (@bH _ _ _ _ _ _ _ _ aBE (pv 3) (pv 6) (@bF _ _ (by decide) (by decide))))))))) (aI (@eI _ _ _ _ (@mI _ (K) _ _ _ _ _ rfl (@lB _ _ _ _ _ _ _ _ _ _ _ _ PySem.F.plainAttrs_list PySem.F.slot_list_append PySem.F.type_list_append dS (pv 4) (aA (pv 5) aE) (by rfl) (by rfl) (by rfl) (by rfl) (by rfl))) (by rfl))) bE))))) (by intro _;rfl)) (aI (@aT _ _ _ _ (pv 4))))),?_⟩
 have val:∀ d ∈ fs,eK (iG fs (flo fs ds op)) (Sum.inr (aJ d)) = some (vD (flo fs ds op (aJ d))):=fun d m=>kG (f:=fun d=>vD (flo fs ds op (aJ d))) gf.nd m
 refine ⟨aQ rfl,fun l hl=>?_⟩
 have S1:=aK.upd (o:=.lst []) hl
 refine ⟨_,rfl,lf,rfl,⟨_,SqL.of (S1 _ _ hlf)⟩,dQ (K:=K) (a:=lf) (xs:=vf)
  (fun i σ H'=>∃ v5 v6 v7 v8:Option V,σ = [some (.ref lf),some (.ref dF),some (.ref lw),some (.int lv),some (.ref l),v5,v6,v7,v8] ∧ aK H H' ∧ H' l = some (.lst ((((fs.take i).map aJ).filter fun z=>nA (flo fs ds op z) (aW fs z) lv (decide (z ∈ wt))).map V.str)))
  ⟨_,_,_,_,rfl,S1,aB⟩ (fun i σ H' _ ⟨_,_,_,_,_,S',_⟩=>SqL.of (S' _ _ hlf)) ?_ ?_⟩
 ·rintro i xv σ H2 hi ⟨v5,v6,v7,v8,rfl,S2,hl2⟩
  have hil:i < vf.length:=(List.getElem?_eq_some_iff.mp hi).1
  obtain ⟨d,ed⟩:∃ d,fs[i]? = some d:=⟨_,List.getElem?_eq_getElem (by omega)⟩
  obtain ⟨v,ev,iv⟩:=hif.get ed
  rw [hi] at ev
  cases ev
  have md:=List.mem_of_getElem? ed
  obtain ⟨z,g,e,rfl,fz,_⟩:=bP (gf.all d md)
  have eg:aW fs z = g:=mS gf.nd md
  obtain ⟨t,rfl,o⟩:=gM iv
  have oy:=S2 _ _ o
  have hdF2:=S2 _ _ hdF
  have vz:eK (iG fs (flo fs ds op)) (Sum.inr z) = some (vD (flo fs ds op z)):=val _ md
  have esn:=rR (q:=fun z=>nA (flo fs ds op z) (aW fs z) lv (decide (z ∈ wt))) ed
  have gK:((((fs.take i).map aJ).filter fun z=>nA (flo fs ds op z) (aW fs z) lv (decide (z ∈ wt))).map V.str).length < sizeLine:=by
   rw [List.length_map]
   have:=List.length_filter_le (fun z=>nA (flo fs ds op z) (aW fs z) lv (decide (z ∈ wt))) ((fs.take i).map aJ)
   rw [List.length_map,List.length_take] at this
   omega
  refine ⟨t,_,rfl,SqT.of oy,rfl,_,_,rfl,_,_,rfl,_,_,rfl,rfl,?_⟩
  refine ⟨_,rfl,_,rfl,dF,_,rfl,.inl ⟨_,Sum.inr z,.inl hdF2,rfl,vz.symm⟩,?_⟩
  refine ⟨_,rfl,rfl,_,rfl,?_⟩
  have eY:nA (flo fs ds op z) g lv (decide (z ∈ wt)) = true → (((fs.take (i + 1)).map aJ).filter fun z=>nA (flo fs ds op z) (aW fs z) lv (decide (z ∈ wt))).map V.str = (((fs.take i).map aJ).filter fun z=>nA (flo fs ds op z) (aW fs z) lv (decide (z ∈ wt))).map V.str ++ [V.str z]:=fun h=>by
   rw [esn,if_pos (by show nA (flo fs ds op z) (aW fs z) lv (decide (z ∈ wt)) = true;rw [eg];exact h)]
   rfl
  have eN:nA (flo fs ds op z) g lv (decide (z ∈ wt)) = false → (((fs.take (i + 1)).map aJ).filter fun z=>nA (flo fs ds op z) (aW fs z) lv (decide (z ∈ wt))).map V.str = (((fs.take i).map aJ).filter fun z=>nA (flo fs ds op z) (aW fs z) lv (decide (z ∈ wt))).map V.str:=fun h=>by
   rw [esn,if_neg (by show ¬ nA (flo fs ds op z) (aW fs z) lv (decide (z ∈ wt)) = true;rw [eg,h];exact Bool.false_ne_true),List.append_nil]
  have eint:∀ c:Int,decide (V.int c = V.int g) = decide (c = g):=fun c=>by
   rw [Bool.eq_iff_iff,decide_eq_true_iff,decide_eq_true_iff]
   exact ⟨fun h=>V.int.inj h,fun h=>by rw [h]⟩
  have hlw2:=S2 _ _ hlw
  generalize flo fs ds op z = h at vz eY eN ⊢
  cases h with
  | none =>
   refine bC (bC ⟨_,rfl,_,rfl,lw,_,rfl,.inl (SqL.of hlw2),rfl,dU wt,_,rfl,?_⟩)
   rw [if_neg Bool.false_ne_true,gL]
   by_cases mz:z ∈ wt
   ·rw [decide_eq_true mz] at eY ⊢
    refine bW ⟨_,rfl,_,rfl,rfl,_,rfl,bW (bW ⟨_,rfl,.inl ⟨rfl,_,SqL.of hl2⟩,_,rfl,l,_,_,rfl,rfl,hl2,gK,?_⟩)⟩
    refine ⟨_,_,_,_,rfl,S2.over hl,?_⟩
    rw [aB,eY rfl]
   ·rw [decide_eq_false mz] at eN ⊢
    refine bC (bC ⟨_,_,_,_,rfl,S2,?_⟩)
    rw [hl2,eN rfl]
  | some c =>
   refine bW ⟨_,rfl,_,rfl,_,_,rfl,rfl,_,rfl,?_⟩
   have wE:∀ b,nA (some c) g lv b = (decide (c < lv) || (b && !decide (c = g))):=fun _=>rfl
   rw [wE] at eY eN
   by_cases h1:c < lv
   ·rw [decide_eq_true h1] at eY ⊢
    refine bW ⟨_,rfl,.inl ⟨rfl,_,SqL.of hl2⟩,_,rfl,l,_,_,rfl,rfl,hl2,gK,?_⟩
    refine ⟨_,_,_,_,rfl,S2.over hl,?_⟩
    rw [aB,eY rfl]
   ·rw [decide_eq_false h1] at eY eN ⊢
    refine bC ⟨_,rfl,_,rfl,lw,_,rfl,.inl (SqL.of hlw2),rfl,dU wt,_,rfl,?_⟩
    rw [if_neg Bool.false_ne_true,gL]
    by_cases mz:z ∈ wt
    ·rw [decide_eq_true mz] at eY eN ⊢
     refine bW ⟨_,rfl,_,rfl,rfl,_,rfl,?_⟩
     rw [show decide (vD (some c) = V.int g) = decide (c = g) from eint c]
     by_cases h2:c = g
     ·rw [decide_eq_true h2] at eN ⊢
      refine bC ⟨_,rfl,_,rfl,_,_,rfl,rfl,_,rfl,?_⟩
      rw [decide_eq_false (show ¬ g < lv by omega)]
      refine bC ⟨_,_,_,_,rfl,S2,?_⟩
      rw [hl2,eN rfl]
     ·rw [decide_eq_false h2] at eY ⊢
      refine bW (bW ⟨_,rfl,.inl ⟨rfl,_,SqL.of hl2⟩,_,rfl,l,_,_,rfl,rfl,hl2,gK,?_⟩)
      refine ⟨_,_,_,_,rfl,S2.over hl,?_⟩
      rw [aB,eY rfl]
    ·rw [decide_eq_false mz] at eN ⊢
     refine bC (bC ⟨_,_,_,_,rfl,S2,?_⟩)
     rw [hl2,eN rfl]
 ·rintro σ H2 ⟨v5,v6,v7,v8,rfl,S2,hl2⟩
  rw [List.take_of_length_le (l:=fs) (i:=vf.length) (by omega)] at hl2
  exact ⟨_,rfl,q l H2 S2 hl hl2⟩
theorem uA {a b:Str} {A B:Prop} (h:decide (a = b) = false) (k:A):if (!decide (V.str a = V.str b)) = true then A else B:=by
 rw [if_pos (by rw [uD,h];rfl)]
 exact k
theorem aML {a b:Str} {A B:Prop} (h:decide (a = b) = true) (k:B):if (!decide (V.str a = V.str b)) = true then A else B:=by
 rw [if_neg (by rw [uD,h];exact Bool.false_ne_true)]
 exact k
def aAO (K:PySem.W.Frag):Sp:=sp4 fun x l wv d H Q=>∃ (lc b:Addr) (vc:List V) (cs:List Cd) (ws:List Str) (lv dv:Int),x = .ref lc ∧ H lc = some (.lst vc) ∧ IsL H (cs.map Cd.dv) vc ∧ sW cs ∧ cs.length ≤ 6 ∧ l = .int lv ∧ wv = .ref b ∧ H b = some (.lst (ws.map V.str)) ∧ d = .int dv ∧ Q (.bl (cs.all (Cd.so lv ws dv))) H
theorem aDB (T:Txt K mg C):Fc P w K mg base 1 "_law_holds" ["_law_conditions","_law_level","_law_wet_here","_law_day"] (aAO K):=by
 refine T.d_l_holds.fc nF aBV (fun f cdv A outer s H vs Q E hr h=>?_)
 obtain ⟨x,l,wv,d,rfl,lc,b,vc,cs,ws,lv,dv,rfl,hlc,hic,oks,l6,rfl,rfl,hb,rfl,q⟩:=h
 have big:=bY
 have hu:=jP hr
 have lvc:=hic.length
 rw [List.length_map] at lvc
 refine ⟨_,(aG (@eC _ _ _ _ _ _ _ _ PassesOwn.never rfl (@bJ _ (K) _ _ _ rfl (@bK _ _ _ _ (pv 0))) (@aN _ _ (4) _ nF.nd rfl (Or.inl rfl) (by trivial)) (aG (@aY _ _ (5) _ _ _ _ nF.nd rfl (Or.inl rfl) (@aBA _ _ _ _ _ _ _ (@cB _ _ _ _ _ _ _ _ iD (@aU _ _ _ _ _ _ _ (@aM _ (K) rfl) (pv 4) aD (fun _ _=>rfl)) cP (@bF _ _ (by decide) (by decide))) (@aBA _ _ _ _ _ _ _ (@cL _ _ _ _ _ _ _ (@cB _ _ _ _ _ _ _ _ iD (@aU _ _ _ _ _ _ _ (@aM _ (K) rfl) (pv 4) aD (fun _ _=>rfl)) cP (@bF _ _ (by decide) (by decide))) (@cX _ _ _ _ _ (@cB _ _ _ _ _ _ _ _ aBE (pv 1) (@aU _ _ _ _ _ _ _ (@aM _ (K) rfl) (pv 4) aD (fun _ _=>rfl)) (@bF _ _ (by decide) (by decide))))) (@cX _ _ _ _ _ (@cL _ _ _ _ _ _ _ (@cB _ _ _ _ _ _ _ _ iD (@aU _ _ _ _ _ _ _ (@aM _ (K) rfl) (pv 4) aD (fun _ _=>rfl)) cP (@bF _ _ (by decide) (by decide))) (@cX _ _ _ _ _ (@cB _ _ _ _ _ _ _ _ sP (pv 1) (@aU _ _ _ _ _ _ _ (@aM _ (K) rfl) (pv 4) aD (fun _ _=>rfl)) (@bF _ _ (by decide) (by decide)))))))) (by rfl) (by trivial)) (aG (@aY _ _ (5) _ _ _ _ nF.nd rfl (Or.inl rfl) (@aBA _ _ _ _ _ _ _ (pv 5) (@aBA _ _ _ _ _ _ _ (@cL _ _ _ _ _ _ _ (@cB _ _ _ _ _ _ _ _ iD (@aU _ _ _ _ _ _ _ (@aM _ (K) rfl) (pv 4) aD (fun _ _=>rfl)) cP (@bF _ _ (by decide) (by decide))) (@cX _ _ _ _ _ (@cB _ _ _ _ _ _ _ _ (@eW _ (K) rfl) (@aU _ _ _ _ _ _ _ (@aM _ (K) rfl) (pv 4) aD (fun _ _=>rfl)) (pv 2) (by with_unfolding_all rfl)))) (@cX _ _ _ _ _ (@cL _ _ _ _ _ _ _ (@cB _ _ _ _ _ _ _ _ iD (@aU _ _ _ _ _ _ _ (@aM _ (K) rfl) (pv 4) aD (fun _ _=>rfl)) cP (@bF _ _ (by decide) (by decide))) (@cX _ _ _ _ _ (@cB _ _ _ _ _ _ _ _ (@pW _ (K) rfl) (@aU _ _ _ _ _ _ _ (@aM _ (K) rfl) (pv 4) aD (fun _ _=>rfl)) (pv 2) (by with_unfolding_all rfl))))))) (by rfl) (by trivial)) (aI (@cD _ _ _ _ _ _ _ _ (@PW.pt _ _ _ (@rS _ _ _ _ _ _ _ (@dE _ _ _ _ (@cJ _ _ _ (pv 5) (by intro _;rfl))) (@pN _ _ _ _ (@PW.pt _ _ _ (@jZ _ _ _ _ _ _ _ (@bH _ _ _ _ _ _ _ _ oS (@aU _ _ _ _ _ _ _ (@aM _ (K) rfl) (pv 4) aD (fun _ _=>rfl)) cP (@bF _ _ (by decide) (by decide))) (@jS _ _ _ _ (@bH _ _ _ _ _ _ _ _ oS (@aR _ _ _ _ _ _ _ _ cG (pv 3) (@aU _ _ _ _ _ _ _ (@aM _ (K) rfl) (pv 4) aD (fun _ _=>rfl))) (@aU _ _ _ _ _ _ _ (@aM _ (K) rfl) (pv 4) aD (fun _ _=>rfl)) (@bF _ _ (by decide) (by decide))))))))) (aI (@aT _ _ _ _ iC)) bE)))) (by intro _;rfl)) (aI (@aT _ _ _ _ iC))),?_⟩
 refine ⟨_,rfl,lc,rfl,⟨_,SqL.of hlc⟩,dQ (K:=K) (a:=lc) (xs:=vc)
  (fun i σ H'=>∃ v4 v5:Option V,σ = [some (.ref lc),some (.int lv),some (.ref b),some (.int dv),v4,v5] ∧ H = H' ∧ (cs.take i).all (Cd.so lv ws dv) = true)
  ⟨_,_,rfl,rfl,rfl⟩ (fun i σ H' _ ⟨_,_,_,e,_⟩=>by rw [← e];exact SqL.of hlc) ?_ ?_⟩
 ·rintro i xv σ H2 hi ⟨v4,v5,rfl,rfl,al⟩
  have hil:i < vc.length:=(List.getElem?_eq_some_iff.mp hi).1
  obtain ⟨c,ec⟩:∃ c,cs[i]? = some c:=⟨_,List.getElem?_eq_getElem (by omega)⟩
  obtain ⟨v,ev,hx⟩:=hic.get (show (cs.map Cd.dv)[i]? = some c.dv by rw [List.getElem?_map,ec];rfl)
  rw [hi] at ev
  cases ev
  have mc:=List.mem_of_getElem? ec
  have ok:=oks c mc
  have qF:Cd.so lv ws dv c = false → Q (.bl false) H:=fun h=>by
   have:cs.all (Cd.so lv ws dv) = false:=by
    rw [List.all_eq_false]
    exact ⟨c,mc,by rw [h];exact Bool.false_ne_true⟩
   rw [this] at q
   exact q
  have qT:Cd.so lv ws dv c = true → (cs.take (i + 1)).all (Cd.so lv ws dv) = true:=fun h=>by
   rw [List.take_add_one,ec,List.all_append,al]
   show (Cd.so lv ws dv c && true) = true
   rw [h]
   rfl
  cases c with
  | always =>
   obtain ⟨t,o⟩:=yG hx
   obtain ⟨rfl,o⟩:=o
   refine ⟨_,rfl,t,_,0,.str "always",rfl,rfl,SqT.of o,aH (j:=0) rfl,rfl,_,rfl,lO (by decide +kernel) ?_⟩
   refine ⟨_,rfl,_,rfl,bW ?_⟩
   exact ⟨_,rfl,_,rfl,bC (bC ⟨_,_,rfl,rfl,qT (rfl)⟩)⟩
  | above h =>
   obtain ⟨t,o⟩:=aCG hx
   obtain ⟨rfl,o⟩:=o
   refine ⟨_,rfl,t,_,0,.str "above",rfl,rfl,SqT.of o,aH (j:=0) rfl,rfl,_,rfl,dH (by decide +kernel) ?_⟩
   refine ⟨_,rfl,t,_,0,.str "above",rfl,rfl,SqT.of o,aH (j:=0) rfl,rfl,_,rfl,lO (by decide +kernel) ?_⟩
   refine ⟨_,rfl,_,rfl,t,_,1,.int h,rfl,rfl,SqT.of o,aH (j:=1) rfl,_,_,rfl,rfl,_,rfl,?_⟩
   by_cases h1:h < lv
   ·rw [decide_eq_true h1]
    refine bW ?_
    refine ⟨_,rfl,_,rfl,bW ?_⟩
    exact ⟨_,rfl,_,rfl,bC (bC ⟨_,_,rfl,rfl,qT (decide_eq_true h1)⟩)⟩
   ·rw [decide_eq_false h1]
    refine bC ?_
    refine ⟨_,rfl,t,_,0,.str "above",rfl,rfl,SqT.of o,aH (j:=0) rfl,rfl,_,rfl,dH (by decide +kernel) ?_⟩
    refine ⟨_,rfl,_,rfl,bC ?_⟩
    refine ⟨_,rfl,t,_,0,.str "above",rfl,rfl,SqT.of o,aH (j:=0) rfl,rfl,_,rfl,dH (by decide +kernel) ?_⟩
    refine ⟨_,rfl,bC ?_⟩
    refine ⟨_,rfl,t,_,0,.str "above",rfl,rfl,SqT.of o,aH (j:=0) rfl,rfl,_,rfl,dH (by decide +kernel) ?_⟩
    exact ⟨_,rfl,_,rfl,bW ⟨_,rfl,t,_,0,.str "above",rfl,rfl,SqT.of o,aH (j:=0) rfl,rfl,_,rfl,uA (by decide +kernel) (bW (qF (decide_eq_false h1)))⟩⟩
  | below h =>
   obtain ⟨t,o⟩:=aCF hx
   obtain ⟨rfl,o⟩:=o
   refine ⟨_,rfl,t,_,0,.str "below",rfl,rfl,SqT.of o,aH (j:=0) rfl,rfl,_,rfl,dH (by decide +kernel) ?_⟩
   refine ⟨_,rfl,t,_,0,.str "below",rfl,rfl,SqT.of o,aH (j:=0) rfl,rfl,_,rfl,dH (by decide +kernel) ?_⟩
   refine ⟨_,rfl,bC ?_⟩
   refine ⟨_,rfl,t,_,0,.str "below",rfl,rfl,SqT.of o,aH (j:=0) rfl,rfl,_,rfl,lO (by decide +kernel) ?_⟩
   refine ⟨_,rfl,_,rfl,t,_,1,.int h,rfl,rfl,SqT.of o,aH (j:=1) rfl,_,_,rfl,rfl,?_⟩
   dsimp only
   by_cases h1:lv < h
   ·rw [decide_eq_true h1]
    refine ⟨_,rfl,_,rfl,bW ?_⟩
    exact ⟨_,rfl,_,rfl,bC (bC ⟨_,_,rfl,rfl,qT (decide_eq_true h1)⟩)⟩
   ·rw [decide_eq_false h1]
    refine ⟨_,rfl,_,rfl,bC ?_⟩
    refine ⟨_,rfl,t,_,0,.str "below",rfl,rfl,SqT.of o,aH (j:=0) rfl,rfl,_,rfl,dH (by decide +kernel) ?_⟩
    refine ⟨_,rfl,bC ?_⟩
    refine ⟨_,rfl,t,_,0,.str "below",rfl,rfl,SqT.of o,aH (j:=0) rfl,rfl,_,rfl,dH (by decide +kernel) ?_⟩
    exact ⟨_,rfl,_,rfl,bW ⟨_,rfl,t,_,0,.str "below",rfl,rfl,SqT.of o,aH (j:=0) rfl,rfl,_,rfl,uA (by decide +kernel) (bW (qF (decide_eq_false h1)))⟩⟩
  | wet z =>
   obtain ⟨t,o⟩:=aJJ hx
   obtain ⟨rfl,o⟩:=o
   refine ⟨_,rfl,t,_,0,.str "wet",rfl,rfl,SqT.of o,aH (j:=0) rfl,rfl,_,rfl,dH (by decide +kernel) ?_⟩
   refine ⟨_,rfl,t,_,0,.str "wet",rfl,rfl,SqT.of o,aH (j:=0) rfl,rfl,_,rfl,dH (by decide +kernel) ?_⟩
   refine ⟨_,rfl,bC ?_⟩
   refine ⟨_,rfl,t,_,0,.str "wet",rfl,rfl,SqT.of o,aH (j:=0) rfl,rfl,_,rfl,dH (by decide +kernel) ?_⟩
   refine ⟨_,rfl,_,rfl,bC ?_⟩
   refine ⟨_,rfl,t,_,0,.str "wet",rfl,rfl,SqT.of o,aH (j:=0) rfl,rfl,_,rfl,lO (by decide +kernel) ?_⟩
   refine ⟨_,rfl,t,_,1,.str z,rfl,rfl,SqT.of o,aH (j:=1) rfl,_,rfl,b,_,rfl,.inl (SqL.of hb),rfl,dU ws,?_⟩
   rw [gL]
   refine ⟨_,rfl,?_⟩
   by_cases h1:z ∈ ws
   ·rw [if_neg Bool.false_ne_true,decide_eq_true h1]
    refine bW ?_
    exact ⟨_,rfl,_,rfl,bC (bC ⟨_,_,rfl,rfl,qT (decide_eq_true h1)⟩)⟩
   ·rw [if_neg Bool.false_ne_true,decide_eq_false h1]
    refine bC ?_
    refine ⟨_,rfl,t,_,0,.str "wet",rfl,rfl,SqT.of o,aH (j:=0) rfl,rfl,_,rfl,dH (by decide +kernel) ?_⟩
    exact ⟨_,rfl,_,rfl,bW ⟨_,rfl,t,_,0,.str "wet",rfl,rfl,SqT.of o,aH (j:=0) rfl,rfl,_,rfl,uA (by decide +kernel) (bW (qF (decide_eq_false h1)))⟩⟩
  | dry z =>
   obtain ⟨t,o⟩:=aJK hx
   obtain ⟨rfl,o⟩:=o
   refine ⟨_,rfl,t,_,0,.str "dry",rfl,rfl,SqT.of o,aH (j:=0) rfl,rfl,_,rfl,dH (by decide +kernel) ?_⟩
   refine ⟨_,rfl,t,_,0,.str "dry",rfl,rfl,SqT.of o,aH (j:=0) rfl,rfl,_,rfl,dH (by decide +kernel) ?_⟩
   refine ⟨_,rfl,bC ?_⟩
   refine ⟨_,rfl,t,_,0,.str "dry",rfl,rfl,SqT.of o,aH (j:=0) rfl,rfl,_,rfl,dH (by decide +kernel) ?_⟩
   refine ⟨_,rfl,_,rfl,bC ?_⟩
   refine ⟨_,rfl,t,_,0,.str "dry",rfl,rfl,SqT.of o,aH (j:=0) rfl,rfl,_,rfl,dH (by decide +kernel) ?_⟩
   refine ⟨_,rfl,bC ?_⟩
   refine ⟨_,rfl,t,_,0,.str "dry",rfl,rfl,SqT.of o,aH (j:=0) rfl,rfl,_,rfl,lO (by decide +kernel) ?_⟩
   refine ⟨_,rfl,t,_,1,.str z,rfl,rfl,SqT.of o,aH (j:=1) rfl,_,rfl,b,_,rfl,.inl (SqL.of hb),rfl,dU ws,?_⟩
   rw [gL]
   by_cases h1:z ∈ ws
   ·rw [if_pos rfl,decide_eq_true h1]
    exact ⟨_,rfl,_,rfl,bW ⟨_,rfl,t,_,0,.str "dry",rfl,rfl,SqT.of o,aH (j:=0) rfl,rfl,_,rfl,uA (by decide +kernel) (bW (qF (by show (!decide (z ∈ ws)) = false;rw [decide_eq_true h1];rfl)))⟩⟩
   ·rw [if_pos rfl,decide_eq_false h1]
    exact ⟨_,rfl,_,rfl,bC (bC ⟨_,_,rfl,rfl,qT (by show (!decide (z ∈ ws)) = true;rw [decide_eq_false h1];rfl)⟩)⟩
  | day n m =>
   obtain ⟨t,o⟩:=aJL hx
   obtain ⟨rfl,o⟩:=o
   refine ⟨_,rfl,t,_,0,.str "day",rfl,rfl,SqT.of o,aH (j:=0) rfl,rfl,_,rfl,dH (by decide +kernel) ?_⟩
   refine ⟨_,rfl,t,_,0,.str "day",rfl,rfl,SqT.of o,aH (j:=0) rfl,rfl,_,rfl,dH (by decide +kernel) ?_⟩
   refine ⟨_,rfl,bC ?_⟩
   refine ⟨_,rfl,t,_,0,.str "day",rfl,rfl,SqT.of o,aH (j:=0) rfl,rfl,_,rfl,dH (by decide +kernel) ?_⟩
   refine ⟨_,rfl,_,rfl,bC ?_⟩
   refine ⟨_,rfl,t,_,0,.str "day",rfl,rfl,SqT.of o,aH (j:=0) rfl,rfl,_,rfl,dH (by decide +kernel) ?_⟩
   refine ⟨_,rfl,bC ?_⟩
   refine ⟨_,rfl,t,_,0,.str "day",rfl,rfl,SqT.of o,aH (j:=0) rfl,rfl,_,rfl,dH (by decide +kernel) ?_⟩
   refine ⟨_,rfl,_,rfl,bW ⟨_,rfl,t,_,0,.str "day",rfl,rfl,SqT.of o,aH (j:=0) rfl,rfl,_,rfl,aML (by decide +kernel) ?_⟩⟩
   refine ⟨_,rfl,_,rfl,t,_,2,.int m,rfl,rfl,SqT.of o,aH (j:=2) rfl,_,_,rfl,rfl,(by have:=ok.1;have:=ok.2;show 0 < m;omega),_,rfl,t,_,1,.int n,rfl,rfl,SqT.of o,aH (j:=1) rfl,rfl,_,rfl,?_⟩
   rw [kB]
   by_cases h1:dv % m = n
   ·rw [show (dv % m == n) = true from beq_iff_eq.mpr h1]
    exact bC ⟨_,_,rfl,rfl,qT (beq_iff_eq.mpr h1)⟩
   ·rw [show (dv % m == n) = false from beq_eq_false_iff_ne.mpr h1]
    exact bW (qF (beq_eq_false_iff_ne.mpr h1))
 ·rintro σ H2 ⟨v4,v5,rfl,rfl,al⟩
  rw [List.take_of_length_le (l:=cs) (i:=vc.length) (by omega)] at al
  rw [al] at q
  exact q
def aKZ (K:PySem.W.Frag):Sp:=sp6 fun x y u v w' r H Q=>∃ (ld lx lo lw:Addr) (vd vx:List V) (ds:List Dv) (xs:List Dk) (zs op ws:List Str) (lv dy:Int),x = .ref ld ∧ y = .ref lx ∧ u = .ref lo ∧ v = .int lv ∧ w' = .ref lw ∧ r = .int dy ∧ H ld = some (.lst vd) ∧ IsL H ds vd ∧ GoodD zs ds ∧ H lx = some (.lst vx) ∧ IsL H (xs.map dkD) vx ∧ (∀ z ∈ xs,sW z.2.2 ∧ z.2.2.length ≤ 6) ∧ xs.length ≤ 60 ∧ H lo = some (.lst (op.map V.str)) ∧ H lw = some (.lst (ws.map V.str)) ∧
 ∀ (l:Addr) (H':Hp),aK H H' → H l = none → H' l = some (.lst ((vE lv ws dy ((ds.filter aX).map aJ) op xs).map V.str)) → Q (.ref l) H'
theorem aBL (T:Txt K mg C):Fc P w K mg base 2 "_law_opened" ["_law_dykes_here","_law_decrees_here","_law_opened_here","_law_level","_law_wet_here","_law_day"] (aKZ K):=by
 have G_l_holds:Fc P w K mg base 1 "_law_holds" ["_law_conditions","_law_level","_law_wet_here","_law_day"] (aAO K):=aDB T
 refine T.d_l_opened.fc fI aME (fun f cdv A outer s H vs Q E hr h=>?_)
 obtain ⟨x,y,u,v,w',r,rfl,ld,lx,lo,lw,vd,vx,ds,xs,zs,op,ws,lv,dy,rfl,rfl,rfl,rfl,rfl,rfl,hld,hid,gd,hlx,hix,oks,l60,hlo,hlw,q⟩:=h
 have big:=bY
 have hu:=jP hr
 have d2:=gd.l2
 have lvd:=hid.length
 have lvx:=hix.length
 rw [List.length_map] at lvx
 refine ⟨_,(aG (@aY _ _ (6) _ _ _ _ fI.nd rfl (Or.inl rfl) (@cK _ _ _ _ aE) (by rfl) (by trivial)) (aG (@eC _ _ _ _ _ _ _ _ PassesOwn.never rfl (@bJ _ (K) _ _ _ rfl (@bK _ _ _ _ (pv 0))) (@aN _ _ (7) _ fI.nd rfl (Or.inl rfl) (by trivial)) (aI (@cD _ _ _ _ _ _ _ _ (@bH _ _ _ _ _ _ _ _ pP (@aU _ _ _ _ _ _ _ (@aM _ (K) rfl) (pv 7) aD (fun _ _=>rfl)) jT (@bF _ _ (by decide) (by decide))) (aG (@aY _ _ (8) _ _ _ _ fI.nd rfl (Or.inl rfl) (@cB _ _ _ _ _ _ _ _ (@eW _ (K) rfl) (@aU _ _ _ _ _ _ _ (@aM _ (K) rfl) (pv 7) aD (fun _ _=>rfl)) (pv 2) (by with_unfolding_all rfl)) (by rfl) (by trivial)) (aG (@eC _ _ _ _ _ _ _ _ PassesOwn.never rfl (@bJ _ (K) _ _ _ rfl (@bK _ _ _ _ (pv 1))) (@nK _ (K) _ _ _ _ _ rfl 3 rfl (@nL _ _ _ _ _ _ rfl (@bD _ _ _ _ _ (@aN _ _ (9) _ fI.nd rfl (Or.inl rfl) (by trivial)) (@bD _ _ _ _ _ (@aN _ _ (10) _ fI.nd rfl (Or.inl rfl) (by trivial)) (@bD _ _ _ _ _ (@aN _ _ (11) _ fI.nd rfl (Or.inl rfl) (by trivial)) iQ (by rfl)) (by rfl)) (by rfl)) (by rfl) (by rfl))) (aI (@cD _ _ _ _ _ _ _ _ (@PW.pt _ _ _ (@rS _ _ _ _ _ _ _ (@bH _ _ _ _ _ _ _ _ iD (pv 10) (@aU _ _ _ _ _ _ _ (@aM _ (K) rfl) (pv 7) aD (fun _ _=>rfl)) (@bF _ _ (by decide) (by decide))) (@pN _ _ _ _ (@cJ _ _ _ (@bN _ _ _ _ _ _ _ _ _ _ G_l_holds (hr.mono (by decide)) (aA (pv 11) (aA (pv 3) (aA (pv 4) (aA (pv 5) aE)))) (by rfl) (by decide) (by rfl) (by rfl)) (by intro _;rfl))))) (aI (@aY _ _ (8) _ _ _ _ fI.nd rfl (Or.inl rfl) (@cB _ _ _ _ _ _ _ _ iD (pv 9) cP (@bF _ _ (by decide) (by decide))) (by rfl) (by trivial))) bE)) (by intro _;rfl)) (aI (@cD _ _ _ _ _ _ _ _ (@cJ _ _ _ (pv 8) (by intro _;rfl)) (aI (@eI _ _ _ _ (@mI _ (K) _ _ _ _ _ rfl (@lB _ _ _ _ _ _ _ _ _ _ _ _ PySem.F.plainAttrs_list PySem.F.slot_list_append PySem.F.type_list_append dS (pv 6) (aA (@aU _ _ _ _ _ _ _ (@aM _ (K) rfl) (pv 7) aD (fun _ _=>rfl)) aE) (by rfl) (by rfl) (by rfl) (by rfl) (by rfl))) (by rfl))) bE)))) bE)) (by intro _;rfl)) (aI (@aT _ _ _ _ (pv 6))))),?_⟩
 obtain ⟨F,hF⟩:∃ F,F = eM lv ws dy xs (inS op):=⟨_,rfl⟩
 refine ⟨aQ rfl,fun l hl=>?_⟩
 have S1:=aK.upd (o:=.lst []) hl
 refine ⟨_,rfl,ld,rfl,⟨_,SqL.of (S1 _ _ hld)⟩,dQ (K:=K) (a:=ld) (xs:=vd)
  (fun i σ H'=>∃ v7 v8 v9 v10 v11:Option V,σ = [some (.ref ld),some (.ref lx),some (.ref lo),some (.int lv),some (.ref lw),some (.int dy),some (.ref l),v7,v8,v9,v10,v11] ∧ aK H H' ∧ H' l = some (.lst (((((ds.take i).filter aX).map aJ).filter F).map V.str)))
  ⟨_,_,_,_,_,rfl,S1,aB⟩ (fun i σ H' _ ⟨_,_,_,_,_,_,S',_⟩=>SqL.of (S' _ _ hld)) ?_ ?_⟩
 ·rintro i xv σ H2 hi ⟨v7,v8,v9,v10,v11,rfl,S2,hl2⟩
  refine xY fun D1 hD1=>?_
  have hil:i < vd.length:=(List.getElem?_eq_some_iff.mp hi).1
  obtain ⟨d,ed⟩:∃ d,ds[i]? = some d:=⟨_,List.getElem?_eq_getElem (by omega)⟩
  obtain ⟨v,ev,iv⟩:=hid.get ed
  rw [hi] at ev
  cases ev
  have md:=List.mem_of_getElem? ed
  have tk:ds.take (i + 1) = ds.take i ++ [d]:=by rw [List.take_add_one,ed];rfl
  have eN:aX d = false → (((ds.take (i + 1)).filter aX).map aJ).filter F = (((ds.take i).filter aX).map aJ).filter F:=fun h=>by
   rw [tk,List.filter_append,List.filter_cons_of_neg (by rw [h];exact Bool.false_ne_true),List.filter_nil,List.append_nil]
  have eY:aX d = true → (((ds.take (i + 1)).filter aX).map aJ).filter F = (((ds.take i).filter aX).map aJ).filter F ++ (if F (aJ d) = true then [aJ d] else []):=fun h=>by
   rw [tk,List.filter_append,List.filter_cons_of_pos h,List.filter_nil,List.map_append,List.filter_append]
   show _ ++ List.filter F [aJ d] = _
   congr 1
   cases h2:F (aJ d) with
   | true=>rw [List.filter_cons_of_pos h2];rfl
   | false=>rw [List.filter_cons_of_neg (by rw [h2];exact Bool.false_ne_true)];rfl
  have gK:(((((ds.take i).filter aX).map aJ).filter F).map V.str).length < sizeLine:=by
   rw [List.length_map]
   have h1:=List.length_filter_le F (((ds.take i).filter aX).map aJ)
   have h2:=List.length_filter_le aX (ds.take i)
   rw [List.length_map] at h1
   rw [List.length_take] at h2
   omega
  obtain ⟨n,a',b',c,rr,sl,rfl,_,_,_,_,_,_,hs⟩:=bI (gd.all d md)
  obtain ⟨t,sv,rfl,o,isv⟩:=gI iv
  have oy:=S2 _ _ o
  refine ⟨_,rfl,t,_,5,sv,rfl,rfl,SqT.of oy,aH (j:=5) rfl,rfl,_,rfl,?_⟩
  cases sl with
  | non =>
   cases (show sv = .non from isv)
   refine bC (hD1 _ _ ⟨_,_,_,_,_,rfl,S2,?_⟩)
   rw [hl2,eN rfl]
  | int k =>
   cases (show sv = .int k from isv)
   refine bW ?_
   refine ⟨_,rfl,t,_,0,.str n,rfl,rfl,SqT.of oy,aH (j:=0) rfl,_,rfl,lo,_,rfl,.inl (SqL.of (S2 _ _ hlo)),rfl,dU op,?_⟩
   rw [if_neg Bool.false_ne_true,gL]
   refine ⟨_,rfl,lx,rfl,⟨_,SqL.of (S2 _ _ hlx)⟩,dQ (K:=K) (a:=lx) (xs:=vx)
    (fun j σ H'=>∃ v9 v10 v11:Option V,σ = [some (.ref ld),some (.ref lx),some (.ref lo),some (.int lv),some (.ref lw),some (.int dy),some (.ref l),some (.ref t),some (.bl (eM lv ws dy (xs.take j) (inS op) n)),v9,v10,v11] ∧ H2 = H')
    ⟨_,_,_,rfl,rfl⟩ (fun j σ H' _ ⟨_,_,_,_,e⟩=>by rw [← e];exact SqL.of (S2 _ _ hlx)) ?_ ?_⟩
   ·rintro j xv σ H3 hj ⟨w9,w10,w11,rfl,rfl⟩
    have hjl:j < vx.length:=(List.getElem?_eq_some_iff.mp hj).1
    obtain ⟨x,ex⟩:∃ x,xs[j]? = some x:=⟨_,List.getElem?_eq_getElem (by omega)⟩
    obtain ⟨v,ev,ix⟩:=hix.get (show (xs.map dkD)[j]? = some (dkD x) by rw [List.getElem?_map,ex];rfl)
    rw [hj] at ev
    cases ev
    have mx:=List.mem_of_getElem? ex
    have esn:eM lv ws dy (xs.take (j + 1)) (inS op) n = qQ lv ws dy (eM lv ws dy (xs.take j) (inS op)) x n:=by
     rw [List.take_add_one,ex]
     exact congrFun sY n
    obtain ⟨a,g,cs⟩:=x
    obtain ⟨tx,lc,us,rfl,ox,olc,ics⟩:=zT ix
    refine ⟨tx,_,rfl,SqT.of (S2 _ _ ox),rfl,_,_,rfl,_,_,rfl,_,_,rfl,rfl,?_⟩
    refine ⟨_,rfl,_,rfl,t,_,0,.str n,rfl,rfl,SqT.of oy,aH (j:=0) rfl,rfl,_,rfl,?_⟩
    rw [lF]
    have eo:qQ lv ws dy (eM lv ws dy (xs.take j) (inS op)) (a,g,cs) n = if cs.all (Cd.so lv ws dy) = true then (if n = g then decide (a = "open") else eM lv ws dy (xs.take j) (inS op) n) else eM lv ws dy (xs.take j) (inS op) n:=by
     unfold qQ
     dsimp only
     split <;> rfl
    by_cases hg:g = n
    ·rw [show (g == n) = true from beq_iff_eq.mpr hg]
     refine bW ⟨_,rfl,_,rfl,_,rfl,_,rfl,_,_,_,_,rfl,lc,lw,us,cs,ws,lv,dy,rfl,S2 _ _ olc,IsL.same S2 _ _ ics,(oks _ mx).1,(oks _ mx).2,rfl,rfl,S2 _ _ hlw,rfl,_,rfl,?_⟩
     cases hall:cs.all (Cd.so lv ws dy) with
     | true =>
      refine bW ⟨_,rfl,rfl,?_⟩
      refine ⟨some (.str a),some (.str g),some (.ref lc),?_,rfl⟩
      rw [esn,eo,if_pos hall,if_pos hg.symm,← show decide (V.str a = V.str "open") = decide (a = "open") by rw [lF];rfl]
      rfl
     | false =>
      refine bC ⟨some (.str a),some (.str g),some (.ref lc),?_,rfl⟩
      rw [esn,eo,if_neg (by rw [hall];exact Bool.false_ne_true)]
      rfl
    ·rw [show (g == n) = false from beq_eq_false_iff_ne.mpr hg]
     refine bC (bC ⟨some (.str a),some (.str g),some (.ref lc),?_,rfl⟩)
     have e2:qQ lv ws dy (eM lv ws dy (xs.take j) (inS op)) (a,g,cs) n = eM lv ws dy (xs.take j) (inS op) n:=by
      rw [eo,if_neg (c:=n = g) (fun e=>hg e.symm)]
      split <;> rfl
     rw [esn,e2]
     rfl
   ·rintro σ H3 ⟨w9,w10,w11,rfl,rfl⟩
    rw [List.take_of_length_le (l:=xs) (i:=vx.length) (by omega),← hF]
    have eY':(((ds.take (i + 1)).filter aX).map aJ).filter F = (((ds.take i).filter aX).map aJ).filter F ++ (if F n = true then [n] else []):=eY rfl
    refine ⟨_,rfl,_,rfl,?_⟩
    cases hFn:F n with
    | true =>
     refine bW ⟨_,rfl,.inl ⟨rfl,_,SqL.of hl2⟩,_,rfl,t,_,0,.str n,rfl,rfl,SqT.of oy,aH (j:=0) rfl,l,_,_,rfl,rfl,hl2,gK,?_⟩
     refine hD1 _ _ ⟨_,_,_,_,_,rfl,S2.over hl,?_⟩
     rw [aB,eY',if_pos (show F n = true from hFn),List.map_append]
     rfl
    | false =>
     refine bC (hD1 _ _ ⟨_,_,_,_,_,rfl,S2,?_⟩)
     rw [hl2,eY',if_neg (by show ¬ F n = true;rw [hFn];exact Bool.false_ne_true),List.append_nil]
  | _=>cases hs
 ·rintro σ H2 ⟨v7,v8,v9,v10,v11,rfl,S2,hl2⟩
  rw [List.take_of_length_le (l:=ds) (i:=vd.length) (by omega),hF] at hl2
  exact ⟨_,rfl,q l H2 S2 hl hl2⟩
def aAI:Sp:=sp1 fun x H Q=>∃ n:Int,x = .int n ∧ Q (.bl true) H
theorem aDA (T:Txt K mg C):Fc P w K mg base 1 "_law_whole" ["_law_found"] aAI:=by
 refine T.d_l_whole.fc aCU lM (fun f cdv A outer s H vs Q E hr h=>?_)
 obtain ⟨x,rfl,n,rfl,q⟩:=h
 refine ⟨_,(aI (@aT _ _ _ _ (@cL _ _ _ _ _ _ _ (@aZ _ _ _ _ _ _ _ _ _ (@cR _ (K) rfl) rfl T.n_isinstance bX (aA (pv 0) (aA (@nX _ _ _ _ T.n_int yH (by rfl) (by decide) (by decide)) aE)) (by decide) (by decide) (by rfl) (by rfl)) (@cX _ _ _ _ _ (@aHY _ _ _ _ (@aZ _ _ _ _ _ _ _ _ _ (@cR _ (K) rfl) rfl T.n_isinstance bX (aA (pv 0) (aA (@nX _ _ _ _ T.n_bool wU (by rfl) (by decide) (by decide)) aE)) (by decide) (by decide) (by rfl) (by rfl))))))),?_⟩
 have iso:Is H (.int n) (.int n):=rfl
 obtain ⟨tk,ty,ki,kb,_⟩:=nV K iso
 refine ⟨_,rfl,_,_,_,tk,_,rfl,rfl,ty,ki,_,rfl,?_⟩
 refine bW ⟨_,rfl,_,_,_,tk,_,rfl,rfl,ty,kb,_,rfl,?_⟩
 exact q
theorem sI {H:Hp} {c:Str → Int}:∀ {zs:List Str} {as:List Addr},kC H as (bQ zs c) → IsL H (zs.map fun z=>Dv.tup [.str z,.int (c z)]) (as.map V.ref)
 | [],[],_=>rfl
 | [],a :: as,h=>by
  obtain ⟨k,v,r,e,_⟩:=h
  cases e
 | z :: zs,[],h=>by cases h
 | z :: zs,a :: as,h=>by
  obtain ⟨k,v,r,e,h,t⟩:=h
  cases e
  exact ⟨.ref a,_,rfl,⟨a,_,rfl,h,.str z,_,rfl,rfl,.int _,_,rfl,rfl,rfl⟩,sI t⟩
theorem aCD {c:Str → Int} (zs:List Str):bA 30 (.lst (zs.map fun z=>Dv.tup [.str z,.int (c z)])) = true:=aBX fun d m=>by
 obtain ⟨z,_,rfl⟩:=List.mem_map.mp m
 rfl
def uG (CS C:Addr):Sp:=sp4 fun x y u v H Q=>∃ (p dw pl t lo lw sd:Addr) (fs ds:List Dv) (xs:List Dk) (op wt:List Str) (n:Int) (cnt:Str → Int),x = .ref p ∧ SeaAt CS C H p dw pl fs ds xs op wt n cnt ∧ y = .ref t ∧ H t = some (.lst [.ref lo,.ref lw]) ∧ H lo = some (.lst (op.map V.str)) ∧ H lw = some (.lst (wt.map V.str)) ∧ wt.length ≤ 1000 ∧ u = .int n ∧ v = .ref sd ∧ H sd = some (.dK (bQ (fs.map aJ) cnt)) ∧ ∀ H',aK H H' → Q (.bl true) H'
theorem vP (T:Txt K mg C) {CS:Addr} (hCS:mg "Season" = some (.ref CS)):Fc P w K mg base 2 "_law_tells" ["_law_season","_law_due","_law_number","_law_soaked"] (uG CS C):=by
 have G_season_p_opened:Mc P w K mg base 1 CS "opened" ["self"] (tV CS C):=hZ T hCS
 have G_season_p_wet:Mc P w K mg base 1 CS "wet" ["self"] (yQ CS C):=jU T hCS
 have G_season_p_count:Mc P w K mg base 1 CS "count" ["self"] (aAL CS C):=rA T hCS
 have G_season_p_wet_days:Mc P w K mg base 1 CS "wet_days" ["self"] (yS CS C):=jN T hCS
 have G_l_whole:Fc P w K mg base 1 "_law_whole" ["_law_found"] aAI:=aDA T
 obtain ⟨C_Season,cl_Season,mg_Season,na_on_land,na_own_decrees,na_open_names,na_wet_names,na_day_count,na_wet_counts,i_Season,m_season_p_day,m_season_p_days,m_season_p_opened,m_season_p_wet,m_season_p_count,m_season_p_wet_days,m_season_p_onto⟩:=T.k_Season
 rw [hCS] at mg_Season
 cases mg_Season
 refine T.d_l_tells.fc uY aBV (fun f cdv A outer s H vs Q E hr h=>?_)
 obtain ⟨x,y,u,v,rfl,p,dw,pl,t,lo,lw,sd,fs,ds,xs,op,wt,n,cnt,rfl,SA,rfl,ht,hlo,hlw,lwt,rfl,rfl,hsd,q⟩:=h
 have big2:(2000:Nat) ≤ sizeLine:=by decide
 have hu:=jP hr
 obtain ⟨dx,F,ld,lo0,lw0,hp,sf,_⟩:=SA.ex
 refine ⟨_,(aG (@aY _ _ (4) _ _ _ _ uY.nd rfl (Or.inl rfl) (@cK _ _ _ _ (aA (@gH _ _ _ _ _ _ _ _ _ _ _ cl_Season G_season_p_opened (hr.mono (by decide)) (pv 0) (by rfl)) (aA (@gH _ _ _ _ _ _ _ _ _ _ _ cl_Season G_season_p_wet (hr.mono (by decide)) (pv 0) (by rfl)) (aA (@gH _ _ _ _ _ _ _ _ _ _ _ cl_Season G_season_p_wet_days (hr.mono (by decide)) (pv 0) (by rfl)) aE)))) (by rfl) (by trivial)) (aG (@cD _ _ _ _ _ _ _ _ (@PW.pt _ _ _ (@jZ _ _ _ _ _ _ _ (@bH _ _ _ _ _ _ _ _ (@zC _ hr.units) (@aU _ _ _ _ _ _ _ (@bO _ (K) rfl) (pv 4) aD (fun _ _=>rfl)) (@aU _ _ _ _ _ _ _ (@bO _ (K) rfl) (pv 1) aD (fun _ _=>rfl)) (@bF _ _ (by decide) (by decide))) (@jZ _ _ _ _ _ _ _ (@bH _ _ _ _ _ _ _ _ (@zC _ hr.units) (@aU _ _ _ _ _ _ _ (@bO _ (K) rfl) (pv 4) aD (fun _ _=>rfl)) (@aU _ _ _ _ _ _ _ (@bO _ (K) rfl) (pv 1) aD (fun _ _=>rfl)) (@bF _ _ (by decide) (by decide))) (@jZ _ _ _ _ _ _ _ (@dE _ _ _ _ (@cJ _ _ _ (@bN _ _ _ _ _ _ _ _ _ _ G_l_whole (hr.mono (by decide)) (aA (@gH _ _ _ _ _ _ _ _ _ _ _ cl_Season G_season_p_count (hr.mono (by decide)) (pv 0) (by rfl)) aE) (by rfl) (by decide) (by rfl) (by rfl)) (by intro _;rfl))) (@jS _ _ _ _ (@bH _ _ _ _ _ _ _ _ oS (@gH _ _ _ _ _ _ _ _ _ _ _ cl_Season G_season_p_count (hr.mono (by decide)) (pv 0) (by rfl)) (pv 2) (@bF _ _ (by decide) (by decide)))))))) (aI (@aT _ _ _ _ iC)) bE) (aG (@cD _ _ _ _ _ _ _ _ (@bH _ _ _ _ _ _ _ _ (@zC _ hr.units) (@cE _ _ _ _ _ _ _ _ _ (oB rfl) rfl T.n_list dG (aA (@zA _ _ _ _ _ _ _ _ _ PySem.F.plainAttrs_dict PySem.F.slot_dict_items PySem.F.type_dict_items aBR (@aU _ _ _ _ _ _ _ (@bO _ (K) rfl) (pv 4) aD (fun _ _=>rfl)) (by rfl) (by rfl)) aE) (by decide) (by decide) (by rfl) (by rfl)) (@cE _ _ _ _ _ _ _ _ _ (oB rfl) rfl T.n_list dG (aA (@zA _ _ _ _ _ _ _ _ _ PySem.F.plainAttrs_dict PySem.F.slot_dict_items PySem.F.type_dict_items aBR (pv 3) (by rfl) (by rfl)) aE) (by decide) (by decide) (by rfl) (by rfl)) (@bF _ _ (by decide) (by decide))) (aI (@aT _ _ _ _ iC)) bE) (aG (@eI _ _ _ _ (@mI _ (K) _ _ _ _ _ rfl (@lB _ _ _ _ _ _ _ _ _ _ _ _ PySem.F.plainAttrs_list PySem.F.slot_list_append PySem.F.type_list_append dS (@aU _ _ _ _ _ _ _ (@bO _ (K) rfl) (pv 4) aD (fun _ _=>rfl)) (aA cP aE) (by rfl) (by rfl) (by rfl) (by rfl) (by rfl))) (by rfl)) (aG (@eI _ _ _ _ (@mI _ (K) _ _ _ _ _ rfl (@lB _ _ _ _ _ _ _ _ _ _ _ _ PySem.F.plainAttrs_list PySem.F.slot_list_append PySem.F.type_list_append dS (@aU _ _ _ _ _ _ _ (@bO _ (K) rfl) (pv 4) aD (fun _ _=>rfl)) (aA cP aE) (by rfl) (by rfl) (by rfl) (by rfl) (by rfl))) (by rfl)) (aG (@eI _ _ _ _ (aMB PySem.F.slot_dict_clear PySem.F.type_dict_clear aFV (@aU _ _ _ _ _ _ _ (@bO _ (K) rfl) (pv 4) aD (fun _ _=>rfl))) (by rfl)) (aI (@aT _ _ _ _ iC)))))))),?_⟩
 refine ⟨_,rfl,p,dx,F,rfl,hp,sf.no _ (by decide +kernel),_,rfl,p,dw,pl,fs,ds,xs,op,wt,n,cnt,rfl,SA,fun l1 hl1=>?_⟩
 have A1:=aK.upd (o:=.lst (op.map V.str)) hl1
 refine ⟨_,rfl,p,dx,F,rfl,A1 _ _ hp,sf.no _ (by decide +kernel),_,rfl,p,dw,pl,fs,ds,xs,op,wt,n,cnt,rfl,SA.same A1,fun l2 hl2=>?_⟩
 have A2:=aK.upd (o:=.lst (wt.map V.str)) hl2
 refine ⟨_,rfl,p,dx,F,rfl,(A1.trans A2) _ _ hp,sf.no _ (by decide +kernel),_,rfl,p,dw,pl,fs,ds,xs,op,wt,n,cnt,rfl,SA.same (A1.trans A2),fun d3 hd3=>?_⟩
 have A3:=aK.upd (o:=.dK (bQ (fs.map aJ) cnt)) hd3
 refine ⟨aQ rfl,fun l4 hl4=>?_⟩
 have A4:=aK.upd (o:=.lst [.ref l1,.ref l2,.ref d3]) hl4
 have B:=A1.trans (A2.trans (A3.trans A4))
 have k1:=(A2.trans (A3.trans A4)) _ _ (aB (H:=H) (a:=l1) (o:=.lst (op.map V.str)))
 have k2:=(A3.trans A4) _ _ (aB (H:=upd H l1 (.lst (op.map V.str))) (a:=l2) (o:=.lst (wt.map V.str)))
 have k3:=A4 _ _ (aB (H:=upd (upd H l1 (.lst (op.map V.str))) l2 (.lst (wt.map V.str))) (a:=d3) (o:=.dK (bQ (fs.map aJ) cnt)))
 have k4:upd (upd (upd (upd H l1 (.lst (op.map V.str))) l2 (.lst (wt.map V.str))) d3 (.dK (bQ (fs.map aJ) cnt))) l4 (.lst [.ref l1,.ref l2,.ref d3]) l4 = some (.lst [.ref l1,.ref l2,.ref d3]):=aB
 have n1:H l1 = none:=hl1
 have n2:H l2 = none:=A1.free hl2
 have n3:H d3 = none:=(A1.trans A2).free hd3
 have n4:H l4 = none:=(A1.trans (A2.trans A3)).free hl4
 have n12:l1 ≠ l2:=aL aB hl2
 have n14:l1 ≠ l4:=aL ((A2.trans A3) _ _ aB) hl4
 have n24:l2 ≠ l4:=aL (A3 _ _ aB) hl4
 have n13:l1 ≠ d3:=aL (A2 _ _ aB) hd3
 have n23:l2 ≠ d3:=aL aB hd3
 have n34:d3 ≠ l4:=aL aB hl4
 generalize upd (upd (upd (upd H l1 (.lst (op.map V.str))) l2 (.lst (wt.map V.str))) d3 (.dK (bQ (fs.map aJ) cnt))) l4 (.lst [.ref l1,.ref l2,.ref d3]) = H4 at B k1 k2 k3 k4 ⊢
 have ht4:=B _ _ ht
 have hlo4:=B _ _ hlo
 have hlw4:=B _ _ hlw
 have hsd4:=B _ _ hsd
 have SA4:=SA.same B
 have hp4:=B _ _ hp
 refine ⟨_,rfl,l4,_,0,.ref l1,rfl,rfl,SqL.of k4,aH (j:=0) rfl,_,rfl,t,_,0,.ref lo,rfl,rfl,SqL.of ht4,aH (j:=0) rfl,?_⟩
 refine rF (d:=.lst (op.map Dv.str)) (pJ k1) (pJ hlo4) (pA _) ⟨_,rfl,bC ?_⟩
 refine ⟨_,rfl,l4,_,1,.ref l2,rfl,rfl,SqL.of k4,aH (j:=1) rfl,_,rfl,t,_,1,.ref lw,rfl,rfl,SqL.of ht4,aH (j:=1) rfl,?_⟩
 refine rF (d:=.lst (wt.map Dv.str)) (pJ k2) (pJ hlw4) (pA _) ⟨_,rfl,bC ?_⟩
 refine ⟨_,rfl,p,dx,F,rfl,hp4,sf.no _ (by decide +kernel),_,rfl,p,dw,pl,fs,ds,xs,op,wt,n,cnt,rfl,SA4,?_⟩
 refine ⟨_,rfl,n,rfl,_,rfl,bC ?_⟩
 refine ⟨_,rfl,p,dx,F,rfl,hp4,sf.no _ (by decide +kernel),_,rfl,p,dw,pl,fs,ds,xs,op,wt,n,cnt,rfl,SA4,?_⟩
 refine ⟨_,rfl,rfl,_,rfl,?_⟩
 rw [decide_eq_true rfl]
 refine bC ?_
 refine ⟨_,rfl,l4,_,2,.ref d3,rfl,rfl,SqL.of k4,aH (j:=2) rfl,?_⟩
 refine ⟨.inr (.inr (.inl ⟨rfl,.inl ⟨_,k3⟩⟩)),d3,_,rfl,rfl,.inl k3,fun v1 h1=>?_⟩
 have B1:=aK.upd (o:=qO v1 d3) h1
 refine ⟨v1,d3,_,rfl,aB,.inl (B1 _ _ k3),fun l5 as5 H5 n5 S5 q5 P5=>?_⟩
 have T5:=B1.trans S5
 refine ⟨_,rfl,.inr (.inr (.inl ⟨rfl,.inl ⟨_,T5 _ _ hsd4⟩⟩)),sd,_,rfl,rfl,.inl (T5 _ _ hsd4),fun v2 h2=>?_⟩
 have B2:=aK.upd (o:=qO v2 sd) h2
 refine ⟨v2,sd,_,rfl,aB,.inl (B2 _ _ (T5 _ _ hsd4)),fun l6 as6 H6 n6 S6 q6 P6=>?_⟩
 have T6':=B2.trans S6
 have T6:=T5.trans T6'
 refine rF (d:=.lst ((fs.map aJ).map fun z=>Dv.tup [.str z,.int (cnt z)])) ⟨l5,_,rfl,T6' _ _ q5,sI (kC.same T6' P5)⟩ ⟨l6,_,rfl,q6,sI P6⟩ (aCD _) ⟨_,rfl,bC ?_⟩
 have S7:=B.trans T6
 have k16:=T6 _ _ k1
 have k26:=T6 _ _ k2
 have k36:=T6 _ _ k3
 have k46:=T6 _ _ k4
 have m1:H l1 = none:=n1
 have lop:=SA.lop
 refine ⟨_,rfl,l4,_,0,.ref l1,rfl,rfl,SqL.of k46,aH (j:=0) rfl,.inl ⟨rfl,_,SqL.of k16⟩,l1,op.map V.str,.str "x",rfl,rfl,k16,by rw [List.length_map];omega,?_⟩
 have S8:aK H (upd H6 l1 (.lst (op.map V.str ++ [.str "x"]))):=S7.over n1
 have k28:upd H6 l1 (.lst (op.map V.str ++ [.str "x"])) l2 = some (.lst (wt.map V.str)):=by rw [aP n12.symm];exact k26
 have k38:upd H6 l1 (.lst (op.map V.str ++ [.str "x"])) d3 = some (.dK (bQ (fs.map aJ) cnt)):=by rw [aP n13.symm];exact k36
 have k48:upd H6 l1 (.lst (op.map V.str ++ [.str "x"])) l4 = some (.lst [.ref l1,.ref l2,.ref d3]):=by rw [aP n14.symm];exact k46
 generalize upd H6 l1 (.lst (op.map V.str ++ [.str "x"])) = H8 at S8 k28 k38 k48 ⊢
 refine ⟨_,rfl,l4,_,1,.ref l2,rfl,rfl,SqL.of k48,aH (j:=1) rfl,.inl ⟨rfl,_,SqL.of k28⟩,l2,wt.map V.str,.str "x",rfl,rfl,k28,by rw [List.length_map];omega,?_⟩
 have S9:aK H (upd H8 l2 (.lst (wt.map V.str ++ [.str "x"]))):=S8.over n2
 have k39:upd H8 l2 (.lst (wt.map V.str ++ [.str "x"])) d3 = some (.dK (bQ (fs.map aJ) cnt)):=by rw [aP n23.symm];exact k38
 have k49:upd H8 l2 (.lst (wt.map V.str ++ [.str "x"])) l4 = some (.lst [.ref l1,.ref l2,.ref d3]):=by rw [aP n24.symm];exact k48
 generalize upd H8 l2 (.lst (wt.map V.str ++ [.str "x"])) = H9 at S9 k39 k49 ⊢
 refine ⟨_,rfl,l4,_,2,.ref d3,rfl,rfl,SqL.of k49,aH (j:=2) rfl,⟨_,_,rfl,.inl k39⟩,d3,_,rfl,rfl,.inl k39,?_⟩
 exact q _ (S9.over n3)
structure Sst where
 op:List Str
 wt:List Str
 n:Int
 cnt:Str → Int
def iK (fs ds:List Dv) (xs:List Dk) (s:Sst) (lv:Int):Sst:=⟨lK ds xs s.op s.wt s.n lv,gN fs ds xs s.op s.wt s.n lv,s.n + 1,wR (gN fs ds xs s.op s.wt s.n lv) s.cnt⟩
def sgo (fs ds:List Dv) (xs:List Dk) (s:Sst) (ls:List Int):Sst:=ls.foldl (iK fs ds xs) s
def aNK (fs ds:List Dv) (xs:List Dk):Sst → List Int → List Sst
 | _,[]=>[]
 | s,l :: ls=>iK fs ds xs s l :: aNK fs ds xs (iK fs ds xs s l) ls
theorem aHM {fs ds:List Dv} {xs:List Dk} {l:Int} {ls:List Int} {s:Sst}:sgo fs ds xs s (ls ++ [l]) = iK fs ds xs (sgo fs ds xs s ls) l:=by
 unfold sgo
 rw [List.foldl_append]
 rfl
def aKP (s:Sst):Dv:=.tup [.lst (s.op.map Dv.str),.lst (s.wt.map Dv.str)]
theorem aGH (s:Sst):bA 30 (aKP s) = true ∧ bA 29 (aKP s) = true:=by
 have h:∀ (n:Nat) (zs:List Str),cY n (zs.map Dv.str) = true:=fun n zs=>nT fun d m=>by
  obtain ⟨z,_,rfl⟩:=List.mem_map.mp m
  cases n <;> rfl
 unfold aKP
 constructor <;> simp [bA,cY,h]
def lR (CS C:Addr) (H:Hp) (p dw pl:Addr) (fs ds:List Dv) (xs:List Dk) (s:Sst):Prop:=SeaAt CS C H p dw pl fs ds xs s.op s.wt s.n s.cnt
theorem aKO {CS C:Addr} {Hs H H0:Hp} {p dw pl:Addr} {fs ds:List Dv} {xs:List Dk} {op wt op' wt':List Str} {n:Int} {cnt cnt':Str → Int} (S:aK Hs H) (SA:SeaAt CS C Hs p dw pl fs ds xs op wt n cnt) (Y:sZ p dw H H0) (SA0:SeaAt CS C H0 p dw pl fs ds xs op' wt' (n + 1) cnt') (DX:aMW CS H H0 p dw pl n) :
  ∃ Hs',aK Hs' H0 ∧ SeaAt CS C Hs' p dw pl fs ds xs op' wt' (n + 1) cnt' ∧ ∀ b o,H b = some o → Hs b = none → Hs' b = none:=by
 obtain ⟨dx,F,ld,lo,lw,hp,sf,dc,hlo,hlw⟩:=SA.ex
 obtain ⟨F',lo',lw',hp0,sf',nlo,nlw⟩:=DX dx F ld lo lw (S _ _ hp) sf
 obtain ⟨dx0,F0,ld0,lo0,lw0,hp0',sf0,_,hlo0,hlw0⟩:=SA0.ex
 rw [hp0] at hp0'
 cases hp0'
 have e1:=sf0.f3
 rw [sf'.f3] at e1
 cases e1
 have e2:=sf0.f4
 rw [sf'.f4] at e2
 cases e2
 obtain ⟨Hs',hH⟩:∃ Hs':Hp,Hs' = fun b=>if (H b).isSome && (Hs b).isNone then none else H0 b:=⟨_,rfl⟩
 have old:∀ {b:Addr} {o:HO},Hs b = some o → Hs' b = H0 b:=fun {b o} e=>by
  rw [hH]
  show (if (H b).isSome && (Hs b).isNone then none else H0 b) = _
  rw [e,if_neg (by simp)]
 have new:∀ {b:Addr},H b = none → Hs' b = H0 b:=fun {b} e=>by
  rw [hH]
  show (if (H b).isSome && (Hs b).isNone then none else H0 b) = _
  rw [e,if_neg (by simp)]
 have nd:∀ b o,H b = some o → Hs b = none → Hs' b = none:=fun b o e1 e2=>by
  rw [hH]
  show (if (H b).isSome && (Hs b).isNone then none else H0 b) = _
  rw [e1,e2,if_pos (by simp)]
 have sub:aK Hs' H0:=fun b o e=>by
  rw [hH] at e
  by_cases h:((H b).isSome && (Hs b).isNone) = true
  ·have e:(if (H b).isSome && (Hs b).isNone then none else H0 b) = some o:=e
   rw [if_pos h] at e
   cases e
  ·have e:(if (H b).isSome && (Hs b).isNone then none else H0 b) = some o:=e
   rw [if_neg h] at e
   exact e
 have keep:∀ b o,Hs b = some o → b ≠ p → b ≠ dw → Hs' b = some o:=fun b o e n1 n2=>by rw [old e];exact Y _ _ (S _ _ e) n1 n2
 have lt:gO Hs Hs':=fun b o e l=>keep b o e (fun z=>by rw [z,hp] at e;cases e;cases l) (fun z=>by rw [z,SA.dwt] at e;cases e;cases l)
 have ndp:dw ≠ p:=fun z=>by have:=SA.dwt;rw [z,hp] at this;cases this
 have np:pl ≠ p:=fun e=>by
  obtain ⟨dx',d1,d2,hx,_⟩:=SA.land.ex
  rw [e,hp] at hx
  have e':=(HO.ins.inj (Option.some.inj hx)).2.2
  have:=sf.no "field_rows" (by decide +kernel)
  rw [e',nQ] at this
  cases this
 have nd':pl ≠ dw:=fun z=>by
  obtain ⟨dx',e1,e2,hx,_⟩:=SA.land.ex
  rw [z,SA.dwt] at hx
  cases hx
 obtain ⟨M,hM⟩:∃ M:Hp,M = fun b=>if b = p then Hs p else Hs' b:=⟨_,rfl⟩
 have Mp:M p = some (.ins CS dx F):=by
  rw [hM]
  show (if p = p then Hs p else Hs' p) = _
  rw [if_pos rfl]
  exact hp
 have Mn:∀ {b:Addr},b ≠ p → M b = Hs' b:=fun {b} n=>by
  rw [hM]
  show (if b = p then Hs p else Hs' b) = _
  rw [if_neg n]
 have L1:LandAt C M pl fs ds:=oY SA.dwt rfl (fun kvs e=>by cases e;exact qM) nd' (fun b o e n=>by
  by_cases h:b = p
  ·subst h
   rw [hp] at e
   cases e
   exact Mp
  ·rw [Mn h]
   exact keep _ _ e h n) SA.land
 have L2:LandAt C Hs' pl fs ds:=oY Mp rfl (fun kvs e=>by cases e) np (fun b o e n=>by rw [Mn n] at e;exact e) L1
 exact ⟨Hs',sub,⟨⟨dx,F',ld,lo',lw',by rw [old hp];exact hp0,sf',dc.sameLT lt,by rw [new nlo];exact hlo0,by rw [new nlw];exact hlw0⟩,L2,by rw [old SA.dwt];exact SA0.dwt,SA0.sub,SA0.lop,SA0.lx⟩,nd⟩
def aEH (K:PySem.W.Frag) (CS C:Addr):Sp:=sp6 fun x y u v w' r H Q=>∃ (p dw pl lf ld lx ll lb lo lw sd:Addr) (vf vd vx:List V) (fs ds:List Dv) (xs:List Dk) (s0:Sst) (ls:List Int),x = .ref p ∧ lR CS C H p dw pl fs ds xs s0 ∧ y = .ref lf ∧ H lf = some (.lst vf) ∧ IsL H fs vf ∧ u = .ref ld ∧ H ld = some (.lst vd) ∧ IsL H ds vd ∧ v = .ref lx ∧ H lx = some (.lst vx) ∧ IsL H (xs.map dkD) vx ∧ (∀ z ∈ xs,sW z.2.2 ∧ z.2.2.length ≤ 6) ∧ w' = .ref ll ∧ H ll = some (.lst (ls.map V.int)) ∧ (∀ l ∈ ls,hgt l = true) ∧ r = .ref lb ∧ H lb = some (.lst [.ref lo,.ref lw,.int s0.n,.ref sd]) ∧ H lo = some (.lst (s0.op.map V.str)) ∧ H lw = some (.lst (s0.wt.map V.str)) ∧ s0.wt.length ≤ 1000 ∧ H sd = some (.dK (bQ (fs.map aJ) s0.cnt)) ∧
 ∀ (lr lo' lw' sd':Addr) (H':Hp),sZ p dw H H' → lR CS C H' p dw pl fs ds xs (sgo fs ds xs s0 ls) → H' lr = some (.lst [.ref lo',.ref lw',.int (sgo fs ds xs s0 ls).n,.ref sd']) → H' lo' = some (.lst ((sgo fs ds xs s0 ls).op.map V.str)) → H' lw' = some (.lst ((sgo fs ds xs s0 ls).wt.map V.str)) → (sgo fs ds xs s0 ls).wt.length ≤ 1000 → H sd' = none → H' sd' = some (.dK (bQ (fs.map aJ) (sgo fs ds xs s0 ls).cnt)) → Q (.ref lr) H'
theorem aFU (T:Txt K mg C) {CS:Addr} (hCS:mg "Season" = some (.ref CS)):Fc P w K mg base 9 "_law_days" ["_law_season","_law_fields_here","_law_dykes_here","_law_decrees_here","_law_levels","_law_before"] (aEH K CS C):=by
 have G_season_p_day:Mc P w K mg base 8 CS "day" ["self","level"] (aLE CS C):=tM T hCS
 have G_l_opened:Fc P w K mg base 2 "_law_opened" ["_law_dykes_here","_law_decrees_here","_law_opened_here","_law_level","_law_wet_here","_law_day"] (aKZ K):=aBL T
 have G_l_wet:Fc P w K mg base 1 "_law_wet" ["_law_fields_here","_law_heights","_law_wet_here","_law_level"] (aGZ K):=aIC T
 have G_l_floods:Fc P w K mg base 1 "_law_floods" ["_law_fields_here","_law_dykes_here","_law_told_stands"] (aHF K):=aBM T
 have G_l_stands:Fc P w K mg base 1 "_law_stands" ["_law_dykes_here","_law_opened_here"] (xP K):=aBJ T
 have G_l_tells:Fc P w K mg base 2 "_law_tells" ["_law_season","_law_due","_law_number","_law_soaked"] (uG CS C):=vP T hCS
 obtain ⟨C_Season,cl_Season,mg_Season,na_on_land,na_own_decrees,na_open_names,na_wet_names,na_day_count,na_wet_counts,i_Season,m_season_p_day,m_season_p_days,m_season_p_opened,m_season_p_wet,m_season_p_count,m_season_p_wet_days,m_season_p_onto⟩:=T.k_Season
 rw [hCS] at mg_Season
 cases mg_Season
 refine T.d_l_days.fc fA aME (fun f cdv A outer s H vs Q E hr h=>?_)
 obtain ⟨x,y,u,v,w',r,rfl,p,dw,pl,lf,ld,lx,ll,lb,lo,lw,sd,vf,vd,vx,fs,ds,xs,s0,ls,rfl,SA,rfl,hlf,hif,rfl,hld,hid,rfl,hlx,hix,oks,rfl,hll,hls,rfl,hlb,hlo,hlw,lwt,hsd,q⟩:=h
 have big2:(2000:Nat) ≤ sizeLine:=by decide
 have hu:=jP hr
 have gf:=(cS SA.land).1
 have gd:=(cS SA.land).2
 refine ⟨_,(aG (@aHW _ _ _ _ _ _ (pv 5) (aEO rfl (@bD _ _ _ _ _ (@aN _ _ (6) _ fA.nd rfl (Or.inl rfl) (by trivial)) (@bD _ _ _ _ _ (@aN _ _ (7) _ fA.nd rfl (Or.inl rfl) (by trivial)) (@bD _ _ _ _ _ (@aN _ _ (8) _ fA.nd rfl (Or.inl rfl) (by trivial)) (@bD _ _ _ _ _ (@aN _ _ (9) _ fA.nd rfl (Or.inl rfl) (by trivial)) iQ (by rfl)) (by rfl)) (by rfl)) (by rfl))) (by rfl) (by rfl) (by rfl)) (aG (@aY _ _ (9) _ _ _ _ fA.nd rfl (Or.inl rfl) (@cE _ _ _ _ _ _ _ _ _ pF rfl T.n_dict eX (aA (pv 9) aE) (by decide) (by decide) (by rfl) (by rfl)) (by rfl) (by trivial)) (aG (@eC _ _ _ _ _ _ _ _ PassesOwn.never rfl (@bJ _ (K) _ _ _ rfl (@bK _ _ _ _ (pv 4))) (@aN _ _ (10) _ fA.nd rfl (Or.inl rfl) (by trivial)) (aG (@aY _ _ (6) _ _ _ _ fA.nd rfl (Or.inl rfl) (@bN _ _ _ _ _ _ _ _ _ _ G_l_opened (hr.mono (by decide)) (@aA _ _ _ _ _ (pv 2) (@aA _ _ _ _ _ (pv 3) (@aA _ _ _ _ _ (pv 6) (@aA _ _ _ _ _ (pv 10) (@aA _ _ _ _ _ (pv 7) (@aA _ _ _ _ _ (pv 8) aE (by rfl)) (by rfl)) (by rfl)) (by rfl)) (by rfl)) (by rfl)) (by rfl) (by decide) (by rfl) (by rfl)) (by rfl) (by trivial)) (aG (@aY _ _ (7) _ _ _ _ fA.nd rfl (Or.inl rfl) (@bN _ _ _ _ _ _ _ _ _ _ G_l_wet (hr.mono (by decide)) (aA (pv 1) (aA (@bN _ _ _ _ _ _ _ _ _ _ G_l_floods (hr.mono (by decide)) (aA (pv 1) (aA (pv 2) (aA (@bN _ _ _ _ _ _ _ _ _ _ G_l_stands (hr.mono (by decide)) (aA (pv 2) (aA (pv 6) aE)) (by rfl) (by decide) (by rfl) (by rfl)) aE))) (by rfl) (by decide) (by rfl) (by rfl)) (aA (pv 7) (aA (pv 10) aE)))) (by rfl) (by decide) (by rfl) (by rfl)) (by rfl) (by trivial)) (aG (@eC _ _ _ _ _ _ _ _ PassesOwn.never rfl (@bJ _ (K) _ _ _ rfl (@bK _ _ _ _ (pv 7))) (@aN _ _ (11) _ fA.nd rfl (Or.inl rfl) (by trivial)) (aI (@nJ _ _ _ _ _ _ _ _ _ hu (pv 9) (pv 11) (@aR _ _ _ _ _ _ _ _ eE (@jD _ _ _ _ _ _ hu (pv 9) (pv 11) (fun _ _=>rfl)) aD) rfl)) (by intro _;rfl)) (aG (@aY _ _ (8) _ _ _ _ fA.nd rfl (Or.inl rfl) (@aR _ _ _ _ _ _ _ _ eE (pv 8) aD) (by rfl) (by trivial)) (aI (@cD _ _ _ _ _ _ _ _ (@PW.pt _ _ _ (@jZ _ _ _ _ _ _ _ (@bH _ _ _ _ _ _ _ _ (@zC _ hr.units) (@aCX _ _ _ _ _ _ _ _ _ _ _ _ _ _ cl_Season G_season_p_day (hr.mono (by decide)) (pv 0) (aA (pv 10) aE) (by rfl) (by rfl) (by rfl)) (@cU _ _ _ _ _ (aA (pv 6) (aA (pv 7) aE))) (@bF _ _ (by decide) (by decide))) (@jS _ _ _ _ (@dE _ _ _ _ (@cJ _ _ _ (@bN _ _ _ _ _ _ _ _ _ _ G_l_tells (hr.mono (by decide)) (aA (pv 0) (aA (@cK _ _ _ _ (aA (pv 6) (aA (pv 7) aE))) (aA (pv 8) (aA (pv 9) aE)))) (by rfl) (by decide) (by rfl) (by rfl)) (by intro _;rfl)))))) (aI (@aT _ _ _ _ jT)) bE)))))) (by intro _;rfl)) (aI (@aT _ _ _ _ (@cK _ _ _ _ (aA (pv 6) (aA (pv 7) (aA (pv 8) (aA (pv 9) aE)))))))))),?_⟩
 refine ⟨_,rfl,lb,_,rfl,SqL.of hlb,rfl,_,_,rfl,_,_,rfl,_,_,rfl,_,_,rfl,rfl,?_⟩
 refine ⟨_,rfl,sd,_,rfl,hsd,fun sd' hsd'=>?_⟩
 have A1:=aK.upd (o:=.dK (bQ (fs.map aJ) s0.cnt)) hsd'
 have B:=A1
 have k1:upd H sd' (.dK (bQ (fs.map aJ) s0.cnt)) sd' = some (.dK (bQ (fs.map aJ) s0.cnt)):=aB
 generalize upd H sd' (.dK (bQ (fs.map aJ) s0.cnt)) = H1 at B k1 ⊢
 obtain ⟨dx0,F0,ldp,lop,lwp,hpH,sfH,_⟩:=SA.ex
 have hdwH:=SA.dwt
 have ndp:dw ≠ p:=fun z=>by rw [z,hpH] at hdwH;cases hdwH
 have Ylt:∀ {H':Hp},sZ p dw H H' → gO H H':=fun Y b o e l=>Y b o e (fun z=>by rw [z,hpH] at e;cases e;cases l) (fun z=>by rw [z,hdwH] at e;cases e;cases l)
 have nsp:sd' ≠ p:=(aL hpH hsd').symm
 have nsd:sd' ≠ dw:=(aL hdwH hsd').symm
 refine ⟨_,rfl,ll,rfl,⟨_,SqL.of (B _ _ hll)⟩,?_⟩
 refine dQ (K:=K) (a:=ll) (xs:=ls.map V.int) (fun i σ G=>∃ (v10 v11:Option V) (lo lw:Addr) (Hs:Hp),σ = [some (.ref p),some (.ref lf),some (.ref ld),some (.ref lx),some (.ref ll),some (.ref lb),some (.ref lo),some (.ref lw),some (.int (sgo fs ds xs s0 (ls.take i)).n),some (.ref sd'),v10,v11] ∧ sZ p dw H G ∧ aK Hs G ∧ lR CS C Hs p dw pl fs ds xs (sgo fs ds xs s0 (ls.take i)) ∧ Hs sd' = none ∧ G lo = some (.lst ((sgo fs ds xs s0 (ls.take i)).op.map V.str)) ∧ G lw = some (.lst ((sgo fs ds xs s0 (ls.take i)).wt.map V.str)) ∧ (sgo fs ds xs s0 (ls.take i)).wt.length ≤ 1000 ∧ G sd' = some (.dK (bQ (fs.map aJ) (sgo fs ds xs s0 (ls.take i)).cnt)))
  ⟨_,_,lo,lw,H,rfl,fun b o e _ _=>B _ _ e,B,SA,hsd',B _ _ hlo,B _ _ hlw,lwt,k1⟩ (fun i σ G _ ⟨_,_,_,_,_,_,Y,_⟩=>SqL.of (Ylt Y _ _ hll rfl)) ?_ ?_
 ·rintro i xv σ G hx ⟨v10,v11,lo,lw,Hs,rfl,Y,SG,SS,ns,hloG,hlwG,lwt,hsG⟩
  have hil:i < ls.length:=by have:=(List.getElem?_eq_some_iff.mp hx).1;rw [List.length_map] at this;exact this
  obtain ⟨lv,elv⟩:∃ l,ls[i]? = some l:=⟨_,List.getElem?_eq_getElem hil⟩
  rw [List.getElem?_map,elv] at hx
  cases hx
  have mlv:=List.mem_of_getElem? elv
  have tk:ls.take (i + 1) = ls.take i ++ [lv]:=by rw [List.take_add_one,elv];rfl
  have esg:sgo fs ds xs s0 (ls.take (i + 1)) = iK fs ds xs (sgo fs ds xs s0 (ls.take i)) lv:=by rw [tk,aHM]
  rw [esg]
  generalize sgo fs ds xs s0 (ls.take i) = s1 at SS hloG hlwG lwt hsG ⊢
  refine xY fun DD hDD=>?_
  refine kI fun u1 hu1=>?_
  have LTG:=Ylt Y
  have hldG:=LTG _ _ hld rfl
  have hidG:=IsL.sameLT LTG _ _ (jE fun d m=>wD (gd.all d m)) hid
  have hlfG:=LTG _ _ hlf rfl
  have hifG:=IsL.sameLT LTG _ _ (jE fun d m=>sD (gf.all d m)) hif
  have hlxG:=LTG _ _ hlx rfl
  have hixG:=IsL.sameLT LTG _ _ (jE fun d m=>by obtain ⟨x,_,rfl⟩:=List.mem_map.mp m;exact zS x) hix
  refine ⟨_,rfl,_,rfl,_,rfl,_,rfl,_,rfl,_,rfl,?_⟩
  refine ⟨_,_,_,_,_,_,rfl,ld,lx,lo,lw,vd,vx,ds,xs,_,s1.op,s1.wt,lv,s1.n,rfl,rfl,rfl,rfl,rfl,rfl,hldG,hidG,gd,hlxG,hixG,oks,SA.lx,hloG,hlwG,fun lo1 G1 S1 nlo1 hlo1=>?_⟩
  have hlo1:G1 lo1 = some (.lst ((iK fs ds xs s1 lv).op.map V.str)):=hlo1
  have sub1:∀ z ∈ (iK fs ds xs s1 lv).op,z ∈ (ds.filter aX).map aJ:=fun z m=>(List.mem_filter.mp m).1
  refine ⟨_,rfl,_,rfl,_,rfl,_,rfl,_,rfl,_,_,rfl,ld,lo1,vd,ds,_,(iK fs ds xs s1 lv).op,rfl,rfl,S1 _ _ hldG,IsL.same S1 _ _ hidG,gd,hlo1,sub1,fun d2 G2 S2 nd2 hd2=>?_⟩
  have T2:=S1.trans S2
  refine ⟨_,_,_,rfl,lf,ld,d2,vf,vd,fs,ds,(iK fs ds xs s1 lv).op,rfl,rfl,rfl,T2 _ _ hlfG,IsL.same T2 _ _ hifG,gf,T2 _ _ hldG,IsL.same T2 _ _ hidG,gd,hd2,fun d3 G3 S3 nd3 hd3=>?_⟩
  have T3:=T2.trans S3
  refine ⟨_,rfl,_,rfl,_,_,_,_,rfl,lf,d3,lw,vf,fs,ds,(iK fs ds xs s1 lv).op,s1.wt,lv,rfl,rfl,rfl,rfl,T3 _ _ hlfG,IsL.same T3 _ _ hifG,gf,hd3,T3 _ _ hlwG,lwt,fun lw1 G4 S4 nlw1 hlw1=>?_⟩
  have hlw1:G4 lw1 = some (.lst ((iK fs ds xs s1 lv).wt.map V.str)):=hlw1
  have T4:=T3.trans S4
  have hlo14:=(S2.trans (S3.trans S4)) _ _ hlo1
  have hs4:=T4 _ _ hsG
  have lw1s:lw1 ≠ sd':=fun z=>by rw [z,hs4] at hlw1;cases hlw1
  have lo1s:lo1 ≠ sd':=fun z=>by rw [z,hs4] at hlo14;cases hlo14
  have ndw:(iK fs ds xs s1 lv).wt.Nodup:=gf.nd.sublist List.filter_sublist
  have mwt:∀ z ∈ (iK fs ds xs s1 lv).wt,z ∈ fs.map aJ:=fun z m=>(List.mem_filter.mp m).1
  have f2:=gf.l2
  have lwt1:(iK fs ds xs s1 lv).wt.length ≤ 1000:=Nat.le_trans (List.length_filter_le _ _) (by rw [List.length_map];omega)
  have lcn:∀ c,(bQ (fs.map aJ) c).length = fs.length:=fun c=>by unfold bQ;rw [List.length_map,List.length_map]
  refine hu1 _ _ _ ?_
  refine aHO fun u2 hu2=>?_
  refine ⟨_,rfl,lw1,rfl,⟨_,SqL.of hlw1⟩,?_⟩
  refine dQ (K:=K) (a:=lw1) (xs:=(iK fs ds xs s1 lv).wt.map V.str) (fun j σ G'=>∃ v12,σ = [some (.ref p),some (.ref lf),some (.ref ld),some (.ref lx),some (.ref ll),some (.ref lb),some (.ref lo1),some (.ref lw1),some (.int s1.n),some (.ref sd'),some (.int lv),v12] ∧ G' sd' = some (.dK (bQ (fs.map aJ) (wR ((iK fs ds xs s1 lv).wt.take j) s1.cnt))) ∧ cI sd' G4 G')
   ⟨_,rfl,by rw [show wR (List.take 0 (iK fs ds xs s1 lv).wt) s1.cnt = s1.cnt from funext fun z=>if_neg (by simp)];exact hs4,fun b o e _=>e⟩ (fun j σ G' _ ⟨_,_,_,X⟩=>SqL.of (X _ _ hlw1 lw1s)) ?_ ?_
  ·rintro j xv σ G' hxj ⟨v12,rfl,hd',X⟩
   obtain ⟨z,ez⟩:∃ z,(iK fs ds xs s1 lv).wt[j]? = some z:=by
    have:=(List.getElem?_eq_some_iff.mp hxj).1
    rw [List.length_map] at this
    exact ⟨_,List.getElem?_eq_getElem this⟩
   rw [List.getElem?_map,ez] at hxj
   cases hxj
   have mz:=mwt z (List.mem_of_getElem? ez)
   refine ⟨_,rfl,_,rfl,sd',_,rfl,(by rw [← sJ mz];exact lT.k (k:=Sum.inr z) hd'),_,1,rfl,rfl,?_⟩
   refine ⟨_,rfl,_,rfl,sd',_,rfl,aCL.k (k:=Sum.inr z) hd' (by rw [lcn];omega),?_⟩
   refine ⟨_,rfl,?_,X.put⟩
   rw [aB,yE mz,yF ndw ez]
  ·rintro σ G5 ⟨v12,rfl,hs5,X5⟩
   rw [List.length_map,List.take_of_length_le (Nat.le_refl _)] at hs5
   have hs5:G5 sd' = some (.dK (bQ (fs.map aJ) (iK fs ds xs s1 lv).cnt)):=hs5
   refine hu2 _ _ _ ?_
   have hlo5:=X5 _ _ hlo14 lo1s
   have hlw5:=X5 _ _ hlw1 lw1s
   have SHs5:aK Hs G5:=fun b o e=>X5 _ _ (T4 _ _ (SG _ _ e)) (fun z=>by rw [z,ns] at e;cases e)
   have SA5:=SeaAt.same SHs5 SS
   obtain ⟨dx5,F5,ld5,lo5,lw5,hp5,sf5,_⟩:=SA5.ex
   have hdw5:=SA5.dwt
   refine ⟨_,rfl,_,_,rfl,rfl,?_⟩
   refine ⟨_,rfl,p,dx5,F5,rfl,hp5,sf5.no _ (by decide +kernel),_,rfl,_,_,rfl,p,dw,pl,fs,ds,xs,s1.op,s1.wt,s1.n,lv,s1.cnt,rfl,SA5,rfl,hls lv mlv,fun t lo2 lw2 H0 G6 Y6 SA6 DX S6 nt nlo2 nlw2 n1 n2 n3 ht hlo2 hlw2=>?_⟩
   obtain ⟨Hs',SH0,SAs,nn⟩:=aKO SHs5 SS Y6 SA6 DX
   have hlo2:G6 lo2 = some (.lst ((iK fs ds xs s1 lv).op.map V.str)):=hlo2
   have hlw2:G6 lw2 = some (.lst ((iK fs ds xs s1 lv).wt.map V.str)):=hlw2
   have SAs:lR CS C Hs' p dw pl fs ds xs (iK fs ds xs s1 lv):=SAs
   have ns':=nn _ _ hs5 ns
   have K6:∀ b o,G5 b = some o → b ≠ p → b ≠ dw → G6 b = some o:=fun b o e m1 m2=>S6 _ _ (Y6 _ _ e m1 m2)
   have hlo6:=K6 _ _ hlo5 (fun z=>by rw [z,hp5] at hlo5;cases hlo5) (fun z=>by rw [z,hdw5] at hlo5;cases hlo5)
   have hlw6:=K6 _ _ hlw5 (fun z=>by rw [z,hp5] at hlw5;cases hlw5) (fun z=>by rw [z,hdw5] at hlw5;cases hlw5)
   have hs6:=K6 _ _ hs5 nsp nsd
   have iday:∀ {G:Hp} {tt a b:Addr},G tt = some (.tup [.ref a,.ref b]) → G a = some (.lst ((iK fs ds xs s1 lv).op.map V.str)) → G b = some (.lst ((iK fs ds xs s1 lv).wt.map V.str)) → Is G (aKP (iK fs ds xs s1 lv)) (.ref tt):=fun h1 h2 h3=>⟨_,_,rfl,h1,_,_,rfl,pJ h2,_,_,rfl,pJ h3,rfl⟩
   refine ⟨_,rfl,_,rfl,aQ rfl,fun tt htt=>?_⟩
   have A7:=aK.upd (o:=.tup [.ref lo1,.ref lw1]) htt
   refine rF (iday (A7 _ _ ht) (A7 _ _ hlo2) (A7 _ _ hlw2)) (iday aB (A7 _ _ hlo6) (A7 _ _ hlw6)) (aGH _).1 ⟨_,rfl,bC ?_⟩
   refine ⟨_,rfl,_,rfl,_,rfl,aQ rfl,fun t8 ht8=>?_⟩
   have A8:=aK.upd (o:=.lst [.ref lo1,.ref lw1]) ht8
   have A78:=A7.trans A8
   have S9:aK Hs' (upd (upd G6 tt (.tup [.ref lo1,.ref lw1])) t8 (.lst [.ref lo1,.ref lw1])):=SH0.trans (S6.trans A78)
   have k8:upd (upd G6 tt (.tup [.ref lo1,.ref lw1])) t8 (.lst [.ref lo1,.ref lw1]) t8 = some (.lst [.ref lo1,.ref lw1]):=aB
   generalize upd (upd G6 tt (.tup [.ref lo1,.ref lw1])) t8 (.lst [.ref lo1,.ref lw1]) = G9 at A78 S9 k8 ⊢
   refine ⟨_,rfl,_,rfl,_,_,_,_,rfl,p,dw,pl,t8,lo1,lw1,sd',fs,ds,xs,(iK fs ds xs s1 lv).op,(iK fs ds xs s1 lv).wt,(iK fs ds xs s1 lv).n,(iK fs ds xs s1 lv).cnt,rfl,SeaAt.same S9 SAs,rfl,k8,A78 _ _ hlo6,A78 _ _ hlw6,lwt1,rfl,rfl,A78 _ _ hs6,fun G12 S12=>⟨_,rfl,bC ?_⟩⟩
   have B12:=A78.trans S12
   refine hDD _ _ ⟨_,_,lo1,lw1,Hs',rfl,fun b o e m1 m2=>?_,S9.trans S12,SAs,ns',B12 _ _ hlo6,B12 _ _ hlw6,lwt1,B12 _ _ hs6⟩
   exact B12 _ _ (K6 _ _ (X5 _ _ (T4 _ _ (Y _ _ e m1 m2)) (aL e hsd')) m1 m2)
 ·rintro σ G ⟨v10,v11,lo,lw,Hs,rfl,Y,SG,SS,ns,hloG,hlwG,lwt,hsG⟩
  rw [List.length_map,List.take_of_length_le (Nat.le_refl _)] at SS hloG hlwG lwt hsG
  rw [List.length_map,List.take_of_length_le (Nat.le_refl _)]
  refine ⟨_,rfl,_,rfl,_,rfl,_,rfl,aQ rfl,fun lr hlr=>?_⟩
  have A:=aK.upd (o:=.lst [.ref lo,.ref lw,.int (sgo fs ds xs s0 ls).n,.ref sd']) hlr
  exact q lr lo lw sd' _ (fun b o e m1 m2=>A _ _ (Y _ _ e m1 m2)) (SeaAt.same (SG.trans A) SS) aB (A _ _ hloG) (A _ _ hlwG) lwt hsd' (A _ _ hsG)
theorem aLN {ws:List Dv} {z:Str} (h:∀ d ∈ ws,aJ d ≠ z):wAt ws z = none:=by
 unfold wAt
 rw [List.find?_eq_none.mpr fun d m=>by rw [decide_eq_false (h d m)];exact Bool.false_ne_true]
 rfl
theorem aLO {ws:List Dv} {z n:Str} {h:Int} (ne:n ≠ z):wAt (ws ++ [.tup [.str n,.int h]]) z = wAt ws z:=by
 unfold wAt
 rw [List.find?_append]
 cases ws.find? fun d=>decide (aJ d = z) with
 | some x=>rfl
 | none =>
  have e:decide (aJ (.tup [.str n,.int h]) = z) = false:=decide_eq_false ne
  rw [Option.none_or,List.find?_cons,e]
  rfl
theorem aJN {ws:List Dv} {n:Str} {h:Int} (no:∀ d ∈ ws,aJ d ≠ n):wAt (ws ++ [.tup [.str n,.int h]]) n = some h:=by
 unfold wAt
 rw [List.find?_append,List.find?_eq_none.mpr fun d m=>by rw [decide_eq_false (no d m)];exact Bool.false_ne_true]
 have e:decide (aJ (.tup [.str n,.int h]) = n) = true:=decide_eq_true rfl
 rw [Option.none_or,List.find?_cons,e]
 rfl
theorem aDD {zs:List Str} {ws ws':List Dv} {d:Dv} (hd:dA zs d = true) (h:wAt ws (aJ d) = wAt ws' (aJ d)):tQ ws d = tQ ws' d:=by
 obtain ⟨n,a,b,c,r,s,rfl,_⟩:=bI hd
 have h':wAt ws n = wAt ws' n:=h
 show Dv.tup [.str n,.str a,.str b,.int ((wAt ws n).getD c),.int r,s] = Dv.tup [.str n,.str a,.str b,.int ((wAt ws' n).getD c),.int r,s]
 rw [h']
theorem aOH {i:Nat} {v:V} {c:TT} {a b u:TS} {D:Ends} {σ:L2.St} {H:Hp} {r:VK} {bk ct:L2.St → Hp → Prop} (R:L2.St → Hp → Prop) (h:∀ σ' H',R σ' H' → u D σ' H') (k:∀ D':Ends,(∀ σ' H',R σ' H' → D'.nx σ' H') → aGV c a b D' (σ.set i (some v)) H):qA i v σ H (Ends.nx { nx:=nB (aGV c a b) u D,rt:=r,bk:=bk,ct:=ct }):=rN R h k
def aHC (K:PySem.W.Frag):Sp:=sp2 fun x y H Q=>∃ (ld:Addr) (vd:List V) (ds:List Dv) (zs:List Str),x = .ref ld ∧ H ld = some (.lst vd) ∧ IsL H ds vd ∧ GoodD zs ds ∧ Scr K H y ∧
 ∀ (lr lwk lrd:Addr) (ws:List Dv) (uw ur:List V) (H':Hp),aK H H' → H' lr = some (.lst [.ref lwk,.ref lrd]) → H' lwk = some (.lst uw) → IsL H' ws uw → GoodW ds ws → ws.length ≤ ds.length → H' lrd = some (.lst ur) → IsL H' (dB ds ws) ur → Q (.ref lr) H'
theorem aBK (T:Txt K mg C):Fc P w K mg base 2 "_law_raised" ["_law_dykes_here","_law_script"] (aHC K):=by
 have G_l_mixed:Fc P w K mg base 1 "_law_mixed" ["_law_script","_law_k"] (aFK K):=kZ T
 refine T.d_l_raised.fc dJ gK (fun f cdv A outer s H vs Q E hr h=>?_)
 obtain ⟨x,y,rfl,ld,vd,ds,zs,rfl,hld,hid,gd,scr,q⟩:=h
 have big:=bY
 have hu:=jP hr
 have d2:=gd.l2
 have lvd:=hid.length
 refine ⟨_,(aG (@aY _ _ (2) _ _ _ _ dJ.nd rfl (Or.inl rfl) (@cK _ _ _ _ aE) (by rfl) (by trivial)) (aG (@aY _ _ (3) _ _ _ _ dJ.nd rfl (Or.inl rfl) (@cK _ _ _ _ aE) (by rfl) (by trivial)) (aG (@eC _ _ _ _ _ _ _ _ PassesOwn.never rfl (@bJ _ (K) _ _ _ rfl (@bK _ _ _ _ (pv 0))) (@nK _ (K) _ _ _ _ _ rfl 6 rfl (@nL _ _ _ _ _ _ rfl (@bD _ _ _ _ _ (@aN _ _ (4) _ dJ.nd rfl (Or.inl rfl) (by trivial)) (@bD _ _ _ _ _ (@aN _ _ (5) _ dJ.nd rfl (Or.inl rfl) (by trivial)) (@bD _ _ _ _ _ (@aN _ _ (6) _ dJ.nd rfl (Or.inl rfl) (by trivial)) (@bD _ _ _ _ _ (@aN _ _ (7) _ dJ.nd rfl (Or.inl rfl) (by trivial)) (@bD _ _ _ _ _ (@aN _ _ (8) _ dJ.nd rfl (Or.inl rfl) (by trivial)) (@bD _ _ _ _ _ (@aN _ _ (9) _ dJ.nd rfl (Or.inl rfl) (by trivial)) iQ (by rfl)) (by rfl)) (by rfl)) (by rfl)) (by rfl)) (by rfl)) (by rfl) (by rfl))) (aG (@aY _ _ (10) _ _ _ _ dJ.nd rfl (Or.inl rfl) (@aR _ _ _ _ _ _ _ _ bR (@bN _ _ _ _ _ _ _ _ _ _ G_l_mixed (hr.mono (by decide)) (aA (pv 1) (aA (@aR _ _ _ _ _ _ _ _ eE aD (@aZ _ _ _ _ _ _ _ _ _ (@bU _ (K) rfl) rfl T.n_len cT (aA (pv 3) aE) (by decide) (by decide) (by rfl) (by rfl))) aE)) (by rfl) (by decide) (by rfl) (by rfl)) (@aR _ _ _ _ _ _ _ _ eD aD aD)) (by rfl) (by trivial)) (aG (@aY _ _ (11) _ _ _ _ dJ.nd rfl (Or.inl rfl) (@aZ _ _ _ _ _ _ _ _ _ (@mU _ rfl) rfl T.n_min mX (aA (@aR _ _ _ _ _ _ _ _ eD aD aD) (aA (@aR _ _ _ _ _ _ _ _ eE (pv 7) (@aU _ _ _ _ _ _ _ (@bO _ (K) rfl) (@cK _ _ _ _ (aA aD (aA aD (aA (@aR _ _ _ _ _ _ _ _ eE aD (@aR _ _ _ _ _ _ _ _ cG (@aR _ _ _ _ _ _ _ _ bR (pv 10) aD) aD)) (aA (@aR _ _ _ _ _ _ _ _ eD aD aD) aE))))) (@aR _ _ _ _ _ _ _ _ cG (pv 10) aD) (fun _ _=>rfl))) aE)) (by decide) (by decide) (by rfl) (by rfl)) (by rfl) (by trivial)) (aG (@cD _ _ _ _ _ _ _ _ (@bH _ _ _ _ _ _ _ _ aBE (pv 11) (pv 7) (@bF _ _ (by decide) (by decide))) (aI (@eI _ _ _ _ (@mI _ (K) _ _ _ _ _ rfl (@lB _ _ _ _ _ _ _ _ _ _ _ _ PySem.F.plainAttrs_list PySem.F.slot_list_append PySem.F.type_list_append dS (pv 2) (aA (@cU _ _ _ _ _ (aA (pv 4) (aA (pv 11) aE))) aE) (by rfl) (by rfl) (by rfl) (by rfl) (by rfl))) (by rfl))) bE) (aI (@eI _ _ _ _ (@mI _ (K) _ _ _ _ _ rfl (@lB _ _ _ _ _ _ _ _ _ _ _ _ PySem.F.plainAttrs_list PySem.F.slot_list_append PySem.F.type_list_append dS (pv 3) (aA (@cU _ _ _ _ _ (@aA _ _ _ _ _ (pv 4) (@aA _ _ _ _ _ (pv 5) (@aA _ _ _ _ _ (pv 6) (@aA _ _ _ _ _ (pv 11) (@aA _ _ _ _ _ (pv 8) (@aA _ _ _ _ _ (pv 9) aE (by rfl)) (by rfl)) (by rfl)) (by rfl)) (by rfl)) (by rfl))) aE) (by rfl) (by rfl) (by rfl) (by rfl) (by rfl))) (by rfl)))))) (by intro _;rfl)) (aI (@aT _ _ _ _ (@cK _ _ _ _ (aA (pv 2) (aA (pv 3) aE)))))))),?_⟩
 refine ⟨aQ rfl,fun lwk hlwk=>?_⟩
 have A1:=aK.upd (o:=.lst []) hlwk
 refine ⟨aQ rfl,fun lrd hlrd=>?_⟩
 have A2:=aK.upd (o:=.lst []) hlrd
 have B:=A1.trans A2
 have kw:=A2 _ _ (aB (H:=H) (a:=lwk) (o:=.lst []))
 have kr:upd (upd H lwk (.lst [])) lrd (.lst []) lrd = some (.lst []):=aB
 have nrd:H lrd = none:=A1.free hlrd
 have nwr:lwk ≠ lrd:=aL aB hlrd
 generalize upd (upd H lwk (.lst [])) lrd (.lst []) = H1 at B kw kr ⊢
 refine ⟨_,rfl,ld,rfl,⟨_,SqL.of (B _ _ hld)⟩,?_⟩
 refine dQ (K:=K) (a:=ld) (xs:=vd) (fun i σ G=>∃ (v4 v5 v6 v7 v8 v9 v10 v11:Option V) (uw ur:List V) (ws:List Dv),σ = [some (.ref ld),some y,some (.ref lwk),some (.ref lrd),v4,v5,v6,v7,v8,v9,v10,v11] ∧ aK H G ∧ G lwk = some (.lst uw) ∧ IsL G ws uw ∧ G lrd = some (.lst ur) ∧ IsL G ((ds.take i).map (tQ ws)) ur ∧ GoodW ds ws ∧ (∀ d ∈ ws,aJ d ∈ (ds.take i).map aJ) ∧ ws.length ≤ i)
  ⟨_,_,_,_,_,_,_,_,[],[],[],rfl,B,kw,rfl,kr,rfl,aFE ds,(fun d m=>by cases m),Nat.le_refl _⟩ (fun i σ G _ ⟨_,_,_,_,_,_,_,_,_,_,_,_,S,_⟩=>SqL.of (S _ _ hld)) ?_ ?_
 ·rintro i xv σ G hx ⟨v4,v5,v6,v7,v8,v9,v10,v11,uw,ur,ws,rfl,S,hw,iw,hr',ir,gw,nin,lws⟩
  have hil:i < vd.length:=(List.getElem?_eq_some_iff.mp hx).1
  obtain ⟨d,ed⟩:∃ d,ds[i]? = some d:=⟨_,List.getElem?_eq_getElem (by omega)⟩
  obtain ⟨v,ev,iv⟩:=hid.get ed
  rw [hx] at ev
  cases ev
  have md:=List.mem_of_getElem? ed
  have tk:ds.take (i + 1) = ds.take i ++ [d]:=by rw [List.take_add_one,ed];rfl
  have hdk:=gd.all d md
  have hcr:=wN gd.nd md
  have fresh:∀ e ∈ ds.take i,aJ e ≠ aJ d:=fun e me z=>by
   have h3:((ds.take (i + 1)).map aJ).Nodup:=by
    rw [List.map_take]
    exact List.Nodup.sublist (List.take_sublist _ _) gd.nd
   rw [tk,List.map_append,List.nodup_append] at h3
   exact absurd z (h3.2.2 _ (List.mem_map.mpr ⟨e,me,rfl⟩) _ (List.mem_singleton.mpr rfl))
  have nws:∀ e ∈ ws,aJ e ≠ aJ d:=fun e me z=>by
   obtain ⟨e2,me2,ee⟩:=List.mem_map.mp (nin e me)
   exact fresh e2 me2 (ee.trans z)
  have mnm:aJ d ∈ ds.map aJ:=List.mem_map.mpr ⟨d,md,rfl⟩
  have lur:=ir.length
  rw [List.length_map,List.length_take] at lur
  have luw:=iw.length
  obtain ⟨n,a',b',c,r,sl,rfl,hn⟩:=bI hdk
  obtain ⟨t,sv,rfl,o,isv⟩:=gI iv
  refine ⟨t,_,rfl,SqT.of (S _ _ o),rfl,_,_,rfl,_,_,rfl,_,_,rfl,_,_,rfl,_,_,rfl,_,_,rfl,rfl,?_⟩
  refine ⟨_,rfl,_,rfl,lrd,_,rfl,.inl (SqL.of hr'),_,_,rfl,rfl,_,_,rfl,_,scr.same S,rfl,by omega,fun m1 hm1=>?_⟩
  refine ⟨_,_,rfl,rfl,⟨by decide,by decide,by decide⟩,_,_,rfl,rfl,⟨by decide,by decide⟩,?_⟩
  have hc:=uB hn.2.2.2.2.1
  have p6:(10:Int) ^ (6:Int).toNat = 1000000:=by decide
  refine ⟨_,_,rfl,rfl,⟨by decide,by decide,by decide⟩,_,rfl,_,rfl,_,_,rfl,rfl,⟨by decide,by decide⟩,_,_,rfl,rfl,(lH rfl),_,_,rfl,rfl,_,_,rfl,rfl,⟨by decide,by decide,by decide⟩,aQ rfl,fun p1 hp1=>?_⟩
  have A3:=aK.upd (o:=.lst [.int 0,.int 1,.int (1 + (m1 / 10 ^ (18:Int).toNat) / 4 % 5),.int (10 ^ (6:Int).toNat)]) hp1
  obtain ⟨du,edu,hdu⟩:=at4 (a:=0) (b:=1) (c:=1 + (m1 / 10 ^ (18:Int).toNat) / 4 % 5) (d:=10 ^ (6:Int).toNat) (i:=(m1 / 10 ^ (18:Int).toNat) % 4) (Int.emod_nonneg _ (by decide)) (Int.emod_lt_of_pos _ (by decide))
  have du0:0 ≤ du:=by
   have b0:=Int.emod_nonneg ((m1 / 10 ^ (18:Int).toNat) / 4) (show (5:Int) ≠ 0 by decide)
   rw [p6] at hdu
   rcases hdu with rfl | rfl | rfl | rfl <;> omega
  refine ⟨_,rfl,_,_,rfl,rfl,(lH rfl),p1,_,_,.int du,rfl,rfl,SqL.of aB,edu,_,_,rfl,rfl,_,_,rfl,?_⟩
  have hw3:=A3 _ _ hw
  have hr3:=A3 _ _ hr'
  have iw3:=IsL.same A3 _ _ iw
  have ir3:=IsL.same A3 _ _ ir
  have S3:=S.trans A3
  generalize upd G p1 (.lst [.int 0,.int 1,.int (1 + (m1 / 10 ^ (18:Int).toNat) / 4 % 5),.int (10 ^ (6:Int).toNat)]) = G3 at hw3 hr3 iw3 ir3 S3 ⊢
  obtain ⟨hh,hhe,h1,h2⟩:∃ hh:Int,(if c + du < 10 ^ (6:Int).toNat then c + du else 10 ^ (6:Int).toNat) = hh ∧ c ≤ hh ∧ hh ≤ 1000000:=by
   rw [p6]
   by_cases h:c + du < 1000000
   ·exact ⟨_,if_pos h,by omega,by omega⟩
   ·exact ⟨_,if_neg h,by omega,by omega⟩
  have hgh:hgt hh = true:=by
   unfold hgt
   rw [decide_eq_true (show -1000000 ≤ hh by omega),decide_eq_true h2]
   rfl
  refine aOH (fun σ' G4=>σ' = [some (.ref ld),some y,some (.ref lwk),some (.ref lrd),some (.str n),some (.str a'),some (.str b'),some (.int c),some (.int r),some sv,some (.int (m1 / 10 ^ (18:Int).toNat)),some (.int hh)] ∧ ∃ (uw':List V) (ws':List Dv),aK H G4 ∧ G4 lwk = some (.lst uw') ∧ IsL G4 ws' uw' ∧ G4 lrd = some (.lst ur) ∧ IsL G4 ((ds.take i).map (tQ ws')) ur ∧ GoodW ds ws' ∧ (∀ d ∈ ws',aJ d ∈ (ds.take (i + 1)).map aJ) ∧ ws'.length ≤ i + 1 ∧ (wAt ws' n).getD c = hh) (fun σ' G4 hR=>?_) (fun D' hD=>?_)
  rotate_left
  ·rw [hhe]
   refine ⟨_,rfl,_,rfl,_,_,rfl,rfl,_,rfl,?_⟩
   have wk:eL ds (.tup [.str n,.int hh]) = true:=by
    show (decide (n ∈ ds.map aJ) && (hgt hh && decide (jG ds n ≤ hh))) = true
    rw [decide_eq_true (show n ∈ ds.map aJ from mnm),hgh,decide_eq_true (show jG ds n ≤ hh by rw [show jG ds n = c from hcr];exact h1)]
    rfl
   by_cases hlt:c < hh
   ·rw [decide_eq_true hlt]
    refine bW ⟨_,rfl,.inl ⟨rfl,_,SqL.of hw3⟩,_,rfl,_,rfl,aQ rfl,fun tw htw=>?_⟩
    have A5:=aK.upd (o:=.tup [.str n,.int hh]) htw
    refine ⟨lwk,_,.ref tw,rfl,rfl,A5 _ _ hw3,by omega,?_⟩
    have twl:tw ≠ lwk:=(aL hw3 htw).symm
    have kp:mZ G3 (upd (upd G3 tw (.tup [.str n,.int hh])) lwk (.lst (uw ++ [.ref tw]))):=fun b xs e=>by
     rw [aP (fun z=>by rw [z,hw3] at e;cases e)]
     exact A5 _ _ e
    refine hD _ _ ⟨rfl,uw ++ [.ref tw],ws ++ [.tup [.str n,.int hh]],(S3.trans A5).over hlwk,aB,?_,by rw [aP nwr.symm];exact A5 _ _ hr3,?_,⟨fun d m=>?_,?_⟩,fun d m=>?_,by rw [List.length_append];show ws.length + 1 ≤ _;omega,?_⟩
    ·have it:Is (upd (upd G3 tw (.tup [.str n,.int hh])) lwk (.lst (uw ++ [.ref tw]))) (.tup [.str n,.int hh]) (.ref tw):=⟨tw,_,rfl,by rw [aP twl,aB],_,_,rfl,rfl,_,_,rfl,rfl,rfl⟩
     refine IsL.snoc it (IsL.keep kp _ _ (eG fun d m=>?_) iw3)
     obtain ⟨z,v,rfl,_⟩:=iV (gw.all d m)
     rfl
    ·have e:(ds.take i).map (tQ (ws ++ [.tup [.str n,.int hh]])) = (ds.take i).map (tQ ws):=List.map_congr_left fun e me=>aDD (gd.all e (List.mem_of_mem_take me)) (aLO (fun z=>fresh e me z.symm))
     rw [e]
     refine IsL.keep kp _ _ (eG fun d m=>?_) ir3
     obtain ⟨e,me,rfl⟩:=List.mem_map.mp m
     exact sE (zJ gd gw (List.mem_of_mem_take me))
    ·rcases List.mem_append.mp m with m | m
     ·exact gw.all d m
     ·rw [List.mem_singleton.mp m]
      exact wk
    ·rw [List.map_append,List.nodup_append]
     refine ⟨gw.nd,by simp,fun a ma b mb=>?_⟩
     obtain ⟨e,me,rfl⟩:=List.mem_map.mp ma
     rw [List.mem_singleton.mp mb]
     exact nws e me
    ·rw [tk,List.map_append]
     rcases List.mem_append.mp m with m | m
     ·exact List.mem_append_left _ (nin d m)
     ·rw [List.mem_singleton.mp m]
      exact List.mem_append_right _ (List.mem_singleton.mpr rfl)
    ·rw [aJN (n:=n) nws]
     rfl
   ·rw [decide_eq_false hlt]
    refine bC (hD _ _ ⟨rfl,uw,ws,S3,hw3,iw3,hr3,ir3,gw,fun d m=>?_,by omega,?_⟩)
    ·rw [tk,List.map_append]
     exact List.mem_append_left _ (nin d m)
    ·rw [aLN (z:=n) nws]
     show c = hh
     omega
  obtain ⟨rfl,uw',ws',S4,hw4,iw4,hr4,ir4,gw4,nin4,lw4,ewt⟩:=hR
  refine ⟨_,rfl,.inl ⟨rfl,_,SqL.of hr4⟩,_,rfl,_,rfl,_,rfl,_,rfl,_,rfl,_,rfl,aQ rfl,fun tr htr=>?_⟩
  have A5:=aK.upd (o:=.tup [.str n,.str a',.str b',.int hh,.int r,sv]) htr
  refine ⟨lrd,_,.ref tr,rfl,rfl,A5 _ _ hr4,by omega,?_⟩
  have trl:tr ≠ lrd:=(aL hr4 htr).symm
  have kp:mZ G4 (upd (upd G4 tr (.tup [.str n,.str a',.str b',.int hh,.int r,sv])) lrd (.lst (ur ++ [.ref tr]))):=fun b xs e=>by
   rw [aP (fun z=>by rw [z,hr4] at e;cases e)]
   exact A5 _ _ e
  refine ⟨_,_,_,_,_,_,_,_,uw',ur ++ [.ref tr],ws',rfl,(S4.trans A5).over nrd,by rw [aP nwr];exact A5 _ _ hw4,?_,aB,?_,gw4,nin4,lw4⟩
  ·refine IsL.keep kp _ _ (eG fun d m=>?_) iw4
   obtain ⟨z,v,rfl,_⟩:=iV (gw4.all d m)
   rfl
  ·rw [tk,List.map_append]
   refine IsL.snoc ?_ (IsL.keep kp _ _ (eG fun d m=>?_) ir4)
   ·show Is _ (.tup [.str n,.str a',.str b',.int ((wAt ws' n).getD c),.int r,sl]) (.ref tr)
    rw [ewt]
    refine ⟨tr,_,rfl,by rw [aP trl,aB],_,_,rfl,rfl,_,_,rfl,rfl,_,_,rfl,rfl,_,_,rfl,rfl,_,_,rfl,rfl,_,_,rfl,?_,rfl⟩
    have hs:=hn.2.2.2.2.2.2
    cases sl with
    | non=>exact isv
    | int k=>exact isv
    | _=>cases hs
   ·obtain ⟨e,me,rfl⟩:=List.mem_map.mp m
    exact sE (zJ gd gw4 (List.mem_of_mem_take me))
 ·rintro σ G ⟨v4,v5,v6,v7,v8,v9,v10,v11,uw,ur,ws,rfl,S,hw,iw,hr',ir,gw,nin,lws⟩
  rw [List.take_of_length_le (by omega)] at ir
  refine ⟨_,rfl,_,rfl,aQ rfl,fun lr hlr=>?_⟩
  have A:=aK.upd (o:=.lst [.ref lwk,.ref lrd]) hlr
  exact q lr lwk lrd ws uw ur _ (S.trans A) aB (A _ _ hw) (IsL.same A _ _ iw) gw (by omega) (A _ _ hr') (IsL.same A _ _ ir)
open Mt22 MtF
theorem yC (xs:List V) (k:Nat):wM xs none (some (k:Int)) = xs.take k:=by
 unfold wM
 rw [HT.sIx_nat,HT.sIx_none,List.drop_zero,Nat.sub_zero]
 by_cases h:k ≤ xs.length
 ·rw [Nat.min_eq_left h]
 ·rw [Nat.min_eq_right (by omega),List.take_of_length_le (Nat.le_refl _),List.take_of_length_le (by omega)]
theorem SeaAt.ylt {CS C:Addr} {H H':Hp} {p dw pl:Addr} {fs ds:List Dv} {xs:List Dk} {op wt:List Str} {n:Int} {cnt:Str → Int} (SA:SeaAt CS C H p dw pl fs ds xs op wt n cnt) (Y:sZ p dw H H'):gO H H':=fun b o e l=>by
 obtain ⟨dx,F,_,_,_,hp,_⟩:=SA.ex
 exact Y b o e (fun z=>by rw [z,hp] at e;cases e;cases l) (fun z=>by rw [z,SA.dwt] at e;cases e;cases l)
theorem SeaAt.away {CS C:Addr} {H H':Hp} {p dw pl p2 dw2 pl2:Addr} {fs ds fs2 ds2:List Dv} {xs xs2:List Dk} {op wt op2 wt2:List Str} {n n2:Int} {cnt cnt2:Str → Int} (SA:SeaAt CS C H p dw pl fs ds xs op wt n cnt) (SB:SeaAt CS C H p2 dw2 pl2 fs2 ds2 xs2 op2 wt2 n2 cnt2) (Y:sZ p2 dw2 H H') (n1:p ≠ p2) (n2:dw ≠ dw2):SeaAt CS C H' p dw pl fs ds xs op wt n cnt:=by
 obtain ⟨dx,F,ld,lo,lw,hp,sf,dc,hlo,hlw⟩:=SA.ex
 obtain ⟨dx2,F2,ld2,lo2,lw2,hp2,sf2,_⟩:=SB.ex
 have hd2:=SB.dwt
 have hd:=SA.dwt
 have lt:gO H H':=fun b o e l=>Y b o e (fun z=>by rw [z,hp2] at e;cases e;cases l) (fun z=>by rw [z,hd2] at e;cases e;cases l)
 have np:pl ≠ p2:=fun e=>by
  obtain ⟨dx',d1,d2,hx,_⟩:=SA.land.ex
  rw [e,hp2] at hx
  have e':=(HO.ins.inj (Option.some.inj hx)).2.2
  have:=sf2.no "field_rows" (by decide +kernel)
  rw [e',nQ] at this
  cases this
 have nd':pl ≠ dw2:=fun z=>by
  obtain ⟨dx',e1,e2,hx,_⟩:=SA.land.ex
  rw [z,hd2] at hx
  cases hx
 obtain ⟨M,hM⟩:∃ M:Hp,M = fun b=>if b = p2 then H p2 else H' b:=⟨_,rfl⟩
 have Mp:M p2 = some (.ins CS dx2 F2):=by
  rw [hM]
  show (if p2 = p2 then H p2 else H' p2) = _
  rw [if_pos rfl]
  exact hp2
 have Mn:∀ {b:Addr},b ≠ p2 → M b = H' b:=fun {b} n=>by
  rw [hM]
  show (if b = p2 then H p2 else H' b) = _
  rw [if_neg n]
 have L1:LandAt C M pl fs ds:=oY hd2 rfl (fun kvs e=>by cases e;exact qM) nd' (fun b o e n=>by
  by_cases h:b = p2
  ·subst h
   rw [hp2] at e
   cases e
   exact Mp
  ·rw [Mn h]
   exact Y _ _ e h n) SA.land
 have L2:LandAt C H' pl fs ds:=oY Mp rfl (fun kvs e=>by cases e) np (fun b o e n=>by rw [Mn n] at e;exact e) L1
 exact ⟨⟨dx,F,ld,lo,lw,Y _ _ hp n1 (fun z=>by rw [z,hd2] at hp;cases hp),sf,dc.sameLT lt,lt _ _ hlo rfl,lt _ _ hlw rfl⟩,L2,Y _ _ hd (fun z=>by rw [z,hp2] at hd;cases hd) n2,SA.sub,SA.lop,SA.lx⟩
theorem nxσ {f:L2.St → Hp → Prop} {σ σ':L2.St} {H:Hp} (e:σ = σ') (h:f σ' H):f σ H:=e ▸ h
theorem gσ {i:Nat} {v:V} {σ σ':L2.St} {H:Hp} {Q:L2.St → Hp → Prop} (e:σ.set i (some v) = σ') (h:Q σ' H):qA i v σ H Q:=by
 subst e
 exact h
theorem aFA (a b c d:V):wM [a,b,c,d] none (some 2) = [a,b]:=rfl
theorem aMD {f:Addr} {fd:FuncData} (T:Txt K mg C) (F:Fun K "law" "law" pM f fd):FnOk P w K mg base CX0 13 f fd ["_law_script"] (aEA K):=by
 obtain ⟨C_Season,cl_Season,mg_Season,na_on_land,na_own_decrees,na_open_names,na_wet_names,na_day_count,na_wet_counts,i_Season,m_season_p_day,m_season_p_days,m_season_p_opened,m_season_p_wet,m_season_p_count,m_season_p_wet_days,m_season_p_onto⟩:=T.k_Season
 have G_l_fields:Fc P w K mg base 2 "_law_fields" ["_law_script","_law_most"] (aLA K):=aBN T
 have G_l_dykes:Fc P w K mg base 2 "_law_dykes" ["_law_script","_law_at","_law_most","_law_fields_here"] (aLB K):=aDC T
 have G_l_decrees:Fc P w K mg base 3 "_law_decrees" ["_law_script","_law_at","_law_most","_law_fields_here","_law_dykes_here"] (aLD K):=zH T
 have G_land_pinit:Ic P w K mg base 6 C ["self","fields","dykes"] (aCR C):=pX T
 have G_land_p_raised:Mc P w K mg base 8 C "raised" ["self","works"] (aAM C):=rW T
 have G_season_pinit:Ic P w K mg base 7 C_Season ["self","land","decrees"] (yR C_Season C):=nY T mg_Season
 have G_season_p_onto:Mc P w K mg base 9 C_Season "onto" ["self","land"] (aHD C_Season C):=rT T mg_Season
 have G_l_height:Fc P w K mg base 1 "_law_height" ["_law_cell"] aHE:=lC T
 have G_l_mixed:Fc P w K mg base 1 "_law_mixed" ["_law_script","_law_k"] (aFK K):=kZ T
 have G_l_days:Fc P w K mg base 9 "_law_days" ["_law_season","_law_fields_here","_law_dykes_here","_law_decrees_here","_law_levels","_law_before"] (aEH K C_Season C):=aFU T mg_Season
 have G_l_tells:Fc P w K mg base 2 "_law_tells" ["_law_season","_law_due","_law_number","_law_soaked"] (uG C_Season C):=vP T mg_Season
 have G_l_raised:Fc P w K mg base 2 "_law_raised" ["_law_dykes_here","_law_script"] (aHC K):=aBK T
 refine F.ok dZ lM (fun cdv A outer s H vs Q E hr h=>?_)
 obtain ⟨x,rfl,a,ns,rfl,hS,hns,q⟩:=h
 have big:=bY
 have big2:(4000:Nat) ≤ sizeLine:=by decide
 have hu:=jP hr
 have scr:Scr K H (.ref a):=⟨a,ns,rfl,hS,hns⟩
 refine ⟨_,(aG (@aY _ _ (1) _ _ _ _ dZ.nd rfl (Or.inl rfl) (@bN _ _ _ _ _ _ _ _ _ _ G_l_fields (hr.mono (by decide)) (aA (pv 0) (@aA _ _ _ _ _ aD aE (by rfl))) (by rfl) (by decide) (by rfl) (by rfl)) (by rfl) (by trivial)) (aG (@aY _ _ (2) _ _ _ _ dZ.nd rfl (Or.inl rfl) (@bN _ _ _ _ _ _ _ _ _ _ G_l_dykes (hr.mono (by decide)) (aA (pv 0) (aA aD (aA aD (aA (pv 1) aE)))) (by rfl) (by decide) (by rfl) (by rfl)) (by rfl) (by trivial)) (aG (@aY _ _ (3) _ _ _ _ dZ.nd rfl (Or.inl rfl) (@bN _ _ _ _ _ _ _ _ _ _ G_l_decrees (hr.mono (by decide)) (aA (pv 0) (aA aD (aA aD (aA (pv 1) (aA (pv 2) aE))))) (by rfl) (by decide) (by rfl) (by rfl)) (by rfl) (by trivial)) (aG (@nH _ (4) _ _ _ _ _ _ _ _ _ _ _ _ _ dZ.nd rfl ["_law_k","_law_script"] 1 [0] rfl (@gJ _ _ _ _ _ _ rfl T.n_range (aA (@aZ _ _ _ _ _ _ _ _ _ (@mV _ rfl) rfl T.n_max kF (aA aD (aA (@aZ _ _ _ _ _ _ _ _ _ (@mU _ rfl) rfl T.n_min mX (aA aD (aA (@aR _ _ _ _ _ _ _ _ lJ (@aZ _ _ _ _ _ _ _ _ _ (@bU _ (K) rfl) rfl T.n_len cT (aA (pv 0) aE) (by decide) (by decide) (by rfl) (by rfl)) aD) aE)) (by decide) (by decide) (by rfl) (by rfl)) aE)) (by decide) (by decide) (by rfl) (by rfl)) aE) (by rfl)) (fun R=>@aN _ _ (0) _ (show List.Nodup (["_law_k","_law_script"]:List Str) by decide +kernel) rfl (Or.inl rfl) (by trivial)) (@bG _ _ (by decide)) (fun R=>cN) (fun R=>(@bN _ _ _ _ _ _ _ _ _ _ G_l_height (hr.mono (by decide)) (aA (@aR _ _ _ _ _ _ _ _ bR (@bN _ _ _ _ _ _ _ _ _ _ G_l_mixed (hr.mono (by decide)) (aA (pv 1) (aA (@aR _ _ _ _ _ _ _ _ eE aD (pv 0)) aE)) (by rfl) (by decide) (by rfl) (by rfl)) (@aR _ _ _ _ _ _ _ _ eD aD aD)) aE) (by rfl) (by decide) (by rfl) (by rfl))) (by exact Or.inl rfl) (by trivial) (by rfl) (by rfl) (by rfl) (by rfl) (by rfl) (by rfl) (by rfl) (by rfl) (by intro _;rfl)) (aG (@aY _ _ (5) _ _ _ _ dZ.nd rfl (Or.inl rfl) (@aR _ _ _ _ _ _ _ _ cG (@bN _ _ _ _ _ _ _ _ _ _ G_l_mixed (hr.mono (by decide)) (aA (pv 0) (@aA _ _ _ _ _ aD aE (by rfl))) (by rfl) (by decide) (by rfl) (by rfl)) (@aR _ _ _ _ _ _ _ _ eE (@aZ _ _ _ _ _ _ _ _ _ (@bU _ (K) rfl) rfl T.n_len cT (aA (pv 4) aE) (by decide) (by decide) (by rfl) (by rfl)) aD)) (by rfl) (by trivial)) (aG (@aY _ _ (6) _ _ _ _ dZ.nd rfl (Or.inl rfl) (@aEP _ _ _ _ _ _ _ _ _ _ _ T.mg_Land G_land_pinit (hr.mono (by decide)) (aA (pv 1) (aA (pv 2) aE)) (by rfl) (by decide) (by rfl) (by rfl)) (by rfl) (by trivial)) (aG (@aY _ _ (7) _ _ _ _ dZ.nd rfl (Or.inl rfl) (@aEP _ _ _ _ _ _ _ _ _ _ _ mg_Season G_season_pinit (hr.mono (by decide)) (aA (pv 6) (aA (pv 3) aE)) (by rfl) (by decide) (by rfl) (by rfl)) (by rfl) (by trivial)) (aG (@aY _ _ (8) _ _ _ _ dZ.nd rfl (Or.inl rfl) (@cE _ _ _ _ _ _ _ _ _ (@cZ _ rfl) rfl T.n_dict eX (aA (@cQ _ _ _ _ _ _ _ _ _ _ _ ["_law_field"] 1 [] rfl (@bJ _ (K) _ _ _ rfl (@bK _ _ _ _ (pv 1))) (fun R=>@aN _ _ (0) _ (show List.Nodup (["_law_field"]:List Str) by decide +kernel) rfl (Or.inl rfl) (by trivial)) (@bG _ _ (by decide)) (fun R=>cN) (fun R=>(@cU _ _ _ _ _ (aA (@aU _ _ _ _ _ _ _ (@aM _ (K) rfl) (pv 0) aD (fun _ _=>rfl)) (@aA _ _ _ _ _ aD aE (by rfl))))) (by rfl) (by rfl) (by rfl) (by rfl) (by rfl) (by rfl) (by rfl) (by intro _;rfl)) aE) (by decide) (by decide) (by rfl) (by rfl)) (by rfl) (by trivial)) (aG (@aY _ _ (9) _ _ _ _ dZ.nd rfl (Or.inl rfl) (@bN _ _ _ _ _ _ _ _ _ _ G_l_days (hr.mono (by decide)) (@aA _ _ _ _ _ (pv 7) (@aA _ _ _ _ _ (pv 1) (@aA _ _ _ _ _ (pv 2) (@aA _ _ _ _ _ (pv 3) (@aA _ _ _ _ _ (@fS _ _ _ _ _ _ _ _ _ _ (@jH _ (K) rfl) (pv 4) hV (@hU _ _ _ (pv 5))) (@aA _ _ _ _ _ (@cK _ _ _ _ (aA (@cK _ _ _ _ aE) (aA (@cK _ _ _ _ aE) (aA aD (@aA _ _ _ _ _ (pv 8) aE (by rfl)))))) aE (by rfl)) (by rfl)) (by rfl)) (by rfl)) (by rfl)) (by rfl)) (by rfl) (by decide) (by rfl) (by rfl)) (by rfl) (by trivial)) (aG (@cD _ _ _ _ _ _ _ _ (@bH _ _ _ _ _ _ _ _ zD (pv 9) jT (@bF _ _ (by decide) (by decide))) (aI (@aT _ _ _ _ iC)) bE) (aG (@aHW _ _ _ _ _ _ (@bN _ _ _ _ _ _ _ _ _ _ G_l_raised (hr.mono (by decide)) (aA (pv 2) (aA (pv 0) aE)) (by rfl) (by decide) (by rfl) (by rfl)) (aEO rfl (@bD _ _ _ _ _ (@aN _ _ (10) _ dZ.nd rfl (Or.inl rfl) (by trivial)) (@bD _ _ _ _ _ (@aN _ _ (11) _ dZ.nd rfl (Or.inl rfl) (by trivial)) iQ (by rfl)) (by rfl))) (by rfl) (by rfl) (by rfl)) (aG (@aY _ _ (12) _ _ _ _ dZ.nd rfl (Or.inl rfl) (@aCX _ _ _ _ _ _ _ _ _ _ _ _ _ _ cl_Season G_season_p_onto (hr.mono (by decide)) (pv 7) (aA (@aCX _ _ _ _ _ _ _ _ _ _ _ _ _ _ T.cl_Land G_land_p_raised (hr.mono (by decide)) (pv 6) (aA (pv 10) aE) (by rfl) (by rfl) (by rfl)) aE) (by rfl) (by rfl) (by rfl)) (by rfl) (by trivial)) (aG (@cD _ _ _ _ _ _ _ _ (@dE _ _ _ _ (@cJ _ _ _ (@bN _ _ _ _ _ _ _ _ _ _ G_l_tells (hr.mono (by decide)) (aA (pv 12) (aA (@fS _ _ _ _ _ _ _ _ _ _ (@jH _ (K) rfl) (pv 9) hV (@hU _ _ _ aD)) (aA (@aU _ _ _ _ _ _ _ (@bO _ (K) rfl) (pv 9) aD (fun _ _=>rfl)) (aA (@aU _ _ _ _ _ _ _ (@bO _ (K) rfl) (pv 9) aD (fun _ _=>rfl)) aE)))) (by rfl) (by decide) (by rfl) (by rfl)) (by intro _;rfl))) (aI (@aT _ _ _ _ iC)) bE) (aG (@aY _ _ (13) _ _ _ _ dZ.nd rfl (Or.inl rfl) (@bN _ _ _ _ _ _ _ _ _ _ G_l_days (hr.mono (by decide)) (@aA _ _ _ _ _ (pv 12) (@aA _ _ _ _ _ (pv 1) (@aA _ _ _ _ _ (pv 11) (@aA _ _ _ _ _ (pv 3) (@aA _ _ _ _ _ (@fS _ _ _ _ _ _ _ _ _ _ (@jH _ (K) rfl) (pv 4) (@hU _ _ _ (pv 5)) hV) (@aA _ _ _ _ _ (pv 9) aE (by rfl)) (by rfl)) (by rfl)) (by rfl)) (by rfl)) (by rfl)) (by rfl) (by decide) (by rfl) (by rfl)) (by rfl) (by trivial)) (aG (@cD _ _ _ _ _ _ _ _ (@PW.pt _ _ _ (@jZ _ _ _ _ _ _ _ (@bH _ _ _ _ _ _ _ _ zD (pv 13) jT (@bF _ _ (by decide) (by decide))) (@jS _ _ _ _ (@dE _ _ _ _ (@cJ _ _ _ (@bN _ _ _ _ _ _ _ _ _ _ G_l_tells (hr.mono (by decide)) (aA (pv 7) (aA (@fS _ _ _ _ _ _ _ _ _ _ (@jH _ (K) rfl) (pv 9) hV (@hU _ _ _ aD)) (aA (@aU _ _ _ _ _ _ _ (@bO _ (K) rfl) (pv 9) aD (fun _ _=>rfl)) (aA (@aU _ _ _ _ _ _ _ (@bO _ (K) rfl) (pv 9) aD (fun _ _=>rfl)) aE)))) (by rfl) (by decide) (by rfl) (by rfl)) (by intro _;rfl)))))) (aI (@aT _ _ _ _ iC)) bE) (aG (@aY _ _ (14) _ _ _ _ dZ.nd rfl (Or.inl rfl) (@aCX _ _ _ _ _ _ _ _ _ _ _ _ _ _ cl_Season G_season_p_onto (hr.mono (by decide)) (pv 12) (aA (pv 6) aE) (by rfl) (by rfl) (by rfl)) (by rfl) (by trivial)) (aG (@cD _ _ _ _ _ _ _ _ (@dE _ _ _ _ (@cJ _ _ _ (@bN _ _ _ _ _ _ _ _ _ _ G_l_tells (hr.mono (by decide)) (aA (pv 14) (aA (@fS _ _ _ _ _ _ _ _ _ _ (@jH _ (K) rfl) (pv 13) hV (@hU _ _ _ aD)) (aA (@aU _ _ _ _ _ _ _ (@bO _ (K) rfl) (pv 13) aD (fun _ _=>rfl)) (aA (@aU _ _ _ _ _ _ _ (@bO _ (K) rfl) (pv 13) aD (fun _ _=>rfl)) aE)))) (by rfl) (by decide) (by rfl) (by rfl)) (by intro _;rfl))) (aI (@aT _ _ _ _ iC)) bE) (aG (@cD _ _ _ _ _ _ _ _ (@bH _ _ _ _ _ _ _ _ zD (@bN _ _ _ _ _ _ _ _ _ _ G_l_days (hr.mono (by decide)) (@aA _ _ _ _ _ (pv 14) (@aA _ _ _ _ _ (pv 1) (@aA _ _ _ _ _ (pv 2) (@aA _ _ _ _ _ (pv 3) (@aA _ _ _ _ _ (@fS _ _ _ _ _ _ _ _ _ _ (@jH _ (K) rfl) (pv 4) hV (@hU _ _ _ aD)) (@aA _ _ _ _ _ (pv 13) aE (by rfl)) (by rfl)) (by rfl)) (by rfl)) (by rfl)) (by rfl)) (by rfl) (by decide) (by rfl) (by rfl)) jT (@bF _ _ (by decide) (by decide))) (aI (@aT _ _ _ _ iC)) bE) (aG (@cD _ _ _ _ _ _ _ _ (@dE _ _ _ _ (@cJ _ _ _ (@bN _ _ _ _ _ _ _ _ _ _ G_l_tells (hr.mono (by decide)) (aA (pv 12) (aA (@fS _ _ _ _ _ _ _ _ _ _ (@jH _ (K) rfl) (pv 13) hV (@hU _ _ _ aD)) (aA (@aU _ _ _ _ _ _ _ (@bO _ (K) rfl) (pv 13) aD (fun _ _=>rfl)) (aA (@aU _ _ _ _ _ _ _ (@bO _ (K) rfl) (pv 13) aD (fun _ _=>rfl)) aE)))) (by rfl) (by decide) (by rfl) (by rfl)) (by intro _;rfl))) (aI (@aT _ _ _ _ iC)) bE) (aI (@aT _ _ _ _ (@cB _ _ _ _ _ _ _ _ pP (@bN _ _ _ _ _ _ _ _ _ _ G_l_days (hr.mono (by decide)) (@aA _ _ _ _ _ (pv 7) (@aA _ _ _ _ _ (pv 1) (@aA _ _ _ _ _ (pv 2) (@aA _ _ _ _ _ (pv 3) (@aA _ _ _ _ _ (@fS _ _ _ _ _ _ _ _ _ _ (@jH _ (K) rfl) (pv 4) (@hU _ _ _ (pv 5)) hV) (@aA _ _ _ _ _ (pv 9) aE (by rfl)) (by rfl)) (by rfl)) (by rfl)) (by rfl)) (by rfl)) (by rfl) (by decide) (by rfl) (by rfl)) jT (@bF _ _ (by decide) (by decide)))))))))))))))))))))))),?_⟩
 refine uP fun u1 hu1=>?_
 refine ⟨_,rfl,_,_,rfl,6,scr,rfl,by decide,by decide,fun lf vf fs H1 S1 nlf hf0 hif0 gf=>?_⟩
 refine ⟨_,rfl,_,rfl,_,_,_,_,rfl,8,10,lf,vf,fs,6,scr.same S1,rfl,by decide,rfl,by decide,by decide,rfl,hf0,hif0,gf,by decide,fun ld vd ds H2 S2 nld hd0 hid0 gd=>?_⟩
 have okf:=aGD gf (by decide)
 have okd:=aJB gd (by decide)
 have GF:=(pT _).mp okf
 have GD:=(kE _ _).mp okd
 have f1:=gf.l1
 have f2:=gf.l2
 have d1:=gd.l1
 have d2:=gd.l2
 have smf:dY (.lst fs) = true:=mM (fun d m=>sS (gf.all d m)) (by omega)
 have smd:dY (.lst ds) = true:=mM (fun d m=>wC gf.all (gd.all d m)) (by omega)
 have T2:=S1.trans S2
 have hf2:=S2 _ _ hf0
 have hif2:=IsL.same S2 _ _ hif0
 refine ⟨_,rfl,_,rfl,_,rfl,_,_,_,_,_,rfl,9,8,lf,ld,vf,vd,fs,ds,scr.same T2,rfl,by decide,rfl,by decide,rfl,hf2,hif2,GF,rfl,hd0,hid0,GD,fun lx xs H3 S3 nlx dc lx8=>?_⟩
 have T3:=T2.trans S3
 have hf3:=S3 _ _ hf2
 have hif3:=IsL.same S3 _ _ hif2
 have hd3:=S3 _ _ hd0
 have hid3:=IsL.same S3 _ _ hid0
 refine hu1 _ _ _ ?_
 refine kI fun u2 hu2=>?_
 refine ⟨_,rfl,a,_,rfl,.inl (T3.seq hS),_,_,rfl,rfl,_,_,rfl,_,_,rfl,?_⟩
 obtain ⟨cnt,hcnt,c1,c2⟩:∃ cnt:Nat,(if (if (((ns.map V.int).length:Nat):Int) - 8 < 20 then (((ns.map V.int).length:Nat):Int) - 8 else 20) > 1 then (if (((ns.map V.int).length:Nat):Int) - 8 < 20 then (((ns.map V.int).length:Nat):Int) - 8 else 20) else 1) = (cnt:Int) ∧ 1 ≤ cnt ∧ cnt ≤ 20:=by
  generalize (((ns.map V.int).length:Nat):Int) - 8 = w
  by_cases h1:w < 20
  ·rw [if_pos h1]
   by_cases h2:w > 1
   ·rw [if_pos h2]
    exact ⟨w.toNat,by omega,by omega,by omega⟩
   ·rw [if_neg h2]
    exact ⟨1,rfl,by omega,by omega⟩
  ·rw [if_neg h1]
   exact ⟨20,rfl,by omega,by omega⟩
 refine ⟨(cnt:Int),congrArg (fun x=>[V.int x]) hcnt,by omega,by omega,?_⟩
 rw [Int.toNat_natCast]
 refine wO (lo:=0) (n:=cnt) (by omega) (fun i ys H'=>H3 = H' ∧ ∃ ls:List Int,ys = ls.map V.int ∧ ls.length = i ∧ ∀ l ∈ ls,hgt l = true) ⟨rfl,[],rfl,rfl,fun l m=>by cases m⟩ ?_ ?_ ?_
 ·rintro i ys H' ⟨rfl,ls,rfl,e,_⟩
  rw [List.length_map]
  omega
 ·rintro i ys H' K1 K2 hi ⟨rfl,ls,rfl,e,hls⟩ k1 k2
  refine ⟨_,rfl,_,rfl,_,_,rfl,rfl,_,_,rfl,_,scr.same T3,rfl,by show 0 ≤ 8 + (0 + (i:Int));omega,fun m1 hm1=>?_⟩
  refine ⟨_,_,rfl,rfl,⟨by decide,by decide,by decide⟩,_,_,rfl,rfl,⟨by decide,by decide⟩,_,rfl,_,rfl,fun lv hlv=>?_⟩
  refine k1 _ _ ⟨rfl,ls ++ [lv],by rw [List.map_append];rfl,by rw [List.length_append,e];rfl,fun l m=>?_⟩
  rcases List.mem_append.mp m with m | m
  ·exact hls l m
  ·cases List.mem_singleton.mp m
   exact hlv
 rintro ys H' ⟨rfl,ls0,rfl,e0,hls0⟩
 intro l0 hl0
 have S4:=aK.upd (o:=.lst (ls0.map V.int)) hl0
 have hl04:upd H3 l0 (.lst (ls0.map V.int)) l0 = some (.lst (ls0.map V.int)):=aB
 generalize upd H3 l0 (.lst (ls0.map V.int)) = G4 at S4 hl04 ⊢
 have T4:=T3.trans S4
 refine ⟨_,rfl,_,_,rfl,7,scr.same T4,rfl,by decide,fun m7 hm7=>?_⟩
 have pl1:(0:Int) < (((ls0.map V.int).length:Nat):Int) + 1:=by omega
 obtain ⟨ct,hct⟩:=Int.eq_ofNat_of_zero_le (Int.emod_nonneg m7 (show (((ls0.map V.int).length:Nat):Int) + 1 ≠ 0 by omega))
 refine ⟨_,rfl,l0,_,rfl,.inl (SqL.of hl04),_,_,rfl,rfl,_,_,rfl,rfl,pl1,?_⟩
 show qA 5 (V.int (m7 % ((((ls0.map V.int).length:Nat):Int) + 1))) _ _ _
 rw [hct]
 refine gσ (σ':=[some (.ref a),some (.ref lf),some (.ref ld),some (.ref lx),some (.ref l0),some (.int (ct:Int)),none,none,none,none,none,none,none,none,none]) rfl ?_
 refine hu2 _ _ _ ?_
 refine uP fun u3 hu3=>?_
 have hf4:=S4 _ _ hf3
 have hif4:=IsL.same S4 _ _ hif3
 have hd4:=S4 _ _ hd3
 have hid4:=IsL.same S4 _ _ hid3
 have dc4:=dc.same S4
 refine ⟨_,rfl,_,rfl,fun p dx np ndx nex=>?_⟩
 have S5':aK G4 (upd (upd G4 dx (.own p)) p (.ins C dx [])):=fun b o e=>by
  rw [aP (aL e np),aP (aL e ndx)]
  exact e
 refine ⟨_,_,_,rfl,p,dx,fs,ds,rfl,aB,⟨lf,vf,rfl,S5' _ _ hf4,IsL.same S5' _ _ hif4⟩,⟨ld,vd,rfl,S5' _ _ hd4,IsL.same S5' _ _ hid4⟩,smf,smd,okf,okd,fun H5 L5 fr=>⟨rfl,?_⟩⟩
 refine gσ (σ':=[some (.ref a),some (.ref lf),some (.ref ld),some (.ref lx),some (.ref l0),some (.int (ct:Int)),some (.ref p),none,none,none,none,none,none,none,none]) rfl ?_
 have S5:aK G4 H5:=fun b o e=>fr b o (S5' _ _ e) (aL e np)
 have T5:=T4.trans S5
 have dc5:=dc4.same S5
 obtain ⟨ux,hlx5,ilx5⟩:=dc5.ex
 refine ⟨_,rfl,_,rfl,fun ps dxs nps ndxs nexs=>?_⟩
 have S6':aK H5 (upd (upd H5 dxs (.own ps)) ps (.ins C_Season dxs [])):=fun b o e=>by
  rw [aP (aL e nps),aP (aL e ndxs)]
  exact e
 refine ⟨_,_,_,rfl,ps,dxs,p,lx,fs,ds,xs,rfl,aB,rfl,L5.same S6',rfl,dc5.same S6',by omega,fun dw H6 SA6' ndw' X6=>⟨rfl,?_⟩⟩
 refine gσ (σ':=[some (.ref a),some (.ref lf),some (.ref ld),some (.ref lx),some (.ref l0),some (.int (ct:Int)),some (.ref p),some (.ref ps),none,none,none,none,none,none,none]) rfl ?_
 have S6:aK H5 H6:=fun b o e=>X6 b o (S6' _ _ e) (aL e nps)
 have SA6:=SA6'.same vS
 have ndw:H5 dw = none:=S6'.free ndw'
 have nHps:H ps = none:=T5.free nps
 have nHdw:H dw = none:=T5.free ndw
 have T6:=T5.trans S6
 have S46:=S5.trans S6
 have hf6:=S46 _ _ hf4
 have hif6:=IsL.same S46 _ _ hif4
 have hd6:=S46 _ _ hd4
 have hid6:=IsL.same S46 _ _ hid4
 have hx6:=S6 _ _ hlx5
 have hix6:=IsL.same S6 _ _ ilx5
 have hl6:=S46 _ _ hl04
 have hcd:∀ z ∈ xs,sW z.2.2 ∧ z.2.2.length ≤ 6:=fun z m=>⟨(dc.cd z m).1,(dc.cd z m).2.1⟩
 have nfd:xC fs = true:=jE fun d m=>sD (gf.all d m)
 have ndd:xC ds = true:=jE fun d m=>wD (gd.all d m)
 have nxd:xC (xs.map dkD) = true:=jE fun d m=>by obtain ⟨x,_,rfl⟩:=List.mem_map.mp m;exact zS x
 have lcn:(bQ (fs.map aJ) (fun _=>0)).length = fs.length:=by unfold bQ;rw [List.length_map,List.length_map]
 have lvf:=hif6.length
 refine ⟨_,rfl,lf,rfl,⟨_,SqL.of hf6⟩,?_⟩
 refine bV (F:=K) (xs:=vf) (by omega) (fun i ys H'=>aK H6 H' ∧ cC H' ys ((bQ (fs.map aJ) (fun _=>0)).take i)) ⟨aK.refl _,cC.nil _⟩ ?_ ?_ ?_
 ·rintro i ys H' hi' ⟨S,pr⟩
  exact ⟨SqL.of (S _ _ hf6),by have:=pr.len;rw [List.length_take] at this;omega⟩
 ·rintro i xv ys H' K1 K2 hxi ⟨S,pr⟩ k1 k2
  have hil:i < vf.length:=(List.getElem?_eq_some_iff.mp hxi).1
  obtain ⟨d,ed⟩:∃ d,fs[i]? = some d:=⟨_,List.getElem?_eq_getElem (by omega)⟩
  obtain ⟨v,ev,iv⟩:=(IsL.same S _ _ hif6).get ed
  rw [hxi] at ev
  cases ev
  have md:=List.mem_of_getElem? ed
  obtain ⟨z,g,e,rfl,hz,_⟩:=bP (gf.all d md)
  obtain ⟨tr,rfl,o⟩:=gM iv
  refine ⟨_,rfl,tr,_,0,.str z,rfl,rfl,SqT.of o,aH (j:=0) rfl,aQ rfl,fun t ht=>k1 _ _ ⟨S.trans (aK.upd ht),?_⟩⟩
  have e:(bQ (fs.map aJ) (fun _=>0))[i]? = some (Sum.inr z,.int 0):=by
   unfold bQ
   rw [List.getElem?_map,List.getElem?_map,ed]
   rfl
  rw [List.take_add_one,e]
  exact pr.snoc (k:=Sum.inr z) ht
 rintro ys7 G7 ⟨S7,pr⟩
 rw [List.take_of_length_le (by rw [lcn];omega)] at pr
 intro p4 hp4
 have A4:=aK.upd (o:=.lst ys7) hp4
 refine ⟨p4,ys7,bQ (fs.map aJ) (fun _=>0),rfl,SqL.of aB,pr.same A4,by rw [lcn];omega,?_,fun sd hsd=>?_⟩
 ·have e:(bQ (fs.map aJ) (fun _=>0)).map (·.1) = (fs.map aJ).map (Sum.inr:Str → Key):=by unfold bQ;rw [List.map_map];rfl
  rw [e,mL]
  exact GF.nd
 have A5:=aK.upd (o:=.dK (bQ (fs.map aJ) (fun _=>0))) hsd
 have S8:=S7.trans (A4.trans A5)
 have ks8:upd (upd G7 p4 (.lst ys7)) sd (.dK (bQ (fs.map aJ) (fun _=>0))) sd = some (.dK (bQ (fs.map aJ) (fun _=>0))):=aB
 generalize upd (upd G7 p4 (.lst ys7)) sd (.dK (bQ (fs.map aJ) (fun _=>0))) = G8 at S8 ks8 ⊢
 refine gσ (σ':=[some (.ref a),some (.ref lf),some (.ref ld),some (.ref lx),some (.ref l0),some (.int (ct:Int)),some (.ref p),some (.ref ps),some (.ref sd),none,none,none,none,none,none]) rfl ?_
 refine hu3 _ _ _ ?_
 refine kI fun u4 hu4=>?_
 refine ⟨_,rfl,_,rfl,_,rfl,_,rfl,_,rfl,_,rfl,_,rfl,l0,_,rfl,SqL.of (S8 _ _ hl6),fun l1 hl1=>?_⟩
 rw [yC,← List.map_take]
 have A6:=aK.upd (o:=.lst ((ls0.take ct).map V.int)) hl1
 refine ⟨aQ rfl,fun lo hlo=>?_⟩
 have A7:=aK.upd (o:=.lst []) hlo
 refine ⟨aQ rfl,fun lw hlw=>?_⟩
 have A8:=aK.upd (o:=.lst []) hlw
 refine ⟨_,rfl,aQ rfl,fun lb hlb=>?_⟩
 have A9:=aK.upd (o:=.lst [.ref lo,.ref lw,.int 0,.ref sd]) hlb
 have kl1:=(A7.trans (A8.trans A9)) _ _ (aB (H:=G8) (a:=l1) (o:=.lst ((ls0.take ct).map V.int)))
 have klo:=(A8.trans A9) _ _ (aB (H:=upd G8 l1 (.lst ((ls0.take ct).map V.int))) (a:=lo) (o:=.lst []))
 have klw:=A9 _ _ (aB (H:=upd (upd G8 l1 (.lst ((ls0.take ct).map V.int))) lo (.lst [])) (a:=lw) (o:=.lst []))
 have klb:upd (upd (upd (upd G8 l1 (.lst ((ls0.take ct).map V.int))) lo (.lst [])) lw (.lst [])) lb (.lst [.ref lo,.ref lw,.int 0,.ref sd]) lb = some (.lst [.ref lo,.ref lw,.int 0,.ref sd]):=aB
 have S9:=S8.trans (A6.trans (A7.trans (A8.trans A9)))
 have ks9:=(A6.trans (A7.trans (A8.trans A9))) _ _ ks8
 generalize upd (upd (upd (upd G8 l1 (.lst ((ls0.take ct).map V.int))) lo (.lst [])) lw (.lst [])) lb (.lst [.ref lo,.ref lw,.int 0,.ref sd]) = G9 at kl1 klo klw klb S9 ks9 ⊢
 have SA9:=SA6.same S9
 have oof:lR C_Season C G9 ps dw p fs ds xs ⟨[],[],0,fun _=>0⟩:=SA9
 have hf9:=S9 _ _ hf6
 have hif9:=IsL.same S9 _ _ hif6
 have hd9:=S9 _ _ hd6
 have hid9:=IsL.same S9 _ _ hid6
 have hx9:=S9 _ _ hx6
 have hix9:=IsL.same S9 _ _ hix6
 have hl9:=S9 _ _ hl6
 refine ⟨_,_,_,_,_,_,rfl,ps,dw,p,lf,ld,lx,l1,lb,lo,lw,sd,vf,vd,ux,fs,ds,xs,⟨[],[],0,fun _=>0⟩,ls0.take ct,rfl,oof,rfl,hf9,hif9,rfl,hd9,hid9,rfl,hx9,hix9,hcd,rfl,kl1,(fun l m=>hls0 l (List.mem_of_mem_take m)),rfl,klb,klo,klw,by decide,ks9,fun lr1 lo1 lw1 sd1 G10 Y10 SA10 hlr1 hlo1 hlw1 wt1 nsd1 hsd1=>?_⟩
 refine gσ (σ':=[some (.ref a),some (.ref lf),some (.ref ld),some (.ref lx),some (.ref l0),some (.int (ct:Int)),some (.ref p),some (.ref ps),some (.ref sd),some (.ref lr1),none,none,none,none,none]) rfl ?_
 have S6G:aK H G9:=T6.trans S9
 have YH:aK H G10:=fun b o e=>Y10 b o (S6G _ _ e) (fun z=>by rw [z,nHps] at e;cases e) (fun z=>by rw [z,nHdw] at e;cases e)
 have LT10:=SeaAt.ylt SA9 Y10
 generalize sgo fs ds xs ⟨[],[],0,fun _=>0⟩ (ls0.take ct) = s1 at *
 refine ⟨_,rfl,rfl,_,rfl,?_⟩
 rw [decide_eq_false (show ¬ (V.ref lr1 = V.non) from fun z=>by cases z)]
 refine bC ?_
 have hf10:=LT10 _ _ hf9 rfl
 have hif10:=IsL.sameLT LT10 _ _ nfd hif9
 have hd10:=LT10 _ _ hd9 rfl
 have hid10:=IsL.sameLT LT10 _ _ ndd hid9
 have hx10:=LT10 _ _ hx9 rfl
 have hix10:=IsL.sameLT LT10 _ _ nxd hix9
 have hl10:=LT10 _ _ hl9 rfl
 refine hu4 _ _ _ ?_
 refine uP fun u5 hu5=>?_
 refine ⟨_,rfl,_,rfl,_,_,rfl,ld,vd,ds,_,rfl,hd10,hid10,GD,scr.same YH,fun lrr lwk lrd ws uw ur G11 S11 hlrr hlwk iwk gw lws hlrd ird=>?_⟩
 refine ⟨lrr,_,rfl,SqL.of hlrr,rfl,_,_,rfl,_,_,rfl,rfl,?_⟩
 refine nxσ (σ':=[some (.ref a),some (.ref lf),some (.ref ld),some (.ref lx),some (.ref l0),some (.int (ct:Int)),some (.ref p),some (.ref ps),some (.ref sd),some (.ref lr1),some (.ref lwk),some (.ref lrd),none,none,none]) rfl ?_
 have SA11:lR C_Season C G11 ps dw p fs ds xs s1:=SeaAt.same S11 SA10
 obtain ⟨dxp,Fp,_,_,_,hps,sfp,_⟩:=SA11.ex
 have L11:=SA11.land
 obtain ⟨dxl,e1,e2,hxl,_⟩:=L11.ex
 refine ⟨_,rfl,ps,dxp,Fp,rfl,hps,sfp.no _ (by decide +kernel),_,rfl,p,dxl,_,rfl,hxl,eF _ _ (by decide +kernel) (by decide +kernel),_,rfl,_,_,rfl,p,fs,ds,ws,rfl,L11,⟨lwk,uw,rfl,hlwk,iwk⟩,by omega,gw,fun p' G12 S12 np' L12=>?_⟩
 refine ⟨_,_,rfl,ps,dw,p,p',fs,ds,dB ds ws,xs,s1.op,s1.wt,s1.n,s1.cnt,rfl,SeaAt.same S12 SA11,rfl,L12,sO GD,fun p2 dw2 G13 S13 np2 ndw2 SB13=>?_⟩
 refine gσ (σ':=[some (.ref a),some (.ref lf),some (.ref ld),some (.ref lx),some (.ref l0),some (.int (ct:Int)),some (.ref p),some (.ref ps),some (.ref sd),some (.ref lr1),some (.ref lwk),some (.ref lrd),some (.ref p2),none,none]) rfl ?_
 have SB13:lR C_Season C G13 p2 dw2 p' fs (dB ds ws) xs s1:=SB13
 have S03:=S11.trans (S12.trans S13)
 have S02:=S11.trans S12
 have hlr13:=S03 _ _ hlr1
 have hlo13:=S03 _ _ hlo1
 have hlw13:=S03 _ _ hlw1
 have hsd13:=S03 _ _ hsd1
 have SA13:lR C_Season C G13 ps dw p fs ds xs s1:=SeaAt.same S03 SA10
 obtain ⟨dxq,Fq,_,_,_,hpsq,_⟩:=SA10.ex
 have n12:ps ≠ p2:=aL (S02 _ _ hpsq) np2
 have d12:dw ≠ dw2:=aL (S02 _ _ SA10.dwt) ndw2
 have sw12:sd1 ≠ dw2:=aL (S02 _ _ hsd1) ndw2
 refine ⟨_,rfl,_,rfl,2,rfl,lr1,_,rfl,SqL.of hlr13,fun lt1 hlt1=>?_⟩
 rw [aFA]
 have At1:=aK.upd (o:=.lst [.ref lo1,.ref lw1]) hlt1
 refine ⟨_,rfl,lr1,_,2,.int s1.n,rfl,rfl,SqL.of (At1 _ _ hlr13),aH (j:=2) rfl,_,rfl,lr1,_,3,.ref sd1,rfl,rfl,SqL.of (At1 _ _ hlr13),aH (j:=3) rfl,?_⟩
 refine ⟨_,_,_,_,rfl,p2,dw2,p',lt1,lo1,lw1,sd1,fs,(dB ds ws),xs,s1.op,s1.wt,s1.n,s1.cnt,rfl,SeaAt.same At1 SB13,rfl,aB,At1 _ _ hlo13,At1 _ _ hlw13,wt1,rfl,rfl,At1 _ _ hsd13,fun G14 S14'=>⟨_,rfl,bC ?_⟩⟩
 have S14:=At1.trans S14'
 refine hu5 _ _ _ ?_
 refine kI fun u6 hu6=>?_
 have S04:=S03.trans S14
 have SB14:lR C_Season C G14 p2 dw2 p' fs (dB ds ws) xs s1:=SeaAt.same S14 SB13
 have hrd14:=(S12.trans (S13.trans S14)) _ _ hlrd
 have ird14:=IsL.same (S12.trans (S13.trans S14)) _ _ ird
 refine ⟨_,rfl,_,rfl,_,rfl,_,rfl,_,rfl,_,rfl,_,rfl,l0,_,rfl,SqL.of (S04 _ _ hl10),fun l2 hl2=>?_⟩
 rw [aCB,← List.map_drop]
 have Al2:=aK.upd (o:=.lst ((ls0.drop ct).map V.int)) hl2
 have S05:=S04.trans Al2
 have kl2:upd G14 l2 (.lst ((ls0.drop ct).map V.int)) l2 = some (.lst ((ls0.drop ct).map V.int)):=aB
 have hsd15:=Al2 _ _ (S14 _ _ hsd13)
 generalize upd G14 l2 (.lst ((ls0.drop ct).map V.int)) = G15 at Al2 S05 kl2 hsd15 ⊢
 have SB15:lR C_Season C G15 p2 dw2 p' fs (dB ds ws) xs s1:=SeaAt.same Al2 SB14
 have SA15:lR C_Season C G15 ps dw p fs ds xs s1:=SeaAt.same S05 SA10
 have hldr:∀ l ∈ ls0.drop ct,hgt l = true:=fun l m=>hls0 l (List.mem_of_mem_drop m)
 refine ⟨_,rfl,_,_,_,_,_,_,rfl,p2,dw2,p',lf,lrd,lx,l2,lr1,lo1,lw1,sd1,vf,ur,ux,fs,dB ds ws,xs,s1,ls0.drop ct,rfl,SB15,rfl,S05 _ _ hf10,IsL.same S05 _ _ hif10,rfl,Al2 _ _ hrd14,IsL.same Al2 _ _ ird14,rfl,S05 _ _ hx10,IsL.same S05 _ _ hix10,hcd,rfl,kl2,hldr,rfl,S05 _ _ hlr1,S05 _ _ hlo1,S05 _ _ hlw1,wt1,hsd15,fun lr2 lo2 lw2 sd2 G16 Y16 SB16 hlr2 hlo2 hlw2 wt2 nsd2 hsd2=>?_⟩
 refine gσ (σ':=[some (.ref a),some (.ref lf),some (.ref ld),some (.ref lx),some (.ref l0),some (.int (ct:Int)),some (.ref p),some (.ref ps),some (.ref sd),some (.ref lr1),some (.ref lwk),some (.ref lrd),some (.ref p2),some (.ref lr2),none]) rfl ?_
 generalize sgo fs (dB ds ws) xs s1 (ls0.drop ct) = s2 at *
 have LT16:=SeaAt.ylt SB15 Y16
 have SA16:lR C_Season C G16 ps dw p fs ds xs s1:=SeaAt.away SA15 SB15 Y16 n12 d12
 obtain ⟨dxr,Fr,_,_,_,hp2r,_⟩:=SB15.ex
 have hsd16:=Y16 _ _ hsd15 (fun z=>by rw [z,hp2r] at hsd15;cases hsd15) sw12
 have L06:gO G10 G16:=fun b o e l=>LT16 _ _ (S05 _ _ e) l
 have hlr16:=L06 _ _ hlr1 rfl
 have hlo16:=L06 _ _ hlo1 rfl
 have hlw16:=L06 _ _ hlw1 rfl
 refine ⟨_,rfl,rfl,_,rfl,?_⟩
 rw [decide_eq_false (show ¬ (V.ref lr2 = V.non) from fun z=>by cases z)]
 refine bC ?_
 refine ⟨_,rfl,_,rfl,2,rfl,lr1,_,rfl,SqL.of hlr16,fun lt2 hlt2=>?_⟩
 rw [aFA]
 have At2:=aK.upd (o:=.lst [.ref lo1,.ref lw1]) hlt2
 refine ⟨_,rfl,lr1,_,2,.int s1.n,rfl,rfl,SqL.of (At2 _ _ hlr16),aH (j:=2) rfl,_,rfl,lr1,_,3,.ref sd1,rfl,rfl,SqL.of (At2 _ _ hlr16),aH (j:=3) rfl,?_⟩
 refine ⟨_,_,_,_,rfl,ps,dw,p,lt2,lo1,lw1,sd1,fs,ds,xs,s1.op,s1.wt,s1.n,s1.cnt,rfl,SeaAt.same At2 SA16,rfl,aB,At2 _ _ hlo16,At2 _ _ hlw16,wt1,rfl,rfl,At2 _ _ hsd16,fun G17 S17'=>⟨_,rfl,bC ?_⟩⟩
 have S17:=At2.trans S17'
 refine hu6 _ _ _ ?_
 refine kI fun u7 hu7=>?_
 have SA17:lR C_Season C G17 ps dw p fs ds xs s1:=SeaAt.same S17 SA16
 have SB17:lR C_Season C G17 p2 dw2 p' fs (dB ds ws) xs s2:=SeaAt.same S17 SB16
 obtain ⟨dxb,Fb,_,_,_,hp2,sf2,_⟩:=SB17.ex
 refine ⟨_,rfl,p2,dxb,Fb,rfl,hp2,sf2.no _ (by decide +kernel),_,rfl,_,_,rfl,p2,dw2,p',p,fs,dB ds ws,ds,xs,s2.op,s2.wt,s2.n,s2.cnt,rfl,SB17,rfl,SA17.land,(sO GD).symm,fun p3 dw3 G18 S18 np3 ndw3 SC18=>?_⟩
 refine gσ (σ':=[some (.ref a),some (.ref lf),some (.ref ld),some (.ref lx),some (.ref l0),some (.int (ct:Int)),some (.ref p),some (.ref ps),some (.ref sd),some (.ref lr1),some (.ref lwk),some (.ref lrd),some (.ref p2),some (.ref lr2),some (.ref p3)]) rfl ?_
 have SC18:lR C_Season C G18 p3 dw3 p fs ds xs s2:=SC18
 have S68:=S17.trans S18
 have hlr28:=S68 _ _ hlr2
 have hlo28:=S68 _ _ hlo2
 have hlw28:=S68 _ _ hlw2
 have hsd28:=S68 _ _ hsd2
 obtain ⟨dxa,Fa,_,_,_,hpsa,_⟩:=SA17.ex
 have n13:ps ≠ p3:=aL hpsa np3
 have n23:p2 ≠ p3:=aL hp2 np3
 have d13:dw ≠ dw3:=aL SA17.dwt ndw3
 have d23:dw2 ≠ dw3:=aL SB17.dwt ndw3
 have sw13:sd1 ≠ dw3:=aL (S17 _ _ hsd16) ndw3
 have sw23:sd2 ≠ dw3:=aL (S17 _ _ hsd2) ndw3
 refine ⟨_,rfl,_,rfl,2,rfl,lr2,_,rfl,SqL.of hlr28,fun lt3 hlt3=>?_⟩
 rw [aFA]
 have At3:=aK.upd (o:=.lst [.ref lo2,.ref lw2]) hlt3
 refine ⟨_,rfl,lr2,_,2,.int s2.n,rfl,rfl,SqL.of (At3 _ _ hlr28),aH (j:=2) rfl,_,rfl,lr2,_,3,.ref sd2,rfl,rfl,SqL.of (At3 _ _ hlr28),aH (j:=3) rfl,?_⟩
 refine ⟨_,_,_,_,rfl,p3,dw3,p,lt3,lo2,lw2,sd2,fs,ds,xs,s2.op,s2.wt,s2.n,s2.cnt,rfl,SeaAt.same At3 SC18,rfl,aB,At3 _ _ hlo28,At3 _ _ hlw28,wt2,rfl,rfl,At3 _ _ hsd28,fun G19 S19'=>⟨_,rfl,bC ?_⟩⟩
 have S19:=At3.trans S19'
 refine hu7 _ _ _ ?_
 refine kI fun u8 hu8=>?_
 have S69:=S68.trans S19
 have L09:gO G10 G19:=fun b o e l=>S69 _ _ (L06 _ _ e l)
 refine ⟨_,rfl,_,rfl,_,rfl,_,rfl,_,rfl,1,rfl,l0,_,rfl,SqL.of (L09 _ _ hl10 rfl),fun l3 hl3=>?_⟩
 rw [show (some (1:Int)) = some ((1:Nat):Int) from rfl,yC,← List.map_take]
 have Al3:=aK.upd (o:=.lst ((ls0.take 1).map V.int)) hl3
 have S60:=S69.trans Al3
 have kl3:upd G19 l3 (.lst ((ls0.take 1).map V.int)) l3 = some (.lst ((ls0.take 1).map V.int)):=aB
 generalize upd G19 l3 (.lst ((ls0.take 1).map V.int)) = G20 at Al3 S60 kl3 ⊢
 have L00:gO G10 G20:=fun b o e l=>S60 _ _ (L06 _ _ e l)
 have SC20:lR C_Season C G20 p3 dw3 p fs ds xs s2:=SeaAt.same (S19.trans Al3) SC18
 have SB20:lR C_Season C G20 p2 dw2 p' fs (dB ds ws) xs s2:=SeaAt.same S60 SB16
 have SA20:lR C_Season C G20 ps dw p fs ds xs s1:=SeaAt.same S60 SA16
 refine ⟨_,rfl,_,_,_,_,_,_,rfl,p3,dw3,p,lf,ld,lx,l3,lr2,lo2,lw2,sd2,vf,vd,ux,fs,ds,xs,s2,ls0.take 1,rfl,SC20,rfl,L00 _ _ hf10 rfl,IsL.sameLT L00 _ _ nfd hif10,rfl,L00 _ _ hd10 rfl,IsL.sameLT L00 _ _ ndd hid10,rfl,L00 _ _ hx10 rfl,IsL.sameLT L00 _ _ nxd hix10,hcd,rfl,kl3,(fun l m=>hls0 l (List.mem_of_mem_take m)),rfl,S60 _ _ hlr2,S60 _ _ hlo2,S60 _ _ hlw2,wt2,S60 _ _ hsd2,fun lr3 lo3 lw3 sd3 G21 Y21 SC21 _ _ _ _ _ _=>?_⟩
 refine ⟨rfl,_,rfl,?_⟩
 rw [decide_eq_false (show ¬ (V.ref lr3 = V.non) from fun z=>by cases z)]
 refine bC ?_
 have LT21:=SeaAt.ylt SC20 Y21
 have L61:gO G16 G21:=fun b o e l=>LT21 _ _ (S60 _ _ e) l
 have L01:gO G10 G21:=fun b o e l=>L61 _ _ (L06 _ _ e l) l
 obtain ⟨dxc,Fc',_,_,_,hp3,_⟩:=SC20.ex
 have SB21:lR C_Season C G21 p2 dw2 p' fs (dB ds ws) xs s2:=SeaAt.away SB20 SC20 Y21 n23 d23
 have SA21:lR C_Season C G21 ps dw p fs ds xs s1:=SeaAt.away SA20 SC20 Y21 n13 d13
 have hsd221:=Y21 _ _ (S60 _ _ hsd2) (fun z=>by have:=S60 _ _ hsd2;rw [z,hp3] at this;cases this) sw23
 have hsd121:=Y21 _ _ (S60 _ _ hsd16) (fun z=>by have:=S60 _ _ hsd16;rw [z,hp3] at this;cases this) sw13
 have hlr221:=L61 _ _ hlr2 rfl
 have hlo221:=L61 _ _ hlo2 rfl
 have hlw221:=L61 _ _ hlw2 rfl
 refine ⟨_,rfl,_,rfl,2,rfl,lr2,_,rfl,SqL.of hlr221,fun lt4 hlt4=>?_⟩
 rw [aFA]
 have At4:=aK.upd (o:=.lst [.ref lo2,.ref lw2]) hlt4
 refine ⟨_,rfl,lr2,_,2,.int s2.n,rfl,rfl,SqL.of (At4 _ _ hlr221),aH (j:=2) rfl,_,rfl,lr2,_,3,.ref sd2,rfl,rfl,SqL.of (At4 _ _ hlr221),aH (j:=3) rfl,?_⟩
 refine ⟨_,_,_,_,rfl,p2,dw2,p',lt4,lo2,lw2,sd2,fs,(dB ds ws),xs,s2.op,s2.wt,s2.n,s2.cnt,rfl,SeaAt.same At4 SB21,rfl,aB,At4 _ _ hlo221,At4 _ _ hlw221,wt2,rfl,rfl,At4 _ _ hsd221,fun G22 S22'=>⟨_,rfl,bC ?_⟩⟩
 have S22:=At4.trans S22'
 refine hu8 _ _ _ ?_
 have L02:gO G10 G22:=fun b o e l=>S22 _ _ (L01 _ _ e l)
 refine ⟨_,rfl,_,rfl,_,rfl,_,rfl,_,rfl,_,rfl,_,rfl,l0,_,rfl,SqL.of (L02 _ _ hl10 rfl),fun l4 hl4=>?_⟩
 rw [aCB,← List.map_drop]
 have Al4:=aK.upd (o:=.lst ((ls0.drop ct).map V.int)) hl4
 have kl4:upd G22 l4 (.lst ((ls0.drop ct).map V.int)) l4 = some (.lst ((ls0.drop ct).map V.int)):=aB
 have S13':=S22.trans Al4
 generalize upd G22 l4 (.lst ((ls0.drop ct).map V.int)) = G23 at Al4 kl4 S13' ⊢
 have L03:gO G10 G23:=fun b o e l=>S13' _ _ (L01 _ _ e l)
 have SA23:lR C_Season C G23 ps dw p fs ds xs s1:=SeaAt.same S13' SA21
 refine ⟨_,rfl,_,_,_,_,_,_,rfl,ps,dw,p,lf,ld,lx,l4,lr1,lo1,lw1,sd1,vf,vd,ux,fs,ds,xs,s1,ls0.drop ct,rfl,SA23,rfl,L03 _ _ hf10 rfl,IsL.sameLT L03 _ _ nfd hif10,rfl,L03 _ _ hd10 rfl,IsL.sameLT L03 _ _ ndd hid10,rfl,L03 _ _ hx10 rfl,IsL.sameLT L03 _ _ nxd hix10,hcd,rfl,kl4,hldr,rfl,L03 _ _ hlr1 rfl,L03 _ _ hlo1 rfl,L03 _ _ hlw1 rfl,wt1,S13' _ _ hsd121,fun lr4 lo4 lw4 sd4 G24 Y24 SA24 _ _ _ _ _ _=>?_⟩
 refine ⟨rfl,?_⟩
 show Q (.bl (!decide (V.ref lr4 = V.non))) G24
 rw [decide_eq_false (show ¬ (V.ref lr4 = V.non) from fun z=>by cases z)]
 exact q _
theorem law_mk {fa:Addr} (hmg:mg "law" = some (.ref fa)) (T:Txt K mg C) :
  ∃ fd:FuncData,(∀ (s:Shared) (u:Value),BindsTo s fd ⟨[u],[]⟩ [("_law_script",u)]) ∧ ∀ base:Heap,K.In base → base.Ns mainGlobals mg → FnOk P w K mg base CX0 13 fa fd ["_law_script"] (aEA K):=by
 obtain ⟨f,fd,F,b,m⟩:=T.d_p_law.ex
 rw [hmg] at m
 cases m
 refine ⟨fd,fun s u=>?_,fun base _ _=>aMD T F⟩
 obtain ⟨oc,od,kV,doc,pm,an,cdv,ct,osl,rfl,lk,hcd⟩:=F.ex
 exact .of_eq rfl
end
theorem txt_mk {K:PySem.W.Frag} {h:Heap} {mg:Str → Option Value} (X:K.In h) (G:h.Ns mainGlobals mg)
    {C:Addr}
    {fm18:Addr} {ocm18 kVm18 docm18 pmm18 cdm18 ctm18:Value} {odm18 anm18:Option Addr} {slm18:Array (Option Value)}
    {fm19:Addr} {ocm19 kVm19 docm19 pmm19 cdm19 ctm19:Value} {odm19 anm19:Option Addr} {slm19:Array (Option Value)}
    {fm20:Addr} {ocm20 kVm20 docm20 pmm20 cdm20 ctm20:Value} {odm20 anm20:Option Addr} {slm20:Array (Option Value)}
    {fm21:Addr} {ocm21 kVm21 docm21 pmm21 cdm21 ctm21:Value} {odm21 anm21:Option Addr} {slm21:Array (Option Value)}
    {fm22:Addr} {ocm22 kVm22 docm22 pmm22 cdm22 ctm22:Value} {odm22 anm22:Option Addr} {slm22:Array (Option Value)}
    {fm23:Addr} {ocm23 kVm23 docm23 pmm23 cdm23 ctm23:Value} {odm23 anm23:Option Addr} {slm23:Array (Option Value)}
    {fm24:Addr} {ocm24 kVm24 docm24 pmm24 cdm24 ctm24:Value} {odm24 anm24:Option Addr} {slm24:Array (Option Value)}
    {fm25:Addr} {ocm25 kVm25 docm25 pmm25 cdm25 ctm25:Value} {odm25 anm25:Option Addr} {slm25:Array (Option Value)}
    {fm26:Addr} {ocm26 kVm26 docm26 pmm26 cdm26 ctm26:Value} {odm26 anm26:Option Addr} {slm26:Array (Option Value)}
    {fm27:Addr} {ocm27 kVm27 docm27 pmm27 cdm27 ctm27:Value} {odm27 anm27:Option Addr} {slm27:Array (Option Value)}
    {C_Season:Addr}
    {fm43:Addr} {ocm43 kVm43 docm43 pmm43 cdm43 ctm43:Value} {odm43 anm43:Option Addr} {slm43:Array (Option Value)}
    {fm44:Addr} {ocm44 kVm44 docm44 pmm44 cdm44 ctm44:Value} {odm44 anm44:Option Addr} {slm44:Array (Option Value)}
    {fm45:Addr} {ocm45 kVm45 docm45 pmm45 cdm45 ctm45:Value} {odm45 anm45:Option Addr} {slm45:Array (Option Value)}
    {fm46:Addr} {ocm46 kVm46 docm46 pmm46 cdm46 ctm46:Value} {odm46 anm46:Option Addr} {slm46:Array (Option Value)}
    {fm47:Addr} {ocm47 kVm47 docm47 pmm47 cdm47 ctm47:Value} {odm47 anm47:Option Addr} {slm47:Array (Option Value)}
    {fm48:Addr} {ocm48 kVm48 docm48 pmm48 cdm48 ctm48:Value} {odm48 anm48:Option Addr} {slm48:Array (Option Value)}
    {fm49:Addr} {ocm49 kVm49 docm49 pmm49 cdm49 ctm49:Value} {odm49 anm49:Option Addr} {slm49:Array (Option Value)}
    {fm50:Addr} {ocm50 kVm50 docm50 pmm50 cdm50 ctm50:Value} {odm50 anm50:Option Addr} {slm50:Array (Option Value)}
    {f0:Addr} {oc0 kV0 doc0 pm0 cd0 ct0:Value} {od0 an0:Option Addr} {sl0:Array (Option Value)}
    {f1:Addr} {oc1 kV1 doc1 pm1 cd1 ct1:Value} {od1 an1:Option Addr} {sl1:Array (Option Value)}
    {f2:Addr} {oc2 kV2 doc2 pm2 cd2 ct2:Value} {od2 an2:Option Addr} {sl2:Array (Option Value)}
    {f3:Addr} {oc3 kV3 doc3 pm3 cd3 ct3:Value} {od3 an3:Option Addr} {sl3:Array (Option Value)}
    {f4:Addr} {oc4 kV4 doc4 pm4 cd4 ct4:Value} {od4 an4:Option Addr} {sl4:Array (Option Value)}
    {f5:Addr} {oc5 kV5 doc5 pm5 cd5 ct5:Value} {od5 an5:Option Addr} {sl5:Array (Option Value)}
    {f6:Addr} {oc6 kV6 doc6 pm6 cd6 ct6:Value} {od6 an6:Option Addr} {sl6:Array (Option Value)}
    {f7:Addr} {oc7 kV7 doc7 pm7 cd7 ct7:Value} {od7 an7:Option Addr} {sl7:Array (Option Value)}
    {f8:Addr} {oc8 kV8 doc8 pm8 cd8 ct8:Value} {od8 an8:Option Addr} {sl8:Array (Option Value)}
    {f9:Addr} {oc9 kV9 doc9 pm9 cd9 ct9:Value} {od9 an9:Option Addr} {sl9:Array (Option Value)}
    {f10:Addr} {oc10 kV10 doc10 pm10 cd10 ct10:Value} {od10 an10:Option Addr} {sl10:Array (Option Value)}
    {f11:Addr} {oc11 kV11 doc11 pm11 cd11 ct11:Value} {od11 an11:Option Addr} {sl11:Array (Option Value)}
    {f12:Addr} {oc12 kV12 doc12 pm12 cd12 ct12:Value} {od12 an12:Option Addr} {sl12:Array (Option Value)}
    {f13:Addr} {oc13 kV13 doc13 pm13 cd13 ct13:Value} {od13 an13:Option Addr} {sl13:Array (Option Value)}
    {f14:Addr} {oc14 kV14 doc14 pm14 cd14 ct14:Value} {od14 an14:Option Addr} {sl14:Array (Option Value)}
    {f15:Addr} {oc15 kV15 doc15 pm15 cd15 ct15:Value} {od15 an15:Option Addr} {sl15:Array (Option Value)}
    {f16:Addr} {oc16 kV16 doc16 pm16 cd16 ct16:Value} {od16 an16:Option Addr} {sl16:Array (Option Value)}
    {f17:Addr} {oc17 kV17 doc17 pm17 cd17 ct17:Value} {od17 an17:Option Addr} {sl17:Array (Option Value)}
    {f18:Addr} {oc18 kV18 doc18 pm18 cd18 ct18:Value} {od18 an18:Option Addr} {sl18:Array (Option Value)}
    {f19:Addr} {oc19 kV19 doc19 pm19 cd19 ct19:Value} {od19 an19:Option Addr} {sl19:Array (Option Value)}
    {f20:Addr} {oc20 kV20 doc20 pm20 cd20 ct20:Value} {od20 an20:Option Addr} {sl20:Array (Option Value)}
    {f21:Addr} {oc21 kV21 doc21 pm21 cd21 ct21:Value} {od21 an21:Option Addr} {sl21:Array (Option Value)}
    {f22:Addr} {oc22 kV22 doc22 pm22 cd22 ct22:Value} {od22 an22:Option Addr} {sl22:Array (Option Value)}
    {f23:Addr} {oc23 kV23 doc23 pm23 cd23 ct23:Value} {od23 an23:Option Addr} {sl23:Array (Option Value)}
    {f24:Addr} {oc24 kV24 doc24 pm24 cd24 ct24:Value} {od24 an24:Option Addr} {sl24:Array (Option Value)}
    {f25:Addr} {oc25 kV25 doc25 pm25 cd25 ct25:Value} {od25 an25:Option Addr} {sl25:Array (Option Value)}
    {f26:Addr} {oc26 kV26 doc26 pm26 cd26 ct26:Value} {od26 an26:Option Addr} {sl26:Array (Option Value)}
    {f27:Addr} {oc27 kV27 doc27 pm27 cd27 ct27:Value} {od27 an27:Option Addr} {sl27:Array (Option Value)}
    {f28:Addr} {oc28 kV28 doc28 pm28 cd28 ct28:Value} {od28 an28:Option Addr} {sl28:Array (Option Value)}
    {f29:Addr} {oc29 kV29 doc29 pm29 cd29 ct29:Value} {od29 an29:Option Addr} {sl29:Array (Option Value)}
    {f30:Addr} {oc30 kV30 doc30 pm30 cd30 ct30:Value} {od30 an30:Option Addr} {sl30:Array (Option Value)}
    {f31:Addr} {oc31 kV31 doc31 pm31 cd31 ct31:Value} {od31 an31:Option Addr} {sl31:Array (Option Value)}
    {f32:Addr} {oc32 kV32 doc32 pm32 cd32 ct32:Value} {od32 an32:Option Addr} {sl32:Array (Option Value)}
    {f33:Addr} {oc33 kV33 doc33 pm33 cd33 ct33:Value} {od33 an33:Option Addr} {sl33:Array (Option Value)}
    {f34:Addr} {oc34 kV34 doc34 pm34 cd34 ct34:Value} {od34 an34:Option Addr} {sl34:Array (Option Value)}
    {f35:Addr} {oc35 kV35 doc35 pm35 cd35 ct35:Value} {od35 an35:Option Addr} {sl35:Array (Option Value)}
    {f36:Addr} {oc36 kV36 doc36 pm36 cd36 ct36:Value} {od36 an36:Option Addr} {sl36:Array (Option Value)}
    {f37:Addr} {oc37 kV37 doc37 pm37 cd37 ct37:Value} {od37 an37:Option Addr} {sl37:Array (Option Value)}
    {f38:Addr} {oc38 kV38 doc38 pm38 cd38 ct38:Value} {od38 an38:Option Addr} {sl38:Array (Option Value)}
    {f39:Addr} {oc39 kV39 doc39 pm39 cd39 ct39:Value} {od39 an39:Option Addr} {sl39:Array (Option Value)}
    {f40:Addr} {oc40 kV40 doc40 pm40 cd40 ct40:Value} {od40 an40:Option Addr} {sl40:Array (Option Value)}
    {f41:Addr} {oc41 kV41 doc41 pm41 cd41 ct41:Value} {od41 an41:Option Addr} {sl41:Array (Option Value)}
    {f42:Addr} {oc42 kV42 doc42 pm42 cd42 ct42:Value} {od42 an42:Option Addr} {sl42:Array (Option Value)}
    {f43:Addr} {oc43 kV43 doc43 pm43 cd43 ct43:Value} {od43 an43:Option Addr} {sl43:Array (Option Value)}
    {f44:Addr} {oc44 kV44 doc44 pm44 cd44 ct44:Value} {od44 an44:Option Addr} {sl44:Array (Option Value)}
    {f45:Addr} {oc45 kV45 doc45 pm45 cd45 ct45:Value} {od45 an45:Option Addr} {sl45:Array (Option Value)}
    {f46:Addr} {oc46 kV46 doc46 pm46 cd46 ct46:Value} {od46 an46:Option Addr} {sl46:Array (Option Value)}
    {f47:Addr} {oc47 kV47 doc47 pm47 cd47 ct47:Value} {od47 an47:Option Addr} {sl47:Array (Option Value)}
    {f48:Addr} {oc48 kV48 doc48 pm48 cd48 ct48:Value} {od48 an48:Option Addr} {sl48:Array (Option Value)}
    {f49:Addr} {oc49 kV49 doc49 pm49 cd49 ct49:Value} {od49 an49:Option Addr} {sl49:Array (Option Value)}
    {at0:Addr} {otd0:Option Addr} {its0:Array Value} {nnt0:Nat} {slt0:Array (Option Value)}
    {at1:Addr} {otd1:Option Addr} {its1:Array Value} {nnt1:Nat} {slt1:Array (Option Value)}
    {at2:Addr} {otd2:Option Addr} {its2:Array Value} {nnt2:Nat} {slt2:Array (Option Value)}
    {u0:Value}
    {u1:Value}
    {u2:Value}
    {u3:Value}
    {u4:Value}
    {u5:Value}
    {u6:Value}
    {u7:Value}
    {u8:Value}
    {u9:Value}
    (aC:PySem.W.nsIn K mainGlobals "Land" = some (some (.ref C))) (pgC:PySem.W.plainGet K C Str.empty = true) (hdC:PySem.W.hasDictIn K C = true) (poC:PySem.W.plainOver K C = true) (saC:PySem.W.findIn K (.ref C) "__setattr__" = some (some (.builtin "object.__setattr__"))) (mkC:PySem.W.makesIn K C = true) (kpC:PySem.W.keepIn K (.ref C) = true)
    (n_field_rows:PySem.W.findIn K (.ref C) "field_rows" = some none)
    (n_dyke_rows:PySem.W.findIn K (.ref C) "dyke_rows" = some none)
    (ma18:PySem.W.findIn K (.ref C) "__init__" = some (some (.ref fm18))) (mi18:PySem.W.isFn K (.ref fm18) = true) (ml18:K.lookup fm18 = some ⟨ocm18,odm18,.func (PySem.W.fnOf "__init__" "Land.__init__" (aS iN) (aO iN) (aF iN) .none kVm18 docm18 pmm18 anm18 cdm18 ctm18),slm18⟩) (mc18:PySem.W.codeIn K cdm18 "Land.__init__" = true) (mk18:PySem.W.keepIn K (.ref fm18) = true)
    (ma19:PySem.W.findIn K (.ref C) "fields" = some (some (.ref fm19))) (mi19:PySem.W.isFn K (.ref fm19) = true) (ml19:K.lookup fm19 = some ⟨ocm19,odm19,.func (PySem.W.fnOf "fields" "Land.fields" (aS fR) (aO fR) (aF fR) .none kVm19 docm19 pmm19 anm19 cdm19 ctm19),slm19⟩) (mc19:PySem.W.codeIn K cdm19 "Land.fields" = true) (mk19:PySem.W.keepIn K (.ref fm19) = true)
    (ma20:PySem.W.findIn K (.ref C) "dykes" = some (some (.ref fm20))) (mi20:PySem.W.isFn K (.ref fm20) = true) (ml20:K.lookup fm20 = some ⟨ocm20,odm20,.func (PySem.W.fnOf "dykes" "Land.dykes" (aS gG) (aO gG) (aF gG) .none kVm20 docm20 pmm20 anm20 cdm20 ctm20),slm20⟩) (mc20:PySem.W.codeIn K cdm20 "Land.dykes" = true) (mk20:PySem.W.keepIn K (.ref fm20) = true)
    (ma21:PySem.W.findIn K (.ref C) "field_names" = some (some (.ref fm21))) (mi21:PySem.W.isFn K (.ref fm21) = true) (ml21:K.lookup fm21 = some ⟨ocm21,odm21,.func (PySem.W.fnOf "field_names" "Land.field_names" (aS dL) (aO dL) (aF dL) .none kVm21 docm21 pmm21 anm21 cdm21 ctm21),slm21⟩) (mc21:PySem.W.codeIn K cdm21 "Land.field_names" = true) (mk21:PySem.W.keepIn K (.ref fm21) = true)
    (ma22:PySem.W.findIn K (.ref C) "dyke_names" = some (some (.ref fm22))) (mi22:PySem.W.isFn K (.ref fm22) = true) (ml22:K.lookup fm22 = some ⟨ocm22,odm22,.func (PySem.W.fnOf "dyke_names" "Land.dyke_names" (aS dP) (aO dP) (aF dP) .none kVm22 docm22 pmm22 anm22 cdm22 ctm22),slm22⟩) (mc22:PySem.W.codeIn K cdm22 "Land.dyke_names" = true) (mk22:PySem.W.keepIn K (.ref fm22) = true)
    (ma23:PySem.W.findIn K (.ref C) "sluices" = some (some (.ref fm23))) (mi23:PySem.W.isFn K (.ref fm23) = true) (ml23:K.lookup fm23 = some ⟨ocm23,odm23,.func (PySem.W.fnOf "sluices" "Land.sluices" (aS fE) (aO fE) (aF fE) .none kVm23 docm23 pmm23 anm23 cdm23 ctm23),slm23⟩) (mc23:PySem.W.codeIn K cdm23 "Land.sluices" = true) (mk23:PySem.W.keepIn K (.ref fm23) = true)
    (ma24:PySem.W.findIn K (.ref C) "ground" = some (some (.ref fm24))) (mi24:PySem.W.isFn K (.ref fm24) = true) (ml24:K.lookup fm24 = some ⟨ocm24,odm24,.func (PySem.W.fnOf "ground" "Land.ground" (aS fQ) (aO fQ) (aF fQ) .none kVm24 docm24 pmm24 anm24 cdm24 ctm24),slm24⟩) (mc24:PySem.W.codeIn K cdm24 "Land.ground" = true) (mk24:PySem.W.keepIn K (.ref fm24) = true)
    (ma25:PySem.W.findIn K (.ref C) "dues" = some (some (.ref fm25))) (mi25:PySem.W.isFn K (.ref fm25) = true) (ml25:K.lookup fm25 = some ⟨ocm25,odm25,.func (PySem.W.fnOf "dues" "Land.dues" (aS jC) (aO jC) (aF jC) .none kVm25 docm25 pmm25 anm25 cdm25 ctm25),slm25⟩) (mc25:PySem.W.codeIn K cdm25 "Land.dues" = true) (mk25:PySem.W.keepIn K (.ref fm25) = true)
    (ma26:PySem.W.findIn K (.ref C) "dyke" = some (some (.ref fm26))) (mi26:PySem.W.isFn K (.ref fm26) = true) (ml26:K.lookup fm26 = some ⟨ocm26,odm26,.func (PySem.W.fnOf "dyke" "Land.dyke" (aS gZ) (aO gZ) (aF gZ) .none kVm26 docm26 pmm26 anm26 cdm26 ctm26),slm26⟩) (mc26:PySem.W.codeIn K cdm26 "Land.dyke" = true) (mk26:PySem.W.keepIn K (.ref fm26) = true)
    (ma27:PySem.W.findIn K (.ref C) "raised" = some (some (.ref fm27))) (mi27:PySem.W.isFn K (.ref fm27) = true) (ml27:K.lookup fm27 = some ⟨ocm27,odm27,.func (PySem.W.fnOf "raised" "Land.raised" (aS fP) (aO fP) (aF fP) .none kVm27 docm27 pmm27 anm27 cdm27 ctm27),slm27⟩) (mc27:PySem.W.codeIn K cdm27 "Land.raised" = true) (mk27:PySem.W.keepIn K (.ref fm27) = true)
    (aCSeason:PySem.W.nsIn K mainGlobals "Season" = some (some (.ref C_Season))) (pgCSeason:PySem.W.plainGet K C_Season Str.empty = true) (hdCSeason:PySem.W.hasDictIn K C_Season = true) (poCSeason:PySem.W.plainOver K C_Season = true) (saCSeason:PySem.W.findIn K (.ref C_Season) "__setattr__" = some (some (.builtin "object.__setattr__"))) (mkCSeason:PySem.W.makesIn K C_Season = true) (kpCSeason:PySem.W.keepIn K (.ref C_Season) = true)
    (nSeason_on_land:PySem.W.findIn K (.ref C_Season) "on_land" = some none)
    (nSeason_own_decrees:PySem.W.findIn K (.ref C_Season) "own_decrees" = some none)
    (nSeason_open_names:PySem.W.findIn K (.ref C_Season) "open_names" = some none)
    (nSeason_wet_names:PySem.W.findIn K (.ref C_Season) "wet_names" = some none)
    (nSeason_day_count:PySem.W.findIn K (.ref C_Season) "day_count" = some none)
    (nSeason_wet_counts:PySem.W.findIn K (.ref C_Season) "wet_counts" = some none)
    (ma43:PySem.W.findIn K (.ref C_Season) "__init__" = some (some (.ref fm43))) (mi43:PySem.W.isFn K (.ref fm43) = true) (ml43:K.lookup fm43 = some ⟨ocm43,odm43,.func (PySem.W.fnOf "__init__" "Season.__init__" (aS fX) (aO fX) (aF fX) .none kVm43 docm43 pmm43 anm43 cdm43 ctm43),slm43⟩) (mc43:PySem.W.codeIn K cdm43 "Season.__init__" = true) (mk43:PySem.W.keepIn K (.ref fm43) = true)
    (ma44:PySem.W.findIn K (.ref C_Season) "day" = some (some (.ref fm44))) (mi44:PySem.W.isFn K (.ref fm44) = true) (ml44:K.lookup fm44 = some ⟨ocm44,odm44,.func (PySem.W.fnOf "day" "Season.day" (aS fZ) (aO fZ) (aF fZ) .none kVm44 docm44 pmm44 anm44 cdm44 ctm44),slm44⟩) (mc44:PySem.W.codeIn K cdm44 "Season.day" = true) (mk44:PySem.W.keepIn K (.ref fm44) = true)
    (ma45:PySem.W.findIn K (.ref C_Season) "days" = some (some (.ref fm45))) (mi45:PySem.W.isFn K (.ref fm45) = true) (ml45:K.lookup fm45 = some ⟨ocm45,odm45,.func (PySem.W.fnOf "days" "Season.days" (aS hJ) (aO hJ) (aF hJ) .none kVm45 docm45 pmm45 anm45 cdm45 ctm45),slm45⟩) (mc45:PySem.W.codeIn K cdm45 "Season.days" = true) (mk45:PySem.W.keepIn K (.ref fm45) = true)
    (ma46:PySem.W.findIn K (.ref C_Season) "opened" = some (some (.ref fm46))) (mi46:PySem.W.isFn K (.ref fm46) = true) (ml46:K.lookup fm46 = some ⟨ocm46,odm46,.func (PySem.W.fnOf "opened" "Season.opened" (aS eQ) (aO eQ) (aF eQ) .none kVm46 docm46 pmm46 anm46 cdm46 ctm46),slm46⟩) (mc46:PySem.W.codeIn K cdm46 "Season.opened" = true) (mk46:PySem.W.keepIn K (.ref fm46) = true)
    (ma47:PySem.W.findIn K (.ref C_Season) "wet" = some (some (.ref fm47))) (mi47:PySem.W.isFn K (.ref fm47) = true) (ml47:K.lookup fm47 = some ⟨ocm47,odm47,.func (PySem.W.fnOf "wet" "Season.wet" (aS fY) (aO fY) (aF fY) .none kVm47 docm47 pmm47 anm47 cdm47 ctm47),slm47⟩) (mc47:PySem.W.codeIn K cdm47 "Season.wet" = true) (mk47:PySem.W.keepIn K (.ref fm47) = true)
    (ma48:PySem.W.findIn K (.ref C_Season) "count" = some (some (.ref fm48))) (mi48:PySem.W.isFn K (.ref fm48) = true) (ml48:K.lookup fm48 = some ⟨ocm48,odm48,.func (PySem.W.fnOf "count" "Season.count" (aS fB) (aO fB) (aF fB) .none kVm48 docm48 pmm48 anm48 cdm48 ctm48),slm48⟩) (mc48:PySem.W.codeIn K cdm48 "Season.count" = true) (mk48:PySem.W.keepIn K (.ref fm48) = true)
    (ma49:PySem.W.findIn K (.ref C_Season) "wet_days" = some (some (.ref fm49))) (mi49:PySem.W.isFn K (.ref fm49) = true) (ml49:K.lookup fm49 = some ⟨ocm49,odm49,.func (PySem.W.fnOf "wet_days" "Season.wet_days" (aS dN) (aO dN) (aF dN) .none kVm49 docm49 pmm49 anm49 cdm49 ctm49),slm49⟩) (mc49:PySem.W.codeIn K cdm49 "Season.wet_days" = true) (mk49:PySem.W.keepIn K (.ref fm49) = true)
    (ma50:PySem.W.findIn K (.ref C_Season) "onto" = some (some (.ref fm50))) (mi50:PySem.W.isFn K (.ref fm50) = true) (ml50:K.lookup fm50 = some ⟨ocm50,odm50,.func (PySem.W.fnOf "onto" "Season.onto" (aS fM) (aO fM) (aF fM) .none kVm50 docm50 pmm50 anm50 cdm50 ctm50),slm50⟩) (mc50:PySem.W.codeIn K cdm50 "Season.onto" = true) (mk50:PySem.W.keepIn K (.ref fm50) = true)
    (a0:PySem.W.nsIn K mainGlobals "_wall" = some (some (.ref f0))) (l0:K.lookup f0 = some ⟨oc0,od0,.func (PySem.W.fnOf "_wall" "_wall" (aS qX) (aO qX) (aF qX) .none kV0 doc0 pm0 an0 cd0 ct0),sl0⟩) (c0:PySem.W.codeIn K cd0 "_wall" = true) (k0:PySem.W.keepIn K (.ref f0) = true)
    (a1:PySem.W.nsIn K mainGlobals "is_whole" = some (some (.ref f1))) (l1:K.lookup f1 = some ⟨oc1,od1,.func (PySem.W.fnOf "is_whole" "is_whole" (aS iL) (aO iL) (aF iL) .none kV1 doc1 pm1 an1 cd1 ct1),sl1⟩) (c1:PySem.W.codeIn K cd1 "is_whole" = true) (k1:PySem.W.keepIn K (.ref f1) = true)
    (a2:PySem.W.nsIn K mainGlobals "is_name" = some (some (.ref f2))) (l2:K.lookup f2 = some ⟨oc2,od2,.func (PySem.W.fnOf "is_name" "is_name" (aS jK) (aO jK) (aF jK) .none kV2 doc2 pm2 an2 cd2 ct2),sl2⟩) (c2:PySem.W.codeIn K cd2 "is_name" = true) (k2:PySem.W.keepIn K (.ref f2) = true)
    (a3:PySem.W.nsIn K mainGlobals "is_height" = some (some (.ref f3))) (l3:K.lookup f3 = some ⟨oc3,od3,.func (PySem.W.fnOf "is_height" "is_height" (aS gR) (aO gR) (aF gR) .none kV3 doc3 pm3 an3 cd3 ct3),sl3⟩) (c3:PySem.W.codeIn K cd3 "is_height" = true) (k3:PySem.W.keepIn K (.ref f3) = true)
    (a4:PySem.W.nsIn K mainGlobals "is_amount" = some (some (.ref f4))) (l4:K.lookup f4 = some ⟨oc4,od4,.func (PySem.W.fnOf "is_amount" "is_amount" (aS gU) (aO gU) (aF gU) .none kV4 doc4 pm4 an4 cd4 ct4),sl4⟩) (c4:PySem.W.codeIn K cd4 "is_amount" = true) (k4:PySem.W.keepIn K (.ref f4) = true)
    (a5:PySem.W.nsIn K mainGlobals "is_one_of" = some (some (.ref f5))) (l5:K.lookup f5 = some ⟨oc5,od5,.func (PySem.W.fnOf "is_one_of" "is_one_of" (aS gQ) (aO gQ) (aF gQ) .none kV5 doc5 pm5 an5 cd5 ct5),sl5⟩) (c5:PySem.W.codeIn K cd5 "is_one_of" = true) (k5:PySem.W.keepIn K (.ref f5) = true)
    (a6:PySem.W.nsIn K mainGlobals "is_list_of" = some (some (.ref f6))) (l6:K.lookup f6 = some ⟨oc6,od6,.func (PySem.W.fnOf "is_list_of" "is_list_of" (aS gD) (aO gD) (aF gD) .none kV6 doc6 pm6 an6 cd6 ct6),sl6⟩) (c6:PySem.W.codeIn K cd6 "is_list_of" = true) (k6:PySem.W.keepIn K (.ref f6) = true)
    (a7:PySem.W.nsIn K mainGlobals "is_tuple_of" = some (some (.ref f7))) (l7:K.lookup f7 = some ⟨oc7,od7,.func (PySem.W.fnOf "is_tuple_of" "is_tuple_of" (aS fN) (aO fN) (aF fN) .none kV7 doc7 pm7 an7 cd7 ct7),sl7⟩) (c7:PySem.W.codeIn K cd7 "is_tuple_of" = true) (k7:PySem.W.keepIn K (.ref f7) = true)
    (a8:PySem.W.nsIn K mainGlobals "none_twice" = some (some (.ref f8))) (l8:K.lookup f8 = some ⟨oc8,od8,.func (PySem.W.fnOf "none_twice" "none_twice" (aS gC) (aO gC) (aF gC) .none kV8 doc8 pm8 an8 cd8 ct8),sl8⟩) (c8:PySem.W.codeIn K cd8 "none_twice" = true) (k8:PySem.W.keepIn K (.ref f8) = true)
    (a9:PySem.W.nsIn K mainGlobals "is_field" = some (some (.ref f9))) (l9:K.lookup f9 = some ⟨oc9,od9,.func (PySem.W.fnOf "is_field" "is_field" (aS iM) (aO iM) (aF iM) .none kV9 doc9 pm9 an9 cd9 ct9),sl9⟩) (c9:PySem.W.codeIn K cd9 "is_field" = true) (k9:PySem.W.keepIn K (.ref f9) = true)
    (a10:PySem.W.nsIn K mainGlobals "are_fields" = some (some (.ref f10))) (l10:K.lookup f10 = some ⟨oc10,od10,.func (PySem.W.fnOf "are_fields" "are_fields" (aS gE) (aO gE) (aF gE) .none kV10 doc10 pm10 an10 cd10 ct10),sl10⟩) (c10:PySem.W.codeIn K cd10 "are_fields" = true) (k10:PySem.W.keepIn K (.ref f10) = true)
    (a11:PySem.W.nsIn K mainGlobals "are_sides" = some (some (.ref f11))) (l11:K.lookup f11 = some ⟨oc11,od11,.func (PySem.W.fnOf "are_sides" "are_sides" (aS gX) (aO gX) (aF gX) .none kV11 doc11 pm11 an11 cd11 ct11),sl11⟩) (c11:PySem.W.codeIn K cd11 "are_sides" = true) (k11:PySem.W.keepIn K (.ref f11) = true)
    (a12:PySem.W.nsIn K mainGlobals "is_sill" = some (some (.ref f12))) (l12:K.lookup f12 = some ⟨oc12,od12,.func (PySem.W.fnOf "is_sill" "is_sill" (aS jJ) (aO jJ) (aF jJ) .none kV12 doc12 pm12 an12 cd12 ct12),sl12⟩) (c12:PySem.W.codeIn K cd12 "is_sill" = true) (k12:PySem.W.keepIn K (.ref f12) = true)
    (a13:PySem.W.nsIn K mainGlobals "is_dyke" = some (some (.ref f13))) (l13:K.lookup f13 = some ⟨oc13,od13,.func (PySem.W.fnOf "is_dyke" "is_dyke" (aS jL) (aO jL) (aF jL) .none kV13 doc13 pm13 an13 cd13 ct13),sl13⟩) (c13:PySem.W.codeIn K cd13 "is_dyke" = true) (k13:PySem.W.keepIn K (.ref f13) = true)
    (a14:PySem.W.nsIn K mainGlobals "are_dykes" = some (some (.ref f14))) (l14:K.lookup f14 = some ⟨oc14,od14,.func (PySem.W.fnOf "are_dykes" "are_dykes" (aS gY) (aO gY) (aF gY) .none kV14 doc14 pm14 an14 cd14 ct14),sl14⟩) (c14:PySem.W.codeIn K cd14 "are_dykes" = true) (k14:PySem.W.keepIn K (.ref f14) = true)
    (a15:PySem.W.nsIn K mainGlobals "is_work" = some (some (.ref f15))) (l15:K.lookup f15 = some ⟨oc15,od15,.func (PySem.W.fnOf "is_work" "is_work" (aS jI) (aO jI) (aF jI) .none kV15 doc15 pm15 an15 cd15 ct15),sl15⟩) (c15:PySem.W.codeIn K cd15 "is_work" = true) (k15:PySem.W.keepIn K (.ref f15) = true)
    (a16:PySem.W.nsIn K mainGlobals "are_works" = some (some (.ref f16))) (l16:K.lookup f16 = some ⟨oc16,od16,.func (PySem.W.fnOf "are_works" "are_works" (aS gW) (aO gW) (aF gW) .none kV16 doc16 pm16 an16 cd16 ct16),sl16⟩) (c16:PySem.W.codeIn K cd16 "are_works" = true) (k16:PySem.W.keepIn K (.ref f16) = true)
    (a17:PySem.W.nsIn K mainGlobals "with_crown" = some (some (.ref f17))) (l17:K.lookup f17 = some ⟨oc17,od17,.func (PySem.W.fnOf "with_crown" "with_crown" (aS gA) (aO gA) (aF gA) .none kV17 doc17 pm17 an17 cd17 ct17),sl17⟩) (c17:PySem.W.codeIn K cd17 "with_crown" = true) (k17:PySem.W.keepIn K (.ref f17) = true)
    (a18:PySem.W.nsIn K mainGlobals "check_sluices" = some (some (.ref f18))) (l18:K.lookup f18 = some ⟨oc18,od18,.func (PySem.W.fnOf "check_sluices" "check_sluices" (aS eS) (aO eS) (aF eS) .none kV18 doc18 pm18 an18 cd18 ct18),sl18⟩) (c18:PySem.W.codeIn K cd18 "check_sluices" = true) (k18:PySem.W.keepIn K (.ref f18) = true)
    (a19:PySem.W.nsIn K mainGlobals "stands" = some (some (.ref f19))) (l19:K.lookup f19 = some ⟨oc19,od19,.func (PySem.W.fnOf "stands" "stands" (aS kL) (aO kL) (aF kL) .none kV19 doc19 pm19 an19 cd19 ct19),sl19⟩) (c19:PySem.W.codeIn K cd19 "stands" = true) (k19:PySem.W.keepIn K (.ref f19) = true)
    (a20:PySem.W.nsIn K mainGlobals "steps_inland" = some (some (.ref f20))) (l20:K.lookup f20 = some ⟨oc20,od20,.func (PySem.W.fnOf "steps_inland" "steps_inland" (aS fC) (aO fC) (aF fC) .none kV20 doc20 pm20 an20 cd20 ct20),sl20⟩) (c20:PySem.W.codeIn K cd20 "steps_inland" = true) (k20:PySem.W.keepIn K (.ref f20) = true)
    (a21:PySem.W.nsIn K mainGlobals "flood_heights" = some (some (.ref f21))) (l21:K.lookup f21 = some ⟨oc21,od21,.func (PySem.W.fnOf "flood_heights" "flood_heights" (aS eR) (aO eR) (aF eR) .none kV21 doc21 pm21 an21 cd21 ct21),sl21⟩) (c21:PySem.W.codeIn K cd21 "flood_heights" = true) (k21:PySem.W.keepIn K (.ref f21) = true)
    (a22:PySem.W.nsIn K mainGlobals "is_day_of" = some (some (.ref f22))) (l22:K.lookup f22 = some ⟨oc22,od22,.func (PySem.W.fnOf "is_day_of" "is_day_of" (aS gT) (aO gT) (aF gT) .none kV22 doc22 pm22 an22 cd22 ct22),sl22⟩) (c22:PySem.W.codeIn K cd22 "is_day_of" = true) (k22:PySem.W.keepIn K (.ref f22) = true)
    (a23:PySem.W.nsIn K mainGlobals "is_condition" = some (some (.ref f23))) (l23:K.lookup f23 = some ⟨oc23,od23,.func (PySem.W.fnOf "is_condition" "is_condition" (aS fD) (aO fD) (aF fD) .none kV23 doc23 pm23 an23 cd23 ct23),sl23⟩) (c23:PySem.W.codeIn K cd23 "is_condition" = true) (k23:PySem.W.keepIn K (.ref f23) = true)
    (a24:PySem.W.nsIn K mainGlobals "is_decree" = some (some (.ref f24))) (l24:K.lookup f24 = some ⟨oc24,od24,.func (PySem.W.fnOf "is_decree" "is_decree" (aS gS) (aO gS) (aF gS) .none kV24 doc24 pm24 an24 cd24 ct24),sl24⟩) (c24:PySem.W.codeIn K cd24 "is_decree" = true) (k24:PySem.W.keepIn K (.ref f24) = true)
    (a25:PySem.W.nsIn K mainGlobals "are_decrees" = some (some (.ref f25))) (l25:K.lookup f25 = some ⟨oc25,od25,.func (PySem.W.fnOf "are_decrees" "are_decrees" (aS fO) (aO fO) (aF fO) .none kV25 doc25 pm25 an25 cd25 ct25),sl25⟩) (c25:PySem.W.codeIn K cd25 "are_decrees" = true) (k25:PySem.W.keepIn K (.ref f25) = true)
    (a26:PySem.W.nsIn K mainGlobals "check_decrees" = some (some (.ref f26))) (l26:K.lookup f26 = some ⟨oc26,od26,.func (PySem.W.fnOf "check_decrees" "check_decrees" (aS eT) (aO eT) (aF eT) .none kV26 doc26 pm26 an26 cd26 ct26),sl26⟩) (c26:PySem.W.codeIn K cd26 "check_decrees" = true) (k26:PySem.W.keepIn K (.ref f26) = true)
    (a27:PySem.W.nsIn K mainGlobals "copied" = some (some (.ref f27))) (l27:K.lookup f27 = some ⟨oc27,od27,.func (PySem.W.fnOf "copied" "copied" (aS kN) (aO kN) (aF kN) .none kV27 doc27 pm27 an27 cd27 ct27),sl27⟩) (c27:PySem.W.codeIn K cd27 "copied" = true) (k27:PySem.W.keepIn K (.ref f27) = true)
    (a28:PySem.W.nsIn K mainGlobals "condition_holds" = some (some (.ref f28))) (l28:K.lookup f28 = some ⟨oc28,od28,.func (PySem.W.fnOf "condition_holds" "condition_holds" (aS dO) (aO dO) (aF dO) .none kV28 doc28 pm28 an28 cd28 ct28),sl28⟩) (c28:PySem.W.codeIn K cd28 "condition_holds" = true) (k28:PySem.W.keepIn K (.ref f28) = true)
    (a29:PySem.W.nsIn K mainGlobals "holds" = some (some (.ref f29))) (l29:K.lookup f29 = some ⟨oc29,od29,.func (PySem.W.fnOf "holds" "holds" (aS lY) (aO lY) (aF lY) .none kV29 doc29 pm29 an29 cd29 ct29),sl29⟩) (c29:PySem.W.codeIn K cd29 "holds" = true) (k29:PySem.W.keepIn K (.ref f29) = true)
    (a30:PySem.W.nsIn K mainGlobals "opened_by" = some (some (.ref f30))) (l30:K.lookup f30 = some ⟨oc30,od30,.func (PySem.W.fnOf "opened_by" "opened_by" (aS gP) (aO gP) (aF gP) .none kV30 doc30 pm30 an30 cd30 ct30),sl30⟩) (c30:PySem.W.codeIn K cd30 "opened_by" = true) (k30:PySem.W.keepIn K (.ref f30) = true)
    (a31:PySem.W.nsIn K mainGlobals "is_wet" = some (some (.ref f31))) (l31:K.lookup f31 = some ⟨oc31,od31,.func (PySem.W.fnOf "is_wet" "is_wet" (aS kM) (aO kM) (aF kM) .none kV31 doc31 pm31 an31 cd31 ct31),sl31⟩) (c31:PySem.W.codeIn K cd31 "is_wet" = true) (k31:PySem.W.keepIn K (.ref f31) = true)
    (a32:PySem.W.nsIn K mainGlobals "wet_fields" = some (some (.ref f32))) (l32:K.lookup f32 = some ⟨oc32,od32,.func (PySem.W.fnOf "wet_fields" "wet_fields" (aS gB) (aO gB) (aF gB) .none kV32 doc32 pm32 an32 cd32 ct32),sl32⟩) (c32:PySem.W.codeIn K cd32 "wet_fields" = true) (k32:PySem.W.keepIn K (.ref f32) = true)
    (a33:PySem.W.nsIn K mainGlobals "_law_mixed" = some (some (.ref f33))) (l33:K.lookup f33 = some ⟨oc33,od33,.func (PySem.W.fnOf "_law_mixed" "_law_mixed" (aS mD) (aO mD) (aF mD) .none kV33 doc33 pm33 an33 cd33 ct33),sl33⟩) (c33:PySem.W.codeIn K cd33 "_law_mixed" = true) (k33:PySem.W.keepIn K (.ref f33) = true)
    (a34:PySem.W.nsIn K mainGlobals "_law_names" = some (some (.ref f34))) (l34:K.lookup f34 = some ⟨oc34,od34,.func (PySem.W.fnOf "_law_names" "_law_names" (aS mC) (aO mC) (aF mC) .none kV34 doc34 pm34 an34 cd34 ct34),sl34⟩) (c34:PySem.W.codeIn K cd34 "_law_names" = true) (k34:PySem.W.keepIn K (.ref f34) = true)
    (a35:PySem.W.nsIn K mainGlobals "_law_height" = some (some (.ref f35))) (l35:K.lookup f35 = some ⟨oc35,od35,.func (PySem.W.fnOf "_law_height" "_law_height" (aS kR) (aO kR) (aF kR) .none kV35 doc35 pm35 an35 cd35 ct35),sl35⟩) (c35:PySem.W.codeIn K cd35 "_law_height" = true) (k35:PySem.W.keepIn K (.ref f35) = true)
    (a36:PySem.W.nsIn K mainGlobals "_law_fields" = some (some (.ref f36))) (l36:K.lookup f36 = some ⟨oc36,od36,.func (PySem.W.fnOf "_law_fields" "_law_fields" (aS kT) (aO kT) (aF kT) .none kV36 doc36 pm36 an36 cd36 ct36),sl36⟩) (c36:PySem.W.codeIn K cd36 "_law_fields" = true) (k36:PySem.W.keepIn K (.ref f36) = true)
    (a37:PySem.W.nsIn K mainGlobals "_law_dykes" = some (some (.ref f37))) (l37:K.lookup f37 = some ⟨oc37,od37,.func (PySem.W.fnOf "_law_dykes" "_law_dykes" (aS mF) (aO mF) (aF mF) .none kV37 doc37 pm37 an37 cd37 ct37),sl37⟩) (c37:PySem.W.codeIn K cd37 "_law_dykes" = true) (k37:PySem.W.keepIn K (.ref f37) = true)
    (a38:PySem.W.nsIn K mainGlobals "_law_stands" = some (some (.ref f38))) (l38:K.lookup f38 = some ⟨oc38,od38,.func (PySem.W.fnOf "_law_stands" "_law_stands" (aS kO) (aO kO) (aF kO) .none kV38 doc38 pm38 an38 cd38 ct38),sl38⟩) (c38:PySem.W.codeIn K cd38 "_law_stands" = true) (k38:PySem.W.keepIn K (.ref f38) = true)
    (a39:PySem.W.nsIn K mainGlobals "_law_floods" = some (some (.ref f39))) (l39:K.lookup f39 = some ⟨oc39,od39,.func (PySem.W.fnOf "_law_floods" "_law_floods" (aS kS) (aO kS) (aF kS) .none kV39 doc39 pm39 an39 cd39 ct39),sl39⟩) (c39:PySem.W.codeIn K cd39 "_law_floods" = true) (k39:PySem.W.keepIn K (.ref f39) = true)
    (a40:PySem.W.nsIn K mainGlobals "_law_decrees" = some (some (.ref f40))) (l40:K.lookup f40 = some ⟨oc40,od40,.func (PySem.W.fnOf "_law_decrees" "_law_decrees" (aS jM) (aO jM) (aF jM) .none kV40 doc40 pm40 an40 cd40 ct40),sl40⟩) (c40:PySem.W.codeIn K cd40 "_law_decrees" = true) (k40:PySem.W.keepIn K (.ref f40) = true)
    (a41:PySem.W.nsIn K mainGlobals "_law_condition" = some (some (.ref f41))) (l41:K.lookup f41 = some ⟨oc41,od41,.func (PySem.W.fnOf "_law_condition" "_law_condition" (aS hE) (aO hE) (aF hE) .none kV41 doc41 pm41 an41 cd41 ct41),sl41⟩) (c41:PySem.W.codeIn K cd41 "_law_condition" = true) (k41:PySem.W.keepIn K (.ref f41) = true)
    (a42:PySem.W.nsIn K mainGlobals "_law_holds" = some (some (.ref f42))) (l42:K.lookup f42 = some ⟨oc42,od42,.func (PySem.W.fnOf "_law_holds" "_law_holds" (aS mE) (aO mE) (aF mE) .none kV42 doc42 pm42 an42 cd42 ct42),sl42⟩) (c42:PySem.W.codeIn K cd42 "_law_holds" = true) (k42:PySem.W.keepIn K (.ref f42) = true)
    (a43:PySem.W.nsIn K mainGlobals "_law_opened" = some (some (.ref f43))) (l43:K.lookup f43 = some ⟨oc43,od43,.func (PySem.W.fnOf "_law_opened" "_law_opened" (aS kQ) (aO kQ) (aF kQ) .none kV43 doc43 pm43 an43 cd43 ct43),sl43⟩) (c43:PySem.W.codeIn K cd43 "_law_opened" = true) (k43:PySem.W.keepIn K (.ref f43) = true)
    (a44:PySem.W.nsIn K mainGlobals "_law_wet" = some (some (.ref f44))) (l44:K.lookup f44 = some ⟨oc44,od44,.func (PySem.W.fnOf "_law_wet" "_law_wet" (aS qY) (aO qY) (aF qY) .none kV44 doc44 pm44 an44 cd44 ct44),sl44⟩) (c44:PySem.W.codeIn K cd44 "_law_wet" = true) (k44:PySem.W.keepIn K (.ref f44) = true)
    (a45:PySem.W.nsIn K mainGlobals "_law_whole" = some (some (.ref f45))) (l45:K.lookup f45 = some ⟨oc45,od45,.func (PySem.W.fnOf "_law_whole" "_law_whole" (aS lZ) (aO lZ) (aF lZ) .none kV45 doc45 pm45 an45 cd45 ct45),sl45⟩) (c45:PySem.W.codeIn K cd45 "_law_whole" = true) (k45:PySem.W.keepIn K (.ref f45) = true)
    (a46:PySem.W.nsIn K mainGlobals "_law_tells" = some (some (.ref f46))) (l46:K.lookup f46 = some ⟨oc46,od46,.func (PySem.W.fnOf "_law_tells" "_law_tells" (aS mB) (aO mB) (aF mB) .none kV46 doc46 pm46 an46 cd46 ct46),sl46⟩) (c46:PySem.W.codeIn K cd46 "_law_tells" = true) (k46:PySem.W.keepIn K (.ref f46) = true)
    (a47:PySem.W.nsIn K mainGlobals "_law_days" = some (some (.ref f47))) (l47:K.lookup f47 = some ⟨oc47,od47,.func (PySem.W.fnOf "_law_days" "_law_days" (aS oO) (aO oO) (aF oO) .none kV47 doc47 pm47 an47 cd47 ct47),sl47⟩) (c47:PySem.W.codeIn K cd47 "_law_days" = true) (k47:PySem.W.keepIn K (.ref f47) = true)
    (a48:PySem.W.nsIn K mainGlobals "_law_raised" = some (some (.ref f48))) (l48:K.lookup f48 = some ⟨oc48,od48,.func (PySem.W.fnOf "_law_raised" "_law_raised" (aS kP) (aO kP) (aF kP) .none kV48 doc48 pm48 an48 cd48 ct48),sl48⟩) (c48:PySem.W.codeIn K cd48 "_law_raised" = true) (k48:PySem.W.keepIn K (.ref f48) = true)
    (a49:PySem.W.nsIn K mainGlobals "law" = some (some (.ref f49))) (l49:K.lookup f49 = some ⟨oc49,od49,.func (PySem.W.fnOf "law" "law" (aS pM) (aO pM) (aF pM) .none kV49 doc49 pm49 an49 cd49 ct49),sl49⟩) (c49:PySem.W.codeIn K cd49 "law" = true) (k49:PySem.W.keepIn K (.ref f49) = true)
    (tg0:PySem.W.nsIn K mainGlobals "DEEDS" = some (some (.ref at0))) (tl0:K.lookup at0 = some ⟨.type "tuple",otd0,.seq its0 nnt0,slt0⟩) (tv0:bS [(.str "open"),(.str "shut")] its0.toList) (tz0:its0.size ≤ sizeLine)
    (tg1:PySem.W.nsIn K mainGlobals "TIDES" = some (some (.ref at1))) (tl1:K.lookup at1 = some ⟨.type "tuple",otd1,.seq its1 nnt1,slt1⟩) (tv1:bS [(.str "above"),(.str "below")] its1.toList) (tz1:its1.size ≤ sizeLine)
    (tg2:PySem.W.nsIn K mainGlobals "WATERS" = some (some (.ref at2))) (tl2:K.lookup at2 = some ⟨.type "tuple",otd2,.seq its2 nnt2,slt2⟩) (tv2:bS [(.str "wet"),(.str "dry")] its2.toList) (tz2:its2.size ≤ sizeLine)
    (g0:PySem.W.nsIn K mainGlobals "SEA" = some (some u0)) (r0:bM (.str "sea") u0)
    (g1:PySem.W.nsIn K mainGlobals "LETTERS" = some (some u1)) (r1:bM (.str "abcdefghijklmnopqrstuvwxyz") u1)
    (g2:PySem.W.nsIn K mainGlobals "MOST_LETTERS" = some (some u2)) (r2:bM (.int 8) u2)
    (g3:PySem.W.nsIn K mainGlobals "MOST_HEIGHT" = some (some u3)) (r3:bM (.int 1000000) u3)
    (g4:PySem.W.nsIn K mainGlobals "MOST_AMOUNT" = some (some u4)) (r4:bM (.int 1000000) u4)
    (g5:PySem.W.nsIn K mainGlobals "MOST_FIELDS" = some (some u5)) (r5:bM (.int 12) u5)
    (g6:PySem.W.nsIn K mainGlobals "MOST_DYKES" = some (some u6)) (r6:bM (.int 40) u6)
    (g7:PySem.W.nsIn K mainGlobals "MOST_DECREES" = some (some u7)) (r7:bM (.int 60) u7)
    (g8:PySem.W.nsIn K mainGlobals "MOST_CONDITIONS" = some (some u8)) (r8:bM (.int 6) u8)
    (g9:PySem.W.nsIn K mainGlobals "MOST_ROUND" = some (some u9)) (r9:bM (.int 100) u9)
    (z0:PySem.W.nsIn K mainGlobals "all" = some none)
    (z1:PySem.W.nsIn K mainGlobals "bool" = some none)
    (z2:PySem.W.nsIn K mainGlobals "dict" = some none)
    (z3:PySem.W.nsIn K mainGlobals "int" = some none)
    (z4:PySem.W.nsIn K mainGlobals "isinstance" = some none)
    (z5:PySem.W.nsIn K mainGlobals "len" = some none)
    (z6:PySem.W.nsIn K mainGlobals "list" = some none)
    (z7:PySem.W.nsIn K mainGlobals "max" = some none)
    (z8:PySem.W.nsIn K mainGlobals "min" = some none)
    (z9:PySem.W.nsIn K mainGlobals "range" = some none)
    (z10:PySem.W.nsIn K mainGlobals "set" = some none)
    (z11:PySem.W.nsIn K mainGlobals "str" = some none)
    (z12:PySem.W.nsIn K mainGlobals "tuple" = some none)  :Txt K mg C :=
  ⟨⟨pgC,hdC,poC,saC⟩,
   PySem.W.mg_of X G aC,
   n_field_rows,
   n_dyke_rows,
   aEV ma18 mi18 ml18 mc18 mk18 mkC kpC (fun _ _ _ _ _ _ us hl=>match us,hl with | [_,_,_],_=>rfl),
   eZ ma19 mi19 ml19 mc19 mk19 (fun _ _ _ _ _ _ us hl=>match us,hl with | [_],_=>rfl),
   eZ ma20 mi20 ml20 mc20 mk20 (fun _ _ _ _ _ _ us hl=>match us,hl with | [_],_=>rfl),
   eZ ma21 mi21 ml21 mc21 mk21 (fun _ _ _ _ _ _ us hl=>match us,hl with | [_],_=>rfl),
   eZ ma22 mi22 ml22 mc22 mk22 (fun _ _ _ _ _ _ us hl=>match us,hl with | [_],_=>rfl),
   eZ ma23 mi23 ml23 mc23 mk23 (fun _ _ _ _ _ _ us hl=>match us,hl with | [_],_=>rfl),
   eZ ma24 mi24 ml24 mc24 mk24 (fun _ _ _ _ _ _ us hl=>match us,hl with | [_,_],_=>rfl),
   eZ ma25 mi25 ml25 mc25 mk25 (fun _ _ _ _ _ _ us hl=>match us,hl with | [_,_],_=>rfl),
   eZ ma26 mi26 ml26 mc26 mk26 (fun _ _ _ _ _ _ us hl=>match us,hl with | [_,_],_=>rfl),
   eZ ma27 mi27 ml27 mc27 mk27 (fun _ _ _ _ _ _ us hl=>match us,hl with | [_,_],_=>rfl),
   ⟨C_Season,⟨pgCSeason,hdCSeason,poCSeason,saCSeason⟩,PySem.W.mg_of X G aCSeason,nSeason_on_land,nSeason_own_decrees,nSeason_open_names,nSeason_wet_names,nSeason_day_count,nSeason_wet_counts,aEV ma43 mi43 ml43 mc43 mk43 mkCSeason kpCSeason (fun _ _ _ _ _ _ us hl=>match us,hl with | [_,_,_],_=>rfl),eZ ma44 mi44 ml44 mc44 mk44 (fun _ _ _ _ _ _ us hl=>match us,hl with | [_,_],_=>rfl),eZ ma45 mi45 ml45 mc45 mk45 (fun _ _ _ _ _ _ us hl=>match us,hl with | [_,_],_=>rfl),eZ ma46 mi46 ml46 mc46 mk46 (fun _ _ _ _ _ _ us hl=>match us,hl with | [_],_=>rfl),eZ ma47 mi47 ml47 mc47 mk47 (fun _ _ _ _ _ _ us hl=>match us,hl with | [_],_=>rfl),eZ ma48 mi48 ml48 mc48 mk48 (fun _ _ _ _ _ _ us hl=>match us,hl with | [_],_=>rfl),eZ ma49 mi49 ml49 mc49 mk49 (fun _ _ _ _ _ _ us hl=>match us,hl with | [_],_=>rfl),eZ ma50 mi50 ml50 mc50 mk50 (fun _ _ _ _ _ _ us hl=>match us,hl with | [_,_],_=>rfl)⟩,
   bL X G a0 l0 c0 k0 (fun _ _ _ _ _ _ us hl=>match us,hl with | [_],_=>rfl),
   bL X G a1 l1 c1 k1 (fun _ _ _ _ _ _ us hl=>match us,hl with | [_],_=>rfl),
   bL X G a2 l2 c2 k2 (fun _ _ _ _ _ _ us hl=>match us,hl with | [_],_=>rfl),
   bL X G a3 l3 c3 k3 (fun _ _ _ _ _ _ us hl=>match us,hl with | [_],_=>rfl),
   bL X G a4 l4 c4 k4 (fun _ _ _ _ _ _ us hl=>match us,hl with | [_],_=>rfl),
   bL X G a5 l5 c5 k5 (fun _ _ _ _ _ _ us hl=>match us,hl with | [_,_],_=>rfl),
   bL X G a6 l6 c6 k6 (fun _ _ _ _ _ _ us hl=>match us,hl with | [_,_],_=>rfl),
   bL X G a7 l7 c7 k7 (fun _ _ _ _ _ _ us hl=>match us,hl with | [_,_],_=>rfl),
   bL X G a8 l8 c8 k8 (fun _ _ _ _ _ _ us hl=>match us,hl with | [_],_=>rfl),
   bL X G a9 l9 c9 k9 (fun _ _ _ _ _ _ us hl=>match us,hl with | [_],_=>rfl),
   bL X G a10 l10 c10 k10 (fun _ _ _ _ _ _ us hl=>match us,hl with | [_],_=>rfl),
   bL X G a11 l11 c11 k11 (fun _ _ _ _ _ _ us hl=>match us,hl with | [_,_,_],_=>rfl),
   bL X G a12 l12 c12 k12 (fun _ _ _ _ _ _ us hl=>match us,hl with | [_,_],_=>rfl),
   bL X G a13 l13 c13 k13 (fun _ _ _ _ _ _ us hl=>match us,hl with | [_,_],_=>rfl),
   bL X G a14 l14 c14 k14 (fun _ _ _ _ _ _ us hl=>match us,hl with | [_,_],_=>rfl),
   bL X G a15 l15 c15 k15 (fun _ _ _ _ _ _ us hl=>match us,hl with | [_,_],_=>rfl),
   bL X G a16 l16 c16 k16 (fun _ _ _ _ _ _ us hl=>match us,hl with | [_,_],_=>rfl),
   bL X G a17 l17 c17 k17 (fun _ _ _ _ _ _ us hl=>match us,hl with | [_,_],_=>rfl),
   bL X G a18 l18 c18 k18 (fun _ _ _ _ _ _ us hl=>match us,hl with | [_,_],_=>rfl),
   bL X G a19 l19 c19 k19 (fun _ _ _ _ _ _ us hl=>match us,hl with | [_,_],_=>rfl),
   bL X G a20 l20 c20 k20 (fun _ _ _ _ _ _ us hl=>match us,hl with | [_,_],_=>rfl),
   bL X G a21 l21 c21 k21 (fun _ _ _ _ _ _ us hl=>match us,hl with | [_,_],_=>rfl),
   bL X G a22 l22 c22 k22 (fun _ _ _ _ _ _ us hl=>match us,hl with | [_,_],_=>rfl),
   bL X G a23 l23 c23 k23 (fun _ _ _ _ _ _ us hl=>match us,hl with | [_,_],_=>rfl),
   bL X G a24 l24 c24 k24 (fun _ _ _ _ _ _ us hl=>match us,hl with | [_,_,_],_=>rfl),
   bL X G a25 l25 c25 k25 (fun _ _ _ _ _ _ us hl=>match us,hl with | [_,_],_=>rfl),
   bL X G a26 l26 c26 k26 (fun _ _ _ _ _ _ us hl=>match us,hl with | [_,_],_=>rfl),
   bL X G a27 l27 c27 k27 (fun _ _ _ _ _ _ us hl=>match us,hl with | [_],_=>rfl),
   bL X G a28 l28 c28 k28 (fun _ _ _ _ _ _ us hl=>match us,hl with | [_,_,_,_],_=>rfl),
   bL X G a29 l29 c29 k29 (fun _ _ _ _ _ _ us hl=>match us,hl with | [_,_,_,_],_=>rfl),
   bL X G a30 l30 c30 k30 (fun _ _ _ _ _ _ us hl=>match us,hl with | [_,_,_,_,_,_],_=>rfl),
   bL X G a31 l31 c31 k31 (fun _ _ _ _ _ _ us hl=>match us,hl with | [_,_,_,_],_=>rfl),
   bL X G a32 l32 c32 k32 (fun _ _ _ _ _ _ us hl=>match us,hl with | [_,_,_,_],_=>rfl),
   bL X G a33 l33 c33 k33 (fun _ _ _ _ _ _ us hl=>match us,hl with | [_,_],_=>rfl),
   bL X G a34 l34 c34 k34 (fun _ _ _ _ _ _ us hl=>match us,hl with | [_],_=>rfl),
   bL X G a35 l35 c35 k35 (fun _ _ _ _ _ _ us hl=>match us,hl with | [_],_=>rfl),
   bL X G a36 l36 c36 k36 (fun _ _ _ _ _ _ us hl=>match us,hl with | [_,_],_=>rfl),
   bL X G a37 l37 c37 k37 (fun _ _ _ _ _ _ us hl=>match us,hl with | [_,_,_,_],_=>rfl),
   bL X G a38 l38 c38 k38 (fun _ _ _ _ _ _ us hl=>match us,hl with | [_,_],_=>rfl),
   bL X G a39 l39 c39 k39 (fun _ _ _ _ _ _ us hl=>match us,hl with | [_,_,_],_=>rfl),
   bL X G a40 l40 c40 k40 (fun _ _ _ _ _ _ us hl=>match us,hl with | [_,_,_,_,_],_=>rfl),
   bL X G a41 l41 c41 k41 (fun _ _ _ _ _ _ us hl=>match us,hl with | [_,_],_=>rfl),
   bL X G a42 l42 c42 k42 (fun _ _ _ _ _ _ us hl=>match us,hl with | [_,_,_,_],_=>rfl),
   bL X G a43 l43 c43 k43 (fun _ _ _ _ _ _ us hl=>match us,hl with | [_,_,_,_,_,_],_=>rfl),
   bL X G a44 l44 c44 k44 (fun _ _ _ _ _ _ us hl=>match us,hl with | [_,_,_,_],_=>rfl),
   bL X G a45 l45 c45 k45 (fun _ _ _ _ _ _ us hl=>match us,hl with | [_],_=>rfl),
   bL X G a46 l46 c46 k46 (fun _ _ _ _ _ _ us hl=>match us,hl with | [_,_,_,_],_=>rfl),
   bL X G a47 l47 c47 k47 (fun _ _ _ _ _ _ us hl=>match us,hl with | [_,_,_,_,_,_],_=>rfl),
   bL X G a48 l48 c48 k48 (fun _ _ _ _ _ _ us hl=>match us,hl with | [_,_],_=>rfl),
   bL X G a49 l49 c49 k49 (fun _ _ _ _ _ _ us hl=>match us,hl with | [_],_=>rfl),
   ⟨at0,PySem.W.mg_of X G tg0,fun _=>.inr ⟨_,its0,nnt0,tl0,rfl,rfl,tz0,tv0⟩⟩,
   ⟨at1,PySem.W.mg_of X G tg1,fun _=>.inr ⟨_,its1,nnt1,tl1,rfl,rfl,tz1,tv1⟩⟩,
   ⟨at2,PySem.W.mg_of X G tg2,fun _=>.inr ⟨_,its2,nnt2,tl2,rfl,rfl,tz2,tv2⟩⟩,
   jF X G g0 r0,
   jF X G g1 r1,
   jF X G g2 r2,
   jF X G g3 r3,
   jF X G g4 r4,
   jF X G g5 r5,
   jF X G g6 r6,
   jF X G g7 r7,
   jF X G g8 r8,
   jF X G g9 r9,
   PySem.W.mg_none_of X G z0,
   PySem.W.mg_none_of X G z1,
   PySem.W.mg_none_of X G z2,
   PySem.W.mg_none_of X G z3,
   PySem.W.mg_none_of X G z4,
   PySem.W.mg_none_of X G z5,
   PySem.W.mg_none_of X G z6,
   PySem.W.mg_none_of X G z7,
   PySem.W.mg_none_of X G z8,
   PySem.W.mg_none_of X G z9,
   PySem.W.mg_none_of X G z10,
   PySem.W.mg_none_of X G z11,
   PySem.W.mg_none_of X G z12⟩
end K49
namespace PySem.W.Fast
def tw17370112805443008629 := 0
def tw17652254981624786700 := 0
def tw14615674747224835548 := 0
def tw8329129722690425263 := 0
def tw14274155434946480868 := 0
def tw7855352122925956849 := 0
def tw11357340114082297779 := 0
def tw13798411723451936592 := 0
def tw6893207655305213607 := 0
def tw2518414515552151632 := 0
def tw13877818498933090486 := 0
def tw10278245455785438043 := 0
def tw5202180881470151395 := 0
def tw3616161725999456824 := 0
def tw14127739218246526003 := 0
def tw13190496742402821740 := 0
def tw17253471138792138427 := 0
def tw1780260522388637012 := 0
def tw10245327619671292012 := 0
def tw14132725826525673973 := 0
def tw3616868299269122275 := 0
def tw5894810331750819175 := 0
def tw5335776246808992262 := 0
def tw4444634186211715247 := 0
def tw9371848079638816860 := 0
def tw4983576023158854012 := 0
def tw808225134952338925 := 0
def tw14573470100264809561 := 0
def tw2236955400374325152 := 0
def tw10055841041304081317 := 0
def tw5203507470015278650 := 0
def tw6512772432230341798 := 0
def tw6705204301244857421 := 0
def tw6219915155388630617 := 0
def tw15107107992891785877 := 0
def tw10905157409913875560 := 0
def tw1527246220574866546 := 0
def tw783314966171695809 := 0
def tw14100716194896830872 := 0
def tw18313052947097320191 := 0
def tw1689489579770308334 := 0
def tw3338616524447928543 := 0
def tw2570335113145607590 := 0
def tw3995578139258141372 := 0
def tw1831346838470018435 := 0
def tw13025361951287096789 := 0
def tw4514549250448337445 := 0
def tw2393800275949675628 := 0
def tw6883698049438220082 := 0
def tw5347916439113610342 := 0
def tw8642794789514404833 := 0
def tw12651529099801823620 := 0
def tw4693049553938939628 := 0
def tw8240510935058956565 := 0
def tw9396173646706756838 := 0
def tw16562164319411719153 := 0
def tw17565140412999555113 := 0
def tw210680601863647159 := 0
def tw9490916111498940120 := 0
def tw10612593308199400978 := 0
def tw12700797211303182601 := 0
def tw7894385858906842510 := 0
def tw8380891443465843213 := 0
def tw5353972290702596202 := 0
def tw12575516500823549194 := 0
def tw13362547388039918712 := 0
def tw14103940819616685674 := 0
def tw15397291883942840286 := 0
def tw1323174450520827253 := 0
def tw5716953873616256761 := 0
def tw6779231264531015231 := 0
def tw2511081840571104847 := 0
def tw3714091279916515995 := 0
def tw119534346808992166 := 0
def tw3440517777977198634 := 0
def tw10397074944901355699 := 0
def tw8801386254406246261 := 0
def tw15831347225982217139 := 0
def tw17048983235372500636 := 0
def tw4571060693786498444 := 0
def tw11594321752235902546 := 0
def tw2596997818466827923 := 0
def tw14989512914121998212 := 0
def tw4946665350670860896 := 0
def tw17045370859860573804 := 0
def tw8307722393285457499 := 0
def tw17725148660554369189 := 0
def tw4040277386141477100 := 0
def tw7112500399765165154 := 0
def tw3849379965411474374 := 0
def tw7222746770515309806 := 0
def tw12435194432375671549 := 0
def tw18099937399239440686 := 0
def tw16441415734669579576 := 0
def tw8211645941027487155 := 0
def tw8185487249842263838 := 0
def tw3905574554822478424 := 0
def tw4221452432839552488 := 0
def tw3235328755233982989 := 0
def tw12951552397400016226 := 0
def tw13680848303148337345 := 0
def tw11136344751559921658 := 0
def tw2403982568832884140 := 0
def tw5547464784657210285 := 0
def tw17164993182218311132 := 0
def tw16686562203542763736 := 0
def tw15113300596546702312 := 0
def tw7263863336053213928 := 0
def tw15682468881996284664 := 0
def tw3930412709281449054 := 0
def tw17681605213401824808 := 0
def tw5435075171511079443 := 0
def tw13537676016359681953 := 0
def tw7792072003196123175 := 0
def tw1906139078536583572 := 0
def tw1066813807951062212 := 0
def tw14137803808167627672 := 0
def tw1635719990271576871 := 0
def tw7146557373602812891 := 0
def tw13926409976049876965 := 0
def tw31919557612402189 := 0
def tw15412772041232423019 := 0
def tw13917845805045542010 := 0
def tw11254928159497082521 := 0
def tw17381563829459739499 := 0
def tw8595733248128191148 := 0
def tw190821961045814541 := 0
def tw1199292081438489718 := 0
end PySem.W.Fast
open PySem PySem.W PyProof.Rows
set_option maxRecDepth 100000 in
set_option maxHeartbeats 0 in
theorem PySem.Challenge.cw_dykemoot_k49_led_on_holds : PySem.Challenge.rw_dykemoot_k49_led_on.Holds := by
 w_on; o_law; k_head; (case hw => w_witness2)
 k_fill
 refine L2.walk_law (l := PySem.Challenge.rw_dykemoot_k49_led_on) 13 ⟨rfl, by decide, by decide⟩ rfl rfl (fun w h Y => PySem.W.kIn_of Y) ?F
 case F =>
  intro w mg fa h KX G hmg
  refine' K49.law_mk hmg (K49.txt_mk KX G ?xaC ?xpgC ?xhdC ?xpoC ?xsaC ?xmkC ?xkpC ?xn_field_rows ?xn_dyke_rows ?xma18 ?xmi18 ?xml18 ?xmc18 ?xmk18 ?xma19 ?xmi19 ?xml19 ?xmc19 ?xmk19 ?xma20 ?xmi20 ?xml20 ?xmc20 ?xmk20 ?xma21 ?xmi21 ?xml21 ?xmc21 ?xmk21 ?xma22 ?xmi22 ?xml22 ?xmc22 ?xmk22 ?xma23 ?xmi23 ?xml23 ?xmc23 ?xmk23 ?xma24 ?xmi24 ?xml24 ?xmc24 ?xmk24 ?xma25 ?xmi25 ?xml25 ?xmc25 ?xmk25 ?xma26 ?xmi26 ?xml26 ?xmc26 ?xmk26 ?xma27 ?xmi27 ?xml27 ?xmc27 ?xmk27 ?xaCSeason ?xpgCSeason ?xhdCSeason ?xpoCSeason ?xsaCSeason ?xmkCSeason ?xkpCSeason ?xnSeason_on_land ?xnSeason_own_decrees ?xnSeason_open_names ?xnSeason_wet_names ?xnSeason_day_count ?xnSeason_wet_counts ?xma43 ?xmi43 ?xml43 ?xmc43 ?xmk43 ?xma44 ?xmi44 ?xml44 ?xmc44 ?xmk44 ?xma45 ?xmi45 ?xml45 ?xmc45 ?xmk45 ?xma46 ?xmi46 ?xml46 ?xmc46 ?xmk46 ?xma47 ?xmi47 ?xml47 ?xmc47 ?xmk47 ?xma48 ?xmi48 ?xml48 ?xmc48 ?xmk48 ?xma49 ?xmi49 ?xml49 ?xmc49 ?xmk49 ?xma50 ?xmi50 ?xml50 ?xmc50 ?xmk50 ?xa0 ?xl0 ?xc0 ?xk0 ?xa1 ?xl1 ?xc1 ?xk1 ?xa2 ?xl2 ?xc2 ?xk2 ?xa3 ?xl3 ?xc3 ?xk3 ?xa4 ?xl4 ?xc4 ?xk4 ?xa5 ?xl5 ?xc5 ?xk5 ?xa6 ?xl6 ?xc6 ?xk6 ?xa7 ?xl7 ?xc7 ?xk7 ?xa8 ?xl8 ?xc8 ?xk8 ?xa9 ?xl9 ?xc9 ?xk9 ?xa10 ?xl10 ?xc10 ?xk10 ?xa11 ?xl11 ?xc11 ?xk11 ?xa12 ?xl12 ?xc12 ?xk12 ?xa13 ?xl13 ?xc13 ?xk13 ?xa14 ?xl14 ?xc14 ?xk14 ?xa15 ?xl15 ?xc15 ?xk15 ?xa16 ?xl16 ?xc16 ?xk16 ?xa17 ?xl17 ?xc17 ?xk17 ?xa18 ?xl18 ?xc18 ?xk18 ?xa19 ?xl19 ?xc19 ?xk19 ?xa20 ?xl20 ?xc20 ?xk20 ?xa21 ?xl21 ?xc21 ?xk21 ?xa22 ?xl22 ?xc22 ?xk22 ?xa23 ?xl23 ?xc23 ?xk23 ?xa24 ?xl24 ?xc24 ?xk24 ?xa25 ?xl25 ?xc25 ?xk25 ?xa26 ?xl26 ?xc26 ?xk26 ?xa27 ?xl27 ?xc27 ?xk27 ?xa28 ?xl28 ?xc28 ?xk28 ?xa29 ?xl29 ?xc29 ?xk29 ?xa30 ?xl30 ?xc30 ?xk30 ?xa31 ?xl31 ?xc31 ?xk31 ?xa32 ?xl32 ?xc32 ?xk32 ?xa33 ?xl33 ?xc33 ?xk33 ?xa34 ?xl34 ?xc34 ?xk34 ?xa35 ?xl35 ?xc35 ?xk35 ?xa36 ?xl36 ?xc36 ?xk36 ?xa37 ?xl37 ?xc37 ?xk37 ?xa38 ?xl38 ?xc38 ?xk38 ?xa39 ?xl39 ?xc39 ?xk39 ?xa40 ?xl40 ?xc40 ?xk40 ?xa41 ?xl41 ?xc41 ?xk41 ?xa42 ?xl42 ?xc42 ?xk42 ?xa43 ?xl43 ?xc43 ?xk43 ?xa44 ?xl44 ?xc44 ?xk44 ?xa45 ?xl45 ?xc45 ?xk45 ?xa46 ?xl46 ?xc46 ?xk46 ?xa47 ?xl47 ?xc47 ?xk47 ?xa48 ?xl48 ?xc48 ?xk48 ?xa49 ?xl49 ?xc49 ?xk49 ?xtg0 ?xtl0 ?xtv0 ?xtz0 ?xtg1 ?xtl1 ?xtv1 ?xtz1 ?xtg2 ?xtl2 ?xtv2 ?xtz2 ?xg0 ?xr0 ?xg1 ?xr1 ?xg2 ?xr2 ?xg3 ?xr3 ?xg4 ?xr4 ?xg5 ?xr5 ?xg6 ?xr6 ?xg7 ?xr7 ?xg8 ?xr8 ?xg9 ?xr9 ?xz0 ?xz1 ?xz2 ?xz3 ?xz4 ?xz5 ?xz6 ?xz7 ?xz8 ?xz9 ?xz10 ?xz11 ?xz12)
  (case xaC => k_is)
  (case xpgC => k_is)
  (case xhdC => k_is)
  (case xpoC => k_is)
  (case xsaC => k_is)
  (case xmkC => k_is)
  (case xkpC => k_is)
  (case xn_field_rows => k_is)
  (case xn_dyke_rows => k_is)
  (case xma18 => k_is)
  (case xmi18 => k_is)
  (case xml18 => k_is)
  (case xmc18 => k_is)
  (case xmk18 => k_is)
  (case xma19 => k_is)
  (case xmi19 => k_is)
  (case xml19 => k_is)
  (case xmc19 => k_is)
  (case xmk19 => k_is)
  (case xma20 => k_is)
  (case xmi20 => k_is)
  (case xml20 => k_is)
  (case xmc20 => k_is)
  (case xmk20 => k_is)
  (case xma21 => k_is)
  (case xmi21 => k_is)
  (case xml21 => k_is)
  (case xmc21 => k_is)
  (case xmk21 => k_is)
  (case xma22 => k_is)
  (case xmi22 => k_is)
  (case xml22 => k_is)
  (case xmc22 => k_is)
  (case xmk22 => k_is)
  (case xma23 => k_is)
  (case xmi23 => k_is)
  (case xml23 => k_is)
  (case xmc23 => k_is)
  (case xmk23 => k_is)
  (case xma24 => k_is)
  (case xmi24 => k_is)
  (case xml24 => k_is)
  (case xmc24 => k_is)
  (case xmk24 => k_is)
  (case xma25 => k_is)
  (case xmi25 => k_is)
  (case xml25 => k_is)
  (case xmc25 => k_is)
  (case xmk25 => k_is)
  (case xma26 => k_is)
  (case xmi26 => k_is)
  (case xml26 => k_is)
  (case xmc26 => k_is)
  (case xmk26 => k_is)
  (case xma27 => k_is)
  (case xmi27 => k_is)
  (case xml27 => k_is)
  (case xmc27 => k_is)
  (case xmk27 => k_is)
  (case xaCSeason => k_is)
  (case xpgCSeason => k_is)
  (case xhdCSeason => k_is)
  (case xpoCSeason => k_is)
  (case xsaCSeason => k_is)
  (case xmkCSeason => k_is)
  (case xkpCSeason => k_is)
  (case xnSeason_on_land => k_is)
  (case xnSeason_own_decrees => k_is)
  (case xnSeason_open_names => k_is)
  (case xnSeason_wet_names => k_is)
  (case xnSeason_day_count => k_is)
  (case xnSeason_wet_counts => k_is)
  (case xma43 => k_is)
  (case xmi43 => k_is)
  (case xml43 => k_is)
  (case xmc43 => k_is)
  (case xmk43 => k_is)
  (case xma44 => k_is)
  (case xmi44 => k_is)
  (case xml44 => k_is)
  (case xmc44 => k_is)
  (case xmk44 => k_is)
  (case xma45 => k_is)
  (case xmi45 => k_is)
  (case xml45 => k_is)
  (case xmc45 => k_is)
  (case xmk45 => k_is)
  (case xma46 => k_is)
  (case xmi46 => k_is)
  (case xml46 => k_is)
  (case xmc46 => k_is)
  (case xmk46 => k_is)
  (case xma47 => k_is)
  (case xmi47 => k_is)
  (case xml47 => k_is)
  (case xmc47 => k_is)
  (case xmk47 => k_is)
  (case xma48 => k_is)
  (case xmi48 => k_is)
  (case xml48 => k_is)
  (case xmc48 => k_is)
  (case xmk48 => k_is)
  (case xma49 => k_is)
  (case xmi49 => k_is)
  (case xml49 => k_is)
  (case xmc49 => k_is)
  (case xmk49 => k_is)
  (case xma50 => k_is)
  (case xmi50 => k_is)
  (case xml50 => k_is)
  (case xmc50 => k_is)
  (case xmk50 => k_is)
  (case xa0 => k_is)
  (case xl0 => k_is)
  (case xc0 => k_is)
  (case xk0 => k_is)
  (case xa1 => k_is)
  (case xl1 => k_is)
  (case xc1 => k_is)
  (case xk1 => k_is)
  (case xa2 => k_is)
  (case xl2 => k_is)
  (case xc2 => k_is)
  (case xk2 => k_is)
  (case xa3 => k_is)
  (case xl3 => k_is)
  (case xc3 => k_is)
  (case xk3 => k_is)
  (case xa4 => k_is)
  (case xl4 => k_is)
  (case xc4 => k_is)
  (case xk4 => k_is)
  (case xa5 => k_is)
  (case xl5 => k_is)
  (case xc5 => k_is)
  (case xk5 => k_is)
  (case xa6 => k_is)
  (case xl6 => k_is)
  (case xc6 => k_is)
  (case xk6 => k_is)
  (case xa7 => k_is)
  (case xl7 => k_is)
  (case xc7 => k_is)
  (case xk7 => k_is)
  (case xa8 => k_is)
  (case xl8 => k_is)
  (case xc8 => k_is)
  (case xk8 => k_is)
  (case xa9 => k_is)
  (case xl9 => k_is)
  (case xc9 => k_is)
  (case xk9 => k_is)
  (case xa10 => k_is)
  (case xl10 => k_is)
  (case xc10 => k_is)
  (case xk10 => k_is)
  (case xa11 => k_is)
  (case xl11 => k_is)
  (case xc11 => k_is)
  (case xk11 => k_is)
  (case xa12 => k_is)
  (case xl12 => k_is)
  (case xc12 => k_is)
  (case xk12 => k_is)
  (case xa13 => k_is)
  (case xl13 => k_is)
  (case xc13 => k_is)
  (case xk13 => k_is)
  (case xa14 => k_is)
  (case xl14 => k_is)
  (case xc14 => k_is)
  (case xk14 => k_is)
  (case xa15 => k_is)
  (case xl15 => k_is)
  (case xc15 => k_is)
  (case xk15 => k_is)
  (case xa16 => k_is)
  (case xl16 => k_is)
  (case xc16 => k_is)
  (case xk16 => k_is)
  (case xa17 => k_is)
  (case xl17 => k_is)
  (case xc17 => k_is)
  (case xk17 => k_is)
  (case xa18 => k_is)
  (case xl18 => k_is)
  (case xc18 => k_is)
  (case xk18 => k_is)
  (case xa19 => k_is)
  (case xl19 => k_is)
  (case xc19 => k_is)
  (case xk19 => k_is)
  (case xa20 => k_is)
  (case xl20 => k_is)
  (case xc20 => k_is)
  (case xk20 => k_is)
  (case xa21 => k_is)
  (case xl21 => k_is)
  (case xc21 => k_is)
  (case xk21 => k_is)
  (case xa22 => k_is)
  (case xl22 => k_is)
  (case xc22 => k_is)
  (case xk22 => k_is)
  (case xa23 => k_is)
  (case xl23 => k_is)
  (case xc23 => k_is)
  (case xk23 => k_is)
  (case xa24 => k_is)
  (case xl24 => k_is)
  (case xc24 => k_is)
  (case xk24 => k_is)
  (case xa25 => k_is)
  (case xl25 => k_is)
  (case xc25 => k_is)
  (case xk25 => k_is)
  (case xa26 => k_is)
  (case xl26 => k_is)
  (case xc26 => k_is)
  (case xk26 => k_is)
  (case xa27 => k_is)
  (case xl27 => k_is)
  (case xc27 => k_is)
  (case xk27 => k_is)
  (case xa28 => k_is)
  (case xl28 => k_is)
  (case xc28 => k_is)
  (case xk28 => k_is)
  (case xa29 => k_is)
  (case xl29 => k_is)
  (case xc29 => k_is)
  (case xk29 => k_is)
  (case xa30 => k_is)
  (case xl30 => k_is)
  (case xc30 => k_is)
  (case xk30 => k_is)
  (case xa31 => k_is)
  (case xl31 => k_is)
  (case xc31 => k_is)
  (case xk31 => k_is)
  (case xa32 => k_is)
  (case xl32 => k_is)
  (case xc32 => k_is)
  (case xk32 => k_is)
  (case xa33 => k_is)
  (case xl33 => k_is)
  (case xc33 => k_is)
  (case xk33 => k_is)
  (case xa34 => k_is)
  (case xl34 => k_is)
  (case xc34 => k_is)
  (case xk34 => k_is)
  (case xa35 => k_is)
  (case xl35 => k_is)
  (case xc35 => k_is)
  (case xk35 => k_is)
  (case xa36 => k_is)
  (case xl36 => k_is)
  (case xc36 => k_is)
  (case xk36 => k_is)
  (case xa37 => k_is)
  (case xl37 => k_is)
  (case xc37 => k_is)
  (case xk37 => k_is)
  (case xa38 => k_is)
  (case xl38 => k_is)
  (case xc38 => k_is)
  (case xk38 => k_is)
  (case xa39 => k_is)
  (case xl39 => k_is)
  (case xc39 => k_is)
  (case xk39 => k_is)
  (case xa40 => k_is)
  (case xl40 => k_is)
  (case xc40 => k_is)
  (case xk40 => k_is)
  (case xa41 => k_is)
  (case xl41 => k_is)
  (case xc41 => k_is)
  (case xk41 => k_is)
  (case xa42 => k_is)
  (case xl42 => k_is)
  (case xc42 => k_is)
  (case xk42 => k_is)
  (case xa43 => k_is)
  (case xl43 => k_is)
  (case xc43 => k_is)
  (case xk43 => k_is)
  (case xa44 => k_is)
  (case xl44 => k_is)
  (case xc44 => k_is)
  (case xk44 => k_is)
  (case xa45 => k_is)
  (case xl45 => k_is)
  (case xc45 => k_is)
  (case xk45 => k_is)
  (case xa46 => k_is)
  (case xl46 => k_is)
  (case xc46 => k_is)
  (case xk46 => k_is)
  (case xa47 => k_is)
  (case xl47 => k_is)
  (case xc47 => k_is)
  (case xk47 => k_is)
  (case xa48 => k_is)
  (case xl48 => k_is)
  (case xc48 => k_is)
  (case xk48 => k_is)
  (case xa49 => k_is)
  (case xl49 => k_is)
  (case xc49 => k_is)
  (case xk49 => k_is)
  (case xtg0 => k_is)
  (case xtl0 => k_is)
  (case xtv0 => repeat (first | exact .nil | refine .cons ⟨_, rfl⟩ ?_))
  (case xtz0 => decide)
  (case xtg1 => k_is)
  (case xtl1 => k_is)
  (case xtv1 => repeat (first | exact .nil | refine .cons ⟨_, rfl⟩ ?_))
  (case xtz1 => decide)
  (case xtg2 => k_is)
  (case xtl2 => k_is)
  (case xtv2 => repeat (first | exact .nil | refine .cons ⟨_, rfl⟩ ?_))
  (case xtz2 => decide)
  (case xg0 => k_is)
  (case xr0 => exact ⟨_, rfl⟩)
  (case xg1 => k_is)
  (case xr1 => exact ⟨_, rfl⟩)
  (case xg2 => k_is)
  (case xr2 => exact ⟨_, rfl⟩)
  (case xg3 => k_is)
  (case xr3 => exact ⟨_, rfl⟩)
  (case xg4 => k_is)
  (case xr4 => exact ⟨_, rfl⟩)
  (case xg5 => k_is)
  (case xr5 => exact ⟨_, rfl⟩)
  (case xg6 => k_is)
  (case xr6 => exact ⟨_, rfl⟩)
  (case xg7 => k_is)
  (case xr7 => exact ⟨_, rfl⟩)
  (case xg8 => k_is)
  (case xr8 => exact ⟨_, rfl⟩)
  (case xg9 => k_is)
  (case xr9 => exact ⟨_, rfl⟩)
  (case xz0 => k_is)
  (case xz1 => k_is)
  (case xz2 => k_is)
  (case xz3 => k_is)
  (case xz4 => k_is)
  (case xz5 => k_is)
  (case xz6 => k_is)
  (case xz7 => k_is)
  (case xz8 => k_is)
  (case xz9 => k_is)
  (case xz10 => k_is)
  (case xz11 => k_is)
  (case xz12 => k_is)
