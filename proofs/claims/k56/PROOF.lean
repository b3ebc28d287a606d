import PyProof.Rows.All
import Wide.All
import OpenK.AllK
import Wide.FinOn
import Lean
import PyProof.EqAt
import PyProof.EqKinds
import PyProof.TupleCall
import PyProof.StrBlockI
import PyProof.SliceList
import PyProof.StrLawsIn
import PyProof.StrLaws
import PyProof.DictValues
import KE.KItemsList
import KE.KEqDict
import PyProof.DictItems
import PyProof.MeetsDictList
import PySem.Challenge.RW_dykemoot_k56_papers_for_streams
set_option Elab.async false
set_option linter.all false
set_option maxRecDepth 100000
namespace L2
open PySem PySem.Spec PyProof.Rows
abbrev Key:=Sum Int Str
def uC:Key → Value → Bool
 | .inl k,v=>Value.isInt k v
 | .inr x,v=>Value.isStrOf x v
def aPD (w:World):Key → Int
 | .inl k=>hashInt k
 | .inr x=>hashStr w x
theorem cS:∀ {k:Key} {v:Value},uC k v = true → (∃ i t,k = Sum.inl i ∧ v = Value.int i t) ∨ (∃ x t,k = Sum.inr x ∧ v = Value.str x t)
 | .inl i,v,h=>by
  obtain ⟨t,e⟩:=Value.isInt_shape (k:=i) (v:=v) h
  exact .inl ⟨i,t,rfl,e⟩
 | .inr x,v,h=>by
  obtain ⟨t,e⟩:=Value.isStrOf_shape (x:=x) (v:=v) h
  exact .inr ⟨x,t,rfl,e⟩
theorem qU (i:Int) (t:Tok):uC (.inl i) (.int i t) = true:=by simp [uC,Value.isInt]
theorem qT (x:Str) (t:Tok):uC (.inr x) (.str x t) = true:=by simp [uC,Value.isStrOf]
theorem aMG (a b:Int):decide ((Sum.inl a:Key) = Sum.inl b) = (a == b):=by
 by_cases e:a = b
 ·subst e;simp
 ·have h:¬ (Sum.inl a:Key) = Sum.inl b:=fun q=>e (Sum.inl.inj q)
  rw [decide_eq_false h]
  exact (beq_eq_false_iff_ne.mpr e).symm
theorem aMD (a b:Str):decide ((Sum.inr a:Key) = Sum.inr b) = decide (a = b):=by
 by_cases e:a = b
 ·subst e;simp
 ·have h:¬ (Sum.inr a:Key) = Sum.inr b:=fun q=>e (Sum.inr.inj q)
  rw [decide_eq_false h,decide_eq_false e]
theorem aMF (a:Int) (b:Str):decide ((Sum.inl a:Key) = Sum.inr b) = false:=decide_eq_false (fun q=>nomatch q)
theorem aME (a:Str) (b:Int):decide ((Sum.inr a:Key) = Sum.inl b) = false:=decide_eq_false (fun q=>nomatch q)
def aV (prog:Program) (w:World):PySem.KeyKind prog w Key where
 is:=uC
 hash:=aPD w
 inj:=fun v a b ha hb=>by
  rcases cS ha with ⟨i,t,rfl,rfl⟩ | ⟨x,t,rfl,rfl⟩
  ·rcases cS hb with ⟨j,u,rfl,e⟩ | ⟨y,u,rfl,e⟩
   ·injection e with e1 _;rw [e1]
   ·exact nomatch e
  ·rcases cS hb with ⟨j,u,rfl,e⟩ | ⟨y,u,rfl,e⟩
   ·exact nomatch e
   ·injection e with e1 _;rw [e1]
 byValue:=fun k v h=>by
  rcases cS h with ⟨i,t,rfl,rfl⟩ | ⟨x,t,rfl,rfl⟩ <;> rfl
 pyHash:=fun hv h=>by
  rcases cS hv with ⟨i,t,rfl,rfl⟩ | ⟨x,t,rfl,rfl⟩
  ·exact wpAny_pyHash_int h
  ·exact wpAny_pyHash_str h
 eqBool:=fun hu hv h=>by
  rcases cS hu with ⟨i,t,rfl,rfl⟩ | ⟨x,t,rfl,rfl⟩
  ·rcases cS hv with ⟨j,u,rfl,rfl⟩ | ⟨y,u,rfl,rfl⟩
   ·rw [aMG] at h;exact wpAny_eqBool_int h
   ·rw [aMF] at h;exact SeqAt.EqAt.int_str i t y u _ _ _ _ h
  ·rcases cS hv with ⟨j,u,rfl,rfl⟩ | ⟨y,u,rfl,rfl⟩
   ·rw [aME] at h;exact SeqAt.EqAt.str_int x t j u _ _ _ _ h
   ·rw [aMD] at h;exact wpAny_eqBool_str h
 «strs»:=fun k x t v h=>by
  rcases cS h with ⟨i,u,rfl,e⟩ | ⟨y,u,rfl,e⟩
  ·exact nomatch e
  ·injection e with e1 _
   subst e1
   cases v <;> rfl
theorem aAU (prog:Program) (w:World) (i:Int) (t:Tok):(aV prog w).is (.inl i) (.int i t) = true:=qU i t
theorem aAT (prog:Program) (w:World) (x:Str) (t:Tok):(aV prog w).is (.inr x) (.str x t) = true:=qT x t
end L2
namespace L2
open PySem PySem.Spec PyProof.Rows
inductive V where
 | non | bl (b:Bool) | int (i:Int) | str (x:Str) | byt (b:Array UInt8) | flt (b:UInt64) | ref (a:Addr) | ty (n:String)
 deriving DecidableEq
def bK:V → Value → Prop
 | .non,u=>u = Value.none
 | .bl b,u=>u = Value.bool b
 | .int i,u=>∃ t,u = Value.int i t
 | .str x,u=>∃ t,u = Value.str x t
 | .byt b,u=>∃ t,u = Value.bytes b t
 | .flt b,u=>∃ t,u = Value.float b t
 | .ref a,u=>u = Value.ref a
 | .ty n,u=>u = Value.type n
abbrev bQ:List V → List Value → Prop:=Paired bK
theorem bQ.length {xs:List V} {us:List Value} (r:bQ xs us):xs.length = us.length:=Paired.length r
theorem bQ.get:∀ {xs:List V} {us:List Value} {i:Nat} {x:V},bQ xs us → xs[i]? = some x → ∃ u,us[i]? = some u ∧ bK x u
 | _,_,_,_,.nil,e=>by simp at e
 | _,_,0,_,.cons r _,e=>by simp at e;subst e;exact ⟨_,rfl,r⟩
 | _,_,i + 1,x,.cons _ t,e=>by
  obtain ⟨u,h1,h2⟩:=bQ.get (i:=i) (x:=x) t (by simpa using e)
  exact ⟨u,by simpa using h1,h2⟩
theorem bQ.append:∀ {xs ys:List V} {us ws:List Value},bQ xs us → bQ ys ws → bQ (xs ++ ys) (us ++ ws)
 | _,_,_,_,.nil,s=>s
 | _,_,_,_,.cons r t,s=>.cons r (bQ.append t s)
theorem bQ.take:∀ {xs:List V} {us:List Value} (n:Nat),bQ xs us → bQ (xs.take n) (us.take n)
 | _,_,0,_=>.nil
 | _,_,_ + 1,.nil=>.nil
 | _,_,n + 1,.cons r t=>.cons r (bQ.take n t)
theorem bQ.drop:∀ {xs:List V} {us:List Value} (n:Nat),bQ xs us → bQ (xs.drop n) (us.drop n)
 | _,_,0,r=>r
 | _,_,_ + 1,.nil=>.nil
 | _,_,n + 1,.cons _ t=>bQ.drop n t
def mG:Option V → Option Value → Prop
 | some v,some u=>bK v u
 | none,none=>True
 | _,_=>False
def KV {κ:Type}:List (κ × V) → List (κ × Value) → Prop:=Paired fun (p:κ × V) (q:κ × Value)=>p.1 = q.1 ∧ bK p.2 q.2
def kV:Key → V
 | .inl i=>.int i
 | .inr x=>.str x
inductive HO where
 /-- a list -/
 | lst (xs:List V)
 /-- a tuple (never changes) -/
 | tup (xs:List V)
 /-- a dict whose keys are ints and texts;one whose keys are tuples of ints and texts (the empty one is both) -/
 | dK (kvs:List (Key × V)) | dT (kvs:List (List Key × V))
 /-- a set of ints: its members,its size -/
 | set (S:Int → Bool) (n:Nat)
 /-- an instance of the class at C,its dict at dx,its attributes -/
 | ins (C dx:Addr) (fs:List (Str × V))
 /-- the dict of the instance at x -/
 | own (x:Addr)
 /-- the dict of an exception -/
 | xd (fs:List (Str × V))
 /-- a bound method,f of x -/
 | met (f x:Addr)
 /-- a range object lo,lo + 1,.. below hi -/
 | rng (lo hi:Int)
 /-- a thing that is known to the object (the script;a dict while a loop walks it): read,never written while it is so -/
 | frz (o:Obj) (u:HO)
 /-- a rE object's table -/
 | tbl (ps:Array Value)
 /-- any other thing,by what is true of its one object (a def of one's own: aFK a S n:=HO.ext fun h=>..) -/
 | ext (φ:Heap → Prop)
abbrev Hp:=Addr → Option HO
def upd (H:Hp) (a:Addr) (o:HO):Hp:=fun b=>if b = a then some o else H b
theorem aB {H:Hp} {a:Addr} {o:HO}:upd H a o a = some o:=by unfold upd;rw [if_pos rfl]
theorem aR {H:Hp} {a b:Addr} {o:HO} (h:b ≠ a):upd H a o b = H b:=by unfold upd;rw [if_neg h]
theorem aJA {H:Hp} {a:Addr} {o u:HO}:upd (upd H a o) a u = upd H a u:=by
 funext b;unfold upd;split <;> rfl
theorem rO {H:Hp} {a b:Addr} {o u:HO} (h:H a = some o) (h':H b = some u) (d:o ≠ u):a ≠ b:=by
 intro e;subst e;rw [h] at h';exact d (Option.some.inj h')
theorem bB {H:Hp} {a b:Addr} {o:HO} (h:H a = some o) (h':H b = none):a ≠ b:=by
 intro e;subst e;rw [h] at h';cases h'
def rH (h:Heap) (a:Addr) (its:Array Value):Prop:=∃ o,h.get? a = some o ∧ o.cls = .type "tuple" ∧ ∃ n,o.data = .seq its n ∧ o.dict = none
theorem rH.tup {h:Heap} {a:Addr} {its:Array Value} (x:rH h a its):IsTup h a its:=by
 obtain ⟨o,e,c,n,d,_⟩:=x
 exact ⟨o,e,c,n,d⟩
theorem rH.new (h:Heap) (its:Array Value):rH (h.push { cls:=.type "tuple",data:=.seq its }) h.objs.size its:=⟨_,Heap.get?_push_size _ rfl,rfl,_,rfl,rfl⟩
section
variable (P:Program) (w:World)
def cU (H:Hp) (h:Heap) (a:Addr):HO → Prop
 | .lst xs=>xs.length ≤ sizeLine ∧ ∃ (its:List Value) (n:Nat),bQ xs its ∧ h.get? a = some { cls:=.type "list",data:=.seq its.toArray n }
 | .tup xs=>xs.length ≤ sizeLine ∧ ∃ its:List Value,bQ xs its ∧ rH h a its.toArray
 | .dK kvs=>kvs.length ≤ sizeLine ∧ (a == sysModules) = false ∧ ∃ vs,KV kvs vs ∧ h.DictOf (aV P w) a vs
 | .dT kvs=>kvs.length ≤ sizeLine ∧ (a == sysModules) = false ∧ ∃ xs:List (List Key × Addr × Value),
   Paired (fun (p:List Key × V) (q:List Key × Addr × Value)=>p.1 = q.1 ∧ H q.2.1 = some (.tup (p.1.map kV)) ∧ bK p.2 q.2.2) kvs xs ∧
   ∃ o es ep,h.get? a = some o ∧ o.ExactDict ∧ o.data = .dict es ep ∧ es.toList = xs.map (entryOfKey (tupleKind (aV P w))) ∧ (xs.map (·.1)).Nodup
 | .set S n=>h.SetOf (intKind P w) a S n
 | .ins C dx fs=>H dx = some (.own a) ∧ fs.length ≤ 1000 ∧ dx ≠ a ∧ h.get? a = some (PySem.W.instObj C dx) ∧
   ∃ mA,h.Ns1 dx mA ∧ (∀ f,mG (fs.lookup f) (mA f)) ∧ PySem.Within mA (fs.map (·.1))
 | .own _=>∃ o,h.get? a = some o
 | .xd fs=>∃ mA,h.Ns1 a mA ∧ ∀ f,mG (fs.lookup f) (mA f)
 | .rng lo hi=>∃ t u v,h.get? a = some { cls:=.type "range",data:=.fields #[.int lo t,.int hi u,.int 1 v] }
 | .frz o u=>h.get? a = some o ∧ cU H h a u
 | .tbl ps=>h.get? a = some { cls:=.none,data:=.fields ps }
 | .met f x=>h.get? a = some (PySem.W.methodObj (.ref f) (.ref x))
 | .ext φ=>φ h ∧ (∃ o,h.get? a = some o) ∧ ∀ h1 h2:Heap,φ h1 → (∀ o,h1.get? a = some o → h2.get? a = some o) → φ h2
def HOk (H:Hp) (h:Heap):Prop:=∀ a o,H a = some o → cU P w H h a o
end
section
variable {P:Program} {w:World} {H H':Hp} {h h':Heap} {a:Addr} {o:HO}
theorem cU.lt (x:cU P w H h a o):a < h.objs.size:=by
 cases o with
 | lst xs=>obtain ⟨_,_,_,_,e⟩:=x;exact Heap.lt_size e
 | tup xs=>obtain ⟨_,_,_,_,e,_⟩:=x;exact Heap.lt_size e
 | dK kvs=>obtain ⟨_,_,_,_,o,_,_,e,_⟩:=x;exact Heap.lt_size e
 | dT kvs=>obtain ⟨_,_,_,_,o,_,_,e,_⟩:=x;exact Heap.lt_size e
 | set S n=>obtain ⟨o,_,_,_,e,_⟩:=x;exact Heap.lt_size e
 | ins C dx fs=>obtain ⟨_,_,_,e,_⟩:=x;exact Heap.lt_size e
 | own y=>obtain ⟨_,e⟩:=x;exact Heap.lt_size e
 | xd fs=>obtain ⟨_,⟨_,_,_,e,_⟩,_⟩:=x;exact Heap.lt_size e
 | rng lo hi=>obtain ⟨_,_,_,e⟩:=x;exact Heap.lt_size e
 | frz ob u=>obtain ⟨e,_⟩:=x;exact Heap.lt_size e
 | tbl ps=>exact Heap.lt_size (show h.get? a = some _ from x)
 | met f y=>exact Heap.lt_size (show h.get? a = some _ from x)
 | ext φ=>obtain ⟨_,⟨_,e⟩,_⟩:=x;exact Heap.lt_size e
theorem Paired.mapP {α β:Type} {F G:α → β → Prop}:∀ {l₁:List α} {l₂:List β},Paired F l₁ l₂ → (∀ a b,F a b → G a b) → Paired G l₁ l₂
 | _,_,.nil,_=>.nil
 | _,_,.cons r t,f=>.cons (f _ _ r) (Paired.mapP t f)
theorem cU.stay (x:cU P w H h a o) (k:∀ b u,(b = a ∨ H b = some (.own a)) → h.get? b = some u → h'.get? b = some u)
  (ho:∀ b,H b = some (.own a) → H' b = some (.own a)) (ht:∀ b xs,H b = some (.tup xs) → H' b = some (.tup xs)):cU P w H' h' a o:=by
 induction o with
 | lst xs=>obtain ⟨z,its,n,r,e⟩:=x;exact ⟨z,its,n,r,k _ _ (.inl rfl) e⟩
 | tup xs=>obtain ⟨z,its,r,ob,e,c⟩:=x;exact ⟨z,its,r,ob,k _ _ (.inl rfl) e,c⟩
 | dK kvs=>obtain ⟨z,y,vs,r,ob,es,ep,e,c⟩:=x;exact ⟨z,y,vs,r,ob,es,ep,k _ _ (.inl rfl) e,c⟩
 | dT kvs =>
  obtain ⟨z,y,xs,r,ob,es,ep,e,c⟩:=x
  exact ⟨z,y,xs,Paired.mapP r fun p q z=>⟨z.1,ht _ _ z.2.1,z.2.2⟩,ob,es,ep,k _ _ (.inl rfl) e,c⟩
 | set S n=>obtain ⟨ob,es,ep,t,e,c⟩:=x;exact ⟨ob,es,ep,t,k _ _ (.inl rfl) e,c⟩
 | ins C dx fs =>
  obtain ⟨d,z,ne,e,mA,⟨od,es,ep,e2,c⟩,r⟩:=x
  exact ⟨ho _ d,z,ne,k _ _ (.inl rfl) e,mA,⟨od,es,ep,k _ _ (.inr d) e2,c⟩,r⟩
 | own y=>obtain ⟨ob,e⟩:=x;exact ⟨ob,k _ _ (.inl rfl) e⟩
 | xd fs=>obtain ⟨mA,⟨od,es,ep,e,c⟩,r⟩:=x;exact ⟨mA,⟨od,es,ep,k _ _ (.inl rfl) e,c⟩,r⟩
 | rng lo hi=>obtain ⟨t,u,v,e⟩:=x;exact ⟨t,u,v,k _ _ (.inl rfl) e⟩
 | frz ob u ih=>obtain ⟨e,q⟩:=x;exact ⟨k _ _ (.inl rfl) e,ih q⟩
 | tbl ps =>
  have e:h.get? a = some { cls:=.none,data:=.fields ps }:=x
  show h'.get? a = some { cls:=.none,data:=.fields ps }
  exact k a _ (.inl rfl) e
 | met f y =>
  have e:h.get? a = some (PySem.W.methodObj (.ref f) (.ref y)):=x
  show h'.get? a = some (PySem.W.methodObj (.ref f) (.ref y))
  exact k a _ (.inl rfl) e
 | ext φ=>obtain ⟨p,⟨o,e⟩,st⟩:=x;exact ⟨st _ _ p fun o q=>k _ _ (.inl rfl) q,⟨o,k _ _ (.inl rfl) e⟩,st⟩
theorem HOk.lt (x:HOk P w H h) (e:H a = some o):a < h.objs.size:=(x a o e).lt
theorem HOk.fresh (x:HOk P w H h) (e:h.objs.size ≤ a):H a = none:=by
 cases q:H a with
 | none=>rfl
 | some u=>exact absurd (Nat.lt_of_lt_of_le (x.lt q) e) (Nat.lt_irrefl _)
theorem HOk.kept (x:HOk P w H h) (k:∀ b u,h.get? b = some u → h'.get? b = some u):HOk P w H h':=fun a o e =>
 (x a o e).stay (fun b u _ q=>k b u q) (fun _ q=>q) fun _ _ q=>q
theorem HOk.laid (x:HOk P w H h) (k:∀ b u,h.get? b = some u → h'.get? b = some u) (hp:h.objs.size ≤ a) (new:cU P w (upd H a o) h' a o):HOk P w (upd H a o) h':=fun b u e=>by
 have hn:=x.fresh hp
 by_cases hb:b = a
 ·subst hb;rw [aB] at e;cases e;exact new
 ·rw [aR hb] at e
  exact (x b u e).stay (fun c v _ q=>k c v q) (fun c q=>by rw [aR (bB q hn)];exact q) fun c xs q=>by rw [aR (bB q hn)];exact q
end
def Rd (H:Hp) (a:Addr) (u:HO):Prop:=H a = some u ∨ ∃ o,H a = some (.frz o u)
theorem Rd.ok {P:Program} {w:World} {H:Hp} {h:Heap} {a:Addr} {u:HO} (r:Rd H a u) (x:HOk P w H h):cU P w H h a u:=by
 rcases r with r | ⟨o,r⟩
 ·exact x a u r
 ·obtain ⟨_,q⟩:=x a _ r
  exact q
def Mut:Option HO → Prop
 | some (.lst _)=>True
 | some (.dK _)=>True
 | some (.dT _)=>True
 | some (.set _ _)=>True
 | some (.ins _ _ _)=>True
 | some (.ext _)=>True
 | _=>False
section
variable {P:Program} {w:World} {H:Hp} {h h':Heap} {x e:Addr} {o':HO}
theorem HOk.write (ok:HOk P w H h) (mu:Mut (H x)) (he:e = x ∨ H e = some (.own x)) (k:∀ b u,b ≠ e → h.get? b = some u → h'.get? b = some u) (heo:∃ u,h'.get? e = some u)
  (new:cU P w (upd H x o') h' x o'):HOk P w (upd H x o') h':=fun b u q=>by
 have nown:∀ c y,H c = some (.own y) → c ≠ x:=fun c y r z=>by subst z;rw [r] at mu;exact mu
 have ntup:∀ c xs,H c = some (.tup xs) → c ≠ x:=fun c xs r z=>by subst z;rw [r] at mu;exact mu
 by_cases hb:b = x
 ·subst hb;rw [aB] at q;cases q;exact new
 ·rw [aR hb] at q
  by_cases hbe:b = e
  ·have q':H b = some (.own x):=by
    rcases he with z | z
    ·exact absurd (hbe.trans z) hb
    ·rw [hbe];exact z
   rw [q] at q';cases q'
   obtain ⟨v,hv⟩:=heo
   exact ⟨v,by rw [hbe];exact hv⟩
  ·refine (ok b u q).stay (fun c v hc r=>k c v ?_ r) (fun c r=>by rw [aR (nown c b r)];exact r) fun c xs r=>by rw [aR (ntup c xs r)];exact r
   rcases hc with rfl | hc
   ·exact hbe
   ·rintro rfl
    rcases he with z | z
    ·exact nown c b hc z
    ·rw [hc] at z;cases z;exact hb rfl
end
structure Un (fs ex:List Addr) (H H':Hp) (h h':Heap):Prop where
 keep:∀ b o,h.get? b = some o → H b = none → b ∉ fs → b ∉ ex → h'.get? b = some o
 slot:∀ b o,h.get? b = some o → H b = none → b ∈ fs → b ∉ ex → ∃ sl,h'.get? b = some { o with slots:=sl }
 free:∀ b o,h.get? b = some o → H b = none → b ∉ ex → H' b = none
 there:∀ b o,h.get? b = some o → b ∉ ex → ∃ o',h'.get? b = some o'
 tups:∀ b xs,H b = some (.tup xs) → H' b = some (.tup xs)
 frzs:∀ b o u,H b = some (.frz o u) → H' b = some (.frz o u)
 tbls:∀ b ps,H b = some (.tbl ps) → ∃ more,H' b = some (.tbl (ps ++ more))
section
variable {fs fs' ex ex':List Addr} {H H1 H2:Hp} {h h1 h2 h':Heap} {a x e:Addr} {o:HO}
theorem Un.any (u:Un fs ex H H1 h h1) {b:Addr} {ob:Obj} (q:h.get? b = some ob) (n:H b = none) (hx:b ∉ ex):∃ sl,h1.get? b = some { ob with slots:=sl }:=by
 by_cases hb:b ∈ fs
 ·exact u.slot b ob q n hb hx
 ·exact ⟨ob.slots,u.keep b ob q n hb hx⟩
theorem Un.kept (k:∀ b u,h.get? b = some u → h'.get? b = some u):Un fs ex H H h h' :=
 ⟨fun b ob q _ _ _=>k b ob q,fun b ob q _ _ _=>⟨ob.slots,k b ob q⟩,fun _ _ _ n _=>n,fun b ob q _=>⟨ob,k b ob q⟩,fun _ _ q=>q,fun _ _ _ q=>q,fun _ ps q=>⟨#[],by rw [q];simp⟩⟩
theorem Un.refl:Un fs ex H H h h:=Un.kept fun _ _ q=>q
theorem Un.laid (k:∀ b u,h.get? b = some u → h'.get? b = some u) (hp:h.objs.size ≤ a) (hn:H a = none):Un fs ex H (upd H a o) h h' where
 keep:=fun b u q _ _ _=>k b u q
 slot:=fun b u q _ _ _=>⟨u.slots,k b u q⟩
 free:=fun b u q n _=>by rw [aR (Nat.ne_of_lt (Nat.lt_of_lt_of_le (Heap.lt_size q) hp))];exact n
 there:=fun b u q _=>⟨u,k b u q⟩
 tups:=fun b xs q=>by rw [aR (bB q hn)];exact q
 frzs:=fun b u xs q=>by rw [aR (bB q hn)];exact q
 tbls:=fun b ps q=>⟨#[],by rw [aR (bB q hn),q];simp⟩
theorem Un.write (mu:Mut (H x)) (he:e = x ∨ H e = some (.own x)) (k:∀ b u,b ≠ e → h.get? b = some u → h'.get? b = some u) (heo:∃ u,h'.get? e = some u):Un fs ex H (upd H x o) h h':=by
 have hx:∀ b,H b = none → b ≠ x:=fun b n z=>by subst z;rw [n] at mu;exact mu
 have hb:∀ b,H b = none → b ≠ e:=fun b n z=>by
  subst z
  rcases he with r | r
  ·exact hx b n r
  ·rw [n] at r;cases r
 have hm:∀ b u,H b = some u → ¬ Mut (some u) → b ≠ x:=fun b u q nm z=>by subst z;rw [q] at mu;exact nm mu
 refine ⟨fun b u q n _ _=>k b u (hb b n) q,fun b u q n _ _=>⟨u.slots,k b u (hb b n) q⟩,fun b u q n _=>by rw [aR (hx b n)];exact n,fun b u q _=>?_,
  fun b xs q=>by rw [aR (hm b _ q fun z=>z)];exact q,fun b u xs q=>by rw [aR (hm b _ q fun z=>z)];exact q,fun b ps q=>⟨#[],by rw [aR (hm b _ q fun z=>z),q];simp⟩⟩
 by_cases hbe:b = e
 ·subst hbe;exact heo
 ·exact ⟨u,k b u hbe q⟩
end
def trk (h:Heap) (H:Hp):List Addr:=(List.range h.objs.size).filter fun a=>(H a).isSome
def yP (h:Heap) (H:Hp):Heap:=PySem.W.hideAll h (trk h H)
theorem aEX (h:Heap) (H:Hp):(yP h H).objs.size = h.objs.size:=PySem.W.hideAll_size _ _
theorem aHW {h:Heap} {H:Hp} {b:Addr} {o:Obj} (e:h.get? b = some o) (n:H b = none):(yP h H).get? b = some o :=
 PySem.W.hideAll_get _ e fun hm=>by
  have q:(H b).isSome = true:=(List.mem_filter.mp hm).2
  rw [n] at q;simp at q
theorem aJW {h:Heap} {H:Hp} {b:Addr} {o:Obj} (e:(yP h H).get? b = some o):h.get? b = some o ∧ H b = none:=by
 have e':h.get? b = some o:=PySem.W.of_hideAll (trk h H) e
 refine ⟨e',?_⟩
 cases q:H b with
 | none=>rfl
 | some x =>
  have hm:b ∈ trk h H:=List.mem_filter.mpr ⟨List.mem_range.mpr (Heap.lt_size e'),by simp [q]⟩
  have z:(yP h H).get? b = none:=PySem.W.hideAll_none (trk h H) hm
  rw [z] at e;cases e
def aKT (g h:Heap) (L:Addr):List (Addr × Obj):=(List.range h.objs.size).filterMap fun a=>if a = L ∨ (g.get? a).isSome = true then none else (h.get? a).map fun o=>(a,o)
def rZ (g h:Heap) (L d:Addr):List (Addr × Obj):=(aKT g h L).filter fun p=>decide (p.1 ≠ d)
end L2
namespace L2
open PySem PySem.Spec PyProof.Rows
structure Mod (K:PySem.W.Frag) (mg:Str → Option Value) (base:Heap):Prop where
 kin:K.In base
 glob:base.Ns mainGlobals mg
 blt:∃ mb,base.Ns builtinsNs mb ∧ ∀ x:Str,x ≠ "__name__" → mb x = bootBuiltins x
 nolimit:base.NoLimit
structure Cx where
 prog:Program
 w:World
 K:PySem.W.Frag
 mg:Str → Option Value
 base:Heap
 A:Around
 N:List Str
 s₀:Shared
 H₀:Hp
 env:Env
 outer:List Env
 stack:List Env
 ex:List Addr
 fn:Str → Bool
 calm:Bool
 pn:List (Addr × Obj)
 xe:Value → Shared → Prop
def frs (l:List Env):List Addr:=l.filterMap (·.frame)
abbrev Cx.fs (X:Cx):List Addr:=frs X.outer
def Vis (sc:Scope) (x:Str):Prop:=sc.names.lookup x = some .local ∨ sc.names.lookup x = some .cell ∨ sc.names.lookup x = some .free
def Loc (sc:Scope) (x:Str):Prop:=sc.names.lookup x = some .local ∨ sc.names.lookup x = some .cell
def aPI (env:Env) (h:Heap) (m:Str → Option Value) (x:Str) (u:Value):Prop :=
 (env.kindOf x = some .local ∧ m x = some u) ∨ ((env.kindOf x = some .cell ∨ env.kindOf x = some .free) ∧ ∃ c,env.cells.lookup x = some c ∧ h.IsCell c (some u))
structure Cx.Ok (X:Cx):Prop where
 mod:Mod X.K X.mg X.base
 kind:X.env.scope.kind = .function
 glob:X.env.globals = mainGlobals
 blt:X.env.builtins = builtinsNs
 above:X.s₀.heap.objs.size ≤ X.env.locals
 inj:∀ x y c,X.env.cells.lookup x = some c → X.env.cells.lookup y = some c → x = y
 has:∀ x,(X.env.kindOf x = some .cell ∨ X.env.kindOf x = some .free) → ∃ c,X.env.cells.lookup x = some c
 cab:∀ x c,X.fn x = true → X.env.cells.lookup x = some c → X.s₀.heap.objs.size ≤ c
 hd:X.calm = true → X.A.handled = none
 frames:X.A.frames = some X.stack
 stk:X.stack = X.outer ∨ (X.stack = X.env :: X.outer ∧ X.env.frame = some X.env.locals)
 exf:∀ b ∈ X.ex,b ≠ X.env.locals ∧ ∀ x c,X.env.cells.lookup x = some c → c ≠ b
 bs:∀ b o,X.base.get? b = some o → X.s₀.heap.get? b = some o ∧ X.H₀ b = none
 bsz:X.base.objs.size ≤ X.s₀.heap.objs.size
 noex:∀ b o,X.base.get? b = some o → b ∉ X.ex
 exfs:∀ b ∈ X.ex,b ∉ X.fs
 funs:X.s₀.heap.FunFrames X.base X.outer
 frf:∀ b ∈ X.fs,X.H₀ b = none
structure Inv (X:Cx) (pins:List (Addr × Obj)) (σ:List (Option V)) (H:Hp) (s:Shared):Prop where
 ok:X.Ok
 os:s.os = X.s₀.os
 bare:AllBare s.gens
 base:Un X.fs X.ex X.H₀ H X.s₀.heap s.heap
 loc:∃ m,s.heap.Ns X.env.locals m ∧ ∀ (i:Nat) (x:Str) (v:V),X.N[i]? = some x → σ[i]? = some (some v) → Vis X.env.scope x → ∃ u,bK v u ∧ aPI X.env s.heap m x u
 cell:∀ x c,X.env.cells.lookup x = some c → ∃ v,s.heap.IsCell c v
 free:H X.env.locals = none
 freeC:∀ x c,X.env.cells.lookup x = some c → H c = none
 pin:∀ p ∈ X.pn ++ pins,s.heap.get? p.1 = some p.2 ∧ H p.1 = none ∧ p.1 ≠ X.env.locals ∧ p.1 ∉ X.fs ∧ ∀ v,p.2.data ≠ .cell v
 hok:HOk X.prog X.w H s.heap
 len:σ.length = X.N.length
section
variable {X:Cx} {pins:List (Addr × Obj)} {σ:List (Option V)} {H H':Hp} {s:Shared} {h':Heap}
theorem Cx.Ok.nofr (ok:X.Ok) {b:Addr} {o:Obj} (e:X.base.get? b = some o):b ∉ X.fs:=fun hb=>by
 have:=(ok.funs.mem hb).1
 rw [e] at this;cases this
theorem Inv.bs (I:Inv X pins σ H s):∀ b o,X.base.get? b = some o → s.heap.get? b = some o ∧ H b = none:=fun b o e =>
 ⟨I.base.keep b o (I.ok.bs b o e).1 (I.ok.bs b o e).2 (I.ok.nofr e) (I.ok.noex b o e),I.base.free b o (I.ok.bs b o e).1 (I.ok.bs b o e).2 (I.ok.noex b o e)⟩
theorem Inv.bk (I:Inv X pins σ H s):∀ b o,X.base.get? b = some o → s.heap.get? b = some o:=fun b o e=>(I.bs b o e).1
theorem Inv.mod (I:Inv X pins σ H s):Mod X.K X.mg X.base:=I.ok.mod
theorem Inv.kIn (I:Inv X pins σ H s):X.K.In s.heap:=I.ok.mod.kin.keeps I.bk
theorem Inv.fr (I:Inv X pins σ H s):∃ m,Fr X.base X.env.locals s.heap m :=
 let ⟨m,hn,_⟩:=I.loc
 ⟨m,hn,I.bk,Nat.le_trans I.ok.bsz I.ok.above⟩
theorem Inv.lt (I:Inv X pins σ H s):X.env.locals < s.heap.objs.size:=let ⟨_,hn,_⟩:=I.loc;hn.lt
theorem Inv.sz (I:Inv X pins σ H s):X.s₀.heap.objs.size ≤ s.heap.objs.size:=Nat.le_trans I.ok.above (Nat.le_of_lt I.lt)
theorem Inv.nofs (I:Inv X pins σ H s) {a:Addr} (h:s.heap.objs.size ≤ a):a ∉ X.fs:=fun hb=>by
 obtain ⟨_,o,ho,_⟩:=I.ok.funs.mem hb
 exact absurd (Nat.lt_of_lt_of_le (Heap.lt_size ho) (Nat.le_trans I.sz h)) (Nat.lt_irrefl _)
theorem Inv.cne (I:Inv X pins σ H s):∀ x c,X.env.cells.lookup x = some c → c ≠ X.env.locals:=fun x c e z=>by
 obtain ⟨v,o,ho,hd⟩:=I.cell x c e
 obtain ⟨m,⟨o',es,ep,ho',hd',_⟩,_⟩:=I.loc
 rw [z,ho'] at ho;cases ho;rw [hd'] at hd;cases hd
theorem Inv.funs (I:Inv X pins σ H s):s.heap.FunFrames X.base X.outer:=by
 have all:∀ (l:List Env),(∀ b ∈ frs l,b ∈ X.fs) → X.s₀.heap.FunFrames X.base l → s.heap.FunFrames X.base l:=by
  intro l
  induction l with
  | nil=>intro _ _;trivial
  | cons env r ih =>
   intro hs hl
   obtain ⟨hk,⟨L,o,hf,hn,ho,hd⟩,hr⟩:=hl
   have hL:L ∈ X.fs:=hs L (by unfold frs;rw [List.filterMap_cons,hf];exact List.mem_cons_self)
   obtain ⟨sl,e⟩:=I.base.slot L o ho (I.ok.frf L hL) hL fun z=>I.ok.exfs L z hL
   exact ⟨hk,⟨L,_,hf,hn,e,hd⟩,ih (fun b hb=>hs b (by unfold frs;rw [List.filterMap_cons,hf];exact List.mem_cons_of_mem _ hb)) hr⟩
 exact all X.outer (fun _ hb=>hb) I.ok.funs
theorem Inv.stack (I:Inv X pins σ H s):s.heap.FunFrames X.base X.stack:=by
 rcases I.ok.stk with e | ⟨e,hf⟩
 ·rw [e];exact I.funs
 ·rw [e]
  obtain ⟨m,hn,_⟩:=I.loc
  refine .cons (by rw [I.ok.kind];decide) hf hn ?_ I.funs
  exact Heap.get?_none_of_le (Nat.le_trans I.ok.bsz I.ok.above)
theorem Inv.stkSub (I:Inv X pins σ H s):∀ b ∈ frs X.stack,b ∈ X.env.locals :: X.fs:=fun b hb=>by
 rcases I.ok.stk with e | ⟨e,hf⟩
 ·rw [e] at hb;exact List.mem_cons_of_mem _ hb
 ·rw [e] at hb
  unfold frs at hb
  rw [List.filterMap_cons,hf] at hb
  exact hb
theorem Inv.stkFree (I:Inv X pins σ H s):∀ b ∈ frs X.stack,H b = none:=fun b hb=>by
 rcases List.mem_cons.mp (I.stkSub b hb) with e | hb
 ·rw [e];exact I.free
 ·obtain ⟨_,o,ho,_⟩:=I.ok.funs.mem hb
  exact I.base.free b o ho (I.ok.frf b hb) fun z=>I.ok.exfs b z hb
theorem Inv.step {g':Array GenState} {t':Nat} {d':Drawn} {ch:List Addr} (I:Inv X pins σ H s)
  (hch:∀ b ∈ ch,(b ∈ X.ex ∨ X.s₀.heap.objs.size ≤ b) ∧ b ≠ X.env.locals ∧ (∀ x c,X.env.cells.lookup x = some c → c ≠ b) ∧ ∀ p ∈ X.pn ++ pins,p.1 ≠ b)
  (keep:∀ b o,b ≠ X.env.locals → b ∉ X.fs → b ∉ ch → s.heap.get? b = some o → H b = none → h'.get? b = some o)
  (slot:∀ b o,b ≠ X.env.locals → b ∈ X.fs → b ∉ ch → s.heap.get? b = some o → H b = none → ∃ sl,h'.get? b = some { o with slots:=sl }) (free:∀ b o,b ∉ ch → s.heap.get? b = some o → H b = none → H' b = none)
  (there:∀ b o,b ∉ ch → s.heap.get? b = some o → ∃ o',h'.get? b = some o')
  (tups:∀ b xs,H b = some (.tup xs) → H' b = some (.tup xs)) (frzs:∀ b o u,H b = some (.frz o u) → H' b = some (.frz o u)) (tbls:∀ b ps,H b = some (.tbl ps) → ∃ more,H' b = some (.tbl (ps ++ more)))
  (ns:∀ m,s.heap.Ns X.env.locals m → h'.Ns X.env.locals m) (hok:HOk X.prog X.w H' h') (hg:AllBare g') :
  Inv X pins σ H' { s with heap:=h',gens:=g',drawn:=d',toks:=t' }:=by
 have neL:∀ b o,X.s₀.heap.get? b = some o → b ≠ X.env.locals:=fun b o e=>Nat.ne_of_lt (Nat.lt_of_lt_of_le (Heap.lt_size e) I.ok.above)
 have neC:∀ b o,X.s₀.heap.get? b = some o → b ∉ X.ex → b ∉ ch:=fun b o e hx hb=>by
  rcases (hch b hb).1 with z | z
  ·exact hx z
  ·exact absurd (Nat.lt_of_lt_of_le (Heap.lt_size e) z) (Nat.lt_irrefl _)
 have cellK:∀ x c,X.env.cells.lookup x = some c → ∀ v,s.heap.IsCell c v → h'.IsCell c v:=fun x c e v ⟨o,ho,hd⟩=>by
  have nch:c ∉ ch:=fun z=>(hch c z).2.2.1 x c e rfl
  by_cases hc:c ∈ X.fs
  ·obtain ⟨sl,q⟩:=slot c o (I.cne x c e) hc nch ho (I.freeC x c e)
   exact ⟨_,q,hd⟩
  ·exact ⟨o,keep c o (I.cne x c e) hc nch ho (I.freeC x c e),hd⟩
 refine ⟨I.ok,I.os,hg,⟨fun b o e n hb hx=>?_,fun b o e n hb hx=>?_,fun b o e n hx=>?_,fun b o e hx=>?_,fun b xs e=>tups b xs (I.base.tups b xs e),fun b o xs e=>frzs b o xs (I.base.frzs b o xs e),fun b ps e=>?_⟩,?_,fun x c e=>?_,?_,fun x c e=>?_,fun p hp=>?_,hok,I.len⟩
 ·exact keep b o (neL b o e) hb (neC b o e hx) (I.base.keep b o e n hb hx) (I.base.free b o e n hx)
 ·obtain ⟨sl,e1⟩:=I.base.slot b o e n hb hx
  obtain ⟨sl',e2⟩:=slot b _ (neL b o e) hb (neC b o e hx) e1 (I.base.free b o e n hx)
  exact ⟨sl',e2⟩
 ·obtain ⟨o',e1⟩:=I.base.there b o e hx
  exact free b o' (neC b o e hx) e1 (I.base.free b o e n hx)
 ·obtain ⟨o',e1⟩:=I.base.there b o e hx
  exact there b o' (neC b o e hx) e1
 ·obtain ⟨m1,e1⟩:=I.base.tbls b ps e
  obtain ⟨m2,e2⟩:=tbls b _ e1
  exact ⟨m1 ++ m2,by rw [e2,Array.append_assoc]⟩
 ·obtain ⟨m,hn,hl⟩:=I.loc
  refine ⟨m,ns m hn,fun i x v e1 e2 e3=>?_⟩
  obtain ⟨u,r,l⟩:=hl i x v e1 e2 e3
  refine ⟨u,r,?_⟩
  rcases l with l | ⟨k,c,e,z⟩
  ·exact .inl l
  ·exact .inr ⟨k,c,e,cellK x c e _ z⟩
 ·obtain ⟨v,z⟩:=I.cell x c e
  exact ⟨v,cellK x c e v z⟩
 ·obtain ⟨m,⟨o,_,_,ho,_⟩,_⟩:=I.loc
  exact free _ o (fun z=>(hch _ z).2.1 rfl) ho I.free
 ·obtain ⟨v,o,ho,hd⟩:=I.cell x c e
  exact free c o (fun z=>(hch c z).2.2.1 x c e rfl) ho (I.freeC x c e)
 ·obtain ⟨e,n,ne,nf,d⟩:=I.pin p hp
  have nch:p.1 ∉ ch:=fun z=>(hch p.1 z).2.2.2 p hp rfl
  exact ⟨keep p.1 p.2 ne nf nch e n,free p.1 p.2 nch e n,ne,nf,d⟩
theorem Inv.un {t':Nat} (I:Inv X pins σ H s) (u:Un X.fs [] H H' s.heap h') (hok:HOk X.prog X.w H' h'):Inv X pins σ H' { s with heap:=h',toks:=t' }:=by
 obtain ⟨m,⟨o,es,ep,ho,r⟩,_⟩:=id I.loc
 obtain ⟨sl,hL⟩:=u.any ho I.free (by simp)
 exact I.step (g':=s.gens) (d':=s.drawn) (ch:=[]) (fun _ z=>nomatch z) (fun b o _ hb _ e n=>u.keep b o e n hb (by simp)) (fun b o _ hb _ e n=>u.slot b o e n hb (by simp)) (fun b o _ e n=>u.free b o e n (by simp)) (fun b o _ e=>u.there b o e (by simp)) u.tups u.frzs u.tbls (fun m' hm=>by
  obtain ⟨o',es',ep',ho',r'⟩:=hm
  rw [ho] at ho';cases ho'
  exact ⟨_,es',ep',hL,r'⟩) hok I.bare
theorem Inv.call {g':Array GenState} {t':Nat} {d':Drawn} {ch:List Addr} (I:Inv X pins σ H s) (u:Un (frs X.stack) ch H H' s.heap h') (hok:HOk X.prog X.w H' h') (hg:AllBare g')
  (hch:∀ b ∈ ch,(b ∈ X.ex ∨ X.s₀.heap.objs.size ≤ b) ∧ b ≠ X.env.locals ∧ (∀ x c,X.env.cells.lookup x = some c → c ≠ b) ∧ ∀ p ∈ X.pn ++ pins,p.1 ≠ b) :
  Inv X pins σ H' { s with heap:=h',gens:=g',drawn:=d',toks:=t' }:=by
 obtain ⟨m,⟨o,es,ep,ho,r⟩,_⟩:=id I.loc
 obtain ⟨sl,hL⟩:=u.any ho I.free fun z=>(hch _ z).2.1 rfl
 exact I.step (ch:=ch) hch (fun b o hL hb hc e n=>u.keep b o e n (fun z=>(List.mem_cons.mp (I.stkSub b z)).elim hL hb) hc) (fun b o _ _ hc e n=>u.any e n hc) (fun b o hc e n=>u.free b o e n hc) (fun b o hc e=>u.there b o e hc) u.tups u.frzs u.tbls (fun m' hm=>by
  obtain ⟨o',es',ep',ho',r'⟩:=hm
  rw [ho] at ho';cases ho'
  exact ⟨_,es',ep',hL,r'⟩) hok hg
theorem Inv.turned {t':Nat} {it:Addr} (I:Inv X pins σ H s) (k:∀ b o,b ≠ it → s.heap.get? b = some o → h'.get? b = some o) (hn:H it = none) (hL:it ≠ X.env.locals)
  (h1:it ∈ X.ex ∨ X.s₀.heap.objs.size ≤ it) (h2:∀ x c,X.env.cells.lookup x = some c → c ≠ it) (h3:∀ p ∈ X.pn ++ pins,p.1 ≠ it):Inv X pins σ H { s with heap:=h',toks:=t' }:=by
 have nit:∀ b u,H b = some u → b ≠ it:=fun b u e z=>by rw [z,hn] at e;cases e
 refine I.step (g':=s.gens) (d':=s.drawn) (ch:=[it]) (fun b hb=>?_) (fun b o _ _ hc e _=>k b o (fun z=>hc (by simp [z])) e) (fun b o _ _ hc e _=>⟨o.slots,k b o (fun z=>hc (by simp [z])) e⟩) (fun _ _ _ _ n=>n)
  (fun b o hc e=>⟨o,k b o (fun z=>hc (by simp [z])) e⟩) (fun _ _ e=>e) (fun _ _ _ e=>e) (fun b ps e=>⟨#[],by rw [e];simp⟩) (fun m hm=>?_) (fun b u e=>?_) I.bare
 ·have e:b = it:=by simpa using hb
  subst e
  exact ⟨h1,hL,h2,h3⟩
 ·obtain ⟨o,es,ep,ho,r⟩:=hm
  exact ⟨o,es,ep,k _ o (Ne.symm hL) ho,r⟩
 ·refine (I.hok b u e).stay (fun c v hc q=>k c v ?_ q) (fun _ q=>q) fun _ _ q=>q
  rcases hc with z | z
  ·rw [z];exact nit b u e
  ·exact nit c _ z
theorem Inv.tok (I:Inv X pins σ H s) (t:Nat):Inv X pins σ H { s with toks:=t }:=I.un (h':=s.heap) (t':=t) Un.refl I.hok
theorem Inv.kept {t':Nat} (I:Inv X pins σ H s) (k:∀ b u,s.heap.get? b = some u → h'.get? b = some u):Inv X pins σ H { s with heap:=h',toks:=t' }:=I.un (Un.kept k) (I.hok.kept k)
theorem Inv.laid {a:Addr} {o:HO} {t':Nat} (I:Inv X pins σ H s) (k:∀ b u,s.heap.get? b = some u → h'.get? b = some u) (hp:s.heap.objs.size ≤ a) (new:cU X.prog X.w (upd H a o) h' a o) :
  Inv X pins σ (upd H a o) { s with heap:=h',toks:=t' }:=I.un (Un.laid k hp (I.hok.fresh hp)) (I.hok.laid k hp new)
theorem Inv.write {x e:Addr} {o:HO} {t':Nat} (I:Inv X pins σ H s) (mu:Mut (H x)) (he:e = x ∨ H e = some (.own x)) (k:∀ b u,b ≠ e → s.heap.get? b = some u → h'.get? b = some u) (heo:∃ u,h'.get? e = some u)
  (new:cU X.prog X.w (upd H x o) h' x o):Inv X pins σ (upd H x o) { s with heap:=h',toks:=t' }:=I.un (Un.write mu he k heo) (I.hok.write mu he k heo new)
theorem Inv.weak {σ':List (Option V)} (I:Inv X pins σ H s) (hl:σ'.length = σ.length) (w:∀ (i:Nat) v,σ'[i]? = some (some v) → σ[i]? = some (some v)):Inv X pins σ' H s :=
 ⟨I.ok,I.os,I.bare,I.base,let ⟨m,hn,hl'⟩:=I.loc;⟨m,hn,fun i x v e1 e2 e3=>hl' i x v e1 (w i v e2) e3⟩,I.cell,I.free,I.freeC,I.pin,I.hok,hl.trans I.len⟩
theorem Inv.pins_of {pins':List (Addr × Obj)} (I:Inv X pins σ H s) (h:∀ p ∈ pins',s.heap.get? p.1 = some p.2 ∧ H p.1 = none ∧ p.1 ≠ X.env.locals ∧ p.1 ∉ X.fs ∧ ∀ v,p.2.data ≠ .cell v):Inv X pins' σ H s :=
 ⟨I.ok,I.os,I.bare,I.base,I.loc,I.cell,I.free,I.freeC,fun p hp=>(List.mem_append.mp hp).elim (fun z=>I.pin p (List.mem_append_left _ z)) (h p),I.hok,I.len⟩
theorem aAQ {N:List Str} (hN:N.Nodup) {i j:Nat} {x:Str} (a:N[i]? = some x) (b:N[j]? = some x):i = j:=by
 obtain ⟨h1,e1⟩:=List.getElem?_eq_some_iff.mp a
 obtain ⟨h2,e2⟩:=List.getElem?_eq_some_iff.mp b
 exact (List.getElem_inj hN).mp (e1.trans e2.symm)
theorem aEB {M:Model} {A:Around} {E:Value → Shared → Prop} {i:Nat} {x:Str} {v:V} {u:Value} {Q:Unit → Shared → Prop} (I:Inv X pins σ H s) (hN:X.N.Nodup) (hi:X.N[i]? = some x) (hx:Loc X.env.scope x) (r:bK v u)
  (h:∀ s',Inv X pins (σ.set i (some v)) H s' → (∃ a,Heap.SameBut a s.heap s'.heap ∧ (a = X.env.locals ∨ X.env.cells.lookup x = some a)) → Q () s') (hf:X.fn x = true ∨ X.env.scope.names.lookup x = some .local:=by first | exact .inl rfl | exact .inr rfl | assumption):wpAny M A (storeName X.env x u) Q E s:=by
 obtain ⟨m,hn,hl⟩:=id I.loc
 have hcls:(X.env.scope.kind == .class || (X.env.scope.kind == .module && X.env.locals != X.env.globals)) = false:=by rw [I.ok.kind];rfl
 have hiσ:i < σ.length:=by rw [I.len];exact (List.getElem?_eq_some_iff.mp hi).1
 have cne:=I.cne
 have tracked:∀ {a:Addr} {h':Heap},(∃ o,s.heap.get? a = some o ∧ H a = none) → Heap.SameBut a s.heap h' → HOk X.prog X.w H h':=fun {a h'} ha hs b ob e=>by
  obtain ⟨_,_,hfree⟩:=ha
  refine (I.hok b ob e).stay (fun c w' hc q=>(hs.2 c ?_).trans q) (fun _ q=>q) fun _ _ q=>q
  rintro rfl
  rcases hc with rfl | hc
  ·rw [hfree] at e;cases e
  ·rw [hfree] at hc;cases hc
 rcases hx with hk | hk
 ·refine wpAny_storeName_local hk hn (fun h' hn' hs=>?_) hcls
  obtain ⟨oL,_,_,hoL,_⟩:=id hn
  refine h _ ⟨I.ok,I.os,I.bare,⟨fun b o e n hb hx=>?_,fun b o e n hb hx=>?_,I.base.free,fun b o e hx=>?_,I.base.tups,I.base.frzs,I.base.tbls⟩,⟨_,hn',fun j y v' e1 e2 e3=>?_⟩,fun y c e=>?_,I.free,I.freeC,fun p hp=>?_,tracked ⟨oL,hoL,I.free⟩ hs,by simpa using I.len⟩ ⟨_,hs,.inl rfl⟩
  ·exact (hs.2 b (Nat.ne_of_lt (Nat.lt_of_lt_of_le (Heap.lt_size e) I.ok.above))).trans (I.base.keep b o e n hb hx)
  ·obtain ⟨sl,e1⟩:=I.base.slot b o e n hb hx
   exact ⟨sl,(hs.2 b (Nat.ne_of_lt (Nat.lt_of_lt_of_le (Heap.lt_size e) I.ok.above))).trans e1⟩
  ·obtain ⟨o',e1⟩:=I.base.there b o e hx
   exact ⟨o',(hs.2 b (Nat.ne_of_lt (Nat.lt_of_lt_of_le (Heap.lt_size e) I.ok.above))).trans e1⟩
  ·by_cases hj:j = i
   ·subst hj
    rw [hi] at e1;cases e1
    rw [List.getElem?_set_self hiσ] at e2
    cases e2
    exact ⟨u,r,.inl ⟨hk,by simp⟩⟩
   ·rw [List.getElem?_set_ne (Ne.symm hj)] at e2
    obtain ⟨u',r',q⟩:=hl j y v' e1 e2 e3
    refine ⟨u',r',?_⟩
    rcases q with ⟨k,e⟩ | ⟨k,c,e,z⟩
    ·refine .inl ⟨k,?_⟩
     have:y ≠ x:=fun e=>hj (aAQ hN e1 (e ▸ hi))
     simp [this,e]
    ·exact .inr ⟨k,c,e,z.sameBut hs (cne y c e)⟩
  ·obtain ⟨w',z⟩:=I.cell y c e
   exact ⟨w',z.sameBut hs (cne y c e)⟩
  ·obtain ⟨e,n,ne,nf,d⟩:=I.pin p hp
   exact ⟨(hs.2 p.1 ne).trans e,n,ne,nf,d⟩
 ·have hfn:X.fn x = true:=by
   rcases hf with z | z
   ·exact z
   ·rw [z] at hk;cases hk
  obtain ⟨c,hc⟩:=I.ok.has x (.inl hk)
  obtain ⟨w',z⟩:=I.cell x c hc
  refine wpAny_storeName_cell I.ok.kind hk hc z (fun h' hc' hs=>?_)
  obtain ⟨oc,hoc,hocd⟩:=id z
  refine h { s with heap:=h' } ⟨I.ok,I.os,I.bare,⟨fun b o e n hb hx=>?_,fun b o e n hb hx=>?_,I.base.free,fun b o e hx=>?_,I.base.tups,I.base.frzs,I.base.tbls⟩,⟨m,hn.sameBut hs (Ne.symm (cne x c hc)),fun j y v' e1 e2 e3=>?_⟩,fun y c' e=>?_,I.free,I.freeC,fun p hp=>?_,tracked ⟨oc,hoc,I.freeC x c hc⟩ hs,by simpa using I.len⟩ ⟨c,hs,.inr hc⟩
  ·exact (hs.2 b (Nat.ne_of_lt (Nat.lt_of_lt_of_le (Heap.lt_size e) (I.ok.cab x c hfn hc)))).trans (I.base.keep b o e n hb hx)
  ·obtain ⟨sl,e1⟩:=I.base.slot b o e n hb hx
   exact ⟨sl,(hs.2 b (Nat.ne_of_lt (Nat.lt_of_lt_of_le (Heap.lt_size e) (I.ok.cab x c hfn hc)))).trans e1⟩
  ·obtain ⟨o',e1⟩:=I.base.there b o e hx
   exact ⟨o',(hs.2 b (Nat.ne_of_lt (Nat.lt_of_lt_of_le (Heap.lt_size e) (I.ok.cab x c hfn hc)))).trans e1⟩
  ·by_cases hj:j = i
   ·subst hj
    rw [hi] at e1;cases e1
    rw [List.getElem?_set_self hiσ] at e2
    cases e2
    exact ⟨u,r,.inr ⟨.inl hk,c,hc,hc'⟩⟩
   ·rw [List.getElem?_set_ne (Ne.symm hj)] at e2
    obtain ⟨u',r',q⟩:=hl j y v' e1 e2 e3
    refine ⟨u',r',?_⟩
    rcases q with q | ⟨k,c',e,z'⟩
    ·exact .inl q
    ·refine .inr ⟨k,c',e,z'.sameBut hs ?_⟩
     rintro rfl
     exact hj (aAQ hN e1 (I.ok.inj _ _ _ e hc ▸ hi))
  ·by_cases hcc:c' = c
   ·subst hcc;exact ⟨_,hc'⟩
   ·obtain ⟨w2,z2⟩:=I.cell y c' e
    exact ⟨w2,z2.sameBut hs hcc⟩
  ·obtain ⟨e,n,ne,nf,d⟩:=I.pin p hp
   refine ⟨(hs.2 p.1 ?_).trans e,n,ne,nf,d⟩
   intro q
   rw [q,hoc] at e
   have q':oc = p.2:=Option.some.inj e
   exact d w' (by rw [← q'];exact hocd)
theorem zN {M:Model} {A:Around} {E:Value → Shared → Prop} {i:Nat} {x:Str} {v:V} {u:Value} {Q:Unit → Shared → Prop} (I:Inv X pins σ H s) (hN:X.N.Nodup) (hi:X.N[i]? = some x) (hx:Loc X.env.scope x) (r:bK v u)
  (h:∀ s',Inv X pins (σ.set i (some v)) H s' → Q () s') (hf:X.fn x = true ∨ X.env.scope.names.lookup x = some .local:=by first | exact .inl rfl | exact .inr rfl | assumption):wpAny M A (storeName X.env x u) Q E s :=
 aEB I hN hi hx r (fun s' I' _=>h s' I') hf
theorem Inv.call' {s':Shared} {ch:List Addr} (I:Inv X pins σ H s) (ho:s'.os = s.os) (u:Un (frs X.stack) ch H H' s.heap s'.heap) (hok:HOk X.prog X.w H' s'.heap) (hg:AllBare s'.gens)
  (hch:∀ b ∈ ch,(b ∈ X.ex ∨ X.s₀.heap.objs.size ≤ b) ∧ b ≠ X.env.locals ∧ (∀ x c,X.env.cells.lookup x = some c → c ≠ b) ∧ ∀ p ∈ X.pn ++ pins,p.1 ≠ b):Inv X pins σ H' s':=by
 obtain ⟨h',g',d',t',o'⟩:=s'
 have e:o' = s.os:=ho
 subst e
 exact I.call (g':=g') (t':=t') (d':=d') u hok hg hch
end
abbrev XK:=Value → Option Addr → Hp → Prop
abbrev St:=List (Option V)
abbrev VK:=V → Hp → Prop
abbrev TE:=St → Hp → VK → Prop
abbrev TT:=St → Hp → (Bool → Hp → Prop) → Prop
abbrev TA:=St → Hp → (List V → Hp → Prop) → Prop
structure Ends where
 nx:St → Hp → Prop
 rt:VK
 bk:St → Hp → Prop:=fun _ _=>False
 ct:St → Hp → Prop:=fun _ _=>False
abbrev TS:=Ends → St → Hp → Prop
def EP (X:Cx) (pins:List (Addr × Obj)) (σ:St) (Q:VK) (u:Value) (s':Shared):Prop:=∃ v H',Inv X pins σ H' s' ∧ bK v u ∧ Q v H'
def TP (X:Cx) (pins:List (Addr × Obj)) (σ:St) (Q:Bool → Hp → Prop) (b:Bool) (s':Shared):Prop:=∃ H',Inv X pins σ H' s' ∧ Q b H'
def AP (X:Cx) (pins:List (Addr × Obj)) (σ:St) (Q:List V → Hp → Prop) (us:List Value) (s':Shared):Prop:=∃ vs H',Inv X pins σ H' s' ∧ bQ vs us ∧ Q vs H'
def SP (X:Cx) (pins:List (Addr × Obj)) (D:Ends) (f:Flow) (s':Shared):Prop :=
 match f with
 | .next=>∃ σ' H',Inv X pins σ' H' s' ∧ D.nx σ' H'
 | .brk=>∃ σ' H',Inv X pins σ' H' s' ∧ D.bk σ' H'
 | .cont=>∃ σ' H',Inv X pins σ' H' s' ∧ D.ct σ' H'
 | .ret u=>∃ v σ' H',Inv X pins σ' H' s' ∧ bK v u ∧ D.rt v H'
def PE (X:Cx) (e:Expr) (t:TE):Prop :=
 ∀ (pins:List (Addr × Obj)) (s:Shared) (σ:St) (H:Hp) (Q:VK),Inv X pins σ H s → t σ H Q → wpAny (model X.prog X.w) X.A (eval e X.env) (EP X pins σ Q) X.xe s
def PT (X:Cx) (e:Expr) (t:TT):Prop :=
 ∀ (pins:List (Addr × Obj)) (s:Shared) (σ:St) (H:Hp) (Q:Bool → Hp → Prop),Inv X pins σ H s → t σ H Q → wpAny (model X.prog X.w) X.A (isTrue e X.env (eval e X.env)) (TP X pins σ Q) X.xe s
def PW (X:Cx) (e:Expr) (t:TT):Prop :=
 ∀ (whole:Sem Value) (pins:List (Addr × Obj)) (s:Shared) (σ:St) (H:Hp) (Q:Bool → Hp → Prop),Inv X pins σ H s → t σ H Q → wpAny (model X.prog X.w) X.A (isTrue e X.env whole) (TP X pins σ Q) X.xe s
theorem PW.pt {X:Cx} {e:Expr} {t:TT} (h:PW X e t):PT X e t:=h _
def PA (X:Cx) (es:List Expr) (t:TA):Prop :=
 ∀ (pos:Pos) (pins:List (Addr × Obj)) (s:Shared) (σ:St) (H:Hp) (Q:List V → Hp → Prop),Inv X pins σ H s → t σ H Q → wpAny (model X.prog X.w) X.A (spliced (backTo pos (starEach es X.env))) (AP X pins σ Q) X.xe s
def PS (X:Cx) (st:Stmt) (t:TS):Prop :=
 ∀ (pins:List (Addr × Obj)) (s:Shared) (σ:St) (H:Hp) (D:Ends),Inv X pins σ H s → t D σ H → wpAny (model X.prog X.w) X.A (exec st X.env) (SP X pins D) X.xe s
def PSs (X:Cx) (st:List Stmt) (t:TS):Prop :=
 ∀ (pins:List (Addr × Obj)) (s:Shared) (σ:St) (H:Hp) (D:Ends),Inv X pins σ H s → t D σ H → wpAny (model X.prog X.w) X.A (execs st X.env) (SP X pins D) X.xe s
theorem thn {α:Type} {t:Sem α} {Q Q':α → Shared → Prop} {M:Model} {A:Around} {E:Value → Shared → Prop} {s:Shared} (h:wpAny M A t Q E s) (hQ:∀ a s,Q a s → Q' a s):wpAny M A t Q' E s:=wpAny_mono h hQ fun _ _ x=>x
end L2
namespace L2
open PySem PySem.Spec PyProof.Rows
section
variable {X:Cx}
def xC (i:Nat):TE:=fun σ H Q=>∃ v,σ[i]? = some (some v) ∧ Q v H
def tC (v:V):TE:=fun _ H Q=>Q v H
theorem aLT {i:Nat} {x:Str} {pos:Pos} (hN:X.N[i]? = some x) (hv:Vis X.env.scope x) (hd:(x == ("__debug__":Str)) = false:=by decide) (hcd:(x == ("__classdict__":Str)) = false:=by decide):PE X (.Name x pos) (xC i):=by
 intro pins s σ H Q I h
 obtain ⟨v,e,h⟩:=h
 obtain ⟨m,hn,hl⟩:=I.loc
 obtain ⟨u,r,l⟩:=hl i x v hN e hv
 have fin:EP X pins σ Q u s:=⟨v,H,I,r,h⟩
 rcases l with ⟨hk,hm⟩ | ⟨hk,c,hc,hcell⟩
 ·exact wpAny_Name (wpAny_loadName_local I.ok.kind hk hn hm fin) hd
 ·rcases hk with hk | hk
  ·exact wpAny_Name (wpAny_loadName_cell I.ok.kind hk hc hcell fin) hd
  ·exact wpAny_Name (wpAny_loadName_free I.ok.kind hk hc hcell fin hcd) hd
theorem aD {i j pos}:PE X (.Constant (.int i) j pos) (tC (.int i)):=fun _ _ _ H _ I h=>wpAny_Constant_int ⟨.int i,H,I.tok _,⟨_,rfl⟩,h⟩
theorem jO {b j pos}:PE X (.Constant (.bool b) j pos) (tC (.bl b)):=fun _ _ _ H _ I h=>Constant_bool ⟨.bl b,H,I,rfl,h⟩
theorem gZ {j pos}:PE X (.Constant .none j pos) (tC .non):=fun _ _ _ H _ I h=>Constant_none ⟨.non,H,I,rfl,h⟩
theorem jN {x j pos}:PE X (.Constant (.str x) j pos) (tC (.str x)):=fun _ _ _ H _ I h=>Calls.Constant_str ⟨.str x,H,I.tok _,⟨_,rfl⟩,h⟩
def Gl (X:Cx) (x:Str):Prop:=X.env.kindOf x = some .globalImplicit
theorem yH {E:Value → Shared → Prop} {pins:List (Addr × Obj)} {s:Shared} {σ:St} {H:Hp} {x:Str} {u:Value} {pos:Pos} {Q:Value → Shared → Prop} (I:Inv X pins σ H s) (hg:Gl X x) (hm:X.mg x = some u) (h:Q u s)
  (hd:(x == ("__debug__":Str)) = false:=by decide):wpAny (model X.prog X.w) X.A (eval (.Name x pos) X.env) Q E s :=
 Calls.Name_function_global I.ok.kind hg (Calls.loadGlobal_global (by rw [I.ok.glob];exact I.mod.glob.keeps I.bk) hm h) hd
theorem yI {E:Value → Shared → Prop} {pins:List (Addr × Obj)} {s:Shared} {σ:St} {H:Hp} {x:Str} {u:Value} {pos:Pos} {Q:Value → Shared → Prop} (I:Inv X pins σ H s) (hg:Gl X x) (hm:X.mg x = none) (hv:bootBuiltins x = some u) (h:Q u s)
  (hn:x ≠ "__name__":=by decide) (hd:(x == ("__debug__":Str)) = false:=by decide):wpAny (model X.prog X.w) X.A (eval (.Name x pos) X.env) Q E s:=by
 obtain ⟨mb,h1,h2⟩:=I.mod.blt
 exact Calls.Name_function_global I.ok.kind hg (Calls.loadGlobal_builtin (by rw [I.ok.glob];exact I.mod.glob.keeps I.bk) hm (by rw [I.ok.blt];exact h1.keeps I.bk) ((h2 x hn).trans hv) h) hd
theorem aJT {x:Str} {v:V} {u:Value} {pos:Pos} (hg:Gl X x) (hm:X.mg x = some u) (r:bK v u) (hd:(x == ("__debug__":Str)) = false:=by decide):PE X (.Name x pos) (tC v) :=
 fun _ _ _ H _ I h=>yH I hg hm ⟨v,H,I,r,h⟩ hd
theorem aJV {x:Str} {v:V} {u:Value} {pos:Pos} (hg:Gl X x) (hm:X.mg x = none) (hv:bootBuiltins x = some u) (r:bK v u) (hn:x ≠ "__name__":=by decide) (hd:(x == ("__debug__":Str)) = false:=by decide):PE X (.Name x pos) (tC v) :=
 fun _ _ _ H _ I h=>yI I hg hm hv ⟨v,H,I,r,h⟩ hn hd
def t2I (ta tb:TE) (k:Int → Int → Hp → Prop):St → Hp → Prop:=fun σ H=>ta σ H fun x H1=>tb σ H1 fun y H2=>∃ i j,x = .int i ∧ y = .int j ∧ k i j H2
variable {a b:Expr} {ta tb:TE} {pos:Pos}
def PC (X:Cx) (op:CmpOp) (a b:Expr) (t:TE):Prop :=
 ∀ (pins:List (Addr × Obj)) (s:Shared) (σ:St) (H:Hp) (Q:VK),Inv X pins σ H s → t σ H Q →
  wpAny (model X.prog X.w) X.A (eval a X.env) (fun v s₁=>wpAny (model X.prog X.w) X.A (eval b X.env) (fun u s₂=>wpAny (model X.prog X.w) X.A (compareOp op v u) (EP X pins σ Q) X.xe s₂) X.xe s₁) X.xe s
def tCmp (p:Int → Int → Bool) (ta tb:TE):TE:=fun σ H Q=>t2I ta tb (fun i j H2=>Q (.bl (p i j)) H2) σ H
def tB (t:TE):TT:=fun σ H Q=>t σ H fun x H1=>∃ c,x = .bl c ∧ Q c H1
theorem aLU {op:CmpOp} {t:TE} (h:PC X op a b t) (h1:behindInMarks op b = false:=by first | exact nobehind _ (by decide) (by decide) | rfl):PE X (.Compare a [op] [b] pos) t:=fun pins s σ H Q I hw=>wpAny_Compare1 (h pins s σ H Q I hw) h1
theorem xT {op:CmpOp} {t:TE} (h:PC X op a b t) (h1:behindInMarks op b = false:=by first | exact nobehind _ (by decide) (by decide) | rfl):PT X (.Compare a [op] [b] pos) (tB t):=by
 intro pins s σ H Q I hw
 refine wpAny_isTrue_Compare1 (thn (h pins s σ H _ I hw) fun v s1 h1=>thn h1 fun u s2 h2=>thn h2 fun c s3 ⟨x,H1,I1,r1,q1⟩=>?_) h1
 obtain ⟨d,rfl,q⟩:=q1
 cases r1
 exact wpAny_truthy_bool ⟨H1,I1,q⟩
theorem cK {e:Expr} {t:TE} (h:PE X e t) (he:∀ whole,isTrue e X.env whole = (do let v ← whole;standAt e.pos;holding [v] (truthy v)):=by intro _;rfl):PT X e (tB t):=by
 intro pins s σ H Q I hw
 refine isTrue_plain (thn (h pins s σ H _ I hw) fun v s1 ⟨x,H1,I1,r1,q1⟩=>?_) (he _)
 obtain ⟨d,rfl,q⟩:=q1
 cases r1
 exact wpAny_truthy_bool ⟨H1,I1,q⟩
variable {tA tB':TT} {rZ:List Expr}
def aOW (t u:TT):TT:=fun σ H Q=>t σ H fun c H1=>if c = true then u σ H1 Q else Q false H1
def tOr (t u:TT):TT:=fun σ H Q=>t σ H fun c H1=>if c = true then Q true H1 else u σ H1 Q
def aOQ (t:TT):TT:=fun σ H Q=>t σ H fun c H1=>Q (!c) H1
theorem lH (ha:PT X a tA):PW X (.BoolOp .And [a] pos) tA:=by
 intro wh pins s σ H Q I h
 refine isTrue_and (thn (ha pins s σ H Q I h) fun c s1 e=>?_)
 cases c with
 | true=>exact isTrue_and_nil e
 | false=>exact e
theorem jL (ha:PT X a tA):PW X (.BoolOp .Or [a] pos) tA:=by
 intro wh pins s σ H Q I h
 refine isTrue_or (thn (ha pins s σ H Q I h) fun c s1 e=>?_)
 cases c with
 | false=>exact isTrue_or_nil e
 | true=>exact e
theorem jM (ha:PT X a tA) (hb:PW X (.BoolOp .And (b :: rZ) pos) tB'):PW X (.BoolOp .And (a :: b :: rZ) pos) (aOW tA tB'):=by
 intro wh pins s σ H Q I h
 refine isTrue_and (thn (ha pins s σ H _ I h) fun c s1 ⟨H1,I1,q1⟩=>?_)
 cases c with
 | true=>exact hb wh pins s1 σ H1 Q I1 q1
 | false=>exact ⟨H1,I1,q1⟩
theorem iQ (ha:PT X a tA) (hb:PW X (.BoolOp .Or (b :: rZ) pos) tB'):PW X (.BoolOp .Or (a :: b :: rZ) pos) (tOr tA tB'):=by
 intro wh pins s σ H Q I h
 refine isTrue_or (thn (ha pins s σ H _ I h) fun c s1 ⟨H1,I1,q1⟩=>?_)
 cases c with
 | true=>exact ⟨H1,I1,q1⟩
 | false=>exact hb wh pins s1 σ H1 Q I1 q1
theorem cR (ha:PT X a tA):PT X (.UnaryOp .Not a pos) (aOQ tA):=by
 intro pins s σ H Q I h
 exact isTrue_not (ha pins s σ H (fun c H1=>Q (!c) H1) I h)
def aNJ (ta tb:TE):TE:=fun σ H Q=>ta σ H fun x H1=>∃ c,x = .bl c ∧ if c = true then tb σ H1 Q else Q (.bl false) H1
def aOP (ta tb:TE):TE:=fun σ H Q=>ta σ H fun x H1=>∃ c,x = .bl c ∧ if c = true then Q (.bl true) H1 else tb σ H1 Q
def aND (ta:TE):TE:=fun σ H Q=>ta σ H fun x H1=>∃ c,x = .bl c ∧ Q (.bl (!c)) H1
theorem eB {op} {t:TE} (h:PE X a t):PE X (.BoolOp op [a] pos) t:=fun pins s σ H Q I hw=>BoolOp_one (h pins s σ H Q I hw)
theorem dL (ha:PE X a ta) (hb:PE X (.BoolOp .And (b :: rZ) pos) tb):PE X (.BoolOp .And (a :: b :: rZ) pos) (aNJ ta tb):=by
 intro pins s σ H Q I h
 refine BoolOp_and (thn (ha pins s σ H _ I h) fun v s1 ⟨x,H1,I1,r1,q1⟩=>?_)
 obtain ⟨c,rfl,q1⟩:=q1
 cases r1
 refine wpAny_truthy_bool ?_
 cases c with
 | true=>exact hb pins s1 σ H1 Q I1 q1
 | false=>exact ⟨.bl false,H1,I1,rfl,q1⟩
theorem aGX (ha:PE X a ta) (hb:PE X (.BoolOp .Or (b :: rZ) pos) tb):PE X (.BoolOp .Or (a :: b :: rZ) pos) (aOP ta tb):=by
 intro pins s σ H Q I h
 refine BoolOp_or (thn (ha pins s σ H _ I h) fun v s1 ⟨x,H1,I1,r1,q1⟩=>?_)
 obtain ⟨c,rfl,q1⟩:=q1
 cases r1
 refine wpAny_truthy_bool ?_
 cases c with
 | false=>exact hb pins s1 σ H1 Q I1 q1
 | true=>exact ⟨.bl true,H1,I1,rfl,q1⟩
theorem aGY (ha:PE X a ta):PE X (.UnaryOp .Not a pos) (aND ta):=by
 intro pins s σ H Q I h
 refine UnaryOp_ (thn (ha pins s σ H _ I h) fun v s1 ⟨x,H1,I1,r1,q1⟩=>?_)
 obtain ⟨c,rfl,q1⟩:=q1
 cases r1
 exact not_of (wpAny_truthy_bool ⟨.bl (!c),H1,I1,rfl,q1⟩)
end
end L2
namespace L2
open PySem PySem.Spec PyProof.Rows
def SqL (K:PySem.W.Frag) (H:Hp) (a:Addr) (xs:List V):Prop :=
 Rd H a (.lst xs) ∨
  ∃ (o:Obj) (its:Array Value) (n:Nat),K.lookup a = some o ∧ o.cls = .type "list" ∧ o.dict = none ∧ o.data = .seq its n ∧ its.size ≤ sizeLine ∧ bQ xs its.toList
def SqT (K:PySem.W.Frag) (H:Hp) (a:Addr) (xs:List V):Prop :=
 Rd H a (.tup xs) ∨
  ∃ (o:Obj) (its:Array Value) (n:Nat),K.lookup a = some o ∧ o.cls = .type "tuple" ∧ o.data = .seq its n ∧ its.size ≤ sizeLine ∧ bQ xs its.toList
def aPH:Value → Option V
 | .none=>some .non
 | .bool b=>some (.bl b)
 | .int i _=>some (.int i)
 | .str x _=>some (.str x)
 | .bytes b _=>some (.byt b)
 | .float b _=>some (.flt b)
 | .ref a=>some (.ref a)
 | .type n=>some (.ty n)
 | _=>none
theorem bK.abs {x:V} {u:Value} (r:bK x u):aPH u = some x:=by
 cases x with
 | non=>cases r;rfl
 | bl _=>cases r;rfl
 | int _=>obtain ⟨t,rfl⟩:=r;rfl
 | str _=>obtain ⟨t,rfl⟩:=r;rfl
 | byt _=>obtain ⟨t,rfl⟩:=r;rfl
 | flt _=>obtain ⟨t,rfl⟩:=r;rfl
 | ref _=>cases r;rfl
 | ty _=>cases r;rfl
theorem bK.inj {x y:V} {u:Value} (r:bK x u) (q:bK y u):x = y:=Option.some.inj (r.abs.symm.trans q.abs)
theorem bQ.inj:∀ {xs ys:List V} {us:List Value},bQ xs us → bQ ys us → xs = ys
 | _,_,_,.nil,.nil=>rfl
 | _,_,_,.cons r t,.cons r' t'=>by rw [r.inj r',bQ.inj t t']
section
variable {X:Cx} {pins:List (Addr × Obj)} {σ:St} {H:Hp} {s:Shared} {a:Addr} {xs ys:List V}
theorem SqL.of {K:PySem.W.Frag} (h:H a = some (.lst xs)):SqL K H a xs:=.inl (.inl h)
theorem SqT.of {K:PySem.W.Frag} (h:H a = some (.tup xs)):SqT K H a xs:=.inl (.inl h)
theorem Inv.list (I:Inv X pins σ H s) (h:SqL X.K H a xs):∃ its:List Value,bQ xs its ∧ PlainL s.heap a its.toArray ∧ xs.length ≤ sizeLine:=by
 rcases h with h | ⟨o,its,n,hk,hc,hd,hs,hz,r⟩
 ·obtain ⟨z,its,n,r,e⟩:=h.ok I.hok
  exact ⟨its,r,⟨_,n,e,rfl,rfl,rfl⟩,z⟩
 ·refine ⟨its.toList,r,⟨o,n,I.kIn a o hk,hc,hd,by simpa using hs⟩,?_⟩
  have e:=r.length
  simp only [Array.length_toList] at e
  omega
theorem Inv.tuple (I:Inv X pins σ H s) (h:SqT X.K H a xs):∃ its:List Value,bQ xs its ∧ IsTup s.heap a its.toArray ∧ xs.length ≤ sizeLine:=by
 rcases h with h | ⟨o,its,n,hk,hc,hs,hz,r⟩
 ·obtain ⟨z,its,r,p⟩:=h.ok I.hok
  exact ⟨its,r,p.tup,z⟩
 ·refine ⟨its.toList,r,⟨o,I.kIn a o hk,hc,n,by simpa using hs⟩,?_⟩
  have e:=r.length
  simp only [Array.length_toList] at e
  omega
theorem Inv.list_inj (I:Inv X pins σ H s) (h:SqL X.K H a xs) (h':SqL X.K H a ys):xs = ys:=by
 obtain ⟨its,r,⟨o,n,e,_,_,d⟩,_⟩:=I.list h
 obtain ⟨its',r',⟨o',n',e',_,_,d'⟩,_⟩:=I.list h'
 rw [e] at e';cases e'
 rw [d] at d'
 injection d' with d1 _
 have:its = its':=by simpa using congrArg Array.toList d1
 subst this
 exact r.inj r'
end
abbrev Cx.wish (X:Cx) (E:Value → Shared → Prop):Cx:={ X with xe:=E }
abbrev Cx.nox (X:Cx):Cx:=X.wish fun _ _=>False
theorem Cx.Ok.wish {X:Cx} (ok:X.Ok) (E:Value → Shared → Prop):(X.wish E).Ok :=
 ⟨ok.mod,ok.kind,ok.glob,ok.blt,ok.above,ok.inj,ok.has,ok.cab,ok.hd,ok.frames,ok.stk,ok.exf,ok.bs,ok.bsz,ok.noex,ok.exfs,ok.funs,ok.frf⟩
theorem Cx.Ok.unwish {X:Cx} {E:Value → Shared → Prop} (ok:(X.wish E).Ok):X.Ok :=
 ⟨ok.mod,ok.kind,ok.glob,ok.blt,ok.above,ok.inj,ok.has,ok.cab,ok.hd,ok.frames,ok.stk,ok.exf,ok.bs,ok.bsz,ok.noex,ok.exfs,ok.funs,ok.frf⟩
section
variable {X:Cx} {pins:List (Addr × Obj)} {σ:St} {H:Hp} {s:Shared} {E:Value → Shared → Prop}
theorem Inv.wish (I:Inv X pins σ H s) (E:Value → Shared → Prop):Inv (X.wish E) pins σ H s:=⟨I.ok.wish E,I.os,I.bare,I.base,I.loc,I.cell,I.free,I.freeC,I.pin,I.hok,I.len⟩
theorem Inv.unwish (I:Inv (X.wish E) pins σ H s):Inv X pins σ H s:=⟨I.ok.unwish,I.os,I.bare,I.base,I.loc,I.cell,I.free,I.freeC,I.pin,I.hok,I.len⟩
theorem SP.unwish {D:Ends} {f:Flow} {s':Shared} (h:SP (X.wish E) pins D f s'):SP X pins D f s':=by
 cases f with
 | next=>obtain ⟨σ',H',I,q⟩:=h;exact ⟨σ',H',I.unwish,q⟩
 | brk=>obtain ⟨σ',H',I,q⟩:=h;exact ⟨σ',H',I.unwish,q⟩
 | cont=>obtain ⟨σ',H',I,q⟩:=h;exact ⟨σ',H',I.unwish,q⟩
 | ret u=>obtain ⟨v,σ',H',I,r,q⟩:=h;exact ⟨v,σ',H',I.unwish,r,q⟩
theorem PSs.nox {st:List Stmt} {t:TS} (h:PSs X.nox st t):PSs X st t:=fun pins s σ H D I hw =>
 wpAny_mono (h pins s σ H D (I.wish _) hw) (fun _ _ q=>q.unwish) fun _ _ z=>False.elim z
end
section
variable {X:Cx} {st:Stmt} {rZ:List Stmt} {t u:TS} {e:Expr} {te:TE} {pos:Pos}
def aNE:TS:=fun D σ H=>D.nx σ H
def jX (t u:TS):TS:=fun D σ H=>t { D with nx:=u D } σ H
theorem bI:PSs X [] aNE:=fun _ _ σ H _ I h=>wpAny_execs_nil ⟨σ,H,I,h⟩
theorem aG (h1:PS X st t) (h2:PSs X rZ u):PSs X (st :: rZ) (jX t u):=by
 intro pins s σ H D I h
 refine wpAny_execs_cons (thn (h1 pins s σ H { D with nx:=u D } I h) fun f s1 q=>?_)
 cases f with
 | next =>
  obtain ⟨σ',H',I',q⟩:=q
  exact h2 pins s1 σ' H' D I' q
 | ret v=>exact q
 | brk=>exact q
 | cont=>exact q
theorem aH (h1:PS X st t):PSs X [st] t:=by
 intro pins s σ H D I h
 refine wpAny_execs_cons (thn (h1 pins s σ H D I h) fun f s1 q=>?_)
 cases f with
 | next=>exact wpAny_execs_nil q
 | ret v=>exact q
 | brk=>exact q
 | cont=>exact q
theorem Inv.quiet {pins:List (Addr × Obj)} {σ:St} {H:Hp} {s:Shared} (I:Inv X pins σ H s):interactive X.env = false:=by simp [interactive,I.ok.kind]
def aNG (te:TE):TS:=fun D σ H=>te σ H fun _ H1=>D.nx σ H1
theorem hW (he:PE X e te) (hs:swapsWith e none pos.line X.env = pure false:=by rfl):PS X (.Expr e pos) (aNG te):=by
 intro pins s σ H D I h
 exact wpAny_Expr_any (thn (he pins s σ H _ I h) fun v s1 ⟨x,H1,I1,r1,q1⟩=>⟨σ,H1,I1,q1⟩) I.quiet hs
def aNC (te:TE):TS:=fun D σ H=>te σ H D.rt
theorem aS (he:PE X e te):PS X (.Return (some e) pos) (aNC te):=by
 intro pins s σ H D I h
 exact wpAny_Return_some (thn (he pins s σ H _ I h) fun v s1 ⟨x,H1,I1,r1,q1⟩=>⟨x,σ,H1,I1,r1,q1⟩)
def aOR (c:TT) (t u:TS):TS:=fun D σ H=>c σ H fun b H1=>if b = true then t D σ H1 else u D σ H1
theorem cL {c:Expr} {a b:List Stmt} {tc:TT} (hc:PT X c tc) (ha:PSs X a t) (hb:PSs X b u):PS X (.If c a b pos) (aOR tc t u):=by
 intro pins s σ H D I h
 refine wpAny_If (thn (hc pins s σ H _ I h) fun d s1 ⟨H1,I1,q1⟩=>?_)
 cases d with
 | true=>exact ha pins s1 σ H1 D I1 q1
 | false=>exact hb pins s1 σ H1 D I1 q1
def aLH:TS:=fun _ _ _=>False
theorem tD:PS X st aLH:=fun _ _ _ _ _ _ h=>h.elim
end
abbrev TG:=V → St → Hp → (St → Hp → Prop) → Prop
abbrev TGs:=List V → St → Hp → (St → Hp → Prop) → Prop
def PG (X:Cx) (target:Expr) (t:TG):Prop :=
 ∀ (pins:List (Addr × Obj)) (s:Shared) (σ:St) (H:Hp) (v:V) (u:Value) (Q:St → Hp → Prop),Inv X pins σ H s → bK v u → t v σ H Q →
  wpAny (model X.prog X.w) X.A (assign target X.env u) (fun _ s'=>∃ σ' H',Inv X pins σ' H' s' ∧ Q σ' H') X.xe s
def PGs (X:Cx) (ts:List Expr) (t:TGs):Prop :=
 ∀ (pins:List (Addr × Obj)) (s:Shared) (σ:St) (H:Hp) (vs:List V) (us:List Value) (Q:St → Hp → Prop),Inv X pins σ H s → bQ vs us → t vs σ H Q →
  wpAny (model X.prog X.w) X.A (assignInOrder ((assignEach ts X.env).map (·.2)) us) (fun _ s'=>∃ σ' H',Inv X pins σ' H' s' ∧ Q σ' H') X.xe s
abbrev TSet:=V → V → V → Hp → (Hp → Prop) → Prop
abbrev TIp:=V → V → Hp → VK → Prop
section
variable {X:Cx} {pos:Pos}
def uI (i:Nat):TG:=fun v σ H Q=>Q (σ.set i (some v)) H
theorem aM {i:Nat} {x:Str} (hN:X.N.Nodup) (hi:X.N[i]? = some x) (hx:Loc X.env.scope x) (hf:X.fn x = true ∨ X.env.scope.names.lookup x = some .local:=by first | exact .inl rfl | exact .inr rfl | assumption):PG X (.Name x pos) (uI i):=by
 intro pins s σ H v u Q I r h
 exact wpAny_assign_Name (zN I hN hi hx r (fun s' I'=>⟨_,H,I',h⟩) hf)
def aOF:TGs:=fun vs σ H Q=>vs = [] ∧ Q σ H
def aLF (t:TG) (u:TGs):TGs:=fun vs σ H Q=>∃ v r,vs = v :: r ∧ t v σ H fun σ' H'=>u r σ' H' Q
theorem eY:PGs X [] aOF:=by
 intro pins s σ H vs us Q I r h
 obtain ⟨e,h⟩:=h
 subst e
 cases r
 exact assignInOrder_nil ⟨σ,H,I,h⟩
theorem aW {e:Expr} {es:List Expr} {t:TG} {u:TGs} (h1:PG X e t) (h2:PGs X es u)
  (hs:(assignEach (e :: es) X.env).map (·.2) = assign e X.env :: (assignEach es X.env).map (·.2):=by rfl):PGs X (e :: es) (aLF t u):=by
 intro pins s σ H vs us Q I r h
 obtain ⟨v,vr,e1,h⟩:=h
 subst e1
 cases r with
 | cons r rr =>
  rw [hs]
  refine assignInOrder_cons (thn (h1 pins s σ H _ _ _ I r h) fun _ s1 ⟨σ1,H1,I1,q1⟩=>?_)
  exact h2 pins s1 σ1 H1 _ _ Q I1 rr q1
def aIC (K:PySem.W.Frag) (n:Nat) (t:TGs):TG:=fun v σ H Q=>∃ a xs,v = .ref a ∧ SqT K H a xs ∧ xs.length = n ∧ t xs σ H Q
theorem jZ {es:List Expr} {k:Nat} {t:TGs} {n:Nat} (hc:X.calm = true) (h:PGs X es t)
  (hn:(assignEach es X.env).length = n:=by rfl) (hst:(assignEach es X.env).findIdx? (·.1) = none:=by rfl):PG X (.Tuple es k pos) (aIC X.K n t):=by
 intro pins s σ H v u Q I r hw
 obtain ⟨a,xs,e1,hq,hl,hw⟩:=hw
 subst e1
 cases r
 obtain ⟨its,rv,ht,hz⟩:=I.tuple hq
 refine assign_Tuple_tuple (I.ok.hd hc) ht (by simp [hn,← hl,rv.length]) hst fun h' hx=>?_
 have I1:Inv X pins σ H { s with heap:=h' }:=I.kept (t':=s.toks) fun b o e=>hx b o (Nat.ne_of_lt (Heap.lt_size e)) e
 exact h pins _ σ H xs _ Q I1 (by simpa using rv) hw
def aLJ (te:TE) (g:TG):TS:=fun D σ H=>te σ H fun x H1=>g x σ H1 D.nx
theorem aLR {tg e:Expr} {te:TE} {g:TG} (he:PE X e te) (hg:PG X tg g) (hs:swapsWithSole [tg] e pos.line X.env = pure false:=by rfl) (hw:swappedStores [tg] e X.env = pure none:=by rfl)
  (h1:(assignEach [tg] X.env).map (·.2) = [assign tg X.env]:=by rfl):PS X (.Assign [tg] e pos) (aLJ te g):=by
 intro pins s σ H D I h
 refine wpAny_Assign_stores (thn (he pins s σ H _ I h) fun v s1 ⟨x,H1,I1,r1,q1⟩=>?_) hs hw
 rw [h1]
 exact thn (hg pins s1 σ H1 x v _ I1 r1 q1) fun _ s2 q=>q
theorem aU {i:Nat} {x:Str} {e:Expr} {te:TE} {pos':Pos} (hN:X.N.Nodup) (hi:X.N[i]? = some x) (hx:Loc X.env.scope x) (he:PE X e te) (hs:swapsWith e (some (.Name x pos')) pos.line X.env = pure false:=by rfl) (hf:X.fn x = true ∨ X.env.scope.names.lookup x = some .local:=by first | exact .inl rfl | exact .inr rfl | assumption) :
  PS X (.Assign [.Name x pos'] e pos) (aLJ te (uI i)):=by
 intro pins s σ H D I h
 refine wpAny_Assign_Name (thn (he pins s σ H _ I h) fun v s1 ⟨y,H1,I1,r1,q1⟩=>?_) hs
 exact zN I1 hN hi hx r1 (fun s2 I2=>⟨_,H1,I2,q1⟩) hf
end
section
variable {X:Cx} {pos:Pos}
def aFQ (c:TT) (tb:TS):TS:=fun D σ H=>∃ W:Nat → St → Hp → Prop,(∃ m,W m σ H) ∧ ∀ m σ H,W m σ H →
 c σ H fun b H1=>if b = true then ∃ N:St → Hp → Prop,(∀ σ' H',N σ' H' → ∃ m',m' < m ∧ W m' σ' H') ∧ tb { D with nx:=N,ct:=N,bk:=D.nx } σ H1 else D.nx σ H1
theorem aAH {c:Expr} {body:List Stmt} {tc:TT} {tb:TS} (hp:PassesOwn (model X.prog X.w) X.A X.env X.xe) (hc:PT X c tc) (hb:PSs X body tb):PS X (.While c body [] pos) (aFQ tc tb):=by
 intro pins s σ H D I h
 obtain ⟨W,⟨m0,w0⟩,turn⟩:=h
 refine wpAny_While (codeAny_whileLoop (fun n s'=>∃ σ' H',Inv X pins σ' H' s' ∧ W n σ' H') ?_ m0 ⟨σ,H,I,w0⟩)
 rintro n s1 ⟨σ1,H1,I1,w1⟩
 refine wpAny_passesOwn hp (thn (hc pins s1 σ1 H1 _ I1 (turn n σ1 H1 w1)) fun b s2 ⟨H2,I2,q2⟩=>?_)
 cases b with
 | true =>
  obtain ⟨N,hN,q2⟩:=q2
  rw [if_pos rfl]
  refine wpAny_passesOwn hp (thn (hb pins s2 σ1 H2 _ I2 q2) fun f s3 q3=>?_)
  cases f with
  | next =>
   obtain ⟨σ3,H3,I3,n3⟩:=q3
   obtain ⟨m',hm,w3⟩:=hN σ3 H3 n3
   exact ⟨m',hm,σ3,H3,I3,w3⟩
  | cont =>
   obtain ⟨σ3,H3,I3,n3⟩:=q3
   obtain ⟨m',hm,w3⟩:=hN σ3 H3 n3
   exact ⟨m',hm,σ3,H3,I3,w3⟩
  | brk=>exact q3
  | ret v=>exact q3
 | false =>
  rw [if_neg Bool.false_ne_true]
  exact wpAny_execs_nil ⟨σ1,H2,I2,q2⟩
end
structure It where
 go:Nat → Hp → Prop
 yld:Nat → Hp → V → Hp → Prop
 stop:Nat → Hp → Prop
def zG (X:Cx) (pins:List (Addr × Obj)) (H:Hp) (b:Addr):Prop :=
 H b = none ∧ b ≠ X.env.locals ∧ b ∉ X.fs ∧ (b ∈ X.ex ∨ X.s₀.heap.objs.size ≤ b) ∧ (∀ x c,X.env.cells.lookup x = some c → c ≠ b) ∧ ∀ p ∈ X.pn ++ pins,p.1 ≠ b
theorem Inv.fpOk {X:Cx} {pins:List (Addr × Obj)} {σ:St} {H H':Hp} {s:Shared} {b:Addr} (I:Inv X pins σ H s) (hb:s.heap.objs.size ≤ b) (hn:H' b = none):zG X pins H' b:=by
 refine ⟨hn,Nat.ne_of_gt (Nat.lt_of_lt_of_le I.lt hb),I.nofs hb,.inr (Nat.le_trans I.sz hb),fun x c e z=>?_,fun p hp z=>?_⟩
 ·obtain ⟨v,q⟩:=I.cell x c e
  exact absurd (Nat.lt_of_lt_of_le q.lt (by rw [z];exact hb)) (Nat.lt_irrefl _)
 ·exact absurd (Nat.lt_of_lt_of_le (Heap.lt_size (I.pin p hp).1) (by rw [z];exact hb)) (Nat.lt_irrefl _)
structure Turn (P:Program) (w:World) (K:PySem.W.Frag) (tg:Expr) (J:It) (fp:List Addr) (it:Addr) (tn:Nat → Heap → Prop):Prop where
 mem:it ∈ fp
 obj:∀ i h,tn i h → ∀ b ∈ fp,∃ o,h.get? b = some o ∧ ∀ v,o.data ≠ .cell v
 keep:∀ i h h',tn i h → (∀ b ∈ fp,∀ o,h.get? b = some o → h'.get? b = some o) → tn i h'
 item:∀ (X:Cx),X.prog = P → X.w = w → X.K = K → X.calm = true → ∀ (i:Nat) (pins:List (Addr × Obj)) (s:Shared) (σ:St) (H:Hp) (E:Value → Shared → Prop),Inv X pins σ H s → (∀ b ∈ fp,zG X pins H b) → tn i s.heap → J.go i H →
  wpAny (model P w) X.A (pyNext (.ref it)) (fun r s1=>∃ u,r = some u ∧
   wpAny (model P w) X.A (letOwnedTupleGo tg (.ref it) u) (fun _ s2=>∃ x H',Inv X pins σ H' s2 ∧ bK x u ∧ J.yld i H x H' ∧ tn (i + 1) s2.heap ∧ ∀ b ∈ fp,H' b = none) E s1) E s
 done:∀ (X:Cx),X.prog = P → X.w = w → X.K = K → X.calm = true → ∀ (i:Nat) (pins:List (Addr × Obj)) (s:Shared) (σ:St) (H:Hp) (E:Value → Shared → Prop),Inv X pins σ H s → (∀ b ∈ fp,zG X pins H b) → tn i s.heap → J.stop i H →
  wpAny (model P w) X.A (pyNext (.ref it)) (fun r s1=>r = none ∧ Inv X pins σ H s1) E s
 self:∀ (A:Around) (i:Nat) (s:Shared) (Q:Value → Shared → Prop) (E:Value → Shared → Prop),tn i s.heap → Q (.ref it) s → wpAny (model P w) A (pyIter (.ref it)) Q E s
abbrev TI:=St → Hp → (It → Hp → Prop) → Prop
def PIE (X:Cx) (pins:List (Addr × Obj)) (σ:St) (tg:Expr) (R:It → Hp → Prop) (itv:Value) (s2:Shared):Prop :=
 ∃ (it:Addr) (fp:List Addr) (tn:Nat → Heap → Prop) (J:It) (H':Hp),itv = .ref it ∧ Inv X pins σ H' s2 ∧ Turn X.prog X.w X.K tg J fp it tn ∧ tn 0 s2.heap ∧ (∀ b ∈ fp,zG X pins H' b) ∧ R J H'
def PI (X:Cx) (tg iter:Expr) (wi:TI):Prop :=
 ∀ (pins:List (Addr × Obj)) (s:Shared) (σ:St) (H:Hp) (R:It → Hp → Prop),Inv X pins σ H s → wi σ H R →
  wpAny (model X.prog X.w) X.A (eval iter X.env) (fun v s1=>wpAny (model X.prog X.w) X.A (pyIter v) (PIE X pins σ tg R) X.xe s1) X.xe s
theorem aDR {M:Model} {A:Around} {E:Value → Shared → Prop} {s:Shared} {tg:Expr} {it:Addr} {u:Value} {o:Obj} {n:String} {vs:Array Value} {Q:Unit → Shared → Prop} (ho:s.heap.get? it = some o) (hc:o.cls = .type n) (hd:o.data = .fields vs)
    (hn:["enumerate","zip","dict_itemiterator","dict_reverseitemiterator","odict_iterator","itertools.zip_longest","itertools.pairwise"].contains n = false) (hQ:Q () s):wpAny M A (letOwnedTupleGo tg (.ref it) u) Q E s:=by
  unfold letOwnedTupleGo
  cases tg <;> first
    | exact wpAny_pure hQ
    | (cases u <;> first
        | exact wpAny_pure hQ
        | (refine wpAny_bind (wpAny_load ho ?_)
           rw [hc,hd]
           show wpAny M A (if (["enumerate","zip","dict_itemiterator","dict_reverseitemiterator","odict_iterator","itertools.zip_longest","itertools.pairwise"].contains n && vs[0]? == some (rawInt _)) = true then _ else _) Q E s
           rw [if_neg (by intro h;rw [hn,Bool.false_and] at h;cases h)]
           exact wpAny_pure hQ))
def Itl (K:PySem.W.Frag) (a:Addr):It :=
 ⟨fun i H=>∃ xs x,SqL K H a xs ∧ xs[i]? = some x,fun i H x H'=>H' = H ∧ ∀ xs,SqL K H a xs → xs[i]? = some x,fun i H=>∃ xs,SqL K H a xs ∧ xs.length ≤ i⟩
def Itt (K:PySem.W.Frag) (a:Addr):It :=
 ⟨fun i H=>∃ xs x,SqT K H a xs ∧ xs[i]? = some x,fun i H x H'=>H' = H ∧ ∀ xs,SqT K H a xs → xs[i]? = some x,fun i H=>∃ xs,SqT K H a xs ∧ xs.length ≤ i⟩
def Itr (lo:Int) (n:Nat):It:=⟨fun i _=>i < n,fun i H x H'=>H' = H ∧ x = .int (lo + i),fun i _=>n ≤ i⟩
theorem aDZ {P:Program} {w:World} {K:PySem.W.Frag} {tg:Expr} (a it:Addr):Turn P w K tg (Itl K a) [it] it (fun i h=>h.IsListIter it a i) where
 mem:=by simp
 obj:=fun i h st b hb=>by
  have e:b = it:=by simpa using hb
  subst e
  obtain ⟨o,e,c,d⟩:=st
  exact ⟨o,e,fun v z=>by rw [d] at z;cases z⟩
 keep:=fun i h h' st k=>st.at fun o e=>k it (by simp) o e
 item:=by
  intro X hP hw hK hc i pins s σ H E I hf st hg
  subst hP hw hK
  obtain ⟨xs,x,hq,hx⟩:=hg
  obtain ⟨its,rv,p,hz⟩:=I.list hq
  obtain ⟨u,hu,ru⟩:=rv.get hx
  obtain ⟨f0,f1,f2,f3,f4,f5⟩:=hf it (by simp)
  refine wpAny_pyNext_list_item st p.isList (x:=u) (by simpa using hu) fun h' st' sb=>?_
  have I1:Inv X pins σ H { s with heap:=h' }:=I.turned (t':=s.toks) (fun b o hb e=>(sb.2 b hb).trans e) f0 f1 f3 f4 f5
  obtain ⟨o,e,c,d⟩:=id st'
  exact ⟨u,rfl,aDR (s:={ s with heap:=h' }) e c d (by decide) ⟨x,H,I1,ru,⟨rfl,fun ys hy=>by rw [I.list_inj hy hq];exact hx⟩,st',fun b hb=>(hf b hb).1⟩⟩
 done:=by
  intro X hP hw hK hc i pins s σ H E I hf st hg
  subst hP hw hK
  obtain ⟨xs,hq,hx⟩:=hg
  obtain ⟨its,rv,p,hz⟩:=I.list hq
  obtain ⟨f0,f1,f2,f3,f4,f5⟩:=hf it (by simp)
  have hl:=rv.length
  exact wpAny_pyNext_list_end (I.ok.hd hc) st p.isList (by simp;omega) fun h' eb=>⟨rfl,I.turned (t':=s.toks) (fun b o hb e=>eb b o hb e) f0 f1 f3 f4 f5⟩
 self:=fun _ _ _ _ _ st h=>wpAny_pyIter_listiter st h
theorem aBL {P:Program} {w:World} {K:PySem.W.Frag} {tg:Expr} (it:Addr) (lo:Int) (n:Nat):Turn P w K tg (Itr lo n) [it] it (fun i h=>IsRangeIter h it (lo + (i:Nat) * 1) ((n:Int) - (i:Nat)) 1) where
 mem:=by simp
 obj:=fun i h st b hb=>by
  have e:b = it:=by simpa using hb
  subst e
  exact ⟨_,st,fun v z=>by
   have z':Data.fields _ = Data.cell v:=z
   cases z'⟩
 keep:=fun i h h' st k=>k it (by simp) _ st
 item:=by
  intro X hP hw hK hc i pins s σ H E I hf st hg
  subst hP hw hK
  obtain ⟨f0,f1,f2,f3,f4,f5⟩:=hf it (by simp)
  have W:=Walks.range (prog:=X.prog) (w:=X.w) (I.ok.hd hc) it lo 1 n
  refine W.item i s _ _ hg st fun v h' tk hv st' kk=>?_
  obtain ⟨t,rfl⟩:=hv
  have I1:Inv X pins σ H { s with heap:=h',toks:=tk }:=I.turned (fun b o hb e=>kk b o (by simpa using hb) e) f0 f1 f3 f4 f5
  refine ⟨_,rfl,aDR (s:={ s with heap:=h',toks:=tk }) (n:="range_iterator") st' rfl rfl (by decide) ⟨.int (lo + i),H,I1,⟨t,?_⟩,⟨rfl,rfl⟩,st',fun b hb=>(hf b hb).1⟩⟩
  rw [Int.mul_one]
 done:=by
  intro X hP hw hK hc i pins s σ H E I hf st hg
  subst hP hw hK
  obtain ⟨f0,f1,f2,f3,f4,f5⟩:=hf it (by simp)
  exact wpAny_pyNext_range_end (I.ok.hd hc) st (by have:n ≤ i:=hg;omega) fun h' eb=>⟨rfl,I.turned (t':=s.toks) (fun b o hb e=>eb b o hb e) f0 f1 f3 f4 f5⟩
 self:=fun _ _ _ _ _ st h=>wpAny_pyIter_rangeiter st h
end L2
namespace L2
open PySem PySem.Spec PyProof.Rows
section
variable {X:Cx} {tg:Expr}
def aHV (K:PySem.W.Frag) (tl:TE):TI:=fun σ H R=>tl σ H fun x H1=>∃ a,x = .ref a ∧ (∃ xs,SqL K H1 a xs) ∧ R (Itl K a) H1
theorem bF {l:Expr} {tl:TE} (hl:PE X l tl):PI X tg l (aHV X.K tl):=by
 intro pins s σ H R I h
 refine thn (hl pins s σ H _ I h) fun v s1 ⟨x,H1,I1,r1,q1⟩=>?_
 obtain ⟨a,e,⟨xs,hq⟩,q⟩:=q1
 subst e
 cases r1
 obtain ⟨its,rv,p,hz⟩:=I1.list hq
 refine wpAny_pyIter_list p.isList ?_
 refine ⟨s1.heap.objs.size,[s1.heap.objs.size],_,_,H1,rfl,I1.kept (t':=s1.toks) fun b o e=>Heap.get?_push_of_some _ e,aDZ a _,⟨_,Heap.get?_push_size _ rfl,rfl,rfl⟩,fun b hb=>?_,q⟩
 have e:b = s1.heap.objs.size:=by simpa using hb
 subst e
 exact I1.fpOk (Nat.le_refl _) (I1.hok.fresh (Nat.le_refl _))
theorem aGT {pins:List (Addr × Obj)} {σ:St} {H:Hp} {s:Shared} {R:It → Hp → Prop} {E:Value → Shared → Prop} {lo hi:Int} {t u v:Tok} {tk:Nat} (I:Inv X pins σ H s) (h1:-(2 ^ 62) ≤ lo) (h2:lo < 2 ^ 62) (h3:-(2 ^ 62) ≤ hi) (h4:hi < 2 ^ 62)
  (q:R (Itr lo (hi - lo).toNat) H):wpAny (model X.prog X.w) X.A (pyIter (.ref s.heap.objs.size)) (PIE X pins σ tg R) E { s with heap:=s.heap.push { cls:=.type "range",data:=.fields #[.int lo t,.int hi u,.int 1 v] },toks:=tk }:=by
 refine wpAny_pyIter_range (IsRange.new ..) (small_one h1 h2 h3 h4) ?_
 have I1:Inv X pins σ H { s with heap:=s.heap.push { cls:=.type "range",data:=.fields #[.int lo t,.int hi u,.int 1 v] },toks:=tk }:=I.kept fun b o e=>Heap.get?_push_of_some _ e
 refine ⟨(s.heap.push { cls:=.type "range",data:=.fields #[.int lo t,.int hi u,.int 1 v] }).objs.size,[(s.heap.push { cls:=.type "range",data:=.fields #[.int lo t,.int hi u,.int 1 v] }).objs.size],_,_,H,rfl,
  I1.kept (t':=tk) fun b o e=>Heap.get?_push_of_some _ e,aBL _ lo (hi - lo).toNat,?_,fun b hb=>?_,q⟩
 ·have e1:lo + ((0:Nat):Int) * 1 = lo:=by simp
  have e2:(((hi - lo).toNat:Nat):Int) - ((0:Nat):Int) = Builtin.Range.rangeSize lo hi 1:=by rw [rangeSize_one];split <;> omega
  show IsRangeIter _ _ (lo + ((0:Nat):Int) * 1) ((((hi - lo).toNat:Nat):Int) - ((0:Nat):Int)) 1
  rw [e1,e2]
  exact Heap.get?_push_size _ rfl
 ·have e:b = (s.heap.push { cls:=.type "range",data:=.fields #[.int lo t,.int hi u,.int 1 v] }).objs.size:=by simpa using hb
  subst e
  exact I1.fpOk (Nat.le_refl _) (I1.hok.fresh (Nat.le_refl _))
def aOB (ta:TA):TI:=fun σ H R=>ta σ H fun vs H1=>∃ j:Int,vs = [.int j] ∧ -(2 ^ 62) ≤ j ∧ j < 2 ^ 62 ∧ R (Itr 0 j.toNat) H1
theorem kP {a:Expr} {ta:TA} {p pos:Pos} (hg:Gl X "range") (hm:X.mg "range" = none) (ha:PA X [a] ta) (hs:starEach [a] X.env = [(false,eval a X.env)]:=by rfl):PI X tg (.Call (.Name "range" p) [a] [] pos) (aOB ta):=by
 intro pins s σ H R I h
 refine Call_ (yI I hg hm boot_range (PyProof.Rows.callWith_type1 (thn (ha pos pins s σ H _ I h) fun us s1 ⟨vs,H1,I1,r1,q1⟩=>?_) hs rfl))
 obtain ⟨j,e,q1,q2,q⟩:=q1
 subst e
 cases r1 with
 | cons r rr =>
  cases rr
  obtain ⟨t,rfl⟩:=r
  exact call_range_1 (aGT I1 (by omega) (by omega) q1 q2 (by simpa using q))
def aOS (wi:TI) (g:TG) (tb:TS):TS:=fun D σ H=>wi σ H fun J H1=>∃ W:Nat → Nat → St → Hp → Prop,(∃ m,W 0 m σ H1) ∧ ∀ i m σ H,W i m σ H →
 (J.stop i H ∧ D.nx σ H) ∨ (J.go i H ∧ ∃ N:St → Hp → Prop,(∀ σ' H',N σ' H' → ∃ m',m' < m ∧ W (i + 1) m' σ' H') ∧ ∀ x H',J.yld i H x H' → g x σ H' fun σ2 H2=>tb { D with nx:=N,ct:=N,bk:=D.nx } σ2 H2)
def mW (fp:List Addr) (h:Heap):List (Addr × Obj):=fp.filterMap fun b=>(h.get? b).map fun o=>(b,o)
theorem lN {fp:List Addr} {h:Heap} {b:Addr} {o:Obj} (hb:b ∈ fp) (e:h.get? b = some o):(b,o) ∈ mW fp h:=List.mem_filterMap.mpr ⟨b,hb,by rw [e];rfl⟩
theorem wB {fp:List Addr} {h:Heap} {p:Addr × Obj} (hp:p ∈ mW fp h):p.1 ∈ fp ∧ h.get? p.1 = some p.2:=by
 obtain ⟨b,hb,e⟩:=List.mem_filterMap.mp hp
 cases q:h.get? b with
 | none=>rw [q] at e;cases e
 | some o =>
  rw [q] at e
  have e':(b,o) = p:=Option.some.inj e
  subst e'
  exact ⟨hb,q⟩
theorem Inv.pinned {pins:List (Addr × Obj)} {σ:St} {H:Hp} {s:Shared} {fp:List Addr} (I:Inv X pins σ H s) (hf:∀ b ∈ fp,zG X pins H b) (ho:∀ b ∈ fp,∃ o,s.heap.get? b = some o ∧ ∀ v,o.data ≠ .cell v):Inv X (pins ++ mW fp s.heap) σ H s :=
 I.pins_of fun p hp=>(List.mem_append.mp hp).elim (fun z=>I.pin p (List.mem_append_right _ z)) fun z=>by
  obtain ⟨hb,e⟩:=wB z
  obtain ⟨f0,f1,f2,_⟩:=hf p.1 hb
  obtain ⟨o,e',d⟩:=ho p.1 hb
  rw [e] at e';cases e'
  exact ⟨e,f0,f1,f2,d⟩
theorem Inv.unpinned {pins pl:List (Addr × Obj)} {σ:St} {H:Hp} {s:Shared} (I:Inv X (pins ++ pl) σ H s):Inv X pins σ H s:=I.pins_of fun p hp=>I.pin p (List.mem_append_right _ (List.mem_append_left _ hp))
theorem eJ {iter:Expr} {body:List Stmt} {wi:TI} {g:TG} {tb:TS} {pos:Pos} (hp:PassesOwn (model X.prog X.w) X.A X.env X.xe) (hc:X.calm = true) (hi:PI X tg iter wi) (hg:PG X tg g) (hb:PSs X body tb)
  (hs:∀ x,foldedSetIterable iter X.env x = pure x:=by intro _;rfl):PS X (.For tg iter body [] pos) (aOS wi g tb):=by
 intro pins s σ H D I h
 refine wpAny_For (thn (hi pins s σ H _ I h) fun v s1 h1=>thn h1 fun itv s2 h2=>?_) hs
 obtain ⟨it,fp,tn,J,H2,e,I2,T,st2,f2,W,⟨m0,w0⟩,turn⟩:=h2
 subst e
 have stat:∀ {H':Hp},(∀ b ∈ fp,H' b = none) → ∀ b ∈ fp,zG X pins H' b:=fun hn b hb=>⟨hn b hb,(f2 b hb).2⟩
 refine codeAny_forLoop_any (fun n s'=>∃ i σ' H',Inv X pins σ' H' s' ∧ tn i s'.heap ∧ (∀ b ∈ fp,H' b = none) ∧ W i n σ' H') ?_ m0 ⟨0,σ,H2,I2,st2,fun b hb=>(f2 b hb).1,w0⟩
 rintro n s3 ⟨i,σ3,H3,I3,st3,fr3,w3⟩
 rcases turn i n σ3 H3 w3 with ⟨stop,qn⟩ | ⟨go,N,hN,step⟩
 ·refine wpAny_passesOwn hp (thn (T.done X rfl rfl rfl hc i pins s3 σ3 H3 X.xe I3 (stat fr3) st3 stop) fun r s4 ⟨hr,I4⟩=>?_)
  subst hr
  exact wpAny_execs_nil ⟨σ3,H3,I4,qn⟩
 ·refine wpAny_passesOwn hp (thn (T.item X rfl rfl rfl hc i pins s3 σ3 H3 X.xe I3 (stat fr3) st3 go) fun r s4 ⟨u,hr,h4⟩=>?_)
  subst hr
  refine wpAny_passesOwn hp (thn h4 fun _ s5 ⟨x,H5,I5,r5,y5,st5,fr5⟩=>?_)
  have I5':=I5.pinned (stat fr5) (T.obj _ _ st5)
  refine wpAny_passesOwn hp (thn (hg _ s5 σ3 H5 x u _ I5' r5 (step x H5 y5)) fun _ s6 ⟨σ6,H6,I6,q6⟩=>?_)
  refine wpAny_passesOwn hp (thn (hb _ s6 σ6 H6 _ I6 q6) fun f s7 q7=>?_)
  have again:∀ {σ7:St} {H7:Hp},Inv X (pins ++ mW fp s5.heap) σ7 H7 s7 → N σ7 H7 → ∃ m,m < n ∧ ∃ i σ' H',Inv X pins σ' H' s7 ∧ tn i s7.heap ∧ (∀ b ∈ fp,H' b = none) ∧ W i m σ' H':=fun {σ7 H7} I7 n7=>by
   obtain ⟨m',hm,w7⟩:=hN σ7 H7 n7
   refine ⟨m',hm,i + 1,σ7,H7,I7.unpinned,T.keep _ _ _ st5 fun b hb o e=>(I7.pin (b,o) (List.mem_append_right _ (List.mem_append_right _ (lN hb e)))).1,fun b hb=>?_,w7⟩
   obtain ⟨o,e,d⟩:=T.obj _ _ st5 b hb
   exact (I7.pin (b,o) (List.mem_append_right _ (List.mem_append_right _ (lN hb e)))).2.1
  cases f with
  | next=>obtain ⟨σ7,H7,I7,n7⟩:=q7;exact again I7 n7
  | cont=>obtain ⟨σ7,H7,I7,n7⟩:=q7;exact again I7 n7
  | brk=>obtain ⟨σ7,H7,I7,q7⟩:=q7;exact ⟨σ7,H7,I7.unpinned,q7⟩
  | ret v=>obtain ⟨x7,σ7,H7,I7,r7,q7⟩:=q7;exact ⟨x7,σ7,H7,I7.unpinned,r7,q7⟩
end
theorem dW {K:PySem.W.Frag} {a:Addr} {xs:List V} {g:TG} {tb:TS} {D:Ends} {σ:St} {H:Hp} (Pv:Nat → St → Hp → Prop) (h0:Pv 0 σ H) (hl:∀ i σ H,i ≤ xs.length → Pv i σ H → SqL K H a xs)
  (hs:∀ i x σ H,xs[i]? = some x → Pv i σ H → g x σ H fun σ2 H2=>tb { D with nx:=Pv (i + 1),ct:=Pv (i + 1),bk:=D.nx } σ2 H2) (hd:∀ σ H,Pv xs.length σ H → D.nx σ H) :
  ∃ W:Nat → Nat → St → Hp → Prop,(∃ m,W 0 m σ H) ∧ ∀ i m σ H,W i m σ H →
   ((Itl K a).stop i H ∧ D.nx σ H) ∨ ((Itl K a).go i H ∧ ∃ N:St → Hp → Prop,(∀ σ' H',N σ' H' → ∃ m',m' < m ∧ W (i + 1) m' σ' H') ∧ ∀ x H',(Itl K a).yld i H x H' → g x σ H' fun σ2 H2=>tb { D with nx:=N,ct:=N,bk:=D.nx } σ2 H2):=by
 refine ⟨fun i m σ H=>m = xs.length - i ∧ i ≤ xs.length ∧ Pv i σ H,⟨xs.length,by simp,Nat.zero_le _,h0⟩,?_⟩
 rintro i m σ H ⟨rfl,hi,p⟩
 have q:=hl i σ H hi p
 by_cases hlt:i < xs.length
 ·refine .inr ⟨⟨xs,xs[i],q,by simp [hlt]⟩,Pv (i + 1),fun σ' H' p'=>⟨xs.length - (i + 1),by omega,rfl,hlt,p'⟩,fun x H' y=>?_⟩
  obtain ⟨e,y⟩:=y
  subst e
  exact hs i x σ _ (y xs q) p
 ·have e:i = xs.length:=by omega
  subst e
  exact .inl ⟨⟨xs,q,Nat.le_refl _⟩,hd σ H p⟩
theorem kX {lo:Int} {n:Nat} {g:TG} {tb:TS} {D:Ends} {σ:St} {H:Hp} (Pv:Nat → St → Hp → Prop) (h0:Pv 0 σ H)
  (hs:∀ i σ H,i < n → Pv i σ H → g (.int (lo + i)) σ H fun σ2 H2=>tb { D with nx:=Pv (i + 1),ct:=Pv (i + 1),bk:=D.nx } σ2 H2) (hd:∀ σ H,Pv n σ H → D.nx σ H) :
  ∃ W:Nat → Nat → St → Hp → Prop,(∃ m,W 0 m σ H) ∧ ∀ i m σ H,W i m σ H →
   ((Itr lo n).stop i H ∧ D.nx σ H) ∨ ((Itr lo n).go i H ∧ ∃ N:St → Hp → Prop,(∀ σ' H',N σ' H' → ∃ m',m' < m ∧ W (i + 1) m' σ' H') ∧ ∀ x H',(Itr lo n).yld i H x H' → g x σ H' fun σ2 H2=>tb { D with nx:=N,ct:=N,bk:=D.nx } σ2 H2):=by
 refine ⟨fun i m σ H=>m = n - i ∧ i ≤ n ∧ Pv i σ H,⟨n,by simp,Nat.zero_le _,h0⟩,?_⟩
 rintro i m σ H ⟨rfl,hi,p⟩
 by_cases hlt:i < n
 ·refine .inr ⟨hlt,Pv (i + 1),fun σ' H' p'=>⟨n - (i + 1),by omega,rfl,hlt,p'⟩,fun x H' y=>?_⟩
  obtain ⟨e,y⟩:=y
  subst e y
  exact hs i σ _ hlt p
 ·have e:i = n:=by omega
  subst e
  exact .inl ⟨Nat.le_refl _,hd σ H p⟩
theorem zH {c:TT} {tb:TS} {D:Ends} {σ:St} {H:Hp} (Pv:St → Hp → Prop) (μ:St → Hp → Nat) (h0:Pv σ H)
  (hs:∀ σ H,Pv σ H → c σ H fun b H1=>if b = true then tb { D with nx:=fun σ' H'=>Pv σ' H' ∧ μ σ' H' < μ σ H,ct:=fun σ' H'=>Pv σ' H' ∧ μ σ' H' < μ σ H,bk:=D.nx } σ H1 else D.nx σ H1)
  (mono:∀ σ H Q Q',(∀ b H1,Q b H1 → Q' b H1) → c σ H Q → c σ H Q'):aFQ c tb D σ H:=by
 refine ⟨fun m σ H=>m = μ σ H ∧ Pv σ H,⟨_,rfl,h0⟩,?_⟩
 rintro m σ H ⟨rfl,p⟩
 refine mono σ H _ _ (fun b H1 q=>?_) (hs σ H p)
 cases b with
 | true=>exact ⟨_,fun σ' H' ⟨p',l⟩=>⟨_,l,rfl,p'⟩,q⟩
 | false=>exact q
end L2
namespace L2
open PySem PySem.Spec PyProof.Rows
abbrev R2:=V → V → Hp → VK → Prop
def OpR (X:Cx) (f:Value → Value → Sem Value) (r:R2):Prop :=
 ∀ (pins:List (Addr × Obj)) (s:Shared) (σ:St) (H:Hp) (x y:V) (v u:Value) (Q:VK),Inv X pins σ H s → bK x v → bK y u → r x y H Q →
  wpAny (model X.prog X.w) X.A (f v u) (EP X pins σ Q) X.xe s
def UnR (X:Cx) (f:Value → Sem Value) (r:V → Hp → VK → Prop):Prop :=
 ∀ (pins:List (Addr × Obj)) (s:Shared) (σ:St) (H:Hp) (x:V) (v:Value) (Q:VK),Inv X pins σ H s → bK x v → r x H Q →
  wpAny (model X.prog X.w) X.A (f v) (EP X pins σ Q) X.xe s
def fB (X:Cx) (f:Value) (r:List V → Hp → VK → Prop):Prop :=
 ∀ (pins:List (Addr × Obj)) (s:Shared) (σ:St) (H:Hp) (xs:List V) (us:List Value) (Q:VK),Inv X pins σ H s → bQ xs us → r xs H Q →
  wpAny (model X.prog X.w) X.A (call f us) (EP X pins σ Q) X.xe s
def tOp (r:R2) (ta tb:TE):TE:=fun σ H Q=>ta σ H fun x H1=>tb σ H1 fun y H2=>r x y H2 Q
def tUn (r:V → Hp → VK → Prop) (ta:TE):TE:=fun σ H Q=>ta σ H fun x H1=>r x H1 Q
def rI (C:Int → Int → Prop) (g:Int → Int → V):R2:=fun x y H Q=>∃ i j,x = .int i ∧ y = .int j ∧ C i j ∧ Q (g i j) H
def rI0 (g:Int → Int → V):R2:=fun x y H Q=>∃ i j,x = .int i ∧ y = .int j ∧ Q (g i j) H
def rU (g:Int → V):V → Hp → VK → Prop:=fun x H Q=>∃ i,x = .int i ∧ Q (g i) H
section
variable {X:Cx} {a b c:Expr} {ta tb tc:TE} {pos:Pos}
theorem aMS (ha:PE X a ta) (hb:PE X b tb) {pins:List (Addr × Obj)} {s:Shared} {σ:St} {H:Hp} {R:V → V → Hp → Prop} (I:Inv X pins σ H s)
  (h:ta σ H fun x H1=>tb σ H1 fun y H2=>R x y H2) {Q:Value → Shared → Prop} {f:Value → Value → Sem Value}
  (hf:∀ v u s2 x y H2,Inv X pins σ H2 s2 → bK x v → bK y u → R x y H2 → wpAny (model X.prog X.w) X.A (f v u) Q X.xe s2) :
  wpAny (model X.prog X.w) X.A (eval a X.env) (fun v s₁=>wpAny (model X.prog X.w) X.A (eval b X.env) (fun u s₂=>wpAny (model X.prog X.w) X.A (f v u) Q X.xe s₂) X.xe s₁) X.xe s:=by
 refine thn (ha pins s σ H _ I h) fun v s1 ⟨x,H1,I1,r1,q1⟩=>?_
 refine thn (hb pins s1 σ H1 _ I1 q1) fun u s2 ⟨y,H2,I2,r2,q2⟩=>?_
 exact hf v u s2 x y H2 I2 r1 r2 q2
theorem aI {op:Operator} {r:R2} (ho:OpR X (binaryOp op) r) (ha:PE X a ta) (hb:PE X b tb):PE X (.BinOp a op b pos) (tOp r ta tb):=by
 intro pins s σ H Q I h
 exact wpAny_BinOp (aMS ha hb I h fun v u s2 x y H2 I2 rx ry q=>ho pins s2 σ H2 x y v u Q I2 rx ry q)
theorem aAI {op:UnaryOp} {r:V → Hp → VK → Prop} (ho:UnR X (unaryOp op) r) (ha:PE X a ta):PE X (.UnaryOp op a pos) (tUn r ta):=by
 intro pins s σ H Q I h
 exact UnaryOp_ (thn (ha pins s σ H _ I h) fun v s1 ⟨x,H1,I1,r1,q1⟩=>ho pins s1 σ H1 x v Q I1 r1 q1)
theorem opI {f:Value → Value → Sem Value} {C:Int → Int → Prop} {g:Int → Int → Int}
  (rule:∀ (i j:Int) (t u:Tok) (s:Shared) (Q:Value → Shared → Prop) (E:Value → Shared → Prop),C i j → Q (.int (g i j) s.toks) { s with toks:=s.toks + 1 } → wpAny (model X.prog X.w) X.A (f (.int i t) (.int j u)) Q E s) :
  OpR X f (rI C fun i j=>.int (g i j)):=by
 intro pins s σ H x y v u Q I rx ry h
 obtain ⟨i,j,rfl,rfl,hc,q⟩:=h
 obtain ⟨t,rfl⟩:=rx
 obtain ⟨t',rfl⟩:=ry
 exact rule i j t t' s _ _ hc ⟨.int (g i j),H,I.tok _,⟨_,rfl⟩,q⟩
theorem aNU {f:Value → Value → Sem Value} {g:Int → Int → Int}
  (rule:∀ (i j:Int) (t u:Tok) (s:Shared) (Q:Value → Shared → Prop) (E:Value → Shared → Prop),Q (.int (g i j) s.toks) { s with toks:=s.toks + 1 } → wpAny (model X.prog X.w) X.A (f (.int i t) (.int j u)) Q E s) :
  OpR X f (rI0 fun i j=>.int (g i j)):=by
 intro pins s σ H x y v u Q I rx ry h
 obtain ⟨i,j,rfl,rfl,q⟩:=h
 obtain ⟨t,rfl⟩:=rx
 obtain ⟨t',rfl⟩:=ry
 exact rule i j t t' s _ _ ⟨.int (g i j),H,I.tok _,⟨_,rfl⟩,q⟩
theorem aLX {f:Value → Value → Sem Value} {g:Int → Int → Bool}
  (rule:∀ (i j:Int) (t u:Tok) (s:Shared) (Q:Value → Shared → Prop) (E:Value → Shared → Prop),Q (.bool (g i j)) s → wpAny (model X.prog X.w) X.A (f (.int i t) (.int j u)) Q E s) :
  OpR X f (rI0 fun i j=>.bl (g i j)):=by
 intro pins s σ H x y v u Q I rx ry h
 obtain ⟨i,j,rfl,rfl,q⟩:=h
 obtain ⟨t,rfl⟩:=rx
 obtain ⟨t',rfl⟩:=ry
 exact rule i j t t' s _ _ ⟨.bl (g i j),H,I,rfl,q⟩
def aPJ (i j:Int):Prop:=0 ≤ j ∧ j ≤ 1000000 ∧ i.natAbs < 2 ^ 64
def aMX (i j:Int):Prop:=(-(2 ^ 64) < i ∧ i < 2 ^ 64) ∨ (-(2 ^ 64) < j ∧ j < 2 ^ 64)
theorem aMX.ok {i j:Int} (h:aMX i j):IntMulOk i j:=by
 rcases h with ⟨h1,h2⟩ | ⟨h1,h2⟩
 ·exact .of_left (intBits_le_64 h1 h2)
 ·exact .of_right (intBits_le_64 h1 h2)
theorem cF:OpR X (binaryOp .Add) (rI0 fun i j=>.int (i + j)):=aNU fun _ _ _ _ _ _ _ q=>add_int q
theorem dU:OpR X (binaryOp .Sub) (rI0 fun i j=>.int (i - j)):=aNU fun _ _ _ _ _ _ _ q=>sub_int q
theorem lK:OpR X (binaryOp .Mult) (rI aMX fun i j=>.int (i * j)):=opI fun _ _ _ _ _ _ _ hc q=>mul_int q hc.ok
theorem bN:OpR X (binaryOp .Mod) (rI (fun _ j=>0 < j) fun i j=>.int (i % j)):=opI fun i j _ _ _ _ _ hc q=>by
 have h1:(0:Int) < j:=hc
 exact mod_int' (by omega) (by rw [Int.fmod_eq_emod_of_nonneg i (by omega)];exact q)
theorem dE:OpR X (binaryOp .Pow) (rI aPJ fun i j=>.int (i ^ j.toNat)):=opI fun _ _ _ _ _ _ _ hc q=>pow_int_small hc.1 hc.2.1 hc.2.2 q
theorem unI {f:Value → Sem Value} {g:Int → Int}
  (rule:∀ (i:Int) (t:Tok) (s:Shared) (Q:Value → Shared → Prop) (E:Value → Shared → Prop),Q (.int (g i) s.toks) { s with toks:=s.toks + 1 } → wpAny (model X.prog X.w) X.A (f (.int i t)) Q E s) :
  UnR X f (rU fun i=>.int (g i)):=by
 intro pins s σ H x v Q I rx h
 obtain ⟨i,rfl,q⟩:=h
 obtain ⟨t,rfl⟩:=rx
 exact rule i t s _ _ ⟨.int (g i),H,I.tok _,⟨_,rfl⟩,q⟩
theorem sL:UnR X (unaryOp .USub) (rU fun i=>.int (-i)):=unI fun _ _ _ _ _ q=>neg_int q
end
def aNK:V → V → Bool
 | .non,.non=>true | .non,.int _=>true | .int _,.non=>true | .non,.bl _=>true | .bl _,.non=>true | .non,.str _=>true | .str _,.non=>true
 | .int _,.int _=>true | .bl _,.bl _=>true | .str _,.str _=>true | .byt _,.byt _=>true
 | .int _,.str _=>true | .str _,.int _=>true | .bl _,.str _=>true | .str _,.bl _=>true
 | _,_=>false
def rEq:R2:=fun x y H Q=>aNK x y = true ∧ Q (.bl (decide (x = y))) H
def rNe:R2:=fun x y H Q=>aNK x y = true ∧ Q (.bl (!decide (x = y))) H
theorem gT {i j:Int}:decide (V.int i = V.int j) = (i == j):=by
 rw [Bool.eq_iff_iff]
 simp
theorem aIN {i j:Bool}:decide (V.bl i = V.bl j) = (i == j):=by
 rw [Bool.eq_iff_iff]
 simp
theorem oN {i j:Str}:decide (V.str i = V.str j) = (i == j):=by
 rw [Bool.eq_iff_iff]
 simp
theorem aDV {i j:Array UInt8}:decide (V.byt i = V.byt j) = (i.toList == j.toList):=by
 rw [Bool.eq_iff_iff]
 cases i
 cases j
 simp
section
variable {X:Cx} {a b c:Expr} {ta tb tc:TE} {pos:Pos}
theorem cC {pins:List (Addr × Obj)} {σ:St} {H:Hp} {s:Shared} {Q:VK} {k k':Bool} (I:Inv X pins σ H s) (q:Q (.bl k) H) (e:k = k'):EP X pins σ Q (.bool k') s:=by
 subst e
 exact ⟨.bl k,H,I,rfl,q⟩
theorem iR:OpR X (compareOp .Eq) rEq:=by
 intro pins s σ H x y v u Q I rx ry h
 obtain ⟨hs,q⟩:=h
 cases x with
 | non =>
  cases rx
  cases y with
  | non=>cases ry;exact PySem.EqNone.eq_none_none (cC I q (by simp))
  | bl j=>cases ry;exact PySem.EqNone.eq_none_bool (cC I q (by simp))
  | int j=>obtain ⟨t',rfl⟩:=ry;exact PySem.EqNone.eq_none_int (cC I q (by simp))
  | str j=>obtain ⟨t',rfl⟩:=ry;exact PySem.EqNone.eq_none_str (cC I q (by simp))
  | _=>exact absurd (show false = true from hs) Bool.false_ne_true
 | bl i =>
  cases rx
  cases y with
  | non=>cases ry;exact PySem.EqNone.eq_bool_none (cC I q (by simp))
  | bl j=>cases ry;exact eq_bool (cC I q aIN)
  | str j=>obtain ⟨t',rfl⟩:=ry;exact PySem.EqMixed.eq_bool_str (cC I q (by simp))
  | _=>exact absurd (show false = true from hs) Bool.false_ne_true
 | int i =>
  obtain ⟨t,rfl⟩:=rx
  cases y with
  | non=>cases ry;exact PySem.EqNone.eq_int_none (cC I q (by simp))
  | int j=>obtain ⟨t',rfl⟩:=ry;exact eq_int (cC I q gT)
  | str j=>obtain ⟨t',rfl⟩:=ry;exact PySem.EqMixed.eq_int_str (cC I q (by simp))
  | _=>exact absurd (show false = true from hs) Bool.false_ne_true
 | str i =>
  obtain ⟨t,rfl⟩:=rx
  cases y with
  | non=>cases ry;exact PySem.EqNone.eq_str_none (cC I q (by simp))
  | bl j=>cases ry;exact PySem.EqMixed.eq_str_bool (cC I q (by simp))
  | int j=>obtain ⟨t',rfl⟩:=ry;exact PySem.EqMixed.eq_str_int (cC I q (by simp))
  | str j=>obtain ⟨t',rfl⟩:=ry;exact eq_str (cC I q oN)
  | _=>exact absurd (show false = true from hs) Bool.false_ne_true
 | byt i =>
  obtain ⟨t,rfl⟩:=rx
  cases y with
  | byt j=>obtain ⟨t',rfl⟩:=ry;exact PySem.W.eq_bytes (cC I q aDV)
  | _=>exact absurd (show false = true from hs) Bool.false_ne_true
 | _=>cases y <;> exact absurd (show false = true from hs) Bool.false_ne_true
theorem tM:OpR X (compareOp .NotEq) rNe:=by
 intro pins s σ H x y v u Q I rx ry h
 obtain ⟨hs,q⟩:=h
 cases x with
 | non =>
  cases rx
  cases y with
  | non=>cases ry;exact PySem.EqNone.ne_none_none (cC I q (by simp))
  | bl j=>cases ry;exact PySem.EqNone.ne_none_bool (cC I q (by simp))
  | int j=>obtain ⟨t',rfl⟩:=ry;exact PySem.EqNone.ne_none_int (cC I q (by simp))
  | str j=>obtain ⟨t',rfl⟩:=ry;exact PySem.EqNone.ne_none_str (cC I q (by simp))
  | _=>exact absurd (show false = true from hs) Bool.false_ne_true
 | bl i =>
  cases rx
  cases y with
  | non=>cases ry;exact PySem.EqNone.ne_bool_none (cC I q (by simp))
  | bl j=>cases ry;exact ne_bool (cC I q (congrArg not aIN))
  | str j=>obtain ⟨t',rfl⟩:=ry;exact PySem.EqMixed.ne_bool_str (cC I q (by simp))
  | _=>exact absurd (show false = true from hs) Bool.false_ne_true
 | int i =>
  obtain ⟨t,rfl⟩:=rx
  cases y with
  | non=>cases ry;exact PySem.EqNone.ne_int_none (cC I q (by simp))
  | int j=>obtain ⟨t',rfl⟩:=ry;exact ne_int (cC I q (congrArg not gT))
  | str j=>obtain ⟨t',rfl⟩:=ry;exact PySem.EqMixed.ne_int_str (cC I q (by simp))
  | _=>exact absurd (show false = true from hs) Bool.false_ne_true
 | str i =>
  obtain ⟨t,rfl⟩:=rx
  cases y with
  | non=>cases ry;exact PySem.EqNone.ne_str_none (cC I q (by simp))
  | bl j=>cases ry;exact PySem.EqMixed.ne_str_bool (cC I q (by simp))
  | int j=>obtain ⟨t',rfl⟩:=ry;exact PySem.EqMixed.ne_str_int (cC I q (by simp))
  | str j=>obtain ⟨t',rfl⟩:=ry;exact ne_str (cC I q (congrArg not oN))
  | _=>exact absurd (show false = true from hs) Bool.false_ne_true
 | byt i =>
  obtain ⟨t,rfl⟩:=rx
  cases y with
  | byt j=>obtain ⟨t',rfl⟩:=ry;exact PySem.W.ne_bytes (cC I q (congrArg not aDV))
  | _=>exact absurd (show false = true from hs) Bool.false_ne_true
 | _=>cases y <;> exact absurd (show false = true from hs) Bool.false_ne_true
theorem mY:OpR X (compareOp .Lt) (rI0 fun i j=>.bl (decide (i < j))):=aLX fun _ _ _ _ _ _ _ q=>lt_int q
theorem pU:OpR X (compareOp .LtE) (rI0 fun i j=>.bl (decide (i ≤ j))):=aLX fun _ _ _ _ _ _ _ q=>le_int q
theorem wA:OpR X (compareOp .Gt) (rI0 fun i j=>.bl (decide (j < i))):=aLX fun _ _ _ _ _ _ _ q=>gt_int q
theorem aEK:OpR X (compareOp .In) (fun x y H Q=>∃ i j,x = .str i ∧ y = .str j ∧ Q (.bl (!(Builtin.Str.occurrences j i 0 j.length 1).isEmpty)) H):=by
 intro pins s σ H x y v u Q I rx ry h
 obtain ⟨i,j,rfl,rfl,q⟩:=h
 obtain ⟨t,rfl⟩:=rx
 obtain ⟨t',rfl⟩:=ry
 exact in_str (cC I q rfl)
theorem aHD:OpR X (compareOp .Is) (fun x y H Q=>y = .non ∧ Q (.bl (decide (x = .non))) H):=by
 intro pins s σ H x y v u Q I rx ry h
 obtain ⟨rfl,q⟩:=h
 cases ry
 refine is_none_gen (cC I q ?_)
 cases x <;> first
  | (cases rx;rfl)
  | (obtain ⟨t,rfl⟩:=rx;rfl)
theorem bG (b:Expr) {op:CmpOp} (h:op ≠ .In:=by decide) (h2:op ≠ .NotIn:=by decide):behindInMarks op b = false:=by
 have e1:(op == CmpOp.In) = false:=by cases op <;> first | rfl | exact absurd rfl h
 have e2:(op == CmpOp.NotIn) = false:=by cases op <;> first | rfl | exact absurd rfl h2
 cases b <;> simp [behindInMarks,e1,e2]
theorem dM {op:CmpOp} {r:R2} (ho:OpR X (compareOp op) r) (ha:PE X a ta) (hb:PE X b tb) (hm:behindInMarks op b = false):PE X (.Compare a [op] [b] pos) (tOp r ta tb):=by
 intro pins s σ H Q I h
 exact wpAny_Compare1 (aMS ha hb I h fun v u s2 x y H2 I2 rx ry q=>ho pins s2 σ H2 x y v u Q I2 rx ry q) hm
def aKW (t:TE):TT:=fun σ H Q=>t σ H fun x H'=>∃ k,x = .bl k ∧ Q k H'
theorem bA {op:CmpOp} {r:R2} (ho:OpR X (compareOp op) r) (ha:PE X a ta) (hb:PE X b tb) (hm:behindInMarks op b = false):PT X (.Compare a [op] [b] pos) (aKW (tOp r ta tb)):=by
 intro pins s σ H Q I h
 refine wpAny_isTrue_Compare1 (thn (ha pins s σ H _ I h) fun v s1 ⟨x,H1,I1,r1,q1⟩=>thn (hb pins s1 σ H1 _ I1 q1) fun u s2 ⟨y,H2,I2,r2,q2⟩ =>
  thn (ho pins s2 σ H2 x y v u _ I2 r1 r2 q2) fun c s3 ⟨z,H3,I3,r3,k,e,q3⟩=>?_) hm
 subst e
 cases r3
 exact wpAny_truthy_bool ⟨H3,I3,q3⟩
def aFT (r r':R2) (ta tb tc:TE):TE:=fun σ H Q=>ta σ H fun x H1=>tb σ H1 fun y H2=>r x y H2 fun z H3=>∃ k,z = .bl k ∧
 (if k = true then tc σ H3 fun w' H4=>r' y w' H4 Q else Q (.bl false) H3)
theorem pR {op op':CmpOp} {r r':R2} (ho:OpR X (compareOp op) r) (ho':OpR X (compareOp op') r') (ha:PE X a ta) (hb:PE X b tb) (hc:PE X c tc)
  (hm:lastMarks [op,op'] [b,c] = false:=by with_unfolding_all rfl):PE X (.Compare a [op,op'] [b,c] pos) (aFT r r' ta tb tc):=by
 intro pins s σ H Q I h
 refine Compare_chain (thn (ha pins s σ H _ I h) fun v s1 ⟨x,H1,I1,r1,q1⟩=>chain_link (thn (hb pins s1 σ H1 _ I1 q1) fun u s2 ⟨y,H2,I2,r2,q2⟩ =>
  thn (ho pins s2 σ H2 x y v u _ I2 r1 r2 q2) fun d s3 ⟨z,H3,I3,r3,k,e,q3⟩=>?_)) hm
 subst e
 cases r3
 refine wpAny_truthy_bool ?_
 cases k with
 | false=>exact ite_ff ⟨.bl false,H3,I3,rfl,q3⟩
 | true=>exact ite_tt (chain_last (thn (hc pins s3 σ H3 _ I3 q3) fun w' s4 ⟨z',H4,I4,r4,q4⟩=>ho' pins s4 σ H4 y z' u w' Q I4 r2 r4 q4))
theorem aGU {op op':CmpOp} {r r':R2} (ho:OpR X (compareOp op) r) (ho':OpR X (compareOp op') r') (ha:PE X a ta) (hb:PE X b tb) (hc:PE X c tc)
  (hm:lastMarks [op,op'] [b,c] = false:=by with_unfolding_all rfl):PT X (.Compare a [op,op'] [b,c] pos) (aKW (aFT r r' ta tb tc)):=by
 intro pins s σ H Q I h
 refine isTrue_chain (thn (ha pins s σ H _ I h) fun v s1 ⟨x,H1,I1,r1,q1⟩=>test_link (thn (hb pins s1 σ H1 _ I1 q1) fun u s2 ⟨y,H2,I2,r2,q2⟩ =>
  thn (ho pins s2 σ H2 x y v u _ I2 r1 r2 q2) fun d s3 ⟨z,H3,I3,r3,k,e,q3⟩=>?_)) hm
 subst e
 cases r3
 refine wpAny_truthy_bool ?_
 cases k with
 | false =>
  obtain ⟨k',e',q'⟩:=q3
  cases e'
  exact ite_ff ⟨H3,I3,q'⟩
 | true =>
  refine ite_tt (test_last (thn (hc pins s3 σ H3 _ I3 q3) fun w' s4 ⟨z',H4,I4,r4,q4⟩=>thn (ho' pins s4 σ H4 y z' u w' _ I4 r2 r4 q4) fun d' s5 ⟨z2,H5,I5,r5,k2,e2,q5⟩=>?_))
  subst e2
  cases r5
  exact wpAny_truthy_bool ⟨H5,I5,q5⟩
theorem uA:(sizeLine:Nat) < 2 ^ 63:=by rw [sizeLine_eq];decide
theorem aBZ:OpR X (binaryOp .Add) (fun x y H Q=>∃ i j,x = .str i ∧ y = .str j ∧ i.length + j.length ≤ sizeLine ∧ Q (.str (i ++ j)) H):=by
 intro pins s σ H x y v u Q I rx ry h
 obtain ⟨i,j,rfl,rfl,hz,q⟩:=h
 obtain ⟨t,rfl⟩:=rx
 obtain ⟨t',rfl⟩:=ry
 exact add_str (fun t' tk=>⟨.str (i ++ j),H,I.tok _,⟨_,rfl⟩,q⟩) hz
theorem vQ {x:V} {us:List Value} (r:bQ [x] us):∃ u,us = [u] ∧ bK x u:=by
 cases r with
 | cons r1 r2=>cases r2;exact ⟨_,rfl,r1⟩
theorem aMZ {x y:V} {us:List Value} (r:bQ [x,y] us):∃ u w',us = [u,w'] ∧ bK x u ∧ bK y w':=by
 cases r with
 | cons r1 r2 =>
  cases r2 with
  | cons r3 r4=>cases r4;exact ⟨_,_,rfl,r1,r3⟩
theorem uV:fB X (.builtin "abs") (fun xs H Q=>∃ i,xs = [.int i] ∧ Q (.int (if i < 0 then -i else i)) H):=by
 intro pins s σ H xs us Q I r h
 obtain ⟨i,rfl,q⟩:=h
 obtain ⟨u,rfl,t,rfl⟩:=vQ r
 exact call_abs_int fun u tk=>⟨.int (if i < 0 then -i else i),H,I.tok _,⟨_,rfl⟩,q⟩
theorem wQ (hc:X.calm = true):fB X (.builtin "max") (fun xs H Q=>∃ i j,xs = [.int i,.int j] ∧ Q (.int (if j > i then j else i)) H):=by
 intro pins s σ H xs us Q I r h
 obtain ⟨i,j,rfl,q⟩:=h
 obtain ⟨u,w',rfl,⟨t,rfl⟩,⟨t',rfl⟩⟩:=aMZ r
 refine max_two_ints (I.ok.hd hc) fun h' tk k=>⟨_,H,I.kept k,?_,q⟩
 by_cases hj:j > i
 ·rw [if_pos hj,if_pos hj];exact ⟨_,rfl⟩
 ·rw [if_neg hj,if_neg hj];exact ⟨_,rfl⟩
theorem yY:fB X (.type "str") (fun xs H Q=>∃ i,xs = [.int i] ∧ i.natAbs.log2 < 1920 ∧ Q (.str (toString i)) H):=by
 intro pins s σ H xs us Q I r h
 obtain ⟨i,rfl,hz,q⟩:=h
 obtain ⟨u,rfl,t,rfl⟩:=vQ r
 exact PySem.P.str_of_int hz ⟨.str _,H,I.tok _,⟨_,rfl⟩,q⟩
end
end L2
namespace L2
open PySem PySem.Spec PyProof.Rows
structure ObjM (h:Heap) (x dx C:Addr) (mA:Str → Option Value):Prop where
 obj:h.get? x = some (PySem.W.instObj C dx)
 ns:h.Ns1 dx mA
 ne:dx ≠ x
theorem aET {h:Heap} {dx:Addr} {mA:Str → Option Value} (n:h.Ns1 dx mA):∃ od,h.get? dx = some od ∧ ∀ name,PySem.W.lookIn name od = some (mA name):=by
 obtain ⟨o,es,ep,ho,hd,hk,_,hm⟩:=n
 refine ⟨o,ho,fun name=>?_⟩
 have e:=hm name
 unfold nsFind findBy at e
 rw [← Array.find?_toList] at e
 unfold PySem.W.lookIn
 rw [hd]
 dsimp only
 split
 ·rename_i y q
  rw [q] at e
  exact congrArg some e
 ·rename_i q
  rw [q] at e
  have a:es.toList.any (·.refKey) = false:=by
   rw [List.any_eq_false]
   intro y hy
   obtain ⟨z,t,hkey⟩:=hk y (Array.mem_toList_iff.mp hy)
   simp [DictEntry.refKey,hkey]
  have a':¬ es.toList.any (·.refKey) = true:=by rw [a];exact Bool.false_ne_true
  rw [if_neg a']
  exact congrArg some e
theorem ObjM.look {h:Heap} {x dx C:Addr} {mA:Str → Option Value} (I:ObjM h x dx C mA):∃ od,PySem.W.InstAt h x (PySem.W.instObj C dx) C (some od) ∧ ∀ name,PySem.W.lookIn name od = some (mA name) :=
 let ⟨od,ho,hl⟩:=aET I.ns
 ⟨od,⟨I.obj,rfl,rfl,ho⟩,hl⟩
section
variable {prog:Program} {w:World} {A:Around} {E:Value → Shared → Prop} {s:Shared} {K:PySem.W.Frag} {x dx C f:Addr} {mA:Str → Option Value} {name:Str} {v:Value}
theorem aKG {expr:Bool} {Q:Value → Shared → Prop} (X:K.In s.heap) (I:ObjM s.heap x dx C mA) (hg:PySem.W.plainGet K C name = true) (hh:PySem.W.hasDictIn K C = true)
  (ha:PySem.W.findIn K (.ref C) name = some none) (hv:mA name = some v) (hv':PySem.W.handedIn v = true) (h:Q v { s with toks:=s.toks + 1 }) :
  wpAny (model prog w) A (getAttr (.ref x) name expr) Q E s:=by
 obtain ⟨od,J,hl⟩:=I.look
 exact PySem.W.get_value X J (PySem.W.plainGet_of hg).1 (PySem.W.findObj_own hh ha rfl (by rw [hl,hv])) hv' h
theorem aHZ {pl:Sem Bool} {Q:Value × List Value → Shared → Prop} (X:K.In s.heap) (I:ObjM s.heap x dx C mA) (hg:PySem.W.plainGet K C name = true)
  (hf:PySem.W.findIn K (.ref C) name = some (some (.ref f))) (ht:PySem.W.isFn K (.ref f) = true) (hv:mA name = none) (h:Q (.ref f,[.ref x]) s) :
  wpAny (model prog w) A (getMethod (.ref x) name pl) Q E s:=by
 obtain ⟨od,J,hl⟩:=I.look
 exact PySem.W.method_fn X J (PySem.W.plainGet_of hg).1 (PySem.W.plainGet_of hg).2 hf (beq_iff_eq.mp ht) (by show (PySem.W.lookIn name od).map (·.isSome) = some false;rw [hl,hv];rfl) h
theorem aJJ {ns:List Str} {Q:Unit → Shared → Prop} (X:K.In s.heap) (I:ObjM s.heap x dx C mA)
  (hs:PySem.W.findIn K (.ref C) "__setattr__" = some (some (.builtin "object.__setattr__"))) (hp:PySem.W.plainOver K C = true) (ht:PySem.W.takerIn K C name = some none) (hh:PySem.W.hasDictIn K C = true)
  (hw:PySem.Within mA ns) (hsz:ns.length ≤ sizeLine)
  (h:∀ h',ObjM h' x dx C (fun y=>if y = name then some v else mA y) → Heap.SameBut dx s.heap h' → Q () { s with heap:=h',toks:=s.toks + 2 }) :
  wpAny (model prog w) A (setAttr (.ref x) name v) Q E s:=by
 obtain ⟨od,J,hl⟩:=I.look
 refine PySem.W.set_plain X J hs (PySem.W.osa_open (s:={ s with toks:=s.toks + 1 }) (r:=none) X J hp ht fun b=>?_)
 obtain ⟨cd,hc,hd'⟩:=PySem.W.any_some hh
 have hx:s.heap.get? x = some ⟨.ref C,some dx,.plain,#[]⟩:=I.obj
 refine wpAny_bind (wpAny_pure (wpAny_bind (wpAny_bind (wpAny_loadPart hx (wpAny_bind (PySem.W.Looks.here (s:={ s with toks:=s.toks + 1 }) (PySem.W.looks_clsIn X hc) ?_))))))
 rw [hd']
 refine wpAny_pure (a:=some dx) (wpAny_bind (wpAny_pure (wpAny_bind ?_)))
 refine wpAny_nsSet1 (s:={ s with toks:=s.toks + 1 }) I.ns fun h' hn2 hs2=>?_
 obtain ⟨oD,esD,epD,hoD,hdD,hcD⟩:=hn2.count (PySem.Within.cons name v hw)
 refine wpAny_bind (wpAny_lookBehind hoD (by rw [hdD];exact pastItsLine_dict (Nat.le_trans hcD (by rw [List.length_cons];omega))) ?_)
 exact wpAny_pure (h _ ⟨(hs2.2 _ (Ne.symm I.ne)).trans I.obj,hn2,I.ne⟩ hs2)
theorem aHK {R:Result → Shared → Prop} {vs:List Value} {kw:List (Str × Value)} (X:K.In s.heap) (hm:PySem.W.makesIn K C = true)
  (hi:PySem.W.findIn K (.ref C) "__init__" = some (some (.ref f))) (hf:PySem.W.typeIn K (.ref f) = some (.type "function"))
  (h:codeAny (model prog w) (A.under (.builtin "type.__call__" ⟨.ref C :: vs,kw⟩)) (.call (.ref f) ⟨.ref (s.heap.objs.size + 1) :: vs,kw⟩) (PySem.W.InitBack (s.heap.objs.size + 1) R)
   { s with heap:=(s.heap.push PySem.W.emptyDict).push (PySem.W.instObj C s.heap.objs.size) }) :
  codeAny (model prog w) A (.call (.ref C) ⟨vs,kw⟩) R s:=by
 obtain ⟨hh,g,d,t,os⟩:=s
 exact PySem.W.make_core (PySem.W.makes_of X hm) (PySem.W.looks_findIn X hi) (fun self=>PySem.W.bind_fn X self hf) (.inl rfl) h
end
def iT (f:Str) (v:V):List (Str × V) → List (Str × V)
 | []=>[(f,v)]
 | (g,x) :: r=>if g = f then (g,v) :: r else (g,x) :: iT f v r
theorem eT (f g:Str) (v:V):∀ fs:List (Str × V),(iT f v fs).lookup g = if g = f then some v else fs.lookup g
 | []=>by
  show List.lookup g [(f,v)] = _
  by_cases h:g = f
  ·have hb:(g == f) = true:=beq_iff_eq.mpr h
   simp only [List.lookup,hb,if_pos h]
  ·have hb:(g == f) = false:=beq_eq_false_iff_ne.mpr h
   simp only [List.lookup,hb,if_neg h]
 | (k,x) :: r=>by
  have ih:=eT f g v r
  rw [show iT f v ((k,x) :: r) = (if k = f then (k,v) :: r else (k,x) :: iT f v r) from rfl]
  by_cases hk:k = f
  ·rw [if_pos hk]
   by_cases h:g = k
   ·have hb:(g == k) = true:=beq_iff_eq.mpr h
    simp only [List.lookup,hb,if_pos (h.trans hk)]
   ·have hb:(g == k) = false:=beq_eq_false_iff_ne.mpr h
    simp only [List.lookup,hb,if_neg (fun e:g = f=>h (e.trans hk.symm))]
  ·rw [if_neg hk]
   by_cases h:g = k
   ·have hb:(g == k) = true:=beq_iff_eq.mpr h
    simp only [List.lookup,hb,if_neg (fun e:g = f=>hk (h.symm.trans e))]
   ·have hb:(g == k) = false:=beq_eq_false_iff_ne.mpr h
    simp only [List.lookup,hb]
    exact ih
theorem qR (f:Str) (v:V):∀ fs:List (Str × V),f ∈ (iT f v fs).map (·.1) ∧ ∀ g,g ∈ fs.map (·.1) → g ∈ (iT f v fs).map (·.1)
 | []=>⟨by simp [iT],fun g h=>by simp at h⟩
 | (k,x) :: r=>by
  obtain ⟨i1,i2⟩:=qR f v r
  rw [show iT f v ((k,x) :: r) = (if k = f then (k,v) :: r else (k,x) :: iT f v r) from rfl]
  by_cases hk:k = f
  ·rw [if_pos hk]
   subst hk
   exact ⟨by simp,fun g h=>by simpa using h⟩
  ·rw [if_neg hk]
   refine ⟨?_,fun g h=>?_⟩
   ·rw [List.map_cons]
    exact List.mem_cons_of_mem _ i1
   ·rw [List.map_cons] at h ⊢
    rcases List.mem_cons.mp h with e | e
    ·exact List.mem_cons.mpr (.inl e)
    ·exact List.mem_cons_of_mem _ (i2 g e)
theorem rP (f:Str) (v:V):∀ fs:List (Str × V),(iT f v fs).length ≤ fs.length + 1
 | []=>by simp [iT]
 | (k,x) :: r=>by
  have ih:=rP f v r
  rw [show iT f v ((k,x) :: r) = (if k = f then (k,v) :: r else (k,x) :: iT f v r) from rfl]
  by_cases hk:k = f
  ·rw [if_pos hk,List.length_cons,List.length_cons];omega
  ·rw [if_neg hk,List.length_cons,List.length_cons];omega
theorem mG.some_of {v:V} {o:Option Value} (r:mG (some v) o):∃ u,o = some u ∧ bK v u:=by
 cases o with
 | none=>exact (show False from r).elim
 | some u=>exact ⟨u,rfl,r⟩
theorem mG.none_of {o:Option Value} (r:mG none o):o = none:=by
 cases o with
 | none=>rfl
 | some u=>exact (show False from r).elim
theorem aEY {v:V} {u:Value} (r:bK v u):PySem.W.handedIn u = true:=by
 cases v with
 | non=>cases (show u = Value.none from r);rfl
 | bl b=>cases (show u = Value.bool b from r);rfl
 | int i=>obtain ⟨t,e⟩:=(show ∃ t,u = Value.int i t from r);cases e;rfl
 | str x=>obtain ⟨t,e⟩:=(show ∃ t,u = Value.str x t from r);cases e;rfl
 | byt b=>obtain ⟨t,e⟩:=(show ∃ t,u = Value.bytes b t from r);cases e;rfl
 | flt b=>obtain ⟨t,e⟩:=(show ∃ t,u = Value.float b t from r);cases e;rfl
 | ref a=>cases (show u = Value.ref a from r);rfl
 | ty n=>cases (show u = Value.type n from r);rfl
section
variable {P:Program} {w:World} {H H':Hp} {h h':Heap} {a C dx:Addr} {fs fs':List (Str × V)}
theorem sJ (hok:HOk P w H h) (e:H a = some (.ins C dx fs)):∃ mA,ObjM h a dx C mA ∧ (∀ f,mG (fs.lookup f) (mA f)) ∧ PySem.Within mA (fs.map (·.1)) ∧ fs.length ≤ 1000 ∧ H dx = some (.own a):=by
 obtain ⟨d,z,ne,ob,mA,n,r,q⟩:=(show cU P w H h a (.ins C dx fs) from hok a _ e)
 exact ⟨mA,⟨ob,n,ne⟩,r,q,z,d⟩
end
structure Cls (K:PySem.W.Frag) (C:Addr):Prop where
 pg:PySem.W.plainGet K C Str.empty = true
 hd:PySem.W.hasDictIn K C = true
 po:PySem.W.plainOver K C = true
 sa:PySem.W.findIn K (.ref C) "__setattr__" = some (some (.builtin "object.__setattr__"))
theorem Cls.get {K:PySem.W.Frag} {C:Addr} (c:Cls K C) (f:Str):PySem.W.plainGet K C f = true:=c.pg
def nY (K:PySem.W.Frag) (C:Addr) (f:Str):Prop:=PySem.W.findIn K (.ref C) f = some none
theorem nY.taker {K:PySem.W.Frag} {C:Addr} {f:Str} (n:nY K C f):PySem.W.takerIn K C f = some none:=by
 unfold PySem.W.takerIn
 rw [show PySem.W.findIn K (.ref C) f = some none from n]
 rfl
structure Con (K:PySem.W.Frag) (C:Addr) (f:Str) (v:V) (u:Value):Prop where
 at_:PySem.W.findIn K (.ref C) f = some (some u)
 rel:bK v u
 get:PySem.W.specialIn K u "__get__" = some none
 cp:PySem.W.copiedNames.contains f = false
structure Meth (K:PySem.W.Frag) (C:Addr) (m:Str) (f:Addr):Prop where
 at_:PySem.W.findIn K (.ref C) m = some (some (.ref f))
 fn:PySem.W.isFn K (.ref f) = true
 kp:PySem.W.keepIn K (.ref f) = true
section
variable {X:Cx} {pins:List (Addr × Obj)} {σ:St} {H:Hp} {s:Shared} {a C dx:Addr} {fs:List (Str × V)} {f:Str} {v:V} {A:Around} {E:Value → Shared → Prop}
theorem aCL {b:Bool} {Q:Value → Shared → Prop} (I:Inv X pins σ H s) (e:H a = some (.ins C dx fs)) (c:Cls X.K C) (n:nY X.K C f) (l:fs.lookup f = some v)
  (h:∀ u s',Inv X pins σ H s' → bK v u → Q u s'):wpAny (model X.prog X.w) A (getAttr (.ref a) f b) Q E s:=by
 obtain ⟨mA,O,r,_,_,_⟩:=sJ I.hok e
 obtain ⟨u,hu,ru⟩:=mG.some_of (v:=v) (o:=mA f) (by rw [← l];exact r f)
 exact aKG I.kIn O (c.get f) c.hd n hu (aEY ru) (h u _ (I.tok _) ru)
theorem uH {m:Str} {g:Addr} {pl:Sem Bool} {Q:Value × List Value → Shared → Prop} (I:Inv X pins σ H s) (e:H a = some (.ins C dx fs)) (c:Cls X.K C) (k:Meth X.K C m g) (l:fs.lookup m = none)
  (h:Q (.ref g,[.ref a]) s):wpAny (model X.prog X.w) A (getMethod (.ref a) m pl) Q E s:=by
 obtain ⟨mA,O,r,_,_,_⟩:=sJ I.hok e
 have hn:mA m = none:=mG.none_of (by rw [← l];exact r m)
 exact aHZ I.kIn O (c.get m) k.at_ k.fn hn h
theorem aBR {y:V} {u:Value} {Q:Unit → Shared → Prop} (I:Inv X pins σ H s) (e:H a = some (.ins C dx fs)) (c:Cls X.K C) (n:nY X.K C f) (hl:fs.length < 1000) (ry:bK y u)
  (h:∀ s',Inv X pins σ (upd H a (.ins C dx (iT f y fs))) s' → Q () s'):wpAny (model X.prog X.w) A (setAttr (.ref a) f u) Q E s:=by
 obtain ⟨mA,O,r,wi,_,ho⟩:=sJ I.hok e
 have hz:(fs.map (·.1)).length ≤ sizeLine:=by rw [List.length_map,sizeLine_eq];omega
 refine aJJ I.kIn O c.sa c.po n.taker c.hd wi hz fun h' O' sb=>h _ ?_
 have hd:∃ o,h'.get? dx = some o:=let ⟨o,_,_,e',_⟩:=O'.ns;⟨o,e'⟩
 refine I.write (x:=a) (e:=dx) (by rw [e];exact True.intro) (.inr ho) (fun b q hb z=>(sb.2 b hb).trans z) hd ?_
 refine ⟨by rw [aR O.ne];exact ho,?_,O.ne,O'.obj,_,O'.ns,fun g=>?_,fun g hg=>?_⟩
 ·have:=rP f y fs;omega
 ·show mG ((iT f y fs).lookup g) (if g = f then some u else mA g)
  rw [eT]
  by_cases q:g = f
  ·rw [if_pos q,if_pos q];exact ry
  ·rw [if_neg q,if_neg q];exact r g
 ·by_cases q:g = f
  ·rw [q];exact (qR f y fs).1
  ·refine (qR f y fs).2 g (wi g fun z=>hg ?_)
   show (if g = f then some u else mA g) = none
   rw [if_neg q];exact z
theorem Inv.made (I:Inv X pins σ H s):Inv X pins σ (upd (upd H s.heap.objs.size (.own (s.heap.objs.size + 1))) (s.heap.objs.size + 1) (.ins C s.heap.objs.size []))
  { s with heap:=(s.heap.push PySem.W.emptyDict).push (PySem.W.instObj C s.heap.objs.size) }:=by
 have e1:(s.heap.push PySem.W.emptyDict).get? s.heap.objs.size = some PySem.W.emptyDict:=Heap.get?_push_size s.heap rfl
 have e2:((s.heap.push PySem.W.emptyDict).push (PySem.W.instObj C s.heap.objs.size)).get? (s.heap.objs.size + 1) = some (PySem.W.instObj C s.heap.objs.size):=by
  have:=Heap.get?_push_size (s.heap.push PySem.W.emptyDict) (o:=PySem.W.instObj C s.heap.objs.size) rfl
  rwa [Heap.size_push] at this
 have e3:(s.heap.push PySem.W.emptyDict).Ns s.heap.objs.size (fun _=>none):=⟨PySem.W.emptyDict,#[],_,e1,rfl,(fun e he=>absurd he (by simp)),fun _=>rfl⟩
 have I1:=I.laid (a:=s.heap.objs.size) (o:=.own (s.heap.objs.size + 1)) (h':=s.heap.push PySem.W.emptyDict) (t':=s.toks) (fun b u q=>Heap.get?_push_of_some _ q) (Nat.le_refl _) ⟨_,e1⟩
 refine I1.laid (a:=s.heap.objs.size + 1) (o:=.ins C s.heap.objs.size []) (t':=s.toks) (fun b u q=>Heap.get?_push_of_some _ q) (Nat.le_of_eq (Heap.size_push _ _)) ?_
 have ne:s.heap.objs.size ≠ s.heap.objs.size + 1:=Nat.ne_of_lt (Nat.lt_succ_self _)
 refine ⟨by rw [aR ne,aB],Nat.zero_le _,ne,e2,fun _=>none,(Heap.Ns1.of_empty e3).at fun o q=>Heap.get?_push_of_some _ q,fun _=>True.intro,fun y hy=>absurd rfl hy⟩
theorem aKP {prog:Program} {w:World} {env:Env} {e:Expr} {f:Str} {pos:Pos} {s:Shared} {Q:Value → Shared → Prop} (hb:attributeBase e f env (eval e env) = eval e env)
  (h:wpAny (model prog w) A (eval e env) (fun o s₁=>wpAny (model prog w) A (getAttr o f true) Q E s₁) E s):wpAny (model prog w) A (eval (.Attribute e f pos) env) Q E s :=
 Attribute_any_ h (by rw [arm_eval_Attribute,hb])
end
def aOT (K:PySem.W.Frag) (ta:TE) (f:Str):TE:=fun σ H Q=>ta σ H fun x H1=>∃ a C dx fs v,x = .ref a ∧ H1 a = some (.ins C dx fs) ∧ Cls K C ∧ nY K C f ∧ fs.lookup f = some v ∧ Q v H1
def aOX (K:PySem.W.Frag) (ta tv:TE) (f:Str):TS:=fun D σ H=>tv σ H fun y H1=>ta σ H1 fun x H2=>∃ a C dx fs,x = .ref a ∧ H2 a = some (.ins C dx fs) ∧ Cls K C ∧ nY K C f ∧ fs.length < 1000 ∧
 D.nx σ (upd H2 a (.ins C dx (iT f y fs)))
def aMV (X:Cx) (op:Operator) (rd:V → V → Hp → VK → Prop):Prop :=
 ∀ (pins:List (Addr × Obj)) (s:Shared) (σ:St) (H:Hp) (x y:V) (u v:Value) (Q:VK),Inv X pins σ H s → bK x u → bK y v → rd x y H Q → wpAny (model X.prog X.w) X.A (inplaceOp op u v) (EP X pins σ Q) X.xe s
section
variable {X:Cx} {o e value:Expr} {f:Str} {pos pos' tpos:Pos} {ta tv:TE}
theorem qN (he:PE X e ta) (hb:attributeBase e f X.env (eval e X.env) = eval e X.env):PE X (.Attribute e f pos) (aOT X.K ta f):=by
 intro pins s σ H Q I h
 refine aKP hb (thn (he pins s σ H _ I h) fun u s1 ⟨x,H1,I1,rx,a,C,dx,fs,v,ex,ea,c,n,l,q⟩=>?_)
 subst ex
 obtain rfl:u = Value.ref a:=rx
 exact aCL I1 ea c n l fun u' s2 I2 ru=>⟨v,H1,I2,ru,q⟩
theorem aGV (ha:PE X o ta) (hv:PE X value tv) (hs:swapsWith value (some (.Attribute o f pos')) pos.line X.env = pure false):PS X (.Assign [.Attribute o f pos'] value pos) (aOX X.K ta tv f):=by
 intro pins s σ H D I h
 refine plainObj_wpAny_Assign_Attribute (thn (hv pins s σ H _ I h) fun u s1 ⟨y,H1,I1,ry,q⟩=>thn (ha pins s1 σ H1 _ I1 q) fun ov s2 ⟨x,H2,I2,rx,a,C,dx,fs,ex,ea,c,n,l,q2⟩=>?_) hs
 subst ex
 obtain rfl:ov = Value.ref a:=rx
 exact aBR I2 ea c n l ry fun s3 I3=>⟨σ,_,I3,q2⟩
def aPB:V → V → Hp → VK → Prop:=fun x y H Q=>∃ i j,x = .int i ∧ y = .int j ∧ Q (.int (i + j)) H
def aOY:V → V → Hp → VK → Prop:=fun x y H Q=>∃ i j,x = .int i ∧ y = .int j ∧ Q (.int (i - j)) H
theorem aMN:aMV X .Add aPB:=by
 rintro pins s σ H x y u v Q I rx ry ⟨i,j,rfl,rfl,q⟩
 obtain ⟨t,rfl⟩:=(show ∃ t,u = Value.int i t from rx)
 obtain ⟨t',rfl⟩:=(show ∃ t',v = Value.int j t' from ry)
 exact PyProof.Rows.iadd_int ⟨.int (i + j),H,I.tok _,⟨_,rfl⟩,q⟩
theorem aMM:aMV X .Sub aOY:=by
 rintro pins s σ H x y u v Q I rx ry ⟨i,j,rfl,rfl,q⟩
 obtain ⟨t,rfl⟩:=(show ∃ t,u = Value.int i t from rx)
 obtain ⟨t',rfl⟩:=(show ∃ t',v = Value.int j t' from ry)
 exact PyProof.Rows.isub_int ⟨.int (i - j),H,I.tok _,⟨_,rfl⟩,q⟩
end
section
variable {X:Cx} {pins:List (Addr × Obj)} {σ:St} {H:Hp} {s:Shared} {A:Around} {E:Value → Shared → Prop} {Q:Value → Shared → Prop} {c:Value} {b:Bool}
inductive TyOf (K:PySem.W.Frag) (H:Hp):V → Value → Prop where
 | non:TyOf K H .non (.type "NoneType")
 | bl (x:Bool):TyOf K H (.bl x) (.type "bool")
 | int (i:Int):TyOf K H (.int i) (.type "int")
 | str (x:Str):TyOf K H (.str x) (.type "str")
 | flt (x:UInt64):TyOf K H (.flt x) (.type "float")
 | lst {a:Addr} {xs:List V} (e:H a = some (.lst xs)):TyOf K H (.ref a) (.type "list")
 | frz {a:Addr} {o:Obj} {xs:List V} (e:H a = some (.frz o (.lst xs))):TyOf K H (.ref a) (.type "list")
 | tup {a:Addr} {xs:List V} (e:H a = some (.tup xs)):TyOf K H (.ref a) (.type "tuple")
 | dK {a:Addr} {kvs:List (Key × V)} (e:H a = some (.dK kvs)):TyOf K H (.ref a) (.type "dict")
 | dT {a:Addr} {kvs:List (List Key × V)} (e:H a = some (.dT kvs)):TyOf K H (.ref a) (.type "dict")
 | ins {a C dx:Addr} {fs:List (Str × V)} (e:H a = some (.ins C dx fs)) (cl:Cls K C) (ha:PySem.W.findIn K (.ref C) "__class__" = some (some (.builtin "object.__class__")))
   (hn:PySem.W.specialIn K (.builtin "object.__class__") "__get__" = some (some (.builtin "getset_descriptor.__get__"))) (htk:PySem.W.takesIn K (.builtin "object.__class__") = some true)
   (hm:PySem.W.mroIn K C (.type "object") = some true):TyOf K H (.ref a) (.ref C)
theorem aEV {x:V} {u t:Value} (I:Inv X pins σ H s) (rx:bK x u) (ty:TyOf X.K H x t) (e:PySem.W.kitOne X.K t c = some b) (h:∀ tk,Q (.bool b) { s with toks:=tk }) :
  wpAny (model X.prog X.w) A (call (.builtin "isinstance") [u,c]) Q E s:=by
 cases ty with
 | non=>cases (show u = Value.none from rx);exact PySem.W.kia_one PySem.W.kitx_none I.kIn True.intro e (fun z=>nomatch z) h
 | bl y=>cases (show u = Value.bool y from rx);exact PySem.W.kia_one PySem.W.kitx_bool I.kIn True.intro e (fun z=>nomatch z) h
 | int i=>obtain ⟨t,q⟩:=(show ∃ t,u = Value.int i t from rx);cases q;exact PySem.W.kia_one PySem.W.kitx_int I.kIn True.intro e (fun z=>nomatch z) h
 | str y=>obtain ⟨t,q⟩:=(show ∃ t,u = Value.str y t from rx);cases q;exact PySem.W.kia_one PySem.W.kitx_str I.kIn True.intro e (fun z=>nomatch z) h
 | flt y=>obtain ⟨t,q⟩:=(show ∃ t,u = Value.float y t from rx);cases q;exact PySem.W.kia_one PySem.W.kitx_float I.kIn True.intro e (fun z=>nomatch z) h
 | @lst a xs ea =>
  cases (show u = Value.ref a from rx)
  obtain ⟨_,_,n,_,h1⟩:=(show cU X.prog X.w H s.heap a (.lst xs) from I.hok a _ ea)
  exact PySem.W.kia_one PySem.W.kitx_list I.kIn ⟨_,h1,rfl⟩ e (fun z=>nomatch z) h
 | @frz a ob xs ea =>
  cases (show u = Value.ref a from rx)
  obtain ⟨_,_,_,n,_,h1⟩:=(show cU X.prog X.w H s.heap a (.frz ob (.lst xs)) from I.hok a _ ea)
  exact PySem.W.kia_one PySem.W.kitx_list I.kIn ⟨_,h1,rfl⟩ e (fun z=>nomatch z) h
 | @tup a xs ea =>
  cases (show u = Value.ref a from rx)
  obtain ⟨_,_,_,p⟩:=(show cU X.prog X.w H s.heap a (.tup xs) from I.hok a _ ea)
  obtain ⟨o,h1,h2,_⟩:=p
  exact PySem.W.kia_one PySem.W.kitx_tuple I.kIn ⟨o,h1,h2⟩ e (fun z=>nomatch z) h
 | @dK a kvs ea =>
  cases (show u = Value.ref a from rx)
  obtain ⟨_,_,vs,_,p⟩:=(show cU X.prog X.w H s.heap a (.dK kvs) from I.hok a _ ea)
  obtain ⟨o,es,ep,h1,h2,_⟩:=p
  exact PySem.W.kia_one PySem.W.kitx_dict I.kIn ⟨o,h1,h2.1⟩ e (fun z=>nomatch z) h
 | @dT a kvs ea =>
  cases (show u = Value.ref a from rx)
  obtain ⟨_,_,xs,_,o,es,ep,h1,h2,_⟩:=(show cU X.prog X.w H s.heap a (.dT kvs) from I.hok a _ ea)
  exact PySem.W.kia_one PySem.W.kitx_dict I.kIn ⟨o,h1,h2.1⟩ e (fun z=>nomatch z) h
 | @ins a C dx fs ea cl ha hn htk hm =>
  cases (show u = Value.ref a from rx)
  obtain ⟨mA,O,_⟩:=sJ I.hok ea
  obtain ⟨od,J,_⟩:=O.look
  exact PySem.W.kia_one (PySem.W.kitx_own (cl.get _) cl.hd ha hn htk hm) I.kIn J e (fun z=>nomatch z) h
end
end L2
namespace L2
open PySem PySem.Spec PyProof.Rows
structure Room (k:Nat) (A:Around):Prop where
 hd:A.handled = none
 dp:A.depth + 3 * k + 5 < recursionLimit
 un:A.units + 16 * k + 200 < cLine
theorem Room.mono {j k:Nat} {A:Around} (r:Room k A) (h:j ≤ k):Room j A:=⟨r.hd,by have:=r.dp;omega,by have:=r.un;omega⟩
theorem Room.deeper {k:Nat} {A:Around} (r:Room (k + 1) A) (env:Env):Room k (A.deeper env) :=
 ⟨r.hd,by have:=r.dp;show A.depth + 1 + 3 * k + 5 < _;omega,by have:=r.un;show A.units + 3 + 16 * k + 200 < _;omega⟩
theorem aCG {A:Around} {C:Addr} {us:List Value} {kw:List (Str × Value)}:(A.under (.builtin "type.__call__" ⟨.ref C :: us,kw⟩)).depth = A.depth + 1:=by
 first | rfl | simp [Around.under,Code.weight,Code.isCreation,Code.isGuard,Code.isCaller,Code.frames,Code.isFrame,guardIds]
theorem aCF {A:Around} {C:Addr} {us:List Value} {kw:List (Str × Value)}:(A.under (.builtin "type.__call__" ⟨.ref C :: us,kw⟩)).units = A.units + 1:=by
 first | rfl | simp [Around.under,Code.cUnits,Code.frames,Code.isFrame]
theorem Room.make {k:Nat} {A:Around} (r:Room (k + 1) A) (C:Addr) (us:List Value) (kw:List (Str × Value)):Room k (A.under (.builtin "type.__call__" ⟨.ref C :: us,kw⟩)) :=
 ⟨r.hd,by have:=r.dp;rw [aCG];omega,by have:=r.un;rw [aCF];omega⟩
theorem Room.depth {k:Nat} {A:Around} (r:Room k A):A.depth < recursionLimit:=by have:=r.dp;omega
theorem Room.units {k:Nat} {A:Around} (r:Room k A):A.units + 64 < cLine:=by have:=r.un;omega
def aFS:TA:=fun _ H Q=>Q [] H
def aCV (ta:TE) (tr:TA):TA:=fun σ H Q=>ta σ H fun x H1=>tr σ H1 fun xs H2=>Q (x :: xs) H2
section
variable {X:Cx} {e:Expr} {es:List Expr} {te:TE} {t:TA} {pos:Pos}
theorem aE:PA X [] aFS:=fun _ _ _ _ H Q I h=>Calls.spliced_nil ⟨[],H,I,.nil,h⟩
theorem aA (ha:PE X e te) (hr:PA X es t) (hs:starEach (e :: es) X.env = (false,eval e X.env) :: starEach es X.env:=by rfl):PA X (e :: es) (aCV te t):=by
 intro pos pins s σ H Q I h
 rw [hs]
 show wpAny _ _ (spliced ((false,eval e X.env) :: backTo pos (starEach es X.env))) _ _ s
 refine Calls.spliced_cons (thn (ha pins s σ H _ I h) fun u s1 ⟨x,H1,I1,r1,q1⟩=>?_)
 exact thn (hr pos pins s1 σ H1 _ I1 q1) fun us s2 ⟨xs,H2,I2,r2,q2⟩=>⟨x :: xs,H2,I2,.cons r1 r2,q2⟩
def aOO (t:TA):TE:=fun σ H Q=>t σ H fun xs H1=>xs.length ≤ sizeLine ∧ ∀ p,H1 p = none → Q (.ref p) (upd H1 p (.tup xs))
def aNF (t:TA):TE:=fun σ H Q=>t σ H fun xs H1=>xs.length ≤ sizeLine ∧ ∀ p,H1 p = none → Q (.ref p) (upd H1 p (.lst xs))
theorem cA {x1} (h:PA X es t):PE X (.Tuple es x1 pos) (aOO t):=by
 intro pins s σ H Q I hq
 refine wpAny_Tuple_spliced (thn (h pos pins s σ H _ I hq) fun us s1 ⟨xs,H1,I1,r,z,q⟩=>⟨by rw [← r.length];exact z,?_⟩)
 have hf:H1 s1.heap.objs.size = none:=I1.hok.fresh (Nat.le_refl _)
 refine ⟨.ref s1.heap.objs.size,upd H1 s1.heap.objs.size (.tup xs),I1.laid (t':=s1.toks) (fun b u e=>Heap.get?_push_of_some _ e) (Nat.le_refl _) ?_,rfl,q _ hf⟩
 exact ⟨z,us,r,⟨_,Heap.get?_push_size _ rfl,rfl,_,rfl,rfl⟩⟩
theorem bM (h:PA X es t):PE X (.List es pos) (aNF t):=by
 intro pins s σ H Q I hq
 refine wpAny_List_spliced (thn (h pos pins s σ H _ I hq) fun us s1 ⟨xs,H1,I1,r,z,q⟩=>⟨by rw [← r.length];exact z,?_⟩)
 have hf:H1 s1.heap.objs.size = none:=I1.hok.fresh (Nat.le_refl _)
 refine ⟨.ref s1.heap.objs.size,upd H1 s1.heap.objs.size (.lst xs),I1.laid (t':=s1.toks) (fun b u e=>Heap.get?_push_of_some _ e) (Nat.le_refl _) ?_,rfl,q _ hf⟩
 exact ⟨z,us,0,r,Heap.get?_push_size _ rfl⟩
end
abbrev Sp:=List V → Hp → VK → XK → Prop
abbrev CXT:=List Env → Hp → Shared → XK → Value → Shared → Prop
structure Env0 (P:Program) (w:World) (K:PySem.W.Frag) (mg:Str → Option Value) (base:Heap) (A:Around) (outer:List Env) (s:Shared) (H:Hp):Prop where
 frames:A.frames = some outer
 mod:Mod K mg base
 bs:∀ b o,base.get? b = some o → s.heap.get? b = some o ∧ H b = none
 bsz:base.objs.size ≤ s.heap.objs.size
 funs:s.heap.FunFrames base outer
 frf:∀ b ∈ frs outer,H b = none
 hok:HOk P w H s.heap
 bare:AllBare s.gens
def CE (outer:List Env) (P:Program) (w:World) (H:Hp) (s:Shared) (Q:VK) (u:Value) (s':Shared):Prop :=
 ∃ v H',s'.os = s.os ∧ AllBare s'.gens ∧ Un (frs outer) [] H H' s.heap s'.heap ∧ HOk P w H' s'.heap ∧ bK v u ∧ Q v H'
def CR (CX:CXT) (outer:List Env) (P:Program) (w:World) (H:Hp) (s:Shared) (Q:VK) (E:XK) (r:Result) (s':Shared):Prop :=
 match r with
 | .ok (.ret u)=>CE outer P w H s Q u s'
 | .ok _=>False
 | .error e=>CX outer H s E e s'
structure FnOk (P:Program) (w:World) (K:PySem.W.Frag) (mg:Str → Option Value) (base:Heap) (CX:CXT) (k:Nat) (f:Addr) (fd:FuncData) (ps:List Str) (sp:Sp):Prop where
 len:∀ vs H Q E,sp vs H Q E → vs.length = ps.length
 run:∀ (A:Around) (outer:List Env) (s:Shared) (H:Hp) (args:Args) (us:List Value) (vs:List V) (Q:VK) (E:XK),Room k A → Env0 P w K mg base A outer s H → BindsTo s fd args (ps.zip us) → bQ vs us → sp vs H Q E →
  codeAny (model P w) A (.call (.ref f) args) (CR CX outer P w H s Q E) s
theorem FnOk.imp {P:Program} {w:World} {K:PySem.W.Frag} {mg:Str → Option Value} {base:Heap} {CX:CXT} {k:Nat} {f:Addr} {fd:FuncData} {ps:List Str} {sp sp':Sp} (F:FnOk P w K mg base CX k f fd ps sp)
  (h:∀ vs H Q E,sp' vs H Q E → sp vs H Q E):FnOk P w K mg base CX k f fd ps sp' :=
 ⟨fun vs H Q E q=>F.len vs H Q E (h _ _ _ _ q),fun A outer s H args us vs Q E hr he hb hv hs=>F.run A outer s H args us vs Q E hr he hb hv (h _ _ _ _ hs)⟩
theorem Env0.make {P:Program} {w:World} {K:PySem.W.Frag} {mg:Str → Option Value} {base:Heap} {A:Around} {outer:List Env} {s:Shared} {H:Hp} (e:Env0 P w K mg base A outer s H) (C:Addr) (us:List Value) (kw:List (Str × Value)) :
  Env0 P w K mg base (A.under (.builtin "type.__call__" ⟨.ref C :: us,kw⟩)) outer s H:=⟨by first | exact e.frames | (simpa [Around.under,Code.envs,Code.isFrame,pushEnvs] using e.frames),e.mod,e.bs,e.bsz,e.funs,e.frf,e.hok,e.bare⟩
section
variable {X:Cx} {pins:List (Addr × Obj)} {σ:St} {H:Hp} {s s':Shared}
theorem Inv.env0 (I:Inv X pins σ H s):Env0 X.prog X.w X.K X.mg X.base X.A X.stack s H :=
 ⟨I.ok.frames,I.ok.mod,I.bs,Nat.le_trans I.ok.bsz I.sz,I.stack,I.stkFree,I.hok,I.bare⟩
theorem Inv.after {Q:VK} {u:Value} (I:Inv X pins σ H s) (h:CE X.stack X.prog X.w H s Q u s'):EP X pins σ Q u s':=by
 obtain ⟨v,H',os,bare,un,hok,r,q⟩:=h
 obtain ⟨hh,g,d,t,os'⟩:=s'
 obtain rfl:os' = s.os:=os
 exact ⟨v,H',I.call (h':=hh) (g':=g) (d':=d) (t':=t) (ch:=[]) un hok bare (fun b z=>absurd z (by simp)),r,q⟩
end
def aFU (sp:Sp) (dvs:List V) (E:XK) (t:TA):TE:=fun σ H Q=>t σ H fun vs H1=>sp (vs ++ dvs) H1 Q E
def aCU (C:Addr) (m:Str) (sp:Sp) (dvs:List V) (E:XK) (ta:TE) (t:TA):TE:=fun σ H Q=>ta σ H fun x H1=>∃ a dx fs,x = .ref a ∧ H1 a = some (.ins C dx fs) ∧ fs.lookup m = none ∧
 t σ H1 fun vs H2=>sp (x :: (vs ++ dvs)) H2 Q E
def aKX (C:Addr) (sp:Sp) (dvs:List V) (E:XK) (t:TA):TE:=fun σ H Q=>t σ H fun vs H1=>∀ x dx,H1 x = none → H1 dx = none → dx ≠ x →
 sp (.ref x :: (vs ++ dvs)) (upd (upd H1 dx (.own x)) x (.ins C dx [])) (fun v H2=>v = .non ∧ Q (.ref x) H2) E
def gX (K:PySem.W.Frag) (fd:FuncData) (ps:List Str) (ds:List Value):Prop :=
 ∀ (s:Shared) (us:List Value),K.In s.heap → (us ++ ds).length = ps.length → BindsTo s fd ⟨us,[]⟩ (ps.zip (us ++ ds))
theorem gX.all {K:PySem.W.Frag} {fd:FuncData} {ps:List Str} (h:∀ us:List Value,us.length = ps.length → bindArgs fd ⟨us,[]⟩ = pure (ps.zip us)):gX K fd ps []:=fun s us _ hl=>by
 rw [List.append_nil] at hl ⊢
 exact .of_eq (h us hl)
def pJ (CX:CXT) (X:Cx) (E:XK):Prop:=∀ (pins:List (Addr × Obj)) (σ:St) (H:Hp) (s:Shared) (e:Value) (s':Shared),Inv X pins σ H s → CX X.stack H s E e s' → X.xe e s'
section
variable {X:Cx} {CX:CXT} {k:Nat} {f C:Addr} {fd:FuncData} {ps:List Str} {sp:Sp} {dvs:List V} {ds:List Value} {E:XK} {x m:Str} {p pos apos:Pos} {e o:Expr} {es:List Expr} {ta:TE} {t:TA}
theorem aBW {pins:List (Addr × Obj)} {σ:St} {H:Hp} {s:Shared} {Q:VK} {us:List Value} {vs:List V} (F:FnOk X.prog X.w X.K X.mg X.base CX k f fd ps sp) (hr:Room k X.A) (hb:gX X.K fd ps ds) (hd:bQ dvs ds) (hx:pJ CX X E)
  (I:Inv X pins σ H s) (r:bQ vs us) (h:sp (vs ++ dvs) H Q E):wpAny (model X.prog X.w) X.A (call (.ref f) us) (EP X pins σ Q) X.xe s:=by
 have r2:bQ (vs ++ dvs) (us ++ ds):=r.append hd
 have hl:(us ++ ds).length = ps.length:=by rw [← r2.length];exact F.len _ _ _ _ h
 refine wpAny_call (codeAny_mono (F.run X.A X.stack s H ⟨us,[]⟩ (us ++ ds) (vs ++ dvs) Q E hr I.env0 (hb s us I.kIn hl) r2 h) fun r s' hq=>?_)
 cases r with
 | error e=>exact hx pins σ H s e s' I hq
 | ok fl =>
  cases fl with
  | ret u=>exact I.after hq
  | next=>exact False.elim hq
  | brk=>exact False.elim hq
  | cont=>exact False.elim hq
theorem aJU (F:FnOk X.prog X.w X.K X.mg X.base CX k f fd ps sp) (hr:Room k X.A) (hg:Gl X x) (hm:X.mg x = some (.ref f)) (hk:PySem.W.keepIn X.K (.ref f) = true) (hb:gX X.K fd ps ds) (hd:bQ dvs ds) (hx:pJ CX X E)
  (ha:PA X (e :: es) t) (hdb:(x == ("__debug__":Str)) = false:=by decide) (he:starEach (e :: es) X.env = (false,eval e X.env) :: starEach es X.env:=by rfl) (hpl:(backTo pos (starEach es X.env)).any (·.1) = false:=by rfl) :
  PE X (.Call (.Name x p) (e :: es) [] pos) (aFU sp dvs E t):=by
 intro pins s σ H Q I h
 refine wpAny_Call_Name_kw (yH I hg hm ?_ hdb)
 refine PySem.W.callWith_K (h₀:=X.base) I.ok.mod.kin hk (thn (ha pos pins s σ H _ I h) fun us s1 ⟨vs,H1,I1,r,q⟩=>⟨I1.kIn,?_⟩) he hpl
 exact aBW F hr hb hd hx I1 r q
theorem aJR {pl:Sem Bool} (he:PE X o ta) (c:Cls X.K C) (hm:Meth X.K C m f) (F:FnOk X.prog X.w X.K X.mg X.base CX k f fd ps sp) (hr:Room k X.A) (hb:gX X.K fd ps ds) (hd:bQ dvs ds) (hx:pJ CX X E) (ha:PA X (e :: es) t)
  (hst:starEach (e :: es) X.env = (false,eval e X.env) :: starEach es X.env:=by rfl) (hpl:(backTo pos (starEach es X.env)).any (·.1) = false:=by rfl)
  (ht:eval (.Call (.Attribute o m apos) (e :: es) [] pos) X.env = (do
   let ov ← eval o X.env
   standAt apos.atName
   let (f,first) ← holding [ov] (getMethod ov m pl)
   callWith pos f first (backTo pos (starEach (e :: es) X.env)) (backToKw pos (keywordEach [] X.env))):=by rfl) :
  PE X (.Call (.Attribute o m apos) (e :: es) [] pos) (aCU C m sp dvs E ta t):=by
 intro pins s σ H Q I h
 refine PySem.W.methodCall_KW (pl:=pl) (thn (he pins s σ H _ I h) fun u s1 ⟨x,H1,I1,rx,a,dx,fs,ex,ea,l,q⟩=>?_) ht
 subst ex
 obtain rfl:u = Value.ref a:=rx
 refine uH I1 ea c hm l ?_
 refine PySem.W.callWith_K (first:=[.ref a]) (h₀:=X.base) I.ok.mod.kin hm.kp (thn (ha pos pins s1 σ H1 _ I1 q) fun us s2 ⟨vs,H2,I2,r,q2⟩=>⟨I2.kIn,?_⟩) hst hpl
 exact aBW (us:=.ref a :: us) (vs:=.ref a :: vs) F hr hb hd hx I2 (.cons rfl r) q2
theorem aGZ {pl:Sem Bool} (he:PE X o ta) (c:Cls X.K C) (hm:Meth X.K C m f) (F:FnOk X.prog X.w X.K X.mg X.base CX k f fd ps sp) (hr:Room k X.A) (hb:gX X.K fd ps ds) (hd:bQ dvs ds) (hx:pJ CX X E)
  (ht:eval (.Call (.Attribute o m apos) [] [] pos) X.env = (do
   let ov ← eval o X.env
   standAt apos.atName
   let (f,first) ← holding [ov] (getMethod ov m pl)
   callWith pos f first (backTo pos (starEach [] X.env)) (backToKw pos (keywordEach [] X.env))):=by rfl) :
  PE X (.Call (.Attribute o m apos) [] [] pos) (aCU C m sp dvs E ta aFS):=by
 intro pins s σ H Q I h
 refine PySem.W.methodCall_KW (pl:=pl) (thn (he pins s σ H _ I h) fun u s1 ⟨x,H1,I1,rx,a,dx,fs,ex,ea,l,q⟩=>?_) ht
 subst ex
 obtain rfl:u = Value.ref a:=rx
 refine uH I1 ea c hm l ?_
 exact PySem.W.callWith_K0 (first:=[.ref a]) I1.kIn hm.kp (aBW (us:=[.ref a]) (vs:=[.ref a]) F hr hb hd hx I1 (.cons rfl .nil) q)
structure Mk (K:PySem.W.Frag) (C f:Addr):Prop where
 makes:PySem.W.makesIn K C = true
 init:PySem.W.findIn K (.ref C) "__init__" = some (some (.ref f))
 fn:PySem.W.isFn K (.ref f) = true
 kp:PySem.W.keepIn K (.ref C) = true
theorem aGN {pins:List (Addr × Obj)} {σ:St} {H:Hp} {s:Shared} {Q:VK} {us:List Value} {vs:List V} (M:Mk X.K C f) (F:FnOk X.prog X.w X.K X.mg X.base CX k f fd ps sp) (hr:Room (k + 1) X.A) (hb:gX X.K fd ps ds) (hd:bQ dvs ds)
  (hx:pJ CX X E) (I:Inv X pins σ H s) (r:bQ vs us)
  (h:∀ x dx,H x = none → H dx = none → dx ≠ x → sp (.ref x :: (vs ++ dvs)) (upd (upd H dx (.own x)) x (.ins C dx [])) (fun v H2=>v = .non ∧ Q (.ref x) H2) E) :
  wpAny (model X.prog X.w) X.A (call (.ref C) us) (EP X pins σ Q) X.xe s:=by
 have hq:=h (s.heap.objs.size + 1) s.heap.objs.size (I.hok.fresh (Nat.le_succ _)) (I.hok.fresh (Nat.le_refl _)) (Nat.ne_of_lt (Nat.lt_succ_self _))
 have I2:=Inv.made (C:=C) I
 have r2:bQ (V.ref (s.heap.objs.size + 1) :: (vs ++ dvs)) (Value.ref (s.heap.objs.size + 1) :: (us ++ ds)):=.cons rfl (r.append hd)
 have hl:(Value.ref (s.heap.objs.size + 1) :: us ++ ds).length = ps.length:=by
  have e:=r2.length
  rw [F.len _ _ _ _ hq] at e
  exact e.symm
 refine wpAny_call (aHK (f:=f) I.kIn M.makes M.init (beq_iff_eq.mp M.fn) (codeAny_mono (F.run _ X.stack _ _ ⟨Value.ref (s.heap.objs.size + 1) :: us,[]⟩ (Value.ref (s.heap.objs.size + 1) :: (us ++ ds)) _ _ E (hr.make C us [])
  (I2.env0.make C us []) (hb _ (Value.ref (s.heap.objs.size + 1) :: us) I2.kIn hl) r2 hq) fun r s' hq'=>?_))
 cases r with
 | error e=>exact hx pins σ _ _ e s' I2 hq'
 | ok fl =>
  cases fl with
  | ret u =>
   obtain ⟨v,H',I3,rv,ev,q3⟩:=I2.after hq'
   subst ev
   exact ⟨rv,⟨V.ref (s.heap.objs.size + 1),H',I3,rfl,q3⟩⟩
  | next=>exact False.elim hq'
  | brk=>exact False.elim hq'
  | cont=>exact False.elim hq'
theorem aJS (M:Mk X.K C f) (F:FnOk X.prog X.w X.K X.mg X.base CX k f fd ps sp) (hr:Room (k + 1) X.A) (hg:Gl X x) (hm:X.mg x = some (.ref C)) (hb:gX X.K fd ps ds) (hd:bQ dvs ds) (hx:pJ CX X E)
  (ha:PA X (e :: es) t) (hdb:(x == ("__debug__":Str)) = false:=by decide) (he:starEach (e :: es) X.env = (false,eval e X.env) :: starEach es X.env:=by rfl) (hpl:(backTo pos (starEach es X.env)).any (·.1) = false:=by rfl) :
  PE X (.Call (.Name x p) (e :: es) [] pos) (aKX C sp dvs E t):=by
 intro pins s σ H Q I h
 refine wpAny_Call_Name_kw (yH I hg hm ?_ hdb)
 refine PySem.W.callWith_K (h₀:=X.base) I.ok.mod.kin M.kp (thn (ha pos pins s σ H _ I h) fun us s1 ⟨vs,H1,I1,r,q⟩=>⟨I1.kIn,?_⟩) he hpl
 exact aGN M F hr hb hd hx I1 r q
end
section
variable {X:Cx} {CX:CXT} {k:Nat} {f C:Addr} {fd:FuncData} {ps ks:List Str} {sp:Sp} {E:XK} {x m:Str} {p pos apos kpos:Pos} {e o:Expr} {es:List Expr} {kws:List Keyword} {te ta:TE} {t tk:TA} {nm:Option Str}
structure KBinds (K:PySem.W.Frag) (fd:FuncData) (ps ks:List Str) (g:List Value → List Value → List Value) (gV:List V → List V → List V):Prop where
 to:∀ (s:Shared) (us ws:List Value),K.In s.heap → (g us ws).length = ps.length → BindsTo s fd ⟨us,ks.zip ws⟩ (ps.zip (g us ws))
 rel:∀ {vs:List V} {us:List Value} {zs:List V} {ws:List Value},bQ vs us → bQ zs ws → bQ (gV vs zs) (g us ws)
variable {g:List Value → List Value → List Value} {gV:List V → List V → List V}
end
structure FnScope (N P:List Str) (sc:Scope):Prop where
 kind:sc.kind = .function
 co:sc.isCoroutine = false
 gen:sc.isGenerator = false
 nd:N.Nodup
 pre:N.take P.length = P
 par:∀ x ∈ P,sc.names.lookup x = some .local ∨ sc.names.lookup x = some .cell
 nofree:∀ y ∈ sc.names,y.2 ≠ .free
theorem wW {kindOf:Str → Option NameKind} {x:Str}:∀ {binds:List (Str × Value)} {m:Str → Option Value},(∀ v,(x,v) ∉ binds) → bindL kindOf binds m x = m x
 | [],_,_=>rfl
 | (n,v) :: r,m,h=>by
  unfold bindL
  rw [wW fun w hw=>h w (List.mem_cons_of_mem _ hw)]
  split
  ·have:x ≠ n:=by rintro rfl;exact h v List.mem_cons_self
   simp [this]
  ·rfl
theorem wY {kindOf:Str → Option NameKind} {x:Str}:∀ {binds:List (Str × Value)} {m:Str → Option Value},(∀ v,(x,v) ∉ binds) → bindC kindOf binds m x = m x
 | [],_,_=>rfl
 | (n,v) :: r,m,h=>by
  unfold bindC
  rw [wY fun w hw=>h w (List.mem_cons_of_mem _ hw)]
  split
  ·rfl
  ·have:x ≠ n:=by rintro rfl;exact h v List.mem_cons_self
   simp [this]
theorem wX {kindOf:Str → Option NameKind} {x:Str} {v:Value}:∀ {P:List Str} {vs:List Value} {i:Nat} {m:Str → Option Value},P.Nodup → P[i]? = some x → vs[i]? = some v → kindOf x = some .local →
  bindL kindOf (P.zip vs) m x = some v
 | [],_,_,_,_,h,_,_=>by simp at h
 | _ :: _,[],_,_,_,_,h,_=>by simp at h
 | p :: P,w :: vs,0,m,nd,h1,h2,hk=>by
  simp at h1 h2;subst h1;subst h2
  show bindL kindOf ((p,w) :: P.zip vs) m p = _
  unfold bindL
  rw [wW fun v hv=>(List.nodup_cons.mp nd).1 (List.of_mem_zip hv).1,if_pos hk]
  simp
 | p :: P,w :: vs,i + 1,m,nd,h1,h2,hk=>by
  show bindL kindOf ((p,w) :: P.zip vs) m x = _
  unfold bindL
  exact wX (i:=i) (List.nodup_cons.mp nd).2 (by simpa using h1) (by simpa using h2) hk
theorem wZ {kindOf:Str → Option NameKind} {x:Str} {v:Value}:∀ {P:List Str} {vs:List Value} {i:Nat} {m:Str → Option Value},P.Nodup → P[i]? = some x → vs[i]? = some v → kindOf x ≠ some .local →
  bindC kindOf (P.zip vs) m x = some v
 | [],_,_,_,_,h,_,_=>by simp at h
 | _ :: _,[],_,_,_,_,h,_=>by simp at h
 | p :: P,w :: vs,0,m,nd,h1,h2,hk=>by
  simp at h1 h2;subst h1;subst h2
  show bindC kindOf ((p,w) :: P.zip vs) m p = _
  unfold bindC
  rw [wY fun v hv=>(List.nodup_cons.mp nd).1 (List.of_mem_zip hv).1,if_neg hk]
  simp
 | p :: P,w :: vs,i + 1,m,nd,h1,h2,hk=>by
  show bindC kindOf ((p,w) :: P.zip vs) m x = _
  unfold bindC
  exact wZ (i:=i) (List.nodup_cons.mp nd).2 (by simpa using h1) (by simpa using h2) hk
def kE (N:List Str) (vs:List V):St:=vs.map some ++ List.replicate (N.length - vs.length) none
def uO (CX:CXT) (P:Program) (w:World) (K:PySem.W.Frag) (mg:Str → Option Value) (base:Heap) (N:List Str) (qual:Str) (scope:Scope) (f:Addr) (cd:Value) (A:Around) (outer:List Env) (s:Shared) (H:Hp) (E:XK):Cx where
 prog:=P
 w:=w
 K:=K
 mg:=mg
 base:=base
 A:=A.deeper (envOfC qual scope s.heap.objs.size f cd)
 N:=N
 s₀:=s
 H₀:=H
 env:=envOfC qual scope s.heap.objs.size f cd
 outer:=outer
 stack:=envOfC qual scope s.heap.objs.size f cd :: outer
 ex:=[]
 calm:=true
 fn:=fun _=>true
 pn:=[]
 xe:=fun e s'=>wpAny (model P w) (A.deeper (envOfC qual scope s.heap.objs.size f cd)) (leaving (envOfC qual scope s.heap.objs.size f cd) e) (fun _ s''=>CX outer H s E e s'') (fun e' s''=>CX outer H s E e' s'') s'
theorem aBD {sc:Scope} {n:Nat} {x:Str} (h:sc.names.lookup x = some .cell):∃ c,(cellsFrom n sc.names []).lookup x = some c:=by
 have q:=PySem.W.cellsFrom_some sc.names n [] (.inl h)
 exact Option.isSome_iff_exists.mp q
theorem aEW {CX:CXT} {P:Program} {w:World} {K:PySem.W.Frag} {mg:Str → Option Value} {base:Heap} {N ps:List Str} {qual:Str} {scope:Scope} {f:Addr} {cd:Value} {A:Around} {outer:List Env} {s s1:Shared} {H:Hp} {E:XK} {us:List Value} {vs:List V}
  (S:FnScope N ps scope) (hd:A.handled = none) (e0:Env0 P w K mg base A outer s H) (hl:vs.length = ps.length) (r:bQ vs us)
  (x:InCallC s s.heap.objs.size (bindL (envOfC qual scope s.heap.objs.size f cd).kindOf (ps.zip us) fun _=>none) (cellsFrom (s.heap.objs.size + 1) scope.names []) (bindC (envOfC qual scope s.heap.objs.size f cd).kindOf (ps.zip us) fun _=>none) s1) :
  Inv (uO CX P w K mg base N qual scope f cd A outer s H E) [] (kE N vs) H s1:=by
 have hpl:ps.length ≤ N.length:=by have:=congrArg List.length S.pre;rw [List.length_take] at this;omega
 obtain ⟨h1,tk,rfl,hk⟩:=x.done
 have noA:∀ b:Addr,b ∉ (uO CX P w K mg base N qual scope f cd A outer s H E).ex:=fun b z=>absurd (show b ∈ ([]:List Addr) from z) (by simp)
 refine ⟨⟨e0.mod,S.kind,rfl,rfl,Nat.le_refl _,fun y z c h1 h2=>?_,fun y hy=>?_,fun y c _ h=>?_,fun _=>hd,Around.frames_deeper e0.frames,.inr ⟨rfl,rfl⟩,fun b z=>absurd z (noA b),e0.bs,e0.bsz,fun b _ _=>noA b,fun b z=>absurd z (noA b),e0.funs,e0.frf⟩,
  rfl,e0.bare,Un.kept hk,⟨_,x.toInCall.ns,fun i y v h1 h2 h3=>?_⟩,fun y c h=>⟨_,x.cell y c h⟩,e0.hok.fresh (Nat.le_refl _),fun y c h=>?_,fun p hp=>absurd (show p ∈ ([]:List (Addr × Obj)) from hp) (by simp),e0.hok.kept hk,?_⟩
 ·exact name_of_addr x.apart (PySem.mem_of_lookup h1) (PySem.mem_of_lookup h2)
 ·have hy:scope.names.lookup y = some .cell ∨ scope.names.lookup y = some .free:=hy
  rcases hy with hy | hy
  ·exact aBD hy
  ·exact absurd rfl (S.nofree _ (PySem.mem_of_lookup hy))
 ·exact Nat.le_of_lt (x.above y c (PySem.mem_of_lookup h))
 ·have hi:i < vs.length:=by
   unfold kE at h2
   by_cases hi:i < vs.length
   ·exact hi
   ·rw [List.getElem?_append_right (by simpa using hi)] at h2
    rw [List.getElem?_replicate] at h2
    split at h2 <;> cases h2
  have ha:vs[i]? = some v:=by
   unfold kE at h2
   rw [List.getElem?_append_left (by simpa using hi),List.getElem?_map] at h2
   cases e:vs[i]? with
   | none=>rw [e] at h2;cases h2
   | some a=>rw [e] at h2;cases h2;rfl
  obtain ⟨u,hu,rv⟩:=r.get ha
  have hp:ps[i]? = some y:=by
   rw [← S.pre,List.getElem?_take_of_lt (by omega)];exact h1
  have ndP:ps.Nodup:=by rw [← S.pre];exact S.nd.sublist (List.take_sublist _ _)
  refine ⟨u,rv,?_⟩
  rcases S.par y (List.mem_of_getElem? hp) with k | k
  ·exact .inl ⟨k,wX ndP hp hu k⟩
  ·obtain ⟨c,e⟩:=aBD (n:=s.heap.objs.size + 1) k
   refine .inr ⟨.inl k,c,e,?_⟩
   have q:=x.cell y c e
   rw [wZ ndP hp hu (by show scope.names.lookup y ≠ _;rw [k];decide)] at q
   exact q
 ·exact e0.hok.fresh (Nat.le_of_lt (x.above y c (PySem.mem_of_lookup h)))
 ·unfold kE
  show _ = N.length
  rw [List.length_append,List.length_map,List.length_replicate]
  omega
theorem aOH {CX:CXT} {P:Program} {w:World} {K:PySem.W.Frag} {mg:Str → Option Value} {base:Heap} {k:Nat} {f:Addr} {name qual:Str} {params:Arguments} {body:List Stmt} {scope:Scope} {dV kV doc pm cdv ct oc:Value} {an od:Option Addr}
  {osl:Array (Option Value)} {N ps:List Str} {sp:Sp} (lk:K.lookup f = some ⟨oc,od,.func (PySem.W.fnOf name qual params body scope dV kV doc pm an cdv ct),osl⟩) (hcd:PySem.W.codeIn K cdv qual = true) (S:FnScope N ps scope)
  (len:∀ vs H Q E,sp vs H Q E → vs.length = ps.length)
  (hbody:∀ (A:Around) (outer:List Env) (s:Shared) (H:Hp) (vs:List V) (Q:VK) (E:XK),Room k (A.deeper (envOfC qual scope s.heap.objs.size f cdv)) → sp vs H Q E →
   ∃ t,PSs (uO CX P w K mg base N qual scope f cdv A outer s H E) body t ∧ t { nx:=fun _ H'=>Q .non H',rt:=Q } (kE N vs) H) :
  FnOk P w K mg base CX (k + 1) f (PySem.W.fnOf name qual params body scope dV kV doc pm an cdv ct) ps sp:=by
 refine ⟨len,fun A outer s H args us vs Q E hr e0 hb r hsp=>?_⟩
 have hl:=len _ _ _ _ hsp
 have KX:K.In s.heap:=e0.mod.kin.keeps fun b o e=>(e0.bs b o e).1
 have lim:s.heap.NoLimit:=e0.mod.nolimit.keeps fun b o e=>(e0.bs b o e).1
 have hkind:∀ y ∈ ps.zip us,scope.names.lookup y.1 = some .local ∨ (scope.names.lookup y.1 = some .cell ∧ ((cellsFrom (s.heap.objs.size + 1) scope.names []).lookup y.1).isSome = true):=fun ⟨n,v⟩ hy=>by
  rcases S.par n (List.of_mem_zip hy).1 with q | q
  ·exact .inl q
  ·exact .inr ⟨q,PySem.W.cellsFrom_some _ _ _ (.inl q)⟩
 refine codeAny_call_function hr.depth (KX _ _ lk) rfl S.co S.gen rfl (PySem.W.codeRec_of KX hcd) (hb _ _ _ _ ?_)
 refine wpAny_newFunctionEnv_cells S.kind hkind fun env he s1 x=>?_
 subst he
 refine ⟨lim.keeps x.toInCall.keep,codeAny_func ?_⟩
 obtain ⟨t,ht,hq⟩:=hbody A outer s H vs Q E (hr.deeper _) hsp
 have I:Inv (uO CX P w K mg base N qual scope f cdv A outer s H E) [] (kE N vs) H s1:=aEW S hr.hd e0 hl r x
 refine wpAny_mono (ht [] s1 (kE N vs) H _ I hq) (fun fl s' hs=>?_) fun e s' hs=>hs
 have fin:∀ {σ':St} {H':Hp} {v:V} {u:Value},Inv (uO CX P w K mg base N qual scope f cdv A outer s H E) [] σ' H' s' → bK v u → Q v H' → CE outer P w H s Q u s' :=
  fun {σ' H' v u} J rv q=>⟨v,H',J.os,J.bare,J.base,J.hok,rv,q⟩
 cases fl with
 | ret u =>
  obtain ⟨v,σ',H',J,rv,q⟩:=hs
  exact fin J rv q
 | next =>
  obtain ⟨σ',H',J,q⟩:=hs
  exact fin (v:=V.non) (u:=Value.none) J rfl q
 | brk =>
  obtain ⟨_,_,_,q⟩:=hs
  exact False.elim q
 | cont =>
  obtain ⟨_,_,_,q⟩:=hs
  exact False.elim q
end L2
namespace L2
open PySem PySem.Spec PyProof.Rows
section
variable {X:Cx} {x:Str} {p pos:Pos} {e:Expr} {es:List Expr} {t:TA} {id T:String} {r:List V → Hp → VK → Prop}
def tCB (r:List V → Hp → VK → Prop) (t:TA):TE:=fun σ H Q=>t σ H fun vs H1=>r vs H1 Q
theorem aT (hc:fB X (.builtin id) r) (hg:Gl X x) (hm:X.mg x = none) (hv:bootBuiltins x = some (.builtin id)) (ha:PA X (e :: es) t) (hn:x ≠ "__name__":=by decide) (hdb:(x == ("__debug__":Str)) = false:=by decide)
  (he:starEach (e :: es) X.env = (false,eval e X.env) :: starEach es X.env:=by rfl) (hpl:(backTo pos (starEach es X.env)).any (·.1) = false:=by rfl):PE X (.Call (.Name x p) (e :: es) [] pos) (tCB r t):=by
 intro pins s σ H Q I h
 refine wpAny_Call_Name_kw (yI I hg hm hv ?_ hn hdb)
 exact PyProof.Rows.callWith_builtin1 (thn (ha pos pins s σ H _ I h) fun us s1 ⟨vs,H1,I1,r1,q1⟩=>hc pins s1 σ H1 vs us Q I1 r1 q1) he hpl
theorem cI (hc:fB X (.type T) r) (hg:Gl X x) (hm:X.mg x = none) (hv:bootBuiltins x = some (.type T)) (ha:PA X (e :: es) t) (hn:x ≠ "__name__":=by decide) (hdb:(x == ("__debug__":Str)) = false:=by decide)
  (he:starEach (e :: es) X.env = (false,eval e X.env) :: starEach es X.env:=by rfl) (hpl:(backTo pos (starEach es X.env)).any (·.1) = false:=by rfl):PE X (.Call (.Name x p) (e :: es) [] pos) (tCB r t):=by
 intro pins s σ H Q I h
 refine wpAny_Call_Name_kw (yI I hg hm hv ?_ hn hdb)
 exact PyProof.Rows.callWith_type1 (thn (ha pos pins s σ H _ I h) fun us s1 ⟨vs,H1,I1,r1,q1⟩=>hc pins s1 σ H1 vs us Q I1 r1 q1) he hpl
end
end L2
namespace L2
open PySem PySem.Spec PyProof.Rows
section
variable {κ:Type} [DecidableEq κ]
def gC (kvs:List (κ × V)) (k:κ):Option V:=(kvs.find? fun kv=>decide (kv.1 = k)).map (·.2)
def gW (kvs:List (κ × V)) (k:κ) (v:V):List (κ × V) :=
 if (kvs.any fun kv=>decide (kv.1 = k)) = true then kvs.map (fun kv=>if kv.1 = k then (kv.1,v) else kv) else kvs ++ [(k,v)]
def dropK (kvs:List (κ × V)) (k:κ):List (κ × V):=kvs.filter fun kv=>decide (kv.1 ≠ k)
theorem jA {p:κ × V} {r:List (κ × V)} {k:κ} (e:p.1 = k):gC (p :: r) k = some p.2:=by simp [gC,List.find?_cons,e]
theorem gD {p:κ × V} {r:List (κ × V)} {k:κ} (e:¬ p.1 = k):gC (p :: r) k = gC r k:=by simp [gC,List.find?_cons,e]
theorem sK (k:κ):∀ kvs:List (κ × V),(kvs.any fun kv=>decide (kv.1 = k)) = (gC kvs k).isSome
 | []=>rfl
 | p :: r=>by
  rw [List.any_cons]
  by_cases e:p.1 = k
  ·simp only [jA e,decide_eq_true e,Bool.true_or,Option.isSome_some]
  ·rw [gD e,decide_eq_false e,Bool.false_or];exact sK k r
theorem nF (kvs:List (κ × V)) (k:κ) (v:V):(gW kvs k v).length ≤ kvs.length + 1:=by
 unfold gW
 split
 ·rw [List.length_map];omega
 ·rw [List.length_append,List.length_cons,List.length_nil];omega
theorem aAF {kvs:List (κ × V)} {k:κ} (v:V) (h:gC kvs k = none):gW kvs k v = kvs ++ [(k,v)]:=by
 unfold gW
 rw [sK,h]
 exact if_neg (by decide)
theorem mG.isSome_eq {o:Option V} {u:Option Value} (r:mG o u):o.isSome = u.isSome:=by
 cases o with
 | none=>cases u with
  | none=>rfl
  | some _=>exact (show False from r).elim
 | some _=>cases u with
  | none=>exact (show False from r).elim
  | some _=>rfl
theorem mG.getD {o:Option V} {u:Option Value} {d:V} {d':Value} (r:mG o u) (rd:bK d d'):bK (o.getD d) (u.getD d'):=by
 cases o with
 | none=>cases u with
  | none=>exact rd
  | some _=>exact (show False from r).elim
 | some _=>cases u with
  | none=>exact (show False from r).elim
  | some _=>exact r
theorem KV.val {kvs:List (κ × V)} {vs:List (κ × Value)} (r:KV kvs vs) (k:κ):mG (gC kvs k) (valueAt vs k):=by
 unfold KV at r
 induction r with
 | nil=>exact True.intro
 | @cons p q ps qs h t ih =>
  obtain ⟨h1,h2⟩:=h
  by_cases e:p.1 = k
  ·have e':q.1 = k:=h1.symm.trans e
   have b:valueAt (q :: qs) k = some q.2:=by simp [valueAt,List.find?_cons,e']
   rw [jA e,b];exact h2
  ·have e':¬ q.1 = k:=fun z=>e (h1.trans z)
   have b:valueAt (q :: qs) k = valueAt qs k:=by simp [valueAt,List.find?_cons,e']
   rw [gD e,b];exact ih
theorem KV.any {kvs:List (κ × V)} {vs:List (κ × Value)} (r:KV kvs vs) (k:κ):(kvs.any fun kv=>decide (kv.1 = k)) = vs.any fun kv=>decide (kv.1 = k):=by
 unfold KV at r
 induction r with
 | nil=>rfl
 | cons h t ih=>rw [List.any_cons,List.any_cons,ih,h.1]
theorem KV.repl {kvs:List (κ × V)} {vs:List (κ × Value)} (r:KV kvs vs) (k:κ) {y:V} {u:Value} (ry:bK y u) :
  KV (kvs.map fun kv=>if kv.1 = k then (kv.1,y) else kv) (vs.map fun kv=>if kv.1 = k then (kv.1,u) else kv):=by
 unfold KV at r ⊢
 induction r with
 | nil=>exact .nil
 | @cons p q ps qs h t ih =>
  rw [List.map_cons,List.map_cons]
  refine .cons ?_ ih
  obtain ⟨h1,h2⟩:=h
  by_cases e:p.1 = k
  ·rw [if_pos e,if_pos (h1.symm.trans e)];exact ⟨h1,ry⟩
  ·rw [if_neg e,if_neg (fun z=>e (h1.trans z))];exact ⟨h1,h2⟩
theorem KV.put {kvs:List (κ × V)} {vs:List (κ × Value)} (r:KV kvs vs) (k:κ) {y:V} {u:Value} (ry:bK y u):KV (gW kvs k y) (stored vs k u):=by
 unfold gW stored
 rw [r.any k]
 by_cases e:(vs.any fun kv=>decide (kv.1 = k)) = true
 ·rw [if_pos e,if_pos e];exact r.repl k ry
 ·rw [if_neg e,if_neg e];exact Paired.snoc r ⟨rfl,ry⟩
theorem KV.keys {kvs:List (κ × V)} {vs:List (κ × Value)} (r:KV kvs vs):kvs.map (·.1) = vs.map (·.1):=by
 unfold KV at r
 induction r with
 | nil=>rfl
 | cons h t ih=>rw [List.map_cons,List.map_cons,ih,h.1]
theorem KV.length {kvs:List (κ × V)} {vs:List (κ × Value)} (r:KV kvs vs):kvs.length = vs.length:=Paired.length r
end
theorem uD {P:Program} {w:World} {k:Key} {u:Value} (r:bK (kV k) u):(aV P w).is k u = true:=by
 cases k with
 | inl i=>obtain ⟨t,e⟩:=(show ∃ t,u = Value.int i t from r);subst e;exact aAU P w i t
 | inr x=>obtain ⟨t,e⟩:=(show ∃ t,u = Value.str x t from r);subst e;exact aAT P w x t
theorem wJ {P:Program} {w:World}:∀ {ks:List Key} {us:List Value},bQ (ks.map kV) us → ItemsAre (aV P w) ks us
 | [],_,r=>by rw [List.map_nil] at r;cases r;exact .nil
 | k :: ks,_,r=>by
  rw [List.map_cons] at r
  cases r with
  | cons h t=>exact .cons (uD h) (wJ t)
abbrev KT (H:Hp):List (List Key × V) → List (List Key × Addr × Value) → Prop:=Paired fun p q=>p.1 = q.1 ∧ H q.2.1 = some (.tup (p.1.map kV)) ∧ bK p.2 q.2.2
theorem KT.val {H:Hp} {kvs:List (List Key × V)} {xs:List (List Key × Addr × Value)} (r:KT H kvs xs) (k:List Key):mG (gC kvs k) ((atKey xs k).map (·.2)):=by
 induction r with
 | nil=>exact True.intro
 | @cons p q ps qs h t ih =>
  obtain ⟨h1,_,h2⟩:=h
  by_cases e:p.1 = k
  ·have e':q.1 = k:=h1.symm.trans e
   have b:atKey (q :: qs) k = some q.2:=by simp [atKey,List.find?_cons,e']
   rw [jA e,b];exact h2
  ·have e':¬ q.1 = k:=fun z=>e (h1.trans z)
   have b:atKey (q :: qs) k = atKey qs k:=by simp [atKey,List.find?_cons,e']
   rw [gD e,b];exact ih
theorem KT.repl {H:Hp} {kvs:List (List Key × V)} {xs:List (List Key × Addr × Value)} (r:KT H kvs xs) (k:List Key) {y:V} {u:Value} (ry:bK y u) :
  KT H (kvs.map fun kv=>if kv.1 = k then (kv.1,y) else kv) (xs.map (putAt k u)):=by
 induction r with
 | nil=>exact .nil
 | @cons p q ps qs h t ih =>
  rw [List.map_cons,List.map_cons]
  refine .cons ?_ ih
  obtain ⟨h1,h2,h3⟩:=h
  unfold putAt
  by_cases e:p.1 = k
  ·rw [if_pos e,if_pos (h1.symm.trans e)];exact ⟨h1,h2,ry⟩
  ·rw [if_neg e,if_neg (fun z=>e (h1.trans z))];exact ⟨h1,h2,h3⟩
theorem KT.put {H:Hp} {kvs:List (List Key × V)} {xs:List (List Key × Addr × Value)} (r:KT H kvs xs) (k:List Key) {b:Addr} {y:V} {u:Value} (hb:H b = some (.tup (k.map kV))) (ry:bK y u) :
  KT H (gW kvs k y) (storedH xs k b u):=by
 have e:(kvs.any fun kv=>decide (kv.1 = k)) = (atKey xs k).isSome:=by
  rw [sK,(r.val k).isSome_eq,Option.isSome_map]
 unfold gW storedH
 rw [e]
 by_cases q:(atKey xs k).isSome = true
 ·rw [if_pos q,if_pos q];exact r.repl k ry
 ·rw [if_neg q,if_neg q];exact Paired.snoc r ⟨rfl,hb,ry⟩
theorem KT.keeps {H H':Hp} {kvs:List (List Key × V)} {xs:List (List Key × Addr × Value)} (r:KT H kvs xs) (ht:∀ b ys,H b = some (.tup ys) → H' b = some (.tup ys)):KT H' kvs xs :=
 Paired.mapP r fun _ _ z=>⟨z.1,ht _ _ z.2.1,z.2.2⟩
section
variable {P:Program} {w:World} {H:Hp} {h:Heap} {a:Addr}
theorem aLC {u:HO} (ok:HOk P w H h) (e:Rd H a u):cU P w H h a u:=e.ok ok
theorem uL {kvs:List (Key × V)} (ok:HOk P w H h) (e:Rd H a (.dK kvs)):kvs.length ≤ sizeLine ∧ (a == sysModules) = false ∧ ∃ vs,KV kvs vs ∧ h.DictOf (aV P w) a vs :=
 show cU P w H h a (.dK kvs) from aLC ok e
theorem aLG {kvs:List (Key × V)} (ok:HOk P w H h) (e:H a = some (.dK kvs)):kvs.length ≤ sizeLine ∧ (a == sysModules) = false ∧ ∃ vs,KV kvs vs ∧ h.DictOf (aV P w) a vs:=uL ok (.inl e)
theorem qS {ks:List Key} (ok:HOk P w H h) (e:H a = some (.tup (ks.map kV))):(tupleKind (aV P w)).is h ks a:=by
 obtain ⟨_,its,r,o,h1,h2,n,h3,_⟩:=(show cU P w H h a (.tup (ks.map kV)) from ok a _ e)
 exact ⟨o,its.toArray,n,h1,h2,h3,by simpa using wJ r⟩
theorem uK {kvs:List (List Key × V)} (ok:HOk P w H h) (e:Rd H a (.dT kvs)):kvs.length ≤ sizeLine ∧ (a == sysModules) = false ∧
  ∃ xs,KT H kvs xs ∧ h.DictOfH (tupleKind (aV P w)) a xs:=by
 obtain ⟨z,y,xs,r,o,es,ep,h1,h2,h3,h4,h5⟩:=(show cU P w H h a (.dT kvs) from aLC ok e)
 refine ⟨z,y,xs,r,o,es,ep,h1,h2,h3,h4,fun x hx=>?_,h5⟩
 have all:∀ {l:List (List Key × V)} {m:List (List Key × Addr × Value)},KT H l m → ∀ x ∈ m,(tupleKind (aV P w)).is h x.1 x.2.1:=by
  intro l m q
  induction q with
  | nil=>intro x hx;exact nomatch hx
  | @cons p q ps qs hq t ih =>
   intro x hx
   rcases List.mem_cons.mp hx with e | hx
   ·subst e
    exact qS ok (by rw [← hq.1];exact hq.2.1)
   ·exact ih x hx
 exact all r x hx
theorem aOJ {kvs:List (List Key × V)} (ok:HOk P w H h) (e:H a = some (.dT kvs)):kvs.length ≤ sizeLine ∧ (a == sysModules) = false ∧
  ∃ xs,KT H kvs xs ∧ h.DictOfH (tupleKind (aV P w)) a xs:=uK ok (.inl e)
end
def pK (H:Hp) (a:Addr) (y:V) (r:Option V):Prop :=
 (∃ kvs k,Rd H a (.dK kvs) ∧ y = kV k ∧ r = gC kvs k) ∨ ∃ kvs k b,Rd H a (.dT kvs) ∧ y = .ref b ∧ H b = some (.tup (k.map kV)) ∧ r = gC kvs k
def aMW (H:Hp) (a:Addr) (y v:V) (H':Hp):Prop :=
 (∃ kvs k,H a = some (.dK kvs) ∧ y = kV k ∧ kvs.length < sizeLine ∧ H' = upd H a (.dK (gW kvs k v))) ∨
 ∃ kvs k b,H a = some (.dT kvs) ∧ y = .ref b ∧ H b = some (.tup (k.map kV)) ∧ kvs.length < sizeLine ∧ H' = upd H a (.dT (gW kvs k v))
theorem pK.k {H:Hp} {a:Addr} {kvs:List (Key × V)} {k:Key} (e:H a = some (.dK kvs)):pK H a (kV k) (gC kvs k):=.inl ⟨kvs,k,.inl e,rfl,rfl⟩
section
variable {X:Cx} {pins:List (Addr × Obj)} {σ:St} {H:Hp} {s:Shared} {a:Addr} {y v:V} {u r:Value} {o:Option V} {A:Around} {E:Value → Shared → Prop}
theorem Inv.big (I:Inv X pins σ H s):sysModules < s.heap.objs.size:=by
 have h:mainGlobals < s.heap.objs.size:=(I.mod.glob.keeps I.bk).lt
 exact Nat.lt_trans (by decide) h
theorem wP {Q:Value → Shared → Prop} (hu:A.units + 1 < cLine) (I:Inv X pins σ H s) (g:pK H a y (some v)) (ry:bK y u) (h:∀ w' s',Inv X pins σ H s' → bK v w' → Q w' s') :
  wpAny (model X.prog X.w) A (getItem (.ref a) u) Q E s:=by
 rcases g with ⟨kvs,k,e,ey,l⟩ | ⟨kvs,k,b,e,ey,eb,l⟩
 ·subst ey
  obtain ⟨z,hd,vs,rel,dd⟩:=uL I.hok e
  obtain ⟨w',hw,rw'⟩:=mG.some_of (v:=v) (o:=valueAt vs k) (by rw [l];exact rel.val k)
  exact wpAny_getItem_of (uD ry) dd.mapOf hw (h w' _ (I.tok _) rw')
 ·subst ey
  cases (show u = Value.ref b from ry)
  obtain ⟨z,hd,xs,rel,dd⟩:=uK I.hok e
  obtain ⟨w',hw,rw'⟩:=mG.some_of (v:=v) (o:=(atKey xs k).map (·.2)) (by rw [l];exact rel.val k)
  obtain ⟨p,hp,hp2⟩:=Option.map_eq_some_iff.mp hw
  refine wpAny_getItem_heap (tupleKind_room_in1 hu) (qS I.hok eb) dd hp ?_
  rw [hp2]
  exact h w' _ (I.tok _) rw'
theorem aPG {Q:Value → Shared → Prop} (hu:A.units + 1 < cLine) (I:Inv X pins σ H s) (g:pK H a y o) (ry:bK y u) (h:∀ s',Inv X pins σ H s' → Q (.bool o.isSome) s') :
  wpAny (model X.prog X.w) A (compareOp .In u (.ref a)) Q E s:=by
 rcases g with ⟨kvs,k,e,ey,l⟩ | ⟨kvs,k,b,e,ey,eb,l⟩
 ·subst ey
  obtain ⟨z,hd,vs,rel,dd⟩:=uL I.hok e
  refine wpAny_in_of (uD ry) hd dd.mapOf ?_
  rw [← (rel.val k).isSome_eq,← l]
  exact h _ (I.tok _)
 ·subst ey
  cases (show u = Value.ref b from ry)
  obtain ⟨z,hd,xs,rel,dd⟩:=uK I.hok e
  refine wpAny_in_heap (tupleKind_room_in1 hu) (qS I.hok eb) hd dd ?_
  have q:=(rel.val k).isSome_eq
  rw [Option.isSome_map] at q
  rw [← q,← l]
  exact h _ (I.tok _)
theorem aKL {Q:Value → Shared → Prop} (hu:A.units + 1 < cLine) (I:Inv X pins σ H s) (g:pK H a y o) (ry:bK y u) (h:∀ s',Inv X pins σ H s' → Q (.bool (!o.isSome)) s') :
  wpAny (model X.prog X.w) A (compareOp .NotIn u (.ref a)) Q E s:=by
 rcases g with ⟨kvs,k,e,ey,l⟩ | ⟨kvs,k,b,e,ey,eb,l⟩
 ·subst ey
  obtain ⟨z,hd,vs,rel,dd⟩:=uL I.hok e
  refine wpAny_notIn_of (uD ry) hd dd.mapOf ?_
  rw [← (rel.val k).isSome_eq,← l]
  exact h _ (I.tok _)
 ·subst ey
  cases (show u = Value.ref b from ry)
  obtain ⟨z,hd,xs,rel,dd⟩:=uK I.hok e
  refine wpAny_notIn_heap (tupleKind_room_in1 hu) (qS I.hok eb) hd dd ?_
  have q:=(rel.val k).isSome_eq
  rw [Option.isSome_map] at q
  rw [← q,← l]
  exact h _ (I.tok _)
theorem yW {h':Heap} {t':Nat} {ob:HO} (I:Inv X pins σ H s) (mu:Mut (H a)) (hs:Heap.SameBut a s.heap h') (he:∃ q,h'.get? a = some q) (new:cU X.prog X.w (upd H a ob) h' a ob) :
  Inv X pins σ (upd H a ob) { s with heap:=h',toks:=t' } :=
 I.write (x:=a) (e:=a) mu (.inl rfl) (fun b q hb z=>(hs.2 b hb).trans z) he new
theorem aIL {P:Program} {w:World} {H':Hp} {h':Heap} {kvs:List (Key × V)} {vs:List (Key × Value)} (z:kvs.length ≤ sizeLine) (hd:(a == sysModules) = false) (rel:KV kvs vs) (dd:h'.DictOf (aV P w) a vs) :
  cU P w H' h' a (.dK kvs):=⟨z,hd,vs,rel,dd⟩
theorem wO {H':Hp} {Q:Unit → Shared → Prop} (hu:A.units + 1 < cLine) (I:Inv X pins σ H s) (g:aMW H a y v H') (ry:bK y u) (rv:bK v r) (h:∀ s',Inv X pins σ H' s' → Q () s') :
  wpAny (model X.prog X.w) A (setItem (.ref a) u r) Q E s:=by
 rcases g with ⟨kvs,k,e,ey,l,eH⟩ | ⟨kvs,k,b,e,ey,eb,l,eH⟩
 ·subst ey eH
  obtain ⟨z,hd,vs,rel,dd⟩:=aLG I.hok e
  have hz:vs.length ≤ sizeLine:=by rw [← rel.length];exact z
  have hl:(gW kvs k v).length ≤ sizeLine:=by have:=nF kvs k v;omega
  refine wpAny_setItem_pairs (hsz:=hz) (uD ry) dd fun h' dd' hs=>h _ ?_
  have he:∃ q,h'.get? a = some q:=let ⟨q,_,_,hq,_⟩:=dd';⟨q,hq⟩
  exact yW I (by rw [e];exact True.intro) hs he (aIL hl hd (rel.put k rv) dd')
 ·subst ey eH
  cases (show u = Value.ref b from ry)
  obtain ⟨z,hd,xs,rel,dd⟩:=aOJ I.hok e
  have hz:xs.length ≤ sizeLine:=by rw [← Paired.length rel];exact z
  have hl:(gW kvs k v).length ≤ sizeLine:=by have:=nF kvs k v;omega
  refine wpAny_setItem_heap (hsz:=hz) (tupleKind_room_in1 hu) (qS I.hok eb) dd fun h' dd' hs=>h _ ?_
  obtain ⟨q,es,ep,hq,h2,h3,h4,_,h5⟩:=dd'
  refine yW I (by rw [e];exact True.intro) hs ⟨q,hq⟩ ⟨hl,hd,_,(rel.put k eb rv).keeps fun c ys ec=>?_,q,es,ep,hq,h2,h3,h4,h5⟩
  rw [aR (rO ec e (fun z=>nomatch z))]
  exact ec
end
section
variable {X:Cx} {pins:List (Addr × Obj)} {σ:St} {H:Hp} {s:Shared} {a:Addr} {kvs:List (Key × V)} {k:Key} {u:Value} {A:Around} {E:Value → Shared → Prop}
end
def aOM (i:Expr):Prop:=∀ ov iv,subscripted i false ov iv = operate [ov,iv] (getItem ov iv)
theorem aJE {prog:Program} {w:World} {A:Around} {E:Value → Shared → Prop} {s:Shared} {env:Env} {value slice:Expr} {pos:Pos} {T id:String} {Q:Value → Shared → Prop}
  (hl:typeLookup (.type T) "__getitem__" = pure (some (.builtin id))) (hs:aOM slice)
  (h:wpAny (model prog w) A (eval value env) (fun o s₁=>wpAny (model prog w) A (eval slice env) (fun i s₂=>s₂.TypeIs o T ∧ wpAny (model prog w) A (getItem o i) Q E s₂) E s₁) E s) :
  wpAny (model prog w) A (eval (.Subscript value slice pos) env) Q E s:=by
 refine Subscript_ (wpAny_mono h (fun o s₁ h₁=>wpAny_mono h₁ (fun i s₂ h₂=>?_) fun _ _ x=>x) fun _ _ x=>x)
 obtain ⟨hT,h₂⟩:=h₂
 unfold subscriptTail
 refine wpAny_bind ?_
 rw [getitemInPython_of_ne hT.not_modules]
 refine wpAny_bind (wpAny_specialOf hT hl ?_)
 have fin:wpAny (model prog w) A (subscripted slice false o i) (fun r s₃=>wpAny (model prog w) A (letTemporaryGo value o r >>= fun _=>pure r) Q E s₃) E s₂:=by
  rw [hs o i]
  exact wpAny_operating (wpAny_mono h₂ (fun r s₃ h₃=>wpAny_bind (wpAny_letTemporaryGo (wpAny_pure h₃))) fun _ _ x=>x)
 first
  | exact wpAny_pure (wpAny_bind fin)
  | exact wpAny_bind (wpAny_pure (wpAny_bind fin))
  | exact wpAny_bind fin
theorem aBA {X:Cx} {pins:List (Addr × Obj)} {σ:St} {H:Hp} {s:Shared} {a:Addr} {y:V} {o:Option V} (I:Inv X pins σ H s) (g:pK H a y o):s.TypeIs (.ref a) "dict":=by
 rcases g with ⟨kvs,k,e,_,_⟩ | ⟨kvs,k,b,e,_,_,_⟩
 ·obtain ⟨_,_,vs,_,dd⟩:=uL I.hok e
  exact dd.typeIs
 ·obtain ⟨_,_,xs,_,dd⟩:=uK I.hok e
  exact dd.typeIs
def aNI (td ty:TE):TE:=fun σ H Q=>td σ H fun x H1=>ty σ H1 fun y H2=>∃ a v,x = .ref a ∧ pK H2 a y (some v) ∧ Q v H2
def aOU (ty td:TE):TE:=fun σ H Q=>ty σ H fun y H1=>td σ H1 fun x H2=>∃ a o,x = .ref a ∧ pK H2 a y o ∧ Q (.bl o.isSome) H2
def aJD (ty td:TE):TE:=fun σ H Q=>ty σ H fun y H1=>td σ H1 fun x H2=>∃ a o,x = .ref a ∧ pK H2 a y o ∧ Q (.bl (!o.isSome)) H2
def aNL (td ty tv:TE):TS:=fun D σ H=>tv σ H fun v H1=>td σ H1 fun x H2=>ty σ H2 fun y H3=>∃ a H4,x = .ref a ∧ aMW H3 a y v H4 ∧ D.nx σ H4
def aNM (td ty tv:TE) (rd:V → V → Hp → VK → Prop):TS:=fun D σ H=>td σ H fun x H1=>ty σ H1 fun y H2=>∃ a v,x = .ref a ∧ pK H2 a y (some v) ∧
 tv σ H2 fun y2 H3=>rd v y2 H3 fun z H4=>∃ H5,aMW H4 a y z H5 ∧ D.nx σ H5
section
variable {X:Cx} {o i e value:Expr} {pos pos' tpos:Pos} {td ty tv:TE}
theorem dR (hu:X.A.units + 1 < cLine) (ho:PE X o td) (hi:PE X i ty) (hs:aOM i):PE X (.Subscript o i pos) (aNI td ty):=by
 intro pins s σ H Q I h
 refine aJE PySem.F.slot_dict_getitem.lookup hs (thn (ho pins s σ H _ I h) fun u s1 ⟨x,H1,I1,rx,q1⟩=>thn (hi pins s1 σ H1 _ I1 q1) fun iv s2 ⟨y,H2,I2,ry,a,v,ex,g,q2⟩=>?_)
 subst ex
 obtain rfl:u = Value.ref a:=rx
 exact ⟨aBA I2 g,wP hu I2 g ry fun w' s3 I3 rw'=>⟨v,H2,I3,rw',q2⟩⟩
theorem aBX (hu:X.A.units + 1 < cLine) (hi:PE X i ty) (ho:PE X o td):PC X .In i o (aOU ty td):=by
 intro pins s σ H Q I h
 refine thn (hi pins s σ H _ I h) fun iv s1 ⟨y,H1,I1,ry,q1⟩=>thn (ho pins s1 σ H1 _ I1 q1) fun u s2 ⟨x,H2,I2,rx,a,ov,ex,g,q2⟩=>?_
 subst ex
 obtain rfl:u = Value.ref a:=rx
 exact aPG hu I2 g ry fun s3 I3=>⟨.bl ov.isSome,H2,I3,rfl,q2⟩
theorem vY (hu:X.A.units + 1 < cLine) (hi:PE X i ty) (ho:PE X o td):PC X .NotIn i o (aJD ty td):=by
 intro pins s σ H Q I h
 refine thn (hi pins s σ H _ I h) fun iv s1 ⟨y,H1,I1,ry,q1⟩=>thn (ho pins s1 σ H1 _ I1 q1) fun u s2 ⟨x,H2,I2,rx,a,ov,ex,g,q2⟩=>?_
 subst ex
 obtain rfl:u = Value.ref a:=rx
 exact aKL hu I2 g ry fun s3 I3=>⟨.bl (!ov.isSome),H2,I3,rfl,q2⟩
theorem oG (hu:X.A.units + 1 < cLine) (ho:PE X o td) (hi:PE X i ty) (hv:PE X value tv) (hs:swapsWith value (some (.Subscript o i pos')) pos.line X.env = pure false) :
  PS X (.Assign [.Subscript o i pos'] value pos) (aNL td ty tv):=by
 intro pins s σ H D I h
 refine wpAny_Assign_Subscript (thn (hv pins s σ H _ I h) fun r s1 ⟨v,H1,I1,rv,q1⟩=>thn (ho pins s1 σ H1 _ I1 q1) fun u s2 ⟨x,H2,I2,rx,q2⟩=>thn (hi pins s2 σ H2 _ I2 q2) fun iv s3 ⟨y,H3,I3,ry,a,H4,ex,g,q3⟩=>?_) hs
 subst ex
 obtain rfl:u = Value.ref a:=rx
 exact wO hu I3 g ry rv fun s4 I4=>⟨σ,H4,I4,q3⟩
theorem aDK {op:Operator} {rd:V → V → Hp → VK → Prop} (hu:X.A.units + 1 < cLine) (ho:PE X o td) (hi:PE X i ty) (hv:PE X value tv) (hop:aMV X op rd)
  (ha:∀ ov iv new,augStore i ov iv new = (do holding [new,ov,iv] (setItem ov iv new);release [new,ov,iv] [];pure .next)):PS X (.AugAssign (.Subscript o i tpos) op value pos) (aNM td ty tv rd):=by
 intro pins s σ H D I h
 refine wpAny_AugAssign_SubscriptAny (thn (ho pins s σ H _ I h) fun u s1 ⟨x,H1,I1,rx,q1⟩=>thn (hi pins s1 σ H1 _ I1 q1) fun iv s2 ⟨y,H2,I2,ry,a,v,ex,g,q2⟩=>?_) ha
 subst ex
 obtain rfl:u = Value.ref a:=rx
 refine wP hu I2 g ry fun w' s3 I3 rw'=>thn (hv pins s3 σ H2 _ I3 q2) fun w2 s4 ⟨y2,H3,I4,ry2,q3⟩=>thn (hop pins s4 σ H3 v y2 w' w2 _ I4 rw' ry2 q3) fun w3 s5 ⟨z,H4,I5,rz,H5,g5,q4⟩=>?_
 exact wO hu I5 g5 ry rz fun s6 I6=>⟨σ,H5,I6,q4⟩
end
theorem aIM {P:Program} {w:World} {H:Hp} (h:Heap) (hb:sysModules < h.objs.size):cU P w H (h.push { cls:=.type "dict",data:=.dict #[] }) h.objs.size (.dK []) :=
 ⟨Nat.zero_le _,beq_eq_false_iff_ne.mpr (Ne.symm (Nat.ne_of_lt hb)),[],.nil,Heap.DictOf.new h⟩
section
variable {X:Cx} {pos:Pos}
end
def aBM:List (TE × TE) → St → Hp → (List (V × V) → Hp → Prop) → Prop
 | [],_,H,Q=>Q [] H
 | (tk,tv) :: r,σ,H,Q=>tk σ H fun x H1=>tv σ H1 fun y H2=>aBM r σ H2 fun ps H3=>Q ((x,y) :: ps) H3
abbrev VV:List (V × V) → List (Value × Value) → Prop:=Paired fun p q=>bK p.1 q.1 ∧ bK p.2 q.2
def PPs (X:Cx) (pos:Pos) (keys:List (Option Expr)) (values:List Expr) (trs:List (TE × TE)):Prop :=
 ∀ (pins:List (Addr × Obj)) (s:Shared) (σ:St) (H:Hp) (Q:List (V × V) → Hp → Prop),Inv X pins σ H s → aBM trs σ H Q →
  wpAny (model X.prog X.w) X.A (evalPairs (pairTrees keys values X.env pos)) (fun vs s'=>∃ ps H',Inv X pins σ H' s' ∧ VV ps vs ∧ Q ps H') X.xe s
theorem xU {X:Cx} {pos:Pos}:PPs X pos [] [] []:=fun pins s σ H Q I h=>pairTrees_nil_walk ⟨[],H,I,.nil,h⟩
theorem tE {X:Cx} {pos:Pos} {k v:Expr} {ks:List (Option Expr)} {vs:List Expr} {tk tv:TE} {trs:List (TE × TE)} (hk:PE X k tk) (hv:PE X v tv) (hr:PPs X pos ks vs trs) :
  PPs X pos (some k :: ks) (v :: vs) ((tk,tv) :: trs):=fun pins s σ H Q I h =>
 pairTrees_cons_walk (thn (hk pins s σ H _ I h) fun u s1 ⟨x,H1,I1,rx,q1⟩=>thn (hv pins s1 σ H1 _ I1 q1) fun w2 s2 ⟨y,H2,I2,ry,q2⟩ =>
  thn (hr pins s2 σ H2 _ I2 q2) fun ws s3 ⟨ps,H3,I3,rel,q3⟩=>⟨(x,y) :: ps,H3,I3,.cons ⟨rx,ry⟩ rel,q3⟩)
def fC (kvs more:List (Key × V)):List (Key × V):=more.foldl (fun acc kv=>gW acc kv.1 kv.2) kvs
theorem KV.merge:∀ {more:List (Key × V)} {rs:List (Key × Value)} {kvs:List (Key × V)} {vs:List (Key × Value)},KV more rs → KV kvs vs → KV (fC kvs more) (merged vs rs):=by
 intro more rs kvs vs r
 unfold KV at r
 induction r generalizing kvs vs with
 | nil=>intro q;exact q
 | @cons p q ps qs h t ih =>
  intro r0
  have e:KV (gW kvs p.1 p.2) (stored vs q.1 q.2):=by
   have:=r0.put p.1 h.2
   rw [← h.1];exact this
  exact ih e
theorem oT:∀ (more kvs:List (Key × V)),(fC kvs more).length ≤ kvs.length + more.length
 | [],kvs=>by show kvs.length ≤ kvs.length + 0;omega
 | p :: r,kvs=>by
  have h1:=oT r (gW kvs p.1 p.2)
  have h2:=nF kvs p.1 p.2
  show (fC (gW kvs p.1 p.2) r).length ≤ _
  rw [List.length_cons];omega
theorem uT {P:Program} {w:World}:∀ {kvs:List (Key × V)} {ws:List (Value × Value)},VV (kvs.map fun kv=>(kV kv.1,kv.2)) ws → ∃ rs,Carries (aV P w) ws rs ∧ KV kvs rs
 | [],_,r=>by rw [List.map_nil] at r;cases r;exact ⟨[],True.intro,.nil⟩
 | p :: kvs,_,r=>by
  rw [List.map_cons] at r
  cases r with
  | @cons a b as bs h t =>
   obtain ⟨rs,c,q⟩:=uT (P:=P) (w:=w) t
   obtain ⟨b1,b2⟩:=b
   exact ⟨(p.1,b2) :: rs,⟨uD h.1,rfl,c⟩,.cons ⟨rfl,h.2⟩ q⟩
def aNH (trs:List (TE × TE)):TE:=fun σ H Q=>∀ p,H p = none → aBM trs σ (upd H p (.dK [])) fun ps H2=>H2 p = some (.dK []) ∧ ∃ kvs:List (Key × V),ps = kvs.map (fun kv=>(kV kv.1,kv.2)) ∧ kvs.length ≤ 15 ∧ Q (.ref p) (upd H2 p (.dK (fC [] kvs)))
theorem xW {X:Cx} {pos:Pos} {keys:List (Option Expr)} {values:List Expr} {trs:List (TE × TE)} (h:PPs X pos keys values trs) (hall:keys.all (·.isSome) = true) (hl:keys.length = values.length) (h0:keys ≠ [])
  (h15:keys.length ≤ 15):PE X (.Dict keys values pos) (aNH trs):=by
 intro pins s σ H Q I q
 have hn:=I.hok.fresh (Nat.le_refl s.heap.objs.size)
 have I1:=I.laid (a:=s.heap.objs.size) (o:=.dK []) (h':=s.heap.push { cls:=.type "dict",data:=.dict #[] }) (t':=s.toks) (fun _ _ q=>Heap.get?_push_of_some _ q) (Nat.le_refl _) (aIM s.heap I.big)
 refine wpAny_Dict_walk (knd:=aV X.prog X.w) hall hl h0 h15 (thn (h pins _ σ _ _ I1 (q _ hn)) fun ws s2 ⟨ps,H2,I2,rel,e,kvs,ep,lk,q2⟩=>?_)
 subst ep
 obtain ⟨rs,c,rk⟩:=uT (P:=X.prog) (w:=X.w) rel
 obtain ⟨z,hd,vs0,r0,dd⟩:=aLG I2.hok e
 cases r0
 refine ⟨rs,c,dd,fun h' dd' hs=>⟨.ref s.heap.objs.size,_,?_,rfl,q2⟩⟩
 have hz:(fC [] kvs).length ≤ sizeLine:=by
  have h1:=oT kvs []
  rw [List.length_nil] at h1
  rw [sizeLine_eq];omega
 have he:∃ q,h'.get? s.heap.objs.size = some q:=let ⟨q,_,_,hq,_⟩:=dd';⟨q,hq⟩
 exact yW I2 (by rw [e];exact True.intro) hs he (aIL hz hd (rk.merge .nil) dd')
structure M1 (X:Cx) (o:Expr) (m:Str) (apos:Pos) (e:Expr) (cpos:Pos):Prop where
 base:attributeBase o m X.env (eval o X.env) = eval o X.env
 few:((backTo cpos (starEach [e] X.env)).all (fun x=>!x.1) && (backToKw cpos (keywordEach [] X.env)).all (fun x=>x.1.isSome)
  && decide (([e]:List Expr).length + ([]:List Keyword).length + (if ([]:List Keyword).isEmpty then 0 else 1) < 30)) = true
 line:(apos.endLine == cpos.line) = true
 trees:backTo cpos (starEach [e] X.env) = [(false,eval e X.env)]
structure M2 (X:Cx) (o:Expr) (m:Str) (apos:Pos) (e f:Expr) (cpos:Pos):Prop where
 base:attributeBase o m X.env (eval o X.env) = eval o X.env
 few:((backTo cpos (starEach [e,f] X.env)).all (fun x=>!x.1) && (backToKw cpos (keywordEach [] X.env)).all (fun x=>x.1.isSome)
  && decide (([e,f]:List Expr).length + ([]:List Keyword).length + (if ([]:List Keyword).isEmpty then 0 else 1) < 30)) = true
 line:(apos.endLine == cpos.line) = true
 trees:backTo cpos (starEach [e,f] X.env) = [(false,eval e X.env),(false,eval f X.env)]
def IsD (H:Hp) (a:Addr):Prop:=(∃ kvs,Rd H a (.dK kvs)) ∨ ∃ kvs,Rd H a (.dT kvs)
theorem aMK {X:Cx} {pins:List (Addr × Obj)} {σ:St} {H:Hp} {s:Shared} {a:Addr} (I:Inv X pins σ H s) (d:IsD H a) :
  s.TypeIs (.ref a) "dict" ∧ (∀ b,Value.ref a = .ref b → ∃ ob,s.heap.get? b = some ob ∧ ob.dict = none) ∧ (a == sysModules) = false:=by
 rcases d with ⟨kvs,e⟩ | ⟨kvs,e⟩
 ·obtain ⟨_,hd,vs,_,dd⟩:=uL I.hok e
  refine ⟨dd.typeIs,fun b q=>?_,hd⟩
  cases q
  obtain ⟨ob,_,_,h1,h2,_⟩:=dd
  exact ⟨ob,h1,h2.2.1⟩
 ·obtain ⟨_,hd,xs,_,dd⟩:=uK I.hok e
  refine ⟨dd.typeIs,fun b q=>?_,hd⟩
  cases q
  obtain ⟨ob,_,_,h1,h2,_⟩:=dd
  exact ⟨ob,h1,h2.2.1⟩
section
variable {X:Cx} {pins:List (Addr × Obj)} {σ:St} {H:Hp} {s:Shared} {a:Addr} {y d:V} {u r:Value} {o:Option V} {A:Around} {E:Value → Shared → Prop}
theorem aMQ {Q:Value → Shared → Prop} (hu:A.units + 1 < cLine) (I:Inv X pins σ H s) (g:pK H a y o) (ry:bK y u) (rd:bK d r) (h:∀ w' s',Inv X pins σ H s' → bK (o.getD d) w' → Q w' s') :
  wpAny (model X.prog X.w) A (call (.builtin "dict.get") [.ref a,u,r]) Q E s:=by
 rcases g with ⟨kvs,k,e,ey,l⟩ | ⟨kvs,k,b,e,ey,eb,l⟩
 ·subst ey
  obtain ⟨z,hd,vs,rel,dd⟩:=uL I.hok e
  refine call_meetsIn PySem.F.slot_dict_get dd.typeIs PySem.F.entry_dict_get (PySem.F.args_dict_get_3 _ _ _) (meets_dict_get_default (aV X.prog X.w) a (uD ry) hd r) ⟨_,dd.mapOf,h _ _ (I.tok _) ?_⟩
  rw [l]
  exact (rel.val k).getD rd
 ·subst ey
  cases (show u = Value.ref b from ry)
  obtain ⟨z,hd,xs,rel,dd⟩:=uK I.hok e
  refine call_meetsIn PySem.F.slot_dict_get dd.typeIs PySem.F.entry_dict_get (PySem.F.args_dict_get_3 _ _ _) (meetsH_dict_get_default (tupleKind (aV X.prog X.w)) a b hd r) ⟨tupleKind_room_in1 hu,k,xs,qS I.hok eb,dd,h _ _ (I.tok _) ?_⟩
  rw [l]
  exact (rel.val k).getD rd
end
def aLI (td ty tx:TE):TE:=fun σ H Q=>td σ H fun x H1=>∃ a,x = .ref a ∧ IsD H1 a ∧ ty σ H1 fun y H2=>tx σ H2 fun z H3=>∃ o,pK H3 a y o ∧ Q (o.getD z) H3
section
variable {X:Cx} {o e f:Expr} {apos cpos:Pos} {td ty tx:TE}
theorem tG (hu:X.A.units + 1 < cLine) (ho:PE X o td) (he:PE X e ty) (hf:PE X f tx) (m:M2 X o "get" apos e f cpos):PE X (.Call (.Attribute o "get" apos) [e,f] [] cpos) (aLI td ty tx):=by
 intro pins s σ H Q I h
 refine wpAny_Call_method m.base m.few m.line PySem.F.plainAttrs_dict PySem.F.slot_dict_get PySem.F.type_dict_get (thn (ho pins s σ H _ I h) fun u s1 ⟨x,H1,I1,rx,a,ex,d,q1⟩=>?_)
 subst ex
 obtain rfl:u = Value.ref a:=rx
 obtain ⟨t1,t2,_⟩:=aMK I1 d
 refine ⟨t1,t2,?_⟩
 rw [m.trees]
 refine Calls.callWith_builtin rfl (Calls.evalArgs_plain (Calls.spliced_cons (thn (he pins s1 σ H1 _ I1 q1) fun iv s2 ⟨y,H2,I2,ry,q2⟩ =>
  Calls.spliced_cons (thn (hf pins s2 σ H2 _ I2 q2) fun fv s3 ⟨z,H3,I3,rz,ov,g,q3⟩=>Calls.spliced_nil ?_))))
 exact aMQ hu I3 g ry rz fun w' s4 I4 rw'=>⟨_,H3,I4,rw',q3⟩
end
section
variable {X:Cx} {pins:List (Addr × Obj)} {σ:St} {H:Hp} {s:Shared} {a:Addr} {kvs:List (Key × V)} {A:Around} {E:Value → Shared → Prop}
end
section
variable {X:Cx} {pins:List (Addr × Obj)} {σ:St} {H:Hp} {s:Shared} {a:Addr} {y:V} {u:Value} {A:Around} {E:Value → Shared → Prop}
end
end L2
namespace HT
open PySem PyProof.Rows
def aNW:List Int → List Int → Bool
 | [],[]=>false
 | [],_ :: _=>true
 | _ :: _,[]=>false
 | x :: xs,y :: ys=>if x = y then aNW xs ys else decide (x < y)
section
open PySem.SeqAt
open PySem.AutoSeq1 (wpAny_loadPart')
open PySem.MeetsSeq PySem.MeetsSeq2 PySem.MeetsSeq3
end
section
variable {prog:Program} {w:World} {A:Around} {E:Value → Shared → Prop} {s:Shared}
def sIx (n d:Nat):Option Int → Nat
 | none=>d
 | some v=>if v < 0 then (v + (n:Int)).toNat else min v.toNat n
theorem sIx_none (n d:Nat):sIx n d none = d:=rfl
theorem sIx_nat (n d k:Nat):sIx n d (some (k:Int)) = min k n:=by
 show (if (k:Int) < 0 then ((k:Int) + (n:Int)).toNat else min (k:Int).toNat n) = min k n
 rw [if_neg (by omega),Int.toNat_natCast]
end
end HT
namespace L2
open PySem PySem.Spec PyProof.Rows
abbrev TO:=St → Hp → (Option Int → Hp → Prop) → Prop
def PO (X:Cx) (e:Option Expr) (t:TO):Prop :=
 ∀ (pins:List (Addr × Obj)) (s:Shared) (σ:St) (H:Hp) (Q:Option Int → Hp → Prop),Inv X pins σ H s → t σ H Q →
  wpAny (model X.prog X.w) X.A (evalPart e X.env) (fun u s'=>∃ o H',Inv X pins σ H' s' ∧ IsPart u o ∧ Q o H') X.xe s
def xD:TO:=fun _ H Q=>Q none H
def aFR (t:TE):TO:=fun σ H Q=>t σ H fun x H1=>∃ i,x = .int i ∧ Q (some i) H1
theorem uF {ns:List Int}:∀ {us:List Value},bQ (ns.map V.int) us → IntsAre us ns:=by
 induction ns with
 | nil=>intro us r;rw [List.map_nil] at r;cases r;exact .nil
 | cons n ns ih =>
  intro us r
  rw [List.map_cons] at r
  cases r with
  | cons r1 r2 =>
   obtain ⟨t,e⟩:=r1
   subst e
   exact .cons n t (ih r2)
section
variable {X:Cx} {e:Expr} {te:TE} {lo hi:Option Expr} {tl th:TO} {pos p2:Pos}
theorem iU:PO X none xD:=by
 intro pins s σ H Q I h
 rw [evalPart_none]
 exact wpAny_pure ⟨none,H,I,.none,h⟩
theorem gP (h:PE X e te):PO X (some e) (aFR te):=by
 intro pins s σ H Q I hw
 rw [evalPart_some]
 refine thn (h pins s σ H _ I hw) fun u s1 ⟨x,H1,I1,r1,q1⟩=>?_
 obtain ⟨i,rfl,q⟩:=q1
 obtain ⟨t,rfl⟩:=r1
 exact ⟨some i,H1,I1,.int i t,q⟩
def SlR (X:Cx) (r:V → Option Int → Option Int → Hp → VK → Prop):Prop :=
 ∀ (pins:List (Addr × Obj)) (s:Shared) (σ:St) (H:Hp) (x:V) (v vl vu:Value) (lo hi:Option Int) (sl:Addr) (Q:VK),Inv X pins σ H s → bK x v → s.heap.IsSliceOf sl vl vu .none → IsPart vl lo → IsPart vu hi → r x lo hi H Q →
  ∃ T id,typeLookup (.type T) "__getitem__" = pure (some (.builtin id)) ∧ s.TypeIs v T ∧ wpAny (model X.prog X.w) X.A (getItem v (.ref sl)) (EP X pins σ Q) X.xe s
def tSl (r:V → Option Int → Option Int → Hp → VK → Prop) (te:TE) (tl th:TO):TE:=fun σ H Q=>te σ H fun x H1=>tl σ H1 fun l H2=>th σ H2 fun u H3=>r x l u H3 Q
theorem fV {r:V → Option Int → Option Int → Hp → VK → Prop} (hr:SlR X r) (he:PE X e te) (hl:PO X lo tl) (hu:PO X hi th):PE X (.Subscript e (.Slice lo hi none p2) pos) (tSl r te tl th):=by
 intro pins s σ H Q I h
 refine Subscript_ (thn (he pins s σ H _ I h) fun v s1 ⟨x,H1,I1,r1,q1⟩=>?_)
 refine wpAny_Slice (thn (hl pins s1 σ H1 _ I1 q1) fun vl s2 ⟨l,H2,I2,pl,q2⟩=>thn (hu pins s2 σ H2 _ I2 q2) fun vu s3 ⟨u,H3,I3,pu,q3⟩=>?_)
 rw [evalPart_none]
 refine wpAny_pure ?_
 have I4:Inv X pins σ H3 { s3 with heap:=s3.heap.push { cls:=.type "slice",data:=.fields #[vl,vu,.none] } }:=I3.kept (t':=s3.toks) fun b ob q=>Heap.get?_push_of_some _ q
 obtain ⟨T,id,hT,ht,hg⟩:=hr pins { s3 with heap:=s3.heap.push { cls:=.type "slice",data:=.fields #[vl,vu,.none] } } σ H3 x v vl vu l u s3.heap.objs.size Q I4 r1 (Heap.IsSliceOf.new ..) pl pu q3
 show wpAny (model X.prog X.w) X.A (subscriptTail e (.Slice lo hi none p2) v (.ref s3.heap.objs.size)) (EP X pins σ Q) X.xe { s3 with heap:=s3.heap.push { cls:=.type "slice",data:=.fields #[vl,vu,.none] } }
 exact tail_any (ops:=[.ref s3.heap.objs.size,v]) ht hT hg (by with_unfolding_all rfl)
def iK (xs:List V) (lo hi:Option Int):List V:=(xs.drop (HT.sIx xs.length 0 lo)).take (HT.sIx xs.length xs.length hi - HT.sIx xs.length 0 lo)
theorem aBC (xs:List V) (lo hi:Option Int):(iK xs lo hi).length ≤ xs.length:=by
 unfold iK
 rw [List.length_take,List.length_drop]
 omega
end
end L2
namespace L2
open PySem PySem.Spec PyProof.Rows
def ixN (n:Nat) (i:Int):Option Nat:=if 0 ≤ i then (if i < n then some i.toNat else none) else if -(n:Int) ≤ i then some (i + n).toNat else none
def atI {α:Type} (xs:List α) (i:Int):Option α:=(ixN xs.length i).bind fun j=>xs[j]?
theorem aKE {n:Nat} {i:Int} {j:Nat} (h:ixN n i = some j):seqIndex? i n = some j ∧ j < n ∧ -(n:Int) ≤ i ∧ i < n:=by
 unfold ixN at h
 by_cases h0:0 ≤ i
 ·rw [if_pos h0] at h
  by_cases h1:i < n
  ·rw [if_pos h1] at h
   have e:i.toNat = j:=Option.some.inj h
   exact ⟨by rw [seqIndex_of h0 h1,e],by omega,by omega,h1⟩
  ·rw [if_neg h1] at h;cases h
 ·rw [if_neg h0] at h
  by_cases h1:-(n:Int) ≤ i
  ·rw [if_pos h1] at h
   have e:(i + n).toNat = j:=Option.some.inj h
   exact ⟨by rw [seqIndex_neg (by omega) h1,e],by omega,h1,by omega⟩
  ·rw [if_neg h1] at h;cases h
theorem zC {α:Type} {xs:List α} {i:Int} {v:α} (h:atI xs i = some v):∃ j,seqIndex? i xs.length = some j ∧ xs[j]? = some v ∧ j < xs.length ∧ -(xs.length:Int) ≤ i ∧ i < xs.length:=by
 unfold atI at h
 cases e:ixN xs.length i with
 | none=>rw [e] at h;cases h
 | some j =>
  rw [e] at h
  obtain ⟨h1,h2,h3,h4⟩:=aKE e
  exact ⟨j,h1,h,h2,h3,h4⟩
theorem aQ {α:Type} {xs:List α} {j:Nat} {v:α} (h:xs[j]? = some v):atI xs (j:Int) = some v:=by
 have hj:j < xs.length:=(List.getElem?_eq_some_iff.mp h).1
 have e:ixN xs.length (j:Int) = some j:=by
  unfold ixN
  rw [if_pos (by omega),if_pos (by omega)];simp
 unfold atI;rw [e];exact h
def aKU (b:Expr):Prop:=∀ o i,subscripted b false o i = operate [o,i] (getItem o i)
def IxR (X:Cx) (r:R2):Prop :=
 ∀ (value slice:Expr) (pins:List (Addr × Obj)) (s:Shared) (σ:St) (H:Hp) (x y:V) (v u:Value) (Q:VK),Inv X pins σ H s → bK x v → bK y u → r x y H Q →
  subscripted slice false v u = operate [v,u] (getItem v u) → wpAny (model X.prog X.w) X.A (subscriptTail value slice v u) (EP X pins σ Q) X.xe s
def MtR (X:Cx) (id:String) (r:V → List V → Hp → VK → Prop):Prop :=
 ∀ (pins:List (Addr × Obj)) (s:Shared) (σ:St) (H:Hp) (x:V) (xs:List V) (v:Value) (us:List Value) (Q:VK),Inv X pins σ H s → bK x v → bQ xs us → r x xs H Q →
  wpAny (model X.prog X.w) X.A (call (.builtin id) (v :: us)) (EP X pins σ Q) X.xe s
section
variable {X:Cx} {a b:Expr} {ta tb:TE} {pos:Pos}
theorem aZ {r:R2} (hr:IxR X r) (ha:PE X a ta) (hb:PE X b tb) (hs:aKU b):PE X (.Subscript a b pos) (tOp r ta tb):=by
 intro pins s σ H Q I h
 exact Subscript_ (aMS ha hb I h fun v u s2 x y H2 I2 rx ry q=>hr a b pins s2 σ H2 x y v u Q I2 rx ry q (hs _ _))
def aLP (K:PySem.W.Frag):R2:=fun x y H Q=>∃ p xs i v,x = .ref p ∧ y = .int i ∧ SqL K H p xs ∧ atI xs i = some v ∧ Q v H
def aNR (K:PySem.W.Frag):R2:=fun x y H Q=>∃ p xs i v,x = .ref p ∧ y = .int i ∧ SqT K H p xs ∧ atI xs i = some v ∧ Q v H
def aOZ:R2:=fun x y H Q=>∃ z i c,x = .str z ∧ y = .int i ∧ z.length ≤ sizeLine ∧ atI z.cps.toList i = some c ∧ Q (.str ⟨#[c]⟩) H
theorem aKD:IxR X (aLP X.K):=by
 intro value slice pins s σ H x y v u Q I rx ry h hs
 obtain ⟨p,xs,i,z,rfl,rfl,hq,he,q⟩:=h
 cases rx
 obtain ⟨t,rfl⟩:=ry
 obtain ⟨its,r,pl,hz⟩:=I.list hq
 obtain ⟨j,h1,h2,h3,h4,h5⟩:=zC he
 obtain ⟨w,ew,rw'⟩:=r.get h2
 have hl:=r.length
 have hn:=uA
 have fin:EP X pins σ Q w s:=⟨z,H,I,rw',q⟩
 by_cases h0:0 ≤ i
 ·have hj:i.toNat = j:=by
   rw [seqIndex_of h0 h5] at h1
   exact Option.some.inj h1
  exact item_listR pl.isList h0 (by omega) (by rw [hj];simpa using ew) fin hs
 ·have hj:(i + (its.toArray.size:Int)).toNat = j:=by
   rw [seqIndex_neg (by omega) h4] at h1
   rw [List.size_toArray,← hl]
   exact Option.some.inj h1
  exact subscriptTail_builtinR (x:=w) pl.isList.typeIs slot_list_getitem.lookup
   (wpAny_getItem_list_neg (Q:=fun r s'=>r = w ∧ EP X pins σ Q r s') pl.isList (by omega) (by rw [List.size_toArray] <;> omega) (by omega) (by rw [hj];simpa using ew) ⟨rfl,fin⟩) hs
theorem aMH:IxR X (aNR X.K):=by
 intro value slice pins s σ H x y v u Q I rx ry h hs
 obtain ⟨p,xs,i,z,rfl,rfl,hq,he,q⟩:=h
 cases rx
 obtain ⟨t,rfl⟩:=ry
 obtain ⟨its,r,pl,hz⟩:=I.tuple hq
 obtain ⟨j,h1,h2,h3,h4,h5⟩:=zC he
 obtain ⟨w,ew,rw'⟩:=r.get h2
 have hl:=r.length
 have hn:=uA
 have fin:EP X pins σ Q w s:=⟨z,H,I,rw',q⟩
 exact subscriptTail_builtinR (x:=w) pl.typeIs slot_tuple_getitem.lookup
  (getItem_tuple (j:=j) (Q:=fun r s'=>r = w ∧ EP X pins σ Q r s') pl (by omega) (by omega) (by rw [List.size_toArray,← hl];exact h1) (by simpa using ew) ⟨rfl,fin⟩) hs
theorem aMI:IxR X aOZ:=by
 intro value slice pins s σ H x y v u Q I rx ry h hs
 obtain ⟨z,i,c,rfl,rfl,hz,he,q⟩:=h
 obtain ⟨t,rfl⟩:=rx
 obtain ⟨t',rfl⟩:=ry
 obtain ⟨j,h1,h2,h3,h4,h5⟩:=zC he
 have hl:z.cps.toList.length = z.length:=by simp [Str.length]
 rw [hl] at h1 h4 h5
 have hn:=uA
 exact tail_any (typeIs_str s z t) slot_str_getitem.lookup (getItem_str (c:=c) (by
  have e1:decide (i < -(2 ^ 63:Int)) = false:=decide_eq_false (by omega)
  have e2:decide (i ≥ 2 ^ 63) = false:=decide_eq_false (by omega)
  rw [e1,e2,Bool.or_false]) (by rw [h1];simpa using h2) ⟨.str ⟨#[c]⟩,H,I.tok _,⟨_,rfl⟩,q⟩) hs
theorem xM (lo hi:Option Int) (n:Nat):(sliceBounds lo hi none n).1 = ((HT.sIx n 0 lo:Nat):Int) ∧ (sliceBounds lo hi none n).2.1 = ((HT.sIx n n hi:Nat):Int) ∧ (sliceBounds lo hi none n).2.2 = 1:=by
 refine ⟨?_,?_,rfl⟩
 ·cases lo with
  | none=>simp [sliceBounds,HT.sIx]
  | some i =>
   simp only [sliceBounds,HT.sIx,Option.getD_none,show (1:Int) > 0 by decide,if_true]
   by_cases h:i < 0
   ·simp only [h,if_true] <;> omega
   ·simp only [h,if_false] <;> omega
 ·cases hi with
  | none=>simp [sliceBounds,HT.sIx]
  | some i =>
   simp only [sliceBounds,HT.sIx,Option.getD_none,show (1:Int) > 0 by decide,if_true]
   by_cases h:i < 0
   ·simp only [h,if_true] <;> omega
   ·simp only [h,if_false] <;> omega
theorem uX (its:List Value) (lo hi:Option Int):slicePick its.toArray lo hi none = ((its.drop (HT.sIx its.length 0 lo)).take (HT.sIx its.length its.length hi - HT.sIx its.length 0 lo)).toArray:=by
 obtain ⟨h1,h2,h3⟩:=xM lo hi its.toArray.size
 unfold slicePick
 rw [h1,h2,h3]
 simp only [sliceRange_one,pick_run,List.size_toArray] <;> rfl
def aJL (K:PySem.W.Frag):V → Option Int → Option Int → Hp → VK → Prop:=fun x lo hi H Q=>∃ a xs,x = .ref a ∧ SqL K H a xs ∧ ∀ p,H p = none → Q (.ref p) (upd H p (.lst (iK xs lo hi)))
theorem aJI:SlR X (aJL X.K):=by
 intro pins s σ H x v vl vu lo hi sl Q I rx hs pl pu h
 obtain ⟨a,xs,rfl,hx,q⟩:=h
 cases rx
 obtain ⟨its,r,ht,hz⟩:=I.list hx
 have hlen:=r.length
 refine ⟨"list",_,slot_list_getitem.lookup,ht.isList.typeIs,?_⟩
 refine wpAny_getItem_list_slice ht.isList hs pl pu .none (by simp) ?_ (by rw [List.size_toArray] <;> omega)
 rw [uX,← hlen]
 refine ⟨.ref s.heap.objs.size,_,I.laid (t':=s.toks) (o:=.lst (iK xs lo hi)) (fun b ob q=>Heap.get?_push_of_some _ q) (Nat.le_refl _) ?_,rfl,q _ (I.hok.fresh (Nat.le_refl _))⟩
 exact ⟨Nat.le_trans (aBC xs lo hi) hz,_,0,(r.drop (HT.sIx xs.length 0 lo)).take (HT.sIx xs.length xs.length hi - HT.sIx xs.length 0 lo),Heap.get?_push_size _ rfl⟩
def qB:V → Bool
 | .non=>true
 | .bl _=>true
 | .int _=>true
 | .str _=>true
 | _=>false
def eqV:V → V → Bool
 | .non,.non=>true
 | .bl a,.bl b=>a == b
 | .bl a,.int b=>(if a then 1 else 0) == b
 | .int a,.bl b=>a == (if b then 1 else 0)
 | .int a,.int b=>a == b
 | .str a,.str b=>a == b
 | _,_=>false
theorem lX {A:Around} {s:Shared} {y x:V} {u v:Value} (ry:bK y u) (rx:bK x v) (fy:qB y = true) (fx:qB x = true):SeqAt.EqAt A s u v (eqV y x):=by
 cases y with
 | non =>
  cases ry
  cases x with
  | non=>cases rx;exact SeqAt.EqAt.same _
  | bl b=>cases rx;exact SeqAt.EqAt.none_bool b
  | int b=>obtain ⟨t,rfl⟩:=rx;exact SeqAt.EqAt.none_int b t
  | str b=>obtain ⟨t,rfl⟩:=rx;exact SeqAt.EqAt.none_str b t
  | _=>exact absurd (show false = true from fx) Bool.false_ne_true
 | bl a =>
  cases ry
  cases x with
  | non=>cases rx;exact SeqAt.EqAt.bool_none a
  | bl b=>cases rx;exact SeqAt.EqAt.bool_bool a b
  | int b=>obtain ⟨t,rfl⟩:=rx;exact SeqAt.EqAt.bool_int a b t
  | str b=>obtain ⟨t,rfl⟩:=rx;exact SeqAt.EqAt.bool_str a b t
  | _=>exact absurd (show false = true from fx) Bool.false_ne_true
 | int a =>
  obtain ⟨t',rfl⟩:=ry
  cases x with
  | non=>cases rx;exact SeqAt.EqAt.int_none a t'
  | bl b=>cases rx;exact SeqAt.EqAt.int_bool a t' b
  | int b=>obtain ⟨t,rfl⟩:=rx;exact SeqAt.EqAt.int_int a t' b t
  | str b=>obtain ⟨t,rfl⟩:=rx;exact SeqAt.EqAt.int_str a t' b t
  | _=>exact absurd (show false = true from fx) Bool.false_ne_true
 | str a =>
  obtain ⟨t',rfl⟩:=ry
  cases x with
  | non=>cases rx;exact SeqAt.EqAt.str_none a t'
  | bl b=>cases rx;exact SeqAt.EqAt.str_bool a t' b
  | int b=>obtain ⟨t,rfl⟩:=rx;exact SeqAt.EqAt.str_int a t' b t
  | str b=>obtain ⟨t,rfl⟩:=rx;exact SeqAt.EqAt.str_str a t' b t
  | _=>exact absurd (show false = true from fx) Bool.false_ne_true
 | _=>exact absurd (show false = true from fy) Bool.false_ne_true
def eqU (x:V) (u:Value):Bool:=match u with
 | .none=>eqV .non x
 | .bool b=>eqV (.bl b) x
 | .int i _=>eqV (.int i) x
 | .str z _=>eqV (.str z) x
 | _=>false
theorem aIJ {x y:V} {u:Value} (r:bK y u) (f:qB y = true):eqU x u = eqV y x:=by
 cases y with
 | non=>cases r;rfl
 | bl b=>cases r;rfl
 | int i=>obtain ⟨t,rfl⟩:=r;rfl
 | str z=>obtain ⟨t,rfl⟩:=r;rfl
 | _=>exact absurd (show false = true from f) Bool.false_ne_true
theorem qD {x:V}:∀ {xs:List V} {us:List Value},bQ xs us → xs.all qB = true → us.any (eqU x) = xs.any fun y=>eqV y x
 | _,_,.nil,_=>rfl
 | y :: xs,u :: us,.cons r t,f=>by
  rw [List.all_cons,Bool.and_eq_true] at f
  rw [List.any_cons,List.any_cons,aIJ r f.1,qD t f.2]
theorem nE {A:Around} {s:Shared} {x:V} {v:Value} (rx:bK x v) (fx:qB x = true):∀ {xs:List V} {us:List Value},bQ xs us → xs.all qB = true → ∀ u ∈ us,SeqAt.EqAt A s u v (eqU x u)
 | _,_,.nil,_=>fun u hu=>by cases hu
 | y :: xs,u :: us,.cons r t,f=>fun u' hu=>by
  rw [List.all_cons,Bool.and_eq_true] at f
  rcases List.mem_cons.mp hu with rfl | hu
  ·rw [aIJ r f.1];exact lX r rx f.1 fx
  ·exact nE rx fx t f.2 u' hu
def inV (x:V) (xs:List V):Bool:=xs.any fun y=>eqV y x
def rIn (K:PySem.W.Frag) (neg:Bool):R2:=fun x y H Q=>∃ p xs,y = .ref p ∧ (SqL K H p xs ∨ SqT K H p xs) ∧ qB x = true ∧ xs.all qB = true ∧ Q (.bl (if neg then !inV x xs else inV x xs)) H
theorem aEL:OpR X (compareOp .In) (rIn X.K false):=by
 intro pins s σ H x y v u Q I rx ry h
 obtain ⟨p,xs,rfl,hq,fx,fs,q⟩:=h
 cases ry
 rcases hq with hq | hq
 ·obtain ⟨its,r,pl,hz⟩:=I.list hq
  refine SeqAt.in_listAt (eqU x) pl.isList (fun w hw=>nE rx fx r fs w (by simpa using hw)) ⟨.bl _,H,I,rfl,?_⟩
  rw [show its.toArray.any (eqU x) = its.any (eqU x) by simp,qD r fs]
  exact q
 ·obtain ⟨its,r,pl,hz⟩:=I.tuple hq
  refine SeqAt.in_tupleAt (eqU x) pl (fun w hw=>nE rx fx r fs w (by simpa using hw)) ⟨.bl _,H,I,rfl,?_⟩
  rw [show its.toArray.any (eqU x) = its.any (eqU x) by simp,qD r fs]
  exact q
theorem xY:OpR X (compareOp .NotIn) (rIn X.K true):=by
 intro pins s σ H x y v u Q I rx ry h
 obtain ⟨p,xs,rfl,hq,fx,fs,q⟩:=h
 cases ry
 rcases hq with hq | hq
 ·obtain ⟨its,r,pl,hz⟩:=I.list hq
  refine SeqAt.notIn_listAt (eqU x) pl.isList (fun w hw=>nE rx fx r fs w (by simpa using hw)) ⟨.bl _,H,I,rfl,?_⟩
  rw [show its.toArray.any (eqU x) = its.any (eqU x) by simp,qD r fs]
  exact q
 ·obtain ⟨its,r,pl,hz⟩:=I.tuple hq
  refine SeqAt.notIn_tupleAt (eqU x) pl (fun w hw=>nE rx fx r fs w (by simpa using hw)) ⟨.bl _,H,I,rfl,?_⟩
  rw [show its.toArray.any (eqU x) = its.any (eqU x) by simp,qD r fs]
  exact q
theorem zB:fB X (.builtin "len") (fun xs H Q=>∃ p ys,xs = [.ref p] ∧ (SqL X.K H p ys ∨ SqT X.K H p ys) ∧ Q (.int ys.length) H):=by
 intro pins s σ H xs us Q I r h
 obtain ⟨p,ys,rfl,hq,q⟩:=h
 obtain ⟨u,rfl,rx⟩:=vQ r
 cases rx
 have hn:=uA
 rcases hq with hq | hq
 ·obtain ⟨its,r',pl,hz⟩:=I.list hq
  have hlen:=r'.length
  exact Calls.call_len_list pl.isList (by simp only [List.size_toArray] <;> omega) ⟨.int ys.length,H,I.tok _,⟨s.toks + 1,by rw [List.size_toArray,hlen]⟩,q⟩
 ·obtain ⟨its,r',pl,hz⟩:=I.tuple hq
  have hlen:=r'.length
  exact len_tuple pl (by simp only [List.size_toArray] <;> omega) ⟨.int ys.length,H,I.tok _,⟨s.toks + 1,by rw [List.size_toArray,hlen]⟩,q⟩
theorem zA:fB X (.builtin "len") (fun xs H Q=>∃ z,xs = [.str z] ∧ z.length ≤ sizeLine ∧ Q (.int z.length) H):=by
 intro pins s σ H xs us Q I r h
 obtain ⟨z,rfl,hz,q⟩:=h
 obtain ⟨u,rfl,t,rfl⟩:=vQ r
 have hn:=uA
 exact len_str (by omega) ⟨.int z.length,H,I.tok _,⟨_,rfl⟩,q⟩
theorem yZ:fB X (.type "list") (fun xs H Q=>∃ p ys,xs = [.ref p] ∧ (SqL X.K H p ys ∨ SqT X.K H p ys) ∧ ∀ l,H l = none → Q (.ref l) (upd H l (.lst ys))):=by
 intro pins s σ H xs us Q I r h
 obtain ⟨p,ys,rfl,hq,q⟩:=h
 obtain ⟨u,rfl,rx⟩:=vQ r
 cases rx
 have fin:∀ (its:List Value),bQ ys its → ys.length ≤ sizeLine → ∀ (h':Heap) (c':Nat),(∀ b o',s.heap.get? b = some o' → h'.get? b = some o') →
   h'.get? s.heap.objs.size = some { cls:=.type "list",dict:=none,data:=.seq its.toArray c',slots:=#[] } → EP X pins σ Q (.ref s.heap.objs.size) { s with heap:=h' }:=fun its r' hz h' c' kp e =>
  ⟨.ref s.heap.objs.size,_,I.laid (t':=s.toks) kp (Nat.le_refl _) (show cU X.prog X.w _ h' _ (.lst ys) from ⟨hz,its,c',r',e⟩),rfl,q _ (I.hok.fresh (Nat.le_refl _))⟩
 rcases hq with hq | hq
 ·obtain ⟨its,r',pl,hz⟩:=I.list hq
  have hlen:=r'.length
  obtain ⟨o,ho,hc,n,hd⟩:=pl.isList
  exact call_list_seq p (.inl rfl) ho hc hd (fun h' c' kp e=>fin its r' hz h' c' kp e) (by simp only [List.size_toArray] <;> omega)
 ·obtain ⟨its,r',pl,hz⟩:=I.tuple hq
  have hlen:=r'.length
  obtain ⟨o,ho,hc,n,hd⟩:=pl
  exact call_list_seq p (.inr rfl) ho hc hd (fun h' c' kp e=>fin its r' hz h' c' kp e) (by simp only [List.size_toArray] <;> omega)
theorem vN:fB X (.type "tuple") (fun xs H Q=>∃ p ys,xs = [.ref p] ∧ ((SqL X.K H p ys ∧ ∀ l,H l = none → Q (.ref l) (upd H l (.tup ys))) ∨ (SqT X.K H p ys ∧ Q (.ref p) H))):=by
 intro pins s σ H xs us Q I r h
 obtain ⟨p,ys,rfl,h⟩:=h
 obtain ⟨u,rfl,rx⟩:=vQ r
 cases rx
 rcases h with ⟨hq,q⟩ | ⟨hq,q⟩
 ·obtain ⟨its,r',pl,hz⟩:=I.list hq
  have hlen:=r'.length
  refine call_tuple_list pl.isList (fun h' kp=>?_) (by simp only [List.size_toArray] <;> omega)
  have I1:Inv X pins σ H { s with heap:=h' }:=I.kept (t':=s.toks) kp
  have I2:Inv X pins σ (upd H h'.objs.size (.tup ys)) { s with heap:=h'.push { cls:=.type "tuple",data:=.seq its.toArray } } :=
   I1.laid (t':=s.toks) (fun b o e=>Heap.get?_push_of_some _ e) (Nat.le_refl _) (show cU X.prog X.w _ _ _ (.tup ys) from ⟨hz,its,r',rH.new _ _⟩)
  exact ⟨.ref h'.objs.size,_,I2,rfl,q _ (I1.hok.fresh (Nat.le_refl _))⟩
 ·obtain ⟨its,r',pl,hz⟩:=I.tuple hq
  exact call_tuple_same pl ⟨.ref p,H,I,rfl,q⟩
def tyV (K:PySem.W.Frag) (T:String) (x:V) (H:Hp):Prop:=match x with
 | .str _=>T = "str"
 | .int _=>T = "int"
 | .ref p=>(T = "list" ∧ ∃ xs,SqL K H p xs) ∨ (T = "tuple" ∧ ∃ o,K.lookup p = some o ∧ o.cls = .type "tuple" ∧ o.dict = none) ∨
   (T = "dict" ∧ ((∃ kvs,H p = some (.dK kvs)) ∨ ∃ kvs,H p = some (.dT kvs))) ∨ (T = "set" ∧ ∃ S n,H p = some (.set S n)) ∨ (T = "tuple" ∧ ∃ xs,H p = some (.tup xs))
 | _=>False
theorem aFN {pins:List (Addr × Obj)} {σ:St} {H:Hp} {s:Shared} {T:String} {x:V} {v:Value} (I:Inv X pins σ H s) (r:bK x v) (ty:tyV X.K T x H) :
  s.TypeIs v T ∧ ∀ a,v = .ref a → ∃ ob,s.heap.get? a = some ob ∧ ob.dict = none:=by
 cases x with
 | str z =>
  obtain ⟨t,rfl⟩:=r
  cases (show T = "str" from ty)
  exact ⟨typeIs_str s z t,fun _ e=>nomatch e⟩
 | int i =>
  obtain ⟨t,rfl⟩:=r
  cases (show T = "int" from ty)
  exact ⟨typeIs_int s i t,fun _ e=>nomatch e⟩
 | ref p =>
  cases r
  rcases ty with ⟨rfl,xs,hq⟩ | ⟨rfl,o,hk,hc,hd⟩ | ⟨rfl,hk⟩ | ⟨rfl,S,n,hk⟩ | ⟨rfl,xs,hk⟩
  ·obtain ⟨its,_,pl,_⟩:=I.list hq
   refine ⟨pl.isList.typeIs,fun a e=>?_⟩
   cases e
   obtain ⟨o,n,e,c,hd,_⟩:=pl
   exact ⟨o,e,hd⟩
  ·refine ⟨⟨o,I.kIn p o hk,hc⟩,fun a e=>?_⟩
   cases e
   exact ⟨o,I.kIn _ o hk,hd⟩
  ·have z:∃ o,s.heap.get? p = some o ∧ o.ExactDict:=by
    rcases hk with ⟨kvs,hk⟩ | ⟨kvs,hk⟩
    ·obtain ⟨_,_,_,_,o,_,_,e,ex,_⟩:=I.hok p _ hk
     exact ⟨o,e,ex⟩
    ·obtain ⟨_,_,_,_,o,_,_,e,ex,_⟩:=I.hok p _ hk
     exact ⟨o,e,ex⟩
   obtain ⟨o,e,ex⟩:=z
   refine ⟨⟨o,e,ex.1⟩,fun a e2=>?_⟩
   cases e2
   exact ⟨o,e,ex.2.1⟩
  ·obtain ⟨o,_,_,_,e,ex,_⟩:=I.hok p _ hk
   refine ⟨⟨o,e,ex.1⟩,fun a e2=>?_⟩
   cases e2
   exact ⟨o,e,ex.2.1⟩
  ·obtain ⟨_,_,_,o,e,hc,_,_,hd⟩:=(show cU X.prog X.w H s.heap p (.tup xs) from I.hok p _ hk)
   refine ⟨⟨o,e,hc⟩,fun a e2=>?_⟩
   cases e2
   exact ⟨o,e,hd⟩
 | _=>exact False.elim ty
def aOV (K:PySem.W.Frag) (T:String) (r:V → List V → Hp → VK → Prop) (to:TE):TE:=fun σ H Q=>to σ H fun x H1=>tyV K T x H1 ∧ r x [] H1 Q
def tBM (K:PySem.W.Frag) (T:String) (r:V → List V → Hp → VK → Prop) (to:TE) (t:TA):TE:=fun σ H Q=>to σ H fun x H1=>tyV K T x H1 ∧ t σ H1 fun xs H2=>r x xs H2 Q
variable {o e:Expr} {es:List Expr} {to:TE} {t:TA} {name:Str} {apos cpos:Pos} {T id:String} {r:V → List V → Hp → VK → Prop}
theorem aHA (pa:PlainAttrs T) (slot:Slot T name id) (hty:typeOf (.builtin id) = pure (.type "method_descriptor")) (hm:MtR X id r) (ho:PE X o to)
  (hbase:attributeBase o name X.env (eval o X.env) = eval o X.env:=by rfl) (hline:(apos.endLine == cpos.line) = true:=by rfl):PE X (.Call (.Attribute o name apos) [] [] cpos) (aOV X.K T r to):=by
 intro pins s σ H Q I h
 refine wpAny_Call_method0_late hbase hline (thn (ho pins s σ H _ I h) fun v s1 ⟨x,H1,I1,r1,ty,q1⟩=>?_)
 obtain ⟨h1,h2⟩:=aFN I1 r1 ty
 exact ⟨T,id,pa,slot,hty,h1,h2,Calls.callWith_builtin rfl (PySem.evalArgs_none (hm pins s1 σ H1 x [] v [] Q I1 r1 .nil q1))⟩
theorem pS (pa:PlainAttrs T) (slot:Slot T name id) (hty:typeOf (.builtin id) = pure (.type "method_descriptor")) (hm:MtR X id r) (ho:PE X o to) (ha:PA X (e :: es) t)
  (hbase:attributeBase o name X.env (eval o X.env) = eval o X.env:=by rfl)
  (hfew:((backTo cpos (starEach (e :: es) X.env)).all (fun x=>!x.1) && (backToKw cpos (keywordEach [] X.env)).all (fun x=>x.1.isSome)
   && decide ((e :: es).length + ([]:List Keyword).length + (if ([]:List Keyword).isEmpty then 0 else 1) < 30)) = true:=by rfl)
  (hline:(apos.endLine == cpos.line) = true:=by rfl) (hs:starEach (e :: es) X.env = (false,eval e X.env) :: starEach es X.env:=by rfl) (hplain:(backTo cpos (starEach es X.env)).any (·.1) = false:=by rfl) :
  PE X (.Call (.Attribute o name apos) (e :: es) [] cpos) (tBM X.K T r to t):=by
 intro pins s σ H Q I h
 refine wpAny_Call_method_late hbase hfew hline rfl (thn (ho pins s σ H _ I h) fun v s1 ⟨x,H1,I1,r1,ty,q1⟩=>?_)
 obtain ⟨h1,h2⟩:=aFN I1 r1 ty
 refine ⟨T,id,pa,slot,hty,h1,h2,?_⟩
 have hA:=ha cpos pins s1 σ H1 _ I1 q1
 rw [hs] at hA ⊢
 refine Calls.callWith_builtin (by show (false || (backTo cpos (starEach es X.env)).any (·.1)) = false;rw [hplain] <;> rfl) (Calls.evalArgs_plain ?_)
 exact thn hA fun us s2 ⟨vs,H2,I2,r2,q2⟩=>hm pins s2 σ H2 x vs v us Q I2 r1 r2 q2
end
end L2
namespace L2
open PySem PySem.Spec PyProof.Rows
def MtM (X:Cx) (id:String) (r:V → List V → Hp → VK → Prop):Prop :=
 ∀ (pins:List (Addr × Obj)) (s:Shared) (σ:St) (H:Hp) (x:V) (xs:List V) (v:Value) (us:List Value) (Q:VK),Inv X pins σ H s → bK x v → bQ xs us → r x xs H Q →
  wpAny (model X.prog X.w) X.A (call (.builtin id) (v :: us)) (EP X pins σ Q) X.xe s
theorem bQ.one:∀ {x:V} {us:List Value},bQ [x] us → ∃ u,us = [u] ∧ bK x u
 | _,_,.cons r .nil=>⟨_,rfl,r⟩
theorem bQ.two:∀ {x y:V} {us:List Value},bQ [x,y] us → ∃ u v,us = [u,v] ∧ bK x u ∧ bK y v
 | _,_,_,.cons r (.cons q .nil)=>⟨_,_,rfl,r,q⟩
theorem bQ.zero:∀ {us:List Value},bQ [] us → us = []
 | _,.nil=>rfl
section
variable {X:Cx} {pins:List (Addr × Obj)} {σ:St} {H:Hp} {s:Shared} {l b:Addr} {xs ys zs:List V}
theorem Inv.lset {its its':List Value} {n:Nat} {f:Array Value → Array Value} {t':Nat} (I:Inv X pins σ H s) (hH:H l = some (.lst xs))
  (e:s.heap.get? l = some { cls:=.type "list",data:=.seq its.toArray n }) (hf:f its.toArray = its'.toArray) (hv:bQ ys its') (hz:ys.length ≤ sizeLine) :
  Inv X pins σ (upd H l (.lst ys)) { s with heap:=s.heap.update l (Obj.mapSeq f),toks:=t' }:=by
 have q:=PySem.IsL.update e f
 rw [hf] at q
 refine I.write (x:=l) (e:=l) (by rw [hH];exact trivial) (.inl rfl) (fun b' u hb hu=>(Heap.get?_update_other s.heap (Obj.mapSeq f) (Ne.symm hb)).trans hu) ⟨_,q⟩ ?_
 exact ⟨hz,its',_,hv,q⟩
theorem Inv.lnew {its:List Value} {t':Nat} (I:Inv X pins σ H s) (hv:bQ ys its) (hz:ys.length ≤ sizeLine) :
  Inv X pins σ (upd H s.heap.objs.size (.lst ys)) { s with heap:=s.heap.push { cls:=.type "list",data:=.seq its.toArray },toks:=t' } :=
 I.laid (fun _ _ q=>Heap.get?_push_of_some _ q) (Nat.le_refl _) ⟨hz,its,0,hv,Heap.get?_push_size _ rfl⟩
theorem Inv.fresh (I:Inv X pins σ H s):H s.heap.objs.size = none:=I.hok.fresh (Nat.le_refl _)
theorem Inv.lstM (I:Inv X pins σ H s) (hH:H l = some (.lst xs)):xs.length ≤ sizeLine ∧ ∃ (its:List Value) (n:Nat),bQ xs its ∧ xs.length = its.length ∧ s.heap.get? l = some { cls:=.type "list",data:=.seq its.toArray n }:=by
 obtain ⟨z,its,n,r,e⟩:=I.hok l _ hH
 exact ⟨z,its,n,r,r.length,e⟩
end
section
variable {X:Cx}
def aJN:V → List V → Hp → VK → Prop:=fun x vs H Q=>∃ l xs y,x = .ref l ∧ vs = [y] ∧ H l = some (.lst xs) ∧ xs.length < sizeLine ∧ Q .non (upd H l (.lst (xs ++ [y])))
theorem eZ:MtM X "list.append" aJN:=by
 intro pins s σ H x vs v us Q I rx rv h
 obtain ⟨l,xs,y,rfl,rfl,hH,hz,q⟩:=h
 cases rx
 obtain ⟨u,rfl,ru⟩:=rv.one
 obtain ⟨z,its,n,r,hl,e⟩:=I.lstM hH
 refine call_meets F.slot_list_append ⟨_,e,rfl⟩ F.entry_list_append (F.args_list_append_2 _ _) (PySem.list_append l its.toArray n u (by rw [List.size_toArray];omega)) ⟨e,?_⟩
 refine ⟨.non,_,I.lset (its':=its ++ [u]) hH e (by simp) (r.append (.cons ru .nil)) ?_,rfl,q⟩
 rw [List.length_append,List.length_singleton]
 omega
def aLQ:R2:=fun x y H Q=>∃ l b xs zs,x = .ref l ∧ y = .ref b ∧ H l = some (.lst xs) ∧ H b = some (.lst zs) ∧ xs.length + zs.length ≤ sizeLine ∧ ∀ p,H p = none → Q (.ref p) (upd H p (.lst (xs ++ zs)))
theorem eR:OpR X (binaryOp .Add) aLQ:=by
 intro pins s σ H x y v u Q I rx ry h
 obtain ⟨l,b,xs,zs,rfl,rfl,hH,hB,hz,q⟩:=h
 cases rx
 cases ry
 obtain ⟨z,its,n,r,hl,e⟩:=I.lstM hH
 obtain ⟨z2,its2,n2,r2,hl2,e2⟩:=I.lstM hB
 refine PySem.P.add_list e e2 ?_ (by rw [List.size_toArray,List.size_toArray];omega)
 have ea:its.toArray ++ its2.toArray = (its ++ its2).toArray:=by simp
 rw [ea]
 exact ⟨.ref _,_,I.lnew (t':=s.toks) (r.append r2) (by rw [List.length_append];omega),rfl,q _ I.fresh⟩
end
section
variable {prog:Program} {w:World} {A:Around} {E:Value → Shared → Prop} {s:Shared}
end
section
variable {X:Cx}
end
end L2
namespace Att
open PySem PySem.W PySem.Calls PyProof.Rows
theorem sD {P:Params} {h:Heap}:∀ (ns:List Int) (vs:List Value),WellAll P h vs (ns.map WData.int) → IntsAre vs ns:=by
 intro ns
 induction ns with
 | nil =>
  intro vs w
  rw [List.map_nil] at w
  cases w
  exact .nil
 | cons n ns ih =>
  intro vs w
  rw [List.map_cons] at w
  cases w with
  | cons a b =>
   cases a
   exact .cons _ _ (ih _ b)
theorem aEF {l:OpenLaw} {n:Nat} (hn:l.most = some n) {P:Params} {h:Heap} {args:List WData} {vals:List Value}
  (hpre:l.row.toRowW.claim.pre args = true) (hwl:WellAll P h vals args) :
  ∃ a vs ns,vals = [Value.ref a] ∧ args = [WData.list (ns.map WData.int)] ∧ h.get? a = some { cls:=.type "list",data:=.seq vs.toArray } ∧ IntsAre vs ns ∧ ns.length ≤ n:=by
 have hsh:WShape.hasAll [] args [.list .int] = true:=(pre_splitW hpre).1
 have hc:l.pre.holds [] { args:=args } = true:=(pre_splitW hpre).2
 obtain ⟨d,r,rfl,h1,h2⟩:=hasAllW_cons hsh
 obtain rfl:=hasAllW_nil h2
 obtain ⟨xs,rfl,h3⟩:=hasW_list h1
 obtain ⟨ns,rfl⟩:=items_int h3
 have hlen:ns.length ≤ n:=by
  unfold OpenLaw.pre at hc
  have h4:(WTm.not (.lt (.lit (.int (n:Int))) (.len (.arg 0)))).holds [] { args:=[.list (ns.map .int)] } = true:=by
   have h4:=(holds_andW hc).1
   rw [hn] at h4
   exact h4
  have h5:=condW_of h4 (w_not (w_lt w_lit (w_len_list (w_arg rfl))))
  rw [List.length_map] at h5
  refine Nat.le_of_not_lt fun q=>?_
  have q':(n:Int) < ((ns.length:Nat):Int):=by omega
  first
   | (rw [decide_eq_true q'] at h5;exact absurd h5 (by decide))
   | (simp at h5;omega)
 cases hwl with
 | cons w1 w2 =>
  cases w2
  cases w1 with
  | list ho hall=>exact ⟨_,_,ns,rfl,rfl,ho,sD ns _ hall,hlen⟩
theorem aEI (l:OpenLaw) (args:List WData):l.row.toRowW.claim.post args (.bool true) args = true :=
 postW_of (r:=l.row.toRowW) (X:=(true == true))
  (show WShape.has [] (.bool true) .bool = true by first | rfl | decide | simp [WShape.has,WShape.arms,WShape.armsAll])
  (show (WTm.eq .res (.lit (.bool true))).value [] { args:=args,res:=some (.bool true),after:=args } = some (.bool (true == true)) from w_eq_bool (w_res rfl) w_lit) rfl
theorem attach_call {l:OpenLaw} {n:Nat} {q:Program} {loose:List Str} {XP:(Str → Option Value) → Heap → Prop} {YP:World → Heap → Prop} {d:DefRec}
  (hn:l.most = some n) (hdf:d.params.defaults = [])
  (call:∀ (w:World) (s₀ s₁:Shared) (mg mb:Str → Option Value) (fa:Addr) (o:Obj) (pm cd doc:Value) (a:Addr) (vs:List Value) (ns:List Int),
   Ground q loose [] XP w s₀ mg mb s₁.heap → YP w s₁.heap →
   s₁.heap.get? fa = some o → o.data = .func (docDef d.name d.params d.body d.scope pm cd doc) → s₁.heap.CodeRec cd d.name → mg d.name = some (.ref fa) →
   s₁.heap.get? a = some { cls:=.type "list",data:=.seq vs.toArray } → IntsAre vs ns → ns.length ≤ n → s₁.gens = #[] →
   codeAny (model l.prog w) callerA (.call (.ref fa) ⟨[.ref a],[]⟩) (fun r s'=>r = .ok (.ret (.bool true)) ∧ OldK s₁.heap s'.heap ∧ s'.os = s₁.os ∧ AllBare s'.gens) s₁) :
  WalkO q loose XP YP l.row.toRowW d [] (fun f vs=>PySem.call f vs):=by
 intro w s₀ s₁ mg mb G Y fa o pm cd doc dV kV ho hd hcd hD hmg hg args vals as hpre hlay hrd hwl hlo
 obtain rfl:dV = .none:=Dflts.none hD hdf
 obtain rfl:kV = .none:=Dflts.noKw hD
 obtain ⟨a,vs,ns,rfl,rfl,hobj,hints,hlen⟩:=aEF hn hpre hwl
 refine enter_call (codeAny_mono (call w s₀ s₁ mg mb fa o pm cd doc a vs ns G Y ho (fd_plain hd) hcd hmg hobj hints hlen hg) fun r s' hq=>?_)
 obtain ⟨rfl,h2,h3,h4⟩:=hq
 exact ⟨.inl ⟨.bool true,.bool true,[],rfl,fun _=>rfl,.bool true,aEI l _,fun _=>⟨List.Pairwise.nil,fun _ hm=>(nomatch hm)⟩⟩,h2,h3,h4⟩
section
variable {prog:Program} {w:World} {A:Around} {E:Value → Shared → Prop} {s:Shared} {K:Frag}
def noObjs (h:Heap):Heap:={ h with objs:=#[] }
def ledger (h:Heap) (L d:Addr):List (Addr × Obj):=(List.range h.objs.size).filterMap fun a=>if a = L ∨ a = d then none else (h.get? a).map fun o=>(a,o)
end
end Att
namespace L2
open PySem PySem.Spec PyProof.Rows
theorem vO:∀ {vs:List Value} {ns:List Int},IntsAre vs ns → bQ (ns.map V.int) vs
 | _,_,.nil=>.nil
 | _,_,.cons n t h=>.cons ⟨t,rfl⟩ (vO h)
def aMU (H:Hp):Prop:=∀ b,H b = none ∨ ∃ o xs,H b = some (.frz o (.lst xs))
theorem aHO {P:Program} {w:World} {K:PySem.W.Frag} {mg mb:Str → Option Value} {CX:CXT} {k:Nat} {fa a:Addr} {fd:FuncData} {x:Str} {sp:Sp} {s₁:Shared} {vs:List Value} {ns:List Int}
  (KX:K.In s₁.heap) (hns:s₁.heap.Ns mainGlobals mg) (hb:s₁.heap.Ns builtinsNs mb) (hbb:∀ x:Str,x ≠ "__name__" → mb x = bootBuiltins x) (hlim:s₁.heap.NoLimit) (hg:s₁.gens = #[])
  (ha:s₁.heap.get? a = some { cls:=.type "list",data:=.seq vs.toArray }) (hi:IntsAre vs ns) (hl:ns.length ≤ sizeLine) (hr:Room k callerA)
  (F:∀ base:Heap,K.In base → base.Ns mainGlobals mg → FnOk P w K mg base CX k fa fd [x] sp) (hbind:∀ (s:Shared) (u:Value),BindsTo s fd ⟨[u],[]⟩ [(x,u)])
  (hsp:∀ H:Hp,aMU H → SqL K H a (ns.map V.int) → sp [.ref a] H (fun v _=>v = .bl true) fun _ _ _=>False)
  (hCX:∀ H e s',CX [] H s₁ (fun _ _ _=>False) e s' → False) :
  codeAny (model P w) callerA (.call (.ref fa) ⟨[.ref a],[]⟩) (fun r s'=>r = .ok (.ret (.bool true)) ∧ OldK s₁.heap s'.heap ∧ s'.os = s₁.os ∧ AllBare s'.gens) s₁:=by
 have rv:=vO hi
 have lenV:=hi.length
 have core:∀ H:Hp,aMU H → SqL K H a (ns.map V.int) → HOk P w H s₁.heap → (∀ b,H b ≠ none → b = a) → (H a ≠ none → K.lookup a = none) →
   codeAny (model P w) callerA (.call (.ref fa) ⟨[.ref a],[]⟩) (fun r s'=>r = .ok (.ret (.bool true)) ∧ OldK s₁.heap s'.heap ∧ s'.os = s₁.os ∧ AllBare s'.gens) s₁:=by
  intro H hO hS hok hA hK
  have base_of:∀ {b:Addr} {o:Obj},s₁.heap.get? b = some o → H b = none → (yP s₁.heap H).get? b = some o:=fun e n=>aHW e n
  have noA:∀ {b:Addr} {o:Obj} {es:Array DictEntry} {ep:Nat},s₁.heap.get? b = some o → o.data = .dict es ep → H b = none:=fun {b o es ep} e d=>by
   cases q:H b with
   | none=>rfl
   | some u =>
    have e':b = a:=hA b (by rw [q];simp)
    subst e'
    rw [ha] at e;cases e
    have d':Data.seq vs.toArray _ = Data.dict es ep:=d
    cases d'
  have nsK:∀ {b:Addr} {m:Str → Option Value},s₁.heap.Ns b m → (yP s₁.heap H).Ns b m:=fun {b m} ⟨o,es,ep,e,d,r⟩=>⟨o,es,ep,base_of e (noA e d),d,r⟩
  have hKb:K.In (yP s₁.heap H):=fun b o e=>base_of (KX b o e) (by
   cases q:H b with
   | none=>rfl
   | some u =>
    have e':b = a:=hA b (by rw [q];simp)
    subst e'
    rw [hK (by rw [q];simp)] at e;cases e)
  have hM:Mod K mg (yP s₁.heap H):=⟨hKb,nsK hns,⟨mb,nsK hb,hbb⟩,let ⟨mc,h1,h2⟩:=hlim;⟨mc,nsK h1,h2⟩⟩
  have e0:Env0 P w K mg (yP s₁.heap H) callerA [] s₁ H:=⟨rfl,hM,fun b o e=>aJW e,Nat.le_of_eq (aEX _ _),trivial,fun b hb=>absurd (show b ∈ ([]:List Addr) from hb) (by simp),hok,.of_eq hg⟩
  refine codeAny_mono ((F _ hKb (nsK hns)).run callerA [] s₁ H ⟨[.ref a],[]⟩ [.ref a] [.ref a] _ _ hr e0 (hbind s₁ (.ref a)) (.cons rfl .nil) (hsp H hO hS)) fun r s' h=>?_
  cases r with
  | error e=>exact (hCX H e s' h).elim
  | ok fl =>
   cases fl with
   | next=>exact False.elim h
   | brk=>exact False.elim h
   | cont=>exact False.elim h
   | ret u =>
    obtain ⟨v,H',os,bare,un,hok',r',q⟩:=h
    have q':v = .bl true:=q
    subst q'
    obtain rfl:u = Value.bool true:=r'
    refine ⟨rfl,OldK.of_keep fun b o e=>?_,os,bare⟩
    cases q:H b with
    | none=>exact un.keep b o e q (by intro z;exact absurd (show b ∈ ([]:List Addr) from z) (by simp)) (by simp)
    | some u =>
     rcases hO b with z | ⟨ob,xs,z⟩
     ·rw [q] at z;cases z
     ·have z2:=un.frzs b ob _ z
      obtain ⟨e1,_⟩:=hok b _ z
      obtain ⟨e2,_⟩:=hok' b _ z2
      rw [e] at e1;cases e1
      exact e2
 cases hk:K.lookup a with
 | some o =>
  have e:=KX a o hk
  rw [ha] at e
  cases e
  refine core (fun _=>none) (fun _=>.inl rfl) (.inr ⟨_,vs.toArray,_,hk,rfl,rfl,rfl,by rw [List.size_toArray,lenV];exact hl,by simpa using rv⟩) (fun b u z=>by have z':(none:Option HO) = some u:=z;cases z') (fun b z=>absurd rfl z) fun z=>absurd rfl z
 | none =>
  refine core (fun b=>if b = a then some (.frz { cls:=.type "list",data:=.seq vs.toArray } (.lst (ns.map V.int))) else none) (fun b=>?_) (.inl (.inr ⟨{ cls:=.type "list",data:=.seq vs.toArray },if_pos rfl⟩)) (fun b u z=>?_) (fun b z=>?_) fun _=>hk
  ·by_cases hb:b = a
   ·exact .inr ⟨_,_,if_pos hb⟩
   ·exact .inl (if_neg hb)
  ·by_cases hb:b = a
   ·have z':=(if_pos hb).symm.trans z
    cases z'
    subst hb
    exact ⟨ha,by rw [List.length_map];exact hl,vs,_,rv,ha⟩
   ·have z':=(if_neg hb).symm.trans z
    cases z'
  ·by_cases hb:b = a
   ·exact hb
   ·exact absurd (if_neg hb) z
end L2
namespace L2
open PySem PySem.Spec PyProof.Rows
theorem walk_of {l:PySem.W.OpenLaw} {n k:Nat} {q:Program} {loose:List Str} {XP:(Str → Option Value) → Heap → Prop} {YP:World → Heap → Prop} {d:DefRec} {K:Params → PySem.W.Frag} {CX:World → CXT} {sp:World → Sp} {x:Str}
  (hn:l.most = some n) (hn2:n ≤ sizeLine) (hdf:d.params.defaults = []) (hr:Room k callerA)
  (hY:∀ (w:World) (h:Heap),YP w h → (K w.params).In h)
  (F:∀ (w:World) (mg:Str → Option Value) (fa:Addr) (h:Heap),(K w.params).In h → h.Ns mainGlobals mg → mg d.name = some (.ref fa) →
   ∃ fd:FuncData,(∀ (s:Shared) (u:Value),BindsTo s fd ⟨[u],[]⟩ [(x,u)]) ∧
    ∀ base:Heap,(K w.params).In base → base.Ns mainGlobals mg → FnOk l.prog w (K w.params) mg base (CX w) k fa fd [x] (sp w))
  (hsp:∀ (w:World) (H:Hp) (a:Addr) (ns:List Int),ns.length ≤ n → aMU H → SqL (K w.params) H a (ns.map V.int) → sp w [.ref a] H (fun v _=>v = .bl true) fun _ _ _=>False)
  (hCX:∀ (w:World) (H:Hp) (s:Shared) (e:Value) (s':Shared),CX w [] H s (fun _ _ _=>False) e s' → False) :
  PySem.W.WalkO q loose XP YP l.row.toRowW d [] (fun f vs=>PySem.call f vs):=by
 refine Att.attach_call hn hdf fun w s₀ s₁ mg mb fa o pm cd doc a vs ns G Y ho hd hcd hmg hobj hints hlen hg=>?_
 have KX:=hY w _ Y
 obtain ⟨fd,hb,hF⟩:=F w mg fa _ KX G.T.g hmg
 exact aHO KX G.T.g G.T.b G.T.builtins G.T.nolimit hg hobj hints (Nat.le_trans hlen hn2) hr hF hb (fun H hO hS=>hsp w H a ns hlen hO hS) fun H e s'=>hCX w H s₁ e s'
end L2
namespace L2
open PySem PySem.Spec PyProof.Rows
def hZ (s:Stmt) (j:Nat):Stmt:=match s with
 | .ClassDef _ _ _ body _ _ _ _ _ _ _=>body.getD j (.Pass ⟨0,0,0,0⟩)
 | _=>.Pass ⟨0,0,0,0⟩
def aP (s:Stmt):Arguments:=match s with
 | .FunctionDef _ a _ _ _ _ _ _ _ _=>a
 | _=>{ posonlyargs:=[],args:=[],vararg:=none,kwonlyargs:=[],kw_defaults:=[],kwarg:=none,defaults:=[] }
def aN (s:Stmt):List Stmt:=match s with
 | .FunctionDef _ _ b _ _ _ _ _ _ _=>b
 | _=>[]
def aF (s:Stmt):Scope:=match s with
 | .FunctionDef _ _ _ _ _ _ sc _ _ _=>sc
 | _=>{ kind:=.function,names:=[],isGenerator:=false,isCoroutine:=false }
abbrev CX0:CXT:=fun _ _ _ _ _ _=>False
abbrev E0:XK:=fun _ _ _=>False
theorem aDL {X:Cx}:pJ CX0 X E0:=fun _ _ _ _ _ _ _ h=>h.elim
structure Fun (K:PySem.W.Frag) (x qual:Str) (st:Stmt) (f:Addr) (fd:FuncData):Prop where
 ex:∃ (oc:Value) (od:Option Addr) (kV doc pm:Value) (an:Option Addr) (cdv ct:Value) (osl:Array (Option Value)),
  fd = PySem.W.fnOf x qual (aP st) (aN st) (aF st) .none kV doc pm an cdv ct ∧ K.lookup f = some ⟨oc,od,.func fd,osl⟩ ∧ PySem.W.codeIn K cdv qual = true
 kp:PySem.W.keepIn K (.ref f) = true
section
variable {P:Program} {w:World} {K:PySem.W.Frag} {mg:Str → Option Value} {base:Heap}
theorem Fun.ok {x qual:Str} {st:Stmt} {f:Addr} {fd:FuncData} {N ps:List Str} {k:Nat} {sp:Sp} (F:Fun K x qual st f fd) (S:FnScope N ps (aF st)) (len:∀ vs H Q E,sp vs H Q E → vs.length = ps.length)
  (hbody:∀ (cdv:Value) (A:Around) (outer:List Env) (s:Shared) (H:Hp) (vs:List V) (Q:VK) (E:XK),Room k (A.deeper (envOfC qual (aF st) s.heap.objs.size f cdv)) → sp vs H Q E →
   ∃ t,PSs (uO CX0 P w K mg base N qual (aF st) f cdv A outer s H E).nox (aN st) t ∧ t { nx:=fun _ H'=>Q .non H',rt:=Q } (kE N vs) H):FnOk P w K mg base CX0 (k + 1) f fd ps sp:=by
 obtain ⟨oc,od,kV,doc,pm,an,cdv,ct,osl,rfl,lk,hcd⟩:=F.ex
 refine aOH lk hcd S len fun A outer s H vs Q E hr hsp=>?_
 obtain ⟨t,h,q⟩:=hbody cdv A outer s H vs Q E hr hsp
 exact ⟨t,h.nox,q⟩
theorem Fun.binds {x qual:Str} {st:Stmt} {f:Addr} {fd:FuncData} {ps:List Str} (F:Fun K x qual st f fd)
  (h:∀ (kV doc pm:Value) (an:Option Addr) (cdv ct:Value) (us:List Value),us.length = ps.length → bindArgs (PySem.W.fnOf x qual (aP st) (aN st) (aF st) .none kV doc pm an cdv ct) ⟨us,[]⟩ = pure (ps.zip us)):gX K fd ps []:=by
 obtain ⟨oc,od,kV,doc,pm,an,cdv,ct,osl,rfl,lk,hcd⟩:=F.ex
 exact .all (h kV doc pm an cdv ct)
theorem qY {x qual:Str} {st:Stmt} {f:Addr} {oc:Value} {od an:Option Addr} {osl:Array (Option Value)} {kV doc pm cdv ct:Value} (l:K.lookup f = some ⟨oc,od,.func (PySem.W.fnOf x qual (aP st) (aN st) (aF st) .none kV doc pm an cdv ct),osl⟩)
  (c:PySem.W.codeIn K cdv qual = true) (k:PySem.W.keepIn K (.ref f) = true):Fun K x qual st f (PySem.W.fnOf x qual (aP st) (aN st) (aF st) .none kV doc pm an cdv ct):=⟨⟨oc,od,kV,doc,pm,an,cdv,ct,osl,rfl,l,c⟩,k⟩
end
theorem gR {A:Around} {k:Nat} (hr:Room k A):A.units + 1 < cLine:=Nat.lt_of_le_of_lt (Nat.add_le_add_left (by decide:1 ≤ 64) _) hr.units
section
variable {X:Cx}
theorem pv (i:Nat) {x:Str} {pos:Pos} (hN:X.N[i]? = some x:=by rfl) (hv:Vis X.env.scope x:=by first | exact Or.inl rfl | exact Or.inr (Or.inl rfl) | exact Or.inr (Or.inr rfl)) (hd:(x == ("__debug__":Str)) = false:=by decide)
  (hcd:(x == ("__classdict__":Str)) = false:=by decide):PE X (.Name x pos) (xC i):=aLT hN hv hd hcd
end
theorem bR {A B:Prop} (h:B):if false = true then A else B:=by
 rw [if_neg Bool.false_ne_true]
 exact h
theorem cP {A B:Prop} (h:A):if true = true then A else B:=by
 rw [if_pos rfl]
 exact h
theorem dZ {c A B:Prop} [Decidable c] (h1:c → A) (h2:¬ c → B):if c then A else B:=by
 by_cases h:c
 ·rw [if_pos h]
  exact h1 h
 ·rw [if_neg h]
  exact h2 h
def aK (H H':Hp):Prop:=∀ b o,H b = some o → H' b = some o
theorem aK.refl (H:Hp):aK H H:=fun _ _ h=>h
theorem aK.trans {H H1 H2:Hp} (a:aK H H1) (b:aK H1 H2):aK H H2:=fun c o h=>b c o (a c o h)
theorem aK.free {H H':Hp} (e:aK H H') {l:Addr} (h:H' l = Option.none):H l = Option.none:=by
 cases q:H l with
 | none=>rfl
 | some o =>
  rw [e l o q] at h
  cases h
theorem aK.seq {K:PySem.W.Frag} {H H':Hp} {a:Addr} {xs:List V} (e:aK H H') (h:SqL K H a xs):SqL K H' a xs:=by
 rcases h with (h | ⟨o,h⟩) | h
 ·exact .inl (.inl (e _ _ h))
 ·exact .inl (.inr ⟨o,e _ _ h⟩)
 ·exact .inr h
end L2
namespace L2
open PySem PySem.Spec PyProof.Rows
section
variable {X:Cx}
end
section
variable {κ:Type} [DecidableEq κ]
end
end L2
namespace Tx
open PySem PySem.Builtin PySem.Builtin.Str
def cl (n d:Nat):Option Int → Nat
 | none=>d
 | some i=>(max 0 (min (if i < 0 then i + n else i) n)).toNat
theorem app_codes (a b:Str):(a ++ b).cps.toList = a.cps.toList ++ b.cps.toList:=by
 simp [Str.cps_append]
end Tx
set_option maxHeartbeats 4000000
namespace L2
open PySem PySem.Spec PyProof.Rows
theorem nL {env:Env} {f:(Str × NameKind) → List (Str × Addr) → Sem (ForInStep (List (Str × Addr)))}
  (hf:∀ n k cs,f (n,k) cs = if (k == NameKind.free) = true then (cellOf env n >>= fun c=>pure (ForInStep.yield ((n,c) :: cs))) else pure (ForInStep.yield cs)) :
  ∀ (names:List (Str × NameKind)) (acc:List (Str × Addr)),
  (∀ y ∈ names,y.2 = .free → ∃ c,env.cells.lookup y.1 = some c) →
  (∀ x c,acc.lookup x = some c → env.cells.lookup x = some c) →
  ∃ cl,forIn names acc f = (pure cl:Sem _) ∧ (∀ x c,cl.lookup x = some c → env.cells.lookup x = some c) ∧ (∀ x c,acc.lookup x = some c → ∃ d,cl.lookup x = some d) ∧
   ∀ x,(x,NameKind.free) ∈ names → ∃ c,cl.lookup x = some c
 | [],acc,_,ha=>⟨acc,rfl,ha,fun x c e=>⟨c,e⟩,fun x m=>absurd m (by simp)⟩
 | (n,k) :: r,acc,hn,ha=>by
  have hr:∀ y ∈ r,y.2 = .free → ∃ c,env.cells.lookup y.1 = some c:=fun y hy=>hn y (List.mem_cons_of_mem _ hy)
  by_cases hk:k = .free
  ·subst hk
   obtain ⟨c,hc⟩:=hn (n,.free) List.mem_cons_self rfl
   have hcell:cellOf env n = pure c:=by
    have hc':env.cells.lookup n = some c:=hc
    unfold cellOf
    rw [hc']
   have ha':∀ x d,List.lookup x ((n,c) :: acc) = some d → env.cells.lookup x = some d:=fun x d e=>by
    by_cases hx:(x == n) = true
    ·rw [List.lookup_cons,hx] at e
     obtain rfl:=beq_iff_eq.mp hx
     cases e
     exact hc
    ·have hx':(x == n) = false:=by simpa using hx
     rw [List.lookup_cons,hx'] at e
     exact ha x d e
   obtain ⟨cl,e1,e2,e3,e4⟩:=nL hf r ((n,c) :: acc) hr ha'
   refine ⟨cl,?_,e2,fun x d e=>?_,fun x m=>?_⟩
   ·rw [List.forIn_cons,hf,if_pos (beq_self_eq_true _),hcell,pure_bind,pure_bind]
    exact e1
   ·by_cases hx:(x == n) = true
    ·exact e3 x c (by rw [List.lookup_cons,hx])
    ·have hx':(x == n) = false:=by simpa using hx
     exact e3 x d (by rw [List.lookup_cons,hx'];exact e)
   ·rcases List.mem_cons.mp m with q | q
    ·have q':x = n:=congrArg Prod.fst q
     subst q'
     exact e3 x c (by rw [List.lookup_cons,beq_self_eq_true])
    ·exact e4 x q
  ·have hk':(k == NameKind.free) = false:=by simpa using hk
   obtain ⟨cl,e1,e2,e3,e4⟩:=nL hf r acc hr ha
   refine ⟨cl,?_,e2,e3,fun x m=>?_⟩
   ·rw [List.forIn_cons,hf,hk',if_neg Bool.false_ne_true,pure_bind]
    exact e1
   ·rcases List.mem_cons.mp m with q | q
    ·exact absurd (congrArg Prod.snd q).symm hk
    ·exact e4 x q
theorem uS {scope:Scope} {env:Env} (h:∀ y ∈ scope.names,y.2 = .free → ∃ c,env.cells.lookup y.1 = some c) :
  ∃ cl,closureFor scope env = pure cl ∧ (∀ x c,cl.lookup x = some c → env.cells.lookup x = some c) ∧ ∀ x,(x,NameKind.free) ∈ scope.names → ∃ c,cl.lookup x = some c:=by
 obtain ⟨cl,e1,e2,_,e4⟩:=nL (env:=env) (f:=fun (x:Str × NameKind) cs=>match x with | (name,kind)=>if (kind == NameKind.free) = true then (cellOf env name >>= fun c=>pure (ForInStep.yield ((name,c) :: cs))) else pure (ForInStep.yield cs)) (fun n k cs=>rfl) scope.names [] h (fun x c e=>by cases e)
 refine ⟨cl,?_,e2,e4⟩
 have:closureFor scope env = (forIn scope.names [] (fun (x:Str × NameKind) cs=>match x with | (name,kind)=>if (kind == NameKind.free) = true then (cellOf env name >>= fun c=>pure (ForInStep.yield ((name,c) :: cs))) else pure (ForInStep.yield cs)) >>= fun cs=>pure cs):=by
  first | rfl | (unfold closureFor;rfl) | (unfold closureFor;simp only [pure_bind,bind_pure])
 rw [this,e1,pure_bind]
theorem iS {env:Env}:∀ {names:List (Str × NameKind)} {x:Str},names.lookup x = some .free →
  (names.map fun (n,k)=>if (k == NameKind.free && env.scope.kind == .function && env.kindOf n == some .cell) then (n,NameKind.cell) else (n,k)).lookup x = some .cell ∨
  (names.map fun (n,k)=>if (k == NameKind.free && env.scope.kind == .function && env.kindOf n == some .cell) then (n,NameKind.cell) else (n,k)).lookup x = some .free
 | [],_,h=>by simp at h
 | (n,k) :: r,x,h=>by
  have ih:=@iS env r x
  show List.lookup x ((if (k == NameKind.free && env.scope.kind == .function && env.kindOf n == some .cell) = true then (n,NameKind.cell) else (n,k)) :: _) = _ ∨ List.lookup x ((if (k == NameKind.free && env.scope.kind == .function && env.kindOf n == some .cell) = true then (n,NameKind.cell) else (n,k)) :: _) = _
  cases hx:x == n with
  | true =>
   simp only [List.lookup_cons,hx] at h
   cases h
   by_cases hc:(NameKind.free == NameKind.free && env.scope.kind == .function && env.kindOf n == some .cell) = true
   ·rw [if_pos hc];left;simp only [List.lookup_cons,hx]
   ·rw [if_neg hc];right;simp only [List.lookup_cons,hx]
  | false =>
   simp only [List.lookup_cons,hx] at h
   by_cases hc:(k == NameKind.free && env.scope.kind == .function && env.kindOf n == some .cell) = true
   ·rw [if_pos hc];simp only [List.lookup_cons,hx];exact ih h
   ·rw [if_neg hc];simp only [List.lookup_cons,hx];exact ih h
theorem kO {env:Env}:∀ {names:List (Str × NameKind)} {x:Str},(∀ y ∈ names,y.2 ≠ .cell) →
  ((names.map fun (n,k)=>if (k == NameKind.free && env.scope.kind == .function && env.kindOf n == some .cell) then (n,NameKind.cell) else (n,k)).lookup x = some .cell ∨
  (names.map fun (n,k)=>if (k == NameKind.free && env.scope.kind == .function && env.kindOf n == some .cell) then (n,NameKind.cell) else (n,k)).lookup x = some .free) → (x,NameKind.free) ∈ names
 | [],_,_,h=>by rcases h with h | h <;> simp at h
 | (n,k) :: r,x,hn,h=>by
  have ih:=@kO env r x (fun y hy=>hn y (List.mem_cons_of_mem _ hy))
  have h':List.lookup x ((if (k == NameKind.free && env.scope.kind == .function && env.kindOf n == some .cell) = true then (n,NameKind.cell) else (n,k)) :: (r.map fun (n,k)=>if (k == NameKind.free && env.scope.kind == .function && env.kindOf n == some .cell) then (n,NameKind.cell) else (n,k))) = some .cell ∨
   List.lookup x ((if (k == NameKind.free && env.scope.kind == .function && env.kindOf n == some .cell) = true then (n,NameKind.cell) else (n,k)) :: (r.map fun (n,k)=>if (k == NameKind.free && env.scope.kind == .function && env.kindOf n == some .cell) then (n,NameKind.cell) else (n,k))) = some .free:=h
  cases hx:x == n with
  | true =>
   obtain rfl:=beq_iff_eq.mp hx
   have hk:k = .free:=by
    by_cases hc:(k == NameKind.free && env.scope.kind == .function && env.kindOf x == some .cell) = true
    ·have:=(Bool.and_eq_true_iff.mp (Bool.and_eq_true_iff.mp hc).1).1
     exact beq_iff_eq.mp this
    ·rw [if_neg hc] at h'
     simp only [List.lookup_cons,hx] at h'
     rcases h' with e | e
     ·cases e;exact absurd rfl (hn (x,.cell) List.mem_cons_self)
     ·cases e;rfl
   subst hk
   exact List.mem_cons_self
  | false =>
   refine List.mem_cons_of_mem _ (ih ?_)
   by_cases hc:(k == NameKind.free && env.scope.kind == .function && env.kindOf n == some .cell) = true
   ·rw [if_pos hc] at h';simp only [List.lookup_cons,hx] at h';exact h'
   ·rw [if_neg hc] at h';simp only [List.lookup_cons,hx] at h';exact h'
structure BlkR where
 cl:List (Str × Addr)
 C:Addr
 s₀:Shared
 H₀:Hp
 ex:List Addr
abbrev blk (X:Cx) (scope:Scope) (N':List Str) (R:BlkR):Cx :=
 { prog:=X.prog,w:=X.w,K:=X.K,mg:=X.mg,base:=X.base,A:=X.A,N:=N',s₀:=R.s₀,H₀:=R.H₀,env:=compEnvC scope R.cl R.C X.env,outer:=X.stack,stack:=X.stack,ex:=R.ex,fn:=fun _=>false,calm:=X.calm,pn:=[],xe:=fun _ _=>False }
def aIY (X:Cx) (ifs:List Expr) (t:TT):Prop :=
 ∀ (pins:List (Addr × Obj)) (s:Shared) (σ:St) (H:Hp) (Q:Bool → Hp → Prop),Inv X pins σ H s → t σ H Q →
  wpAny (model X.prog X.w) X.A (forIn ifs true fun c r=>if r = true then do let ok ← isTrue c X.env (eval c X.env);pure (ForInStep.yield ok) else pure (ForInStep.yield r)) (TP X pins σ Q) X.xe s
def aNB:TT:=fun _ H Q=>Q true H
theorem cH {X:Cx}:aIY X [] aNB:=fun pins s σ H Q I h=>wpAny_tests_nil ⟨H,I,h⟩
theorem fU {X:Cx} {c:Expr} {t:TT} (h:PT X c t):aIY X [c] t:=fun pins s σ H Q I hw=>wpAny_tests_one (h pins s σ H Q I hw)
def aBK (nt:Nat) (g:TG):Prop:=∀ x σ H Q,g x σ H Q → g x σ H fun σ2 H2=>Q σ2 H2 ∧ σ2.length = σ.length ∧ ∀ i,nt ≤ i → σ2[i]? = σ[i]?
theorem bC {nt i:Nat} (h:i < nt):aBK nt (uI i):=fun x σ H Q q =>
 ⟨q,by simp,fun j hj=>List.getElem?_set_ne (by omega)⟩
def nU (nt:Nat) (cap:List Nat) (σ:St):St:=List.replicate nt none ++ cap.map fun j=>(σ[j]?).join
theorem aFI {nt:Nat} {cap:List Nat} {σ:St}:(nU nt cap σ).length = nt + cap.length:=by simp [nU]
theorem wV {nt:Nat} {cap:List Nat} {σ:St} {i:Nat} {v:V} (h:(nU nt cap σ)[i]? = some (some v)):∃ j,nt ≤ i ∧ cap[i - nt]? = some j ∧ σ[j]? = some (some v):=by
 unfold nU at h
 by_cases hi:i < nt
 ·rw [List.getElem?_append_left (by simpa using hi),List.getElem?_replicate] at h
  rw [if_pos hi] at h
  cases h
 ·rw [List.getElem?_append_right (by simp;omega),List.length_replicate,List.getElem?_map] at h
  cases e:cap[i - nt]? with
  | none=>rw [e] at h;cases h
  | some j =>
   rw [e] at h
   refine ⟨j,by omega,rfl,?_⟩
   have h':(σ[j]?).join = some v:=by simpa using h
   cases q:σ[j]? with
   | none=>rw [q] at h';cases h'
   | some o=>rw [q] at h';cases o with
    | none=>cases h'
    | some z=>cases h';rfl
theorem uR {prog:Program} {w:World} {A:Around} {R:Result → Shared → Prop} {s:Shared} {elt target iter:Expr} {ifs:List Expr} {scope:Scope} {pos:Pos} {it acc:Value} {env:Env} (I:Nat → Shared → Prop)
  (turn:∀ n s,I n s → wpAny (model prog w) A (pyNext it) (fun r s₁=>match r with
   | none=>R (.ok .next) s₁
   | some v=>wpAny (model prog w) A (letOwnedTupleGo target it v) (fun _ s₁=>wpAny (model prog w) A (assign target env v) (fun _ s₂ =>
     wpAny (model prog w) A (forIn ifs true fun c r=>if r = true then do let ok ← isTrue c env (eval c env);pure (ForInStep.yield ok) else pure (ForInStep.yield r)) (fun ok s₃ =>
      if ok = true then wpAny (model prog w) A (eval elt env) (fun x s₄ =>
       wpAny (model prog w) A (call (.builtin "list.append") [acc,x]) (fun _ s₅=>∃ m,m < n ∧ I m s₅) (notedBy (model prog w) A env fun e s'=>R (.error e) s') s₄) (notedBy (model prog w) A env fun e s'=>R (.error e) s') s₃
      else ∃ m,m < n ∧ I m s₃) (notedBy (model prog w) A env fun e s'=>R (.error e) s') s₂) (notedBy (model prog w) A env fun e s'=>R (.error e) s') s₁) (notedBy (model prog w) A env fun e s'=>R (.error e) s') s₁) (notedBy (model prog w) A env fun e s'=>R (.error e) s') s)
  (n:Nat) (h:I n s) :
  codeAny (model prog w) A (.compLoop (.ListComp elt [⟨target,iter,ifs,0⟩] scope pos) 0 it acc env) R s:=by
 refine codeAny_loop rfl I (fun n s hI=>?_) n h
 show wpAny _ A ((compTurn (.ListComp elt [⟨target,iter,ifs,0⟩] scope pos) 0 it acc env).onRaise (fun x=>do noteFrame x env;theTreesLotGoes x)) _ _ s
 refine wpAny_noted ?_
 rw [compTurn_list]
 refine wpAny_bind (wpAny_standAt (wpAny_bind (wpAny_mono (turn n s hI) (fun r s₁ h₁=>?_) fun _ _ h'=>h')))
 cases r with
 | none=>exact wpAny_pure h₁
 | some v =>
  refine wpAny_bind (wpAny_mono h₁ (fun _ s₁' h₁'=>?_) fun _ _ h'=>h')
  refine wpAny_bind (wpAny_mono h₁' (fun _ s₂ h₂=>wpAny_bind (wpAny_mono h₂ (fun ok s₃ h₃=>?_) fun _ _ h'=>h')) fun _ _ h'=>h')
  cases ok with
  | false=>exact wpAny_pure ⟨rfl,h₃⟩
  | true =>
   exact wpAny_bind (wpAny_bind (wpAny_mono h₃ (fun x s₄ h₄=>wpAny_bind (wpAny_mono h₄ (fun _ s₅ h₅=>wpAny_pure (wpAny_pure ⟨rfl,h₅⟩)) fun _ _ h'=>h')) fun _ _ h'=>h'))
abbrev CW:=Nat → Nat → List V → Hp → Prop
def zL (σb:St) (J:It) (g:TG) (tt:TT) (te:TE) (W:CW) (fin:List V → Hp → Prop) (i m:Nat) (ys:List V) (H:Hp):Prop :=
 (J.stop i H ∧ fin ys H) ∨
 (J.go i H ∧ ys.length < sizeLine ∧ ∀ x H',J.yld i H x H' → g x σb H' fun σ2 H2=>tt σ2 H2 fun b H3 =>
  if b = true then te σ2 H3 fun y H4=>∃ m',m' < m ∧ W (i + 1) m' (ys ++ [y]) H4 else ∃ m',m' < m ∧ W (i + 1) m' ys H3)
structure BlkEnd (X:Cx) (pins:List (Addr × Obj)) (H:Hp) (C:Addr) (s:Shared):Prop where
 ns:∃ m,s.heap.Ns C m
 fr:H C = none
 ne:C ≠ X.env.locals
 ab:X.s₀.heap.objs.size ≤ C
 cl:∀ x c,X.env.cells.lookup x = some c → c ≠ C
 pn:∀ p ∈ X.pn ++ pins,p.1 ≠ C
theorem uQ {X:Cx} {pins:List (Addr × Obj)} {σ:St} {s₂:Shared} {H₂:Hp} {elt iter tg:Expr} {ifs:List Expr} {scope:Scope} {pos:Pos} {N':List Str} {nt:Nat} {cap:List Nat} {g:TG} {tt:TT} {te:TE} {cl:List (Str × Addr)}
  {it:Addr} {fp:List Addr} {tn:Nat → Heap → Prop} {J:It} {Q:List V → Hp → Prop} {E:Value → Shared → Prop}
  (hc:X.calm = true) (I₂:Inv X pins σ H₂ s₂) (T:Turn X.prog X.w X.K tg J fp it tn) (st:tn 0 s₂.heap) (hf:∀ b ∈ fp,zG X pins H₂ b)
  (hclk:∀ x c,cl.lookup x = some c → X.env.cells.lookup x = some c) (hclh:∀ x,(x,NameKind.free) ∈ scope.names → ∃ c,cl.lookup x = some c)
  (hcell:∀ y ∈ scope.names,y.2 ≠ .cell) (hkind:scope.kind = .function)
  (hfr:∀ y ∈ scope.names,y.2 = .free → (X.env.kindOf y.1 = some .cell ∨ X.env.kindOf y.1 = some .free))
  (hN:N'.length = nt + cap.length) (hcapN:∀ (k j:Nat),cap[k]? = some j → N'[nt + k]? = X.N[j]?) (hcapF:∀ x ∈ N'.drop nt,scope.names.lookup x = some .free)
  (hg:∀ R,PG (blk X scope N' R) tg g) (hgk:aBK nt g) (ht:∀ R,aIY (blk X scope N' R) ifs tt) (he:∀ R,PE (blk X scope N' R) elt te)
  (h:∃ W:CW,(∃ m,W 0 m [] H₂) ∧ ∀ i m ys H,W i m ys H → zL (nU nt cap σ) J g tt te W Q i m ys H)
  {RR:Value → Addr → Result → Shared → Prop}
  (hRR:∀ D C s' H' ys,H' D = none → Q ys H' → Inv X pins σ (upd H' D (.lst ys)) s' → BlkEnd X pins (upd H' D (.lst ys)) C s' → RR (.ref D) C (.ok .next) s') :
  wpAny (model X.prog X.w) X.A (newList []) (fun acc s₃=>wpAny (model X.prog X.w) X.A (newFunctionEnv scope X.env.globals cl [] X.env.qual none .none (some X.env)) (fun cenv s₄ =>
   codeAny (model X.prog X.w) X.A (.compStart (.ListComp elt [⟨tg,iter,ifs,0⟩] scope pos) 0 (.ref it) acc { cenv with scope:=relabel scope X.env }) (RR acc cenv.locals) s₄) E s₃) E s₂:=by
 obtain ⟨W,⟨m0,w0⟩,turn⟩:=h
 refine wpAny_newObj_type (wpAny_newFunctionEnv hcell (by intro y hy;simp at hy) (fun h₁ hns₁ hsb₁=>?_) hkind)
 dsimp only at hns₁ hsb₁ ⊢
 generalize hH2:s₂.heap.push { cls:=.type "list",dict:=none,data:=.seq ([]:List Value).toArray } = Hx at hns₁ hsb₁ ⊢
 have hC:Hx.objs.size = s₂.heap.objs.size + 1:=by rw [← hH2,Heap.size_push]
 generalize hD:s₂.heap.objs.size = D at hC ⊢
 generalize hCC:Hx.objs.size = C at hns₁ hsb₁ hC ⊢
 have hDC:D ≠ C:=by omega
 have below:∀ b,b < s₂.heap.objs.size → b ≠ C ∧ b ≠ D:=fun b hb=>by omega
 have old:∀ b o,s₂.heap.get? b = some o → h₁.get? b = some o:=fun b o e=>hsb₁.extBut b o (below b (Heap.lt_size e)).1 (Heap.get?_push_of_some _ (hH2 ▸ Heap.get?_push_of_some _ e))
 have hacc:h₁.get? D = some { cls:=.type "list",data:=.seq ([]:List Value).toArray }:=hsb₁.extBut _ _ hDC (Heap.get?_push_of_some _ (by rw [← hH2,← hD];exact Heap.get?_push_size _ rfl))
 have freshD:H₂ D = none:=I₂.hok.fresh (by omega)
 have freshC:H₂ C = none:=I₂.hok.fresh (by omega)
 have fpo:∀ b ∈ fp,∃ o,s₂.heap.get? b = some o ∧ ∀ v,o.data ≠ .cell v:=T.obj 0 _ st
 have fplt:∀ b ∈ fp,b < s₂.heap.objs.size:=fun b hb=>let ⟨o,e,_⟩:=fpo b hb;Heap.lt_size e
 have celllt:∀ x c,X.env.cells.lookup x = some c → c < s₂.heap.objs.size:=fun x c e=>let ⟨v,z⟩:=I₂.cell x c e;z.lt
 have pinlt:∀ p ∈ X.pn ++ pins,p.1 < s₂.heap.objs.size:=fun p hp=>Heap.lt_size (I₂.pin p hp).1
 let R:BlkR:=⟨cl,C,s₂,H₂,fp⟩
 have okb:(blk X scope N' R).Ok:={
  mod:=I₂.mod
  kind:=hkind
  glob:=I₂.ok.glob
  blt:=I₂.ok.blt
  above:=(by show s₂.heap.objs.size ≤ C;omega)
  inj:=fun x y c e1 e2=>I₂.ok.inj x y c (hclk x c e1) (hclk y c e2)
  has:=fun x hx=>hclh x (kO hcell hx)
  cab:=fun x c hx _=>by cases hx
  hd:=I₂.ok.hd
  frames:=I₂.ok.frames
  stk:=.inl rfl
  exf:=fun b hb=>⟨(below b (fplt b hb)).1,fun x c e=>(hf b hb).2.2.2.2.1 x c (hclk x c e)⟩
  bs:=I₂.bs
  bsz:=Nat.le_trans I₂.ok.bsz I₂.sz
  noex:=fun b o e hb=>by
   rcases (hf b hb).2.2.2.1 with z | z
   ·exact I₂.ok.noex b o e z
   ·exact absurd (Nat.lt_of_lt_of_le (Heap.lt_size e) (Nat.le_trans I₂.ok.bsz z)) (Nat.lt_irrefl _)
  exfs:=fun b hb z=>by
   rcases List.mem_cons.mp (I₂.stkSub b z) with q | q
   ·exact (hf b hb).2.1 q
   ·exact (hf b hb).2.2.1 q
  funs:=I₂.stack
  frf:=I₂.stkFree }
 have nofs:∀ a,s₂.heap.objs.size ≤ a → a ∉ frs X.stack:=fun a ha z=>by
  rcases List.mem_cons.mp (I₂.stkSub a z) with q | q
  ·exact absurd (Nat.lt_of_lt_of_le I₂.lt ha) (by rw [q];exact Nat.lt_irrefl _)
  ·exact I₂.nofs ha q
 have hDle:s₂.heap.objs.size ≤ D:=by omega
 have hCle:s₂.heap.objs.size ≤ C:=by omega
 have stat:∀ {H':Hp} {ob:Obj},(∀ b ∈ fp,H' b = none) → ∀ b ∈ fp,zG (blk X scope N' R) [(D,ob)] H' b:=fun {H' ob} hn b hb =>
  ⟨hn b hb,(below b (fplt b hb)).1,okb.exfs b hb,.inl hb,fun x c e=>(hf b hb).2.2.2.2.1 x c (hclk x c e),fun p hp=>by
   have e:p = (D,ob):=by simpa using hp
   rw [e]
   exact Ne.symm (below b (fplt b hb)).2⟩
 have entry:∀ tk,Inv (blk X scope N' R) [(D,{ cls:=.type "list",data:=.seq ([]:List Value).toArray })] (nU nt cap σ) H₂ { s₂ with heap:=h₁,toks:=tk }:=fun tk=>{
  ok:=okb
  os:=rfl
  bare:=I₂.bare
  base:=Un.kept old
  loc:=by
   refine ⟨_,hns₁,fun i x v e1 e2 e3=>?_⟩
   obtain ⟨j,hi,hj,hv⟩:=wV e2
   have hx:X.N[j]? = some x:=by
    rw [← hcapN _ _ hj,show nt + (i - nt) = i by omega]
    exact e1
   have hxm:x ∈ N'.drop nt:=by
    refine List.mem_of_getElem? (i:=i - nt) ?_
    rw [List.getElem?_drop,show nt + (i - nt) = i by omega]
    exact e1
   have hfree:=hcapF x hxm
   have hmem:(x,NameKind.free) ∈ scope.names:=by
    have:∀ (l:List (Str × NameKind)),l.lookup x = some .free → (x,NameKind.free) ∈ l:=by
     intro l
     induction l with
     | nil=>intro q;cases q
     | cons a r ih =>
      intro q
      obtain ⟨n,k⟩:=a
      cases hxn:x == n with
      | true =>
       rw [List.lookup_cons,hxn] at q
       obtain rfl:=beq_iff_eq.mp hxn
       cases q
       exact List.mem_cons_self
      | false =>
       rw [List.lookup_cons,hxn] at q
       exact List.mem_cons_of_mem _ (ih q)
    exact this _ hfree
   have hk:=hfr (x,.free) hmem rfl
   obtain ⟨m,hn,hl⟩:=I₂.loc
   have vis:Vis X.env.scope x:=by
    rcases hk with k | k
    ·exact .inr (.inl k)
    ·exact .inr (.inr k)
   obtain ⟨u,ru,lk⟩:=hl j x v hx hv vis
   refine ⟨u,ru,?_⟩
   rcases lk with ⟨k,_⟩ | ⟨k,c,hc1,hc2⟩
   ·exfalso
    rcases hk with z | z
    ·rw [z] at k;cases k
    ·rw [z] at k;cases k
   ·obtain ⟨d,hd⟩:=hclh x hmem
    have hd':=hclk x d hd
    rw [hc1] at hd'
    cases hd'
    refine .inr ⟨iS hfree,c,hd,?_⟩
    obtain ⟨o,ho,hdat⟩:=hc2
    exact ⟨o,old c o ho,hdat⟩
  cell:=fun x c e=>by
   obtain ⟨v,o,ho,hdat⟩:=I₂.cell x c (hclk x c e)
   exact ⟨v,o,old c o ho,hdat⟩
  free:=freshC
  freeC:=fun x c e=>I₂.freeC x c (hclk x c e)
  pin:=fun p hp=>by
   have e:p = (D,{ cls:=.type "list",data:=.seq ([]:List Value).toArray }):=by simpa using hp
   subst e
   exact ⟨hacc,freshD,hDC,nofs D hDle,fun v z=>by cases z⟩
  hok:=I₂.hok.kept old
  len:=by rw [aFI,hN] }
 have loop:∀ tk,codeAny (model X.prog X.w) X.A (.compLoop (.ListComp elt [⟨tg,iter,ifs,0⟩] scope pos) 0 (.ref it) (.ref D) (compEnvC scope cl C X.env)) (RR (.ref D) C) { s₂ with heap:=h₁,toks:=tk }:=by
  intro tk
  refine uR (fun n s'=>∃ i ys H' its k,Inv (blk X scope N' R) [(D,{ cls:=.type "list",data:=.seq its.toArray k })] (nU nt cap σ) H' s' ∧ tn i s'.heap ∧ (∀ b ∈ fp,H' b = none) ∧ bQ ys its ∧ ys.length ≤ sizeLine ∧ W i n ys H') ?_ m0
   ⟨0,[],H₂,[],0,entry tk,T.keep _ _ _ st fun b hb o e=>old b o e,fun b hb=>(hf b hb).1,.nil,Nat.zero_le _,w0⟩
  rintro n s3 ⟨i,ys,H3,its,k,I3,st3,fr3,rv,hz,w3⟩
  have pD:=I3.pin (D,{ cls:=.type "list",data:=.seq its.toArray k }) (by simp)
  rcases turn i n ys H3 w3 with ⟨stop,qn⟩ | ⟨go,hlt,step⟩
  ·-- the end
   refine wpAny_mono (T.done (blk X scope N' R) rfl rfl rfl hc i _ s3 _ H3 (fun _ _=>False) I3 (stat fr3) st3 stop) (fun r s4 ⟨hr,I4⟩=>?_) fun _ _ z=>z.elim
   subst hr
   have pD4:=I4.pin (D,{ cls:=.type "list",data:=.seq its.toArray k }) (by simp)
   have b4:Un (frs X.stack) fp H₂ H3 s₂.heap s4.heap:=I4.base
   have u4:Un (frs X.stack) fp H₂ (upd H3 D (.lst ys)) s₂.heap s4.heap:={
    keep:=b4.keep
    slot:=b4.slot
    free:=fun b o e n hx=>by
     rw [aR (below b (Heap.lt_size e)).2]
     exact b4.free b o e n hx
    there:=b4.there
    tups:=fun b xs e=>by
     have z:=b4.tups b xs e
     rw [aR (bB z pD4.2.1)]
     exact z
    frzs:=fun b o u e=>by
     have z:=b4.frzs b o u e
     rw [aR (bB z pD4.2.1)]
     exact z
    tbls:=fun b ps e=>by
     obtain ⟨more,z⟩:=b4.tbls b ps e
     exact ⟨more,by rw [aR (bB z pD4.2.1)];exact z⟩ }
   have hok4:HOk X.prog X.w (upd H3 D (.lst ys)) s4.heap:=fun b u e=>by
    by_cases hb:b = D
    ·subst hb
     rw [aB] at e
     cases e
     exact ⟨hz,its,k,rv,pD4.1⟩
    ·rw [aR hb] at e
     exact (I4.hok b u e).stay (fun c v _ q=>q) (fun c q=>by rw [aR (bB q pD4.2.1)];exact q) fun c xs q=>by rw [aR (bB q pD4.2.1)];exact q
   have I5:Inv X pins σ (upd H3 D (.lst ys)) s4:=I₂.call' I4.os u4 hok4 I4.bare fun b hb=>⟨(hf b hb).2.2.2.1,(hf b hb).2.1,(hf b hb).2.2.2.2.1,(hf b hb).2.2.2.2.2⟩
   refine hRR D C s4 H3 ys pD4.2.1 qn I5 ?_
   obtain ⟨m,hn,_⟩:=I4.loc
   exact ⟨⟨m,hn⟩,by rw [aR (Ne.symm hDC)];exact I4.free,fun z=>absurd I₂.lt (by rw [← z];exact Nat.not_lt.mpr hCle),Nat.le_trans I₂.sz hCle,fun x c e=>Nat.ne_of_lt (Nat.lt_of_lt_of_le (celllt x c e) hCle),fun p hp=>Nat.ne_of_lt (Nat.lt_of_lt_of_le (pinlt p hp) hCle)⟩
  ·-- a turn
   refine wpAny_mono (T.item (blk X scope N' R) rfl rfl rfl hc i _ s3 _ H3 (fun _ _=>False) I3 (stat fr3) st3 go) (fun r s4 ⟨u,hr,h4⟩=>?_) fun _ _ z=>z.elim
   subst hr
   refine wpAny_mono h4 (fun _ s5 ⟨x,H5,I5,r5,y5,st5,fr5⟩=>?_) fun _ _ z=>z.elim
   have I5':=I5.pinned (stat fr5) (T.obj _ _ st5)
   refine wpAny_mono (hg R _ s5 _ H5 x u _ I5' r5 (hgk _ _ _ _ (step x H5 y5))) (fun _ s6 ⟨σ6,H6,I6,q6,l6,k6⟩=>?_) fun _ _ z=>z.elim
   refine wpAny_mono (ht R _ s6 σ6 H6 _ I6 q6) (fun ok s7 ⟨H7,I7,q7⟩=>?_) fun _ _ z=>z.elim
   have weak:∀ {H8:Hp} {s8:Shared} {ps:List (Addr × Obj)},Inv (blk X scope N' R) ps σ6 H8 s8 → Inv (blk X scope N' R) ps (nU nt cap σ) H8 s8:=fun I8=>I8.weak (by rw [l6]) fun j v e=>by
    obtain ⟨_,hj,_,_⟩:=wV e
    rw [k6 j hj]
    exact e
   have tnK:∀ {H8:Hp} {s8:Shared} {σ8:St},Inv (blk X scope N' R) ([(D,{ cls:=.type "list",data:=.seq its.toArray k })] ++ mW fp s5.heap) σ8 H8 s8 → tn (i + 1) s8.heap ∧ ∀ b ∈ fp,H8 b = none:=fun {H8 s8 σ8} I8 =>
    ⟨T.keep _ _ _ st5 fun b hb o e=>(I8.pin (b,o) (List.mem_append_right _ (List.mem_append_right _ (lN hb e)))).1,fun b hb=>by
     obtain ⟨o,e,_⟩:=T.obj _ _ st5 b hb
     exact (I8.pin (b,o) (List.mem_append_right _ (List.mem_append_right _ (lN hb e)))).2.1⟩
   cases ok with
   | false =>
    rw [if_neg Bool.false_ne_true] at q7 ⊢
    obtain ⟨m',hm,w7⟩:=q7
    exact ⟨m',hm,i + 1,ys,H7,its,k,weak I7.unpinned,(tnK I7).1,(tnK I7).2,rv,hz,w7⟩
   | true =>
    rw [if_pos rfl] at q7 ⊢
    refine wpAny_mono (he R _ s7 σ6 H7 _ I7 q7) (fun xv s8 ⟨y,H8,I8,ry,q8⟩=>?_) fun _ _ z=>z.elim
    obtain ⟨m',hm,w8⟩:=q8
    have pD8:=I8.pin (D,{ cls:=.type "list",data:=.seq its.toArray k }) (by simp)
    have hsz:its.toArray.size ≤ sizeLine:=by rw [List.size_toArray,← rv.length];omega
    refine wpAny_list_append_plain (hsz:=hsz) ⟨k,pD8.1⟩ fun h9 hl9 hs9=>?_
    obtain ⟨k9,hl9⟩:=hl9
    have tn8:=tnK I8
    have I8':Inv (blk X scope N' R) (mW fp s5.heap) (nU nt cap σ) H8 s8:=(weak I8).pins_of fun p hp=>I8.pin p (List.mem_append_right _ (List.mem_append_right _ hp))
    have I9:Inv (blk X scope N' R) (mW fp s5.heap) (nU nt cap σ) H8 { s8 with heap:=h9 }:=I8'.turned (it:=D) (t':=s8.toks) (fun b o hb e=>hs9.extBut b o hb e) pD8.2.1 pD8.2.2.1 (.inr hDle)
     (fun x c e=>Nat.ne_of_lt (Nat.lt_of_lt_of_le (celllt x c (hclk x c e)) hDle)) fun p hp=>by
      have hp':p ∈ mW fp s5.heap:=by simpa using hp
      exact Nat.ne_of_lt (Nat.lt_of_lt_of_le (fplt p.1 (wB hp').1) hDle)
    have e9:h9.get? D = some { cls:=.type "list",data:=.seq (its ++ [xv]).toArray k9 }:=by
     rw [hl9]
     simp
    refine ⟨m',hm,i + 1,ys ++ [y],H8,its ++ [xv],k9,I9.pins_of fun p hp=>?_,T.keep _ _ _ tn8.1 fun b hb o e=>hs9.extBut b o (Nat.ne_of_lt (Nat.lt_of_lt_of_le (fplt b hb) hDle)) e,tn8.2,rv.append (.cons ry .nil),by rw [List.length_append];exact hlt,w8⟩
    have e:p = (D,{ cls:=.type "list",data:=.seq (its ++ [xv]).toArray k9 }):=by simpa using hp
    subst e
    exact ⟨e9,pD8.2.1,pD8.2.2.1,pD8.2.2.2.1,fun v z=>by cases z⟩
 exact codeAny_compStart_list (loop _) (T.self _ 0 _ _ _ (T.keep _ _ _ st fun b hb o e=>old b o e) (loop _))
def aKY (nt:Nat) (cap:List Nat) (wi:TI) (g:TG) (tt:TT) (te:TE):TE:=fun σ H Q=>wi σ H fun J H1=>∃ W:CW,(∃ m,W 0 m [] H1) ∧ ∀ i m ys H,W i m ys H → zL (nU nt cap σ) J g tt te W (fun ys H'=>∀ p,H' p = none → Q (.ref p) (upd H' p (.lst ys))) i m ys H
theorem jW {α:Type} {l:List α} {p:α → Bool} (h:l.all p = true):∀ x ∈ l,p x = true:=fun x hx=>List.all_eq_true.mp h x hx
theorem bX {X:Cx} {elt iter tg:Expr} {ifs:List Expr} {scope:Scope} {pos:Pos} {wi:TI} {g:TG} {tt:TT} {te:TE} (N':List Str) (nt:Nat) (cap:List Nat)
  (hc:X.calm = true) (hi:PI X tg iter wi) (hg:∀ R,PG (blk X scope N' R) tg g) (hgk:aBK nt g) (ht:∀ R,aIY (blk X scope N' R) ifs tt) (he:∀ R,PE (blk X scope N' R) elt te)
  (hcell:(scope.names.all fun y=>!(y.2 == .cell)) = true:=by rfl) (hkind:scope.kind = .function:=by rfl)
  (hnames:(scope.names.all fun y=>!(y.2 == .local) || (scope.names.lookup y.1 == some .local)) = true:=by rfl)
  (hfr:(scope.names.all fun y=>!(y.2 == .free) || (X.env.kindOf y.1 == some .cell || X.env.kindOf y.1 == some .free)) = true:=by rfl)
  (hN:N'.length = nt + cap.length:=by rfl) (hcapN:(cap.map fun j=>X.N[j]?) = (N'.drop nt).map some:=by rfl) (hcapF:((N'.drop nt).all fun x=>scope.names.lookup x == some .free) = true:=by rfl)
  (hs:∀ x,foldedSetIterable iter X.env x = pure x:=by intro _;rfl) :
  PE X (.ListComp elt [⟨tg,iter,ifs,0⟩] scope pos) (aKY nt cap wi g tt te):=by
 intro pins s σ H Q I h
 have hfr':∀ y ∈ scope.names,y.2 = .free → (X.env.kindOf y.1 = some .cell ∨ X.env.kindOf y.1 = some .free):=fun y hy e=>by
  have z:=jW hfr y hy
  rw [e] at z
  have z':(X.env.kindOf y.1 == some .cell || X.env.kindOf y.1 == some .free) = true:=z
  rcases Bool.or_eq_true_iff.mp z' with q | q
  ·exact .inl (beq_iff_eq.mp q)
  ·exact .inr (beq_iff_eq.mp q)
 have hcell':∀ y ∈ scope.names,y.2 ≠ .cell:=fun y hy e=>by
  have z:=jW hcell y hy
  rw [e] at z
  cases z
 obtain ⟨cl,hcl,hclk,hclh⟩:=uS (scope:=scope) (env:=X.env) fun y hy e=>I.ok.has y.1 (hfr' y hy e)
 have hnames':∀ y ∈ scope.names,y.2 = .local → scope.names.lookup y.1 = some .local:=fun y hy e=>by
  have z:=jW hnames y hy
  rw [e] at z
  exact beq_iff_eq.mp z
 have hcapN':∀ (k j:Nat),cap[k]? = some j → N'[nt + k]? = X.N[j]?:=fun k j e=>by
  have z:=congrArg (fun l:List (Option Str)=>l[k]?) hcapN
  simp only [List.getElem?_map,e,Option.map_some,List.getElem?_drop] at z
  cases q:N'[nt + k]? with
  | none=>rw [q] at z;cases z
  | some x=>rw [q] at z;exact (Option.some.inj z).symm
 rw [eval_ListComp]
 refine wpAny_comprehension_free (use:=none) rfl hs hcl hkind hnames' (thn (hi pins s σ H _ I h) fun v s1 h1=>thn h1 fun itv s2 h2=>?_)
 obtain ⟨it,fp,tn,J,H2,e,I2,T,st2,f2,hw⟩:=h2
 subst e
 refine uQ (RR:=fun acc C=>compPost (model X.prog X.w) X.A X.xe none (EP X pins σ Q) acc C) hc I2 T st2 f2 hclk hclh hcell' hkind hfr' hN hcapN' (fun x hx=>beq_iff_eq.mp (jW hcapF x hx)) hg hgk ht he hw ?_
 intro D C s' H' ys hD q I' B
 obtain ⟨m,hn⟩:=B.ns
 refine ⟨m,hn,fun h' hs'=>⟨.ref D,_,I'.turned (it:=C) (t':=s'.toks) (fun b o hb e=>hs'.extBut b o hb e) B.fr B.ne (.inr B.ab) B.cl B.pn,rfl,q D hD⟩⟩
end L2
namespace L2
open PySem PySem.Spec PyProof.Rows
section
variable {X:Cx}
def aMR:V → Option Value
 | .ty n=>some (.type n)
 | .ref a=>some (.ref a)
 | _=>none
theorem aIR {y:V} {c u:Value} (h:aMR y = some c) (r:bK y u):u = c:=by
 cases y with
 | ty n=>cases h;exact r
 | ref a=>cases h;exact r
 | non=>cases h
 | bl b=>cases h
 | int i=>cases h
 | str x=>cases h
 | byt b=>cases h
 | flt b=>cases h
theorem aBF:fB X (.builtin "isinstance") (fun xs H Q=>∃ x y c t b,xs = [x,y] ∧ aMR y = some c ∧ TyOf X.K H x t ∧ PySem.W.kitOne X.K t c = some b ∧ Q (.bl b) H):=by
 intro pins s σ H xs us Q I r h
 obtain ⟨x,y,c,t,b,rfl,hc,ty,e,q⟩:=h
 obtain ⟨u,v,rfl,ru,rv⟩:=bQ.two r
 obtain rfl:=aIR hc rv
 exact aEV I ru ty e fun tk=>⟨.bl b,H,I.tok tk,rfl,q⟩
theorem nT:∀ {bs:List Bool} {us:List Value},bQ (bs.map V.bl) us → LSm.BoolsAre us bs
 | [],us,r=>by
  rw [List.map_nil] at r
  cases r
  exact .nil
 | b :: bs,us,r=>by
  rw [List.map_cons] at r
  cases r with
  | cons r1 r2 =>
   cases r1
   exact .cons b (nT r2)
theorem nQ (hc:X.calm = true):fB X (.builtin "all") (fun xs H Q=>∃ (p:Addr) (bs:List Bool),xs = [.ref p] ∧ SqL X.K H p (bs.map V.bl) ∧ Q (.bl (bs.all id)) H):=by
 intro pins s σ H xs us Q I r h
 obtain ⟨p,bs,rfl,hq,q⟩:=h
 obtain ⟨u,rfl,ru⟩:=bQ.one r
 cases ru
 obtain ⟨its,rv,pl,hz⟩:=I.list hq
 obtain ⟨m,F⟩:=I.fr
 have hb:=nT rv
 have hl:=pl.isList
 have hlt:p < s.heap.objs.size:=by obtain ⟨_,e,_⟩:=hl;exact Heap.lt_size e
 refine call_all_walk (wpAny_pyIter_list hl ?_)
 refine ⟨s.heap.objs.size,[s.heap.objs.size,p],[s.heap.objs.size],its.toArray.size,_,_,fun i=>(bs[i]?).getD true,rfl,Walks.list (A:=X.A.in1) (I.ok.hd hc) _ p (Nat.ne_of_lt hlt) its.toArray,
  ⟨⟨_,Heap.get?_push_size _ rfl,rfl,rfl⟩,hl.push _⟩,fun i v s' Q' E' hP hQ=>?_,fun h' tk hk=>?_⟩
 ·obtain ⟨b,e,rfl⟩:=hb.get i v (by simpa using hP)
  simp only [e,Option.getD_some] at hQ
  exact wpAny_truthy_bool hQ
 ·have e:((List.range its.toArray.size).all fun i=>(bs[i]?).getD true) = bs.all id:=by
   rw [List.size_toArray,hb.length];exact LSm.range_all bs
  rw [e]
  exact ⟨.bl _,H,I.kept (LSm.kept_iter hk),rfl,q⟩
theorem aDN:OpR X (binaryOp .Mult) (rI (fun i j=>i.natAbs < 2 ^ 4096 ∧ j.natAbs < 2 ^ 4096) fun i j=>.int (i * j)):=opI fun i j _ _ _ _ _ hc q =>
 mul_int q (IntMulOk.of_bits (Nat.le_trans (intBits_le hc.1) (by decide)) (Nat.le_trans (intBits_le hc.2) (by decide)))
theorem aX:OpR X (binaryOp .FloorDiv) (rI (fun _ j=>0 < j ∧ j.natAbs.log2 < 9000) fun i j=>.int (i / j)):=opI fun i j _ _ _ _ _ hc q=>by
 have h1:(0:Int) < j:=hc.1
 exact floordiv_int (by omega) (by rw [Int.fdiv_eq_ediv_of_nonneg i (by omega)];exact q) (.inl (PyProof.noPylong_of_log2 hc.2))
def Its (x:Str):It where
 go:=fun i _=>i < x.cps.size
 yld:=fun i H v H'=>H' = H ∧ ∃ c,x.cps[i]? = some c ∧ v = .str ⟨#[c]⟩
 stop:=fun i _=>i = x.cps.size
theorem zI {P:Program} {w:World} {K:PySem.W.Frag} {tg:Expr} (it:Addr) (x:Str) (t:Tok) (ty:String)
  (W:∀ A:Around,A.handled = none → Walks P w A it [it] [it] x.cps.size (SignAt x) (fun i h=>h.IsStrIter it ty x t i))
  (hn:["enumerate","zip","dict_itemiterator","dict_reverseitemiterator","odict_iterator","itertools.zip_longest","itertools.pairwise"].contains ty = false)
  (self:∀ (A:Around) (i:Nat) (s:Shared) (Q:Value → Shared → Prop) (E:Value → Shared → Prop),s.heap.IsStrIter it ty x t i → Q (.ref it) s → wpAny (model P w) A (pyIter (.ref it)) Q E s) :
  Turn P w K tg (Its x) [it] it (fun i h=>h.IsStrIter it ty x t i) where
 mem:=by simp
 obj:=fun i h st b hb=>by
  have e:b = it:=by simpa using hb
  subst e
  obtain ⟨o,e,c,d⟩:=st
  exact ⟨o,e,fun v z=>by rw [d] at z;cases z⟩
 keep:=fun i h h' st k=>let ⟨o,ho,r⟩:=st;⟨o,k it (by simp) o ho,r⟩
 item:=by
  intro X hP hw hK hc i pins s σ H E I hf st hg
  subst hP hw hK
  obtain ⟨f0,f1,f2,f3,f4,f5⟩:=hf it (by simp)
  refine (W X.A (I.ok.hd hc)).item i s _ _ hg st fun v h' tk hv st' kk=>?_
  obtain ⟨c,u,hx,rfl⟩:=hv
  have I1:Inv X pins σ H { s with heap:=h',toks:=tk }:=I.turned (fun b o hb e=>kk b o (by simpa using hb) e) f0 f1 f3 f4 f5
  obtain ⟨o,e,cc,d⟩:=id st'
  exact ⟨_,rfl,aDR (s:={ s with heap:=h',toks:=tk }) e cc d hn ⟨.str ⟨#[c]⟩,H,I1,⟨u,rfl⟩,⟨rfl,c,hx,rfl⟩,st',fun b hb=>(hf b hb).1⟩⟩
 done:=by
  intro X hP hw hK hc i pins s σ H E I hf st hg
  subst hP hw hK
  obtain ⟨f0,f1,f2,f3,f4,f5⟩:=hf it (by simp)
  have hg':i = x.cps.size:=hg
  subst hg'
  exact (W X.A (I.ok.hd hc)).done s _ _ st fun h' tk kk=>⟨rfl,I.turned (fun b o hb e=>kk b o (by simpa using hb) e) f0 f1 f3 f4 f5⟩
 self:=self
def aPE (tl:TE):TI:=fun σ H R=>tl σ H fun x H1=>∃ z,x = .str z ∧ R (Its z) H1
theorem aLS {tg l:Expr} {tl:TE} (hl:PE X l tl):PI X tg l (aPE tl):=by
 intro pins s σ H R I h
 refine thn (hl pins s σ H _ I h) fun v s1 ⟨x,H1,I1,r1,q1⟩=>?_
 obtain ⟨z,e,q⟩:=q1
 subst e
 obtain ⟨t,rfl⟩:=r1
 have fp:∀ b ∈ [s1.heap.objs.size],zG X pins H1 b:=fun b hb=>by
  have e:b = s1.heap.objs.size:=by simpa using hb
  subst e
  exact I1.fpOk (Nat.le_refl _) (I1.hok.fresh (Nat.le_refl _))
 cases ha:z.cps.all (· < 128)
 ·refine wpAny_pyIter_wide ha ?_
  exact ⟨s1.heap.objs.size,[s1.heap.objs.size],_,_,H1,rfl,I1.kept (t':=s1.toks) fun b o e=>Heap.get?_push_of_some _ e,zI _ z t "str_iterator" (fun A hA=>Walks.strWide hA _ z t) (by decide) (fun A i s Q E st h=>wpAny_pyIter_striter_wide st h),
   ⟨_,Heap.get?_push_size _ rfl,rfl,rfl⟩,fp,q⟩
 ·refine wpAny_pyIter_ascii ha ?_
  exact ⟨s1.heap.objs.size,[s1.heap.objs.size],_,_,H1,rfl,I1.kept (t':=s1.toks) fun b o e=>Heap.get?_push_of_some _ e,zI _ z t "str_ascii_iterator" (fun A hA=>Walks.strAscii hA _ z t) (by decide) (fun A i s Q E st h=>wpAny_pyIter_striter_ascii st h),
   ⟨_,Heap.get?_push_size _ rfl,rfl,rfl⟩,fp,q⟩
end
theorem aIO {σb:St} {x:Str} {g:TG} {tt:TT} {te:TE} {fin:List V → Hp → Prop} {H:Hp} (hz:x.cps.size ≤ sizeLine) (Pv:Nat → List V → Hp → Prop) (h0:Pv 0 [] H) (hl:∀ i ys H,Pv i ys H → ys.length ≤ i)
  (hs:∀ i c ys H (K:VK) (K':Hp → Prop),x.cps[i]? = some c → Pv i ys H → (∀ y H4,Pv (i + 1) (ys ++ [y]) H4 → K y H4) → (∀ H3,Pv (i + 1) ys H3 → K' H3) →
   g (.str ⟨#[c]⟩) σb H fun σ2 H2=>tt σ2 H2 fun b H3=>if b = true then te σ2 H3 K else K' H3)
  (hd:∀ ys H,Pv x.cps.size ys H → fin ys H):∃ W:CW,(∃ m,W 0 m [] H) ∧ ∀ i m ys H,W i m ys H → zL σb (Its x) g tt te W fin i m ys H:=by
 refine ⟨fun i m ys H=>m = x.cps.size - i ∧ i ≤ x.cps.size ∧ Pv i ys H,⟨x.cps.size,by simp,Nat.zero_le _,h0⟩,?_⟩
 rintro i m ys H ⟨rfl,hi,p⟩
 by_cases hlt:i < x.cps.size
 ·refine .inr ⟨hlt,?_,fun v H' y=>?_⟩
  ·have:=hl i ys H p;omega
  ·obtain ⟨e,c,hx,rfl⟩:=y
   subst e
   exact hs i c ys _ _ _ hx p (fun y H4 q=>⟨x.cps.size - (i + 1),by omega,rfl,hlt,q⟩) fun H3 q=>⟨x.cps.size - (i + 1),by omega,rfl,hlt,q⟩
 ·have e:i = x.cps.size:=by omega
  subst e
  exact .inl ⟨rfl,hd ys H p⟩
theorem bH {F:PySem.W.Frag} {a:Addr} {xs:List V} {σb:St} {g:TG} {tt:TT} {te:TE} {fin:List V → Hp → Prop} {H:Hp} (hz:xs.length ≤ sizeLine) (Pv:Nat → List V → Hp → Prop) (h0:Pv 0 [] H)
  (hl:∀ i ys H,i ≤ xs.length → Pv i ys H → SqL F H a xs ∧ ys.length ≤ i)
  (hs:∀ i x ys H (K:VK) (K':Hp → Prop),xs[i]? = some x → Pv i ys H → (∀ y H4,Pv (i + 1) (ys ++ [y]) H4 → K y H4) → (∀ H3,Pv (i + 1) ys H3 → K' H3) →
   g x σb H fun σ2 H2=>tt σ2 H2 fun b H3=>if b = true then te σ2 H3 K else K' H3)
  (hd:∀ ys H,Pv xs.length ys H → fin ys H):∃ W:CW,(∃ m,W 0 m [] H) ∧ ∀ i m ys H,W i m ys H → zL σb (Itl F a) g tt te W fin i m ys H:=by
 refine ⟨fun i m ys H=>m = xs.length - i ∧ i ≤ xs.length ∧ Pv i ys H,⟨xs.length,by simp,Nat.zero_le _,h0⟩,?_⟩
 rintro i m ys H ⟨rfl,hi,p⟩
 obtain ⟨q,ql⟩:=hl i ys H hi p
 by_cases hlt:i < xs.length
 ·refine .inr ⟨⟨xs,xs[i],q,by simp [hlt]⟩,by omega,fun x H' y=>?_⟩
  obtain ⟨e,y⟩:=y
  subst e
  exact hs i x ys _ _ _ (y xs q) p (fun y H4 q=>⟨xs.length - (i + 1),by omega,rfl,hlt,q⟩) fun H3 q=>⟨xs.length - (i + 1),by omega,rfl,hlt,q⟩
 ·have e:i = xs.length:=by omega
  subst e
  exact .inl ⟨⟨xs,q,Nat.le_refl _⟩,hd ys H p⟩
end L2
namespace L2
open PySem PySem.Spec PyProof.Rows
structure DefAt (K:PySem.W.Frag) (mg:Str → Option Value) (x:Str) (st:Stmt) (ps:List Str):Prop where
 ex:∃ (f:Addr) (fd:FuncData),Fun K x x st f fd ∧ gX K fd ps [] ∧ mg x = some (.ref f)
structure Fc (P:Program) (w:World) (K:PySem.W.Frag) (mg:Str → Option Value) (base:Heap) (k:Nat) (x:Str) (ps:List Str) (sp:Sp):Prop where
 ex:∃ (f:Addr) (fd:FuncData),FnOk P w K mg base CX0 k f fd ps sp ∧ gX K fd ps [] ∧ mg x = some (.ref f) ∧ PySem.W.keepIn K (.ref f) = true
section
variable {P:Program} {w:World} {K:PySem.W.Frag} {mg:Str → Option Value} {base:Heap}
theorem DefAt.fc {x:Str} {st:Stmt} {N ps:List Str} {k:Nat} {sp:Sp} (D:DefAt K mg x st ps) (S:FnScope N ps (aF st)) (len:∀ vs H Q E,sp vs H Q E → vs.length = ps.length)
  (hbody:∀ (f:Addr) (cdv:Value) (A:Around) (outer:List Env) (s:Shared) (H:Hp) (vs:List V) (Q:VK) (E:XK),Room k (A.deeper (envOfC x (aF st) s.heap.objs.size f cdv)) → sp vs H Q E →
   ∃ t,PSs (uO CX0 P w K mg base N x (aF st) f cdv A outer s H E).nox (aN st) t ∧ t { nx:=fun _ H'=>Q .non H',rt:=Q } (kE N vs) H):Fc P w K mg base (k + 1) x ps sp:=by
 obtain ⟨f,fd,F,b,m⟩:=D.ex
 exact ⟨f,fd,F.ok S len fun cdv A outer s H vs Q E hr h=>hbody f cdv A outer s H vs Q E hr h,b,m,F.kp⟩
theorem bJ {h:Heap} {x:Str} {st:Stmt} {ps:List Str} {f:Addr} {oc:Value} {od an:Option Addr} {osl:Array (Option Value)} {kV doc pm cdv ct:Value} (X:K.In h) (G:h.Ns mainGlobals mg)
  (a:PySem.W.nsIn K mainGlobals x = some (some (.ref f))) (l:K.lookup f = some ⟨oc,od,.func (PySem.W.fnOf x x (aP st) (aN st) (aF st) .none kV doc pm an cdv ct),osl⟩)
  (c:PySem.W.codeIn K cdv x = true) (k:PySem.W.keepIn K (.ref f) = true)
  (hb:∀ (kV doc pm:Value) (an:Option Addr) (cdv ct:Value) (us:List Value),us.length = ps.length → bindArgs (PySem.W.fnOf x x (aP st) (aN st) (aF st) .none kV doc pm an cdv ct) ⟨us,[]⟩ = pure (ps.zip us)):DefAt K mg x st ps :=
 ⟨f,_,qY l c k,(qY l c k).binds hb,PySem.W.mg_of X G a⟩
end
section
variable {X:Cx} {k:Nat} {ps:List Str} {sp:Sp} {x:Str} {p pos:Pos} {e:Expr} {es:List Expr} {t:TA}
theorem bU (F:Fc X.prog X.w X.K X.mg X.base k x ps sp) (hr:Room k X.A) (ha:PA X (e :: es) t) (hg:Gl X x:=by rfl) (hdb:(x == ("__debug__":Str)) = false:=by decide)
  (he:starEach (e :: es) X.env = (false,eval e X.env) :: starEach es X.env:=by rfl) (hpl:(backTo pos (starEach es X.env)).any (·.1) = false:=by rfl) :
  PE X (.Call (.Name x p) (e :: es) [] pos) (aFU sp [] E0 t):=by
 obtain ⟨f,fd,G,b,m,kp⟩:=F.ex
 exact aJU G hr hg m kp b .nil aDL ha hdb he hpl
end
def sp1 (f:V → Hp → VK → Prop):Sp:=fun vs H Q _=>∃ x,vs = [x] ∧ f x H Q
def sp2 (f:V → V → Hp → VK → Prop):Sp:=fun vs H Q _=>∃ x y,vs = [x,y] ∧ f x y H Q
def sp3 (f:V → V → V → Hp → VK → Prop):Sp:=fun vs H Q _=>∃ x y z,vs = [x,y,z] ∧ f x y z H Q
theorem nG {f:V → Hp → VK → Prop}:∀ vs H Q E,sp1 f vs H Q E → vs.length = 1:=fun vs H Q E ⟨x,e,_⟩=>by rw [e];rfl
theorem iX {f:V → V → Hp → VK → Prop}:∀ vs H Q E,sp2 f vs H Q E → vs.length = 2:=fun vs H Q E ⟨x,y,e,_⟩=>by rw [e];rfl
theorem vK {f:V → V → V → Hp → VK → Prop}:∀ vs H Q E,sp3 f vs H Q E → vs.length = 3:=fun vs H Q E ⟨x,y,z,e,_⟩=>by rw [e];rfl
theorem bP:bootBuiltins "isinstance" = some (.builtin "isinstance"):=by decide +kernel
theorem lD:bootBuiltins "all" = some (.builtin "all"):=by decide +kernel
theorem bS:bootBuiltins "len" = some (.builtin "len"):=by decide +kernel
theorem wS:bootBuiltins "max" = some (.builtin "max"):=by decide +kernel
theorem aFH:bootBuiltins "min" = some (.builtin "min"):=by decide +kernel
theorem oQ:bootBuiltins "str" = some (.type "str"):=by decide +kernel
theorem wT:bootBuiltins "int" = some (.type "int"):=by decide +kernel
theorem uW:bootBuiltins "bool" = some (.type "bool"):=by decide +kernel
theorem dP:bootBuiltins "list" = some (.type "list"):=by decide +kernel
theorem nR:bootBuiltins "tuple" = some (.type "tuple"):=by decide +kernel
theorem fY:bootBuiltins "dict" = some (.type "dict"):=by decide +kernel
theorem wR:bootBuiltins "set" = some (.type "set"):=by decide +kernel
inductive Pl (K:PySem.W.Frag) (H:Hp):V → Prop where
 | non:Pl K H .non
 | bl (b:Bool):Pl K H (.bl b)
 | int (i:Int):Pl K H (.int i)
 | str (x:Str):Pl K H (.str x)
 | lst {a:Addr} {xs:List V} (e:H a = some (.lst xs)):Pl K H (.ref a)
 | frz {a:Addr} {o:Obj} {xs:List V} (e:H a = some (.frz o (.lst xs))):Pl K H (.ref a)
 | tup {a:Addr} {xs:List V} (e:H a = some (.tup xs)):Pl K H (.ref a)
 | dK {a:Addr} {kvs:List (Key × V)} (e:H a = some (.dK kvs)):Pl K H (.ref a)
theorem nH (K:PySem.W.Frag) (n:String):PySem.W.kitOne K (.type n) (.type n) = some true:=by
 unfold PySem.W.kitOne
 rw [if_pos (by simp)]
end L2
namespace L2
open PySem PySem.Spec PyProof.Rows
def lZ (mg:Str → Option Value) (x:Str) (v:V):Prop:=∃ u,mg x = some u ∧ bK v u
theorem tF {X:Cx} {x:Str} {v:V} {pos:Pos} (h:lZ X.mg x v) (hg:Gl X x:=by rfl) (hd:(x == ("__debug__":Str)) = false:=by decide):PE X (.Name x pos) (tC v):=by
 obtain ⟨u,hm,r⟩:=h
 exact aJT hg hm r hd
theorem lT {K:PySem.W.Frag} {mg:Str → Option Value} {h:Heap} {x:Str} {v:V} {u:Value} (X:K.In h) (G:h.Ns mainGlobals mg) (a:PySem.W.nsIn K mainGlobals x = some (some u)) (r:bK v u):lZ mg x v:=⟨u,PySem.W.mg_of X G a,r⟩
end L2
namespace L2
open PySem PySem.Spec PyProof.Rows
def rB:HO → Bool
 | .lst _=>true
 | .dK _=>true
 | .set _ _=>true
 | .ext _=>true
 | .rng _ _=>true
 | _=>false
def gU (H' H'':Hp):Prop:=∀ b,H'' b = H' b ∨ (H'' b = none ∧ ∃ o,H' b = some o ∧ rB o = true)
theorem gU.refl (H:Hp):gU H H:=fun _=>.inl rfl
theorem gU.trans {H1 H2 H3:Hp} (a:gU H1 H2) (b:gU H2 H3):gU H1 H3:=fun c=>by
 rcases b c with e | ⟨e,o,q,d⟩
 ·rcases a c with e' | ⟨e',o,q,d⟩
  ·exact .inl (e.trans e')
  ·exact .inr ⟨e.trans e',o,q,d⟩
 ·rcases a c with e' | ⟨e',_⟩
  ·exact .inr ⟨e,o,e' ▸ q,d⟩
  ·rw [e'] at q;cases q
theorem gU.new {H:Hp} {p:Addr} {o:HO} (h:H p = none) (d:rB o = true):gU (upd H p o) H:=fun b=>by
 by_cases hb:b = p
 ·subst hb
  exact .inr ⟨h,o,aB,d⟩
 ·exact .inl (aR hb).symm
theorem gU.lst {H:Hp} {p:Addr} {xs:List V} (h:H p = none):gU (upd H p (.lst xs)) H:=gU.new h rfl
def dJ (Q:VK):VK:=fun v H'=>∃ H'',gU H' H'' ∧ Q v H''
theorem dJ.of {Q:VK} {v:V} {H H':Hp} (d:gU H' H) (q:Q v H):dJ Q v H':=⟨H,d,q⟩
theorem HOk.drop {P:Program} {w:World} {H' H'':Hp} {h:Heap} (d:gU H' H'') (ok:HOk P w H' h):HOk P w H'' h:=fun b o e=>by
 have e':H' b = some o:=by
  rcases d b with z | ⟨z,_⟩
  ·exact z.symm.trans e
  ·rw [z] at e;cases e
 refine (ok b o e').stay (fun _ _ _ q=>q) (fun c q=>?_) fun c xs q=>?_
 ·rcases d c with z | ⟨_,o',z',dr⟩
  ·exact z.trans q
  ·rw [q] at z';cases z';cases dr
 ·rcases d c with z | ⟨_,o',z',dr⟩
  ·exact z.trans q
  ·rw [q] at z';cases z';cases dr
theorem Un.drop {fs ex:List Addr} {H H' H'':Hp} {h h':Heap} (d:gU H' H'') (u:Un fs ex H H' h h'):Un fs ex H H'' h h' where
 keep:=u.keep
 slot:=u.slot
 free:=fun b o e n hx=>by
  rcases d b with z | ⟨z,_⟩
  ·exact z.trans (u.free b o e n hx)
  ·exact z
 there:=u.there
 tups:=fun b xs e=>by
  have q:=u.tups b xs e
  rcases d b with z | ⟨_,o',z',dr⟩
  ·exact z.trans q
  ·rw [q] at z';cases z';cases dr
 frzs:=fun b o v e=>by
  have q:=u.frzs b o v e
  rcases d b with z | ⟨_,o',z',dr⟩
  ·exact z.trans q
  ·rw [q] at z';cases z';cases dr
 tbls:=fun b ps e=>by
  obtain ⟨m,q⟩:=u.tbls b ps e
  rcases d b with z | ⟨_,o',z',dr⟩
  ·exact ⟨m,z.trans q⟩
  ·rw [q] at z';cases z';cases dr
theorem FnOk.drop {P:Program} {w:World} {K:PySem.W.Frag} {mg:Str → Option Value} {base:Heap} {k:Nat} {f:Addr} {fd:FuncData} {ps:List Str} {sp:Sp} (len:∀ vs H Q E,sp vs H Q E → vs.length = ps.length)
  (F:FnOk P w K mg base CX0 k f fd ps (fun vs H Qd E=>∃ Q,sp vs H Q E ∧ Qd = dJ Q)):FnOk P w K mg base CX0 k f fd ps sp:=by
 refine ⟨len,fun A outer s H args us vs Q E hr he hb hv hs=>codeAny_mono (F.run A outer s H args us vs (dJ Q) E hr he hb hv ⟨Q,hs,rfl⟩) fun r s' h=>?_⟩
 cases r with
 | error e=>exact h
 | ok fl =>
  cases fl with
  | ret u =>
   obtain ⟨v,H',os,bare,un,hok,rv,H'',d,q⟩:=h
   exact ⟨v,H'',os,bare,un.drop d,hok.drop d,rv,q⟩
  | next=>exact h
  | brk=>exact h
  | cont=>exact h
theorem DefAt.fcD {P:Program} {w:World} {K:PySem.W.Frag} {mg:Str → Option Value} {base:Heap} {x:Str} {st:Stmt} {N ps:List Str} {k:Nat} {sp:Sp} (D:DefAt K mg x st ps) (S:FnScope N ps (aF st)) (len:∀ vs H Q E,sp vs H Q E → vs.length = ps.length)
  (hbody:∀ (f:Addr) (cdv:Value) (A:Around) (outer:List Env) (s:Shared) (H:Hp) (vs:List V) (Q:VK) (E:XK),Room k (A.deeper (envOfC x (aF st) s.heap.objs.size f cdv)) → sp vs H Q E →
   ∃ t,PSs (uO CX0 P w K mg base N x (aF st) f cdv A outer s H E).nox (aN st) t ∧ t { nx:=fun _ H'=>dJ Q .non H',rt:=dJ Q } (kE N vs) H):Fc P w K mg base (k + 1) x ps sp:=by
 obtain ⟨f,fd,F,b,m⟩:=D.ex
 refine ⟨f,fd,FnOk.drop len (F.ok S (fun vs H Q E ⟨Q',h,_⟩=>len vs H Q' E h) fun cdv A outer s H vs Q E hr ⟨Q',h,e⟩=>?_),b,m,F.kp⟩
 subst e
 exact hbody f cdv A outer s H vs Q' E hr h
end L2
namespace L2
open PySem PySem.Spec PyProof.Rows
theorem aK.upd {H:Hp} {p:Addr} {o:HO} (h:H p = none):aK H (upd H p o):=fun b u e=>by
 rw [aR (bB e h)]
 exact e
def aDA (K:PySem.W.Frag):Sp:=sp1 fun x H Q=>∃ (a:Addr) (ns:List Int),x = .ref a ∧ SqL K H a (ns.map V.int) ∧ ns.length ≤ 63 ∧ ∀ H',Q (.bl true) H'
theorem walk_law {l:PySem.W.OpenLaw} {q:Program} {loose:List Str} {XP:(Str → Option Value) → Heap → Prop} {YP:World → Heap → Prop} {d:DefRec} {K:Params → PySem.W.Frag} (k:Nat) (hr:Room k callerA) (hn:l.most = some 63) (hdf:d.params.defaults = [])
  (hY:∀ (w:World) (h:Heap),YP w h → (K w.params).In h)
  (F:∀ (w:World) (mg:Str → Option Value) (fa:Addr) (h:Heap),(K w.params).In h → h.Ns mainGlobals mg → mg d.name = some (.ref fa) →
   ∃ fd:FuncData,(∀ (s:Shared) (u:Value),BindsTo s fd ⟨[u],[]⟩ [("_law_script",u)]) ∧ ∀ base:Heap,(K w.params).In base → base.Ns mainGlobals mg → FnOk l.prog w (K w.params) mg base CX0 k fa fd ["_law_script"] (aDA (K w.params))) :
  PySem.W.WalkO q loose XP YP l.row.toRowW d [] (fun f vs=>PySem.call f vs) :=
 L2.walk_of (n:=63) (k:=k) (x:="_law_script") (CX:=fun _=>CX0) (sp:=fun w=>aDA (K w.params)) hn (by decide) hdf hr hY F (fun _ _ a ns hl _ hS=>⟨_,rfl,a,ns,rfl,hS,hl,fun _=>rfl⟩) fun _ _ _ _ _ z=>z
end L2
namespace L2
open PySem PySem.Spec PyProof.Rows
theorem kQ {X:Cx} {x:Str} {n:String} {pos:Pos} (hm:X.mg x = none) (hv:bootBuiltins x = some (.type n)) (hg:Gl X x:=by rfl) (hn:x ≠ "__name__":=by decide) (hd:(x == ("__debug__":Str)) = false:=by decide):PE X (.Name x pos) (tC (.ty n)) :=
 aJV hg hm hv rfl hn hd
end L2
namespace L2
theorem aL {n:Nat} (h:Nat.ble n 1000 = true):n ≤ PySem.sizeLine:=Nat.le_trans (Nat.le_of_ble_eq_true h) (by decide)
end L2
namespace L2
open PySem PySem.Spec PyProof.Rows
def Ite (K:PySem.W.Frag) (a:Addr):It where
 go:=fun i H=>∃ xs x,SqL K H a xs ∧ xs[i]? = some x
 yld:=fun i H v H'=>∃ p x,H p = none ∧ v = .ref p ∧ H' = upd H p (.tup [.int i,x]) ∧ ∀ ys,SqL K H a ys → ys[i]? = some x
 stop:=fun i H=>∃ xs,SqL K H a xs ∧ xs.length ≤ i
end L2
namespace L2
open PySem PySem.Spec PyProof.Rows
inductive Dv where
 | non | bl (b:Bool) | int (i:Int) | str (x:Str) | lst (ds:List Dv) | tup (ds:List Dv) | dct (ks:List Key) (ds:List Dv)
mutual
def Is (H:Hp):Dv → V → Prop
 | .non,v=>v = .non
 | .bl b,v=>v = .bl b
 | .int i,v=>v = .int i
 | .str x,v=>v = .str x
 | .lst ds,v=>∃ a vs,v = .ref a ∧ H a = some (.lst vs) ∧ IsL H ds vs
 | .tup ds,v=>∃ a vs,v = .ref a ∧ H a = some (.tup vs) ∧ IsL H ds vs
 | .dct ks ds,v=>∃ a vs,v = .ref a ∧ H a = some (.dK (ks.zip vs)) ∧ vs.length = ks.length ∧ IsL H ds vs
def IsL (H:Hp):List Dv → List V → Prop
 | [],vs=>vs = []
 | d :: ds,vs=>∃ v r,vs = v :: r ∧ Is H d v ∧ IsL H ds r
end
def aMJ:HO → Bool
 | .lst _=>true
 | .tup _=>true
 | .dK _=>true
 | _=>false
def aDY (H H':Hp):Prop:=∀ b o,H b = some o → aMJ o = true → H' b = some o
mutual
theorem Is.sameD {H H':Hp} (S:aDY H H'):∀ (d:Dv) (v:V),Is H d v → Is H' d v
 | .non,_,h=>h
 | .bl _,_,h=>h
 | .int _,_,h=>h
 | .str _,_,h=>h
 | .lst ds,_,⟨a,vs,e,o,h⟩=>⟨a,vs,e,S _ _ o rfl,IsL.sameD S ds vs h⟩
 | .tup ds,_,⟨a,vs,e,o,h⟩=>⟨a,vs,e,S _ _ o rfl,IsL.sameD S ds vs h⟩
 | .dct ks ds,_,⟨a,vs,e,o,l,h⟩=>⟨a,vs,e,S _ _ o rfl,l,IsL.sameD S ds vs h⟩
theorem IsL.sameD {H H':Hp} (S:aDY H H'):∀ (ds:List Dv) (vs:List V),IsL H ds vs → IsL H' ds vs
 | [],_,h=>h
 | d :: ds,_,⟨v,r,e,h,t⟩=>⟨v,r,e,Is.sameD S d v h,IsL.sameD S ds r t⟩
end
theorem Is.same {H H':Hp} (S:aK H H') (d:Dv) (v:V) (h:Is H d v):Is H' d v:=Is.sameD (fun b o e _=>S b o e) d v h
theorem IsL.same {H H':Hp} (S:aK H H') (ds:List Dv) (vs:List V) (h:IsL H ds vs):IsL H' ds vs:=IsL.sameD (fun b o e _=>S b o e) ds vs h
mutual
def aAX:Dv → Bool
 | .lst _=>false
 | .dct _ _=>false
 | .tup ds=>uG ds
 | _=>true
def uG:List Dv → Bool
 | []=>true
 | d :: ds=>aAX d && uG ds
end
def rS (H H':Hp):Prop:=∀ a xs,H a = some (.tup xs) → H' a = some (.tup xs)
mutual
theorem Is.keep {H H':Hp} (S:rS H H'):∀ (d:Dv) (v:V),aAX d = true → Is H d v → Is H' d v
 | .non,_,_,h=>h
 | .bl _,_,_,h=>h
 | .int _,_,_,h=>h
 | .str _,_,_,h=>h
 | .lst ds,_,f,_=>by cases f
 | .tup ds,_,f,⟨a,vs,e,o,h⟩=>⟨a,vs,e,S _ _ o,IsL.keep S ds vs f h⟩
 | .dct ks ds,_,f,_=>by cases f
theorem IsL.keep {H H':Hp} (S:rS H H'):∀ (ds:List Dv) (vs:List V),uG ds = true → IsL H ds vs → IsL H' ds vs
 | [],_,_,h=>h
 | d :: ds,_,f,⟨v,r,e,h,t⟩=>⟨v,r,e,Is.keep S d v (Bool.and_eq_true_iff.mp f).1 h,IsL.keep S ds r (Bool.and_eq_true_iff.mp f).2 t⟩
end
mutual
def deq:Dv → Dv → Bool
 | .non,.non=>true
 | .bl a,.bl b=>a == b
 | .bl a,.int b=>(if a then 1 else 0) == b
 | .int a,.bl b=>a == (if b then 1 else 0)
 | .int a,.int b=>a == b
 | .str a,.str b=>a == b
 | .lst a,.lst b=>pH a b
 | .tup a,.tup b=>pH a b
 | _,_=>false
def pH:List Dv → List Dv → Bool
 | [],[]=>true
 | a :: r,b :: q=>deq a b && pH r q
 | _,_=>false
end
mutual
def aO:Nat → Dv → Bool
 | _,.dct _ _=>false
 | 0,.lst _=>false
 | 0,.tup _=>false
 | n + 1,.lst ds=>bT n ds
 | n + 1,.tup ds=>bT n ds
 | _,_=>true
def bT:Nat → List Dv → Bool
 | _,[]=>true
 | n,d :: ds=>aO n d && bT n ds
end
mutual
theorem nO:∀ (n:Nat) (d:Dv),aO n d = true → deq d d = true
 | _,.non,_=>rfl
 | _,.bl b,_=>beq_self_eq_true b
 | _,.int i,_=>beq_self_eq_true i
 | _,.str x,_=>beq_self_eq_true x
 | 0,.lst ds,f=>by simp [aO] at f
 | 0,.tup ds,f=>by simp [aO] at f
 | n + 1,.lst ds,f=>rC n ds (by simpa [aO] using f)
 | n + 1,.tup ds,f=>rC n ds (by simpa [aO] using f)
 | n,.dct ks ds,f=>by simp [aO] at f
theorem rC:∀ (n:Nat) (ds:List Dv),bT n ds = true → pH ds ds = true
 | _,[],_=>rfl
 | n,d :: ds,f=>by
  rw [bT,Bool.and_eq_true] at f
  show (deq d d && pH ds ds) = true
  rw [nO n d f.1,rC n ds f.2];rfl
end
theorem IsL.length {H:Hp}:∀ {ds:List Dv} {vs:List V},IsL H ds vs → vs.length = ds.length
 | [],_,h=>by rw [show _ = [] from h];rfl
 | d :: ds,_,⟨v,r,e,_,t⟩=>by rw [e,List.length_cons,List.length_cons,IsL.length t]
mutual
theorem Is.inj {H:Hp}:∀ (d e:Dv) (v:V),Is H d v → Is H e v → (∃ n,aO n d = true) → (∃ n,aO n e = true) → d = e
 | .non,e,v,h,h',_,_=>by
  cases e <;> simp_all [Is]
 | .bl b,e,v,h,h',_,_=>by
  cases e <;> simp_all [Is]
 | .int b,e,v,h,h',_,_=>by
  cases e <;> simp_all [Is]
 | .str b,e,v,h,h',_,_=>by
  cases e <;> simp_all [Is]
 | .lst ds,e,v,⟨a,vs,q,o,h⟩,h',⟨n,f⟩,⟨m,g⟩=>by
  subst q
  cases e with
  | lst es =>
   obtain ⟨a',vs',q',o',h'⟩:=h'
   cases q'
   rw [o] at o'
   cases o'
   cases n with
   | zero=>simp [aO] at f
   | succ n =>
    cases m with
    | zero=>simp [aO] at g
    | succ m=>rw [IsL.inj ds es vs h h' ⟨n,by simpa [aO] using f⟩ ⟨m,by simpa [aO] using g⟩]
  | tup es =>
   obtain ⟨a',vs',q',o',h'⟩:=h'
   cases q'
   rw [o] at o'
   cases o'
  | dct ks es=>simp [aO] at g
  | _=>simp_all [Is]
 | .tup ds,e,v,⟨a,vs,q,o,h⟩,h',⟨n,f⟩,⟨m,g⟩=>by
  subst q
  cases e with
  | tup es =>
   obtain ⟨a',vs',q',o',h'⟩:=h'
   cases q'
   rw [o] at o'
   cases o'
   cases n with
   | zero=>simp [aO] at f
   | succ n =>
    cases m with
    | zero=>simp [aO] at g
    | succ m=>rw [IsL.inj ds es vs h h' ⟨n,by simpa [aO] using f⟩ ⟨m,by simpa [aO] using g⟩]
  | lst es =>
   obtain ⟨a',vs',q',o',h'⟩:=h'
   cases q'
   rw [o] at o'
   cases o'
  | dct ks es=>simp [aO] at g
  | _=>simp_all [Is]
 | .dct ks ds,e,v,_,h',⟨n,f⟩,_=>by simp [aO] at f
theorem IsL.inj {H:Hp}:∀ (ds es:List Dv) (vs:List V),IsL H ds vs → IsL H es vs → (∃ n,bT n ds = true) → (∃ n,bT n es = true) → ds = es
 | [],es,vs,h,h',_,_=>by
  rw [show vs = [] from h] at h'
  cases es with
  | nil=>rfl
  | cons e es=>obtain ⟨v,r,q,_⟩:=h';cases q
 | d :: ds,es,vs,⟨v,r,q,h,t⟩,h',⟨n,f⟩,⟨m,g⟩=>by
  subst q
  cases es with
  | nil=>cases (show v :: r = [] from h')
  | cons e es =>
   obtain ⟨v',r',q',h',t'⟩:=h'
   cases q'
   rw [bT,Bool.and_eq_true] at f g
   rw [Is.inj d e v h h' ⟨n,f.1⟩ ⟨m,g.1⟩,IsL.inj ds es r t t' ⟨n,f.2⟩ ⟨m,g.2⟩]
end
theorem IsL.get {H:Hp}:∀ {ds:List Dv} {vs:List V} {i:Nat} {d:Dv},IsL H ds vs → ds[i]? = some d → ∃ v,vs[i]? = some v ∧ Is H d v
 | [],_,_,_,_,e=>by simp at e
 | d :: ds,_,0,d',⟨v,r,e,h,t⟩,q=>by
  simp at q
  subst q e
  exact ⟨v,rfl,h⟩
 | d :: ds,_,i + 1,d',⟨v,r,e,h,t⟩,q=>by
  subst e
  obtain ⟨u,h1,h2⟩:=IsL.get (i:=i) t (by simpa using q)
  exact ⟨u,by simpa using h1,h2⟩
theorem pG:∀ (ds es:List Dv),ds.length = es.length → (List.range ds.length).all (fun j=>deq (ds.getD j .non) (es.getD j .non)) = pH ds es
 | [],[],_=>rfl
 | d :: ds,e :: es,h=>by
  have ih:=pG ds es (by simpa using h)
  rw [List.length_cons,List.range_succ_eq_map,List.all_cons,List.all_map]
  show (deq d e && (List.range ds.length).all (fun j=>deq (ds.getD j .non) (es.getD j .non))) = (deq d e && pH ds es)
  rw [ih]
 | [],_ :: _,h=>by simp at h
 | _ :: _,[],h=>by simp at h
theorem uM:∀ (ds es:List Dv),ds.length ≠ es.length → pH ds es = false
 | [],[],h=>absurd rfl h
 | d :: ds,e :: es,h=>by
  show (deq d e && pH ds es) = false
  rw [uM ds es (fun q=>h (by simp [q]))]
  simp
 | [],_ :: _,_=>rfl
 | _ :: _,[],_=>rfl
theorem nM:∀ {n:Nat} {ds:List Dv} {i:Nat} {d:Dv},bT n ds = true → ds[i]? = some d → aO n d = true
 | n,[],_,_,_,e=>by simp at e
 | n,d :: ds,0,d',f,e=>by
  simp at e
  subst e
  rw [bT,Bool.and_eq_true] at f
  exact f.1
 | n,d :: ds,i + 1,d',f,e=>by
  rw [bT,Bool.and_eq_true] at f
  exact nM (i:=i) f.2 (by simpa using e)
theorem IsL.snoc {H:Hp} {d:Dv} {v:V} (h:Is H d v):∀ {ds:List Dv} {vs:List V},IsL H ds vs → IsL H (ds ++ [d]) (vs ++ [v])
 | [],_,e=>by
  rw [show _ = [] from e]
  exact ⟨v,[],rfl,h,rfl⟩
 | d' :: ds,_,⟨v',r,e,h',t⟩=>by
  subst e
  exact ⟨v',r ++ [v],rfl,h',IsL.snoc h t⟩
theorem IsL.strs (H:Hp):∀ zs:List Str,IsL H (zs.map Dv.str) (zs.map V.str)
 | []=>rfl
 | z :: zs=>⟨.str z,zs.map V.str,rfl,rfl,IsL.strs H zs⟩
theorem kU:∀ {ds:List Dv},(∀ d ∈ ds,aAX d = true) → uG ds = true
 | [],_=>rfl
 | d :: ds,h=>by
  rw [uG,h d List.mem_cons_self,kU fun e m=>h e (List.mem_cons_of_mem _ m)]
  rfl
theorem rS.lst {H:Hp} {l:Addr} {xs:List V} {o:HO} (h:H l = some (.lst xs)):rS H (upd H l o):=fun a ys e=>by
 have:a ≠ l:=rO e h (by intro z;cases z)
 rw [aR this]
 exact e
theorem aK.over {H H':Hp} {l:Addr} {o:HO} (S:aK H H') (hl:H l = none):aK H (L2.upd H' l o):=fun b u e=>by
 rw [aR (bB e hl)]
 exact S b u e
theorem jS {n:Nat}:∀ {ds:List Dv},(∀ d ∈ ds,aO n d = true) → bT n ds = true
 | [],_=>by rw [bT]
 | d :: ds,h=>by
  rw [bT,h d List.mem_cons_self,jS fun e m=>h e (List.mem_cons_of_mem _ m)]
  rfl
inductive View (s:Shared) (H:Hp):Dv → Value → Prop where
 | non:View s H .non .none
 | bl (b:Bool):View s H (.bl b) (.bool b)
 | int (i:Int) (t:Tok):View s H (.int i) (.int i t)
 | str (x:Str) (t:Tok):View s H (.str x) (.str x t)
 | lst {ds:List Dv} {l:Addr} {its:List Value} {vs:List V} (hl:s.heap.IsList l its.toArray) (r:bQ vs its) (h:IsL H ds vs):View s H (.lst ds) (.ref l)
 | tup {ds:List Dv} {l:Addr} {its:List Value} {vs:List V} (hl:s.heap.IsTuple l its.toArray) (r:bQ vs its) (h:IsL H ds vs):View s H (.tup ds) (.ref l)
section
variable {X:Cx} {pins:List (Addr × Obj)} {σ:St} {H:Hp} {s:Shared}
theorem Is.view (I:Inv X pins σ H s) {n:Nat} {d:Dv} {v:V} {u:Value} (f:aO n d = true) (h:Is H d v) (r:bK v u):View s H d u:=by
 cases d with
 | non=>cases (show v = .non from h);cases r;exact .non
 | bl b=>cases (show v = .bl b from h);cases r;exact .bl b
 | int b=>cases (show v = .int b from h);obtain ⟨t,rfl⟩:=r;exact .int b t
 | str b=>cases (show v = .str b from h);obtain ⟨t,rfl⟩:=r;exact .str b t
 | lst ds =>
  obtain ⟨a,vs,rfl,o,h⟩:=h
  cases r
  obtain ⟨its,rv,pl,hz⟩:=I.list (SqL.of o)
  exact .lst pl.isList rv h
 | tup ds =>
  obtain ⟨a,vs,rfl,o,h⟩:=h
  cases r
  obtain ⟨its,rv,pl,hz⟩:=I.tuple (SqT.of o)
  exact .tup pl rv h
 | dct ks ds=>simp [aO] at f
open PySem.SeqAt in
theorem lO {n:Nat} {A:Around} (hu:A.units + n < cLine)
  (ih:∀ (d e:Dv) (v v':V) (u u':Value) (A:Around),A.units + n < cLine → aO n d = true → aO n e = true → Is H d v → Is H e v' → bK v u → bK v' u' → EqAt A s u u' (deq d e))
  {ds es:List Dv} {vs vs':List V} {its its':List Value} (f:bT n ds = true) (g:bT n es = true) (h:IsL H ds vs) (h':IsL H es vs') (r:bQ vs its) (r':bQ vs' its')
  (j:Nat) (h1:j < its.toArray.size) (h2:j < its'.toArray.size):EqAt A s its.toArray[j] its'.toArray[j] (deq (ds.getD j .non) (es.getD j .non)):=by
 have l1:=r.length
 have l2:=r'.length
 have l3:=h.length
 have l4:=h'.length
 rw [List.size_toArray] at h1 h2
 have e1:ds[j]? = some (ds.getD j .non):=by
  rw [List.getD_eq_getElem?_getD,List.getElem?_eq_getElem (by omega)];rfl
 have e2:es[j]? = some (es.getD j .non):=by
  rw [List.getD_eq_getElem?_getD,List.getElem?_eq_getElem (by omega)];rfl
 obtain ⟨v,q1,i1⟩:=h.get e1
 obtain ⟨v',q2,i2⟩:=h'.get e2
 obtain ⟨u,p1,k1⟩:=r.get q1
 obtain ⟨u',p2,k2⟩:=r'.get q2
 have z1:its.toArray[j] = u:=by
  have:=List.getElem?_eq_some_iff.mp p1
  obtain ⟨_,e⟩:=this
  simpa using e
 have z2:its'.toArray[j] = u':=by
  have:=List.getElem?_eq_some_iff.mp p2
  obtain ⟨_,e⟩:=this
  simpa using e
 rw [z1,z2]
 exact ih _ _ v v' u u' A hu (nM f e1) (nM g e2) i1 i2 k1 k2
open PySem.SeqAt in
theorem aGS (I:Inv X pins σ H s) {n:Nat}
  (ih:∀ (d e:Dv) (v v':V) (u u':Value) (A:Around),A.units + n < cLine → aO n d = true → aO n e = true → Is H d v → Is H e v' → bK v u → bK v' u' → EqAt A s u u' (deq d e))
  (d e:Dv) (v v':V) (u u':Value) (A:Around) (hu:A.units + (n + 1) < cLine) (f:aO (n + 1) d = true) (g:aO (n + 1) e = true) (h:Is H d v) (h':Is H e v') (r:bK v u) (r':bK v' u') :
  RcAt A s u u' (deq d e) ∧ RcNeAt A s u u' (!deq d e):=by
 have hu0:A.units < cLine:=by omega
 have hu1:A.in1.units + n < cLine:=by show A.units + 1 + n < cLine;omega
 have w:=Is.view I f h r
 have w':=Is.view I g h' r'
 cases w with
 | non =>
  cases w' with
  | non=>exact ⟨RcAt.none_none,RcNeAt.none_none⟩
  | bl b=>exact ⟨RcAt.none_bool _,RcNeAt.none_bool _⟩
  | int b t=>exact ⟨RcAt.none_int _ _,RcNeAt.none_int _ _⟩
  | str b t=>exact ⟨RcAt.none_str _ _,RcNeAt.none_str _ _⟩
  | lst hl _ _=>exact ⟨RcAt.none_list hl hu0,RcNeAt.none_list hl hu0⟩
  | tup hl _ _=>exact ⟨RcAt.none_tuple hl hu0,RcNeAt.none_tuple hl hu0⟩
 | bl a =>
  cases w' with
  | non=>exact ⟨RcAt.bool_none _,RcNeAt.bool_none _⟩
  | bl b=>exact ⟨RcAt.bool_bool _ _,RcNeAt.bool_bool _ _⟩
  | int b t=>exact ⟨RcAt.bool_int _ _ _,RcNeAt.bool_int _ _ _⟩
  | str b t=>exact ⟨RcAt.bool_str _ _ _,RcNeAt.bool_str _ _ _⟩
  | lst hl _ _=>exact ⟨RcAt.bool_list _ hl hu0,RcNeAt.bool_list _ hl hu0⟩
  | tup hl _ _=>exact ⟨RcAt.bool_tuple _ hl hu0,RcNeAt.bool_tuple _ hl hu0⟩
 | int a t =>
  cases w' with
  | non=>exact ⟨RcAt.int_none _ _,RcNeAt.int_none _ _⟩
  | bl b=>exact ⟨RcAt.int_bool _ _ _,RcNeAt.int_bool _ _ _⟩
  | int b t=>exact ⟨RcAt.int_int _ _ _ _,RcNeAt.int_int _ _ _ _⟩
  | str b t=>exact ⟨RcAt.int_str _ _ _ _,RcNeAt.int_str _ _ _ _⟩
  | lst hl _ _=>exact ⟨RcAt.int_list _ _ hl hu0,RcNeAt.int_list _ _ hl hu0⟩
  | tup hl _ _=>exact ⟨RcAt.int_tuple _ _ hl hu0,RcNeAt.int_tuple _ _ hl hu0⟩
 | str a t =>
  cases w' with
  | non=>exact ⟨RcAt.str_none _ _,RcNeAt.str_none _ _⟩
  | bl b=>exact ⟨RcAt.str_bool _ _ _,RcNeAt.str_bool _ _ _⟩
  | int b t=>exact ⟨RcAt.str_int _ _ _ _,RcNeAt.str_int _ _ _ _⟩
  | str b t=>exact ⟨RcAt.str_str _ _ _ _,RcNeAt.str_str _ _ _ _⟩
  | lst hl _ _=>exact ⟨RcAt.str_list _ _ hl hu0,RcNeAt.str_list _ _ hl hu0⟩
  | tup hl _ _=>exact ⟨RcAt.str_tuple _ _ hl hu0,RcNeAt.str_tuple _ _ hl hu0⟩
 | @lst ds l its vs hl rv hi =>
  cases w' with
  | non=>exact ⟨RcAt.list_none hl hu0,RcNeAt.list_none hl hu0⟩
  | bl b=>exact ⟨RcAt.list_bool _ hl hu0,RcNeAt.list_bool _ hl hu0⟩
  | int b t=>exact ⟨RcAt.list_int _ _ hl hu0,RcNeAt.list_int _ _ hl hu0⟩
  | str b t=>exact ⟨RcAt.list_str _ _ hl hu0,RcNeAt.list_str _ _ hl hu0⟩
  | @lst es l' its' vs' hl' rv' hi' =>
   have f':bT n ds = true:=by simpa [aO] using f
   have g':bT n es = true:=by simpa [aO] using g
   have l1:=rv.length
   have l2:=rv'.length
   have l3:=hi.length
   have l4:=hi'.length
   by_cases hq:ds.length = es.length
   ·have hsz:its.toArray.size = its'.toArray.size:=by rw [List.size_toArray,List.size_toArray];omega
    have key:(List.range its.toArray.size).all (fun j=>deq (ds.getD j .non) (es.getD j .non)) = deq (.lst ds) (.lst es):=by
     rw [List.size_toArray,show its.length = ds.length by omega]
     exact pG ds es hq
    rw [← key]
    exact ⟨RcAt.lists hl hl' hsz hu0 (lO hu1 ih f' g' hi hi' rv rv'),RcNeAt.lists hl hl' hsz hu0 (lO hu1 ih f' g' hi hi' rv rv')⟩
   ·have key:deq (.lst ds) (.lst es) = false:=uM ds es hq
    have hsz:(its.toArray.size != its'.toArray.size) = true:=by
     rw [List.size_toArray,List.size_toArray,bne_iff_ne];omega
    rw [key]
    exact ⟨RcAt.lists_lengths hl hl' hsz hu0,RcNeAt.lists_lengths hl hl' hsz hu0⟩
  | tup hl' _ _=>exact ⟨RcAt.list_tuple hl hl' hu0,RcNeAt.list_tuple hl hl' hu0⟩
 | @tup ds l its vs hl rv hi =>
  cases w' with
  | non=>exact ⟨RcAt.tuple_none hl hu0,RcNeAt.tuple_none hl hu0⟩
  | bl b=>exact ⟨RcAt.tuple_bool _ hl hu0,RcNeAt.tuple_bool _ hl hu0⟩
  | int b t=>exact ⟨RcAt.tuple_int _ _ hl hu0,RcNeAt.tuple_int _ _ hl hu0⟩
  | str b t=>exact ⟨RcAt.tuple_str _ _ hl hu0,RcNeAt.tuple_str _ _ hl hu0⟩
  | lst hl' _ _=>exact ⟨RcAt.tuple_list hl hl' hu0,RcNeAt.tuple_list hl hl' hu0⟩
  | @tup es l' its' vs' hl' rv' hi' =>
   have f':bT n ds = true:=by simpa [aO] using f
   have g':bT n es = true:=by simpa [aO] using g
   have l1:=rv.length
   have l2:=rv'.length
   have l3:=hi.length
   have l4:=hi'.length
   have key:((List.range (min its.toArray.size its'.toArray.size)).all (fun j=>deq (ds.getD j .non) (es.getD j .non)) && its.toArray.size == its'.toArray.size) = deq (.tup ds) (.tup es):=by
    rw [List.size_toArray,List.size_toArray,show its.length = ds.length by omega,show its'.length = es.length by omega]
    show _ = pH ds es
    by_cases hq:ds.length = es.length
    ·rw [← hq,Nat.min_self,pG ds es hq]
     simp
    ·rw [uM ds es hq,beq_eq_false_iff_ne.mpr hq]
     simp
   rw [← key]
   exact ⟨RcAt.tuples hl hl' hu0 (lO hu1 ih f' g' hi hi' rv rv'),RcNeAt.tuples hl hl' hu0 (lO hu1 ih f' g' hi hi' rv rv')⟩
open PySem.SeqAt in
theorem Is.eqAt (I:Inv X pins σ H s):∀ (n:Nat) (d e:Dv) (v v':V) (u u':Value) (A:Around),A.units + n < cLine → aO n d = true → aO n e = true → Is H d v → Is H e v' → bK v u → bK v' u' → EqAt A s u u' (deq d e):=by
 intro n
 induction n with
 | zero =>
  intro d e v v' u u' A hu f g h h' r r'
  cases d with
  | lst _=>simp [aO] at f
  | tup _=>simp [aO] at f
  | dct _ _=>simp [aO] at f
  | non =>
   cases e with
   | lst _=>simp [aO] at g
   | tup _=>simp [aO] at g
   | dct _ _=>simp [aO] at g
   | _=>cases h;cases h';exact lX r r' rfl rfl
  | bl b =>
   cases e with
   | lst _=>simp [aO] at g
   | tup _=>simp [aO] at g
   | dct _ _=>simp [aO] at g
   | _=>cases h;cases h';exact lX r r' rfl rfl
  | int b =>
   cases e with
   | lst _=>simp [aO] at g
   | tup _=>simp [aO] at g
   | dct _ _=>simp [aO] at g
   | _=>cases h;cases h';exact lX r r' rfl rfl
  | str b =>
   cases e with
   | lst _=>simp [aO] at g
   | tup _=>simp [aO] at g
   | dct _ _=>simp [aO] at g
   | _=>cases h;cases h';exact lX r r' rfl rfl
 | succ n ih =>
  intro d e v v' u u' A hu f g h h' r r'
  have rc:=(aGS I ih d e v v' u u' A hu f g h h' r r').1
  have w:=Is.view I f h r
  have w':=Is.view I g h' r'
  have fin:∀ (l l':Addr),u = .ref l → u' = .ref l' → EqAt A s u u' (deq d e):=by
   rintro l l' rfl rfl
   by_cases hq:l = l'
   ·subst hq
    have e1:v = .ref l:=r.inj (show bK (.ref l) (.ref l) from rfl)
    have e2:v' = .ref l:=r'.inj (show bK (.ref l) (.ref l) from rfl)
    subst e1 e2
    have e3:=Is.inj d e _ h h' ⟨_,f⟩ ⟨_,g⟩
    subst e3
    rw [nO _ d f]
    exact EqAt.same _
   ·exact EqAt.of_refs hq rc
  cases w with
  | lst hl _ _ =>
   cases w' with
   | lst hl' _ _=>exact fin _ _ rfl rfl
   | tup hl' _ _=>exact fin _ _ rfl rfl
   | non=>exact EqAt.list_none hl (by omega)
   | bl b=>exact EqAt.list_bool _ hl (by omega)
   | int b t=>exact EqAt.list_int _ _ hl (by omega)
   | str b t=>exact EqAt.list_str _ _ hl (by omega)
  | tup hl _ _ =>
   cases w' with
   | lst hl' _ _=>exact fin _ _ rfl rfl
   | tup hl' _ _=>exact fin _ _ rfl rfl
   | non=>exact EqAt.tuple_none hl (by omega)
   | bl b=>exact EqAt.tuple_bool _ hl (by omega)
   | int b t=>exact EqAt.tuple_int _ _ hl (by omega)
   | str b t=>exact EqAt.tuple_str _ _ hl (by omega)
  | non =>
   cases w' with
   | lst hl' _ _=>exact EqAt.none_list hl' (by omega)
   | tup hl' _ _=>exact EqAt.none_tuple hl' (by omega)
   | _=>cases h;cases h';exact lX r r' rfl rfl
  | bl b =>
   cases w' with
   | lst hl' _ _=>exact EqAt.bool_list _ hl' (by omega)
   | tup hl' _ _=>exact EqAt.bool_tuple _ hl' (by omega)
   | _=>cases h;cases h';exact lX r r' rfl rfl
  | int b t =>
   cases w' with
   | lst hl' _ _=>exact EqAt.int_list _ _ hl' (by omega)
   | tup hl' _ _=>exact EqAt.int_tuple _ _ hl' (by omega)
   | _=>cases h;cases h';exact lX r r' rfl rfl
  | str b t =>
   cases w' with
   | lst hl' _ _=>exact EqAt.str_list _ _ hl' (by omega)
   | tup hl' _ _=>exact EqAt.str_tuple _ _ hl' (by omega)
   | _=>cases h;cases h';exact lX r r' rfl rfl
end
def aJM (neg:Bool):R2:=fun x y H Q=>∃ d e,Is H d x ∧ Is H e y ∧ aO 30 d = true ∧ aO 30 e = true ∧ Q (.bl (if neg then !deq d e else deq d e)) H
theorem tN {X:Cx} (hu:X.A.units + 64 < cLine):OpR X (compareOp .Eq) (aJM false):=by
 intro pins s σ H x y v u Q I rx ry h
 obtain ⟨d,e,h,h',f,g,q⟩:=h
 exact (aGS (n:=29) I (Is.eqAt I 29) d e x y v u X.A (by omega) f g h h' rx ry).1 _ _ _ _ ⟨.bl _,H,I,rfl,q⟩
theorem tL {X:Cx} (hu:X.A.units + 64 < cLine):OpR X (compareOp .NotEq) (aJM true):=by
 intro pins s σ H x y v u Q I rx ry h
 obtain ⟨d,e,h,h',f,g,q⟩:=h
 exact (aGS (n:=29) I (Is.eqAt I 29) d e x y v u X.A (by omega) f g h h' rx ry).2 _ _ _ _ ⟨.bl _,H,I,rfl,q⟩
def aPA (neg:Bool):R2:=fun x y H Q=>∃ d p xs ds,(H p = some (.lst xs) ∨ H p = some (.tup xs)) ∧ y = .ref p ∧ Is H d x ∧ IsL H ds xs ∧ aO 30 d = true ∧ bT 30 ds = true ∧ Q (.bl (if neg then !(ds.any fun e=>deq e d) else ds.any fun e=>deq e d)) H
end L2
namespace L2
open PySem PySem.Spec PyProof.Rows
instance keyMem (k:Key) (l:List Key):Decidable (k ∈ l):=decidable_of_iff (l.any (fun x=>decide (x = k)) = true) (by simp)
def eC (key:Nat → Key):Nat → List Key
 | 0=>[]
 | i + 1=>if key i ∈ eC key i then eC key i else eC key i ++ [key i]
theorem sI (key:Nat → Key):∀ i,(eC key i).length ≤ i
 | 0=>Nat.le_refl _
 | i + 1=>by
  have ih:=sI key i
  show (if key i ∈ eC key i then eC key i else eC key i ++ [key i]).length ≤ i + 1
  split
  ·omega
  ·rw [List.length_append,List.length_singleton];omega
theorem aAV (key:Nat → Key) (k:Key):∀ i,k ∈ eC key i ↔ ∃ j,j < i ∧ key j = k
 | 0=>by
  constructor
  ·intro h;cases h
  ·rintro ⟨j,h,_⟩;omega
 | i + 1=>by
  have ih:=aAV key k i
  show k ∈ (if key i ∈ eC key i then eC key i else eC key i ++ [key i]) ↔ _
  have step:(k ∈ eC key i ∨ k = key i) ↔ ∃ j,j < i + 1 ∧ key j = k:=by
   rw [ih]
   constructor
   ·rintro (⟨j,h,e⟩ | e)
    ·exact ⟨j,by omega,e⟩
    ·exact ⟨i,by omega,e.symm⟩
   ·rintro ⟨j,h,e⟩
    by_cases hj:j = i
    ·subst hj;exact .inr e.symm
    ·exact .inl ⟨j,by omega,e⟩
  rw [← step]
  split
  ·rename_i h
   constructor
   ·exact .inl
   ·rintro (h' | rfl)
    ·exact h'
    ·exact h
  ·rw [List.mem_append,List.mem_singleton]
theorem wD (key:Nat → Key):∀ n,(eC key n).length = n ↔ ∀ i j,i < j → j < n → key i ≠ key j
 | 0=>⟨fun _ i j _ h=>absurd h (Nat.not_lt_zero _),fun _=>rfl⟩
 | n + 1=>by
  have ih:=wD key n
  have le:=sI key n
  have mm:=aAV key (key n) n
  show (if key n ∈ eC key n then eC key n else eC key n ++ [key n]).length = n + 1 ↔ _
  split
  ·rename_i h
   constructor
   ·intro e;omega
   ·intro e
    obtain ⟨j,hj,q⟩:=mm.mp h
    exact absurd q (e j n hj (Nat.lt_succ_self n))
  ·rename_i h
   rw [List.length_append,List.length_singleton,Nat.add_right_cancel_iff,ih]
   constructor
   ·intro e i j hi hj
    by_cases q:j = n
    ·subst q
     exact fun z=>h (mm.mpr ⟨i,hi,z⟩)
    ·exact e i j hi (by omega)
   ·intro e i j hi hj
    exact e i j hi (by omega)
def uN (ks:List Key):List Key:=eC (fun i=>ks.getD i (.inl 0)) ks.length
theorem wN (ks:List Key):(uN ks).length = ks.length ↔ ks.Nodup:=by
 unfold uN
 rw [wD,List.nodup_iff_pairwise_ne,List.pairwise_iff_getElem]
 constructor
 ·intro h i j hi hj hij
  have:=h i j hij hj
  simpa [List.getD_eq_getElem?_getD,hi,hj] using this
 ·intro h i j hij hj
  have hi:i < ks.length:=by omega
  have:=h i j hi hj hij
  simpa [List.getD_eq_getElem?_getD,hi,hj] using this
theorem aDU (ks:List Key):(uN ks).length ≤ ks.length:=sI _ _
def aFK (P:Program) (w:World) (a:Addr) (S:Key → Bool) (n:Nat):HO:=.ext fun h=>h.SetOf (aV P w) a S n
theorem aFK.ok {P:Program} {w:World} {H:Hp} {h:Heap} {a:Addr} {S:Key → Bool} {n:Nat} (x:h.SetOf (aV P w) a S n):cU P w H h a (aFK P w a S n) :=
 ⟨x,let ⟨o,_,_,_,ho,_⟩:=x;⟨o,ho⟩,fun _ _ ⟨o,es,ep,t,ho,r⟩ k=>⟨o,es,ep,t,k o ho,r⟩⟩
theorem aHQ {P:Program} {w:World} {k:Key} {v:Value} (h:(aV P w).is k v = true):v.scannable = true:=by
 rcases cS h with ⟨i,t,rfl,rfl⟩ | ⟨x,t,rfl,rfl⟩ <;> rfl
section
variable {P:Program} {w:World} {A:Around} {R:Result → Shared → Prop} {I:Addr} {fp wr:List Addr} {G:Array GenState → Array GenState → Prop} {n:Nat} {Pv:Nat → Value → Prop} {Stt:Nat → Shared → Prop}
theorem aBS {h:Heap} {a:Addr} {S S':Key → Bool} {n n':Nat} (x:h.SetOf (aV P w) a S n) (e:∀ k,S k = S' k) (q:n = n'):h.SetOf (aV P w) a S' n':=by
 obtain rfl:S = S':=funext e
 subst q
 exact x
theorem aGL (W:WalksS P w A.in1 I fp wr G n Pv Stt) (D:Addr) (hD:D ∉ fp) (key:Nat → Key) (hv:∀ i v,Pv i v → (aV P w).is (key i) v = true) (hb:n + 1 < scanBound) (fin:∀ s s',Moved (D :: wr) G s s' → s'.heap.SetOf (aV P w) D (fun k=>decide (k ∈ eC key n)) (eC key n).length → True) :
  ∀ (m i:Nat) (s:Shared),n - i = m → i ≤ n → Stt i s → s.heap.SetOf (aV P w) D (fun k=>decide (k ∈ eC key i)) (eC key i).length →
   (∀ s',Moved (D :: wr) G s s' → s'.heap.SetOf (aV P w) D (fun k=>decide (k ∈ eC key n)) (eC key n).length → R (.ok (.ret .none)) s') →
   codeAny (model P w) A (.builtin "set.update.loop" ⟨[.ref D,.ref I],[]⟩) R s:=by
 have hDw:D ∉ wr:=fun z=>hD (W.sub _ z)
 have sub:∀ b ∈ wr,b ∈ D :: wr:=fun b z=>List.mem_cons_of_mem _ z
 have moved:∀ {s s':Shared} {S:Key → Bool} {c:Nat},Moved wr G s s' → s.heap.SetOf (aV P w) D S c → s'.heap.SetOf (aV P w) D S c:=fun mv ⟨o,es,ep,t,ho,r⟩=>⟨o,es,ep,t,mv.heap D _ hDw ho,r⟩
 intro m
 induction m with
 | zero =>
  intro i s e1 e2 st hS hR
  obtain rfl:i = n:=by omega
  refine codeAny_builtin PyProof.Rows.F.entry_set_update_loop ?_
  rw [Around.under_plainId PyProof.Rows.F.plain_set_update_loop _]
  show wpAny _ A.in1 (pyNext (.ref I) >>= _) _ _ s
  refine wpAny_bind (W.done s _ _ st fun s' mv=>?_)
  exact wpAny_pure (hR s' (mv.mono sub) (moved mv hS))
 | succ m ih =>
  intro i s e1 e2 st hS hR
  have lt:i < n:=by omega
  refine codeAny_builtin PyProof.Rows.F.entry_set_update_loop ?_
  rw [Around.under_plainId PyProof.Rows.F.plain_set_update_loop _]
  show wpAny _ A.in1 (pyNext (.ref I) >>= _) _ _ s
  refine wpAny_bind (W.item i s _ _ lt st fun v s' pv st' mv=>?_)
  have hk:=hv i v pv
  have hS1:=moved mv hS
  show wpAny _ A.in1 (holding [v] (setAdd D v) >>= _) _ _ s'
  refine wpAny_bind (wpAny_holding ?_)
  unfold setAdd
  refine wpAny_holding (wpAny_bind ((aV P w).pyHash (k:=key i) hk ?_))
  have aLN:(eC key i).length + 1 < scanBound:=by have:=sI key i;omega
  refine wpAny_setAddHashed_of (knd:=aV P w) (s:={ s' with toks:=s'.toks + 1 }) hk (aHQ hk) hS1 aLN fun h' sb hS2=>?_
  have hS3:h'.SetOf (aV P w) D (fun k=>decide (k ∈ eC key (i + 1))) (eC key (i + 1)).length:=by
   refine aBS hS2 (fun k=>?_) ?_
   ·show (decide (k ∈ eC key i) || decide (k = key i)) = decide (k ∈ if key i ∈ eC key i then eC key i else eC key i ++ [key i])
    by_cases z:key i ∈ eC key i
    ·rw [if_pos z]
     by_cases y:k = key i
     ·subst y;simp [z]
     ·simp [y]
    ·rw [if_neg z]
     simp
   ·show (if decide (key i ∈ eC key i) = true then (eC key i).length else (eC key i).length + 1) = (if key i ∈ eC key i then eC key i else eC key i ++ [key i]).length
    by_cases z:key i ∈ eC key i
    ·rw [if_pos z,if_pos (decide_eq_true z)]
    ·rw [if_neg z,if_neg (by simpa using z)]
     simp
  refine wpAny_pure ⟨plainId_quiet PyProof.Rows.F.plain_set_update_loop _,ih (i + 1) _ (by omega) lt (W.frame _ s' _ _ st' (Nat.le_succ _) fun b hb o e=>?_) hS3 fun s2 mv2 hS4=>?_⟩
  ·rw [sb.2 b (fun z:b = D=>hD (by rw [← z];exact hb))]
   exact e
  ·refine hR s2 (Moved.trans W.gtrans ((mv.mono sub).then_heap (Nat.le_succ _) fun b o hb e=>?_) mv2) hS4
   rw [sb.2 b (fun z:b = D=>hb (by rw [z];exact List.mem_cons_self))]
   exact e
end
section
variable {P:Program} {w:World} {A:Around} {E:Value → Shared → Prop} {s:Shared}
abbrev tX (led:Bool):Obj:={ cls:=.type "set",dict:=none,data:=.set #[] 0 (.fresh 0 0 led) }
set_option maxHeartbeats 8000000 in
theorem zX {l:Addr} {its:List Value} {ks:List Key} {Q:Value → Shared → Prop} (hh:A.handled = none) (hl:s.heap.IsList l its.toArray) (hk:∀ i v,its[i]? = some v → (aV P w).is (ks.getD i (.inl 0)) v = true) (hn:its.length = ks.length) (hb:its.length + 1 < scanBound)
  (h:∀ (h':Heap) (tk:Nat),h'.SetOf (aV P w) s.heap.objs.size (fun k=>decide (k ∈ uN ks)) (uN ks).length → (∀ b o,s.heap.get? b = some o → h'.get? b = some o) → Q (.ref s.heap.objs.size) { s with heap:=h',toks:=tk }) :
  wpAny (model P w) A (call (.type "set") [.ref l]) Q E s:=by
 obtain ⟨c,tl,hmro⟩:=PySem.F.called_set.mro
 have m1:=PySem.F.called_set.made
 have m2:=PySem.F.called_set.sub
 refine wpAny_call (codeAny_of_tree ?_)
 show wpAny _ _ (callAny (.type "set") _) _ _ _
 refine wpAny_pure ⟨Code.quiet_builtin _ (by decide +kernel),codeAny_builtin PySem.F.entry_type_call ?_⟩
 rw [Around.under_plain (weight_type_call_type "set" [.ref l] []) rfl]
 have m3:=PySem.F.called_set.notType
 have m4:=PySem.F.called_set.canCreate
 have m5:=PySem.F.typeCall_set_1 (.ref l)
 repeat (any_goals (first | assumption | wp_step))
 refine codeAny_mono (code_set_new_1 (.ref l) (E:=E) (Q₁:=fun ob s1=>∃ led:Bool,ob = .ref s.heap.objs.size ∧ s1 = { s with heap:=s.heap.push (tX led) }) fun led=>⟨led,rfl,rfl⟩) fun r s1 hr=>?_
 cases r with
 | error e=>exact hr
 | ok fl =>
  cases fl with
  | ret ob =>
   obtain ⟨led,rfl,rfl⟩:=hr
   have hS:(s.heap.push (tX led)).get? s.heap.objs.size = some (tX led):=Heap.get?_push_size _ rfl
   have hT:Shared.TypeIs { s with heap:=s.heap.push (tX led) } (.ref s.heap.objs.size) "set":=⟨_,hS,rfl⟩
   have m6:=PySem.F.called_set.init.lookup
   have m7:=PySem.F.called_set.init.bind (.ref s.heap.objs.size)
   repeat (any_goals (first | assumption | wp_step))
   refine codeAny_mono (codeAny_call_builtin (R:=wants (fun r s2=>r = .none ∧ ∃ h' tk,s2 = { s with heap:=h',toks:=tk } ∧ h'.SetOf (aV P w) s.heap.objs.size (fun k=>decide (k ∈ uN ks)) (uN ks).length ∧ (∀ b o,s.heap.get? b = some o → h'.get? b = some o)) E)
    PySem.F.called_set.init.plain PySem.F.entry_set_init (check_set_init_1 hT ?_)) fun r2 s2 hr2=>?_
   ·obtain ⟨⟨oc,od,oda,osl⟩,hol,hcl,nl,hdl⟩:=hl
    simp only at hcl hdl
    subst hcl hdl
    have hol1:(s.heap.push (tX led)).get? l = some { cls:=.type "list",dict:=od,data:=.seq its.toArray nl,slots:=osl }:=Heap.get?_push_of_some _ hol
    have m8:=PySem.F.sub_list_set
    have m9:=PySem.F.sub_list_frozenset
    have m10:(Value.type "list" == Value.type "dict") = false:=by decide
    have hl1:(s.heap.push (tX led)).IsList l its.toArray:=⟨_,hol1,rfl,nl,rfl⟩
    have lS:l < s.heap.objs.size:=Heap.lt_size hol
    unfold Builtin.«set.__init__» noKeywords Builtin.Frozenset.updateFrom
    generalize hPI:pyIter = PI
    wp_walk
    subst hPI
    refine wpAny_pyIter_list hl1 (wpAny_bind (wpAny_runValue ?_))
    have hh3:A.in1.in1.in1.handled = none:=by simp [hh]
    have nI:l ≠ (s.heap.push (tX led)).objs.size:=by rw [Heap.size_push];exact Nat.ne_of_lt (Nat.lt_succ_of_lt lS)
    have nS:s.heap.objs.size ∉ [(s.heap.push (tX led)).objs.size,l]:=by
     rw [Heap.size_push]
     simp only [List.mem_cons,List.mem_singleton,List.not_mem_nil,or_false,not_or]
     exact ⟨Nat.ne_of_lt (Nat.lt_succ_self _),Nat.ne_of_gt lS⟩
    have sz:its.toArray.size = ks.length:=by rw [List.size_toArray,hn]
    refine aGL ((Walks.list hh3 _ l nI its.toArray).toS) s.heap.objs.size nS (fun i=>ks.getD i (.inl 0)) (fun i v pv=>hk i v (by simpa using pv)) (by rw [List.size_toArray];exact hb) (fun _ _ _ _=>trivial) (its.toArray.size - 0) 0 _ (by omega) (Nat.zero_le _)
     ⟨⟨_,Heap.get?_push_size _ rfl,rfl,rfl⟩,(hl1.push _)⟩ ?_ ?_
    ·have g:((s.heap.push (tX led)).push { cls:=.type "list_iterator",data:=.fields #[.ref l,.int 0 0] }).get? s.heap.objs.size = some (tX led):=Heap.get?_push_of_some _ hS
     exact ⟨_,#[],0,_,g,⟨rfl,rfl,rfl⟩,rfl,fun e he=>by simp at he,fun k=>by simp [eC],by decide,by rfl,rfl⟩
    ·intro s3 mv hS3
     obtain ⟨h3,g3,d3,t3,o3⟩:=s3
     have e1:g3 = s.gens:=mv.gens
     have e2:d3 = s.drawn:=mv.drawn
     have e3:o3 = s.os:=mv.os
     subst e1 e2 e3
     rw [sz] at hS3
     show wpAny _ _ _ _ _ _
     refine wpAny_pure ?_
     show wpAny _ _ (ret Value.none) _ _ _
     refine wpAny_pure ⟨rfl,h3,t3,rfl,hS3,fun b o e=>?_⟩
     have lb:=Heap.lt_size e
     have b1:b ≠ s.heap.objs.size:=Nat.ne_of_lt lb
     have b2:b ≠ (s.heap.push (tX led)).objs.size:=by rw [Heap.size_push];exact Nat.ne_of_lt (Nat.lt_succ_of_lt lb)
     exact mv.heap b o (by simp only [List.mem_cons,List.mem_singleton,List.not_mem_nil,or_false,not_or];exact ⟨b1,b2⟩) (Heap.get?_push_of_some _ (Heap.get?_push_of_some _ e))
   ·cases r2 with
    | error e=>exact hr2
    | ok f2 =>
     cases f2 with
     | ret r =>
      obtain ⟨rfl,h',tk,rfl,hS2,hk2⟩:=hr2
      repeat (any_goals (first | assumption | wp_step))
      exact h _ _ hS2 hk2
     | _=>exact hr2.elim
  | _=>exact hr.elim
end
section
variable {X:Cx}
theorem aDQ {P:Program} {w:World}:∀ {ks:List Key} {us:List Value},bQ (ks.map kV) us → ∀ i v,us[i]? = some v → (aV P w).is (ks.getD i (.inl 0)) v = true
 | [],us,r,i,v,e=>by
  rw [List.map_nil] at r
  cases r
  simp at e
 | k :: ks,us,r,i,v,e=>by
  rw [List.map_cons] at r
  cases r with
  | cons r1 r2 =>
   cases i with
   | zero =>
    simp at e
    subst e
    cases k with
    | inl z=>obtain ⟨t,rfl⟩:=r1;exact qU z t
    | inr z=>obtain ⟨t,rfl⟩:=r1;exact qT z t
   | succ i =>
    have:=aDQ (P:=P) (w:=w) r2 i v (by simpa using e)
    simpa using this
theorem oU (hc:X.calm = true):fB X (.type "set") (fun xs H Q=>∃ (p:Addr) (ks:List Key),xs = [.ref p] ∧ SqL X.K H p (ks.map kV) ∧ ks.length ≤ 1000 ∧
  ∀ l,H l = none → Q (.ref l) (upd H l (aFK X.prog X.w l (fun k=>decide (k ∈ uN ks)) (uN ks).length))):=by
 intro pins s σ H xs us Q I r h
 obtain ⟨p,ks,rfl,hq,hn,q⟩:=h
 obtain ⟨u,rfl,ru⟩:=bQ.one r
 cases ru
 obtain ⟨its,rv,pl,hz⟩:=I.list hq
 have hlen:=rv.length
 rw [List.length_map] at hlen
 refine zX (ks:=ks) (I.ok.hd hc) pl.isList (aDQ rv) hlen.symm (by unfold scanBound;omega) fun h' tk hS hk=>?_
 exact ⟨.ref s.heap.objs.size,_,I.laid (t':=tk) hk (Nat.le_refl _) (aFK.ok hS),rfl,q _ (I.hok.fresh (Nat.le_refl _))⟩
theorem call_len_set:fB X (.builtin "len") (fun xs H Q=>∃ l S n,xs = [.ref l] ∧ H l = some (aFK X.prog X.w l S n) ∧ n ≤ 1000 ∧ Q (.int n) H):=by
 intro pins s σ H xs us Q I r h
 obtain ⟨l,S,n,rfl,e,hn,q⟩:=h
 obtain ⟨u,rfl,ru⟩:=bQ.one r
 cases ru
 obtain ⟨⟨o,es,ep,t,ho,hex,hd,hel,hmem,hb,hf,hes⟩,_⟩:=I.hok l _ e
 refine PySem.call_len_set ho hex hd hf (by rw [hes];omega) ⟨.int n,H,I.tok _,⟨s.toks + 1,by rw [hes]⟩,q⟩
end
end L2
namespace L2
open PySem PySem.Spec PyProof.Rows
section
variable {X:Cx}
theorem wI {k:Key} {v:Value} (h:uC k v = true):bK (kV k) v:=by
 rcases cS h with ⟨i,t,rfl,rfl⟩ | ⟨x,t,rfl,rfl⟩
 ·exact ⟨t,rfl⟩
 ·exact ⟨t,rfl⟩
theorem xA:∀ {xs:List V} {us:List Value},us.length = xs.length → (∀ (j:Nat) (u:Value) (x:V),us[j]? = some u → xs[j]? = some x → bK x u) → bQ xs us
 | [],[],_,_=>.nil
 | x :: xs,u :: us,hl,h=>.cons (h 0 u x rfl rfl) (xA (by simpa using hl) fun j v y e1 e2=>h (j + 1) v y (by simpa using e1) (by simpa using e2))
 | [],_ :: _,hl,_=>by simp at hl
 | _ :: _,[],hl,_=>by simp at hl
theorem KV.get:∀ {kvs:List (Key × V)} {vs:List (Key × Value)} {i:Nat} {p:Key × Value},KV kvs vs → vs[i]? = some p → ∃ q,kvs[i]? = some q ∧ q.1 = p.1 ∧ bK q.2 p.2
 | _,_,_,_,.nil,e=>by simp at e
 | _,_,0,_,.cons r _,e=>by simp at e;subst e;exact ⟨_,rfl,r.1,r.2⟩
 | _,_,i + 1,p,.cons _ t,e=>by
  obtain ⟨q,h1,h2⟩:=KV.get (i:=i) (p:=p) t (by simpa using e)
  exact ⟨q,by simpa using h1,h2⟩
theorem nP (hc:X.calm = true):fB X (.type "list") (fun xs H Q=>∃ p kvs,xs = [.ref p] ∧ Rd H p (.dK kvs) ∧ ∀ l,H l = none → Q (.ref l) (upd H l (.lst (kvs.map fun kv=>kV kv.1)))):=by
 intro pins s σ H xs us Q I r h
 obtain ⟨p,kvs,rfl,hq,q⟩:=h
 obtain ⟨u,rfl,ru⟩:=bQ.one r
 cases ru
 obtain ⟨hz,lo,vs,kv,hD⟩:=hq.ok I.hok
 obtain ⟨ep,hat⟩:=hD.dictAt
 have hl:=KV.length kv
 refine PySem.W.kdl_call (PySem.W.kdl_dict (knd:=aV X.prog X.w) (kvs:=vs) (ep:=ep) lo) (I.ok.hd hc) hat (by omega) fun h' tk acc c hk hg hi=>?_
 refine ⟨.ref s.heap.objs.size,_,I.laid (t':=tk) hk (Nat.le_refl _) (show cU X.prog X.w _ h' _ (.lst (kvs.map fun kv=>kV kv.1)) from ⟨by rw [List.length_map];exact hz,acc.toList,c,?_,by simpa using hg⟩),rfl,q _ (I.hok.fresh (Nat.le_refl _))⟩
 refine xA (by rw [List.length_map,Array.length_toList,hi.1,hl]) fun j u x e1 e2=>?_
 obtain ⟨k,y,e3,e4⟩:=hi.2 j u (by rw [← Array.getElem?_toList];exact e1)
 obtain ⟨z,e5,e6,_⟩:=KV.get kv e3
 rw [List.getElem?_map,e5] at e2
 have e2':kV z.1 = x:=by simpa using e2
 subst e2'
 rw [show z.1 = k from e6]
 exact wI e4
def aBI (v d:Addr):HO:=.ext fun h=>h.IsValuesView v d
theorem aBI.ok {P:Program} {w:World} {H:Hp} {h:Heap} {v d:Addr} (x:h.IsValuesView v d):cU P w H h v (aBI v d) :=
 ⟨x,let ⟨o,ho,_⟩:=x;⟨o,ho⟩,fun _ _ ⟨o,ho,r⟩ k=>⟨o,k o ho,r⟩⟩
theorem wC:MtR X "dict.values" (fun x vs H Q=>∃ d kvs,x = .ref d ∧ vs = [] ∧ Rd H d (.dK kvs) ∧ ∀ v,H v = none → Q (.ref v) (upd H v (aBI v d))):=by
 intro pins s σ H x vs v us Q I rx rv h
 obtain ⟨d,kvs,rfl,rfl,hq,q⟩:=h
 cases rx
 have hus:=rv.zero
 subst hus
 obtain ⟨hz,lo,ws,kv,hD⟩:=hq.ok I.hok
 refine call_meetsIn PySem.F.slot_dict_values hD.typeIs PySem.F.entry_dict_values (PySem.F.args_dict_values_1 _) (meets_dict_values (aV X.prog X.w) d lo) ⟨⟨ws,hD⟩,?_⟩
 exact ⟨.ref s.heap.objs.size,_,I.laid (t':=s.toks) (fun b ob e=>Heap.get?_push_of_some _ e) (Nat.le_refl _) (aBI.ok ⟨_,Heap.get?_push_size _ rfl,rfl,rfl⟩),rfl,q _ (I.hok.fresh (Nat.le_refl _))⟩
theorem lC (hc:X.calm = true):fB X (.type "list") (fun xs H Q=>∃ v d kvs,xs = [.ref v] ∧ H v = some (aBI v d) ∧ Rd H d (.dK kvs) ∧ ∀ l,H l = none → Q (.ref l) (upd H l (.lst (kvs.map (·.2))))):=by
 intro pins s σ H xs us Q I r h
 obtain ⟨v,d,kvs,rfl,ev,hq,q⟩:=h
 obtain ⟨u,rfl,ru⟩:=bQ.one r
 cases ru
 obtain ⟨hz,lo,vs,kv,hD⟩:=hq.ok I.hok
 obtain ⟨hv,_⟩:=I.hok v _ ev
 obtain ⟨ep,hat⟩:=hD.dictAt
 have hl:=KV.length kv
 refine PySem.W.kdl_call (PySem.W.kdl_values (knd:=aV X.prog X.w) (kvs:=vs) (ep:=ep)) (I.ok.hd hc) ⟨hv,hat⟩ (by omega) fun h' tk acc c hk hg hi=>?_
 refine ⟨.ref s.heap.objs.size,_,I.laid (t':=tk) hk (Nat.le_refl _) (show cU X.prog X.w _ h' _ (.lst (kvs.map (·.2))) from ⟨by rw [List.length_map];exact hz,acc.toList,c,?_,by simpa using hg⟩),rfl,q _ (I.hok.fresh (Nat.le_refl _))⟩
 refine xA (by rw [List.length_map,Array.length_toList,hi.1,hl]) fun j u x e1 e2=>?_
 obtain ⟨k,e3⟩:=hi.2 j u (by rw [← Array.getElem?_toList];exact e1)
 obtain ⟨z,e5,_,e6⟩:=KV.get kv e3
 rw [List.getElem?_map,e5] at e2
 have e2':z.2 = x:=by simpa using e2
 subst e2'
 exact e6
end
section
variable {X:Cx} {e se:Expr} {te ts:TE} {p2 pos:Pos}
end
end L2
namespace L2
open PySem PySem.Spec PyProof.Rows
theorem tZ:typeLookup (.type "list") "keys" = pure none:=by rw [typeLookup_type,builtinLookup_eq_fast];kernel_rfl
section
variable {P:Program} {w:World} {A:Around} {E:Value → Shared → Prop} {s:Shared}
theorem yF {a:Addr} {xs:Array Value} {k:Nat} {sl:Array (Option Value)} {Q:Option Value → Shared → Prop} (hA:A.handled = none) (hx:s.heap.get? a = some { cls:=.type "list",dict:=none,data:=.seq xs k,slots:=sl })
  (h:∀ h' tk,(∀ b o,s.heap.get? b = some o → h'.get? b = some o) → Q none { s with heap:=h',toks:=tk }):wpAny (model P w) A (getAttr? (.ref a) "keys") Q E s:=by
 obtain ⟨hp,g,d,tk,os⟩:=s
 have hT:∀ tk',(⟨hp,g,d,tk',os⟩:Shared).TypeIs (.ref a) "list":=fun _=>⟨_,hx,rfl⟩
 have f1:=sub_AttributeError
 have f3:=F.slot_list_getattribute.lookup
 have f4:=F.slot_list_getattribute.bind (.ref a)
 have f5:=am_list_getattr_none
 unfold getAttr? getAttrBy? getAttrBy
 repeat (any_goals (first | assumption | exact hT _ | ((with_reducible show wpAny _ _ (call (Value.builtin "list.__getattribute__") _ _) _ _ _);refine call_meets F.slot_list_getattribute (hT _) am_entry_list_getattribute (F.args_list_getattribute_2 _ _) (meets_getattribute_miss_list a xs k sl "keys" _ tZ (by decide +kernel)) ⟨hx,hA,fun h' tk' e hx'=>?_⟩) | wp_step))
 obtain ⟨t',u',he⟩:=hx'.there
 show wpAny _ _ (getattributeRaised _ _ _ _ _ _ _) _ _ _
 unfold getattributeRaised
 repeat (any_goals (first | assumption | wp_step))
 exact h _ _ hx'.keeps
end
theorem mI:entryFor table "dict.update.loop" = some Builtin.«dict.update.loop»:=entryFor_of_tree (by kernel_rfl)
theorem gE:plainId "dict.update.loop" = true:=by decide +kernel
section
variable {P:Program} {w:World} {A:Around} {R:Result → Shared → Prop} {I:Addr} {fp wr:List Addr} {G:Array GenState → Array GenState → Prop} {n:Nat} {Pv:Nat → Value → Prop} {Stt:Nat → Shared → Prop}
theorem aFC (W:WalksS P w A.in1 I fp wr G n Pv Stt) (D:Addr) (hD:D ∉ fp) (res:Value) (kvs:List (Key × Value)) (hn:kvs.length = n) (hz:n ≤ sizeLine) (s₀:Shared)
  (hv:∀ (i:Nat) (v:Value),Pv i v → ∃ (a:Addr) (k:Key) (kv x:Value) (ob:Obj) (c:Nat),v = .ref a ∧ a ∉ D :: wr ∧ s₀.heap.get? a = some ob ∧ ob.cls = .type "tuple" ∧ ob.data = .seq #[kv,x] c ∧ kvs[i]? = some (k,x) ∧ (aV P w).is k kv = true) :
  ∀ (m i:Nat) (s:Shared),n - i = m → i ≤ n → Stt i s → (∀ b o,b ∉ D :: wr → s₀.heap.get? b = some o → s.heap.get? b = some o) → s.heap.DictOf (aV P w) D (merged [] (kvs.take i)) →
   (∀ s',Moved (D :: wr) G s s' → s'.heap.DictOf (aV P w) D (merged [] kvs) → R (.ok (.ret res)) s') →
   codeAny (model P w) A (.builtin "dict.update.loop" ⟨[.ref D,.ref I,rawInt i,res],[]⟩) R s:=by
 have hDw:D ∉ wr:=fun z=>hD (W.sub _ z)
 have sub:∀ b ∈ wr,b ∈ D :: wr:=fun b z=>List.mem_cons_of_mem _ z
 have moved:∀ {s s':Shared} {l:List (Key × Value)},Moved wr G s s' → s.heap.DictOf (aV P w) D l → s'.heap.DictOf (aV P w) D l:=fun mv ⟨o,es,ep,ho,r⟩=>⟨o,es,ep,mv.heap D _ hDw ho,r⟩
 intro m
 induction m with
 | zero =>
  intro i s e1 e2 st kp hS hR
  obtain rfl:i = n:=by omega
  rw [List.take_of_length_le (by omega)] at hS
  refine codeAny_builtin mI ?_
  rw [Around.under_plainId gE _]
  show wpAny _ A.in1 (pyNext (.ref I) >>= _) _ _ s
  refine wpAny_bind (W.done s _ _ st fun s' mv=>?_)
  show wpAny _ A.in1 (Builtin.Dict.addKeywords D [] >>= _) _ _ s'
  refine wpAny_bind (wpAny_pure ?_)
  exact wpAny_pure (hR s' (mv.mono sub) (moved mv hS))
 | succ m ih =>
  intro i s e1 e2 st kp hS hR
  have lt:i < n:=by omega
  refine codeAny_builtin mI ?_
  rw [Around.under_plainId gE _]
  show wpAny _ A.in1 (pyNext (.ref I) >>= _) _ _ s
  refine wpAny_bind (W.item i s _ _ lt st fun v s' pv st' mv=>?_)
  obtain ⟨a,k,kv,x,ob,c,rfl,ha,hg,hc,hd,hi,hk⟩:=hv i v pv
  have hS1:=moved mv hS
  have hg1:s'.heap.get? a = some ob:=mv.heap a ob (fun z=>ha (sub a z)) (kp a ob ha hg)
  have hT:s'.TypeIs (.ref a) "tuple":=⟨ob,hg1,hc⟩
  refine wpAny_bind (wpAny_holding (wpAny_bind (wpAny_tryCatch ?_)))
  unfold Builtin.Dict.pairItems
  refine wpAny_bind (wpAny_typeOf hT ?_)
  rw [if_pos (by decide)]
  refine wpAny_bind (wpAny_seqItems hg1 hd (wpAny_pure ?_))
  show wpAny _ _ (holding [kv,x] (dictSet D kv x)) _ _ s'
  refine wpAny_holding (wpAny_dictSet_pairs hk hS1 (fun h' hS2 sb=>?_) ?_)
  ·have e:merged [] (kvs.take (i + 1)) = stored (merged [] (kvs.take i)) k x:=merged_take_succ [] kvs i (k,x) hi
   rw [← e] at hS2
   refine wpAny_pure ⟨plainId_quiet gE _,ih (i + 1) _ (by omega) lt (W.frame _ s' _ _ st' (Nat.le_succ _) fun b hb o e=>?_) (fun b o hb e=>?_) hS2 fun s2 mv2 hS4=>?_⟩
   ·rw [sb.2 b (fun z:b = D=>hD (by rw [← z];exact hb))]
    exact e
   ·rw [sb.2 b (fun z:b = D=>hb (by rw [z];exact List.mem_cons_self))]
    exact mv.heap b o (fun z=>hb (sub b z)) (kp b o hb e)
   ·refine hR s2 (Moved.trans W.gtrans ((mv.mono sub).then_heap (Nat.le_succ _) fun b o hb e=>?_) mv2) hS4
    rw [sb.2 b (fun z:b = D=>hb (by rw [z];exact List.mem_cons_self))]
    exact e
  ·have:=merged_length_le ([]:List (Key × Value)) (kvs.take i)
   rw [List.length_take] at this
   simp only [List.length_nil] at this
   omega
end
section
variable {P:Program} {w:World} {A:Around} {E:Value → Shared → Prop} {s:Shared}
theorem vM {l:Addr} {its:List Value} {kvs:List (Key × Value)} {Q:Value → Shared → Prop} (hh:A.handled = none) (hl:PlainL s.heap l its.toArray) (hn:its.length = kvs.length) (hz:its.length ≤ sizeLine)
  (hv:∀ (i:Nat) (v:Value),its[i]? = some v → ∃ (a:Addr) (k:Key) (kv x:Value) (ob:Obj) (c:Nat),v = .ref a ∧ s.heap.get? a = some ob ∧ ob.cls = .type "tuple" ∧ ob.data = .seq #[kv,x] c ∧ kvs[i]? = some (k,x) ∧ (aV P w).is k kv = true)
  (h:∀ (h':Heap) (tk:Nat),h'.DictOf (aV P w) s.heap.objs.size (merged [] kvs) → (∀ b o,s.heap.get? b = some o → h'.get? b = some o) → Q (.ref s.heap.objs.size) { s with heap:=h',toks:=tk }) :
  wpAny (model P w) A (call (.type "dict") [.ref l]) Q E s:=by
 refine callType_codes (Q₁:=fun (obj:Value) (s₁:Shared)=>obj = Value.ref s.heap.objs.size ∧ s₁ = { s with heap:=s.heap.push { cls:=.type "dict",data:=.dict #[] } }) F.kt_called_dict (F.kt_typeCall_dict_1 _) F.entry_dict_init (kt_code_dict_new _ ⟨rfl,rfl⟩) ?_
 rintro obj s₁ ⟨rfl,rfl⟩
 have hnew:(s.heap.push { cls:=.type "dict",data:=.dict #[] }).DictOf (aV P w) s.heap.objs.size []:=Heap.DictOf.new s.heap
 obtain ⟨⟨oc,od,oda,osl⟩,nl,hol,hcl,hod,hdl⟩:=id hl
 simp only at hcl hod hdl
 subst hcl hod hdl
 have lS:l < s.heap.objs.size:=Heap.lt_size hol
 have hol1:=Heap.get?_push_of_some (h:=s.heap) { cls:=.type "dict",data:=.dict #[] } hol
 refine ⟨hnew.typeIs,F.args_dict_init_2 _ _,?_⟩
 unfold Builtin.«dict.__init__»
 refine wpAny_bind ?_
 unfold Builtin.Dict.selfAndRest
 refine wpAny_bind (wpAny_notOrdered_dict hnew.typeIs ?_)
 show wpAny _ _ (pure (s.heap.objs.size,[Value.ref l])) _ _ _
 refine wpAny_pure ?_
 show wpAny _ _ (Builtin.Dict.updateFrom "dict.__init__" s.heap.objs.size (.ref l) [] .none) _ _ _
 unfold Builtin.Dict.updateFrom
 refine wpAny_bind (wpAny_typeOf (T:="list") ⟨_,hol1,rfl⟩ ?_)
 rw [if_pos (by decide)]
 refine wpAny_bind (yF (by simp [hh]) hol1 fun h1 t1 k1=>?_)
 show wpAny _ _ (rule _ >>= _) _ _ _
 refine wpAny_bind (wpAny_rule ?_)
 have hol2:=k1 _ _ hol1
 have hl2:h1.IsList l its.toArray:=⟨_,hol2,rfl,nl,rfl⟩
 refine wpAny_bind (wpAny_pyIter_list (s:={ s with heap:=h1,toks:=t1 }) hl2 ?_)
 have sz1:s.heap.objs.size < h1.objs.size:=by
  obtain ⟨o,es,ep,ho,_⟩:=hnew
  exact Heap.lt_size (k1 _ _ ho)
 have nI:l ≠ h1.objs.size:=Nat.ne_of_lt (Heap.lt_size hol2)
 have nD:s.heap.objs.size ∉ [h1.objs.size,l]:=by
  simp only [List.mem_cons,List.mem_singleton,List.not_mem_nil,or_false,not_or]
  exact ⟨Nat.ne_of_lt sz1,Nat.ne_of_gt lS⟩
 refine wpAny_pure ⟨plainId_quiet gE _,?_⟩
 have hh2:A.in1.in1.handled = none:=by simp [hh]
 refine aFC ((Walks.list hh2 _ l nI its.toArray).toS) s.heap.objs.size nD .none kvs (by rw [List.size_toArray,hn]) (by rw [List.size_toArray];exact hz) { s with heap:=h1.push { cls:=.type "list_iterator",data:=.fields #[.ref l,.int 0 0] },toks:=t1 } (fun i v pv=>?_) (its.toArray.size - 0) 0 _ (by omega) (Nat.zero_le _)
  ⟨⟨_,Heap.get?_push_size _ rfl,rfl,rfl⟩,(hl2.push _)⟩ (fun _ _ _ e=>e) ?_ ?_
 ·obtain ⟨a,k,kv,x,ob,c,rfl,hg,hc,hd,hi,hk⟩:=hv i v (by simpa using pv)
  have la:=Heap.lt_size hg
  refine ⟨a,k,kv,x,ob,c,rfl,?_,Heap.get?_push_of_some _ (k1 _ _ (Heap.get?_push_of_some _ hg)),hc,hd,hi,hk⟩
  simp only [List.mem_cons,List.mem_singleton,List.not_mem_nil,or_false,not_or]
  exact ⟨Nat.ne_of_lt la,Nat.ne_of_lt (Nat.lt_trans la sz1)⟩
 ·obtain ⟨o,es,ep,ho,r⟩:=hnew
  exact ⟨o,es,ep,Heap.get?_push_of_some _ (k1 _ _ ho),r⟩
 ·intro s3 mv hS3
  obtain ⟨h3,g3,d3,t3,o3⟩:=s3
  have e1:g3 = s.gens:=mv.gens
  have e2:d3 = s.drawn:=mv.drawn
  have e3:o3 = s.os:=mv.os
  subst e1 e2 e3
  refine ⟨rfl,h h3 t3 hS3 fun b o e=>?_⟩
  have lb:=Heap.lt_size e
  refine mv.heap b o ?_ (Heap.get?_push_of_some _ (k1 _ _ (Heap.get?_push_of_some _ e)))
  simp only [List.mem_cons,List.mem_singleton,List.not_mem_nil,or_false,not_or]
  exact ⟨Nat.ne_of_lt lb,Nat.ne_of_lt (Nat.lt_trans lb sz1)⟩
end
def bZ (H:Hp) (ys:List V) (kvs:List (Key × V)):Prop:=Paired (fun (y:V) (kv:Key × V)=>∃ a,y = .ref a ∧ H a = some (.tup [kV kv.1,kv.2])) ys kvs
theorem bZ.nil (H:Hp):bZ H [] []:=Paired.nil
theorem bZ.len {H:Hp} {ys:List V} {kvs:List (Key × V)} (h:bZ H ys kvs):ys.length = kvs.length:=Paired.length h
theorem bZ.same {H H':Hp} (S:aK H H'):∀ {ys:List V} {kvs:List (Key × V)},bZ H ys kvs → bZ H' ys kvs
 | _,_,Paired.nil=>Paired.nil
 | _,_,Paired.cons ⟨a,e,o⟩ t=>Paired.cons ⟨a,e,S _ _ o⟩ (bZ.same S t)
theorem bZ.snoc {H:Hp} {ys:List V} {kvs:List (Key × V)} {p:Addr} {k:Key} {v:V} (h:bZ H ys kvs) (hp:H p = none):bZ (upd H p (.tup [kV k,v])) (ys ++ [.ref p]) (kvs ++ [(k,v)]) :=
 Paired.snoc (h.same (aK.upd hp)) ⟨p,rfl,aB⟩
section
variable {X:Cx}
theorem aJK {P:Program} {w:World} {k:Key} {u:Value} (r:bK (kV k) u):(aV P w).is k u = true:=by
 cases k with
 | inl z=>obtain ⟨t,rfl⟩:=r;exact qU z t
 | inr z=>obtain ⟨t,rfl⟩:=r;exact qT z t
theorem pT {pins:List (Addr × Obj)} {σ:St} {H:Hp} {s:Shared} (I:Inv X pins σ H s):∀ {ys:List V} {kvs:List (Key × V)} {its:List Value},bZ H ys kvs → bQ ys its →
  ∃ vk:List (Key × Value),KV kvs vk ∧ its.length = vk.length ∧ ∀ (i:Nat) (v:Value),its[i]? = some v → ∃ (a:Addr) (k:Key) (kv x:Value) (ob:Obj) (c:Nat),v = .ref a ∧ s.heap.get? a = some ob ∧ ob.cls = .type "tuple" ∧ ob.data = .seq #[kv,x] c ∧ vk[i]? = some (k,x) ∧ (aV X.prog X.w).is k kv = true
 | _,_,_,Paired.nil,Paired.nil=>⟨[],Paired.nil,rfl,fun i v e=>by simp at e⟩
 | _,(k,v0) :: kvs,u :: its,Paired.cons ⟨a,e,o⟩ t,Paired.cons r rs=>by
  obtain ⟨vk,h1,h2,h3⟩:=pT I t rs
  subst e
  cases r
  obtain ⟨tis,rt,⟨ob,g,hc,c,hd⟩,_⟩:=I.tuple (SqT.of o)
  obtain ⟨ku,xu,rfl,rk,rx⟩:=bQ.two rt
  refine ⟨(k,xu) :: vk,Paired.cons ⟨rfl,rx⟩ h1,by simp [h2],fun i v e=>?_⟩
  cases i with
  | zero =>
   simp at e
   subst e
   exact ⟨a,k,ku,xu,ob,c,rfl,g,hc,hd,rfl,aJK rk⟩
  | succ i =>
   obtain ⟨a',k',kv',x',ob',c',q⟩:=h3 i v (by simpa using e)
   exact ⟨a',k',kv',x',ob',c',by simpa using q⟩
theorem dA (hc:X.calm = true):fB X (.type "dict") (fun xs H Q=>∃ (p:Addr) (ys:List V) (kvs:List (Key × V)),xs = [.ref p] ∧ SqL X.K H p ys ∧ bZ H ys kvs ∧ kvs.length ≤ 1000 ∧ (kvs.map (·.1)).Nodup ∧ ∀ l,H l = none → Q (.ref l) (upd H l (.dK kvs))):=by
 intro pins s σ H xs us Q I r h
 obtain ⟨p,ys,kvs,rfl,hq,hp,hn,nd,q⟩:=h
 obtain ⟨u,rfl,ru⟩:=bQ.one r
 cases ru
 obtain ⟨its,rv,pl,hz⟩:=I.list hq
 obtain ⟨vk,kv,el,hv⟩:=pT I hp rv
 have big:(1000:Nat) ≤ sizeLine:=by decide
 have l1:=KV.length kv
 have ek:vk.map (·.1) = kvs.map (·.1):=(KV.keys kv).symm
 refine vM (kvs:=vk) (I.ok.hd hc) pl el (by omega) hv fun h' tk hD hk=>?_
 rw [merged_nil_of_nodup vk (by rw [ek];exact nd)] at hD
 refine ⟨.ref s.heap.objs.size,_,I.laid (t':=tk) hk (Nat.le_refl _) (show cU X.prog X.w _ h' _ (.dK kvs) from ⟨by omega,?_,vk,kv,hD⟩),rfl,q _ (I.hok.fresh (Nat.le_refl _))⟩
 have b:=I.big
 exact beq_eq_false_iff_ne.mpr (Nat.ne_of_gt b)
end
end L2
namespace L2
open PySem PySem.Spec PyProof.Rows
structure MethAt (K:PySem.W.Frag) (C:Addr) (m qual:Str) (st:Stmt) (ps:List Str):Prop where
 ex:∃ (f:Addr) (fd:FuncData),Fun K m qual st f fd ∧ gX K fd ps [] ∧ Meth K C m f
structure InitAt (K:PySem.W.Frag) (C:Addr) (qual:Str) (st:Stmt) (ps:List Str):Prop where
 ex:∃ (f:Addr) (fd:FuncData),Fun K "__init__" qual st f fd ∧ gX K fd ps [] ∧ Mk K C f
structure Mc (P:Program) (w:World) (K:PySem.W.Frag) (mg:Str → Option Value) (base:Heap) (k:Nat) (C:Addr) (m:Str) (ps:List Str) (sp:Sp):Prop where
 ex:∃ (f:Addr) (fd:FuncData),FnOk P w K mg base CX0 k f fd ps sp ∧ gX K fd ps [] ∧ Meth K C m f
structure Ic (P:Program) (w:World) (K:PySem.W.Frag) (mg:Str → Option Value) (base:Heap) (k:Nat) (C:Addr) (ps:List Str) (sp:Sp):Prop where
 ex:∃ (f:Addr) (fd:FuncData),FnOk P w K mg base CX0 k f fd ps sp ∧ gX K fd ps [] ∧ Mk K C f
section
variable {P:Program} {w:World} {K:PySem.W.Frag} {mg:Str → Option Value} {base:Heap} {C:Addr} {m qual:Str} {st:Stmt} {N ps:List Str} {k:Nat} {sp:Sp}
theorem MethAt.mc (D:MethAt K C m qual st ps) (S:FnScope N ps (aF st)) (len:∀ vs H Q E,sp vs H Q E → vs.length = ps.length)
  (hbody:∀ (f:Addr) (cdv:Value) (A:Around) (outer:List Env) (s:Shared) (H:Hp) (vs:List V) (Q:VK) (E:XK),Room k (A.deeper (envOfC qual (aF st) s.heap.objs.size f cdv)) → sp vs H Q E →
   ∃ t,PSs (uO CX0 P w K mg base N qual (aF st) f cdv A outer s H E).nox (aN st) t ∧ t { nx:=fun _ H'=>Q .non H',rt:=Q } (kE N vs) H):Mc P w K mg base (k + 1) C m ps sp:=by
 obtain ⟨f,fd,F,b,mm⟩:=D.ex
 exact ⟨f,fd,F.ok S len fun cdv A outer s H vs Q E hr h=>hbody f cdv A outer s H vs Q E hr h,b,mm⟩
theorem InitAt.ic (D:InitAt K C qual st ps) (S:FnScope N ps (aF st)) (len:∀ vs H Q E,sp vs H Q E → vs.length = ps.length)
  (hbody:∀ (f:Addr) (cdv:Value) (A:Around) (outer:List Env) (s:Shared) (H:Hp) (vs:List V) (Q:VK) (E:XK),Room k (A.deeper (envOfC qual (aF st) s.heap.objs.size f cdv)) → sp vs H Q E →
   ∃ t,PSs (uO CX0 P w K mg base N qual (aF st) f cdv A outer s H E).nox (aN st) t ∧ t { nx:=fun _ H'=>Q .non H',rt:=Q } (kE N vs) H):Ic P w K mg base (k + 1) C ps sp:=by
 obtain ⟨f,fd,F,b,mm⟩:=D.ex
 exact ⟨f,fd,F.ok S len fun cdv A outer s H vs Q E hr h=>hbody f cdv A outer s H vs Q E hr h,b,mm⟩
theorem Mc.imp {sp':Sp} (F:Mc P w K mg base k C m ps sp) (h:∀ vs H Q E,sp' vs H Q E → sp vs H Q E):Mc P w K mg base k C m ps sp':=by
 obtain ⟨f,fd,G,b,mm⟩:=F.ex
 exact ⟨f,fd,G.imp h,b,mm⟩
theorem iW {f:Addr} {oc:Value} {od an:Option Addr} {osl:Array (Option Value)} {kV doc pm cdv ct:Value} (a:PySem.W.findIn K (.ref C) m = some (some (.ref f))) (i:PySem.W.isFn K (.ref f) = true)
  (l:K.lookup f = some ⟨oc,od,.func (PySem.W.fnOf m qual (aP st) (aN st) (aF st) .none kV doc pm an cdv ct),osl⟩) (c:PySem.W.codeIn K cdv qual = true) (kp:PySem.W.keepIn K (.ref f) = true)
  (hb:∀ (kV doc pm:Value) (an:Option Addr) (cdv ct:Value) (us:List Value),us.length = ps.length → bindArgs (PySem.W.fnOf m qual (aP st) (aN st) (aF st) .none kV doc pm an cdv ct) ⟨us,[]⟩ = pure (ps.zip us)):MethAt K C m qual st ps :=
 ⟨f,_,qY l c kp,(qY l c kp).binds hb,⟨a,i,kp⟩⟩
theorem aKF {f:Addr} {oc:Value} {od an:Option Addr} {osl:Array (Option Value)} {kV doc pm cdv ct:Value} (a:PySem.W.findIn K (.ref C) "__init__" = some (some (.ref f))) (i:PySem.W.isFn K (.ref f) = true)
  (l:K.lookup f = some ⟨oc,od,.func (PySem.W.fnOf "__init__" qual (aP st) (aN st) (aF st) .none kV doc pm an cdv ct),osl⟩) (c:PySem.W.codeIn K cdv qual = true) (kp:PySem.W.keepIn K (.ref f) = true)
  (mk:PySem.W.makesIn K C = true) (kc:PySem.W.keepIn K (.ref C) = true)
  (hb:∀ (kV doc pm:Value) (an:Option Addr) (cdv ct:Value) (us:List Value),us.length = ps.length → bindArgs (PySem.W.fnOf "__init__" qual (aP st) (aN st) (aF st) .none kV doc pm an cdv ct) ⟨us,[]⟩ = pure (ps.zip us)):InitAt K C qual st ps :=
 ⟨f,_,qY l c kp,(qY l c kp).binds hb,⟨mk,a,i,kc⟩⟩
end
section
variable {X:Cx} {k:Nat} {ps:List Str} {sp:Sp} {x m:Str} {p pos apos:Pos} {o e:Expr} {es:List Expr} {ta:TE} {t:TA} {C:Addr}
theorem aNT {pl:Sem Bool} (c:Cls X.K C) (F:Mc X.prog X.w X.K X.mg X.base k C m ps sp) (hr:Room k X.A) (ho:PE X o ta) (ha:PA X (e :: es) t)
  (hst:starEach (e :: es) X.env = (false,eval e X.env) :: starEach es X.env:=by rfl) (hpl:(backTo pos (starEach es X.env)).any (·.1) = false:=by rfl)
  (ht:eval (.Call (.Attribute o m apos) (e :: es) [] pos) X.env = (do
   let ov ← eval o X.env
   standAt apos.atName
   let (f,first) ← holding [ov] (getMethod ov m pl)
   callWith pos f first (backTo pos (starEach (e :: es) X.env)) (backToKw pos (keywordEach [] X.env))):=by rfl) :
  PE X (.Call (.Attribute o m apos) (e :: es) [] pos) (aCU C m sp [] E0 ta t):=by
 obtain ⟨f,fd,G,b,mm⟩:=F.ex
 exact aJR (pl:=pl) ho c mm G hr b .nil aDL ha hst hpl ht
theorem kR {pl:Sem Bool} (c:Cls X.K C) (F:Mc X.prog X.w X.K X.mg X.base k C m ps sp) (hr:Room k X.A) (ho:PE X o ta)
  (ht:eval (.Call (.Attribute o m apos) [] [] pos) X.env = (do
   let ov ← eval o X.env
   standAt apos.atName
   let (f,first) ← holding [ov] (getMethod ov m pl)
   callWith pos f first (backTo pos (starEach [] X.env)) (backToKw pos (keywordEach [] X.env))):=by rfl) :
  PE X (.Call (.Attribute o m apos) [] [] pos) (aCU C m sp [] E0 ta aFS):=by
 obtain ⟨f,fd,G,b,mm⟩:=F.ex
 exact aGZ (pl:=pl) ho c mm G hr b .nil aDL ht
theorem aNS (hm:X.mg x = some (.ref C)) (F:Ic X.prog X.w X.K X.mg X.base k C ps sp) (hr:Room (k + 1) X.A) (ha:PA X (e :: es) t) (hg:Gl X x:=by rfl) (hdb:(x == ("__debug__":Str)) = false:=by decide)
  (he:starEach (e :: es) X.env = (false,eval e X.env) :: starEach es X.env:=by rfl) (hpl:(backTo pos (starEach es X.env)).any (·.1) = false:=by rfl) :
  PE X (.Call (.Name x p) (e :: es) [] pos) (aKX C sp [] E0 t):=by
 obtain ⟨f,fd,G,b,mm⟩:=F.ex
 exact aJS mm G hr hg hm b .nil aDL ha hdb he hpl
end
section
variable {X:Cx} {K:PySem.W.Frag}
theorem bD (e:X.K = K):IxR X (aNR K):=by subst e;exact aMH
theorem bL (e:X.K = K):IxR X (aLP K):=by subst e;exact aKD
theorem fE (e:X.K = K):SlR X (aJL K):=by subst e;exact aJI
theorem lL (e:X.K = K):OpR X (compareOp .In) (rIn K false):=by subst e;exact aEL
theorem hX (e:X.K = K):OpR X (compareOp .NotIn) (rIn K true):=by subst e;exact xY
theorem aY (e:X.K = K):fB X (.builtin "len") (fun xs H Q=>∃ p ys,xs = [.ref p] ∧ (SqL K H p ys ∨ SqT K H p ys) ∧ Q (.int ys.length) H):=by subst e;exact zB
theorem bY (e:X.K = K):fB X (.builtin "isinstance") (fun xs H Q=>∃ x y c t b,xs = [x,y] ∧ aMR y = some c ∧ TyOf K H x t ∧ PySem.W.kitOne K t c = some b ∧ Q (.bl b) H):=by subst e;exact aBF
theorem oV (e:X.K = K):fB X (.type "list") (fun xs H Q=>∃ p ys,xs = [.ref p] ∧ (SqL K H p ys ∨ SqT K H p ys) ∧ ∀ l,H l = none → Q (.ref l) (upd H l (.lst ys))):=by subst e;exact yZ
end
theorem dY {j:Int} (h:decide (0 < j) = true):0 < j:=of_decide_eq_true h
end L2
namespace L2
open PySem PySem.Spec PyProof.Rows
theorem oZ {X:Cx} {i:Nat} {x:Str} {elt iter tg:Expr} {ifs:List Expr} {scope:Scope} {pos pos' cpos:Pos} {wi:TI} {g:TG} {tt:TT} {te:TE} (hXN:X.N.Nodup) (hix:X.N[i]? = some x) (N':List Str) (nt:Nat) (cap:List Nat)
  (hc:X.calm = true) (hi:PI X tg iter wi) (hg:∀ R,PG (blk X scope N' R) tg g) (hgk:aBK nt g) (ht:∀ R,aIY (blk X scope N' R) ifs tt) (he:∀ R,PE (blk X scope N' R) elt te)
  (hx:Loc X.env.scope x:=by exact Or.inl rfl) (hfn:X.fn x = true ∨ X.env.scope.names.lookup x = some .local:=by first | exact .inl rfl | exact .inr rfl | assumption)
  (hsw:swapsWith (.ListComp elt [⟨tg,iter,ifs,0⟩] scope cpos) (some (.Name x pos')) pos.line X.env = pure true:=by rfl)
  (hcell:(scope.names.all fun y=>!(y.2 == .cell)) = true:=by rfl) (hkind:scope.kind = .function:=by rfl)
  (hnames:(scope.names.all fun y=>!(y.2 == .local) || (scope.names.lookup y.1 == some .local)) = true:=by rfl)
  (hfr:(scope.names.all fun y=>!(y.2 == .free) || (X.env.kindOf y.1 == some .cell || X.env.kindOf y.1 == some .free)) = true:=by rfl)
  (hN:N'.length = nt + cap.length:=by rfl) (hcapN:(cap.map fun j=>X.N[j]?) = (N'.drop nt).map some:=by rfl) (hcapF:((N'.drop nt).all fun x=>scope.names.lookup x == some .free) = true:=by rfl)
  (hs:∀ x,foldedSetIterable iter X.env x = pure x:=by intro _;rfl) :
  PS X (.Assign [.Name x pos'] (.ListComp elt [⟨tg,iter,ifs,0⟩] scope cpos) pos) (aLJ (aKY nt cap wi g tt te) (uI i)):=by
 intro pins s σ H Ds I h
 have hfr':∀ y ∈ scope.names,y.2 = .free → (X.env.kindOf y.1 = some .cell ∨ X.env.kindOf y.1 = some .free):=fun y hy e=>by
  have z:=jW hfr y hy
  rw [e] at z
  have z':(X.env.kindOf y.1 == some .cell || X.env.kindOf y.1 == some .free) = true:=z
  rcases Bool.or_eq_true_iff.mp z' with q | q
  ·exact .inl (beq_iff_eq.mp q)
  ·exact .inr (beq_iff_eq.mp q)
 have hcell':∀ y ∈ scope.names,y.2 ≠ .cell:=fun y hy e=>by
  have z:=jW hcell y hy
  rw [e] at z
  cases z
 obtain ⟨cl,hcl,hclk,hclh⟩:=uS (scope:=scope) (env:=X.env) fun y hy e=>I.ok.has y.1 (hfr' y hy e)
 have hnames':∀ y ∈ scope.names,y.2 = .local → scope.names.lookup y.1 = some .local:=fun y hy e=>by
  have z:=jW hnames y hy
  rw [e] at z
  exact beq_iff_eq.mp z
 have hcapN':∀ (k j:Nat),cap[k]? = some j → N'[nt + k]? = X.N[j]?:=fun k j e=>by
  have z:=congrArg (fun l:List (Option Str)=>l[k]?) hcapN
  simp only [List.getElem?_map,e,Option.map_some,List.getElem?_drop] at z
  cases q:N'[nt + k]? with
  | none=>rw [q] at z;cases z
  | some x=>rw [q] at z;exact (Option.some.inj z).symm
 rw [exec_Assign_Name_used _ _ _ _ hsw]
 refine wpAny_bind (wpAny_standAt (wpAny_bind ?_))
 show wpAny _ X.A (do let _ ← comprehension (.ListComp elt [⟨tg,iter,ifs,0⟩] scope cpos) scope X.env _ (newList []) false (eval iter X.env) (some (assign (.Name x pos') X.env))) _ _ s
 refine wpAny_bind (wpAny_mono (wpAny_comprehension_free (use:=some (assign (.Name x pos') X.env)) (Q:=fun _ s'=>SP X pins Ds .next s') rfl hs hcl hkind hnames'
  (thn (hi pins s σ H _ I h) fun v s1 h1=>thn h1 fun itv s2 h2=>?_)) (fun _ s' hq=>wpAny_pure (wpAny_pure hq)) fun _ _ e=>e)
 obtain ⟨it,fp,tn,J,H2,e,I2,T,st2,f2,hw⟩:=h2
 subst e
 refine uQ (RR:=fun acc C=>compPost (model X.prog X.w) X.A X.xe (some (assign (.Name x pos') X.env)) (fun _ s'=>SP X pins Ds .next s') acc C) hc I2 T st2 f2 hclk hclh hcell' hkind hfr' hN hcapN' (fun x hx=>beq_iff_eq.mp (jW hcapF x hx)) hg hgk ht he hw ?_
 intro D C s' H' ys hD q I' B
 obtain ⟨m,hn⟩:=B.ns
 obtain ⟨oC,es,ep,hoC,hdC,hrest⟩:=id hn
 have nofs:C ∉ X.fs:=fun hb=>by
  obtain ⟨_,o,ho,_⟩:=I'.ok.funs.mem hb
  exact absurd (Nat.lt_of_lt_of_le (Heap.lt_size ho) B.ab) (Nat.lt_irrefl _)
 have IC:Inv X ((C,oC) :: pins) σ (upd H' D (.lst ys)) s':=I'.pins_of fun p hp=>by
  rcases List.mem_cons.mp hp with rfl | hp
  ·exact ⟨hoC,B.fr,B.ne,nofs,fun v z=>by rw [hdC] at z;cases z⟩
  ·exact I'.pin p (List.mem_append_right _ hp)
 show wpAny _ X.A (assign (.Name x pos') X.env (.ref D)) _ _ _
 refine thn (aM hXN hix hx hfn ((C,oC) :: pins) s' σ (upd H' D (.lst ys)) (.ref D) (.ref D) Ds.nx IC rfl (q D hD)) fun _ s'' h''=>?_
 obtain ⟨σ2,H3,I3,q3⟩:=h''
 have pC:=I3.pin (C,oC) (List.mem_append_right _ List.mem_cons_self)
 refine ⟨m,hn.at' (fun o e=>?_),fun h4 hs4=>⟨σ2,H3,?_,q3⟩⟩
 ·rw [hoC] at e
  cases e
  exact pC.1
 ·have I4:Inv X pins σ2 H3 s'':=I3.pins_of fun p hp=>I3.pin p (List.mem_append_right _ (List.mem_cons_of_mem _ hp))
  exact I4.turned (it:=C) (t':=s''.toks) (fun b o hb e=>hs4.extBut b o hb e) pC.2.1 B.ne (.inr B.ab) B.cl B.pn
end L2
namespace L2
open PySem PySem.Spec PyProof.Rows
section
variable {X:Cx}
end
structure InstC (K:PySem.W.Frag) (C:Addr):Prop where
 ha:PySem.W.findIn K (.ref C) "__class__" = some (some (.builtin "object.__class__"))
 hn:PySem.W.specialIn K (.builtin "object.__class__") "__get__" = some (some (.builtin "getset_descriptor.__get__"))
 htk:PySem.W.takesIn K (.builtin "object.__class__") = some true
 hm:PySem.W.mroIn K C (.type "object") = some true
theorem MethAt.mcD {P:Program} {w:World} {K:PySem.W.Frag} {mg:Str → Option Value} {base:Heap} {C:Addr} {m qual:Str} {st:Stmt} {N ps:List Str} {k:Nat} {sp:Sp} (D:MethAt K C m qual st ps) (S:FnScope N ps (aF st)) (len:∀ vs H Q E,sp vs H Q E → vs.length = ps.length)
  (hbody:∀ (f:Addr) (cdv:Value) (A:Around) (outer:List Env) (s:Shared) (H:Hp) (vs:List V) (Q:VK) (E:XK),Room k (A.deeper (envOfC qual (aF st) s.heap.objs.size f cdv)) → sp vs H Q E →
   ∃ t,PSs (uO CX0 P w K mg base N qual (aF st) f cdv A outer s H E).nox (aN st) t ∧ t { nx:=fun _ H'=>dJ Q .non H',rt:=dJ Q } (kE N vs) H):Mc P w K mg base (k + 1) C m ps sp:=by
 obtain ⟨f,fd,F,b,mm⟩:=D.ex
 refine ⟨f,fd,FnOk.drop len (F.ok S (fun vs H Q E ⟨Q',h,_⟩=>len vs H Q' E h) fun cdv A outer s H vs Q E hr ⟨Q',h,e⟩=>?_),b,mm⟩
 subst e
 exact hbody f cdv A outer s H vs Q' E hr h
theorem gU.under {H:Hp} {p q:Addr} {o u:HO} (hp:H p = none) (d:rB o = true) (hq:L2.upd H p o q = none):gU (L2.upd (L2.upd H p o) q u) (L2.upd H q u):=fun b=>by
 by_cases hb:b = q
 ·subst hb
  left
  rw [aB,aB]
 ·rw [aR hb,aR hb]
  by_cases hc:b = p
  ·subst hc
   right
   exact ⟨hp,o,aB,d⟩
  ·left
   rw [aR hc]
end L2
namespace Ld
open PySem L2
def kB (c:Nat):Bool:=decide (97 ≤ c) && decide (c ≤ 122)
def eS (z:Str):Bool:=decide (1 ≤ z.length) && decide (z.length ≤ 8) && !decide (z = "sea") && z.cps.toList.all kB
def isInt:Dv → Bool
 | .int _=>true
 | _=>false
def aHS:Dv → Bool
 | .bl _=>true
 | _=>false
def aNY:Dv → Bool
 | .str _=>true
 | _=>false
def aLE:Dv → Bool
 | .lst _=>true
 | _=>false
def aNX:Dv → Bool
 | .tup _=>true
 | _=>false
def zJ (n:Int):Dv → Bool
 | .tup ds=>decide ((ds.length:Int) = n)
 | _=>false
def aHL (n:Int):Dv → Bool
 | .lst ds=>decide (1 ≤ ds.length) && decide ((ds.length:Int) ≤ n)
 | _=>false
def pB:Dv → Bool
 | .str z=>eS z
 | _=>false
def hgt (i:Int):Bool:=decide (-1000000 ≤ i) && decide (i ≤ 1000000)
def amt (i:Int):Bool:=decide (0 ≤ i) && decide (i ≤ 1000000)
def iJ:Dv → Bool
 | .int i=>hgt i
 | _=>false
def kT:Dv → Bool
 | .int i=>amt i
 | _=>false
def rL (zs:List Str):Dv → Bool
 | .str z=>decide (z ∈ zs)
 | _=>false
def dG:Dv → Option Str
 | .tup (.str z :: _)=>some z
 | _=>none
def cD:Dv → Bool
 | .tup [a,b,c]=>pB a && (iJ b && kT c)
 | _=>false
def lE:Dv → Bool
 | .lst ds=>(decide (1 ≤ ds.length) && decide (ds.length ≤ 12)) && (ds.all cD && decide ((ds.map dG).Nodup))
 | _=>false
def nW (zs:List Str) (a b:Dv):Bool:=rL zs a && (rL zs b && !deq a b)
def lQ (c:Dv):Dv → Bool
 | .non=>true
 | .int i=>hgt i && (match c with | .int j=>decide (i < j) | _=>false)
 | _=>false
def cZ (zs:List Str):Dv → Bool
 | .tup [n,a,b,c,r,s]=>pB n && nW zs a b && (iJ c && (kT r && lQ c s))
 | _=>false
def nX (zs:List Str):Dv → Bool
 | .lst ds=>(decide (1 ≤ ds.length) && decide (ds.length ≤ 40)) && (ds.all (cZ zs) && decide ((ds.map dG).Nodup))
 | _=>false
mutual
def fD:Dv → Bool
 | .str z=>decide (z.length ≤ 1000)
 | .lst ds=>decide (ds.length ≤ 1000) && iM ds
 | .tup ds=>decide (ds.length ≤ 1000) && iM ds
 | _=>true
def iM:List Dv → Bool
 | []=>true
 | d :: ds=>fD d && iM ds
end
theorem jB:∀ {ds:List Dv} {d:Dv},iM ds = true → d ∈ ds → fD d = true
 | [],_,_,m=>by cases m
 | e :: ds,d,f,m=>by
  rw [iM,Bool.and_eq_true] at f
  rcases List.mem_cons.mp m with rfl | m
  ·exact f.1
  ·exact jB f.2 m
theorem vU {ds:List Dv} (h:fD (.tup ds) = true):iM ds = true:=(Bool.and_eq_true_iff.mp (show (decide (ds.length ≤ 1000) && iM ds) = true from h)).2
theorem jU (K:PySem.W.Frag) {H:Hp} {d:Dv} {x:V} (h:Is H d x):∃ t,TyOf K H x t ∧ PySem.W.kitOne K t (.type "int") = some (isInt d || aHS d) ∧ PySem.W.kitOne K t (.type "bool") = some (aHS d) ∧
  PySem.W.kitOne K t (.type "str") = some (aNY d) ∧ PySem.W.kitOne K t (.type "list") = some (aLE d) ∧ PySem.W.kitOne K t (.type "tuple") = some (aNX d):=by
 cases d with
 | non=>cases (show x = .non from h);exact ⟨_,.non,rfl,rfl,rfl,rfl,rfl⟩
 | bl b=>cases (show x = .bl b from h);exact ⟨_,.bl b,rfl,nH _ _,rfl,rfl,rfl⟩
 | int i=>cases (show x = .int i from h);exact ⟨_,.int i,nH _ _,rfl,rfl,rfl,rfl⟩
 | str z=>cases (show x = .str z from h);exact ⟨_,.str z,rfl,rfl,nH _ _,rfl,rfl⟩
 | lst ds=>obtain ⟨a,vs,rfl,e,_⟩:=h;exact ⟨_,.lst e,rfl,rfl,rfl,nH _ _,rfl⟩
 | tup ds=>obtain ⟨a,vs,rfl,e,_⟩:=h;exact ⟨_,.tup e,rfl,rfl,rfl,rfl,nH _ _⟩
 | dct ks ds=>obtain ⟨a,vs,rfl,e,_⟩:=h;exact ⟨_,.dK e,rfl,rfl,rfl,rfl,rfl⟩
theorem yG:("abcdefghijklmnopqrstuvwxyz":Str).cps.toList = [97,98,99,100,101,102,103,104,105,106,107,108,109,110,111,112,113,114,115,116,117,118,119,120,121,122]:=by decide +kernel
theorem aCI (c:Nat):(!(Builtin.Str.occurrences ("abcdefghijklmnopqrstuvwxyz":Str) ⟨#[c]⟩ 0 ("abcdefghijklmnopqrstuvwxyz":Str).length 1).isEmpty) = kB c:=by
 rw [PySem.StrLaws.found_one,yG]
 have h1:∀ d,d ∈ ([97,98,99,100,101,102,103,104,105,106,107,108,109,110,111,112,113,114,115,116,117,118,119,120,121,122]:List Nat) → 97 ≤ d ∧ d ≤ 122:=by decide
 have h2:∀ k,k < 26 → (97 + k) ∈ ([97,98,99,100,101,102,103,104,105,106,107,108,109,110,111,112,113,114,115,116,117,118,119,120,121,122]:List Nat):=by decide
 unfold kB
 by_cases h:97 ≤ c ∧ c ≤ 122
 ·have e:=h2 (c - 97) (by omega)
  rw [show 97 + (c - 97) = c by omega] at e
  rw [decide_eq_true e,decide_eq_true h.1,decide_eq_true h.2]
  rfl
 ·have e:¬ c ∈ ([97,98,99,100,101,102,103,104,105,106,107,108,109,110,111,112,113,114,115,116,117,118,119,120,121,122]:List Nat):=fun m=>h (h1 c m)
  rw [decide_eq_false e]
  by_cases h':97 ≤ c
  ·rw [decide_eq_true h',decide_eq_false (fun z=>h ⟨h',z⟩)]
   rfl
  ·rw [decide_eq_false h']
   rfl
def aJ (d:Dv):Str:=(dG d).getD ""
def nJ (d:Dv):Key:=.inr (aJ d)
theorem aIH {d:Dv} {z:Str} (h:dG d = some z):aJ d = z:=by unfold aJ;rw [h];rfl
def pY (d1 d2:Addr):List (Str × V):=iT "dyke_rows" (.ref d2) (iT "field_rows" (.ref d1) [])
theorem aOI:¬ (("field_rows":Str) = "dyke_rows"):=by decide +kernel
theorem yJ (d1 d2:Addr):(pY d1 d2).lookup ("field_rows":Str) = some (.ref d1):=by
 unfold pY
 rw [eT,if_neg aOI,eT,if_pos rfl]
theorem yK (d1 d2:Addr):(pY d1 d2).lookup ("dyke_rows":Str) = some (.ref d2):=by
 unfold pY
 rw [eT,if_pos rfl]
theorem dI (d1 d2:Addr) {m:Str} (h1:¬ m = "dyke_rows") (h2:¬ m = "field_rows"):(pY d1 d2).lookup m = none:=by
 unfold pY
 rw [eT,if_neg h1,eT,if_neg h2]
 all_goals rfl
def aBJ (H:Hp) (a:Addr) (ds:List Dv):Prop:=∃ kvs,H a = some (.dK kvs) ∧ kvs.map (·.1) = ds.map nJ ∧ IsL H ds (kvs.map (·.2))
theorem aBJ.same {H H':Hp} (S:aK H H') {a:Addr} {ds:List Dv} (h:aBJ H a ds):aBJ H' a ds:=by
 obtain ⟨kvs,e,k,i⟩:=h
 exact ⟨kvs,S _ _ e,k,IsL.same S _ _ i⟩
structure LandAt (C:Addr) (H:Hp) (x:Addr) (fs ds:List Dv):Prop where
 ex:∃ dx d1 d2,H x = some (.ins C dx (pY d1 d2)) ∧ aBJ H d1 fs ∧ aBJ H d2 ds
 okf:lE (.lst fs) = true
 okd:nX ("sea" :: fs.map aJ) (.lst ds) = true
theorem LandAt.same {C:Addr} {H H':Hp} (S:aK H H') {x:Addr} {fs ds:List Dv} (h:LandAt C H x fs ds):LandAt C H' x fs ds:=by
 obtain ⟨⟨dx,d1,d2,e,t1,t2⟩,a,b⟩:=h
 exact ⟨⟨dx,d1,d2,S _ _ e,t1.same S,t2.same S⟩,a,b⟩
theorem xB:∀ {kvs:List (Key × V)} {H:Hp} {ds:List Dv} {d:Dv},kvs.map (·.1) = ds.map nJ → IsL H ds (kvs.map (·.2)) → (ds.map aJ).Nodup → d ∈ ds → ∃ v,gC kvs (.inr (aJ d)) = some v ∧ Is H d v
 | [],_,[],_,_,_,_,m=>by cases m
 | [],_,_ :: _,_,e,_,_,_=>by simp at e
 | _ :: _,_,[],_,_,_,_,m=>by cases m
 | (k,v) :: kvs,H,d0 :: ds,d,e,i,n,m=>by
  obtain ⟨v',r,e1,h0,t⟩:=i
  rw [List.map_cons] at e1
  cases e1
  rw [List.map_cons,List.map_cons,List.cons.injEq] at e
  have ek:k = nJ d0:=e.1
  rw [List.map_cons,List.nodup_cons] at n
  by_cases q:aJ d = aJ d0
  ·have:d = d0:=by
    rcases List.mem_cons.mp m with rfl | m
    ·rfl
    ·exact absurd (List.mem_map.mpr ⟨d,m,q⟩) n.1
   subst this
   refine ⟨v,?_,h0⟩
   unfold gC
   rw [List.find?_cons,ek]
   simp [nJ]
  ·have m':d ∈ ds:=by
    rcases List.mem_cons.mp m with rfl | m
    ·exact absurd rfl q
    ·exact m
   obtain ⟨u,e2,h2⟩:=xB (kvs:=kvs) e.2 t n.2 m'
   refine ⟨u,?_,h2⟩
   unfold gC at e2 ⊢
   have hk:¬ k = Sum.inr (aJ d):=by
    rw [ek]
    intro z
    exact q (Sum.inr.inj z).symm
   rw [List.find?_cons,decide_eq_false (show ¬ (k,v).1 = Sum.inr (aJ d) from hk)]
   exact e2
theorem kZ:∀ {ds:List Dv} {p:Dv → Bool},(∀ d,p d = true → ∃ z,dG d = some z) → ds.all p = true → ds.map dG = (ds.map aJ).map some
 | [],_,_,_=>rfl
 | d :: ds,p,hp,h=>by
  rw [List.all_cons,Bool.and_eq_true] at h
  obtain ⟨z,e⟩:=hp d h.1
  rw [List.map_cons,List.map_cons,List.map_cons,kZ hp h.2,aIH e,e]
theorem hJ (zs:List Str):(zs.map some).Nodup ↔ zs.Nodup:=by
 induction zs with
 | nil=>simp
 | cons z zs ih =>
  rw [List.map_cons,List.nodup_cons,List.nodup_cons,ih]
  simp
theorem bW {d:Dv} (h:cD d = true):∃ z g e,d = .tup [.str z,.int g,.int e] ∧ eS z = true ∧ hgt g = true ∧ amt e = true:=by
 unfold cD at h
 split at h
 ·rename_i a b c
  rw [Bool.and_eq_true,Bool.and_eq_true] at h
  obtain ⟨h1,h2,h3⟩:=h
  cases a with
  | str z =>
   cases b with
   | int g =>
    cases c with
    | int e=>exact ⟨z,g,e,rfl,h1,h2,h3⟩
    | _=>cases h3
   | _=>cases h2
  | _=>cases h1
 ·cases h
theorem rQ (d:Dv) (h:cD d = true):∃ z,dG d = some z:=by
 obtain ⟨z,_,_,rfl,_⟩:=bW h
 exact ⟨z,rfl⟩
theorem cM {zs:List Str} {d:Dv} (h:cZ zs d = true):∃ n a b c r s,d = .tup [.str n,.str a,.str b,.int c,.int r,s] ∧ eS n = true ∧ a ∈ zs ∧ b ∈ zs ∧ a ≠ b ∧ hgt c = true ∧ amt r = true ∧ lQ (.int c) s = true:=by
 unfold cZ at h
 split at h
 ·rename_i n a b c r s
  rw [Bool.and_eq_true,Bool.and_eq_true,Bool.and_eq_true,Bool.and_eq_true] at h
  obtain ⟨⟨h1,h2⟩,h3,h4,h5⟩:=h
  unfold nW at h2
  rw [Bool.and_eq_true,Bool.and_eq_true] at h2
  obtain ⟨h6,h7,h8⟩:=h2
  cases n with
  | str n =>
   cases a with
   | str a =>
    cases b with
    | str b =>
     cases c with
     | int c =>
      cases r with
      | int r =>
       refine ⟨n,a,b,c,r,s,rfl,h1,of_decide_eq_true h6,of_decide_eq_true h7,?_,h3,h4,h5⟩
       intro z
       subst z
       have:(!(a == a)) = true:=h8
       rw [beq_self_eq_true] at this
       cases this
      | _=>cases h4
     | _=>cases h3
    | _=>cases h7
   | _=>cases h6
  | _=>cases h1
 ·cases h
theorem uJ {zs:List Str} (d:Dv) (h:cZ zs d = true):∃ z,dG d = some z:=by
 obtain ⟨z,_,_,_,_,_,rfl,_⟩:=cM h
 exact ⟨z,rfl⟩
structure GoodF (fs:List Dv):Prop where
 l1:1 ≤ fs.length
 l2:fs.length ≤ 12
 all:∀ d ∈ fs,cD d = true
 nd:(fs.map aJ).Nodup
structure GoodD (zs:List Str) (ds:List Dv):Prop where
 l1:1 ≤ ds.length
 l2:ds.length ≤ 40
 all:∀ d ∈ ds,cZ zs d = true
 nd:(ds.map aJ).Nodup
theorem qW (fs:List Dv):lE (.lst fs) = true ↔ GoodF fs:=by
 show ((decide (1 ≤ fs.length) && decide (fs.length ≤ 12)) && (fs.all cD && decide ((fs.map dG).Nodup))) = true ↔ _
 rw [Bool.and_eq_true,Bool.and_eq_true,Bool.and_eq_true,decide_eq_true_iff,decide_eq_true_iff,decide_eq_true_iff]
 constructor
 ·rintro ⟨⟨a,b⟩,c,d⟩
  rw [kZ rQ c,hJ] at d
  exact ⟨a,b,List.all_eq_true.mp c,d⟩
 ·rintro ⟨a,b,c,d⟩
  have c':=List.all_eq_true.mpr c
  refine ⟨⟨a,b⟩,c',?_⟩
  rw [kZ rQ c',hJ]
  exact d
theorem qX (zs:List Str) (ds:List Dv):nX zs (.lst ds) = true ↔ GoodD zs ds:=by
 show ((decide (1 ≤ ds.length) && decide (ds.length ≤ 40)) && (ds.all (cZ zs) && decide ((ds.map dG).Nodup))) = true ↔ _
 rw [Bool.and_eq_true,Bool.and_eq_true,Bool.and_eq_true,decide_eq_true_iff,decide_eq_true_iff,decide_eq_true_iff]
 constructor
 ·rintro ⟨⟨a,b⟩,c,d⟩
  rw [kZ uJ c,hJ] at d
  exact ⟨a,b,List.all_eq_true.mp c,d⟩
 ·rintro ⟨a,b,c,d⟩
  have c':=List.all_eq_true.mpr c
  refine ⟨⟨a,b⟩,c',?_⟩
  rw [kZ uJ c',hJ]
  exact d
def aNZ:Dv → Bool
 | .non=>true
 | _=>false
def hasSill:Dv → Bool
 | .tup [_,_,_,_,_,s]=>!aNZ s
 | _=>false
theorem vV:∀ {ds:List Dv},(∀ d ∈ ds,fD d = true) → iM ds = true
 | [],_=>rfl
 | d :: ds,h=>by
  rw [iM,h d List.mem_cons_self,vV fun e m=>h e (List.mem_cons_of_mem _ m)]
  rfl
end Ld
namespace Mt02
open PySem L2 Ld
def zE (i:Nat):Nat:=if i < 18 then 97 + i else 98 + i
theorem aIX {i j:Nat} (hi:i < 25) (hj:j < 25) (h:zE i = zE j):i = j:=by
 unfold zE at h
 split at h <;> split at h <;> omega
theorem aBH {i:Nat} (hi:i < 25):kB (zE i) = true ∧ zE i ≠ 115:=by
 unfold zE kB
 split
 ·exact ⟨by rw [decide_eq_true (by omega),decide_eq_true (by omega)];rfl,by omega⟩
 ·exact ⟨by rw [decide_eq_true (by omega),decide_eq_true (by omega)];rfl,by omega⟩
theorem aFJ:("abcdefghijklmnopqrtuvwxyz":Str).cps.toList = (List.range 25).map zE:=by decide +kernel
theorem aKS {i:Int} (h0:0 ≤ i) (h1:i < 25):atI ("abcdefghijklmnopqrtuvwxyz":Str).cps.toList i = some (zE i.toNat):=by
 obtain ⟨k,rfl⟩:=Int.eq_ofNat_of_zero_le h0
 rw [aFJ]
 refine aQ ?_
 rw [List.getElem?_map,List.getElem?_range (by omega)]
 simp
def rst (c:Int):Nat → Int
 | 0=>c / 3
 | j + 1=>rst c j / 25
def num (o:Nat → Int) (c p b:Int) (k j:Nat):Int:=if (j:Int) = b then c / 17 + ((k:Int) / 25) else if (j:Int) = p then c / 11 + (k:Int) else o j
def rE (o:Nat → Int) (c p b:Int) (k j:Nat):Nat:=zE (num o c p b k j % 25).toNat
def nm (o:Nat → Int) (c p b:Int) (n k:Nat):Str:=⟨((List.range n).map (rE o c p b k)).toArray⟩
theorem yD (o:Nat → Int) (c p b:Int) (n k:Nat):(nm o c p b n k).length = n:=by simp [nm,Str.length]
theorem nC (o:Nat → Int) (c p b:Int) (n k:Nat):(nm o c p b n k).cps.toList = (List.range n).map (rE o c p b k):=by simp [nm]
theorem aJX (o:Nat → Int) (c p b:Int) (k:Nat):nm o c p b 0 k = "":=by
 show (⟨#[]⟩:Str) = ""
 decide +kernel
theorem aJF {x y:Str} (h:x.cps.toList = y.cps.toList):x = y:=by
 cases x;cases y
 simp only [Str.mk.injEq]
 exact Array.toList_inj.mp h
theorem yC (o:Nat → Int) (c p b:Int) (n k:Nat):nm o c p b n k ++ (⟨#[rE o c p b k n]⟩:Str) = nm o c p b (n + 1) k:=by
 apply aJF
 rw [Tx.app_codes,nC,nC,List.range_succ,List.map_append]
 rfl
theorem aDX (o:Nat → Int) (c p b:Int) (k j:Nat):kB (rE o c p b k j) = true ∧ rE o c p b k j ≠ 115:=by
 have h0:=Int.emod_nonneg (num o c p b k j) (show (25:Int) ≠ 0 by decide)
 have h1:=Int.emod_lt_of_pos (num o c p b k j) (show (0:Int) < 25 by decide)
 exact aBH (by omega)
theorem aEE:("sea":Str).cps.toList = [115,101,97]:=by decide +kernel
theorem aJY (o:Nat → Int) (c p b:Int) (n k:Nat) (h0:1 ≤ n) (h1:n ≤ 8):eS (nm o c p b n k) = true:=by
 have e1:(nm o c p b n k).cps.toList.all kB = true:=by
  rw [nC,List.all_eq_true]
  intro y hy
  obtain ⟨j,_,rfl⟩:=List.mem_map.mp hy
  exact (aDX o c p b k j).1
 have e2:¬ nm o c p b n k = "sea":=by
  intro h
  have:=congrArg (fun z=>z.cps.toList) h
  simp only [nC,aEE] at this
  have h2:(115:Nat) ∈ (List.range n).map (rE o c p b k):=by rw [this];exact List.mem_cons_self
  obtain ⟨j,_,e⟩:=List.mem_map.mp h2
  exact (aDX o c p b k j).2 e
 unfold eS
 rw [yD,e1,decide_eq_true h0,decide_eq_true h1,decide_eq_false e2]
 rfl
theorem aMA {o:Nat → Int} {c p b:Int} {n m k l:Nat} (hp0:0 ≤ p) (hpn:p < n) (hb0:0 ≤ b) (hbn:b < n) (hpb:p ≠ b) (hk:k < 625) (hl:l < 625) (h:nm o c p b n k = nm o c p b m l):k = l:=by
 have hlen:n = m:=by
  have:=congrArg Str.length h
  rwa [yD,yD] at this
 subst hlen
 have hc:(List.range n).map (rE o c p b k) = (List.range n).map (rE o c p b l):=by
  have:=congrArg (fun z=>z.cps.toList) h
  simpa only [nC] using this
 have at_:∀ j,j < n → rE o c p b k j = rE o c p b l j:=fun j hj=>by
  have:=congrArg (fun z=>z[j]?) hc
  simpa [List.getElem?_map,List.getElem?_range hj] using this
 have num_:∀ j,j < n → num o c p b k j % 25 = num o c p b l j % 25:=fun j hj=>by
  have h1:=Int.emod_nonneg (num o c p b k j) (show (25:Int) ≠ 0 by decide)
  have h2:=Int.emod_lt_of_pos (num o c p b k j) (show (0:Int) < 25 by decide)
  have h3:=Int.emod_nonneg (num o c p b l j) (show (25:Int) ≠ 0 by decide)
  have h4:=Int.emod_lt_of_pos (num o c p b l j) (show (0:Int) < 25 by decide)
  have:=aIX (by omega) (by omega) (at_ j hj)
  omega
 have n1:=num_ p.toNat (by omega)
 have n2:=num_ b.toNat (by omega)
 unfold num at n1 n2
 rw [if_neg (by omega),if_pos (by omega),if_neg (by omega),if_pos (by omega)] at n1
 rw [if_pos (by omega),if_pos (by omega)] at n2
 omega
structure Names (zs:List Str) (n:Nat):Prop where
 len:zs.length = n
 nd:zs.Nodup
 good:∀ z ∈ zs,eS z = true
theorem aHH {o:Nat → Int} {c p b:Int} {sh n:Nat} {len:Nat → Nat} (hp0:0 ≤ p) (hps:p < sh) (hb0:0 ≤ b) (hbs:b < sh) (hpb:p ≠ b) (hsh:1 ≤ sh) (hl:∀ k,sh ≤ len k ∧ len k ≤ 8) (hn:n ≤ 625) :
  Names ((List.range n).map fun k=>nm o c p b (len k) k) n where
 len:=by simp
 nd:=by
  rw [List.nodup_iff_pairwise_ne,List.pairwise_map]
  refine List.Pairwise.imp_of_mem ?_ (List.pairwise_lt_range (n:=n))
  intro k l hk hl' hkl he
  have:=List.mem_range.mp hk
  have:=List.mem_range.mp hl'
  have h1:=hl k
  have e:=aMA (n:=len k) (m:=len l) hp0 (by omega) hb0 (by omega) hpb (by omega) (by omega) he
  omega
 good:=by
  intro z hz
  obtain ⟨k,_,rfl⟩:=List.mem_map.mp hz
  have h1:=hl k
  exact aJY _ _ _ _ _ _ (by omega) (by omega)
end Mt02
namespace L2
open PySem PySem.Spec PyProof.Rows
section
variable {X:Cx}
theorem wU:bootBuiltins "any" = some (.builtin "any"):=by decide +kernel
theorem aBG (hc:X.calm = true):fB X (.builtin "any") (fun xs H Q=>∃ (p:Addr) (bs:List Bool),xs = [.ref p] ∧ SqL X.K H p (bs.map V.bl) ∧ Q (.bl (bs.any id)) H):=by
 intro pins s σ H xs us Q I r h
 obtain ⟨p,bs,rfl,hq,q⟩:=h
 obtain ⟨u,rfl,ru⟩:=bQ.one r
 cases ru
 obtain ⟨its,rv,pl,hz⟩:=I.list hq
 obtain ⟨m,F⟩:=I.fr
 have hb:=nT rv
 have hl:=pl.isList
 have hlt:p < s.heap.objs.size:=by obtain ⟨_,e,_⟩:=hl;exact Heap.lt_size e
 refine call_any_walk (wpAny_pyIter_list hl ?_)
 refine ⟨s.heap.objs.size,[s.heap.objs.size,p],[s.heap.objs.size],its.toArray.size,_,_,fun i=>(bs[i]?).getD false,rfl,Walks.list (A:=X.A.in1) (I.ok.hd hc) _ p (Nat.ne_of_lt hlt) its.toArray,
  ⟨⟨_,Heap.get?_push_size _ rfl,rfl,rfl⟩,hl.push _⟩,fun i v s' Q' E' hP hQ=>?_,fun h' tk hk=>?_⟩
 ·obtain ⟨b,e,rfl⟩:=hb.get i v (by simpa using hP)
  simp only [e,Option.getD_some] at hQ
  exact wpAny_truthy_bool hQ
 ·have e:((List.range its.toArray.size).any fun i=>(bs[i]?).getD false) = bs.any id:=by
   rw [List.size_toArray,hb.length];exact LSm.range_any bs
  rw [e]
  exact ⟨.bl _,H,I.kept (LSm.kept_iter hk),rfl,q⟩
end
end L2
namespace L2
open PySem PySem.Spec PyProof.Rows
section
variable {X:Cx}
end
def zF (nt:Nat) (u:TGs):Prop:=∀ vs σ H Q,u vs σ H Q → u vs σ H fun σ2 H2=>Q σ2 H2 ∧ σ2.length = σ.length ∧ ∀ i,nt ≤ i → σ2[i]? = σ[i]?
theorem lU {nt:Nat}:zF nt aOF:=fun vs σ H Q ⟨e,q⟩=>⟨e,q,rfl,fun _ _=>rfl⟩
theorem cT {nt i:Nat} {u:TGs} (h:i < nt) (hu:zF nt u):zF nt (aLF (uI i) u):=fun vs σ H Q ⟨v,r,e,q⟩=>by
 have q':=hu r (σ.set i (some v)) H Q q
 have ef:(fun (σ2:St) (H2:Hp)=>Q σ2 H2 ∧ σ2.length = (σ.set i (some v)).length ∧ ∀ j,nt ≤ j → σ2[j]? = (σ.set i (some v))[j]?) = (fun (σ2:St) (H2:Hp)=>Q σ2 H2 ∧ σ2.length = σ.length ∧ ∀ j,nt ≤ j → σ2[j]? = σ[j]?):=by
  funext σ2 H2
  rw [List.length_set]
  have:(∀ j,nt ≤ j → σ2[j]? = (σ.set i (some v))[j]?) = (∀ j,nt ≤ j → σ2[j]? = σ[j]?):=by
   refine propext ⟨fun h1 j hj=>?_,fun h1 j hj=>?_⟩
   ·rw [h1 j hj,List.getElem?_set_ne (by omega)]
   ·rw [h1 j hj,List.getElem?_set_ne (by omega)]
  rw [this]
 rw [ef] at q'
 exact ⟨v,r,e,q'⟩
theorem oI {nt n:Nat} {K:PySem.W.Frag} {u:TGs} (hu:zF nt u):aBK nt (aIC K n u):=fun x σ H Q ⟨a,xs,e,hq,hl,q⟩=>⟨a,xs,e,hq,hl,hu xs σ H Q q⟩
theorem sH {X:Cx} {pos:Pos} {es:List Expr} {k:Nat} {t:TGs} {n:Nat} {K:PySem.W.Frag} (e:X.K = K) (hc:X.calm = true) (h:PGs X es t)
  (hn:(assignEach es X.env).length = n:=by rfl) (hst:(assignEach es X.env).findIdx? (·.1) = none:=by rfl):PG X (.Tuple es k pos) (aIC K n t):=by subst e;exact jZ hc h hn hst
end L2
namespace L2
open PySem PySem.Spec PyProof.Rows
section
variable {X:Cx} {K:PySem.W.Frag}
theorem pQ {ex:Expr} {T:String} {r:V → List V → Hp → VK → Prop} {to:TE} {ta:TA} (e:X.K = K) (h:PE X ex (tBM X.K T r to ta)):PE X ex (tBM K T r to ta):=e ▸ h
theorem bE {tg l:Expr} {tl:TE} (e:X.K = K) (h:PI X tg l (aHV X.K tl)):PI X tg l (aHV K tl):=e ▸ h
theorem lI {pos:Pos} {es:List Expr} {k n:Nat} {t:TGs} (e:X.K = K) (m:Nat) (en:n = m) (h:PG X (.Tuple es k pos) (aIC X.K n t)):PG X (.Tuple es k pos) (aIC K m t):=by
 subst e
 subst en
 exact h
theorem aOG {i:Nat} {v:V} {tb:TS} {D:Ends} {σ:St} {H:Hp} (h:∀ D':Ends,(∀ σ' H',D.nx σ' H' → D'.nx σ' H') → tb D' (σ.set i (some v)) H):uI i v σ H fun σ2 H2=>tb D σ2 H2:=h D fun _ _ x=>x
theorem cG {a b:TS} {D:Ends} {σ:St} {H:Hp} (h:∀ u:TS,(∀ D' σ' H',b D' σ' H' → u D' σ' H') → jX a u D σ H):jX a b D σ H:=h b fun _ _ _ x=>x
theorem mK {a1 a2 b:TS} {D:Ends} {σ:St} {H:Hp} (h:∀ u:TS,(∀ D' σ' H',b D' σ' H' → u D' σ' H') → jX a1 (jX a2 u) D σ H):jX a1 (jX a2 b) D σ H:=h b fun _ _ _ x=>x
theorem zY {a1 a2 a3 b:TS} {D:Ends} {σ:St} {H:Hp} (h:∀ u:TS,(∀ D' σ' H',b D' σ' H' → u D' σ' H') → jX a1 (jX a2 (jX a3 u)) D σ H):jX a1 (jX a2 (jX a3 b)) D σ H:=h b fun _ _ _ x=>x
theorem aGM {a1 a2 a3 a4 b:TS} {D:Ends} {σ:St} {H:Hp} (h:∀ u:TS,(∀ D' σ' H',b D' σ' H' → u D' σ' H') → jX a1 (jX a2 (jX a3 (jX a4 u))) D σ H):jX a1 (jX a2 (jX a3 (jX a4 b))) D σ H:=h b fun _ _ _ x=>x
end
end L2
namespace L2
open PySem PySem.Spec PyProof.Rows PySem.SeqAt
section
variable {X:Cx}
open Classical in
noncomputable def inP (H:Hp) (ds:List Dv) (d:Dv) (u:Value):Bool:=decide (∃ e y,e ∈ ds ∧ bK y u ∧ Is H e y ∧ deq e d = true)
open Classical in
theorem aHU {H:Hp} {ds:List Dv} {d e:Dv} {y:V} {u:Value} (m:e ∈ ds) (r:bK y u) (h:Is H e y) (f:∀ x ∈ ds,aO 30 x = true):inP H ds d u = deq e d:=by
 unfold inP
 cases c:deq e d with
 | true=>exact decide_eq_true ⟨e,y,m,r,h,c⟩
 | false =>
  refine decide_eq_false ?_
  rintro ⟨e',y',m',r',h',c'⟩
  cases r'.inj r
  have:=Is.inj _ _ _ h' h ⟨_,f _ m'⟩ ⟨_,f _ m⟩
  subst this
  rw [c] at c'
  cases c'
theorem yO {H:Hp} {d:Dv} {all:List Dv} (f:∀ x ∈ all,aO 30 x = true):∀ {ds:List Dv} {xs:List V} {us:List Value},(∀ x ∈ ds,x ∈ all) → IsL H ds xs → bQ xs us → us.any (inP H all d) = ds.any fun e=>deq e d
 | [],_,_,_,h,v=>by
  cases (show _ = [] from h)
  cases v
  rfl
 | e :: ds,_,_,m,⟨y,r,rfl,h,t⟩,.cons ry rt=>by
  rw [List.any_cons,List.any_cons,aHU (m e List.mem_cons_self) ry h f,yO f (fun x mx=>m x (List.mem_cons_of_mem _ mx)) t rt]
theorem yN {H:Hp} {d:Dv} {A:Around} {s:Shared} {v:Value} {all:List Dv} (f:∀ x ∈ all,aO 30 x = true) (q:∀ e y u,e ∈ all → Is H e y → bK y u → EqAt A s u v (deq e d)):∀ {ds:List Dv} {xs:List V} {us:List Value},(∀ x ∈ ds,x ∈ all) → IsL H ds xs → bQ xs us → ∀ u ∈ us,EqAt A s u v (inP H all d u)
 | [],_,_,_,h,w=>fun u hu=>by
  cases (show _ = [] from h)
  cases w
  cases hu
 | e :: ds,_,_,m,⟨y,r,rfl,h,t⟩,.cons ry rt=>fun u hu=>by
  rcases List.mem_cons.mp hu with rfl | hu
  ·rw [aHU (m e List.mem_cons_self) ry h f]
   exact q e y _ (m e List.mem_cons_self) h ry
  ·exact yN f q (fun x mx=>m x (List.mem_cons_of_mem _ mx)) t rt u hu
theorem qZ:∀ {n:Nat} {ds:List Dv},bT n ds = true → ∀ d ∈ ds,aO n d = true
 | _,[],_,d,m=>by cases m
 | n,e :: ds,h,d,m=>by
  rw [bT,Bool.and_eq_true] at h
  rcases List.mem_cons.mp m with rfl | m
  ·exact h.1
  ·exact qZ h.2 d m
theorem aLW (hu:X.A.units + 64 < cLine):OpR X (compareOp .In) (aPA false):=by
 intro pins s σ H x y v u Q I rx ry h
 obtain ⟨d,p,xs,ds,hq,rfl,hd,il,fd,fl,q⟩:=h
 cases ry
 have f:=qZ fl
 have key:∀ {A:Around},A.units ≤ X.A.units + 8 → ∀ e y u,e ∈ ds → Is H e y → bK y u → EqAt A s u v (deq e d):=fun {A} ha e y u m h r=>Is.eqAt I 30 e d y x u v A (by omega) (f e m) fd h hd r rx
 rcases hq with hq | hq
 ·obtain ⟨its,r,pl,hz⟩:=I.list (SqL.of hq)
  refine SeqAt.in_listAt (inP H ds d) pl.isList (fun w hw=>yN f (key (A:=X.A.in1) (by show X.A.units + 1 ≤ _;omega)) (fun x m=>m) il r w (by simpa using hw)) ⟨.bl _,H,I,rfl,?_⟩
  rw [show its.toArray.any (inP H ds d) = its.any (inP H ds d) by simp,yO f (fun x m=>m) il r]
  exact q
 ·obtain ⟨its,r,pl,hz⟩:=I.tuple (SqT.of hq)
  refine SeqAt.in_tupleAt (inP H ds d) pl (fun w hw=>yN f (key (A:=X.A.in1) (by show X.A.units + 1 ≤ _;omega)) (fun x m=>m) il r w (by simpa using hw)) ⟨.bl _,H,I,rfl,?_⟩
  rw [show its.toArray.any (inP H ds d) = its.any (inP H ds d) by simp,yO f (fun x m=>m) il r]
  exact q
end
end L2
namespace L2
open PySem PySem.Spec PyProof.Rows
theorem rG:bootBuiltins "abs" = some (.builtin "abs"):=by decide +kernel
theorem rF:bootBuiltins "sum" = some (.builtin "sum"):=by decide +kernel
theorem aHT {ns:List Int} {us:List Value} (h:IntsAre us ns):us.length = ns.length ∧ ∀ (i:Nat) (v:Value),us[i]? = some v → ∃ t,v = .int (ns.getD i 0) t:=by
 induction h with
 | nil=>exact ⟨rfl,fun i v e=>by cases e⟩
 | cons n t r ih =>
  refine ⟨by rw [List.length_cons,List.length_cons,ih.1],fun i v e=>?_⟩
  cases i with
  | zero=>cases e;exact ⟨t,rfl⟩
  | succ i=>exact ih.2 i v e
theorem rK (ns:List Int):∀ n,n ≤ ns.length → preSum (fun i=>ns.getD i 0) n = (ns.take n).sum
 | 0,_=>by rw [List.take_zero];rfl
 | n + 1,h=>by
  have ih:=rK ns n (by omega)
  have e:ns.take (n + 1) = ns.take n ++ [ns.getD n 0]:=by
   rw [List.take_add_one,List.getElem?_eq_getElem (by omega),List.getD_eq_getElem?_getD,List.getElem?_eq_getElem (by omega)]
   rfl
  rw [e,List.sum_append,← ih]
  show preSum _ n + ns.getD n 0 = _
  simp
section
variable {X:Cx}
theorem uU (hc:X.calm = true):fB X (.builtin "sum") (fun xs H Q=>∃ (p:Addr) (ns:List Int),xs = [.ref p] ∧ SqL X.K H p (ns.map V.int) ∧ Q (.int ns.sum) H):=by
 intro pins s σ H xs us Q I r h
 obtain ⟨p,ns,rfl,hq,q⟩:=h
 obtain ⟨u,rfl,ru⟩:=bQ.one r
 cases ru
 obtain ⟨its,rv,pl,hz⟩:=I.list hq
 have hb:=aHT (uF rv)
 have hl:=pl.isList
 have hlt:p < s.heap.objs.size:=by obtain ⟨_,e,_⟩:=hl;exact Heap.lt_size e
 refine call_sum_walkG (wpAny_pyIter_list hl ?_)
 refine ⟨s.heap.objs.size,[s.heap.objs.size,p],[s.heap.objs.size],its.toArray.size,_,_,fun i=>ns.getD i 0,rfl,Walks.list (A:=X.A.in1) (I.ok.hd hc) _ p (Nat.ne_of_lt hlt) its.toArray,
  ⟨⟨_,Heap.get?_push_size _ rfl,rfl,rfl⟩,hl.push _⟩,fun b hb'=>?_,fun i v hP=>hb.2 i v (by simpa using hP),fun h' tk t' hk=>?_⟩
 ·simp only [List.mem_cons,List.not_mem_nil,or_false] at hb'
  show b < (s.heap.push _).objs.size
  rw [show (s.heap.push _).objs.size = s.heap.objs.size + 1 from Array.size_push ..]
  rcases hb' with e | e
  ·rw [e];exact Nat.lt_succ_self _
  ·rw [e];exact Nat.lt_succ_of_lt hlt
 ·have e:preSum (fun i=>ns.getD i 0) its.toArray.size = ns.sum:=by
   rw [rK _ _ (by rw [List.size_toArray];omega),List.take_of_length_le (by rw [List.size_toArray];omega)]
  rw [e]
  exact ⟨.int _,H,I.kept (LSm.kept_iter hk),⟨_,rfl⟩,q⟩
end
end L2
namespace L2
open PySem PySem.Spec PyProof.Rows
section
variable {X:Cx} {e:Expr} {t:TA} {p1 p2:Pos} {pos1 pos2:Pos}
end
end L2
namespace L2
open PySem PySem.Spec PyProof.Rows
section
variable {X:Cx}
end
end L2
namespace L2
open PySem PySem.Spec PyProof.Rows
section
variable {X:Cx}
end
end L2
namespace L2
open PySem PySem.Spec PyProof.Rows
section
variable {prog:Program} {w:World} {A:Around} {R:Result → Shared → Prop} {I S:Addr} {fp wr:List Addr} {n:Nat} {P:Nat → Value → Prop} {St:Nat → Heap → Prop}
end
section
variable {prog:Program} {w:World} {A:Around} {E:Value → Shared → Prop} {s:Shared}
end
section
variable {X:Cx}
theorem aAW (f:Nat → Int):∀ k,argBest (fun i j=>decide (f i < f j)) k ≤ k ∧ ∀ j ≤ k,f (argBest (fun i j=>decide (f i < f j)) k) ≤ f j
 | 0=>⟨Nat.le_refl _,fun j h=>by rw [Nat.le_zero.mp h];exact Int.le_refl _⟩
 | k + 1=>by
  obtain ⟨a1,a2⟩:=aAW f k
  unfold argBest
  by_cases q:f (k + 1) < f (argBest (fun i j=>decide (f i < f j)) k)
  ·rw [if_pos (decide_eq_true q)]
   exact ⟨Nat.le_refl _,fun j m=>by
    by_cases e:j = k + 1
    ·rw [e];exact Int.le_refl _
    ·have:=a2 j (by omega)
     omega⟩
  ·rw [if_neg (by rw [decide_eq_true_eq];exact q)]
   exact ⟨by omega,fun j m=>by
    by_cases e:j = k + 1
    ·rw [e];omega
    ·exact a2 j (by omega)⟩
end
end L2
namespace L2
open PySem PySem.Spec PyProof.Rows
def Itd (d:Addr) (o:Obj) (kvs:List (Key × V)):It :=
 ⟨fun i H=>H d = some (.frz o (.dK kvs)) ∧ i < kvs.length,fun i H x H'=>H' = H ∧ ∃ kv,kvs[i]? = some kv ∧ x = kV kv.1,fun i H=>H d = some (.frz o (.dK kvs)) ∧ kvs.length ≤ i⟩
theorem aEA {P:Program} {w:World} {K:PySem.W.Frag} {tg:Expr} {d it:Addr} {o:Obj} {kvs:List (Key × V)} {vs:List (Key × Value)} {ep:Nat} {h0:Heap} (kv:KV kvs vs) (hd0:h0.get? d = some o) (hat:h0.DictAt (aV P w) d vs ep) :
  Turn P w K tg (Itd d o kvs) [it] it (fun i h=>h.IsKeyIter it d i vs.length ep) where
 mem:=by simp
 obj:=fun i h st b hb=>by
  have e:b = it:=by simpa using hb
  subst e
  obtain ⟨ob,e,c,dd⟩:=st
  exact ⟨ob,e,fun v z=>by rw [dd] at z;cases z⟩
 keep:=fun i h h' st k=>st.at fun ob e=>k it (by simp) ob e
 item:=by
  intro X hP hw hK hc i pins s σ H E I hf st hg
  subst hP hw hK
  obtain ⟨hH,hi⟩:=hg
  obtain ⟨f0,f1,f2,f3,f4,f5⟩:=hf it (by simp)
  have hget:s.heap.get? d = some o:=(show cU X.prog X.w H s.heap d (.frz o (.dK kvs)) from I.hok d _ hH).1
  have hat':=hat.at' (h':=s.heap) fun ob e=>by rw [hd0] at e;cases e;exact hget
  have hl:=KV.length kv
  obtain ⟨⟨k,v⟩,hx⟩:∃ p,vs[i]? = some p:=⟨_,List.getElem?_eq_getElem (by omega)⟩
  obtain ⟨q,eq,e1,e2⟩:=KV.get kv hx
  refine wpAny_pyNext_dict_item st hat' hx fun key h' hkey st' sb=>?_
  have I1:Inv X pins σ H { s with heap:=h' }:=I.turned (t':=s.toks) (fun b ob hb e=>(sb.2 b hb).trans e) f0 f1 f3 f4 f5
  obtain ⟨ob,e,c,dd⟩:=id st'
  refine ⟨key,rfl,aDR (s:={ s with heap:=h' }) e c dd (by decide) ⟨kV q.1,H,I1,?_,⟨rfl,q,eq,rfl⟩,st',fun b hb=>(hf b hb).1⟩⟩
  rw [show q.1 = k from e1]
  exact wI hkey
 done:=by
  intro X hP hw hK hc i pins s σ H E I hf st hg
  subst hP hw hK
  obtain ⟨hH,hi⟩:=hg
  obtain ⟨f0,f1,f2,f3,f4,f5⟩:=hf it (by simp)
  have hget:s.heap.get? d = some o:=(show cU X.prog X.w H s.heap d (.frz o (.dK kvs)) from I.hok d _ hH).1
  have hat':=hat.at' (h':=s.heap) fun ob e=>by rw [hd0] at e;cases e;exact hget
  have hl:=KV.length kv
  exact wpAny_pyNext_dict_end (I.ok.hd hc) st hat' (List.getElem?_eq_none (by omega)) fun h' eb=>⟨rfl,I.turned (t':=s.toks) (fun b ob hb e=>eb b ob hb e) f0 f1 f3 f4 f5⟩
 self:=fun _ _ _ _ _ st h=>wpAny_pyIter_keyiter st h
section
variable {X:Cx} {tg:Expr}
def aOC (td:TE):TI:=fun σ H R=>td σ H fun x H1=>∃ d kvs,x = .ref d ∧ H1 d = some (.dK kvs) ∧ ∀ o,R (Itd d o kvs) (upd H1 d (.frz o (.dK kvs)))
theorem aJQ {l:Expr} {tl:TE} (hl:PE X l tl):PI X tg l (aOC tl):=by
 intro pins s σ H R I h
 refine thn (hl pins s σ H _ I h) fun v s1 ⟨x,H1,I1,r1,q1⟩=>?_
 obtain ⟨d,kvs,e,hH,q⟩:=q1
 subst e
 cases r1
 have hok:=I1.hok d _ hH
 obtain ⟨hz,lo,vs,kv,hD⟩:=id hok
 obtain ⟨ep,hat⟩:=hD.dictAt
 obtain ⟨o,es,ho,_⟩:=id hat
 refine wpAny_pyIter_dict lo hat ?_
 have I2:Inv X pins σ (upd H1 d (.frz o (.dK kvs))) s1:=I1.write (x:=d) (e:=d) (o:=.frz o (.dK kvs)) (h':=s1.heap) (t':=s1.toks) (by rw [hH];exact trivial) (.inl rfl) (fun _ _ _ q=>q) ⟨o,ho⟩ ⟨ho,hz,lo,vs,kv,hD⟩
 refine ⟨s1.heap.objs.size,[s1.heap.objs.size],_,_,upd H1 d (.frz o (.dK kvs)),rfl,I2.kept (t':=s1.toks) fun b ob e=>Heap.get?_push_of_some _ e,aEA kv ho hat,⟨_,Heap.get?_push_size _ rfl,rfl,rfl⟩,fun b hb=>?_,q o⟩
 have e:b = s1.heap.objs.size:=by simpa using hb
 subst e
 exact I2.fpOk (Nat.le_refl _) (I2.hok.fresh (Nat.le_refl _))
theorem aFD {d:Addr} {o:Obj} {kvs:List (Key × V)} {σb:St} {g:TG} {tt:TT} {te:TE} {fin:List V → Hp → Prop} {H:Hp} (hz:kvs.length ≤ sizeLine) (Pv:Nat → List V → Hp → Prop) (h0:Pv 0 [] H)
  (hl:∀ i ys H,i ≤ kvs.length → Pv i ys H → H d = some (.frz o (.dK kvs)) ∧ ys.length ≤ i)
  (hs:∀ i kv ys H (K:VK) (K':Hp → Prop),kvs[i]? = some kv → Pv i ys H → (∀ y H4,Pv (i + 1) (ys ++ [y]) H4 → K y H4) → (∀ H3,Pv (i + 1) ys H3 → K' H3) →
   g (kV kv.1) σb H fun σ2 H2=>tt σ2 H2 fun b H3=>if b = true then te σ2 H3 K else K' H3)
  (hd:∀ ys H,Pv kvs.length ys H → fin ys H):∃ W:CW,(∃ m,W 0 m [] H) ∧ ∀ i m ys H,W i m ys H → zL σb (Itd d o kvs) g tt te W fin i m ys H:=by
 refine ⟨fun i m ys H=>m = kvs.length - i ∧ i ≤ kvs.length ∧ Pv i ys H,⟨kvs.length,by simp,Nat.zero_le _,h0⟩,?_⟩
 rintro i m ys H ⟨rfl,hi,p⟩
 obtain ⟨q,ql⟩:=hl i ys H hi p
 by_cases hlt:i < kvs.length
 ·refine .inr ⟨⟨q,hlt⟩,by omega,fun x H' y=>?_⟩
  obtain ⟨e,kv,ek,ex⟩:=y
  subst e ex
  exact hs i kv ys _ _ _ ek p (fun y H4 q=>⟨kvs.length - (i + 1),by omega,rfl,hlt,q⟩) fun H3 q=>⟨kvs.length - (i + 1),by omega,rfl,hlt,q⟩
 ·have e:i = kvs.length:=by omega
  subst e
  exact .inl ⟨⟨q,Nat.le_refl _⟩,hd ys H p⟩
end
end L2
namespace L2
open PySem PySem.Spec PyProof.Rows
section
variable {X:Cx}
end
end L2
namespace L2
open PySem PySem.Spec PyProof.Rows
def CX2 (P:Program) (w:World):CXT:=fun outer H s E e s'=>∃ (ea:Addr) (cls a0:Value) (B:Heap) (H':Hp),e = .ref ea ∧ s'.os = s.os ∧ AllBare s'.gens ∧ Un (frs outer) [] H H' s.heap s'.heap ∧ HOk P w H' s'.heap ∧
 Heap.FlyingW B outer ea cls a0 s'.heap ∧ (∀ b o o',s.heap.get? b = some o → s'.heap.get? b = some o' → b ∉ frs outer → B.get? b = some o') ∧ (∀ b o',H' b ≠ none → s'.heap.get? b = some o' → B.get? b = some o') ∧ E cls none H'
section
variable {X:Cx} {pins:List (Addr × Obj)} {σ:St} {H H':Hp} {s s':Shared} {B h2:Heap} {ea:Addr} {cls a0:Value}
end
section
variable {P:Program} {w:World} {K:PySem.W.Frag} {mg:Str → Option Value} {base:Heap} {N:List Str} {qual:Str} {scope:Scope} {f:Addr} {cd:Value} {A:Around} {outer:List Env} {s:Shared} {H:Hp} {E:XK}
end
end L2
namespace L2
open PySem PySem.Spec PyProof.Rows
abbrev aMY:List Value:=[.type "ValueError",.type "Exception",.type "BaseException",.type "object"]
structure ExcC (K:PySem.W.Frag) (C:Addr):Prop where
 q:PySem.W.excIn K C aMY "ValueError.__new__" = true
section
variable {X:Cx} {C:Addr} {x:Str} {E:XK} {np cpos pos:Pos} {e:Expr} {es:List Expr} {t:TA}
end
def CAt (X:Cx) (pins:List (Addr × Obj)) (σ:St) (E:XK) (e:Value) (s':Shared):Prop:=∃ s1 H1,Inv X pins σ H1 s1 ∧ CX2 X.prog X.w X.stack H1 s1 E e s'
abbrev TX:=XK → TE
section
variable {X:Cx} {k:Nat} {f C:Addr} {fd:FuncData} {ps:List Str} {sp:Sp} {E:XK} {x m:Str} {p pos apos:Pos} {e o:Expr} {es:List Expr} {ta:TE} {t:TA}
end
end L2
namespace L2
open PySem PySem.Spec PyProof.Rows
structure FcX (P:Program) (w:World) (K:PySem.W.Frag) (mg:Str → Option Value) (base:Heap) (k:Nat) (x:Str) (ps:List Str) (sp:Sp):Prop where
 ex:∃ (f:Addr) (fd:FuncData),FnOk P w K mg base (CX2 P w) k f fd ps sp ∧ gX K fd ps [] ∧ mg x = some (.ref f) ∧ PySem.W.keepIn K (.ref f) = true
structure McX (P:Program) (w:World) (K:PySem.W.Frag) (mg:Str → Option Value) (base:Heap) (k:Nat) (C:Addr) (m:Str) (ps:List Str) (sp:Sp):Prop where
 ex:∃ (f:Addr) (fd:FuncData),FnOk P w K mg base (CX2 P w) k f fd ps sp ∧ gX K fd ps [] ∧ Meth K C m f
structure IcX (P:Program) (w:World) (K:PySem.W.Frag) (mg:Str → Option Value) (base:Heap) (k:Nat) (C:Addr) (ps:List Str) (sp:Sp):Prop where
 ex:∃ (f:Addr) (fd:FuncData),FnOk P w K mg base (CX2 P w) k f fd ps sp ∧ gX K fd ps [] ∧ Mk K C f
section
variable {P:Program} {w:World} {K:PySem.W.Frag} {mg:Str → Option Value} {base:Heap} {C:Addr} {x m qual:Str} {st:Stmt} {N ps:List Str} {k:Nat} {sp sp':Sp}
end
section
variable {X:Cx} {k:Nat} {C:Addr} {ps:List Str} {sp:Sp} {E:XK} {x m:Str} {p pos apos:Pos} {e o:Expr} {es:List Expr} {ta:TE} {t:TA}
abbrev TB:=XK → TS
end
end L2
namespace L2
open PySem PySem.Spec PyProof.Rows
abbrev Cx.held (X:Cx) (ea:Addr):Cx:={ X with A:=X.A.mark (some (.ref ea)),calm:=false,xe:=fun _ _=>False }
section
variable {X:Cx} {pins:List (Addr × Obj)} {σ:St} {H H':Hp} {s s':Shared} {ea:Addr}
end
section
variable {X:Cx} {C:Addr} {x:Str} {np hpos pos:Pos} {body suite:List Stmt} {b₀:Stmt} {tb:TB} {ts:TS}
end
end L2
namespace L2
open PySem PySem.Spec PyProof.Rows
def aPF (a:Addr) (cls:Value) (h:Heap):Prop:=∃ o vs,h.get? a = some o ∧ o.cls = cls ∧ o.data = .fields vs
def excO (a:Addr) (cls:Value):HO:=.ext (aPF a cls)
section
variable {X:Cx} {pins:List (Addr × Obj)} {σ:St} {H H':Hp} {s s':Shared} {B h2:Heap} {ea:Addr} {cls a0:Value}
end
section
variable {X:Cx} {C:Addr} {x n:Str} {np hpos pos:Pos} {body suite:List Stmt} {b₀:Stmt} {tb:TB} {ts:TS} {i:Nat}
def Ends.gone (D:Ends) (i:Nat):Ends:={ nx:=fun σ H=>D.nx (σ.set i none) H,rt:=D.rt,bk:=fun σ H=>D.bk (σ.set i none) H,ct:=fun σ H=>D.ct (σ.set i none) H }
end
end L2
namespace L2
open PySem PySem.Spec PyProof.Rows
section
open PySem.W PySem.Calls PySem.Builtin PySem.Builtin.ObjectAttr PySem.Builtin.Getset_descriptor
variable {prog:Program} {w:World} {A:Around} {E:Value → Shared → Prop} {s:Shared} {K:PySem.W.Frag} {x C:Addr}
end
structure ExA (K:PySem.W.Frag) (C:Addr):Prop where
 ex:ExcC K C
 em:PySem.W.exmOne K (.ref C) (.ref C) = some true
structure ExI (K:PySem.W.Frag) (C:Addr):Prop extends ExA K C where
 pg:PySem.W.plainGet K C "__class__" = true
 ic:InstC K C
end L2
namespace L2
open PySem PySem.Spec PyProof.Rows
section
open PySem.W PySem.Calls PySem.Builtin PySem.Builtin.ObjectAttr PySem.Builtin.Getset_descriptor
variable {prog:Program} {w:World} {A:Around} {E:Value → Shared → Prop} {s:Shared} {K:PySem.W.Frag} {x C:Addr}
end
structure ExJ (K:PySem.W.Frag) (C:Addr):Prop extends ExA K C where
 ga:PySem.W.findIn K (.ref C) "__getattribute__" = some (some (.builtin "BaseException.__getattribute__"))
 gt:PySem.W.findIn K (.ref C) "__getattr__" = some none
 mb:PySem.W.mroIn K C (.type "BaseException") = some true
 ic:InstC K C
end L2
namespace L2
open PySem PySem.Spec PyProof.Rows
section
variable {X:Cx} {k:Nat} {ps:List Str} {sp:Sp} {x:Str} {p pos:Pos} {e:Expr} {es:List Expr} {t:TA} {E:XK}
end
end L2
namespace L2
open PySem PySem.Spec PyProof.Rows
section
variable {X:Cx} {tg:Expr}
end
end L2
namespace L2
open PySem PySem.Spec PyProof.Rows
def Itw (d:Addr) (o:Obj) (kvs:List (Key × V)):It :=
 ⟨fun i H=>H d = some (.frz o (.dK kvs)) ∧ i < kvs.length,fun i H x H'=>H' = H ∧ ∃ kv,kvs[i]? = some kv ∧ x = kv.2,fun i H=>H d = some (.frz o (.dK kvs)) ∧ kvs.length ≤ i⟩
section
variable {X:Cx} {tg:Expr}
end
end L2
namespace L2
open PySem PySem.Spec PyProof.Rows
def aKV (H:Hp):List Addr → List (Key × V) → Prop
 | [],kvs=>kvs = []
 | a :: as,kvs=>∃ k v r,kvs = (k,v) :: r ∧ H a = some (.tup [kV k,v]) ∧ aKV H as r
section
variable {P:Program} {w:World} {fs:List Addr} {H0 H:Hp} {h h':Heap}
end
section
variable {X:Cx}
def xV:V → Bool
 | .int _=>true
 | .non=>true
 | _=>false
theorem aGW {v:V} (h:xV v = true) {H:Hp}:∃ d,Is H d v ∧ aO 30 d = true ∧ deq d d = true:=by
 cases v with
 | int i=>exact ⟨.int i,rfl,rfl,nO 30 _ rfl⟩
 | non=>exact ⟨.non,rfl,rfl,nO 30 _ rfl⟩
 | _=>cases h
end
end L2
namespace L2
open PySem PySem.Spec PyProof.Rows
theorem aOD {X:Cx} {pins:List (Addr × Obj)} {σ:List (Option V)} {H:Hp} {s:Shared} (I:Inv X pins σ H s) (hu:X.A.units + 64 < cLine) {kvs:List (Key × V)} {ws ws2:List (Key × Value)} (kv:KV kvs ws) (kv2:KV kvs ws2) (nd:(ws2.map (·.1)).Nodup) (hp:∀ p ∈ kvs,xV p.2 = true) :
  PySem.W.KeqHits X.A.in1 s ws2 ws true:=by
 have l1:=KV.length kv
 have l2:=KV.length kv2
 have hits:∀ (n:Nat),n ≤ ws.length → PySem.W.KeqHits X.A.in1 s ws2 (ws.drop (ws.length - n)) true:=fun n=>by
  induction n with
  | zero=>intro _;rw [Nat.sub_zero,List.drop_length];exact .nil
  | succ n ih =>
   intro hn
   have hi:ws.length - (n + 1) < ws.length:=by omega
   rw [List.drop_eq_getElem_cons hi]
   have e1:ws.length - (n + 1) + 1 = ws.length - n:=by omega
   rw [e1]
   obtain ⟨⟨k1,v1⟩,f1⟩:∃ p,ws[ws.length - (n + 1)]? = some p:=⟨_,List.getElem?_eq_getElem hi⟩
   obtain ⟨⟨k2,v2⟩,f2⟩:∃ p,ws2[ws.length - (n + 1)]? = some p:=⟨_,List.getElem?_eq_getElem (by omega)⟩
   obtain ⟨p1,g1,c1,r1⟩:=KV.get kv f1
   obtain ⟨p2,g2,c2,r2⟩:=KV.get kv2 f2
   rw [g1] at g2
   cases g2
   have ek:k1 = k2:=c1.symm.trans c2
   subst ek
   have eg:ws[ws.length - (n + 1)] = (k1,v1):=by
    rw [List.getElem?_eq_getElem hi] at f1
    exact Option.some.inj f1
   rw [eg]
   obtain ⟨d,i1,fd,dd⟩:=aGW (hp p1 (List.mem_of_getElem? g1)) (H:=H)
   have at1:=Is.eqAt I 30 d d p1.2 p1.2 v1 v2 X.A.in1 (by have:X.A.in1.units = X.A.units + 1:=rfl;omega) fd fd i1 i1 r1 r2
   rw [dd] at at1
   exact .hit (e:=true) (b:=true) (valueAt_of_get nd f2) at1 (ih (by omega))
 have:=hits ws.length (Nat.le_refl _)
 rwa [Nat.sub_self,List.drop_zero] at this
def aNQ:R2:=fun x y H Q=>aJM true x y H Q ∨ ∃ (a b:Addr) (kvs:List (Key × V)),x = .ref a ∧ y = .ref b ∧ Rd H a (.dK kvs) ∧ Rd H b (.dK kvs) ∧ (∀ p ∈ kvs,xV p.2 = true) ∧ Q (.bl false) H
theorem aLV {X:Cx} (hu:X.A.units + 64 < cLine):OpR X (compareOp .NotEq) aNQ:=by
 intro pins s σ H x y v u Q I rx ry h
 rcases h with h | ⟨a,b,kvs,rfl,rfl,ha,hb,hp,q⟩
 ·exact tL hu pins s σ H x y v u Q I rx ry h
 ·cases rx
  cases ry
  obtain ⟨hz,lo,ws,kv,hD⟩:=ha.ok I.hok
  obtain ⟨hz2,lo2,ws2,kv2,hD2⟩:=hb.ok I.hok
  have nd:(ws2.map (·.1)).Nodup:=by
   obtain ⟨_,_,_,_,_,_,_,_,hn⟩:=hD2
   exact hn
  have l1:=KV.length kv
  have l2:=KV.length kv2
  refine PySem.W.keq_ne (r:=true) lo lo2 hD hD2 (by omega) (fun _=>aOD I hu kv kv2 nd hp) ?_
  rw [show (ws.length == ws2.length) = true from beq_iff_eq.mpr (by omega)]
  exact ⟨.bl false,H,I,rfl,q⟩
end L2
namespace L2
open PySem PySem.Spec PyProof.Rows
section
variable {X:Cx}
inductive GEnts (w:World):List (Str × V) → List DictEntry → Prop
 | nil:GEnts w [] []
 | cons {k:Str} {v:V} {e:DictEntry} {r:List (Str × V)} {es:List DictEntry} (h:∃ t,e.hash = PyData.keyHash w.params k ∧ e.key = .str k t ∧ bK v e.val) (t:GEnts w r es):GEnts w ((k,v) :: r) (e :: es)
def gKV (ks:List (Str × V)):List (Key × V):=ks.map fun p=>(Sum.inr p.1,p.2)
end
end L2
namespace Mt04
open PySem L2 Ld
def uP:Dv → Int
 | .tup [_,_,_,.int c,_,_]=>c
 | _=>0
def hOf:Dv → Int
 | .tup [_,.int h]=>h
 | _=>0
def aDW (ds:List Dv) (z:Str):Int:=(ds.find? fun d=>decide (aJ d = z)).elim 0 uP
def aHR (ds:List Dv):Dv → Bool
 | .tup [.str z,.int h]=>decide (z ∈ ds.map aJ) && (hgt h && decide (aDW ds z ≤ h))
 | _=>false
def areWorks (ds:List Dv):Dv → Bool
 | .lst ws=>ws.all (aHR ds) && decide ((ws.map dG).Nodup)
 | _=>false
structure GoodW (ds ws:List Dv):Prop where
 all:∀ d ∈ ws,aHR ds d = true
 nd:(ws.map aJ).Nodup
def wAt (ws:List Dv) (z:Str):Option Int:=(ws.find? fun d=>decide (aJ d = z)).map hOf
def aPC (ws:List Dv):Dv → Dv
 | .tup [.str n,a,b,.int c,r,s]=>.tup [.str n,a,b,.int ((wAt ws n).getD c),r,s]
 | d=>d
def raisedD (ds ws:List Dv):List Dv:=ds.map (aPC ws)
def kvOf (d:Dv):Key × V:=(nJ d,.int (hOf d))
end Mt04
namespace Mt22
open PySem L2 Ld
structure St where
 nm:Str
 near:Str
 far:Str
 h:Int
abbrev Lo:=Str → Option Int
def sea:Str:="sea"
def lo0:Lo:=fun z=>if z = sea then some (-1000000) else none
def aNP (lo:Lo) (s:St):Lo:=match lo s.near with
 | none=>lo
 | some a=>fun z=>if z = s.far then some (match lo s.far with | none=>max a s.h | some b=>min (max a s.h) b) else lo z
def aNO (S:List St) (lo:Lo):Lo:=S.foldl aNP lo
def aGQ (S:List St):Nat → Lo
 | 0=>lo0
 | n + 1=>aNO S (aGQ S n)
inductive Walk (S:List St):Nat → Str → Int → Prop
 | sea:Walk S 0 Mt22.sea (-1000000)
 | step {k:Nat} {a:Int} {s:St} (w:Walk S k s.near a) (m:s ∈ S):Walk S (k + 1) s.far (max a s.h)
def Le (lo lo':Lo):Prop:=∀ z c,lo' z = some c → ∃ d,lo z = some d ∧ d ≤ c
def Att (S:List St) (lo:Lo):Prop:=∀ z c,lo z = some c → ∃ k,Walk S k z c
inductive Path (S:List St):List Str → Str → Int → Prop
 | sea:Path S [] Mt22.sea (-1000000)
 | step {p:List Str} {a:Int} {s:St} (w:Path S p s.near a) (m:s ∈ S) (n:s.far ∉ p):Path S (s.far :: p) s.far (max a s.h)
theorem jP {α:Type} [DecidableEq α]:∀ {P N:List α},P.Nodup → (∀ x ∈ P,x ∈ N) → P.length ≤ N.length
 | [],N,_,_=>Nat.zero_le _
 | x :: P,N,nd,sub=>by
  have hx:=sub x List.mem_cons_self
  rw [List.nodup_cons] at nd
  have:=jP (P:=P) (N:=N.erase x) nd.2 fun y m=>(List.mem_erase_of_ne (a:=y) (b:=x) (fun e=>nd.1 (by rw [← e];exact m))).mpr (sub y (List.mem_cons_of_mem _ m))
  rw [List.length_erase_of_mem hx] at this
  have hp:=List.length_pos_of_mem hx
  rw [List.length_cons]
  omega
structure Flood (S:List St) (lo:Lo):Prop where
 att:Att S lo
 low:∀ k v b,Walk S k v b → ∃ c,lo v = some c ∧ c ≤ b
inductive Come (S:List St) (L:Int):Str → Prop
 | sea:Come S L Mt22.sea
 | step {s:St} (w:Come S L s.near) (m:s ∈ S) (h:s.h < L):Come S L s.far
end Mt22
namespace MtF
open PySem L2 Ld Mt04 Mt22
def aLM:Dv → Dv
 | .tup [_,_,_,_,_,s]=>s
 | _=>.non
def aOA:Dv → Int
 | .int i=>i
 | _=>0
def aHE:Dv → Str
 | .tup [_,.str a,_,_,_,_]=>a
 | _=>""
def tI:Dv → Str
 | .tup [_,_,.str b,_,_,_]=>b
 | _=>""
def aLL (op:List Str) (d:Dv):Int:=if aJ d ∈ op then aOA (aLM d) else uP d
def eD:Dv → Int
 | .tup [_,.int g,_]=>g
 | _=>0
def kW (fs:List Dv) (z:Str):Int:=(fs.find? fun d=>decide (aJ d = z)).elim 0 eD
theorem aKJ {ds:List Dv} (nd:(ds.map aJ).Nodup) {d:Dv} (m:d ∈ ds):(ds.find? fun e=>decide (aJ e = aJ d)) = some d:=by
 induction ds with
 | nil=>cases m
 | cons e ds ih =>
  rw [List.map_cons,List.nodup_cons] at nd
  rw [List.find?_cons]
  rcases List.mem_cons.mp m with rfl | m
  ·rw [decide_eq_true rfl]
  ·have hne:aJ e ≠ aJ d:=fun c=>nd.1 (c ▸ List.mem_map.mpr ⟨d,m,rfl⟩)
   rw [decide_eq_false hne]
   exact ih nd.2 m
theorem qV {fs:List Dv} (nd:(fs.map aJ).Nodup) {d:Dv} (m:d ∈ fs):kW fs (aJ d) = eD d:=by
 show (fs.find? fun e=>decide (aJ e = aJ d)).elim 0 eD = _
 rw [aKJ nd m]
 rfl
def aFV (fs:List Dv) (op:List Str) (d:Dv) (near far:Str):List Mt22.St:=if far = "sea" then [] else [⟨aJ d,near,far,max (aLL op d) (kW fs far)⟩]
def stepsOf (fs:List Dv) (op:List Str) (d:Dv):List Mt22.St:=aFV fs op d (aHE d) (tI d) ++ aFV fs op d (tI d) (aHE d)
def aLK (fs ds:List Dv) (op:List Str):List Mt22.St:=ds.flatMap (stepsOf fs op)
def stepDv (s:Mt22.St):Dv:=.tup [.str s.nm,.str s.near,.str s.far,.int s.h]
def flo (fs ds:List Dv) (op:List Str):Mt22.Lo:=aGQ (aLK fs ds op) fs.length
def tK:Option Int → V
 | some i=>.int i
 | none=>.non
end MtF
namespace Mt21
open PySem L2 Ld Mt02
def ab (i:Int):Nat:=97 + (i % 26).toNat
def oneL (i:Int):Str:=⟨#[ab i]⟩
structure Put (z b:Str) (at':Nat) (x y:Int):Prop where
 codes:z.cps.toList = b.cps.toList.take at' ++ [ab x,ab y] ++ b.cps.toList.drop at'
end Mt21
namespace Mt31
open PySem L2 Ld Mt22
abbrev Cm:=List (Str × Option Mt22.St)
def keys (cm:Cm):List Str:=cm.map (·.1)
structure Came (S:List Mt22.St) (cm:Cm):Prop where
 nd:(keys cm).Nodup
 first:cm[0]? = some (Mt22.sea,none)
 prev:∀ (i:Nat) (z:Str) (o:Option Mt22.St),0 < i → cm[i]? = some (z,o) → ∃ s,o = some s ∧ s ∈ S ∧ s.far = z ∧ s.near ∈ keys (cm.take i)
def Open (S:List Mt22.St) (cm:Cm) (p:Nat):Prop:=∀ (i:Nat) (u:Str),i < p → (keys cm)[i]? = some u → ∀ s ∈ S,s.near = u → s.far ∈ keys cm
inductive Chain (S:List Mt22.St):List Mt22.St → Str → Prop
 | nil:Chain S [] Mt22.sea
 | snoc {ss:List Mt22.St} {s:Mt22.St} (c:Chain S ss s.near) (m:s ∈ S) (n:s.far ∉ ss.map (·.far)):Chain S (ss ++ [s]) s.far
def hm (ss:List Mt22.St):Int:=ss.foldl (fun a s=>max a s.h) (-1000000)
def Tail (S:List Mt22.St) (cm:Cm) (j:Nat) (z:Str) (tl:List Mt22.St) (side:Str):Prop:=∀ ss,Chain S ss z → (∀ y ∈ ss.map (·.far),y ∈ keys (cm.take (j + 1))) → Chain S (ss ++ tl) side
end Mt31
namespace Mt61
open PySem L2 Mt22 Mt31
structure Gap where
 nm:Str
 a:Str
 b:Str
 cap:Int
abbrev Fl:=Str → Int
def sm {α:Type} (xs:List α) (f:α → Int):Int:=(xs.map f).sum
section
variable {α β:Type}
theorem aGG (f:α → Int):sm [] f = 0:=rfl
theorem cJ (x:α) (xs:List α) (f:α → Int):sm (x :: xs) f = f x + sm xs f:=by
 unfold sm;rw [List.map_cons,List.sum_cons]
theorem aGI (f:α → Int):∀ xs ys:List α,sm (xs ++ ys) f = sm xs f + sm ys f
 | [],ys=>by rw [List.nil_append,aGG];omega
 | x :: xs,ys=>by rw [List.cons_append,cJ,cJ,aGI f xs ys];omega
theorem gF {f g:α → Int}:∀ {xs:List α},(∀ x ∈ xs,f x = g x) → sm xs f = sm xs g
 | [],_=>rfl
 | x :: xs,h=>by rw [cJ,cJ,h x List.mem_cons_self,gF fun y m=>h y (List.mem_cons_of_mem _ m)]
theorem oB {f:α → Int} {xs:List α} (h:∀ x ∈ xs,f x = 0):sm xs f = 0:=by
 rw [gF h]
 induction xs with
 | nil=>rfl
 | cons x xs ih=>rw [cJ,ih fun y m=>h y (List.mem_cons_of_mem _ m)];rfl
theorem xL (f g:α → Int):∀ xs:List α,sm xs (fun x=>f x + g x) = sm xs f + sm xs g
 | []=>rfl
 | x :: xs=>by rw [cJ,cJ,cJ,xL f g xs];omega
theorem aGF (f g:α → Int):∀ xs:List α,sm xs (fun x=>f x - g x) = sm xs f - sm xs g
 | []=>rfl
 | x :: xs=>by rw [cJ,cJ,cJ,aGF f g xs];omega
theorem aDI (f:α → β → Int) (ys:List β):∀ xs:List α,sm xs (fun x=>sm ys (f x)) = sm ys (fun y=>sm xs fun x=>f x y)
 | []=>(oB (fun _ _=>rfl)).symm
 | x :: xs=>by
  rw [cJ,aDI f ys xs,← xL]
  exact gF fun y _=>by rw [cJ]
theorem zW (X:α → Bool) (f:α → Int):∀ xs:List α,sm xs f = sm (xs.filter X) f + sm (xs.filter fun x=>!X x) f
 | []=>rfl
 | x :: xs=>by
  rw [cJ,zW X f xs]
  cases h:X x with
  | true=>rw [List.filter_cons_of_pos h,List.filter_cons_of_neg (by simp [h]),cJ];omega
  | false=>rw [List.filter_cons_of_neg (by simp [h]),List.filter_cons_of_pos (by simp [h]),cJ];omega
theorem iZ (X:α → Bool) (f:α → Int):∀ xs:List α,sm (xs.filter X) f = sm xs fun x=>if X x = true then f x else 0
 | []=>rfl
 | x :: xs=>by
  cases h:X x with
  | true=>rw [List.filter_cons_of_pos h,cJ,cJ,if_pos h,iZ X f xs]
  | false=>rw [List.filter_cons_of_neg (by simp [h]),cJ,if_neg (by simp [h]),iZ X f xs];omega
end
theorem sG {V:List Str} (X:Str → Bool) {w:Str} (c:Int) (nd:V.Nodup) (m:w ∈ V):sm (V.filter X) (fun v=>if w = v then c else 0) = if X w = true then c else 0:=by
 rw [iZ]
 induction V with
 | nil=>cases m
 | cons v V ih =>
  rw [List.nodup_cons] at nd
  rw [cJ]
  by_cases e:w = v
  ·subst e
   rw [oB (xs:=V) fun x mx=>?_]
   ·simp
   ·have:w ≠ x:=fun e=>nd.1 (e ▸ mx)
    simp [this]
  ·have mV:w ∈ V:=by
    rcases List.mem_cons.mp m with h | h
    ·exact absurd h e
    ·exact h
   rw [ih nd.2 mV]
   simp [e]
theorem aJH {G:List Gap} (nd:(G.map (·.nm)).Nodup) {g0:Gap} (m:g0 ∈ G) (c:Gap → Int):sm G (fun g=>if g.nm = g0.nm then c g else 0) = c g0:=by
 induction G with
 | nil=>cases m
 | cons g G ih =>
  rw [List.map_cons,List.nodup_cons] at nd
  rw [cJ]
  rcases List.mem_cons.mp m with rfl | m
  ·rw [oB (xs:=G) fun x mx=>?_]
   ·simp
   ·have:x.nm ≠ g0.nm:=fun e=>nd.1 (e ▸ List.mem_map.mpr ⟨x,mx,rfl⟩)
    simp [this]
  ·have:g.nm ≠ g0.nm:=fun e=>nd.1 (e ▸ List.mem_map.mpr ⟨g0,m,rfl⟩)
   rw [ih nd.2 m]
   simp [this]
def vJ (f:Fl) (v:Str) (g:Gap):Int:=(if g.b = v then f g.nm else 0) - (if g.a = v then f g.nm else 0)
def net (G:List Gap) (f:Fl) (v:Str):Int:=sm G (vJ f v)
def aML (X:Str → Bool) (f:Fl) (g:Gap):Int:=(if X g.b = true then f g.nm else 0) - (if X g.a = true then f g.nm else 0)
def val (G:List Gap) (f:Fl):Int:=- net G f sea
def aOK (X:Str → Bool) (g:Gap):Int:=if X g.a = X g.b then 0 else g.cap
def cut (G:List Gap) (X:Str → Bool):Int:=sm G (aOK X)
structure Gaps (V:List Str) (G:List Gap):Prop where
 nd:(G.map (·.nm)).Nodup
 ends:∀ g ∈ G,g.a ∈ V ∧ g.b ∈ V ∧ g.a ≠ g.b
 cap:∀ g ∈ G,0 ≤ g.cap
 vnd:V.Nodup
 sea:Mt22.sea ∈ V
def aIZ (G:List Gap) (f:Fl):Prop:=∀ g ∈ G,-g.cap ≤ f g.nm ∧ f g.nm ≤ g.cap
theorem yE {V:List Str} {G:List Gap} (h:Gaps V G) (X:Str → Bool) (f:Fl):sm (V.filter X) (net G f) = sm G (aML X f):=by
 unfold net
 rw [aDI]
 refine gF fun g mg=>?_
 obtain ⟨ma,mb,_⟩:=h.ends g mg
 show sm (V.filter X) (fun v=>(if g.b = v then f g.nm else 0) - (if g.a = v then f g.nm else 0)) = _
 rw [aGF,sG X (f g.nm) h.vnd mb,sG X (f g.nm) h.vnd ma]
 rfl
theorem aJZ {V:List Str} {G:List Gap} (h:Gaps V G) (f:Fl):sm V (net G f) = 0:=by
 have:=yE h (fun _=>true) f
 rw [List.filter_eq_self.mpr (fun _ _=>rfl)] at this
 rw [this]
 refine oB fun g _=>?_
 unfold aML
 simp
theorem aFM {V:List Str} {G:List Gap} (h:Gaps V G) {f:Fl} {X:Str → Bool} (hs:X Mt22.sea = false) (hz:∀ v ∈ V,v ≠ Mt22.sea → X v = false → net G f v = 0):sm G (aML X f) = val G f:=by
 rw [← yE h X f]
 have a:=aJZ h f
 rw [zW X (net G f) V] at a
 have b:sm (V.filter fun x=>!X x) (net G f) = net G f Mt22.sea:=by
  have e:sm (V.filter fun x=>!X x) (net G f) = sm (V.filter fun x=>!X x) (fun v=>if Mt22.sea = v then net G f Mt22.sea else 0):=gF fun v mv=>by
   rw [List.mem_filter] at mv
   by_cases hv:Mt22.sea = v
   ·rw [if_pos hv,hv]
   ·rw [if_neg hv]
    exact hz v mv.1 (fun e=>hv e.symm) (by simpa using mv.2)
  rw [e,sG (fun x=>!X x) _ h.vnd h.sea,hs]
  rfl
 unfold val
 omega
def up (g:Gap):Mt22.St:=⟨g.nm,g.a,g.b,1⟩
def dn (g:Gap):Mt22.St:=⟨g.nm,g.b,g.a,-1⟩
def stepsOf (G:List Gap):List Mt22.St:=G.flatMap fun g=>[up g,dn g]
theorem wE {G:List Gap} {s:Mt22.St}:s ∈ stepsOf G ↔ ∃ g ∈ G,s = up g ∨ s = dn g:=by
 unfold stepsOf
 rw [List.mem_flatMap]
 simp
def oS (m:Int) (f:Fl) (s:Mt22.St):Fl:=fun n=>if n = s.nm then f n + s.h * m else f n
theorem aKA {V:List Str} {G:List Gap} (h:Gaps V G) {s:Mt22.St} (ms:s ∈ stepsOf G) (m:Int) (f:Fl) (v:Str):net G (oS m f s) v = net G f v + ((if s.far = v then m else 0) - (if s.near = v then m else 0)):=by
 obtain ⟨g0,m0,e⟩:=wE.mp ms
 have key:net G (oS m f s) v = net G f v + sm G (fun g=>if g.nm = g0.nm then ((if s.far = v then m else 0) - (if s.near = v then m else 0)) else 0):=by
  unfold net
  rw [← xL]
  refine gF fun g mg=>?_
  unfold vJ oS
  have hn:s.nm = g0.nm:=by rcases e with rfl | rfl <;> rfl
  by_cases hg:g.nm = g0.nm
  ·have eg:g = g0:=by
    have nd:=h.nd
    obtain ⟨i,hi⟩:=List.mem_iff_getElem?.mp mg
    obtain ⟨j,hj⟩:=List.mem_iff_getElem?.mp m0
    obtain ⟨li,ei⟩:=List.getElem?_eq_some_iff.mp hi
    obtain ⟨lj,ej⟩:=List.getElem?_eq_some_iff.mp hj
    have:i = j:=(List.getElem_inj (xs:=G.map (·.nm)) (h₀:=by rw [List.length_map];exact li) (h₁:=by rw [List.length_map];exact lj) nd).mp (by rw [List.getElem_map,List.getElem_map,ei,ej,hg])
    subst this
    rw [← ei,← ej]
   subst eg
   rw [if_pos hg,if_pos hn.symm]
   rcases e with rfl | rfl
   ·show (if g.b = v then f g.nm + 1 * m else 0) - (if g.a = v then f g.nm + 1 * m else 0) = (if g.b = v then f g.nm else 0) - (if g.a = v then f g.nm else 0) + ((if g.b = v then m else 0) - (if g.a = v then m else 0))
    split <;> split <;> omega
   ·show (if g.b = v then f g.nm + -1 * m else 0) - (if g.a = v then f g.nm + -1 * m else 0) = (if g.b = v then f g.nm else 0) - (if g.a = v then f g.nm else 0) + ((if g.a = v then m else 0) - (if g.b = v then m else 0))
    split <;> split <;> omega
  ·have hg':¬ g.nm = s.nm:=fun e=>hg (e.trans hn)
   simp only [if_neg hg,if_neg hg']
   omega
 rw [key,aJH h.nd m0]
instance stDec:DecidableEq Mt22.St:=fun a b=>decidable_of_iff (a.nm = b.nm ∧ a.near = b.near ∧ a.far = b.far ∧ a.h = b.h) (by
 cases a;cases b;simp)
def eI (G:List Gap) (n:Str):Int:=sm G fun g=>if g.nm = n then g.cap else 0
def aLN (G:List Gap) (f:Fl) (s:Mt22.St):Int:=eI G s.nm - s.h * f s.nm
structure Stream (V:List Str) (G:List Gap) (ws:List Str) (f:Fl):Prop where
 fits:aIZ G f
 zero:∀ v ∈ V,v ≠ Mt22.sea → v ∉ ws → net G f v = 0
 gain:∀ v ∈ ws,0 ≤ net G f v
def total (G:List Gap):Int:=sm G (·.cap)
structure Round (G:List Gap) (f:Fl) (ws R B:List Str):Prop where
 sea:Mt22.sea ∈ R
 closed:∀ s ∈ stepsOf G,0 < aLN G f s → s.near ∈ R → s.far ∈ R
 wout:∀ z ∈ ws,z ∉ R
 win:∀ z ∈ ws,z ∈ B
 bout:∀ z ∈ B,z ∉ R
 bclosed:∀ s ∈ stepsOf G,s.far ∉ R → s.near ∈ B → s.far ∈ B
instance memStr (z:Str) (l:List Str):Decidable (z ∈ l):=inferInstance
def inB (B:List Str):Str → Bool:=fun z=>decide (z ∈ B)
def roundS (G:List Gap) (R B:List Str):List Mt22.St:=(stepsOf G).filter fun s=>decide (s.near ∈ R) && decide (s.far ∈ B)
def Least (G:List Gap) (ws:List Str) (c:Int):Prop:=(∃ X:Str → Bool,X Mt22.sea = false ∧ (∀ z ∈ ws,X z = true) ∧ cut G X = c) ∧ ∀ X:Str → Bool,X Mt22.sea = false → (∀ z ∈ ws,X z = true) → c ≤ cut G X
end Mt61
namespace Mt61
open PySem L2 Mt22 Mt31
structure CameG (zs:List Str) (S:List Mt22.St) (cm:Cm):Prop where
 nd:(keys cm).Nodup
 le:zs.length ≤ cm.length
 first:∀ (i:Nat) (z:Str),zs[i]? = some z → cm[i]? = some (z,none)
 prev:∀ (i:Nat) (z:Str) (o:Option Mt22.St),zs.length ≤ i → cm[i]? = some (z,o) → ∃ s,o = some s ∧ s ∈ S ∧ s.far = z ∧ s.near ∈ keys (cm.take i)
end Mt61
namespace Mt05
open PySem L2 Ld Mt02
def noS (z:Str):Prop:=¬ (115:Nat) ∈ z.cps.toList
structure NamesS (zs:List Str) (n:Nat):Prop where
 nm:Names zs n
 nos:∀ z ∈ zs,noS z
end Mt05
namespace Mt53
open PySem L2 Ld Mt02 Mt04
def aLD:Dv → Int
 | .tup [_,_,_,_,.int r,_]=>r
 | _=>0
def aLO (ds:List Dv) (z:Str):Int:=(ds.find? fun d=>decide (aJ d = z)).elim 0 aLD
def aOL (ds:List Dv) (w:Dv):Int:=aLO ds (aJ w) * (hOf w - aDW ds (aJ w))
def coinsW (ds ws:List Dv):Int:=(ws.map (aOL ds)).sum
end Mt53
namespace Mt51
open PySem L2 Ld Mt04 Mt22 MtF Mt53
structure Gp where
 nm:Str
 one:Str
 other:Str
 coins:Int
def eA (g:Gp):Dv:=.tup [.str g.nm,.str g.one,.str g.other,.int g.coins]
def lowS (fs:List Dv) (L:Int):List Str:="sea" :: (fs.filter fun d=>decide (eD d < L)).map aJ
def pZ (fs:List Dv) (L:Int) (d:Dv):Bool:=decide (uP d < L) && (decide (aHE d ∈ lowS fs L) && decide (tI d ∈ lowS fs L))
def zK (L:Int) (d:Dv):Gp:=⟨aJ d,aHE d,tI d,aLD d * (L - uP d)⟩
def gapsD (fs ds:List Dv) (L:Int):List Gp:=(ds.filter (pZ fs L)).map (zK L)
inductive Reach (G:List Gp):Str → Prop
 | sea:Reach G Mt22.sea
 | fwd {g:Gp} (m:g ∈ G) (r:Reach G g.one):Reach G g.other
 | bwd {g:Gp} (m:g ∈ G) (r:Reach G g.other):Reach G g.one
theorem aCH {fs:List Dv} (gf:GoodF fs) {L:Int} {z:Str} (h:z ∈ lowS fs L) (hz:z ≠ "sea"):kW fs z < L:=by
 rcases List.mem_cons.mp h with e | h
 ·exact absurd e hz
 ·obtain ⟨d,md,rfl⟩:=List.mem_map.mp h
  rw [List.mem_filter] at md
  rw [qV gf.nd md.1]
  exact of_decide_eq_true md.2
theorem aCK {fs:List Dv} (gf:GoodF fs) {L:Int} {z:Str} (m:z ∈ fs.map aJ) (h:kW fs z < L):z ∈ lowS fs L:=by
 obtain ⟨d,md,rfl⟩:=List.mem_map.mp m
 rw [qV gf.nd md] at h
 exact List.mem_cons_of_mem _ (List.mem_map.mpr ⟨d,List.mem_filter.mpr ⟨md,decide_eq_true h⟩,rfl⟩)
theorem aHJ {fs ds:List Dv} {L:Int} {g:Gp}:g ∈ gapsD fs ds L ↔ ∃ d ∈ ds,uP d < L ∧ aHE d ∈ lowS fs L ∧ tI d ∈ lowS fs L ∧ g = zK L d:=by
 unfold gapsD
 rw [List.mem_map]
 constructor
 ·rintro ⟨d,md,rfl⟩
  rw [List.mem_filter] at md
  obtain ⟨m,h⟩:=md
  unfold pZ at h
  rw [Bool.and_eq_true,Bool.and_eq_true] at h
  exact ⟨d,m,of_decide_eq_true h.1,of_decide_eq_true h.2.1,of_decide_eq_true h.2.2,rfl⟩
 ·rintro ⟨d,m,h1,h2,h3,rfl⟩
  refine ⟨d,List.mem_filter.mpr ⟨m,?_⟩,rfl⟩
  unfold pZ
  rw [decide_eq_true h1,decide_eq_true h2,decide_eq_true h3]
  rfl
structure Grow (G:List Gp) (V:List Str) (zs:List Str):Prop where
 nd:zs.Nodup
 sub:∀ z ∈ zs,z ∈ V
 sea:Mt22.sea ∈ zs
 sound:∀ z ∈ zs,Reach G z
def Nbr (zs:List Str) (u:Str) (g:Gp):Prop:=(u = g.one → g.other ∈ zs) ∧ (u = g.other → g.one ∈ zs)
def ClosedTo (G:List Gp) (zs:List Str) (k:Nat):Prop:=∀ i u,i < k → zs[i]? = some u → ∀ g ∈ G,Nbr zs u g
end Mt51
namespace L2
open PySem PySem.Spec PyProof.Rows
section
variable {X:Cx} {tg:Expr}
theorem aFG (hc:X.calm = true):fB X (.builtin "min") (fun xs H Q=>∃ (p:Addr) (ns:List Int),xs = [.ref p] ∧ SqL X.K H p (ns.map V.int) ∧ 0 < ns.length ∧ ∀ M,M ∈ ns → (∀ a ∈ ns,M ≤ a) → Q (.int M) H):=by
 intro pins s σ H xs us Q I r h
 obtain ⟨p,ns,rfl,hq,h0,q⟩:=h
 obtain ⟨u,rfl,ru⟩:=bQ.one r
 cases ru
 obtain ⟨its,rv,pl,hz⟩:=I.list hq
 have hi:=uF rv
 obtain ⟨ys,ey⟩:=hi.allInts.items
 have en:ns = ys.toList.map fun x=>x.1:=by
  have h1:=nums_intItems ys
  rw [← ey] at h1
  rw [← h1]
  exact hi.numsOf.symm
 have hl:s.heap.IsList p (intItems ys):=by rw [← ey];exact pl.isList
 have hlen:ns.length = ys.size:=by rw [en,List.length_map,Array.length_toList]
 refine min_intList (I.ok.hd hc) hl (by omega) fun v h' tk hv hk=>?_
 obtain ⟨tv,rfl⟩:=intItems_at hv
 obtain ⟨g1,g2⟩:=aAW (numAt ys) (ys.size - 1)
 refine ⟨.int _,H,I.kept (t':=tk) hk,⟨_,rfl⟩,q _ ?_ fun a ma=>?_⟩
 ·rw [numAt_eq,← en,List.getD_eq_getElem?_getD,List.getElem?_eq_getElem (show argBest (fun i j=>decide (numAt ys i < numAt ys j)) (ys.size - 1) < ns.length by omega)]
  exact List.getElem_mem _
 ·obtain ⟨j,hj⟩:=List.mem_iff_getElem?.mp ma
  have hjl:=(List.getElem?_eq_some_iff.mp hj).1
  have:=g2 j (by omega)
  rw [numAt_eq ys j,← en,List.getD_eq_getElem?_getD,hj] at this
  exact this
end
end L2
namespace K56
open PySem L2
local macro_rules | `(tactic| trivial)=>`(tactic| first | exact .inl rfl | exact .inr rfl | assumption)
def top (i:Nat):Stmt:=PySem.Challenge.pw_dykemoot_k56_papers_for_streams.main.body.getD i (.Pass ⟨0,0,0,0⟩)
abbrev pN:Stmt:=top 0
abbrev gG:Stmt:=top 13
theorem uY:FnScope ["thing"] ["thing"] (aF gG):=⟨rfl,rfl,rfl,by decide +kernel,rfl,by decide +kernel,by decide +kernel⟩
abbrev iF:Stmt:=top 14
theorem xP:FnScope ["thing"] ["thing"] (aF iF):=⟨rfl,rfl,rfl,by decide +kernel,rfl,by decide +kernel,by decide +kernel⟩
abbrev fN:Stmt:=top 15
theorem sT:FnScope ["thing"] ["thing"] (aF fN):=⟨rfl,rfl,rfl,by decide +kernel,rfl,by decide +kernel,by decide +kernel⟩
abbrev fP:Stmt:=top 16
theorem sU:FnScope ["thing"] ["thing"] (aF fP):=⟨rfl,rfl,rfl,by decide +kernel,rfl,by decide +kernel,by decide +kernel⟩
abbrev fM:Stmt:=top 17
theorem mN:FnScope ["thing","names"] ["thing","names"] (aF fM):=⟨rfl,rfl,rfl,by decide +kernel,rfl,by decide +kernel,by decide +kernel⟩
abbrev eL:Stmt:=top 18
theorem rV:FnScope ["thing","most"] ["thing","most"] (aF eL):=⟨rfl,rfl,rfl,by decide +kernel,rfl,by decide +kernel,by decide +kernel⟩
abbrev eE:Stmt:=top 19
theorem qG:FnScope ["thing","length"] ["thing","length"] (aF eE):=⟨rfl,rfl,rfl,by decide +kernel,rfl,by decide +kernel,by decide +kernel⟩
abbrev eK:Stmt:=top 20
theorem rT:FnScope ["rows"] ["rows"] (aF eK):=⟨rfl,rfl,rfl,by decide +kernel,rfl,by decide +kernel,by decide +kernel⟩
abbrev gH:Stmt:=top 21
theorem uZ:FnScope ["thing"] ["thing"] (aF gH):=⟨rfl,rfl,rfl,by decide +kernel,rfl,by decide +kernel,by decide +kernel⟩
abbrev eO:Stmt:=top 22
theorem rX:FnScope ["thing"] ["thing"] (aF eO):=⟨rfl,rfl,rfl,by decide +kernel,rfl,by decide +kernel,by decide +kernel⟩
abbrev fR:Stmt:=top 23
theorem sX:FnScope ["one","other","sides"] ["one","other","sides"] (aF fR):=⟨rfl,rfl,rfl,by decide +kernel,rfl,by decide +kernel,by decide +kernel⟩
abbrev iE:Stmt:=top 24
theorem xO:FnScope ["thing","crown"] ["thing","crown"] (aF iE):=⟨rfl,rfl,rfl,by decide +kernel,rfl,by decide +kernel,by decide +kernel⟩
abbrev iH:Stmt:=top 25
theorem xR:FnScope ["thing","sides"] ["thing","sides"] (aF iH):=⟨rfl,rfl,rfl,by decide +kernel,rfl,by decide +kernel,by decide +kernel⟩
abbrev fS:Stmt:=top 26
theorem sY:FnScope ["thing","sides"] ["thing","sides"] (aF fS):=⟨rfl,rfl,rfl,by decide +kernel,rfl,by decide +kernel,by decide +kernel⟩
abbrev dB:Stmt:=top 27
theorem iC:FnScope ["land","thing","names"] ["land","thing"] (aF dB):=⟨rfl,rfl,rfl,by decide +kernel,rfl,by decide +kernel,by decide +kernel⟩
abbrev gK:Stmt:=hZ (top 28) 0
theorem vB:FnScope ["self","fields","dykes"] ["self","fields","dykes"] (aF gK):=⟨rfl,rfl,rfl,by decide +kernel,rfl,by decide +kernel,by decide +kernel⟩
abbrev eG:Stmt:=hZ (top 28) 1
theorem qI:FnScope ["self"] ["self"] (aF eG):=⟨rfl,rfl,rfl,by decide +kernel,rfl,by decide +kernel,by decide +kernel⟩
abbrev eQ:Stmt:=hZ (top 28) 2
theorem rY:FnScope ["self"] ["self"] (aF eQ):=⟨rfl,rfl,rfl,by decide +kernel,rfl,by decide +kernel,by decide +kernel⟩
abbrev cQ:Stmt:=hZ (top 28) 3
theorem mE:FnScope ["self"] ["self"] (aF cQ):=⟨rfl,rfl,rfl,by decide +kernel,rfl,by decide +kernel,by decide +kernel⟩
abbrev dC:Stmt:=hZ (top 28) 4
theorem mO:FnScope ["self"] ["self"] (aF dC):=⟨rfl,rfl,rfl,by decide +kernel,rfl,by decide +kernel,by decide +kernel⟩
abbrev eX:Stmt:=hZ (top 28) 5
abbrev eF:Stmt:=hZ (top 28) 6
theorem qH:FnScope ["self","field"] ["self","field"] (aF eF):=⟨rfl,rfl,rfl,by decide +kernel,rfl,by decide +kernel,by decide +kernel⟩
abbrev hV:Stmt:=hZ (top 28) 7
abbrev fT:Stmt:=hZ (top 28) 8
theorem sZ:FnScope ["self","name"] ["self","name"] (aF fT):=⟨rfl,rfl,rfl,by decide +kernel,rfl,by decide +kernel,by decide +kernel⟩
abbrev fW:Stmt:=hZ (top 28) 9
abbrev eN:Stmt:=top 30
theorem rW:FnScope ["land","fields","height"] ["land","fields","height"] (aF eN):=⟨rfl,rfl,rfl,by decide +kernel,rfl,by decide +kernel,by decide +kernel⟩
abbrev gJ:Stmt:=top 31
theorem vA:FnScope ["dyke","height"] ["dyke","height"] (aF gJ):=⟨rfl,rfl,rfl,by decide +kernel,rfl,by decide +kernel,by decide +kernel⟩
abbrev jE:Stmt:=top 32
theorem zZ:FnScope ["land","side","height"] ["land","side","height"] (aF jE):=⟨rfl,rfl,rfl,by decide +kernel,rfl,by decide +kernel,by decide +kernel⟩
abbrev jF:Stmt:=top 33
theorem aAA:FnScope ["land","dyke","height"] ["land","dyke","height"] (aF jF):=⟨rfl,rfl,rfl,by decide +kernel,rfl,by decide +kernel,by decide +kernel⟩
abbrev fQ:Stmt:=top 34
theorem sW:FnScope ["land","height"] ["land","height"] (aF fQ):=⟨rfl,rfl,rfl,by decide +kernel,rfl,by decide +kernel,by decide +kernel⟩
abbrev iG:Stmt:=top 35
theorem xQ:FnScope ["thing","most"] ["thing","most"] (aF iG):=⟨rfl,rfl,rfl,by decide +kernel,rfl,by decide +kernel,by decide +kernel⟩
abbrev fL:Stmt:=top 36
theorem mL:FnScope ["thing","most","names"] ["thing","most"] (aF fL):=⟨rfl,rfl,rfl,by decide +kernel,rfl,by decide +kernel,by decide +kernel⟩
abbrev gI:Stmt:=top 37
theorem fH:FnScope ["land","stream","gains","name","amount","dyke"] ["land","stream"] (aF gI):=⟨rfl,rfl,rfl,by decide +kernel,rfl,by decide +kernel,by decide +kernel⟩
abbrev fK:Stmt:=top 38
theorem jD:FnScope ["land","fields","height","stream","gains","others"] ["land","fields","height","stream"] (aF fK):=⟨rfl,rfl,rfl,by decide +kernel,rfl,by decide +kernel,by decide +kernel⟩
abbrev iI:Stmt:=top 40
theorem xS:FnScope ["_law_script","_law_k"] ["_law_script","_law_k"] (aF iI):=⟨rfl,rfl,rfl,by decide +kernel,rfl,by decide +kernel,by decide +kernel⟩
abbrev kH:Stmt:=top 41
theorem aBT:FnScope ["_law_found"] ["_law_found"] (aF kH):=⟨rfl,rfl,rfl,by decide +kernel,rfl,by decide +kernel,by decide +kernel⟩
abbrev kK:Stmt:=top 42
theorem cE:FnScope ["_law_cell","_law_many","_law_size","_law_at","_law_beside","_law_short","_law_names_here","_law_k","_law_name","_law_rest","_law_j","_law_number"] ["_law_cell","_law_many"] (aF kK):=⟨rfl,rfl,rfl,by decide +kernel,rfl,by decide +kernel,by decide +kernel⟩
abbrev kL:Stmt:=top 43
theorem aBU:FnScope ["_law_script","_law_k"] ["_law_script","_law_k"] (aF kL):=⟨rfl,rfl,rfl,by decide +kernel,rfl,by decide +kernel,by decide +kernel⟩
abbrev jJ:Stmt:=top 44
theorem aAB:FnScope ["_law_cell"] ["_law_cell"] (aF jJ):=⟨rfl,rfl,rfl,by decide +kernel,rfl,by decide +kernel,by decide +kernel⟩
abbrev jH:Stmt:=top 45
theorem rJ:FnScope ["_law_cell","_law_near"] ["_law_cell"] (aF jH):=⟨rfl,rfl,rfl,by decide +kernel,rfl,by decide +kernel,by decide +kernel⟩
abbrev jK:Stmt:=top 46
theorem aAC:FnScope ["_law_cell"] ["_law_cell"] (aF jK):=⟨rfl,rfl,rfl,by decide +kernel,rfl,by decide +kernel,by decide +kernel⟩
abbrev jI:Stmt:=top 47
theorem fZ:FnScope ["_law_script","_law_most","_law_cell","_law_names_here","_law_fields_here","_law_k"] ["_law_script","_law_most"] (aF jI):=⟨rfl,rfl,rfl,by decide +kernel,rfl,by decide +kernel,by decide +kernel⟩
abbrev kN:Stmt:=top 48
theorem cY:FnScope ["_law_script","_law_fields_here","_law_most","_law_cell","_law_names_here","_law_sides","_law_dykes_here","_law_k","_law_first","_law_second","_law_crown","_law_sill"] ["_law_script","_law_fields_here","_law_most"] (aF kN):=⟨rfl,rfl,rfl,by decide +kernel,rfl,by decide +kernel,by decide +kernel⟩
abbrev mQ:Stmt:=top 49
theorem gY:FnScope ["_law_land_here","_law_number","_law_names_here","_law_wish_here","_law_many","_law_k"] ["_law_land_here","_law_number"] (aF mQ):=⟨rfl,rfl,rfl,by decide +kernel,rfl,by decide +kernel,by decide +kernel⟩
abbrev kM:Stmt:=top 50
theorem aBV:FnScope ["_law_cell"] ["_law_cell"] (aF kM):=⟨rfl,rfl,rfl,by decide +kernel,rfl,by decide +kernel,by decide +kernel⟩
abbrev mT:Stmt:=top 51
theorem vW:FnScope ["_law_script","_law_most","_law_many","_law_fields_here"] ["_law_script","_law_most","_law_many"] (aF mT):=⟨rfl,rfl,rfl,by decide +kernel,rfl,by decide +kernel,by decide +kernel⟩
abbrev mU:Stmt:=top 52
theorem eW:FnScope ["_law_land_here","_law_height_here","_law_low","_law_found","_law_name","_law_one","_law_other","_law_crown","_law_rate","_law_sill"] ["_law_land_here","_law_height_here"] (aF mU):=⟨rfl,rfl,rfl,by decide +kernel,rfl,by decide +kernel,by decide +kernel⟩
abbrev gM:Stmt:=top 55
theorem jY:FnScope ["_law_land_here","_law_steps","_law_step","_law_told_here"] ["_law_land_here","_law_steps"] (aF gM):=⟨rfl,rfl,rfl,by decide +kernel,rfl,by decide +kernel,by decide +kernel⟩
abbrev kJ:Stmt:=top 56
theorem fX:FnScope ["_law_land_here","_law_gaps_here","_law_wish_here","_law_stream_here","_law_gains","_law_name","_law_amount_here","_law_some"] ["_law_land_here","_law_gaps_here","_law_wish_here","_law_stream_here"] (aF kJ):=⟨rfl,rfl,rfl,by decide +kernel,rfl,by decide +kernel,by decide +kernel⟩
abbrev mS:Stmt:=top 57
theorem cV:FnScope ["_law_gaps_here","_law_wish_here","_law_come_here","_law_row","_law_at","_law_here","_law_name","_law_one","_law_other","_law_coins","_law_side","_law_there","_law_way_here","_law_roads"] ["_law_gaps_here","_law_wish_here"] (aF mS):=⟨rfl,rfl,rfl,by decide +kernel,rfl,by decide +kernel,by decide +kernel⟩
abbrev pO:Stmt:=top 58
theorem dS:FnScope ["_law_gaps_here","_law_start","_law_goal","_law_come_here","_law_row","_law_at","_law_here","_law_name","_law_one","_law_other","_law_coins","_law_side","_law_there","_law_way_here"] ["_law_gaps_here","_law_start","_law_goal"] (aF pO):=⟨rfl,rfl,rfl,by decide +kernel,rfl,by decide +kernel,by decide +kernel⟩
abbrev gO:Stmt:=top 59
theorem fJ:FnScope ["_law_land_here","_law_stream_here","_law_steps","_law_amount_here","_law_amounts","_law_name","_law_way_here","_law_coins"] ["_law_land_here","_law_stream_here","_law_steps","_law_amount_here"] (aF gO):=⟨rfl,rfl,rfl,by decide +kernel,rfl,by decide +kernel,by decide +kernel⟩
abbrev kI:Stmt:=top 60
theorem lF:FnScope ["_law_land_here","_law_gaps_here","_law_wish_here","_law_stream_here","_law_cell","_law_found","_law_gap","_law_back"] ["_law_land_here","_law_gaps_here","_law_wish_here","_law_stream_here","_law_cell"] (aF kI):=⟨rfl,rfl,rfl,by decide +kernel,rfl,by decide +kernel,by decide +kernel⟩
abbrev jG:Stmt:=top 61
theorem iD:FnScope ["_law_land_here","_law_road_here","_law_cell","_law_most","_law_amount_here","_law_steps"] ["_law_land_here","_law_road_here","_law_cell"] (aF jG):=⟨rfl,rfl,rfl,by decide +kernel,rfl,by decide +kernel,by decide +kernel⟩
abbrev gL:Stmt:=top 62
theorem fI:FnScope ["_law_step","_law_cell","_law_name","_law_amount_here","_law_some"] ["_law_step","_law_cell"] (aF gL):=⟨rfl,rfl,rfl,by decide +kernel,rfl,by decide +kernel,by decide +kernel⟩
abbrev kG:Stmt:=top 63
theorem oX:FnScope ["_law_land_here","_law_stream_here","_law_cell","_law_at","_law_way_here"] ["_law_land_here","_law_stream_here","_law_cell"] (aF kG):=⟨rfl,rfl,rfl,by decide +kernel,rfl,by decide +kernel,by decide +kernel⟩
abbrev mR:Stmt:=top 64
theorem kF:FnScope ["_law_land_here","_law_wish_here","_law_height_here","_law_stream_here","_law_due","_law_handed","_law_fields_here","_law_found"] ["_law_land_here","_law_wish_here","_law_height_here","_law_stream_here","_law_due"] (aF mR):=⟨rfl,rfl,rfl,by decide +kernel,rfl,by decide +kernel,by decide +kernel⟩
abbrev oF:Stmt:=top 65
theorem fG:FnScope ["_law_script","_law_land_here","_law_cell","_law_number","_law_wish_here","_law_height_here","_law_gaps_here","_law_stream_here","_law_wrong_here","_law_other"] ["_law_script"] (aF oF):=⟨rfl,rfl,rfl,by decide +kernel,rfl,by decide +kernel,by decide +kernel⟩
structure Txt (K:PySem.W.Frag) (mg:Str → Option Value) (C:Addr):Prop where
 cl_Land:Cls K C
 mg_Land:mg "Land" = some (.ref C)
 a_field_rows:nY K C "field_rows"
 a_dyke_rows:nY K C "dyke_rows"
 ci_Land:InstC K C
 i_Land:InitAt K C "Land.__init__" gK ["self","fields","dykes"]
 m_land_p_fields:MethAt K C "fields" "Land.fields" eG ["self"]
 m_land_p_dykes:MethAt K C "dykes" "Land.dykes" eQ ["self"]
 m_land_p_field_names:MethAt K C "field_names" "Land.field_names" cQ ["self"]
 m_land_p_dyke_names:MethAt K C "dyke_names" "Land.dyke_names" dC ["self"]
 m_land_p_sluices:MethAt K C "sluices" "Land.sluices" eX ["self"]
 m_land_p_ground:MethAt K C "ground" "Land.ground" eF ["self","field"]
 m_land_p_dues:MethAt K C "dues" "Land.dues" hV ["self","field"]
 m_land_p_dyke:MethAt K C "dyke" "Land.dyke" fT ["self","name"]
 m_land_p_raised:MethAt K C "raised" "Land.raised" fW ["self","works"]
 d_p_wall:DefAt K mg "_wall" pN ["k"]
 d_p_is_whole:DefAt K mg "is_whole" gG ["thing"]
 d_p_is_name:DefAt K mg "is_name" iF ["thing"]
 d_p_is_height:DefAt K mg "is_height" fN ["thing"]
 d_p_is_amount:DefAt K mg "is_amount" fP ["thing"]
 d_p_is_one_of:DefAt K mg "is_one_of" fM ["thing","names"]
 d_p_is_list_of:DefAt K mg "is_list_of" eL ["thing","most"]
 d_p_is_tuple_of:DefAt K mg "is_tuple_of" eE ["thing","length"]
 d_p_none_twice:DefAt K mg "none_twice" eK ["rows"]
 d_p_is_field:DefAt K mg "is_field" gH ["thing"]
 d_p_are_fields:DefAt K mg "are_fields" eO ["thing"]
 d_p_are_sides:DefAt K mg "are_sides" fR ["one","other","sides"]
 d_p_is_sill:DefAt K mg "is_sill" iE ["thing","crown"]
 d_p_is_dyke:DefAt K mg "is_dyke" iH ["thing","sides"]
 d_p_are_dykes:DefAt K mg "are_dykes" fS ["thing","sides"]
 d_p_are_some_fields:DefAt K mg "are_some_fields" dB ["land","thing"]
 d_p_check_wish:DefAt K mg "check_wish" eN ["land","fields","height"]
 d_p_coins_to:DefAt K mg "coins_to" gJ ["dyke","height"]
 d_p_is_low:DefAt K mg "is_low" jE ["land","side","height"]
 d_p_is_gap:DefAt K mg "is_gap" jF ["land","dyke","height"]
 d_p_gap_coins:DefAt K mg "gap_coins" fQ ["land","height"]
 d_p_is_flow:DefAt K mg "is_flow" iG ["thing","most"]
 d_p_is_stream:DefAt K mg "is_stream" fL ["thing","most"]
 d_p_gains_by:DefAt K mg "gains_by" gI ["land","stream"]
 d_p_paper_for:DefAt K mg "paper_for" fK ["land","fields","height","stream"]
 d_l_cell_at:DefAt K mg "_law_cell_at" iI ["_law_script","_law_k"]
 d_l_whole:DefAt K mg "_law_whole" kH ["_law_found"]
 d_l_names:DefAt K mg "_law_names" kK ["_law_cell","_law_many"]
 d_l_mixed:DefAt K mg "_law_mixed" kL ["_law_script","_law_k"]
 d_l_digits:DefAt K mg "_law_digits" jJ ["_law_cell"]
 d_l_height:DefAt K mg "_law_height" jH ["_law_cell"]
 d_l_amount:DefAt K mg "_law_amount" jK ["_law_cell"]
 d_l_fields:DefAt K mg "_law_fields" jI ["_law_script","_law_most"]
 d_l_dykes:DefAt K mg "_law_dykes" kN ["_law_script","_law_fields_here","_law_most"]
 d_l_wish:DefAt K mg "_law_wish" mQ ["_law_land_here","_law_number"]
 d_l_level:DefAt K mg "_law_level" kM ["_law_cell"]
 d_l_land:DefAt K mg "_law_land" mT ["_law_script","_law_most","_law_many"]
 d_l_gaps:DefAt K mg "_law_gaps" mU ["_law_land_here","_law_height_here"]
 d_l_in_order:DefAt K mg "_law_in_order" gM ["_law_land_here","_law_steps"]
 d_l_paper:DefAt K mg "_law_paper" kJ ["_law_land_here","_law_gaps_here","_law_wish_here","_law_stream_here"]
 d_l_road:DefAt K mg "_law_road" mS ["_law_gaps_here","_law_wish_here"]
 d_l_way:DefAt K mg "_law_way" pO ["_law_gaps_here","_law_start","_law_goal"]
 d_l_and_more:DefAt K mg "_law_and_more" gO ["_law_land_here","_law_stream_here","_law_steps","_law_amount_here"]
 d_l_rings:DefAt K mg "_law_rings" kI ["_law_land_here","_law_gaps_here","_law_wish_here","_law_stream_here","_law_cell"]
 d_l_stream:DefAt K mg "_law_stream" jG ["_law_land_here","_law_road_here","_law_cell"]
 d_l_odd_step:DefAt K mg "_law_odd_step" gL ["_law_step","_law_cell"]
 d_l_wrong:DefAt K mg "_law_wrong" kG ["_law_land_here","_law_stream_here","_law_cell"]
 d_l_told:DefAt K mg "_law_told" mR ["_law_land_here","_law_wish_here","_law_height_here","_law_stream_here","_law_due"]
 d_p_law:DefAt K mg "law" oF ["_law_script"]
 g_SEA:lZ mg "SEA" (.str "sea")
 g_LETTERS:lZ mg "LETTERS" (.str "abcdefghijklmnopqrstuvwxyz")
 g_MOST_LETTERS:lZ mg "MOST_LETTERS" (.int 8)
 g_MOST_HEIGHT:lZ mg "MOST_HEIGHT" (.int 1000000)
 g_MOST_AMOUNT:lZ mg "MOST_AMOUNT" (.int 1000000)
 g_MOST_FIELDS:lZ mg "MOST_FIELDS" (.int 12)
 g_MOST_DYKES:lZ mg "MOST_DYKES" (.int 40)
 n_abs:mg "abs" = none
 n_all:mg "all" = none
 n_any:mg "any" = none
 n_bool:mg "bool" = none
 n_dict:mg "dict" = none
 n_int:mg "int" = none
 n_isinstance:mg "isinstance" = none
 n_len:mg "len" = none
 n_list:mg "list" = none
 n_max:mg "max" = none
 n_min:mg "min" = none
 n_range:mg "range" = none
 n_set:mg "set" = none
 n_str:mg "str" = none
 n_sum:mg "sum" = none
 n_tuple:mg "tuple" = none
section
variable {P:Program} {w:World} {K:PySem.W.Frag} {mg:Str → Option Value} {base:Heap} {C:Addr}
open Ld
theorem cB:(1000:Nat) ≤ sizeLine:=by decide
def sE:Sp:=sp1 fun x H Q=>∃ d,Is H d x ∧ Q (.bl (isInt d)) H
theorem kA (T:Txt K mg C):Fc P w K mg base 1 "is_whole" ["thing"] sE:=by
 refine T.d_p_is_whole.fc uY nG (fun f cdv A outer s H vs Q E hr h=>?_)
 obtain ⟨x,rfl,d,hd,q⟩:=h
 obtain ⟨t,ty,e1,e2,_⟩:=jU K hd
 refine ⟨_,(@aH _ _ _ (@aS _ _ _ _ (@dL _ _ _ _ _ _ _ (@aT _ _ _ _ _ _ _ _ _ (@bY _ (K) rfl) rfl T.n_isinstance bP (@aA _ _ _ _ _ (pv 0) (@aA _ _ _ _ _ (@kQ _ _ _ _ T.n_int wT (by rfl) (by decide) (by decide)) aE (by rfl)) (by rfl)) (by decide) (by decide) (by rfl) (by rfl)) (@eB _ _ _ _ _ (@aGY _ _ _ _ (@aT _ _ _ _ _ _ _ _ _ (@bY _ (K) rfl) rfl T.n_isinstance bP (@aA _ _ _ _ _ (pv 0) (@aA _ _ _ _ _ (@kQ _ _ _ _ T.n_bool uW (by rfl) (by decide) (by decide)) aE (by rfl)) (by rfl)) (by decide) (by decide) (by rfl) (by rfl))))))),?_⟩
 refine ⟨_,rfl,_,_,_,t,_,rfl,rfl,ty,e1,_,rfl,?_⟩
 refine dZ (fun h=>?_) (fun h=>?_)
 ·refine ⟨_,rfl,_,_,_,t,_,rfl,rfl,ty,e2,_,rfl,?_⟩
  have e:(!aHS d) = isInt d:=by cases d <;> simp_all [isInt,aHS]
  rw [e]
  exact q
 ·have e:isInt d = false:=by cases d <;> simp_all [isInt,aHS]
  rw [e] at q
  exact q
def aBO:Sp:=sp1 fun x H Q=>∃ d,Is H d x ∧ fD d = true ∧ Q (.bl (pB d)) H
theorem pV (T:Txt K mg C):Fc P w K mg base 1 "is_name" ["thing"] aBO:=by
 refine T.d_p_is_name.fcD xP nG (fun f cdv A outer s H vs Q E hr h=>?_)
 obtain ⟨x,rfl,d,hd,hz,q⟩:=h
 obtain ⟨t,ty,e1,e2,e3,_⟩:=jU K hd
 have big:=cB
 refine ⟨_,(@aG _ _ _ _ _ (@cL _ _ _ _ _ _ _ _ (@PW.pt _ _ _ (@iQ _ _ _ _ _ _ _ (@cR _ _ _ _ (@cK _ _ _ (@aT _ _ _ _ _ _ _ _ _ (@bY _ (K) rfl) rfl T.n_isinstance bP (@aA _ _ _ _ _ (pv 0) (@aA _ _ _ _ _ (@kQ _ _ _ _ T.n_str oQ (by rfl) (by decide) (by decide)) aE (by rfl)) (by rfl)) (by decide) (by decide) (by rfl) (by rfl)) (by intro _;rfl))) (@jL _ _ _ _ (@cR _ _ _ _ (@aGU _ _ _ _ _ _ _ _ _ _ _ _ pU pU aD (@aT _ _ _ _ _ _ _ _ _ zA rfl T.n_len bS (@aA _ _ _ _ _ (pv 0) aE (by rfl)) (by decide) (by decide) (by rfl) (by rfl)) (@tF _ _ _ _ T.g_MOST_LETTERS (by rfl) (by decide)) (by with_unfolding_all rfl)))))) (@aH _ _ _ (@aS _ _ _ _ jO)) bI) (@aH _ _ _ (@aS _ _ _ _ (@dL _ _ _ _ _ _ _ (@dM _ _ _ _ _ _ _ _ tM (pv 0) (@tF _ _ _ _ T.g_SEA (by rfl) (by decide)) (@bG _ _ (by decide) (by decide))) (@eB _ _ _ _ _ (@aT _ _ _ _ _ _ _ _ _ (@nQ _ rfl) rfl T.n_all lD (@aA _ _ _ _ _ (@bX _ _ _ _ _ _ _ _ _ _ _ ["sign"] 1 [] rfl (@aLS _ _ _ _ (pv 0)) (fun R=>@aM _ _ (0) _ (show List.Nodup (["sign"]:List Str) by decide +kernel) rfl (Or.inl rfl) (by trivial)) (@bC _ _ (by decide)) (fun R=>cH) (fun R=>(@dM _ _ _ _ _ _ _ _ aEK (pv 0) (@tF _ _ _ _ T.g_LETTERS (by rfl) (by decide)) (by with_unfolding_all rfl))) (by rfl) (by rfl) (by rfl) (by rfl) (by rfl) (by rfl) (by rfl) (by intro _;rfl)) aE (by rfl)) (by decide) (by decide) (by rfl) (by rfl))))))),?_⟩
 refine ⟨_,rfl,_,_,_,t,_,rfl,rfl,ty,e3,_,rfl,?_⟩
 cases d with
 | str z =>
  cases (show x = .str z from hd)
  have hz:z.length ≤ 1000:=of_decide_eq_true hz
  have q:Q (.bl (eS z)) H:=q
  have hzs:z.length ≤ sizeLine:=by omega
  refine bR ?_
  refine ⟨_,rfl,z,rfl,hzs,_,_,rfl,rfl,_,rfl,?_⟩
  refine dZ (fun h1=>?_) (fun h1=>?_)
  ·refine ⟨_,_,rfl,rfl,_,rfl,?_⟩
   have h1':1 ≤ z.length:=by
    have:=of_decide_eq_true h1
    omega
   refine dZ (fun h2=>?_) (fun h2=>?_)
   ·have e:eS z = false:=by
     have h2':¬ z.length ≤ 8:=by
      intro h3
      have:((z.length:Nat):Int) ≤ 8:=by omega
      simp [this] at h2
     simp [eS,h2']
    rw [e] at q
    exact dJ.of (.refl _) q
   ·have h2':z.length ≤ 8:=by
     have h3:decide (((z.length:Nat):Int) ≤ 8) = true:=by
      cases h4:decide (((z.length:Nat):Int) ≤ 8) with
      | true=>rfl
      | false=>exact absurd (by rw [h4];rfl) h2
     have:=of_decide_eq_true h3
     omega
    refine ⟨_,rfl,rfl,_,rfl,?_⟩
    refine dZ (fun h3=>?_) (fun h3=>?_)
    ·have h3':¬ z = "sea":=by
      intro h4
      subst h4
      simp at h3
     refine ⟨_,rfl,z,rfl,?_⟩
     refine aIO (Nat.le_trans hz (by decide)) (fun i ys H'=>H' = H ∧ ys = (z.cps.toList.take i).map fun c=>V.bl (kB c)) ⟨rfl,rfl⟩ ?_ ?_ ?_
     ·rintro i ys H' ⟨_,rfl⟩
      rw [List.length_map,List.length_take]
      omega
     ·rintro i c ys H' K1 K2 hc ⟨rfl,rfl⟩ k1 k2
      refine ⟨_,rfl,_,_,rfl,rfl,k1 _ _ ⟨rfl,?_⟩⟩
      have hc':z.cps.toList[i]? = some c:=by simpa using hc
      rw [List.take_add_one,hc',aCI]
      simp
     ·rintro ys H' ⟨rfl,rfl⟩
      intro p hp'
      refine ⟨p,z.cps.toList.map kB,rfl,SqL.of ?_,?_⟩
      ·rw [aB,List.take_of_length_le (by simp),List.map_map]
       rfl
      ·refine ⟨H',gU.lst hp',?_⟩
       have e:eS z = (z.cps.toList.map kB).all id:=by
        rw [List.all_map]
        simp [eS,h1',h2',h3']
       rw [← e]
       exact q
    ·have e:eS z = false:=by
      have h4:z = "sea":=by
       apply Classical.byContradiction
       intro h5
       exact h3 (by simp [h5])
      subst h4
      simp [eS]
     rw [e] at q
     exact dJ.of (.refl _) q
  ·have e:eS z = false:=by
    have h1':¬ 1 ≤ z.length:=by
     intro h3
     exact h1 (decide_eq_true (by omega))
    simp [eS,h1']
   rw [e] at q
   exact ⟨_,rfl,dJ.of (.refl _) q⟩
 | non=>exact dJ.of (.refl _) q
 | bl b=>exact dJ.of (.refl _) q
 | int i=>exact dJ.of (.refl _) q
 | lst a=>exact dJ.of (.refl _) q
 | tup a=>exact dJ.of (.refl _) q
 | dct a b=>exact dJ.of (.refl _) q
def mJ:Sp:=sp1 fun x H Q=>∃ d,Is H d x ∧ Q (.bl (iJ d)) H
theorem gQ (T:Txt K mg C):Fc P w K mg base 2 "is_height" ["thing"] mJ:=by
 have G_p_is_whole:Fc P w K mg base 1 "is_whole" ["thing"] sE:=kA T
 refine T.d_p_is_height.fc sT nG (fun f cdv A outer s H vs Q E hr h=>?_)
 obtain ⟨x,rfl,d,hd,q⟩:=h
 refine ⟨_,(@aH _ _ _ (@aS _ _ _ _ (@dL _ _ _ _ _ _ _ (@bU _ _ _ _ _ _ _ _ _ _ G_p_is_whole (hr.mono (by decide)) (@aA _ _ _ _ _ (pv 0) aE (by rfl)) (by rfl) (by decide) (by rfl) (by rfl)) (@eB _ _ _ _ _ (@pR _ _ _ _ _ _ _ _ _ _ _ _ pU pU (@aAI _ _ _ _ _ _ sL (@tF _ _ _ _ T.g_MOST_HEIGHT (by rfl) (by decide))) (pv 0) (@tF _ _ _ _ T.g_MOST_HEIGHT (by rfl) (by decide)) (by with_unfolding_all rfl)))))),?_⟩
 refine ⟨_,rfl,_,rfl,d,hd,_,rfl,?_⟩
 cases d with
 | int i =>
  cases (show x = .int i from hd)
  refine cP ?_
  have q:Q (.bl (decide (-1000000 ≤ i) && decide (i ≤ 1000000))) H:=q
  refine ⟨_,rfl,_,rfl,_,_,rfl,rfl,_,rfl,?_⟩
  refine dZ (fun h1=>?_) (fun h1=>?_)
  ·refine ⟨_,_,rfl,rfl,?_⟩
   rw [decide_eq_true (show -1000000 ≤ i from of_decide_eq_true h1),Bool.true_and] at q
   exact q
  ·rw [show decide (-1000000 ≤ i) = false from by simpa using h1,Bool.false_and] at q
   exact q
 | _=>exact bR q
def sR:Sp:=sp1 fun x H Q=>∃ d,Is H d x ∧ Q (.bl (kT d)) H
theorem nA (T:Txt K mg C):Fc P w K mg base 2 "is_amount" ["thing"] sR:=by
 have G_p_is_whole:Fc P w K mg base 1 "is_whole" ["thing"] sE:=kA T
 refine T.d_p_is_amount.fc sU nG (fun f cdv A outer s H vs Q E hr h=>?_)
 obtain ⟨x,rfl,d,hd,q⟩:=h
 refine ⟨_,(@aH _ _ _ (@aS _ _ _ _ (@dL _ _ _ _ _ _ _ (@bU _ _ _ _ _ _ _ _ _ _ G_p_is_whole (hr.mono (by decide)) (@aA _ _ _ _ _ (pv 0) aE (by rfl)) (by rfl) (by decide) (by rfl) (by rfl)) (@eB _ _ _ _ _ (@pR _ _ _ _ _ _ _ _ _ _ _ _ pU pU aD (pv 0) (@tF _ _ _ _ T.g_MOST_AMOUNT (by rfl) (by decide)) (by with_unfolding_all rfl)))))),?_⟩
 refine ⟨_,rfl,_,rfl,d,hd,_,rfl,?_⟩
 cases d with
 | int i =>
  cases (show x = .int i from hd)
  refine cP ?_
  have q:Q (.bl (decide (0 ≤ i) && decide (i ≤ 1000000))) H:=q
  refine ⟨_,rfl,_,_,rfl,rfl,_,rfl,?_⟩
  refine dZ (fun h1=>?_) (fun h1=>?_)
  ·refine ⟨_,_,rfl,rfl,?_⟩
   rw [decide_eq_true (show 0 ≤ i from of_decide_eq_true h1),Bool.true_and] at q
   exact q
  ·rw [show decide (0 ≤ i) = false from by simpa using h1,Bool.false_and] at q
   exact q
 | _=>exact bR q
def xI (K:PySem.W.Frag):Sp:=sp2 fun x y H Q=>∃ (d:Dv) (p:Addr) (zs:List Str),Is H d x ∧ y = .ref p ∧ SqL K H p (zs.map V.str) ∧ Q (.bl (rL zs d)) H
theorem lR (z:Str) (zs:List Str):inV (.str z) (zs.map V.str) = decide (z ∈ zs):=by
 unfold inV
 rw [Bool.eq_iff_iff,List.any_eq_true,decide_eq_true_iff]
 constructor
 ·rintro ⟨y,hy,e⟩
  obtain ⟨u,hu,rfl⟩:=List.mem_map.mp hy
  have e':(u == z) = true:=e
  rw [← beq_iff_eq.mp e']
  exact hu
 ·intro h
  exact ⟨_,List.mem_map.mpr ⟨z,h,rfl⟩,beq_self_eq_true z⟩
theorem gB (zs:List Str):(zs.map V.str).all qB = true:=by
 rw [List.all_eq_true]
 intro y hy
 obtain ⟨u,_,rfl⟩:=List.mem_map.mp hy
 rfl
theorem mZ (T:Txt K mg C):Fc P w K mg base 1 "is_one_of" ["thing","names"] (xI K):=by
 refine T.d_p_is_one_of.fc mN iX (fun f cdv A outer s H vs Q E hr h=>?_)
 obtain ⟨x,y,rfl,d,p,zs,hd,rfl,hp,q⟩:=h
 obtain ⟨t,ty,e1,e2,e3,_⟩:=jU K hd
 refine ⟨_,(@aH _ _ _ (@aS _ _ _ _ (@dL _ _ _ _ _ _ _ (@aT _ _ _ _ _ _ _ _ _ (@bY _ (K) rfl) rfl T.n_isinstance bP (@aA _ _ _ _ _ (pv 0) (@aA _ _ _ _ _ (@kQ _ _ _ _ T.n_str oQ (by rfl) (by decide) (by decide)) aE (by rfl)) (by rfl)) (by decide) (by decide) (by rfl) (by rfl)) (@eB _ _ _ _ _ (@dM _ _ _ _ _ _ _ _ (@lL _ (K) rfl) (pv 0) (pv 1) (by with_unfolding_all rfl)))))),?_⟩
 refine ⟨_,rfl,_,_,_,t,_,rfl,rfl,ty,e3,_,rfl,?_⟩
 cases d with
 | str z =>
  cases (show x = .str z from hd)
  refine cP ⟨_,rfl,_,rfl,p,_,rfl,.inl hp,rfl,gB zs,?_⟩
  show Q (.bl (inV (.str z) (zs.map V.str))) H
  rw [lR]
  exact q
 | _=>exact bR q
def pL:Sp:=sp2 fun x y H Q=>∃ (d:Dv) (n:Int),Is H d x ∧ y = .int n ∧ Q (.bl (aHL n d)) H
theorem iN (T:Txt K mg C):Fc P w K mg base 1 "is_list_of" ["thing","most"] pL:=by
 refine T.d_p_is_list_of.fc rV iX (fun f cdv A outer s H vs Q E hr h=>?_)
 obtain ⟨x,y,rfl,d,n,hd,rfl,q⟩:=h
 obtain ⟨t,ty,e1,e2,e3,e4,_⟩:=jU K hd
 refine ⟨_,(@aH _ _ _ (@aS _ _ _ _ (@dL _ _ _ _ _ _ _ (@aT _ _ _ _ _ _ _ _ _ (@bY _ (K) rfl) rfl T.n_isinstance bP (@aA _ _ _ _ _ (pv 0) (@aA _ _ _ _ _ (@kQ _ _ _ _ T.n_list dP (by rfl) (by decide) (by decide)) aE (by rfl)) (by rfl)) (by decide) (by decide) (by rfl) (by rfl)) (@eB _ _ _ _ _ (@pR _ _ _ _ _ _ _ _ _ _ _ _ pU pU aD (@aT _ _ _ _ _ _ _ _ _ (@aY _ (K) rfl) rfl T.n_len bS (@aA _ _ _ _ _ (pv 0) aE (by rfl)) (by decide) (by decide) (by rfl) (by rfl)) (pv 1) (by with_unfolding_all rfl)))))),?_⟩
 refine ⟨_,rfl,_,_,_,t,_,rfl,rfl,ty,e4,_,rfl,?_⟩
 cases d with
 | lst ds =>
  obtain ⟨a,vs,rfl,o,hl⟩:=hd
  have hlen:=hl.length
  have q:Q (.bl (decide (1 ≤ ds.length) && decide ((ds.length:Int) ≤ n))) H:=q
  refine cP ⟨_,rfl,a,vs,rfl,.inl (SqL.of o),_,_,rfl,rfl,_,rfl,?_⟩
  rw [hlen]
  refine dZ (fun h1=>?_) (fun h1=>?_)
  ·refine ⟨_,rfl,_,_,rfl,rfl,?_⟩
   have h1':1 ≤ ds.length:=by have:=of_decide_eq_true h1;omega
   rw [decide_eq_true h1',Bool.true_and] at q
   exact q
  ·have h1':¬ 1 ≤ ds.length:=fun c=>h1 (decide_eq_true (by omega))
   rw [decide_eq_false h1',Bool.false_and] at q
   exact q
 | _=>exact bR q
def sF:Sp:=sp2 fun x y H Q=>∃ (d:Dv) (n:Int),Is H d x ∧ y = .int n ∧ Q (.bl (zJ n d)) H
theorem hE (T:Txt K mg C):Fc P w K mg base 1 "is_tuple_of" ["thing","length"] sF:=by
 refine T.d_p_is_tuple_of.fc qG iX (fun f cdv A outer s H vs Q E hr h=>?_)
 obtain ⟨x,y,rfl,d,n,hd,rfl,q⟩:=h
 obtain ⟨t,ty,e1,e2,e3,e4,e5⟩:=jU K hd
 refine ⟨_,(@aH _ _ _ (@aS _ _ _ _ (@dL _ _ _ _ _ _ _ (@aT _ _ _ _ _ _ _ _ _ (@bY _ (K) rfl) rfl T.n_isinstance bP (@aA _ _ _ _ _ (pv 0) (@aA _ _ _ _ _ (@kQ _ _ _ _ T.n_tuple nR (by rfl) (by decide) (by decide)) aE (by rfl)) (by rfl)) (by decide) (by decide) (by rfl) (by rfl)) (@eB _ _ _ _ _ (@dM _ _ _ _ _ _ _ _ iR (@aT _ _ _ _ _ _ _ _ _ (@aY _ (K) rfl) rfl T.n_len bS (@aA _ _ _ _ _ (pv 0) aE (by rfl)) (by decide) (by decide) (by rfl) (by rfl)) (pv 1) (@bG _ _ (by decide) (by decide))))))),?_⟩
 refine ⟨_,rfl,_,_,_,t,_,rfl,rfl,ty,e5,_,rfl,?_⟩
 cases d with
 | tup ds =>
  obtain ⟨a,vs,rfl,o,hl⟩:=hd
  have hlen:=hl.length
  have q:Q (.bl (decide ((ds.length:Int) = n))) H:=q
  refine cP ⟨_,rfl,a,vs,rfl,.inr (SqT.of o),_,rfl,rfl,?_⟩
  rw [hlen]
  have e:decide (V.int (ds.length:Int) = V.int n) = decide ((ds.length:Int) = n):=by rw [gT,Bool.eq_iff_iff];simp
  rw [e]
  exact q
 | _=>exact bR q
def xE:Sp:=sp1 fun x H Q=>∃ (p:Addr) (vs:List V) (ds:List Dv) (zs:List Str),x = .ref p ∧ H p = some (.lst vs) ∧ IsL H ds vs ∧ ds.map dG = zs.map some ∧ zs.length ≤ 1000 ∧ Q (.bl (decide zs.Nodup)) H
theorem aFA {H:Hp} {d:Dv} {v:V} {z:Str} (h:Is H d v) (e:dG d = some z):∃ a r,v = .ref a ∧ H a = some (.tup (.str z :: r)):=by
 cases d with
 | tup ds =>
  cases ds with
  | nil=>cases e
  | cons d0 ds =>
   cases d0 with
   | str y =>
    cases e
    obtain ⟨a,vs,rfl,o,v0,r,rfl,h0,_⟩:=h
    cases (show v0 = .str z from h0)
    exact ⟨a,r,rfl,o⟩
   | _=>cases e
 | _=>cases e
theorem gA (zs:List Str):(zs.map (Sum.inr:Str → Key)).Nodup ↔ zs.Nodup:=by
 induction zs with
 | nil=>simp
 | cons z zs ih =>
  rw [List.map_cons,List.nodup_cons,List.nodup_cons,ih]
  simp
theorem aDO (zs:List Str):(zs.map (Sum.inr:Str → Key)).map kV = zs.map V.str:=by
 rw [List.map_map];rfl
theorem mB (T:Txt K mg C):Fc P w K mg base 1 "none_twice" ["rows"] xE:=by
 refine T.d_p_none_twice.fcD rT nG (fun f cdv A outer s H vs Q E hr h=>?_)
 obtain ⟨x,rfl,p,us,ds,zs,rfl,hp,hi,hz,hn,q⟩:=h
 have big:=cB
 have l1:=hi.length
 have l2:ds.length = zs.length:=by have:=congrArg List.length hz;simpa using this
 refine ⟨_,(@aH _ _ _ (@aS _ _ _ _ (@dM _ _ _ _ _ _ _ _ iR (@aT _ _ _ _ _ _ _ _ _ call_len_set rfl T.n_len bS (@aA _ _ _ _ _ (@cI _ _ _ _ _ _ _ _ _ (@oU _ rfl) rfl T.n_set wR (@aA _ _ _ _ _ (@bX _ _ _ _ _ _ _ _ _ _ _ ["row"] 1 [] rfl (@bE _ (K) _ _ _ rfl (@bF _ _ _ _ (pv 0))) (fun R=>@aM _ _ (0) _ (show List.Nodup (["row"]:List Str) by decide +kernel) rfl (Or.inl rfl) (by trivial)) (@bC _ _ (by decide)) (fun R=>cH) (fun R=>(@aZ _ _ _ _ _ _ _ (@bD _ (K) rfl) (pv 0) aD (fun _ _=>rfl))) (by rfl) (by rfl) (by rfl) (by rfl) (by rfl) (by rfl) (by rfl) (by intro _;rfl)) aE (by rfl)) (by decide) (by decide) (by rfl) (by rfl)) aE (by rfl)) (by decide) (by decide) (by rfl) (by rfl)) (@aT _ _ _ _ _ _ _ _ _ (@aY _ (K) rfl) rfl T.n_len bS (@aA _ _ _ _ _ (pv 0) aE (by rfl)) (by decide) (by decide) (by rfl) (by rfl)) (@bG _ _ (by decide) (by decide))))),?_⟩
 refine ⟨_,rfl,p,rfl,⟨_,SqL.of hp⟩,?_⟩
 refine bH (F:=K) (xs:=us) (by omega) (fun i ys H'=>H' = H ∧ ys = (zs.take i).map V.str) ⟨rfl,rfl⟩ ?_ ?_ ?_
 ·rintro i ys H' hi' ⟨rfl,rfl⟩
  exact ⟨SqL.of hp,by rw [List.length_map,List.length_take];omega⟩
 ·rintro i x ys H' K1 K2 hx ⟨rfl,rfl⟩ k1 k2
  have hil:i < us.length:=(List.getElem?_eq_some_iff.mp hx).1
  obtain ⟨d,ed⟩:∃ d,ds[i]? = some d:=⟨_,List.getElem?_eq_getElem (by omega)⟩
  obtain ⟨z,ez⟩:∃ z,zs[i]? = some z:=⟨_,List.getElem?_eq_getElem (by omega)⟩
  obtain ⟨v,ev,iv⟩:=hi.get ed
  rw [hx] at ev
  cases ev
  have ef:dG d = some z:=by
   have:=congrArg (fun l=>l[i]?) hz
   simpa [ed,ez] using this
  obtain ⟨a,r,rfl,o⟩:=aFA iv ef
  refine ⟨_,rfl,a,_,0,.str z,rfl,rfl,SqT.of o,aQ (j:=0) rfl,k1 _ _ ⟨rfl,?_⟩⟩
  rw [List.take_add_one,ez]
  simp
 ·rintro ys H' ⟨rfl,rfl⟩
  intro p1 hp1
  have hys:(zs.take us.length).map V.str = (zs.map (Sum.inr:Str → Key)).map kV:=by
   rw [List.take_of_length_le (by omega),aDO]
  refine ⟨p1,zs.map Sum.inr,rfl,SqL.of (by rw [aB,hys]),by rw [List.length_map];exact hn,fun p2 hp2=>?_⟩
  have hle:=aDU (zs.map (Sum.inr:Str → Key))
  rw [List.length_map] at hle
  have np:p ≠ p1:=bB hp hp1
  have np2:p ≠ p2:=bB (show upd H' p1 _ p = _ from (aR np).trans hp) hp2
  refine ⟨p2,_,_,rfl,aB,by omega,_,rfl,p,us,rfl,.inl (SqL.of (by rw [aR np2,aR np];exact hp)),rfl,?_⟩
  have e:decide (V.int ((uN (zs.map (Sum.inr:Str → Key))).length:Int) = V.int (us.length:Int)) = decide zs.Nodup:=by
   rw [gT,Bool.eq_iff_iff,decide_eq_true_iff,← gA,← wN,List.length_map,beq_iff_eq]
   omega
  rw [e]
  exact dJ.of ((gU.new hp2 rfl).trans (gU.lst hp1)) q
def aDF:Sp:=sp1 fun x H Q=>∃ d,Is H d x ∧ fD d = true ∧ Q (.bl (cD d)) H
theorem vC (T:Txt K mg C):Fc P w K mg base 3 "is_field" ["thing"] aDF:=by
 have G_p_is_tuple_of:Fc P w K mg base 1 "is_tuple_of" ["thing","length"] sF:=hE T
 have G_p_is_name:Fc P w K mg base 1 "is_name" ["thing"] aBO:=pV T
 have G_p_is_height:Fc P w K mg base 2 "is_height" ["thing"] mJ:=gQ T
 have G_p_is_amount:Fc P w K mg base 2 "is_amount" ["thing"] sR:=nA T
 refine T.d_p_is_field.fc uZ nG (fun f cdv A outer s H vs Q E hr h=>?_)
 obtain ⟨x,rfl,d,hd,hs,q⟩:=h
 refine ⟨_,(@aG _ _ _ _ _ (@cL _ _ _ _ _ _ _ _ (@cR _ _ _ _ (@cK _ _ _ (@bU _ _ _ _ _ _ _ _ _ _ G_p_is_tuple_of (hr.mono (by decide)) (@aA _ _ _ _ _ (pv 0) (@aA _ _ _ _ _ aD aE (by rfl)) (by rfl)) (by rfl) (by decide) (by rfl) (by rfl)) (by intro _;rfl))) (@aH _ _ _ (@aS _ _ _ _ jO)) bI) (@aH _ _ _ (@aS _ _ _ _ (@dL _ _ _ _ _ _ _ (@bU _ _ _ _ _ _ _ _ _ _ G_p_is_name (hr.mono (by decide)) (@aA _ _ _ _ _ (@aZ _ _ _ _ _ _ _ (@bD _ (K) rfl) (pv 0) aD (fun _ _=>rfl)) aE (by rfl)) (by rfl) (by decide) (by rfl) (by rfl)) (@dL _ _ _ _ _ _ _ (@bU _ _ _ _ _ _ _ _ _ _ G_p_is_height (hr.mono (by decide)) (@aA _ _ _ _ _ (@aZ _ _ _ _ _ _ _ (@bD _ (K) rfl) (pv 0) aD (fun _ _=>rfl)) aE (by rfl)) (by rfl) (by decide) (by rfl) (by rfl)) (@eB _ _ _ _ _ (@bU _ _ _ _ _ _ _ _ _ _ G_p_is_amount (hr.mono (by decide)) (@aA _ _ _ _ _ (@aZ _ _ _ _ _ _ _ (@bD _ (K) rfl) (pv 0) aD (fun _ _=>rfl)) aE (by rfl)) (by rfl) (by decide) (by rfl) (by rfl)))))))),?_⟩
 refine ⟨_,rfl,_,_,rfl,d,3,hd,rfl,_,rfl,?_⟩
 by_cases h3:∃ a b c,d = .tup [a,b,c]
 ·obtain ⟨a,b,c,rfl⟩:=h3
  obtain ⟨t,us,rfl,o,va,r1,rfl,ha,vb,r2,rfl,hb,vc,r3,rfl,hc,h0⟩:=hd
  cases (show r3 = [] from h0)
  have sa:fD a = true:=by
   exact jB (vU hs) List.mem_cons_self
  have q:Q (.bl (pB a && (iJ b && kT c))) H:=q
  refine bR ⟨_,rfl,t,_,0,va,rfl,rfl,SqT.of o,aQ (j:=0) rfl,_,rfl,a,ha,sa,_,rfl,?_⟩
  cases ea:pB a with
  | false=>rw [ea] at q;exact bR q
  | true =>
   rw [ea,Bool.true_and] at q
   refine cP ⟨_,rfl,t,_,1,vb,rfl,rfl,SqT.of o,aQ (j:=1) rfl,_,rfl,b,hb,_,rfl,?_⟩
   cases eb:iJ b with
   | false=>rw [eb] at q;exact bR q
   | true =>
    rw [eb,Bool.true_and] at q
    exact cP ⟨_,rfl,t,_,2,vc,rfl,rfl,SqT.of o,aQ (j:=2) rfl,_,rfl,c,hc,q⟩
 ·have e1:cD d = false:=by
   unfold cD
   split
   ·rename_i a b c
    exact absurd ⟨a,b,c,rfl⟩ h3
   ·rfl
  have e2:zJ 3 d = false:=by
   cases d with
   | tup ds =>
    refine decide_eq_false (fun e=>?_)
    have e':ds.length = 3:=by omega
    match ds,e',h3 with
    | [a,b,c],_,h3=>exact h3 ⟨a,b,c,rfl⟩
   | _=>rfl
  dsimp only
  rw [e2]
  rw [e1] at q
  exact cP q
theorem rA {p:Dv → Bool} (hp:∀ d,p d = true → ∃ z,dG d = some z):∀ {ds:List Dv},ds.all p = true → ∃ zs:List Str,ds.map dG = zs.map some
 | [],_=>⟨[],rfl⟩
 | d :: ds,h=>by
  rw [List.all_cons,Bool.and_eq_true] at h
  obtain ⟨z,e⟩:=hp d h.1
  obtain ⟨zs,e2⟩:=rA hp h.2
  exact ⟨z :: zs,by rw [List.map_cons,List.map_cons,e,e2]⟩
theorem vL (d:Dv) (h:cD d = true):∃ z,dG d = some z:=by
 unfold cD at h
 split at h
 ·rename_i a b c
  rw [Bool.and_eq_true] at h
  cases a with
  | str z=>exact ⟨z,rfl⟩
  | _=>cases h.1
 ·cases h
def zT:Sp:=sp1 fun x H Q=>∃ d,Is H d x ∧ fD d = true ∧ Q (.bl (lE d)) H
theorem sC (T:Txt K mg C):Fc P w K mg base 4 "are_fields" ["thing"] zT:=by
 have G_p_is_list_of:Fc P w K mg base 1 "is_list_of" ["thing","most"] pL:=iN T
 have G_p_is_field:Fc P w K mg base 3 "is_field" ["thing"] aDF:=vC T
 have G_p_none_twice:Fc P w K mg base 1 "none_twice" ["rows"] xE:=mB T
 refine T.d_p_are_fields.fcD rX nG (fun f cdv A outer s H vs Q E hr h=>?_)
 obtain ⟨x,rfl,d,hd,hs,q⟩:=h
 have big:=cB
 refine ⟨_,(@aH _ _ _ (@aS _ _ _ _ (@dL _ _ _ _ _ _ _ (@bU _ _ _ _ _ _ _ _ _ _ G_p_is_list_of (hr.mono (by decide)) (@aA _ _ _ _ _ (pv 0) (@aA _ _ _ _ _ (@tF _ _ _ _ T.g_MOST_FIELDS (by rfl) (by decide)) aE (by rfl)) (by rfl)) (by rfl) (by decide) (by rfl) (by rfl)) (@dL _ _ _ _ _ _ _ (@aT _ _ _ _ _ _ _ _ _ (@nQ _ rfl) rfl T.n_all lD (@aA _ _ _ _ _ (@bX _ _ _ _ _ _ _ _ _ _ _ ["row"] 1 [] rfl (@bE _ (K) _ _ _ rfl (@bF _ _ _ _ (pv 0))) (fun R=>@aM _ _ (0) _ (show List.Nodup (["row"]:List Str) by decide +kernel) rfl (Or.inl rfl) (by trivial)) (@bC _ _ (by decide)) (fun R=>cH) (fun R=>(@bU _ _ _ _ _ _ _ _ _ _ G_p_is_field (hr.mono (by decide)) (@aA _ _ _ _ _ (pv 0) aE (by rfl)) (by rfl) (by decide) (by rfl) (by rfl))) (by rfl) (by rfl) (by rfl) (by rfl) (by rfl) (by rfl) (by rfl) (by intro _;rfl)) aE (by rfl)) (by decide) (by decide) (by rfl) (by rfl)) (@eB _ _ _ _ _ (@bU _ _ _ _ _ _ _ _ _ _ G_p_none_twice (hr.mono (by decide)) (@aA _ _ _ _ _ (pv 0) aE (by rfl)) (by rfl) (by decide) (by rfl) (by rfl))))))),?_⟩
 refine ⟨_,rfl,_,_,rfl,d,12,hd,rfl,_,rfl,?_⟩
 cases d with
 | lst ds =>
  obtain ⟨p,us,rfl,o,hi⟩:=hd
  have l1:=hi.length
  have hs':=Bool.and_eq_true_iff.mp (show (decide (ds.length ≤ 1000) && iM ds) = true from hs)
  have l2:ds.length ≤ 1000:=of_decide_eq_true hs'.1
  have q:Q (.bl ((decide (1 ≤ ds.length) && decide (ds.length ≤ 12)) && (ds.all cD && decide ((ds.map dG).Nodup)))) H:=q
  have e0:(decide (1 ≤ ds.length) && decide ((ds.length:Int) ≤ 12)) = (decide (1 ≤ ds.length) && decide (ds.length ≤ 12)):=by
   congr 1
   rw [Bool.eq_iff_iff,decide_eq_true_iff,decide_eq_true_iff]
   omega
  show if (decide (1 ≤ ds.length) && decide ((ds.length:Int) ≤ 12)) = true then _ else _
  rw [e0]
  refine dZ (fun h1=>?_) (fun h1=>?_)
  ·rw [h1,Bool.true_and] at q
   refine ⟨_,rfl,p,rfl,⟨_,SqL.of o⟩,?_⟩
   refine bH (F:=K) (xs:=us) (by omega) (fun i ys H'=>H' = H ∧ ys = (ds.take i).map fun d=>V.bl (cD d)) ⟨rfl,rfl⟩ ?_ ?_ ?_
   ·rintro i ys H' hi' ⟨rfl,rfl⟩
    exact ⟨SqL.of o,by rw [List.length_map,List.length_take];omega⟩
   ·rintro i x ys H' K1 K2 hx ⟨rfl,rfl⟩ k1 k2
    have hil:i < us.length:=(List.getElem?_eq_some_iff.mp hx).1
    obtain ⟨d,ed⟩:∃ d,ds[i]? = some d:=⟨_,List.getElem?_eq_getElem (by omega)⟩
    obtain ⟨v,ev,iv⟩:=hi.get ed
    rw [hx] at ev
    cases ev
    refine ⟨_,rfl,_,rfl,d,iv,jB hs'.2 (List.mem_of_getElem? ed),k1 _ _ ⟨rfl,?_⟩⟩
    rw [List.take_add_one,ed]
    simp
   ·rintro ys H' ⟨rfl,rfl⟩
    intro p1 hp1
    have np:p ≠ p1:=bB o hp1
    refine ⟨p1,ds.map cD,rfl,SqL.of ?_,_,rfl,?_⟩
    ·rw [aB,List.take_of_length_le (by omega),List.map_map]
     rfl
    have e1:(ds.map cD).all id = ds.all cD:=by rw [List.all_map];rfl
    rw [e1]
    refine dZ (fun h2=>?_) (fun h2=>?_)
    ·rw [h2,Bool.true_and] at q
     obtain ⟨zs,ez⟩:=rA vL h2
     have l3:zs.length = ds.length:=by have:=congrArg List.length ez;simpa using this.symm
     refine ⟨_,rfl,_,rfl,p,us,ds,zs,rfl,by rw [aR np];exact o,IsL.same (aK.upd hp1) _ _ hi,ez,by omega,?_⟩
     have e2:decide zs.Nodup = decide (ds.map dG).Nodup:=by rw [ez,Bool.eq_iff_iff,decide_eq_true_iff,decide_eq_true_iff,hJ]
     rw [e2]
     exact dJ.of (gU.lst hp1) q
    ·have h2':ds.all cD = false:=by simpa using h2
     rw [h2'] at q
     exact dJ.of (gU.lst hp1) q
  ·have h1':(decide (1 ≤ ds.length) && decide (ds.length ≤ 12)) = false:=by simpa using h1
   rw [h1'] at q
   exact dJ.of (.refl _) q
 | _=>exact bR (dJ.of (.refl _) q)
def aCY (K:PySem.W.Frag):Sp:=sp3 fun x y u H Q=>∃ (a b:Dv) (p:Addr) (zs:List Str),Is H a x ∧ Is H b y ∧ u = .ref p ∧ SqL K H p (zs.map V.str) ∧ Q (.bl (nW zs a b)) H
theorem tR (T:Txt K mg C):Fc P w K mg base 2 "are_sides" ["one","other","sides"] (aCY K):=by
 have G_p_is_one_of:Fc P w K mg base 1 "is_one_of" ["thing","names"] (xI K):=mZ T
 refine T.d_p_are_sides.fc sX vK (fun f cdv A outer s H vs Q E hr h=>?_)
 obtain ⟨x,y,u,rfl,a,b,p,zs,ha,hb,rfl,hp,q⟩:=h
 refine ⟨_,(@aH _ _ _ (@aS _ _ _ _ (@dL _ _ _ _ _ _ _ (@bU _ _ _ _ _ _ _ _ _ _ G_p_is_one_of (hr.mono (by decide)) (@aA _ _ _ _ _ (pv 0) (@aA _ _ _ _ _ (pv 2) aE (by rfl)) (by rfl)) (by rfl) (by decide) (by rfl) (by rfl)) (@dL _ _ _ _ _ _ _ (@bU _ _ _ _ _ _ _ _ _ _ G_p_is_one_of (hr.mono (by decide)) (@aA _ _ _ _ _ (pv 1) (@aA _ _ _ _ _ (pv 2) aE (by rfl)) (by rfl)) (by rfl) (by decide) (by rfl) (by rfl)) (@eB _ _ _ _ _ (@dM _ _ _ _ _ _ _ _ tM (pv 0) (pv 1) (@bG _ _ (by decide) (by decide)))))))),?_⟩
 have q:Q (.bl (rL zs a && (rL zs b && !deq a b))) H:=q
 refine ⟨_,rfl,_,rfl,_,_,rfl,a,p,zs,ha,rfl,hp,_,rfl,?_⟩
 cases ea:rL zs a with
 | false=>rw [ea] at q;exact bR q
 | true =>
  rw [ea,Bool.true_and] at q
  refine cP ⟨_,rfl,_,rfl,_,_,rfl,b,p,zs,hb,rfl,hp,_,rfl,?_⟩
  cases eb:rL zs b with
  | false=>rw [eb] at q;exact bR q
  | true =>
   rw [eb,Bool.true_and] at q
   cases a with
   | str z =>
    cases b with
    | str z' =>
     cases (show x = .str z from ha)
     cases (show y = .str z' from hb)
     refine cP ⟨_,rfl,_,rfl,rfl,?_⟩
     have e:(!decide (V.str z = V.str z')) = !deq (.str z) (.str z'):=by rw [oN];rfl
     rw [e]
     exact q
    | _=>cases eb
   | _=>cases ea
def aFZ:Sp:=sp2 fun x y H Q=>∃ (d:Dv) (j:Int),Is H d x ∧ y = .int j ∧ Q (.bl (lQ (.int j) d)) H
theorem xZ (T:Txt K mg C):Fc P w K mg base 3 "is_sill" ["thing","crown"] aFZ:=by
 have G_p_is_height:Fc P w K mg base 2 "is_height" ["thing"] mJ:=gQ T
 refine T.d_p_is_sill.fc xO iX (fun f cdv A outer s H vs Q E hr h=>?_)
 obtain ⟨x,y,rfl,d,j,hd,rfl,q⟩:=h
 refine ⟨_,(@aH _ _ _ (@aS _ _ _ _ (@aGX _ _ _ _ _ _ _ (@dM _ _ _ _ _ _ _ _ aHD (pv 0) gZ (@bG _ _ (by decide) (by decide))) (@eB _ _ _ _ _ (@dL _ _ _ _ _ _ _ (@bU _ _ _ _ _ _ _ _ _ _ G_p_is_height (hr.mono (by decide)) (@aA _ _ _ _ _ (pv 0) aE (by rfl)) (by rfl) (by decide) (by rfl) (by rfl)) (@eB _ _ _ _ _ (@dM _ _ _ _ _ _ _ _ mY (pv 0) (pv 1) (@bG _ _ (by decide) (by decide))))))))),?_⟩
 refine ⟨_,rfl,rfl,_,rfl,?_⟩
 cases d with
 | non =>
  cases (show x = .non from hd)
  rw [decide_eq_true rfl]
  exact cP q
 | int i =>
  cases (show x = .int i from hd)
  rw [decide_eq_false (show ¬ V.int i = V.non by intro z;cases z)]
  refine bR ⟨_,rfl,_,rfl,.int i,rfl,_,rfl,?_⟩
  have q:Q (.bl (hgt i && decide (i < j))) H:=q
  show if hgt i = true then _ else _
  cases e:hgt i with
  | false=>rw [e] at q;exact bR q
  | true=>rw [e,Bool.true_and] at q;exact cP ⟨_,rfl,_,rfl,_,_,rfl,rfl,q⟩
 | bl b =>
  cases (show x = .bl b from hd)
  rw [decide_eq_false (show ¬ V.bl b = V.non by intro z;cases z)]
  exact bR ⟨_,rfl,_,rfl,.bl b,rfl,_,rfl,bR q⟩
 | str b =>
  cases (show x = .str b from hd)
  rw [decide_eq_false (show ¬ V.str b = V.non by intro z;cases z)]
  exact bR ⟨_,rfl,_,rfl,.str b,rfl,_,rfl,bR q⟩
 | lst b =>
  obtain ⟨a,us,rfl,o⟩:=id hd
  rw [decide_eq_false (show ¬ V.ref a = V.non by intro z;cases z)]
  exact bR ⟨_,rfl,_,rfl,.lst b,hd,_,rfl,bR q⟩
 | tup b =>
  obtain ⟨a,us,rfl,o⟩:=id hd
  rw [decide_eq_false (show ¬ V.ref a = V.non by intro z;cases z)]
  exact bR ⟨_,rfl,_,rfl,.tup b,hd,_,rfl,bR q⟩
 | dct b c =>
  obtain ⟨a,us,rfl,o⟩:=id hd
  rw [decide_eq_false (show ¬ V.ref a = V.non by intro z;cases z)]
  exact bR ⟨_,rfl,_,rfl,.dct b c,hd,_,rfl,bR q⟩
def aGE (K:PySem.W.Frag):Sp:=sp2 fun x y H Q=>∃ (d:Dv) (p:Addr) (zs:List Str),Is H d x ∧ fD d = true ∧ y = .ref p ∧ SqL K H p (zs.map V.str) ∧ Q (.bl (cZ zs d)) H
theorem yB (T:Txt K mg C):Fc P w K mg base 4 "is_dyke" ["thing","sides"] (aGE K):=by
 have G_p_is_tuple_of:Fc P w K mg base 1 "is_tuple_of" ["thing","length"] sF:=hE T
 have G_p_is_name:Fc P w K mg base 1 "is_name" ["thing"] aBO:=pV T
 have G_p_are_sides:Fc P w K mg base 2 "are_sides" ["one","other","sides"] (aCY K):=tR T
 have G_p_is_height:Fc P w K mg base 2 "is_height" ["thing"] mJ:=gQ T
 have G_p_is_amount:Fc P w K mg base 2 "is_amount" ["thing"] sR:=nA T
 have G_p_is_sill:Fc P w K mg base 3 "is_sill" ["thing","crown"] aFZ:=xZ T
 refine T.d_p_is_dyke.fc xR iX (fun f cdv A outer s H vs Q E hr h=>?_)
 obtain ⟨x,y,rfl,d,p,zs,hd,hs,rfl,hp,q⟩:=h
 refine ⟨_,(@aG _ _ _ _ _ (@cL _ _ _ _ _ _ _ _ (@PW.pt _ _ _ (@iQ _ _ _ _ _ _ _ (@cR _ _ _ _ (@cK _ _ _ (@bU _ _ _ _ _ _ _ _ _ _ G_p_is_tuple_of (hr.mono (by decide)) (@aA _ _ _ _ _ (pv 0) (@aA _ _ _ _ _ aD aE (by rfl)) (by rfl)) (by rfl) (by decide) (by rfl) (by rfl)) (by intro _;rfl))) (@iQ _ _ _ _ _ _ _ (@cR _ _ _ _ (@cK _ _ _ (@bU _ _ _ _ _ _ _ _ _ _ G_p_is_name (hr.mono (by decide)) (@aA _ _ _ _ _ (@aZ _ _ _ _ _ _ _ (@bD _ (K) rfl) (pv 0) aD (fun _ _=>rfl)) aE (by rfl)) (by rfl) (by decide) (by rfl) (by rfl)) (by intro _;rfl))) (@jL _ _ _ _ (@cR _ _ _ _ (@cK _ _ _ (@bU _ _ _ _ _ _ _ _ _ _ G_p_are_sides (hr.mono (by decide)) (@aA _ _ _ _ _ (@aZ _ _ _ _ _ _ _ (@bD _ (K) rfl) (pv 0) aD (fun _ _=>rfl)) (@aA _ _ _ _ _ (@aZ _ _ _ _ _ _ _ (@bD _ (K) rfl) (pv 0) aD (fun _ _=>rfl)) (@aA _ _ _ _ _ (pv 1) aE (by rfl)) (by rfl)) (by rfl)) (by rfl) (by decide) (by rfl) (by rfl)) (by intro _;rfl))))))) (@aH _ _ _ (@aS _ _ _ _ jO)) bI) (@aH _ _ _ (@aS _ _ _ _ (@dL _ _ _ _ _ _ _ (@bU _ _ _ _ _ _ _ _ _ _ G_p_is_height (hr.mono (by decide)) (@aA _ _ _ _ _ (@aZ _ _ _ _ _ _ _ (@bD _ (K) rfl) (pv 0) aD (fun _ _=>rfl)) aE (by rfl)) (by rfl) (by decide) (by rfl) (by rfl)) (@dL _ _ _ _ _ _ _ (@bU _ _ _ _ _ _ _ _ _ _ G_p_is_amount (hr.mono (by decide)) (@aA _ _ _ _ _ (@aZ _ _ _ _ _ _ _ (@bD _ (K) rfl) (pv 0) aD (fun _ _=>rfl)) aE (by rfl)) (by rfl) (by decide) (by rfl) (by rfl)) (@eB _ _ _ _ _ (@bU _ _ _ _ _ _ _ _ _ _ G_p_is_sill (hr.mono (by decide)) (@aA _ _ _ _ _ (@aZ _ _ _ _ _ _ _ (@bD _ (K) rfl) (pv 0) aD (fun _ _=>rfl)) (@aA _ _ _ _ _ (@aZ _ _ _ _ _ _ _ (@bD _ (K) rfl) (pv 0) aD (fun _ _=>rfl)) aE (by rfl)) (by rfl)) (by rfl) (by decide) (by rfl) (by rfl)))))))),?_⟩
 refine ⟨_,rfl,_,_,rfl,d,6,hd,rfl,_,rfl,?_⟩
 by_cases h6:∃ n a b c r l,d = .tup [n,a,b,c,r,l]
 ·obtain ⟨n,a,b,c,r,l,rfl⟩:=h6
  obtain ⟨t,us,rfl,o,v0,r0,rfl,i0,v1,r1,rfl,i1,v2,r2,rfl,i2,v3,r3,rfl,i3,v4,r4,rfl,i4,v5,r5,rfl,i5,h0⟩:=hd
  cases (show r5 = [] from h0)
  have sn:fD n = true:=by
   exact jB (vU hs) List.mem_cons_self
  have q:Q (.bl (pB n && nW zs a b && (iJ c && (kT r && lQ c l)))) H:=q
  have at_:∀ (j:Nat) (v:V),([v0,v1,v2,v3,v4,v5]:List V)[j]? = some v → atI [v0,v1,v2,v3,v4,v5] (j:Int) = some v:=fun j v e=>aQ e
  refine bR ⟨_,rfl,t,_,0,v0,rfl,rfl,SqT.of o,at_ 0 _ rfl,_,rfl,n,i0,sn,_,rfl,?_⟩
  cases en:pB n with
  | false=>rw [en] at q;exact cP q
  | true =>
   rw [en,Bool.true_and] at q
   refine bR ⟨_,rfl,t,_,1,v1,rfl,rfl,SqT.of o,at_ 1 _ rfl,_,rfl,t,_,2,v2,rfl,rfl,SqT.of o,at_ 2 _ rfl,_,rfl,_,_,_,rfl,a,b,p,zs,i1,i2,rfl,hp,_,rfl,?_⟩
   cases es:nW zs a b with
   | false=>rw [es] at q;exact cP q
   | true =>
    rw [es,Bool.true_and] at q
    refine bR ⟨_,rfl,t,_,3,v3,rfl,rfl,SqT.of o,at_ 3 _ rfl,_,rfl,c,i3,_,rfl,?_⟩
    cases ec:iJ c with
    | false=>rw [ec] at q;exact bR q
    | true =>
     rw [ec,Bool.true_and] at q
     refine cP ⟨_,rfl,t,_,4,v4,rfl,rfl,SqT.of o,at_ 4 _ rfl,_,rfl,r,i4,_,rfl,?_⟩
     cases er:kT r with
     | false=>rw [er] at q;exact bR q
     | true =>
      rw [er,Bool.true_and] at q
      cases c with
      | int j =>
       cases (show v3 = .int j from i3)
       exact cP ⟨_,rfl,t,_,5,v5,rfl,rfl,SqT.of o,at_ 5 _ rfl,_,rfl,t,_,3,_,rfl,rfl,SqT.of o,at_ 3 _ rfl,_,_,rfl,l,j,i5,rfl,q⟩
      | _=>cases ec
 ·have e1:cZ zs d = false:=by
   unfold cZ
   split
   ·rename_i n a b c r l
    exact absurd ⟨n,a,b,c,r,l,rfl⟩ h6
   ·rfl
  have e2:zJ 6 d = false:=by
   cases d with
   | tup ds =>
    refine decide_eq_false (fun e=>?_)
    have e':ds.length = 6:=by omega
    match ds,e',h6 with
    | [n,a,b,c,r,l],_,h6=>exact h6 ⟨n,a,b,c,r,l,rfl⟩
   | _=>rfl
  dsimp only
  rw [e2]
  rw [e1] at q
  exact cP q
theorem yM {zs:List Str} (d:Dv) (h:cZ zs d = true):∃ z,dG d = some z:=by
 unfold cZ at h
 split at h
 ·rename_i n a b c r l
  rw [Bool.and_eq_true,Bool.and_eq_true] at h
  cases n with
  | str z=>exact ⟨z,rfl⟩
  | _=>cases h.1.1
 ·cases h
def aDG (K:PySem.W.Frag):Sp:=sp2 fun x y H Q=>∃ (d:Dv) (p:Addr) (zs:List Str),Is H d x ∧ fD d = true ∧ y = .ref p ∧ H p = some (.lst (zs.map V.str)) ∧ Q (.bl (nX zs d)) H
theorem tS (T:Txt K mg C):Fc P w K mg base 5 "are_dykes" ["thing","sides"] (aDG K):=by
 have G_p_is_list_of:Fc P w K mg base 1 "is_list_of" ["thing","most"] pL:=iN T
 have G_p_is_dyke:Fc P w K mg base 4 "is_dyke" ["thing","sides"] (aGE K):=yB T
 have G_p_none_twice:Fc P w K mg base 1 "none_twice" ["rows"] xE:=mB T
 refine T.d_p_are_dykes.fcD sY iX (fun f cdv A outer s H vs Q E hr h=>?_)
 obtain ⟨x,y,rfl,d,p0,zs0,hd,hs,rfl,hp0,q⟩:=h
 have big:=cB
 refine ⟨_,(@aH _ _ _ (@aS _ _ _ _ (@dL _ _ _ _ _ _ _ (@bU _ _ _ _ _ _ _ _ _ _ G_p_is_list_of (hr.mono (by decide)) (@aA _ _ _ _ _ (pv 0) (@aA _ _ _ _ _ (@tF _ _ _ _ T.g_MOST_DYKES (by rfl) (by decide)) aE (by rfl)) (by rfl)) (by rfl) (by decide) (by rfl) (by rfl)) (@dL _ _ _ _ _ _ _ (@aT _ _ _ _ _ _ _ _ _ (@nQ _ rfl) rfl T.n_all lD (@aA _ _ _ _ _ (@bX _ _ _ _ _ _ _ _ _ _ _ ["row","sides"] 1 [1] rfl (@bE _ (K) _ _ _ rfl (@bF _ _ _ _ (pv 0))) (fun R=>@aM _ _ (0) _ (show List.Nodup (["row","sides"]:List Str) by decide +kernel) rfl (Or.inl rfl) (by trivial)) (@bC _ _ (by decide)) (fun R=>cH) (fun R=>(@bU _ _ _ _ _ _ _ _ _ _ G_p_is_dyke (hr.mono (by decide)) (@aA _ _ _ _ _ (pv 0) (@aA _ _ _ _ _ (pv 1) aE (by rfl)) (by rfl)) (by rfl) (by decide) (by rfl) (by rfl))) (by rfl) (by rfl) (by rfl) (by rfl) (by rfl) (by rfl) (by rfl) (by intro _;rfl)) aE (by rfl)) (by decide) (by decide) (by rfl) (by rfl)) (@eB _ _ _ _ _ (@bU _ _ _ _ _ _ _ _ _ _ G_p_none_twice (hr.mono (by decide)) (@aA _ _ _ _ _ (pv 0) aE (by rfl)) (by rfl) (by decide) (by rfl) (by rfl))))))),?_⟩
 refine ⟨_,rfl,_,_,rfl,d,40,hd,rfl,_,rfl,?_⟩
 cases d with
 | lst ds =>
  obtain ⟨p,us,rfl,o,hi⟩:=hd
  have l1:=hi.length
  have hs':=Bool.and_eq_true_iff.mp (show (decide (ds.length ≤ 1000) && iM ds) = true from hs)
  have l2:ds.length ≤ 1000:=of_decide_eq_true hs'.1
  have q:Q (.bl ((decide (1 ≤ ds.length) && decide (ds.length ≤ 40)) && (ds.all (cZ zs0) && decide ((ds.map dG).Nodup)))) H:=q
  have e0:(decide (1 ≤ ds.length) && decide ((ds.length:Int) ≤ 40)) = (decide (1 ≤ ds.length) && decide (ds.length ≤ 40)):=by
   congr 1
   rw [Bool.eq_iff_iff,decide_eq_true_iff,decide_eq_true_iff]
   omega
  show if (decide (1 ≤ ds.length) && decide ((ds.length:Int) ≤ 40)) = true then _ else _
  rw [e0]
  refine dZ (fun h1=>?_) (fun h1=>?_)
  ·rw [h1,Bool.true_and] at q
   refine ⟨_,rfl,p,rfl,⟨_,SqL.of o⟩,?_⟩
   refine bH (F:=K) (xs:=us) (by omega) (fun i ys H'=>H' = H ∧ ys = (ds.take i).map fun d=>V.bl (cZ zs0 d)) ⟨rfl,rfl⟩ ?_ ?_ ?_
   ·rintro i ys H' hi' ⟨rfl,rfl⟩
    exact ⟨SqL.of o,by rw [List.length_map,List.length_take];omega⟩
   ·rintro i x ys H' K1 K2 hx ⟨rfl,rfl⟩ k1 k2
    have hil:i < us.length:=(List.getElem?_eq_some_iff.mp hx).1
    obtain ⟨d,ed⟩:∃ d,ds[i]? = some d:=⟨_,List.getElem?_eq_getElem (by omega)⟩
    obtain ⟨v,ev,iv⟩:=hi.get ed
    rw [hx] at ev
    cases ev
    refine ⟨_,rfl,_,rfl,_,_,rfl,d,p0,zs0,iv,jB hs'.2 (List.mem_of_getElem? ed),rfl,SqL.of hp0,k1 _ _ ⟨rfl,?_⟩⟩
    rw [List.take_add_one,ed]
    simp
   ·rintro ys H' ⟨rfl,rfl⟩
    intro p1 hp1
    have np:p ≠ p1:=bB o hp1
    refine ⟨p1,ds.map (cZ zs0),rfl,SqL.of ?_,_,rfl,?_⟩
    ·rw [aB,List.take_of_length_le (by omega),List.map_map]
     rfl
    have e1:(ds.map (cZ zs0)).all id = ds.all (cZ zs0):=by rw [List.all_map];rfl
    rw [e1]
    refine dZ (fun h2=>?_) (fun h2=>?_)
    ·rw [h2,Bool.true_and] at q
     obtain ⟨zs,ez⟩:=rA yM h2
     have l3:zs.length = ds.length:=by have:=congrArg List.length ez;simpa using this.symm
     refine ⟨_,rfl,_,rfl,p,us,ds,zs,rfl,by rw [aR np];exact o,IsL.same (aK.upd hp1) _ _ hi,ez,by omega,?_⟩
     have e2:decide zs.Nodup = decide (ds.map dG).Nodup:=by rw [ez,Bool.eq_iff_iff,decide_eq_true_iff,decide_eq_true_iff,hJ]
     rw [e2]
     exact dJ.of (gU.lst hp1) q
    ·have h2':ds.all (cZ zs0) = false:=by simpa using h2
     rw [h2'] at q
     exact dJ.of (gU.lst hp1) q
  ·have h1':(decide (1 ≤ ds.length) && decide (ds.length ≤ 40)) = false:=by simpa using h1
   rw [h1'] at q
   exact dJ.of (.refl _) q
 | _=>exact bR (dJ.of (.refl _) q)
def aGC (C:Addr):Sp:=sp3 fun x v1 v2 H Q=>∃ (p dx:Addr) (fs ds:List Dv),x = .ref p ∧ H p = some (.ins C dx []) ∧ Is H (.lst fs) v1 ∧ Is H (.lst ds) v2 ∧ fD (.lst fs) = true ∧ fD (.lst ds) = true ∧
 lE (.lst fs) = true ∧ nX ("sea" :: fs.map aJ) (.lst ds) = true ∧ ∀ H',LandAt C H' p fs ds → (∀ b o,H b = some o → b ≠ p → H' b = some o) → Q .non H'
def qE (C:Addr) (sel:List Dv → List Dv → List Dv):Sp:=sp1 fun x H Q=>∃ (p:Addr) (fs ds:List Dv),x = .ref p ∧ LandAt C H p fs ds ∧ ∀ (l:Addr) (vs:List V) (H':Hp),aK H H' → H l = none → H' l = some (.lst vs) → IsL H' (sel fs ds) vs → Q (.ref l) H'
def iL (C:Addr) (sel:List Dv → List Dv → List Str):Sp:=sp1 fun x H Q=>∃ (p:Addr) (fs ds:List Dv),x = .ref p ∧ LandAt C H p fs ds ∧ ∀ (l:Addr) (H':Hp),aK H H' → H l = none → H' l = some (.lst ((sel fs ds).map V.str)) → Q (.ref l) H'
def xG (C:Addr) (sel:List Dv → List Dv → List Dv):Sp:=sp1 fun x H Q=>∃ (p:Addr) (fs ds:List Dv),x = .ref p ∧ LandAt C H p fs ds ∧ ∀ (l:Addr) (vs:List V),H l = none → IsL H (sel fs ds) vs → Q (.ref l) (upd H l (.lst vs))
def xF (C:Addr) (sel:List Dv → List Dv → List Str):Sp:=sp1 fun x H Q=>∃ (p:Addr) (fs ds:List Dv),x = .ref p ∧ LandAt C H p fs ds ∧ ∀ (l:Addr),H l = none → Q (.ref l) (upd H l (.lst ((sel fs ds).map V.str)))
theorem aAD {C:Addr} {sel:List Dv → List Dv → List Dv}:∀ vs H Q E,qE C sel vs H Q E → xG C sel vs H Q E:=by
 rintro vs H Q E ⟨x,rfl,p,fs,ds,rfl,L,q⟩
 exact ⟨_,rfl,p,fs,ds,rfl,L,fun l us hl hi=>q l us _ (aK.upd hl) hl aB (IsL.same (aK.upd hl) _ _ hi)⟩
theorem zM {C:Addr} {sel:List Dv → List Dv → List Str}:∀ vs H Q E,iL C sel vs H Q E → xF C sel vs H Q E:=by
 rintro vs H Q E ⟨x,rfl,p,fs,ds,rfl,L,q⟩
 exact ⟨_,rfl,p,fs,ds,rfl,L,fun l hl=>q l _ (aK.upd hl) hl aB⟩
theorem pW (T:Txt K mg C):Mc P w K mg base 1 C "fields" ["self"] (xG C fun fs _=>fs):=by
 refine T.m_land_p_fields.mcD qI nG (fun f cdv A outer s H vs Q E hr h=>?_)
 obtain ⟨x,rfl,p,fs,ds,rfl,L,q⟩:=h
 obtain ⟨dx,d1,d2,hx,⟨k1,h1,e1,i1⟩,t2⟩:=L.ex
 refine ⟨_,(@aH _ _ _ (@aS _ _ _ _ (@cI _ _ _ _ _ _ _ _ _ (@lC _ rfl) rfl T.n_list dP (@aA _ _ _ _ _ (@aHA _ _ _ _ _ _ _ _ _ PySem.F.plainAttrs_dict PySem.F.slot_dict_values PySem.F.type_dict_values wC (@qN _ _ _ _ _ (pv 0) rfl) (by rfl) (by rfl)) aE (by rfl)) (by decide) (by decide) (by rfl) (by rfl)))),?_⟩
 refine ⟨_,rfl,p,C,dx,_,_,rfl,hx,T.cl_Land,T.a_field_rows,yJ _ _,.inr (.inr (.inl ⟨rfl,.inl ⟨_,h1⟩⟩)),d1,k1,rfl,rfl,.inl h1,fun v hv=>?_⟩
 have nv:d1 ≠ v:=bB h1 hv
 refine ⟨v,d1,k1,rfl,aB,.inl (by rw [aR nv];exact h1),fun l hl=>?_⟩
 exact dJ.of (gU.under hv rfl hl) (q l _ ((aK.upd hv).free hl) i1)
theorem qQ (T:Txt K mg C):Mc P w K mg base 1 C "dykes" ["self"] (xG C fun _ ds=>ds):=by
 refine T.m_land_p_dykes.mcD rY nG (fun f cdv A outer s H vs Q E hr h=>?_)
 obtain ⟨x,rfl,p,fs,ds,rfl,L,q⟩:=h
 obtain ⟨dx,d1,d2,hx,t1,⟨k1,h1,e1,i1⟩⟩:=L.ex
 refine ⟨_,(@aH _ _ _ (@aS _ _ _ _ (@cI _ _ _ _ _ _ _ _ _ (@lC _ rfl) rfl T.n_list dP (@aA _ _ _ _ _ (@aHA _ _ _ _ _ _ _ _ _ PySem.F.plainAttrs_dict PySem.F.slot_dict_values PySem.F.type_dict_values wC (@qN _ _ _ _ _ (pv 0) rfl) (by rfl) (by rfl)) aE (by rfl)) (by decide) (by decide) (by rfl) (by rfl)))),?_⟩
 refine ⟨_,rfl,p,C,dx,_,_,rfl,hx,T.cl_Land,T.a_dyke_rows,yK _ _,.inr (.inr (.inl ⟨rfl,.inl ⟨_,h1⟩⟩)),d2,k1,rfl,rfl,.inl h1,fun v hv=>?_⟩
 have nv:d2 ≠ v:=bB h1 hv
 refine ⟨v,d2,k1,rfl,aB,.inl (by rw [aR nv];exact h1),fun l hl=>?_⟩
 exact dJ.of (gU.under hv rfl hl) (q l _ ((aK.upd hv).free hl) i1)
theorem qP (T:Txt K mg C):Mc P w K mg base 1 C "fields" ["self"] (qE C fun fs _=>fs):=(pW T).imp aAD
theorem mC (T:Txt K mg C):Mc P w K mg base 1 C "dykes" ["self"] (qE C fun _ ds=>ds):=(qQ T).imp aAD
theorem uB {kvs:List (Key × V)} {ds:List Dv} (e:kvs.map (·.1) = ds.map nJ):(kvs.map fun kv=>kV kv.1) = (ds.map aJ).map V.str:=by
 have h:(kvs.map fun kv=>kV kv.1) = (kvs.map (·.1)).map kV:=by rw [List.map_map];rfl
 rw [h,e,List.map_map,List.map_map]
 rfl
theorem lM (T:Txt K mg C):Mc P w K mg base 1 C "field_names" ["self"] (xF C fun fs _=>fs.map aJ):=by
 refine T.m_land_p_field_names.mc mE nG (fun f cdv A outer s H vs Q E hr h=>?_)
 obtain ⟨x,rfl,p,fs,ds,rfl,L,q⟩:=h
 obtain ⟨dx,d1,d2,hx,⟨k1,h1,e1,i1⟩,t2⟩:=L.ex
 refine ⟨_,(@aH _ _ _ (@aS _ _ _ _ (@cI _ _ _ _ _ _ _ _ _ (@nP _ rfl) rfl T.n_list dP (@aA _ _ _ _ _ (@qN _ _ _ _ _ (pv 0) rfl) aE (by rfl)) (by decide) (by decide) (by rfl) (by rfl)))),?_⟩
 refine ⟨_,rfl,p,C,dx,_,_,rfl,hx,T.cl_Land,T.a_field_rows,yJ _ _,d1,k1,rfl,.inl h1,fun l hl=>?_⟩
 have:=q l hl
 rw [uB e1]
 exact this
theorem mF (T:Txt K mg C):Mc P w K mg base 1 C "dyke_names" ["self"] (xF C fun _ ds=>ds.map aJ):=by
 refine T.m_land_p_dyke_names.mc mO nG (fun f cdv A outer s H vs Q E hr h=>?_)
 obtain ⟨x,rfl,p,fs,ds,rfl,L,q⟩:=h
 obtain ⟨dx,d1,d2,hx,t1,⟨k1,h1,e1,i1⟩⟩:=L.ex
 refine ⟨_,(@aH _ _ _ (@aS _ _ _ _ (@cI _ _ _ _ _ _ _ _ _ (@nP _ rfl) rfl T.n_list dP (@aA _ _ _ _ _ (@qN _ _ _ _ _ (pv 0) rfl) aE (by rfl)) (by decide) (by decide) (by rfl) (by rfl)))),?_⟩
 refine ⟨_,rfl,p,C,dx,_,_,rfl,hx,T.cl_Land,T.a_dyke_rows,yK _ _,d2,k1,rfl,.inl h1,fun l hl=>?_⟩
 have:=q l hl
 rw [uB e1]
 exact this
theorem cO (T:Txt K mg C):Mc P w K mg base 1 C "field_names" ["self"] (iL C fun fs _=>fs.map aJ):=(lM T).imp zM
theorem dN (T:Txt K mg C):Mc P w K mg base 1 C "dyke_names" ["self"] (iL C fun _ ds=>ds.map aJ):=(mF T).imp zM
theorem nN {H:Hp} {n a b:Str} {c r:Int} {s:Dv} {v:V} (h:Is H (.tup [.str n,.str a,.str b,.int c,.int r,s]) v):∃ t vs,v = .ref t ∧ H t = some (.tup [.str n,.str a,.str b,.int c,.int r,vs]) ∧ Is H s vs:=by
 obtain ⟨t,us,rfl,o,v0,r0,rfl,i0,v1,r1,rfl,i1,v2,r2,rfl,i2,v3,r3,rfl,i3,v4,r4,rfl,i4,v5,r5,rfl,i5,h0⟩:=h
 cases (show r5 = [] from h0)
 cases (show v0 = _ from i0)
 cases (show v1 = _ from i1)
 cases (show v2 = _ from i2)
 cases (show v3 = _ from i3)
 cases (show v4 = _ from i4)
 exact ⟨t,v5,rfl,o,i5⟩
theorem lA {H:Hp} {n:Str} {g e:Int} {v:V} (h:Is H (.tup [.str n,.int g,.int e]) v):∃ t,v = .ref t ∧ H t = some (.tup [.str n,.int g,.int e]):=by
 obtain ⟨t,us,rfl,o,v0,r0,rfl,i0,v1,r1,rfl,i1,v2,r2,rfl,i2,h0⟩:=h
 cases (show r2 = [] from h0)
 cases (show v0 = _ from i0)
 cases (show v1 = _ from i1)
 cases (show v2 = _ from i2)
 exact ⟨t,rfl,o⟩
theorem bV {C:Addr} {H:Hp} {p:Addr} {fs ds:List Dv} (L:LandAt C H p fs ds):GoodF fs ∧ GoodD ("sea" :: fs.map aJ) ds:=⟨(qW _).mp L.okf,(qX _ _).mp L.okd⟩
def zS (C:Addr):Sp:=sp2 fun x y H Q=>∃ (p:Addr) (fs ds:List Dv) (z:Str) (g e:Int),x = .ref p ∧ y = .str z ∧ LandAt C H p fs ds ∧ Dv.tup [.str z,.int g,.int e] ∈ fs ∧ Q (.int g) H
theorem qO (T:Txt K mg C):Mc P w K mg base 1 C "ground" ["self","field"] (zS C):=by
 refine T.m_land_p_ground.mc qH iX (fun f cdv A outer s H vs Q E hr h=>?_)
 obtain ⟨x,y,rfl,p,fs,ds,z,g,e,rfl,rfl,L,m,q⟩:=h
 have hu:=gR hr
 obtain ⟨dx,d1,d2,hx,⟨k1,h1,e1,i1⟩,t2⟩:=L.ex
 obtain ⟨v,ev,iv⟩:=xB e1 i1 (bV L).1.nd m
 obtain ⟨t,rfl,o⟩:=lA iv
 refine ⟨_,(@aH _ _ _ (@aS _ _ _ _ (@aZ _ _ _ _ _ _ _ (@bD _ (K) rfl) (@dR _ _ _ _ _ _ hu (@qN _ _ _ _ _ (pv 0) rfl) (pv 1) (fun _ _=>rfl)) aD (fun _ _=>rfl)))),?_⟩
 refine ⟨_,rfl,p,C,dx,_,_,rfl,hx,T.cl_Land,T.a_field_rows,yJ _ _,_,rfl,d1,.ref t,rfl,?_,t,_,1,.int g,rfl,rfl,SqT.of o,aQ (j:=1) rfl,q⟩
 rw [← ev]
 exact pK.k (k:=Sum.inr z) h1
def aDH (C:Addr):Sp:=sp2 fun x y H Q=>∃ (p:Addr) (fs ds:List Dv) (d:Dv),x = .ref p ∧ y = .str (aJ d) ∧ LandAt C H p fs ds ∧ d ∈ ds ∧ ∀ v,Is H d v → Q v H
theorem tT (T:Txt K mg C):Mc P w K mg base 1 C "dyke" ["self","name"] (aDH C):=by
 refine T.m_land_p_dyke.mc sZ iX (fun f cdv A outer s H vs Q E hr h=>?_)
 obtain ⟨x,y,rfl,p,fs,ds,d,rfl,rfl,L,m,q⟩:=h
 have hu:=gR hr
 obtain ⟨dx,d1,d2,hx,t1,⟨k1,h1,e1,i1⟩⟩:=L.ex
 obtain ⟨v,ev,iv⟩:=xB e1 i1 (bV L).2.nd m
 refine ⟨_,(@aH _ _ _ (@aS _ _ _ _ (@dR _ _ _ _ _ _ hu (@qN _ _ _ _ _ (pv 0) rfl) (pv 1) (fun _ _=>rfl)))),?_⟩
 refine ⟨_,rfl,p,C,dx,_,_,rfl,hx,T.cl_Land,T.a_dyke_rows,yK _ _,_,rfl,d2,v,rfl,?_,q v iv⟩
 rw [← ev]
 exact pK.k (k:=Sum.inr (aJ d)) h1
theorem aCT {α β:Type}:∀ {xs:List α} {ys:List β},xs.length = ys.length → (xs.zip ys).map (·.1) = xs
 | [],[],_=>rfl
 | x :: xs,y :: ys,h=>by rw [List.zip_cons_cons,List.map_cons,aCT (by simpa using h)]
 | [],_ :: _,h=>by simp at h
 | _ :: _,[],h=>by simp at h
theorem aCS {α β:Type}:∀ {xs:List α} {ys:List β},xs.length = ys.length → (xs.zip ys).map (·.2) = ys
 | [],[],_=>rfl
 | x :: xs,y :: ys,h=>by rw [List.zip_cons_cons,List.map_cons,aCS (by simpa using h)]
 | [],_ :: _,h=>by simp at h
 | _ :: _,[],h=>by simp at h
def dD (ds:List Dv) (us:List V):List (Key × V):=(ds.map nJ).zip us
theorem lJ {ds:List Dv} {us:List V} (h:us.length = ds.length):(dD ds us).map (·.1) = ds.map nJ:=aCT (by rw [List.length_map];exact h.symm)
theorem tH {ds:List Dv} {us:List V} (h:us.length = ds.length):(dD ds us).map (·.2) = us:=aCS (by rw [List.length_map];exact h.symm)
theorem oH {ds:List Dv} {us:List V} (h:us.length = ds.length):(dD ds us).length = us.length:=by
 unfold dD
 rw [List.length_zip,List.length_map]
 omega
theorem aAJ {ds:List Dv} {us:List V} {i:Nat} {d:Dv} {v:V} (e1:ds[i]? = some d) (e2:us[i]? = some v):(dD ds us)[i]? = some (nJ d,v):=by
 unfold dD
 rw [List.getElem?_zip_eq_some]
 exact ⟨by rw [List.getElem?_map,e1];rfl,e2⟩
theorem wH {ds:List Dv} (h:(ds.map aJ).Nodup):(ds.map nJ).Nodup:=by
 have e:ds.map nJ = (ds.map aJ).map Sum.inr:=by rw [List.map_map];rfl
 rw [e,gA]
 exact h
theorem vF (T:Txt K mg C):Ic P w K mg base 6 C ["self","fields","dykes"] (aGC C):=by
 have G_p_are_fields:Fc P w K mg base 4 "are_fields" ["thing"] zT:=sC T
 have G_p_are_dykes:Fc P w K mg base 5 "are_dykes" ["thing","sides"] (aDG K):=tS T
 refine T.i_Land.ic vB vK (fun f cdv A outer s H vs Q E hr h=>?_)
 obtain ⟨x,v1,v2,rfl,p,dx,fs,ds,rfl,hx,hf,hd,sf,sd,okf,okd,q⟩:=h
 have big:=cB
 have gf:=(qW _).mp okf
 have gd:=(qX _ _).mp okd
 have lf:=gf.l2
 have ld:=gd.l2
 obtain ⟨a1,us,rfl,o1,i1⟩:=id hf
 obtain ⟨a2,ws,rfl,o2,i2⟩:=id hd
 have l1:=i1.length
 have l2:=i2.length
 refine ⟨_,(@aG _ _ _ _ _ (@cL _ _ _ _ _ _ _ _ (@cR _ _ _ _ (@cK _ _ _ (@bU _ _ _ _ _ _ _ _ _ _ G_p_are_fields (hr.mono (by decide)) (@aA _ _ _ _ _ (pv 1) aE (by rfl)) (by rfl) (by decide) (by rfl) (by rfl)) (by intro _;rfl))) (@aH _ _ _ tD) bI) (@aG _ _ _ _ _ (@cL _ _ _ _ _ _ _ _ (@cR _ _ _ _ (@cK _ _ _ (@bU _ _ _ _ _ _ _ _ _ _ G_p_are_dykes (hr.mono (by decide)) (@aA _ _ _ _ _ (pv 2) (@aA _ _ _ _ _ (@aI _ _ _ _ _ _ _ _ eR (@bM _ _ _ _ (@aA _ _ _ _ _ (@tF _ _ _ _ T.g_SEA (by rfl) (by decide)) aE (by rfl))) (@bX _ _ _ _ _ _ _ _ _ _ _ ["field"] 1 [] rfl (@bE _ (K) _ _ _ rfl (@bF _ _ _ _ (pv 1))) (fun R=>@aM _ _ (0) _ (show List.Nodup (["field"]:List Str) by decide +kernel) rfl (Or.inl rfl) (by trivial)) (@bC _ _ (by decide)) (fun R=>cH) (fun R=>(@aZ _ _ _ _ _ _ _ (@bD _ (K) rfl) (pv 0) aD (fun _ _=>rfl))) (by rfl) (by rfl) (by rfl) (by rfl) (by rfl) (by rfl) (by rfl) (by intro _;rfl))) aE (by rfl)) (by rfl)) (by rfl) (by decide) (by rfl) (by rfl)) (by intro _;rfl))) (@aH _ _ _ tD) bI) (@aG _ _ _ _ _ (@aGV _ _ _ _ _ _ _ _ (pv 0) (@cI _ _ _ _ _ _ _ _ _ (@dA _ rfl) rfl T.n_dict fY (@aA _ _ _ _ _ (@bX _ _ _ _ _ _ _ _ _ _ _ ["field"] 1 [] rfl (@bE _ (K) _ _ _ rfl (@bF _ _ _ _ (pv 1))) (fun R=>@aM _ _ (0) _ (show List.Nodup (["field"]:List Str) by decide +kernel) rfl (Or.inl rfl) (by trivial)) (@bC _ _ (by decide)) (fun R=>cH) (fun R=>(@cA _ _ _ _ _ (@aA _ _ _ _ _ (@aZ _ _ _ _ _ _ _ (@bD _ (K) rfl) (pv 0) aD (fun _ _=>rfl)) (@aA _ _ _ _ _ (pv 0) aE (by rfl)) (by rfl)))) (by rfl) (by rfl) (by rfl) (by rfl) (by rfl) (by rfl) (by rfl) (by intro _;rfl)) aE (by rfl)) (by decide) (by decide) (by rfl) (by rfl)) rfl) (@aH _ _ _ (@aGV _ _ _ _ _ _ _ _ (pv 0) (@cI _ _ _ _ _ _ _ _ _ (@dA _ rfl) rfl T.n_dict fY (@aA _ _ _ _ _ (@bX _ _ _ _ _ _ _ _ _ _ _ ["dyke"] 1 [] rfl (@bE _ (K) _ _ _ rfl (@bF _ _ _ _ (pv 2))) (fun R=>@aM _ _ (0) _ (show List.Nodup (["dyke"]:List Str) by decide +kernel) rfl (Or.inl rfl) (by trivial)) (@bC _ _ (by decide)) (fun R=>cH) (fun R=>(@cA _ _ _ _ _ (@aA _ _ _ _ _ (@aZ _ _ _ _ _ _ _ (@bD _ (K) rfl) (pv 0) aD (fun _ _=>rfl)) (@aA _ _ _ _ _ (pv 0) aE (by rfl)) (by rfl)))) (by rfl) (by rfl) (by rfl) (by rfl) (by rfl) (by rfl) (by rfl) (by intro _;rfl)) aE (by rfl)) (by decide) (by decide) (by rfl) (by rfl)) rfl))))),?_⟩
 refine ⟨_,rfl,_,rfl,.lst fs,hf,sf,_,rfl,?_⟩
 rw [okf]
 refine bR ?_
 refine ⟨_,rfl,aL rfl,fun p1 hp1=>?_⟩
 have S1:=aK.upd (o:=.lst [.str "sea"]) hp1
 refine ⟨_,rfl,a1,rfl,⟨_,SqL.of (S1 _ _ o1)⟩,?_⟩
 refine bH (F:=K) (xs:=us) (by omega) (fun i ys H'=>H' = upd H p1 (.lst [.str "sea"]) ∧ ys = ((fs.take i).map aJ).map V.str) ⟨rfl,rfl⟩ ?_ ?_ ?_
 ·rintro i ys H' hi' ⟨rfl,rfl⟩
  exact ⟨SqL.of (S1 _ _ o1),by rw [List.length_map,List.length_map,List.length_take];omega⟩
 ·rintro i x ys H' K1 K2 hx' ⟨rfl,rfl⟩ k1 k2
  have hil:i < us.length:=(List.getElem?_eq_some_iff.mp hx').1
  obtain ⟨d,ed⟩:∃ d,fs[i]? = some d:=⟨_,List.getElem?_eq_getElem (by omega)⟩
  obtain ⟨v,ev,iv⟩:=i1.get ed
  rw [hx'] at ev
  cases ev
  obtain ⟨z,g,e,rfl,_⟩:=bW (gf.all d (List.mem_of_getElem? ed))
  obtain ⟨t,rfl,o⟩:=lA iv
  refine ⟨_,rfl,t,_,0,.str z,rfl,rfl,SqT.of (S1 _ _ o),aQ (j:=0) rfl,k1 _ _ ⟨rfl,?_⟩⟩
  rw [List.take_add_one,ed]
  simp [aJ,dG]
 ·rintro ys H' ⟨rfl,rfl⟩
  intro p2 hp2
  rw [List.take_of_length_le (by omega)]
  have S2:=aK.upd (o:=.lst ((fs.map aJ).map V.str)) hp2
  refine ⟨p1,p2,_,_,rfl,rfl,S2 _ _ aB,aB,by simp only [List.length_map,List.length_cons,List.length_nil];omega,fun p3 hp3=>?_⟩
  have S3:=aK.upd (o:=.lst ([.str "sea"] ++ (fs.map aJ).map V.str)) hp3
  have S:=S1.trans (S2.trans S3)
  generalize hH3:upd (upd (upd H p1 (.lst [.str "sea"])) p2 (.lst ((fs.map aJ).map V.str))) p3 (.lst ([.str "sea"] ++ (fs.map aJ).map V.str)) = H3 at S
  have hp3':H3 p3 = some (.lst ((("sea":Str) :: fs.map aJ).map V.str)):=by rw [← hH3,aB];rfl
  refine ⟨_,_,rfl,.lst ds,p3,_,Is.same S _ _ hd,sd,rfl,hp3',_,rfl,?_⟩
  rw [okd]
  refine bR ?_
  refine ⟨_,rfl,a1,rfl,⟨_,SqL.of (S _ _ o1)⟩,?_⟩
  refine bH (F:=K) (xs:=us) (by omega) (fun i ys H'=>aK H3 H' ∧ bZ H' ys ((dD fs us).take i)) ⟨aK.refl _,bZ.nil _⟩ ?_ ?_ ?_
  ·rintro i ys H' hi' ⟨S4,pr⟩
   exact ⟨SqL.of (S4 _ _ (S _ _ o1)),by have:=pr.len;rw [List.length_take] at this;omega⟩
  ·rintro i x ys H' K1 K2 hx' ⟨S4,pr⟩ k1 k2
   have hil:i < us.length:=(List.getElem?_eq_some_iff.mp hx').1
   obtain ⟨d,ed⟩:∃ d,fs[i]? = some d:=⟨_,List.getElem?_eq_getElem (by omega)⟩
   obtain ⟨v,ev,iv⟩:=i1.get ed
   rw [hx'] at ev
   cases ev
   obtain ⟨z,g,e,rfl,_⟩:=bW (gf.all d (List.mem_of_getElem? ed))
   obtain ⟨t,rfl,o⟩:=lA iv
   have ot:=S4 _ _ (S _ _ o)
   refine ⟨_,rfl,t,_,0,.str z,rfl,rfl,SqT.of ot,aQ (j:=0) rfl,_,rfl,aL rfl,fun pt hpt=>k1 _ _ ⟨S4.trans (aK.upd hpt),?_⟩⟩
   rw [List.take_add_one,aAJ ed hx']
   exact pr.snoc (k:=Sum.inr z) hpt
  ·rintro ys H4 ⟨S4,pr⟩
   rw [List.take_of_length_le (by rw [oH l1];omega)] at pr
   intro p4 hp4
   have S5:=aK.upd (o:=.lst ys) hp4
   refine ⟨p4,ys,dD fs us,rfl,SqL.of aB,pr.same S5,by rw [oH l1];omega,by rw [lJ l1];exact wH gf.nd,fun d1 hd1=>?_⟩
   have S6:=aK.upd (o:=.dK (dD fs us)) hd1
   have SA:=S.trans (S4.trans (S5.trans S6))
   have hd1':upd (upd H4 p4 (.lst ys)) d1 (.dK (dD fs us)) d1 = some (.dK (dD fs us)):=aB
   generalize upd (upd H4 p4 (.lst ys)) d1 (.dK (dD fs us)) = H6 at SA hd1'
   refine ⟨_,rfl,p,C,dx,[],rfl,SA _ _ hx,T.cl_Land,T.a_field_rows,(by show 0 < 1000;decide),?_⟩
   have SB:∀ b o,H b = some o → b ≠ p → upd H6 p (.ins C dx (iT "field_rows" (.ref d1) [])) b = some o:=fun b o e hb=>by rw [aR hb];exact SA _ _ e
   have nd1:d1 ≠ p:=rO hd1' (SA _ _ hx) (by intro z;cases z)
   have SD:aDY H (upd H6 p (.ins C dx (iT "field_rows" (.ref d1) []))):=fun b o e dt=>SB b o e (fun z=>by subst z;rw [hx] at e;cases e;cases dt)
   have hp7:upd H6 p (.ins C dx (iT "field_rows" (.ref d1) [])) p = some (.ins C dx (iT "field_rows" (.ref d1) [])):=aB
   have hd7:upd H6 p (.ins C dx (iT "field_rows" (.ref d1) [])) d1 = some (.dK (dD fs us)):=by rw [aR nd1];exact hd1'
   generalize upd H6 p (.ins C dx (iT "field_rows" (.ref d1) [])) = H7 at SB SD hp7 hd7
   refine ⟨_,rfl,a2,rfl,⟨_,SqL.of (SD _ _ o2 rfl)⟩,?_⟩
   refine bH (F:=K) (xs:=ws) (by omega) (fun i ys H'=>aK H7 H' ∧ bZ H' ys ((dD ds ws).take i)) ⟨aK.refl _,bZ.nil _⟩ ?_ ?_ ?_
   ·rintro i ys H' hi' ⟨S8,pr⟩
    exact ⟨SqL.of (S8 _ _ (SD _ _ o2 rfl)),by have:=pr.len;rw [List.length_take] at this;omega⟩
   ·rintro i x ys H' K1 K2 hx' ⟨S8,pr⟩ k1 k2
    have hil:i < ws.length:=(List.getElem?_eq_some_iff.mp hx').1
    obtain ⟨d,ed⟩:∃ d,ds[i]? = some d:=⟨_,List.getElem?_eq_getElem (by omega)⟩
    obtain ⟨v,ev,iv⟩:=i2.get ed
    rw [hx'] at ev
    cases ev
    obtain ⟨n,a,b,c,r,sl,rfl,_⟩:=cM (gd.all d (List.mem_of_getElem? ed))
    obtain ⟨t,vs,rfl,o,_⟩:=nN iv
    have ot:=S8 _ _ (SD _ _ o rfl)
    refine ⟨_,rfl,t,_,0,.str n,rfl,rfl,SqT.of ot,aQ (j:=0) rfl,_,rfl,aL rfl,fun pt hpt=>k1 _ _ ⟨S8.trans (aK.upd hpt),?_⟩⟩
    rw [List.take_add_one,aAJ ed hx']
    exact pr.snoc (k:=Sum.inr n) hpt
   ·rintro ys H8 ⟨S8,pr⟩
    rw [List.take_of_length_le (by rw [oH l2];omega)] at pr
    intro p9 hp9
    have S9:=aK.upd (o:=.lst ys) hp9
    refine ⟨p9,ys,dD ds ws,rfl,SqL.of aB,pr.same S9,by rw [oH l2];omega,by rw [lJ l2];exact wH gd.nd,fun d2 hd2=>?_⟩
    have S10:=aK.upd (o:=.dK (dD ds ws)) hd2
    have SC:=S8.trans (S9.trans S10)
    have hd2':upd (upd H8 p9 (.lst ys)) d2 (.dK (dD ds ws)) d2 = some (.dK (dD ds ws)):=aB
    generalize upd (upd H8 p9 (.lst ys)) d2 (.dK (dD ds ws)) = H10 at SC hd2'
    refine ⟨_,rfl,p,C,dx,_,rfl,SC _ _ hp7,T.cl_Land,T.a_dyke_rows,(by show 1 < 1000;decide),?_⟩
    have nd2:d2 ≠ p:=rO hd2' (SC _ _ hp7) (by intro z;cases z)
    have SE:aDY H (upd H10 p (.ins C dx (pY d1 d2))):=fun b o e dt=>by
     have hb:b ≠ p:=fun z=>by subst z;rw [hx] at e;cases e;cases dt
     rw [aR hb]
     exact SC _ _ (SB _ _ e hb)
    refine q _ ⟨⟨dx,d1,d2,aB,⟨_,(aR nd1).trans (SC _ _ hd7),lJ l1,?_⟩,⟨_,(aR nd2).trans hd2',lJ l2,?_⟩⟩,okf,okd⟩ fun b o e hb=>?_
    ·rw [tH l1]
     exact IsL.sameD SE _ _ i1
    ·rw [tH l2]
     exact IsL.sameD SE _ _ i2
    ·show upd H10 p (.ins C dx (pY d1 d2)) b = some o
     rw [aR hb]
     exact SC _ _ (SB _ _ e hb)
open Mt02
def aBQ (K:PySem.W.Frag):Sp:=sp2 fun x y H Q=>∃ (a:Addr) (ns:List Int) (k:Int),x = .ref a ∧ y = .int k ∧ SqL K H a (ns.map V.int) ∧ ns.length ≤ 63 ∧ 0 ≤ k ∧ Q (.int (ns.getD k.toNat 0)) H
theorem pX (T:Txt K mg C):Fc P w K mg base 1 "_law_cell_at" ["_law_script","_law_k"] (aBQ K):=by
 refine T.d_l_cell_at.fc xS iX (fun f cdv A outer s H vs Q E hr h=>?_)
 obtain ⟨x,y,rfl,a,ns,k,rfl,rfl,hS,hl,hk,q⟩:=h
 refine ⟨_,(@aG _ _ _ _ _ (@cL _ _ _ _ _ _ _ _ (@bA _ _ _ _ _ _ _ _ mY (pv 1) (@aT _ _ _ _ _ _ _ _ _ (@aY _ (K) rfl) rfl T.n_len bS (@aA _ _ _ _ _ (pv 0) aE (by rfl)) (by decide) (by decide) (by rfl) (by rfl)) (@bG _ _ (by decide) (by decide))) (@aH _ _ _ (@aS _ _ _ _ (@aZ _ _ _ _ _ _ _ (@bL _ (K) rfl) (pv 0) (pv 1) (fun _ _=>rfl)))) bI) (@aH _ _ _ (@aS _ _ _ _ aD))),?_⟩
 refine ⟨_,rfl,_,rfl,a,_,rfl,.inl hS,_,_,rfl,rfl,_,rfl,?_⟩
 obtain ⟨j,rfl⟩:=Int.eq_ofNat_of_zero_le hk
 rw [List.length_map]
 refine dZ (fun h1=>?_) (fun h1=>?_)
 ·have h1':j < ns.length:=by
   have:=of_decide_eq_true h1
   omega
  refine ⟨_,rfl,_,rfl,a,_,_,.int (ns.getD j 0),rfl,rfl,hS,aQ ?_,?_⟩
  ·rw [List.getElem?_map,List.getElem?_eq_getElem h1',List.getD_eq_getElem?_getD,List.getElem?_eq_getElem h1']
   rfl
  ·simpa using q
 ·have h1':¬ j < ns.length:=by
   intro h2
   exact h1 (decide_eq_true (by omega))
  have e:ns.getD j 0 = 0:=by
   rw [List.getD_eq_getElem?_getD,List.getElem?_eq_none (by omega)]
   rfl
  have q':Q (.int (ns.getD j 0)) H:=by simpa using q
  rw [e] at q'
  exact q'
def Scr (K:PySem.W.Frag) (H:Hp) (x:V):Prop:=∃ (a:Addr) (ns:List Int),x = .ref a ∧ SqL K H a (ns.map V.int) ∧ ns.length ≤ 63
theorem Scr.same {K:PySem.W.Frag} {H H':Hp} {x:V} (S:aK H H') (h:Scr K H x):Scr K H' x:=by
 obtain ⟨a,ns,e,q,l⟩:=h
 exact ⟨a,ns,e,S.seq q,l⟩
def xK (K:PySem.W.Frag):Sp:=sp2 fun x y H Q=>∃ k:Int,Scr K H x ∧ y = .int k ∧ 0 ≤ k ∧ ∀ m:Int,0 ≤ m → Q (.int m) H
theorem tW (T:Txt K mg C):Fc P w K mg base 2 "_law_mixed" ["_law_script","_law_k"] (xK K):=by
 have G_l_cell_at:Fc P w K mg base 1 "_law_cell_at" ["_law_script","_law_k"] (aBQ K):=pX T
 refine T.d_l_mixed.fc aBU iX (fun f cdv A outer s H vs Q E hr h=>?_)
 obtain ⟨x,y,rfl,k,⟨a,ns,rfl,hS,hl⟩,rfl,hk,q⟩:=h
 refine ⟨_,(@aH _ _ _ (@aS _ _ _ _ (@aI _ _ _ _ _ _ _ _ bN (@aI _ _ _ _ _ _ _ _ lK (@bU _ _ _ _ _ _ _ _ _ _ G_l_cell_at (hr.mono (by decide)) (@aA _ _ _ _ _ (pv 0) (@aA _ _ _ _ _ (pv 1) aE (by rfl)) (by rfl)) (by rfl) (by decide) (by rfl) (by rfl)) aD) (@aI _ _ _ _ _ _ _ _ cF (@aI _ _ _ _ _ _ _ _ dE aD aD) aD)))),?_⟩
 refine ⟨_,rfl,_,rfl,_,_,rfl,a,ns,k,rfl,rfl,hS,hl,hk,_,_,rfl,rfl,.inr ⟨by decide,by decide⟩,_,_,rfl,rfl,⟨by decide,by decide,by decide⟩,_,_,rfl,rfl,_,_,rfl,rfl,(dY rfl),?_⟩
 exact q _ (Int.emod_nonneg _ (by decide))
def oA (lo hi:Int):Sp:=sp1 fun x H Q=>∃ c:Int,x = .int c ∧ ∀ m:Int,lo ≤ m → m ≤ hi → Q (.int m) H
theorem at4 {a b c d i:Int} (h0:0 ≤ i) (h1:i < 4):∃ m:Int,atI ([.int a,.int b,.int c,.int d]:List V) i = some (.int m) ∧ (m = a ∨ m = b ∨ m = c ∨ m = d):=by
 obtain ⟨k,rfl⟩:=Int.eq_ofNat_of_zero_le h0
 have hk:k < 4:=by omega
 match k,hk with
 | 0,_=>exact ⟨a,aQ rfl,.inl rfl⟩
 | 1,_=>exact ⟨b,aQ rfl,.inr (.inl rfl)⟩
 | 2,_=>exact ⟨c,aQ rfl,.inr (.inr (.inl rfl))⟩
 | 3,_=>exact ⟨d,aQ rfl,.inr (.inr (.inr rfl))⟩
theorem p6:(10:Int) ^ (6:Int).toNat = 1000000:=by decide
theorem rM (T:Txt K mg C):Fc P w K mg base 1 "_law_height" ["_law_cell"] (oA (-1000000) 1000000):=by
 refine T.d_l_height.fcD rJ nG (fun f cdv A outer s H vs Q E hr h=>?_)
 obtain ⟨x,rfl,c,rfl,q⟩:=h
 refine ⟨_,(@aG _ _ _ _ _ (@aU _ _ (1) _ _ _ _ rJ.nd rfl (Or.inl rfl) (@aI _ _ _ _ _ _ _ _ dU (@aI _ _ _ _ _ _ _ _ bN (@aI _ _ _ _ _ _ _ _ aX (pv 0) aD) aD) aD) (by rfl) (by trivial)) (@aH _ _ _ (@aS _ _ _ _ (@aZ _ _ _ _ _ _ _ (@bL _ (K) rfl) (@bM _ _ _ _ (@aA _ _ _ _ _ (pv 1) (@aA _ _ _ _ _ (pv 1) (@aA _ _ _ _ _ (@aI _ _ _ _ _ _ _ _ dU (@aI _ _ _ _ _ _ _ _ bN (@aI _ _ _ _ _ _ _ _ aX (pv 0) aD) aD) (@aI _ _ _ _ _ _ _ _ dE aD aD)) (@aA _ _ _ _ _ (@aI _ _ _ _ _ _ _ _ dU (@aI _ _ _ _ _ _ _ _ dE aD aD) (@aI _ _ _ _ _ _ _ _ lK (@aI _ _ _ _ _ _ _ _ bN (@aI _ _ _ _ _ _ _ _ aX (pv 0) aD) aD) aD)) aE (by rfl)) (by rfl)) (by rfl)) (by rfl))) (@aI _ _ _ _ _ _ _ _ bN (pv 0) aD) (fun _ _=>rfl))))),?_⟩
 refine ⟨_,rfl,_,_,rfl,rfl,⟨by decide,by decide⟩,_,_,rfl,rfl,(dY rfl),_,_,rfl,rfl,?_⟩
 refine ⟨_,rfl,_,rfl,_,rfl,_,_,rfl,rfl,⟨by decide,by decide⟩,_,_,rfl,rfl,(dY rfl),_,_,rfl,rfl,⟨by decide,by decide,by decide⟩,_,_,rfl,rfl,_,_,rfl,rfl,⟨by decide,by decide,by decide⟩,_,rfl,_,_,rfl,rfl,⟨by decide,by decide⟩,_,_,rfl,rfl,(dY rfl),_,_,rfl,rfl,.inr ⟨by decide,by decide⟩,_,_,rfl,rfl,aL rfl,fun p hp=>?_⟩
 obtain ⟨m,em,hm⟩:=at4 (a:=c / 4 % 9 - 3) (b:=c / 4 % 9 - 3) (c:=c / 4 % 2000001 - 10 ^ (6:Int).toNat) (d:=10 ^ (6:Int).toNat - c / 4 % 2 * 2000000) (i:=c % 4) (Int.emod_nonneg _ (by decide)) (Int.emod_lt_of_pos _ (dY rfl))
 refine ⟨_,rfl,_,_,rfl,rfl,(dY rfl),p,_,_,.int m,rfl,rfl,SqL.of aB,em,dJ.of (gU.lst hp) (q m ?_ ?_)⟩
 ·rw [p6] at hm;omega
 ·rw [p6] at hm;omega
theorem rN (T:Txt K mg C):Fc P w K mg base 1 "_law_amount" ["_law_cell"] (oA 0 1000000):=by
 refine T.d_l_amount.fcD aAC nG (fun f cdv A outer s H vs Q E hr h=>?_)
 obtain ⟨x,rfl,c,rfl,q⟩:=h
 refine ⟨_,(@aH _ _ _ (@aS _ _ _ _ (@aZ _ _ _ _ _ _ _ (@bL _ (K) rfl) (@bM _ _ _ _ (@aA _ _ _ _ _ (@aI _ _ _ _ _ _ _ _ bN (@aI _ _ _ _ _ _ _ _ aX (pv 0) aD) aD) (@aA _ _ _ _ _ (@aI _ _ _ _ _ _ _ _ bN (@aI _ _ _ _ _ _ _ _ aX (pv 0) aD) aD) (@aA _ _ _ _ _ (@aI _ _ _ _ _ _ _ _ dU (@aI _ _ _ _ _ _ _ _ dE aD aD) (@aI _ _ _ _ _ _ _ _ bN (@aI _ _ _ _ _ _ _ _ aX (pv 0) aD) aD)) (@aA _ _ _ _ _ (@aI _ _ _ _ _ _ _ _ bN (@aI _ _ _ _ _ _ _ _ aX (pv 0) aD) aD) aE (by rfl)) (by rfl)) (by rfl)) (by rfl))) (@aI _ _ _ _ _ _ _ _ bN (pv 0) aD) (fun _ _=>rfl)))),?_⟩
 refine ⟨_,rfl,_,_,rfl,rfl,⟨by decide,by decide⟩,_,_,rfl,rfl,(dY rfl),_,rfl,_,_,rfl,rfl,⟨by decide,by decide⟩,_,_,rfl,rfl,(dY rfl),_,_,rfl,rfl,⟨by decide,by decide,by decide⟩,_,rfl,_,_,rfl,rfl,⟨by decide,by decide⟩,_,_,rfl,rfl,(dY rfl),_,_,rfl,rfl,_,rfl,_,_,rfl,rfl,⟨by decide,by decide⟩,_,_,rfl,rfl,(dY rfl),aL rfl,fun p hp=>?_⟩
 obtain ⟨m,em,hm⟩:=at4 (a:=c / 4 % 5) (b:=c / 4 % 100) (c:=10 ^ (6:Int).toNat - c / 4 % 3) (d:=c / 4 % 1000001) (i:=c % 4) (Int.emod_nonneg _ (by decide)) (Int.emod_lt_of_pos _ (dY rfl))
 refine ⟨_,rfl,_,_,rfl,rfl,(dY rfl),p,_,_,.int m,rfl,rfl,SqL.of aB,em,dJ.of (gU.lst hp) (q m ?_ ?_)⟩
 ·rw [p6] at hm;omega
 ·rw [p6] at hm;omega
def xJ:Sp:=sp2 fun x y H Q=>∃ (c:Int) (n:Nat),x = .int c ∧ y = .int n ∧ n ≤ 100 ∧ ∀ (zs:List Str) (l:Addr),Names zs n → H l = none → Q (.ref l) (upd H l (.lst (zs.map V.str)))
theorem aHI {c S p b:Int} (hS:S = 2 + c % 7) (hp:p = c / 7 % S) (hb:b = (p + 1 + c / 61 % (S - 1)) % S):2 ≤ S ∧ S ≤ 8 ∧ 0 ≤ p ∧ p < S ∧ 0 ≤ b ∧ b < S ∧ p ≠ b:=by
 have h1:2 ≤ S ∧ S ≤ 8:=by omega
 have hp0:0 ≤ p:=by rw [hp];exact Int.emod_nonneg _ (by omega)
 have hp1:p < S:=by rw [hp];exact Int.emod_lt_of_pos _ (by omega)
 have hb0:0 ≤ b:=by rw [hb];exact Int.emod_nonneg _ (by omega)
 have hb1:b < S:=by rw [hb];exact Int.emod_lt_of_pos _ (by omega)
 have r0:0 ≤ c / 61 % (S - 1):=Int.emod_nonneg _ (by omega)
 have r1:c / 61 % (S - 1) < S - 1:=Int.emod_lt_of_pos _ (by omega)
 refine ⟨h1.1,h1.2,hp0,hp1,hb0,hb1,?_⟩
 intro e
 generalize c / 61 % (S - 1) = r at *
 by_cases hlt:p + 1 + r < S
 ·rw [Int.emod_eq_of_lt (by omega) hlt] at hb
  omega
 ·have e2:(p + 1 + r) % S = p + 1 + r - S:=by
   rw [← Int.sub_emod_right,Int.emod_eq_of_lt (by omega) (by omega)]
  omega
theorem tV (T:Txt K mg C):Fc P w K mg base 1 "_law_names" ["_law_cell","_law_many"] xJ:=by
 refine T.d_l_names.fc cE iX (fun f cdv A outer s H vs Q E hr h=>?_)
 obtain ⟨x,y,rfl,c,n,rfl,rfl,hn,q⟩:=h
 have big:=cB
 generalize hS:2 + c % 7 = S
 generalize hp:c / 7 % S = p
 generalize hb:(p + 1 + c / 61 % (S - 1)) % S = b
 obtain ⟨s0,s1,p0,p1,b0,b1,hpb⟩:=aHI hS.symm hp.symm hb.symm
 generalize hM:(if b > p then b else p) = M
 have m0:p ≤ M ∧ b ≤ M ∧ M < S:=by
  rw [← hM]
  split <;> omega
 have len:∀ k:Nat,0 ≤ (k:Int) % (S - (1 + M) + 1) ∧ (k:Int) % (S - (1 + M) + 1) < S - (1 + M) + 1:=fun k=>⟨Int.emod_nonneg _ (by omega),Int.emod_lt_of_pos _ (by omega)⟩
 let oth:Nat → Int:=fun j=>rst c j + (j:Int) * (j:Int) * 5
 refine ⟨_,(@aG _ _ _ _ _ (@aU _ _ (2) _ _ _ _ cE.nd rfl (Or.inl rfl) (@aI _ _ _ _ _ _ _ _ cF aD (@aI _ _ _ _ _ _ _ _ bN (pv 0) aD)) (by rfl) (by trivial)) (@aG _ _ _ _ _ (@aU _ _ (3) _ _ _ _ cE.nd rfl (Or.inl rfl) (@aI _ _ _ _ _ _ _ _ bN (@aI _ _ _ _ _ _ _ _ aX (pv 0) aD) (pv 2)) (by rfl) (by trivial)) (@aG _ _ _ _ _ (@aU _ _ (4) _ _ _ _ cE.nd rfl (Or.inl rfl) (@aI _ _ _ _ _ _ _ _ bN (@aI _ _ _ _ _ _ _ _ cF (@aI _ _ _ _ _ _ _ _ cF (pv 3) aD) (@aI _ _ _ _ _ _ _ _ bN (@aI _ _ _ _ _ _ _ _ aX (pv 0) aD) (@aI _ _ _ _ _ _ _ _ dU (pv 2) aD))) (pv 2)) (by rfl) (by trivial)) (@aG _ _ _ _ _ (@aU _ _ (5) _ _ _ _ cE.nd rfl (Or.inl rfl) (@aI _ _ _ _ _ _ _ _ cF aD (@aT _ _ _ _ _ _ _ _ _ (@wQ _ rfl) rfl T.n_max wS (@aA _ _ _ _ _ (pv 3) (@aA _ _ _ _ _ (pv 4) aE (by rfl)) (by rfl)) (by decide) (by decide) (by rfl) (by rfl))) (by rfl) (by trivial)) (@aG _ _ _ _ _ (@aU _ _ (6) _ _ _ _ cE.nd rfl (Or.inl rfl) (@bM _ _ _ _ aE) (by rfl) (by trivial)) (@aG _ _ _ _ _ (@eJ _ _ _ _ _ _ _ _ PassesOwn.never rfl (@kP _ _ _ _ _ _ rfl T.n_range (@aA _ _ _ _ _ (pv 1) aE (by rfl)) (by rfl)) (@aM _ _ (7) _ cE.nd rfl (Or.inl rfl) (by trivial)) (@aG _ _ _ _ _ (@aU _ _ (8) _ _ _ _ cE.nd rfl (Or.inl rfl) jN (by rfl) (by trivial)) (@aG _ _ _ _ _ (@aU _ _ (9) _ _ _ _ cE.nd rfl (Or.inl rfl) (@aI _ _ _ _ _ _ _ _ aX (pv 0) aD) (by rfl) (by trivial)) (@aG _ _ _ _ _ (@eJ _ _ _ _ _ _ _ _ PassesOwn.never rfl (@kP _ _ _ _ _ _ rfl T.n_range (@aA _ _ _ _ _ (@aI _ _ _ _ _ _ _ _ cF (pv 5) (@aI _ _ _ _ _ _ _ _ bN (pv 7) (@aI _ _ _ _ _ _ _ _ cF (@aI _ _ _ _ _ _ _ _ dU (pv 2) (pv 5)) aD))) aE (by rfl)) (by rfl)) (@aM _ _ (10) _ cE.nd rfl (Or.inl rfl) (by trivial)) (@aG _ _ _ _ _ (@aU _ _ (11) _ _ _ _ cE.nd rfl (Or.inl rfl) (@aI _ _ _ _ _ _ _ _ cF (pv 9) (@aI _ _ _ _ _ _ _ _ lK (@aI _ _ _ _ _ _ _ _ lK (pv 10) (pv 10)) aD)) (by rfl) (by trivial)) (@aG _ _ _ _ _ (@aU _ _ (9) _ _ _ _ cE.nd rfl (Or.inl rfl) (@aI _ _ _ _ _ _ _ _ aX (pv 9) aD) (by rfl) (by trivial)) (@aG _ _ _ _ _ (@cL _ _ _ _ _ _ _ _ (@bA _ _ _ _ _ _ _ _ iR (pv 10) (pv 3) (@bG _ _ (by decide) (by decide))) (@aH _ _ _ (@aU _ _ (11) _ _ _ _ cE.nd rfl (Or.inl rfl) (@aI _ _ _ _ _ _ _ _ cF (@aI _ _ _ _ _ _ _ _ aX (pv 0) aD) (pv 7)) (by rfl) (by trivial))) bI) (@aG _ _ _ _ _ (@cL _ _ _ _ _ _ _ _ (@bA _ _ _ _ _ _ _ _ iR (pv 10) (pv 4) (@bG _ _ (by decide) (by decide))) (@aH _ _ _ (@aU _ _ (11) _ _ _ _ cE.nd rfl (Or.inl rfl) (@aI _ _ _ _ _ _ _ _ cF (@aI _ _ _ _ _ _ _ _ aX (pv 0) aD) (@aI _ _ _ _ _ _ _ _ aX (pv 7) aD)) (by rfl) (by trivial))) bI) (@aH _ _ _ (@aU _ _ (8) _ _ _ _ cE.nd rfl (Or.inl rfl) (@aI _ _ _ _ _ _ _ _ aBZ (pv 8) (@aZ _ _ _ _ _ _ _ aMI jN (@aI _ _ _ _ _ _ _ _ bN (pv 11) aD) (fun _ _=>rfl))) (by rfl) (by trivial))))))) (by intro _;rfl)) (@aH _ _ _ (@hW _ _ _ _ (@pQ _ (K) _ _ _ _ _ rfl (@pS _ _ _ _ _ _ _ _ _ _ _ _ PySem.F.plainAttrs_list PySem.F.slot_list_append PySem.F.type_list_append eZ (pv 6) (@aA _ _ _ _ _ (pv 8) aE (by rfl)) (by rfl) (by rfl) (by rfl) (by rfl) (by rfl))) (by rfl)))))) (by intro _;rfl)) (@aH _ _ _ (@aS _ _ _ _ (pv 6))))))))),?_⟩
 refine ⟨_,rfl,_,_,rfl,rfl,(dY rfl),_,_,rfl,rfl,?_⟩
 dsimp only
 rw [hS]
 refine ⟨_,rfl,_,_,rfl,rfl,⟨by decide,by decide⟩,_,rfl,_,_,rfl,rfl,(by show 0 < S;omega),?_⟩
 dsimp only
 rw [hp]
 refine ⟨_,rfl,_,_,rfl,rfl,_,rfl,_,_,rfl,rfl,⟨by decide,by decide⟩,_,rfl,_,_,rfl,rfl,_,_,rfl,rfl,(by show 0 < S - 1;omega),_,_,rfl,rfl,_,rfl,_,_,rfl,rfl,(by show 0 < S;omega),?_⟩
 dsimp only
 rw [hb]
 refine ⟨_,rfl,_,rfl,_,_,rfl,_,_,rfl,rfl,?_⟩
 dsimp only
 rw [hM]
 refine ⟨aL rfl,fun l hl=>?_⟩
 refine ⟨_,rfl,_,rfl,by omega,by omega,?_⟩
 rw [Int.toNat_natCast]
 refine kX (lo:=0) (n:=n) (fun i σ H'=>∃ v7 v8 v9 v10 v11,σ = [some (.int c),some (.int n),some (.int S),some (.int p),some (.int b),some (.int (1 + M)),some (.ref l),v7,v8,v9,v10,v11] ∧
  H' = upd H l (.lst (((List.range i).map fun (k:Nat)=>nm oth c p b (1 + M + (k:Int) % (S - (1 + M) + 1)).toNat k).map V.str))) ⟨_,_,_,_,_,rfl,rfl⟩ ?_ ?_
 ·rintro k σ H' hk ⟨v7,v8,v9,v10,v11,rfl,rfl⟩
  have lk:=len k
  refine ⟨_,rfl,_,_,rfl,rfl,⟨by decide,by decide⟩,?_⟩
  refine ⟨_,rfl,_,rfl,_,rfl,_,rfl,_,_,rfl,rfl,_,_,rfl,rfl,_,_,rfl,rfl,(by show 0 < S - (1 + M) + 1;omega),_,_,rfl,rfl,_,rfl,?_,?_,?_⟩
  ·rw [Int.zero_add];omega
  ·rw [Int.zero_add];omega
  rw [Int.zero_add]
  refine kX (lo:=0) (n:=(1 + M + (k:Int) % (S - (1 + M) + 1)).toNat) (fun j σ H'=>∃ v10 v11,σ = [some (.int c),some (.int n),some (.int S),some (.int p),some (.int b),some (.int (1 + M)),some (.ref l),some (.int k),some (.str (nm oth c p b j k)),some (.int (rst c j)),v10,v11] ∧
   H' = upd H l (.lst (((List.range k).map fun (k:Nat)=>nm oth c p b (1 + M + (k:Int) % (S - (1 + M) + 1)).toNat k).map V.str))) ⟨v10,v11,by rw [aJX];rfl,rfl⟩ ?_ ?_
  ·rintro j σ H' hj ⟨v10,v11,rfl,rfl⟩
   have hj8:j < 8:=by omega
   have key:∀ m:Int,m = num oth c p b k j → atI ("abcdefghijklmnopqrtuvwxyz":Str).cps.toList (m % 25) = some (rE oth c p b k j):=fun m e=>by
    subst e
    exact aKS (Int.emod_nonneg _ (by decide)) (Int.emod_lt_of_pos _ (dY rfl))
   have fits:(nm oth c p b j k).length + (⟨#[rE oth c p b k j]⟩:Str).length ≤ sizeLine:=by
    rw [yD]
    show j + 1 ≤ _
    omega
   rw [Int.zero_add]
   refine ⟨_,rfl,_,rfl,_,rfl,_,_,rfl,rfl,.inl ⟨by omega,by omega⟩,_,_,rfl,rfl,.inr ⟨by decide,by decide⟩,_,_,rfl,rfl,?_⟩
   refine ⟨_,rfl,_,_,rfl,rfl,⟨by decide,by decide⟩,?_⟩
   refine ⟨_,rfl,_,rfl,rfl,_,rfl,?_⟩
   have ej:∀ z:Int,decide (V.int (j:Int) = V.int z) = decide ((j:Int) = z):=fun z=>by rw [gT,Bool.eq_iff_iff];simp
   rw [ej]
   refine dZ (fun h1=>?_) (fun h1=>?_)
   ·have h1':=of_decide_eq_true h1
    refine ⟨_,rfl,_,_,rfl,rfl,⟨by decide,by decide⟩,_,rfl,_,_,rfl,rfl,?_⟩
    refine ⟨_,rfl,_,rfl,rfl,_,rfl,?_⟩
    rw [ej]
    refine dZ (fun h2=>?_) (fun h2=>?_)
    ·have h2':=of_decide_eq_true h2
     omega
    ·refine ⟨_,rfl,_,rfl,_,_,rfl,rfl,(dY rfl),_,_,_,rfl,rfl,by decide,key _ ?_,_,_,rfl,rfl,fits,?_⟩
     ·unfold num
      rw [if_neg (fun z=>h2 (decide_eq_true z)),if_pos h1']
     ·exact ⟨_,_,by rw [← yC];rfl,rfl⟩
   ·refine ⟨_,rfl,_,rfl,rfl,_,rfl,?_⟩
    rw [ej]
    refine dZ (fun h2=>?_) (fun h2=>?_)
    ·have h2':=of_decide_eq_true h2
     refine ⟨_,rfl,_,_,rfl,rfl,⟨by decide,by decide⟩,_,rfl,_,_,rfl,rfl,⟨by decide,by decide⟩,_,_,rfl,rfl,?_⟩
     refine ⟨_,rfl,_,rfl,_,_,rfl,rfl,(dY rfl),_,_,_,rfl,rfl,by decide,key _ ?_,_,_,rfl,rfl,fits,?_⟩
     ·unfold num
      rw [if_pos h2']
     ·exact ⟨_,_,by rw [← yC];rfl,rfl⟩
    ·refine ⟨_,rfl,_,rfl,_,_,rfl,rfl,(dY rfl),_,_,_,rfl,rfl,by decide,key _ ?_,_,_,rfl,rfl,fits,?_⟩
     ·unfold num
      rw [if_neg (fun z=>h2 (decide_eq_true z)),if_neg (fun z=>h1 (decide_eq_true z))]
     ·exact ⟨_,_,by rw [← yC];rfl,rfl⟩
  ·rintro σ H' ⟨v10,v11,rfl,rfl⟩
   refine ⟨_,rfl,.inl ⟨rfl,_,SqL.of aB⟩,_,rfl,l,_,_,rfl,rfl,aB,by simp only [List.length_map,List.length_range];omega,?_⟩
   refine ⟨_,_,_,_,_,rfl,?_⟩
   rw [aJA,List.range_succ,List.map_append,List.map_append]
   rfl
 ·rintro σ H' ⟨v7,v8,v9,v10,v11,rfl,rfl⟩
  refine ⟨_,rfl,?_⟩
  refine q _ l (aHH (sh:=(1 + M).toNat) (len:=fun (k:Nat)=>(1 + M + (k:Int) % (S - (1 + M) + 1)).toNat) p0 (by omega) b0 (by omega) hpb (by omega) (fun k=>?_) (by omega)) hl
  have lk:=len k
  omega
structure Fds (fs:List Dv) (n:Nat):Prop where
 l1:1 ≤ fs.length
 l2:fs.length ≤ n
 all:∀ d ∈ fs,cD d = true
 nd:(fs.map aJ).Nodup
theorem aCP {d:Dv} (h:cD d = true):aAX d = true:=by
 obtain ⟨z,g,e,rfl,_⟩:=bW h
 rfl
theorem aII {z:Str} {g e:Int} (hz:eS z = true) (g0:-1000000 ≤ g) (g1:g ≤ 1000000) (e0:0 ≤ e) (e1:e ≤ 1000000):cD (.tup [.str z,.int g,.int e]) = true:=by
 show (eS z && (hgt g && amt e)) = true
 unfold hgt amt
 rw [hz,decide_eq_true g0,decide_eq_true g1,decide_eq_true e0,decide_eq_true e1]
 rfl
def vS (K:PySem.W.Frag):Sp:=sp2 fun x y H Q=>∃ n:Nat,Scr K H x ∧ y = .int n ∧ 1 ≤ n ∧ n ≤ 40 ∧ ∀ (l:Addr) (vs:List V) (fs:List Dv) (H':Hp),aK H H' → H l = none → H' l = some (.lst vs) → IsL H' fs vs → Fds fs n → Q (.ref l) H'
theorem aAO (T:Txt K mg C):Fc P w K mg base 3 "_law_fields" ["_law_script","_law_most"] (vS K):=by
 have G_l_mixed:Fc P w K mg base 2 "_law_mixed" ["_law_script","_law_k"] (xK K):=tW T
 have G_l_names:Fc P w K mg base 1 "_law_names" ["_law_cell","_law_many"] xJ:=tV T
 have G_l_height:Fc P w K mg base 1 "_law_height" ["_law_cell"] (oA (-1000000) 1000000):=rM T
 have G_l_amount:Fc P w K mg base 1 "_law_amount" ["_law_cell"] (oA 0 1000000):=rN T
 refine T.d_l_fields.fc fZ iX (fun f cdv A outer s H vs Q E hr h=>?_)
 obtain ⟨x,y,rfl,n,hS,rfl,n0,n1,q⟩:=h
 have big:=cB
 refine ⟨_,(@aG _ _ _ _ _ (@aU _ _ (2) _ _ _ _ fZ.nd rfl (Or.inl rfl) (@bU _ _ _ _ _ _ _ _ _ _ G_l_mixed (hr.mono (by decide)) (@aA _ _ _ _ _ (pv 0) (@aA _ _ _ _ _ aD aE (by rfl)) (by rfl)) (by rfl) (by decide) (by rfl) (by rfl)) (by rfl) (by trivial)) (@aG _ _ _ _ _ (@aU _ _ (3) _ _ _ _ fZ.nd rfl (Or.inl rfl) (@bU _ _ _ _ _ _ _ _ _ _ G_l_names (hr.mono (by decide)) (@aA _ _ _ _ _ (@aI _ _ _ _ _ _ _ _ aX (pv 2) aD) (@aA _ _ _ _ _ (@aI _ _ _ _ _ _ _ _ cF aD (@aI _ _ _ _ _ _ _ _ bN (pv 2) (pv 1))) aE (by rfl)) (by rfl)) (by rfl) (by decide) (by rfl) (by rfl)) (by rfl) (by trivial)) (@aG _ _ _ _ _ (@aU _ _ (4) _ _ _ _ fZ.nd rfl (Or.inl rfl) (@bM _ _ _ _ aE) (by rfl) (by trivial)) (@aG _ _ _ _ _ (@eJ _ _ _ _ _ _ _ _ PassesOwn.never rfl (@kP _ _ _ _ _ _ rfl T.n_range (@aA _ _ _ _ _ (@aT _ _ _ _ _ _ _ _ _ (@aY _ (K) rfl) rfl T.n_len bS (@aA _ _ _ _ _ (pv 3) aE (by rfl)) (by decide) (by decide) (by rfl) (by rfl)) aE (by rfl)) (by rfl)) (@aM _ _ (5) _ fZ.nd rfl (Or.inl rfl) (by trivial)) (@aG _ _ _ _ _ (@aU _ _ (2) _ _ _ _ fZ.nd rfl (Or.inl rfl) (@bU _ _ _ _ _ _ _ _ _ _ G_l_mixed (hr.mono (by decide)) (@aA _ _ _ _ _ (pv 0) (@aA _ _ _ _ _ (@aI _ _ _ _ _ _ _ _ cF aD (pv 5)) aE (by rfl)) (by rfl)) (by rfl) (by decide) (by rfl) (by rfl)) (by rfl) (by trivial)) (@aH _ _ _ (@hW _ _ _ _ (@pQ _ (K) _ _ _ _ _ rfl (@pS _ _ _ _ _ _ _ _ _ _ _ _ PySem.F.plainAttrs_list PySem.F.slot_list_append PySem.F.type_list_append eZ (pv 4) (@aA _ _ _ _ _ (@cA _ _ _ _ _ (@aA _ _ _ _ _ (@aZ _ _ _ _ _ _ _ (@bL _ (K) rfl) (pv 3) (pv 5) (fun _ _=>rfl)) (@aA _ _ _ _ _ (@bU _ _ _ _ _ _ _ _ _ _ G_l_height (hr.mono (by decide)) (@aA _ _ _ _ _ (pv 2) aE (by rfl)) (by rfl) (by decide) (by rfl) (by rfl)) (@aA _ _ _ _ _ (@bU _ _ _ _ _ _ _ _ _ _ G_l_amount (hr.mono (by decide)) (@aA _ _ _ _ _ (@aI _ _ _ _ _ _ _ _ aX (pv 2) (@aI _ _ _ _ _ _ _ _ dE aD aD)) aE (by rfl)) (by rfl) (by decide) (by rfl) (by rfl)) aE (by rfl)) (by rfl)) (by rfl))) aE (by rfl)) (by rfl) (by rfl) (by rfl) (by rfl) (by rfl))) (by rfl)))) (by intro _;rfl)) (@aH _ _ _ (@aS _ _ _ _ (pv 4))))))),?_⟩
 refine ⟨_,rfl,_,_,rfl,0,hS,rfl,by decide,fun c c0=>?_⟩
 have r0:0 ≤ c % (n:Int):=Int.emod_nonneg _ (by omega)
 have r1:c % (n:Int) < n:=Int.emod_lt_of_pos _ (by omega)
 refine ⟨_,rfl,_,_,rfl,rfl,⟨by decide,by decide⟩,_,rfl,_,rfl,_,_,rfl,rfl,(by show 0 < (n:Int);omega),_,_,rfl,rfl,?_⟩
 obtain ⟨m,hm⟩:=Int.eq_ofNat_of_zero_le (show 0 ≤ 1 + c % (n:Int) by omega)
 refine ⟨_,_,rfl,_,m,rfl,by show V.int (1 + c % (n:Int)) = _;rw [hm],by omega,fun zs pz hz hpz=>?_⟩
 have lz:=hz.len
 have S1:=aK.upd (o:=.lst (zs.map V.str)) hpz
 refine ⟨aL rfl,fun l hl=>?_⟩
 have S2:=aK.upd (o:=.lst []) hl
 have npz:pz ≠ l:=bB aB hl
 refine ⟨_,rfl,pz,_,rfl,.inl (SqL.of (S2 _ _ aB)),_,rfl,by rw [List.length_map];omega,by rw [List.length_map];omega,?_⟩
 rw [List.length_map,Int.toNat_natCast]
 have fl:H l = none:=S1.free hl
 refine kX (lo:=0) (n:=zs.length) (fun i σ H'=>∃ (v2 v5:Option V) (us:List V) (fs:List Dv),σ = [some x,some (.int n),v2,some (.ref pz),some (.ref l),v5] ∧ aK H H' ∧ H' pz = some (.lst (zs.map V.str)) ∧ H' l = some (.lst us) ∧ IsL H' fs us ∧ fs.map aJ = zs.take i ∧ (∀ d ∈ fs,cD d = true))
  ⟨_,_,[],[],rfl,S1.trans S2,S2 _ _ aB,aB,rfl,rfl,fun d m=>by cases m⟩ ?_ ?_
 ·rintro i σ H' hi ⟨v2,v5,us,fs,rfl,S,hz',hl',hi',en,af⟩
  have lf:fs.length = i:=by
   have:=congrArg List.length en
   rw [List.length_map,List.length_take] at this
   omega
  have lu:=hi'.length
  obtain ⟨z,ez⟩:∃ z,zs[i]? = some z:=⟨_,List.getElem?_eq_getElem hi⟩
  have gz:=hz.good z (List.mem_of_getElem? ez)
  refine ⟨_,rfl,_,rfl,_,_,rfl,rfl,_,_,rfl,3 + (0 + (i:Int)),hS.same S,rfl,by omega,fun c2 c20=>?_⟩
  refine ⟨_,rfl,.inl ⟨rfl,_,SqL.of hl'⟩,_,rfl,_,rfl,pz,_,0 + (i:Int),.str z,rfl,rfl,SqL.of hz',?_,?_⟩
  ·rw [Int.zero_add]
   exact aQ (by rw [List.getElem?_map,ez];rfl)
  refine ⟨_,rfl,_,rfl,c2,rfl,fun g g0 g1=>?_⟩
  refine ⟨_,rfl,_,_,rfl,rfl,⟨by decide,by decide,by decide⟩,_,_,rfl,rfl,⟨by decide,by decide⟩,_,rfl,_,rfl,fun e e0 e1=>?_⟩
  refine ⟨aL rfl,fun t ht=>?_⟩
  have S3:=aK.upd (o:=.tup [.str z,.int g,.int e]) ht
  have hl3:upd H' t (.tup [.str z,.int g,.int e]) l = some (.lst us):=S3 _ _ hl'
  have ok:cD (.tup [.str z,.int g,.int e]) = true:=aII gz g0 g1 e0 e1
  refine ⟨l,us,.ref t,rfl,rfl,hl3,by omega,?_⟩
  refine ⟨_,_,us ++ [.ref t],fs ++ [.tup [.str z,.int g,.int e]],rfl,(S.trans S3).over fl,?_,aB,?_,?_,?_⟩
  ·rw [aR npz]
   exact S3 _ _ hz'
  ·refine IsL.keep (rS.lst hl3) _ _ (kU fun d m=>aCP ?_) (IsL.snoc ?_ (IsL.same S3 _ _ hi'))
   ·rcases List.mem_append.mp m with m | m
    ·exact af d m
    ·rw [List.mem_singleton.mp m]
     exact ok
   ·exact ⟨t,_,rfl,aB,.str z,_,rfl,rfl,.int g,_,rfl,rfl,.int e,_,rfl,rfl,rfl⟩
  ·rw [List.map_append,en,List.take_add_one,ez]
   rfl
  ·intro d m
   rcases List.mem_append.mp m with m | m
   ·exact af d m
   ·rw [List.mem_singleton.mp m]
    exact ok
 ·rintro σ H' ⟨v2,v5,us,fs,rfl,S,hz',hl',hi',en,af⟩
  rw [List.take_of_length_le (Nat.le_refl _)] at en
  have lf:fs.length = zs.length:=by
   have:=congrArg List.length en
   rwa [List.length_map] at this
  refine ⟨_,rfl,q l us fs H' S fl hl' hi' ⟨by omega,by omega,af,by rw [en];exact hz.nd⟩⟩
structure Dks (zs:List Str) (ds:List Dv) (n:Nat):Prop where
 l1:1 ≤ ds.length
 l2:ds.length ≤ n
 all:∀ d ∈ ds,cZ zs d = true
 nd:(ds.map aJ).Nodup
theorem aEC {c s:Dv} (h:lQ c s = true):aAX s = true:=by
 cases s with
 | non=>rfl
 | int i=>rfl
 | _=>cases h
theorem wL {zs:List Str} {d:Dv} (h:cZ zs d = true):aAX d = true:=by
 obtain ⟨n,a,b,c,r,s,rfl,_,_,_,_,_,_,hs⟩:=cM h
 have:=aEC hs
 show (true && (true && (true && (true && (true && (aAX s && true)))))) = true
 rw [this]
 rfl
theorem aKK {zs:List Str} {n a b:Str} {c r:Int} {s:Dv} (hn:eS n = true) (ha:a ∈ zs) (hb:b ∈ zs) (hab:a ≠ b) (hc:hgt c = true) (hr:amt r = true) (hs:lQ (.int c) s = true):cZ zs (.tup [.str n,.str a,.str b,.int c,.int r,s]) = true:=by
 show (eS n && (decide (a ∈ zs) && (decide (b ∈ zs) && !(a == b))) && (hgt c && (amt r && lQ (.int c) s))) = true
 rw [hn,decide_eq_true ha,decide_eq_true hb,hc,hr,hs,beq_eq_false_iff_ne.mpr hab]
 rfl
theorem aCJ {i:Int} (h0:-1000000 ≤ i) (h1:i ≤ 1000000):hgt i = true:=by
 unfold hgt
 rw [decide_eq_true h0,decide_eq_true h1]
 rfl
theorem aMT {i:Int} (h0:0 ≤ i) (h1:i ≤ 1000000):amt i = true:=by
 unfold amt
 rw [decide_eq_true h0,decide_eq_true h1]
 rfl
theorem oE {z:Str} (h:eS z = true):z ≠ "sea":=by
 intro e
 subst e
 simp [eS] at h
theorem aGJ {fs:List Dv} {n:Nat} (h:Fds fs n):("sea" :: fs.map aJ:List Str).Nodup:=by
 rw [List.nodup_cons]
 refine ⟨fun m=>?_,h.nd⟩
 obtain ⟨d,md,e⟩:=List.mem_map.mp m
 obtain ⟨z,g,e',rfl,hz,_⟩:=bW (h.all d md)
 exact oE hz e
theorem aNV {zs:List Str} (h:zs.Nodup) {i j:Nat} {a b:Str} (ha:zs[i]? = some a) (hb:zs[j]? = some b) (hij:i ≠ j):a ≠ b:=by
 intro e
 subst e
 obtain ⟨h1,e1⟩:=List.getElem?_eq_some_iff.mp ha
 obtain ⟨h2,e2⟩:=List.getElem?_eq_some_iff.mp hb
 exact hij ((List.getElem_inj h).mp (e1.trans e2.symm))
theorem aED {c f L s r:Int} (hL:2 ≤ L) (hf0:0 ≤ f) (hf1:f < L) (hr:r = c % (L - 1)) (hs:s = (f + 1 + r) % L):0 ≤ s ∧ s < L ∧ f ≠ s:=by
 have r0:0 ≤ r:=by rw [hr];exact Int.emod_nonneg _ (by omega)
 have r1:r < L - 1:=by rw [hr];exact Int.emod_lt_of_pos _ (by omega)
 have s0:0 ≤ s:=by rw [hs];exact Int.emod_nonneg _ (by omega)
 have s1:s < L:=by rw [hs];exact Int.emod_lt_of_pos _ (by omega)
 refine ⟨s0,s1,?_⟩
 intro e
 by_cases hlt:f + 1 + r < L
 ·rw [Int.emod_eq_of_lt (by omega) hlt] at hs
  omega
 ·have e2:(f + 1 + r) % L = f + 1 + r - L:=by
   rw [← Int.sub_emod_right,Int.emod_eq_of_lt (by omega) (by omega)]
  omega
theorem at2 {a b i:Int} (h0:0 ≤ i) (h1:i < 2):∃ m:Int,atI ([.int a,.int b]:List V) i = some (.int m) ∧ (m = a ∨ m = b):=by
 obtain ⟨k,rfl⟩:=Int.eq_ofNat_of_zero_le h0
 have hk:k < 2:=by omega
 match k,hk with
 | 0,_=>exact ⟨a,aQ rfl,.inl rfl⟩
 | 1,_=>exact ⟨b,aQ rfl,.inr rfl⟩
def zU (K:PySem.W.Frag):Sp:=sp3 fun x y u H Q=>∃ (n:Nat) (a:Addr) (vs:List V) (fs:List Dv) (k:Nat),Scr K H x ∧ y = .ref a ∧ H a = some (.lst vs) ∧ IsL H fs vs ∧ Fds fs k ∧ k ≤ 100 ∧ u = .int n ∧ 1 ≤ n ∧ n ≤ 40 ∧
 ∀ (l:Addr) (us:List V) (ds:List Dv) (H':Hp),aK H H' → H l = none → H' l = some (.lst us) → IsL H' ds us → Dks ("sea" :: fs.map aJ) ds n → Q (.ref l) H'
theorem aCE (T:Txt K mg C):Fc P w K mg base 3 "_law_dykes" ["_law_script","_law_fields_here","_law_most"] (zU K):=by
 have G_l_mixed:Fc P w K mg base 2 "_law_mixed" ["_law_script","_law_k"] (xK K):=tW T
 have G_l_names:Fc P w K mg base 1 "_law_names" ["_law_cell","_law_many"] xJ:=tV T
 have G_l_height:Fc P w K mg base 1 "_law_height" ["_law_cell"] (oA (-1000000) 1000000):=rM T
 have G_l_amount:Fc P w K mg base 1 "_law_amount" ["_law_cell"] (oA 0 1000000):=rN T
 refine T.d_l_dykes.fc cY vK (fun f cdv A outer s H vs Q E hr h=>?_)
 obtain ⟨x,y,u,rfl,n,a,ws,fs,kf,hS,rfl,ha,hi,gf,hkf,rfl,n0,n1,q⟩:=h
 have big:=cB
 have lw:=hi.length
 have f1:=gf.l1
 have f2:=gf.l2
 refine ⟨_,(@aG _ _ _ _ _ (@aU _ _ (3) _ _ _ _ cY.nd rfl (Or.inl rfl) (@bU _ _ _ _ _ _ _ _ _ _ G_l_mixed (hr.mono (by decide)) (@aA _ _ _ _ _ (pv 0) (@aA _ _ _ _ _ aD aE (by rfl)) (by rfl)) (by rfl) (by decide) (by rfl) (by rfl)) (by rfl) (by trivial)) (@aG _ _ _ _ _ (@aU _ _ (4) _ _ _ _ cY.nd rfl (Or.inl rfl) (@bU _ _ _ _ _ _ _ _ _ _ G_l_names (hr.mono (by decide)) (@aA _ _ _ _ _ (@aI _ _ _ _ _ _ _ _ aX (pv 3) aD) (@aA _ _ _ _ _ (@aI _ _ _ _ _ _ _ _ cF aD (@aI _ _ _ _ _ _ _ _ bN (pv 3) (pv 2))) aE (by rfl)) (by rfl)) (by rfl) (by decide) (by rfl) (by rfl)) (by rfl) (by trivial)) (@aG _ _ _ _ _ (@aU _ _ (5) _ _ _ _ cY.nd rfl (Or.inl rfl) (@aI _ _ _ _ _ _ _ _ eR (@bM _ _ _ _ (@aA _ _ _ _ _ jN aE (by rfl))) (@bX _ _ _ _ _ _ _ _ _ _ _ ["_law_field"] 1 [] rfl (@bE _ (K) _ _ _ rfl (@bF _ _ _ _ (pv 1))) (fun R=>@aM _ _ (0) _ (show List.Nodup (["_law_field"]:List Str) by decide +kernel) rfl (Or.inl rfl) (by trivial)) (@bC _ _ (by decide)) (fun R=>cH) (fun R=>(@aZ _ _ _ _ _ _ _ (@bD _ (K) rfl) (pv 0) aD (fun _ _=>rfl))) (by rfl) (by rfl) (by rfl) (by rfl) (by rfl) (by rfl) (by rfl) (by intro _;rfl))) (by rfl) (by trivial)) (@aG _ _ _ _ _ (@aU _ _ (6) _ _ _ _ cY.nd rfl (Or.inl rfl) (@bM _ _ _ _ aE) (by rfl) (by trivial)) (@aG _ _ _ _ _ (@eJ _ _ _ _ _ _ _ _ PassesOwn.never rfl (@kP _ _ _ _ _ _ rfl T.n_range (@aA _ _ _ _ _ (@aT _ _ _ _ _ _ _ _ _ (@aY _ (K) rfl) rfl T.n_len bS (@aA _ _ _ _ _ (pv 4) aE (by rfl)) (by decide) (by decide) (by rfl) (by rfl)) aE (by rfl)) (by rfl)) (@aM _ _ (7) _ cY.nd rfl (Or.inl rfl) (by trivial)) (@aG _ _ _ _ _ (@aU _ _ (3) _ _ _ _ cY.nd rfl (Or.inl rfl) (@bU _ _ _ _ _ _ _ _ _ _ G_l_mixed (hr.mono (by decide)) (@aA _ _ _ _ _ (pv 0) (@aA _ _ _ _ _ (@aI _ _ _ _ _ _ _ _ cF aD (pv 7)) aE (by rfl)) (by rfl)) (by rfl) (by decide) (by rfl) (by rfl)) (by rfl) (by trivial)) (@aG _ _ _ _ _ (@aU _ _ (8) _ _ _ _ cY.nd rfl (Or.inl rfl) (@aI _ _ _ _ _ _ _ _ bN (pv 3) (@aT _ _ _ _ _ _ _ _ _ (@aY _ (K) rfl) rfl T.n_len bS (@aA _ _ _ _ _ (pv 5) aE (by rfl)) (by decide) (by decide) (by rfl) (by rfl))) (by rfl) (by trivial)) (@aG _ _ _ _ _ (@aU _ _ (9) _ _ _ _ cY.nd rfl (Or.inl rfl) (@aI _ _ _ _ _ _ _ _ bN (@aI _ _ _ _ _ _ _ _ cF (@aI _ _ _ _ _ _ _ _ cF (pv 8) aD) (@aI _ _ _ _ _ _ _ _ bN (@aI _ _ _ _ _ _ _ _ aX (pv 3) aD) (@aI _ _ _ _ _ _ _ _ dU (@aT _ _ _ _ _ _ _ _ _ (@aY _ (K) rfl) rfl T.n_len bS (@aA _ _ _ _ _ (pv 5) aE (by rfl)) (by decide) (by decide) (by rfl) (by rfl)) aD))) (@aT _ _ _ _ _ _ _ _ _ (@aY _ (K) rfl) rfl T.n_len bS (@aA _ _ _ _ _ (pv 5) aE (by rfl)) (by decide) (by decide) (by rfl) (by rfl))) (by rfl) (by trivial)) (@aG _ _ _ _ _ (@aU _ _ (10) _ _ _ _ cY.nd rfl (Or.inl rfl) (@bU _ _ _ _ _ _ _ _ _ _ G_l_height (hr.mono (by decide)) (@aA _ _ _ _ _ (@aI _ _ _ _ _ _ _ _ aX (pv 3) aD) aE (by rfl)) (by rfl) (by decide) (by rfl) (by rfl)) (by rfl) (by trivial)) (@aG _ _ _ _ _ (@aU _ _ (11) _ _ _ _ cY.nd rfl (Or.inl rfl) gZ (by rfl) (by trivial)) (@aG _ _ _ _ _ (@cL _ _ _ _ _ _ _ _ (@PW.pt _ _ _ (@jM _ _ _ _ _ _ _ (@bA _ _ _ _ _ _ _ _ iR (@aI _ _ _ _ _ _ _ _ bN (@aI _ _ _ _ _ _ _ _ aX (pv 3) (@aI _ _ _ _ _ _ _ _ dE aD aD)) aD) aD (@bG _ _ (by decide) (by decide))) (@lH _ _ _ _ (@bA _ _ _ _ _ _ _ _ wA (pv 10) (@aI _ _ _ _ _ _ _ _ dU aD (@aI _ _ _ _ _ _ _ _ dE aD aD)) (@bG _ _ (by decide) (by decide)))))) (@aH _ _ _ (@aU _ _ (11) _ _ _ _ cY.nd rfl (Or.inl rfl) (@aT _ _ _ _ _ _ _ _ _ (@wQ _ rfl) rfl T.n_max wS (@aA _ _ _ _ _ (@aI _ _ _ _ _ _ _ _ dU aD (@aI _ _ _ _ _ _ _ _ dE aD aD)) (@aA _ _ _ _ _ (@aI _ _ _ _ _ _ _ _ dU (@aI _ _ _ _ _ _ _ _ dU (pv 10) aD) (@aI _ _ _ _ _ _ _ _ bN (@aI _ _ _ _ _ _ _ _ aX (pv 3) (@aI _ _ _ _ _ _ _ _ dE aD aD)) (@aZ _ _ _ _ _ _ _ (@bL _ (K) rfl) (@bM _ _ _ _ (@aA _ _ _ _ _ aD (@aA _ _ _ _ _ (@aI _ _ _ _ _ _ _ _ dE aD aD) aE (by rfl)) (by rfl))) (@aI _ _ _ _ _ _ _ _ bN (@aI _ _ _ _ _ _ _ _ aX (pv 3) (@aI _ _ _ _ _ _ _ _ dE aD aD)) aD) (fun _ _=>rfl)))) aE (by rfl)) (by rfl)) (by decide) (by decide) (by rfl) (by rfl)) (by rfl) (by trivial))) bI) (@aH _ _ _ (@hW _ _ _ _ (@pQ _ (K) _ _ _ _ _ rfl (@pS _ _ _ _ _ _ _ _ _ _ _ _ PySem.F.plainAttrs_list PySem.F.slot_list_append PySem.F.type_list_append eZ (pv 6) (@aA _ _ _ _ _ (@cA _ _ _ _ _ (@aA _ _ _ _ _ (@aZ _ _ _ _ _ _ _ (@bL _ (K) rfl) (pv 4) (pv 7) (fun _ _=>rfl)) (@aA _ _ _ _ _ (@aZ _ _ _ _ _ _ _ (@bL _ (K) rfl) (pv 5) (pv 8) (fun _ _=>rfl)) (@aA _ _ _ _ _ (@aZ _ _ _ _ _ _ _ (@bL _ (K) rfl) (pv 5) (pv 9) (fun _ _=>rfl)) (@aA _ _ _ _ _ (pv 10) (@aA _ _ _ _ _ (@bU _ _ _ _ _ _ _ _ _ _ G_l_amount (hr.mono (by decide)) (@aA _ _ _ _ _ (@aI _ _ _ _ _ _ _ _ aX (pv 3) (@aI _ _ _ _ _ _ _ _ dE aD aD)) aE (by rfl)) (by rfl) (by decide) (by rfl) (by rfl)) (@aA _ _ _ _ _ (pv 11) aE (by rfl)) (by rfl)) (by rfl)) (by rfl)) (by rfl)) (by rfl))) aE (by rfl)) (by rfl) (by rfl) (by rfl) (by rfl) (by rfl))) (by rfl))))))))) (by intro _;rfl)) (@aH _ _ _ (@aS _ _ _ _ (pv 6)))))))),?_⟩
 refine ⟨_,rfl,_,_,rfl,1,hS,rfl,by decide,fun c c0=>?_⟩
 have r0:0 ≤ c % (n:Int):=Int.emod_nonneg _ (by omega)
 have r1:c % (n:Int) < n:=Int.emod_lt_of_pos _ (by omega)
 refine ⟨_,rfl,_,_,rfl,rfl,⟨by decide,by decide⟩,_,rfl,_,rfl,_,_,rfl,rfl,(by show 0 < (n:Int);omega),_,_,rfl,rfl,?_⟩
 obtain ⟨m,hm⟩:=Int.eq_ofNat_of_zero_le (show 0 ≤ 1 + c % (n:Int) by omega)
 refine ⟨_,_,rfl,_,m,rfl,by show V.int (1 + c % (n:Int)) = _;rw [hm],by omega,fun zs pz hz hpz=>?_⟩
 have lz:=hz.len
 have S1:=aK.upd (o:=.lst (zs.map V.str)) hpz
 refine ⟨aL rfl,fun p1 hp1=>?_⟩
 have S2:=aK.upd (o:=.lst [.str "sea"]) hp1
 have S12:=S1.trans S2
 refine ⟨_,rfl,a,rfl,⟨_,SqL.of (S12 _ _ ha)⟩,?_⟩
 refine bH (F:=K) (xs:=ws) (by omega) (fun i ys H'=>H' = upd (upd H pz (.lst (zs.map V.str))) p1 (.lst [.str "sea"]) ∧ ys = ((fs.take i).map aJ).map V.str) ⟨rfl,rfl⟩ ?_ ?_ ?_
 ·rintro i ys H' hi' ⟨rfl,rfl⟩
  exact ⟨SqL.of (S12 _ _ ha),by rw [List.length_map,List.length_map,List.length_take];omega⟩
 ·rintro i x ys H' K1 K2 hx' ⟨rfl,rfl⟩ k1 k2
  have hil:i < ws.length:=(List.getElem?_eq_some_iff.mp hx').1
  obtain ⟨d,ed⟩:∃ d,fs[i]? = some d:=⟨_,List.getElem?_eq_getElem (by omega)⟩
  obtain ⟨v,ev,iv⟩:=hi.get ed
  rw [hx'] at ev
  cases ev
  obtain ⟨z,g,e,rfl,_⟩:=bW (gf.all d (List.mem_of_getElem? ed))
  obtain ⟨t,rfl,o⟩:=lA iv
  refine ⟨_,rfl,t,_,0,.str z,rfl,rfl,SqT.of (S12 _ _ o),aQ (j:=0) rfl,k1 _ _ ⟨rfl,?_⟩⟩
  rw [List.take_add_one,ed]
  simp [aJ,dG]
 ·rintro ys H' ⟨rfl,rfl⟩
  intro p2 hp2
  rw [List.take_of_length_le (by omega)]
  have S3:=aK.upd (o:=.lst ((fs.map aJ).map V.str)) hp2
  refine ⟨p1,p2,_,_,rfl,rfl,S3 _ _ aB,aB,by simp only [List.length_map,List.length_cons,List.length_nil];omega,fun p3 hp3=>?_⟩
  have S4:=aK.upd (o:=.lst ([.str "sea"] ++ (fs.map aJ).map V.str)) hp3
  have S14:=S12.trans (S3.trans S4)
  have hpz4:=(S2.trans (S3.trans S4)) pz _ aB
  have hp34:upd (upd (upd (upd H pz (.lst (zs.map V.str))) p1 (.lst [.str "sea"])) p2 (.lst ((fs.map aJ).map V.str))) p3 (.lst ([.str "sea"] ++ (fs.map aJ).map V.str)) p3 = some (.lst ((("sea":Str) :: fs.map aJ).map V.str)):=aB
  generalize upd (upd (upd (upd H pz (.lst (zs.map V.str))) p1 (.lst [.str "sea"])) p2 (.lst ((fs.map aJ).map V.str))) p3 (.lst ([.str "sea"] ++ (fs.map aJ).map V.str)) = H4 at S14 hpz4 hp34
  refine ⟨aL rfl,fun l hl=>?_⟩
  have S5:=aK.upd (o:=.lst []) hl
  have fl:H l = none:=S14.free hl
  have npz:pz ≠ l:=bB hpz4 hl
  have np3:p3 ≠ l:=bB hp34 hl
  have sl:((("sea":Str) :: fs.map aJ).length) = fs.length + 1:=by simp
  have snd:=aGJ gf
  generalize hsd:("sea" :: fs.map aJ:List Str) = sd at *
  have sl2:(sd.map V.str).length = fs.length + 1:=by rw [List.length_map,sl]
  refine ⟨_,rfl,pz,_,rfl,.inl (SqL.of (S5 _ _ hpz4)),_,rfl,by rw [List.length_map];omega,by rw [List.length_map];omega,?_⟩
  rw [List.length_map,Int.toNat_natCast]
  refine kX (lo:=0) (n:=zs.length) (fun i σ H'=>∃ (v3 v7 v8 v9 v10 v11:Option V) (us:List V) (ds:List Dv),σ = [some x,some (.ref a),some (.int n),v3,some (.ref pz),some (.ref p3),some (.ref l),v7,v8,v9,v10,v11] ∧ aK H H' ∧ H' pz = some (.lst (zs.map V.str)) ∧ H' p3 = some (.lst (sd.map V.str)) ∧ H' l = some (.lst us) ∧ IsL H' ds us ∧ ds.map aJ = zs.take i ∧ (∀ d ∈ ds,cZ sd d = true))
   ⟨_,_,_,_,_,_,[],[],rfl,S14.trans S5,S5 _ _ hpz4,S5 _ _ hp34,aB,rfl,rfl,fun d m=>by cases m⟩ ?_ ?_
  ·rintro i σ H' hi2 ⟨v3,v7,v8,v9,v10,v11,us,ds,rfl,S,hz',hsd',hl',hi',en,af⟩
   have lf:ds.length = i:=by
    have:=congrArg List.length en
    rw [List.length_map,List.length_take] at this
    omega
   have lu:=hi'.length
   obtain ⟨z,ez⟩:∃ z,zs[i]? = some z:=⟨_,List.getElem?_eq_getElem hi2⟩
   have gz:=hz.good z (List.mem_of_getElem? ez)
   refine ⟨_,rfl,_,rfl,_,_,rfl,rfl,_,_,rfl,15 + (0 + (i:Int)),hS.same S,rfl,by omega,fun c2 c20=>?_⟩
   have L0:(0:Int) < ((sd.map V.str).length:Int):=by omega
   refine ⟨_,rfl,_,rfl,p3,_,rfl,.inl (SqL.of hsd'),_,_,rfl,rfl,L0,?_⟩
   have f0:0 ≤ c2 % ((sd.map V.str).length:Int):=Int.emod_nonneg _ (by omega)
   have f1':c2 % ((sd.map V.str).length:Int) < ((sd.map V.str).length:Int):=Int.emod_lt_of_pos _ L0
   refine ⟨_,rfl,_,_,rfl,rfl,_,rfl,_,_,rfl,rfl,⟨by decide,by decide⟩,_,rfl,p3,_,rfl,.inl (SqL.of hsd'),_,_,rfl,rfl,_,_,rfl,rfl,(by show 0 < ((sd.map V.str).length:Int) - 1;omega),_,_,rfl,rfl,_,rfl,p3,_,rfl,.inl (SqL.of hsd'),_,_,rfl,rfl,L0,?_⟩
   obtain ⟨se0,se1,fne⟩:=aED (c:=c2 / 13) (f:=c2 % ((sd.map V.str).length:Int)) (L:=((sd.map V.str).length:Int)) (by omega) f0 f1' rfl rfl
   obtain ⟨fj,hfj⟩:=Int.eq_ofNat_of_zero_le f0
   obtain ⟨sj,hsj⟩:=Int.eq_ofNat_of_zero_le se0
   rw [hfj] at f1'
   rw [hsj] at se1
   rw [hfj,← hfj,hsj] at fne
   obtain ⟨za,eza⟩:∃ z,sd[fj]? = some z:=⟨_,List.getElem?_eq_getElem (by omega)⟩
   obtain ⟨zb,ezb⟩:∃ z,sd[sj]? = some z:=⟨_,List.getElem?_eq_getElem (by omega)⟩
   have atA:(sd.map V.str)[fj]? = some (V.str za):=by rw [List.getElem?_map,eza];rfl
   have atB:(sd.map V.str)[sj]? = some (V.str zb):=by rw [List.getElem?_map,ezb];rfl
   have iA:atI (sd.map V.str) (c2 % ((sd.map V.str).length:Int)) = some (V.str za):=by rw [hfj];exact aQ atA
   have iB:atI (sd.map V.str) ((c2 % ((sd.map V.str).length:Int) + 1 + c2 / 13 % (((sd.map V.str).length:Int) - 1)) % ((sd.map V.str).length:Int)) = some (V.str zb):=by rw [hsj];exact aQ atB
   have zab:za ≠ zb:=aNV snd eza ezb (by omega)
   refine ⟨_,rfl,_,_,rfl,rfl,⟨by decide,by decide⟩,_,rfl,_,rfl,fun cr cr0 cr1=>?_⟩
   have fin:∀ (sv:V) (sdv:Dv) (H2:Hp),aK H H2 → H2 pz = some (.lst (zs.map V.str)) → H2 p3 = some (.lst (sd.map V.str)) → H2 l = some (.lst us) → IsL H2 ds us → (∀ H3,Is H3 sdv sv) → lQ (.int cr) sdv = true →
     ∀ (rt:Int),0 ≤ rt → rt ≤ 1000000 → ∀ t,H2 t = none → ∃ us' ds',aK H (upd (upd H2 t (.tup [.str z,.str za,.str zb,.int cr,.int rt,sv])) l (.lst us')) ∧ us' = us ++ [.ref t] ∧ upd (upd H2 t (.tup [.str z,.str za,.str zb,.int cr,.int rt,sv])) l (.lst us') pz = some (.lst (zs.map V.str)) ∧
      upd (upd H2 t (.tup [.str z,.str za,.str zb,.int cr,.int rt,sv])) l (.lst us') p3 = some (.lst (sd.map V.str)) ∧ IsL (upd (upd H2 t (.tup [.str z,.str za,.str zb,.int cr,.int rt,sv])) l (.lst us')) ds' us' ∧ ds'.map aJ = zs.take (i + 1) ∧ (∀ d ∈ ds',cZ sd d = true):=by
    intro sv sdv H2 S' hz2 hs2 hl2 hi2' his hsl rt rt0 rt1 t ht
    have S3':=aK.upd (o:=.tup [.str z,.str za,.str zb,.int cr,.int rt,sv]) ht
    have hl3:=S3' _ _ hl2
    have ok:cZ sd (.tup [.str z,.str za,.str zb,.int cr,.int rt,sdv]) = true:=aKK gz (List.mem_of_getElem? eza) (List.mem_of_getElem? ezb) zab (aCJ cr0 cr1) (aMT rt0 rt1) hsl
    refine ⟨us ++ [.ref t],ds ++ [.tup [.str z,.str za,.str zb,.int cr,.int rt,sdv]],(S'.trans S3').over fl,rfl,?_,?_,?_,?_,?_⟩
    ·rw [aR npz]
     exact S3' _ _ hz2
    ·rw [aR np3]
     exact S3' _ _ hs2
    ·refine IsL.keep (rS.lst hl3) _ _ (kU fun d m=>wL (zs:=sd) ?_) (IsL.snoc ?_ (IsL.same S3' _ _ hi2'))
     ·rcases List.mem_append.mp m with m | m
      ·exact af d m
      ·rw [List.mem_singleton.mp m]
       exact ok
     ·exact ⟨t,_,rfl,aB,.str z,_,rfl,rfl,.str za,_,rfl,rfl,.str zb,_,rfl,rfl,.int cr,_,rfl,rfl,.int rt,_,rfl,rfl,sv,_,rfl,his _,rfl⟩
    ·rw [List.map_append,en,List.take_add_one,ez]
     rfl
    ·intro d m
     rcases List.mem_append.mp m with m | m
     ·exact af d m
     ·rw [List.mem_singleton.mp m]
      exact ok
   refine ⟨_,rfl,_,_,rfl,rfl,⟨by decide,by decide,by decide⟩,_,_,rfl,rfl,⟨by decide,by decide⟩,_,_,rfl,rfl,(dY rfl),rfl,_,rfl,?_⟩
   refine dZ (fun t1=>?_) (fun t1=>?_)
   ·refine ⟨_,rfl,_,_,rfl,rfl,⟨by decide,by decide,by decide⟩,_,_,rfl,rfl,_,_,rfl,rfl,_,rfl,?_⟩
    refine dZ (fun t2=>?_) (fun t2=>?_)
    ·have t2':0 - (10:Int) ^ (6:Int).toNat < cr:=of_decide_eq_true t2
     rw [p6] at t2'
     refine ⟨_,_,rfl,rfl,⟨by decide,by decide,by decide⟩,_,_,rfl,rfl,?_⟩
     refine ⟨_,rfl,_,_,rfl,rfl,_,rfl,_,_,rfl,rfl,⟨by decide,by decide,by decide⟩,_,_,rfl,rfl,⟨by decide,by decide⟩,_,_,rfl,rfl,⟨by decide,by decide,by decide⟩,aL rfl,fun pl hpl=>?_⟩
     obtain ⟨md,emd,hmd⟩:=at2 (a:=3) (b:=10 ^ (6:Int).toNat) (i:=c2 / 10 ^ (10:Int).toNat % 2) (Int.emod_nonneg _ (by decide)) (Int.emod_lt_of_pos _ (dY rfl))
     rw [p6] at hmd
     refine ⟨_,rfl,_,_,rfl,rfl,⟨by decide,by decide,by decide⟩,_,_,rfl,rfl,⟨by decide,by decide⟩,_,_,rfl,rfl,(dY rfl),pl,_,_,.int md,rfl,rfl,SqL.of aB,emd,_,_,rfl,rfl,(by show 0 < md;omega),_,_,rfl,rfl,_,_,rfl,?_⟩
     have q0:0 ≤ c2 / 10 ^ (17:Int).toNat % md:=Int.emod_nonneg _ (by omega)
     generalize c2 / 10 ^ (17:Int).toNat % md = qq at *
     generalize hsi:(if cr - 1 - qq > 0 - (10:Int) ^ (6:Int).toNat then cr - 1 - qq else 0 - (10:Int) ^ (6:Int).toNat) = si
     rw [p6] at hsi
     have s2:-1000000 ≤ si ∧ si < cr:=by
      rw [← hsi]
      split <;> omega
     have hss:lQ (.int cr) (.int si) = true:=by
      show (hgt si && decide (si < cr)) = true
      rw [aCJ s2.1 (by omega),decide_eq_true s2.2]
      rfl
     refine ⟨_,rfl,.inl ⟨rfl,_,SqL.of ((aK.upd hpl) _ _ hl')⟩,_,rfl,_,rfl,pz,_,0 + (i:Int),.str z,rfl,rfl,SqL.of ((aK.upd hpl) _ _ hz'),(by rw [Int.zero_add];exact aQ (by rw [List.getElem?_map,ez];rfl)),?_⟩
     refine ⟨_,rfl,_,rfl,p3,_,_,.str za,rfl,rfl,SqL.of ((aK.upd hpl) _ _ hsd'),iA,_,rfl,_,rfl,p3,_,_,.str zb,rfl,rfl,SqL.of ((aK.upd hpl) _ _ hsd'),iB,_,rfl,?_⟩
     refine ⟨_,rfl,_,_,rfl,rfl,⟨by decide,by decide,by decide⟩,_,_,rfl,rfl,⟨by decide,by decide⟩,_,rfl,_,rfl,fun rt rt0 rt1=>?_⟩
     refine ⟨_,rfl,aL rfl,fun t ht=>?_⟩
     obtain ⟨us',ds',g1,rfl,g2,g3,g4,g5,g6⟩:=fin (.int si) (.int si) _ (S.trans (aK.upd hpl)) ((aK.upd hpl) _ _ hz') ((aK.upd hpl) _ _ hsd') ((aK.upd hpl) _ _ hl') (IsL.same (aK.upd hpl) _ _ hi') (fun _=>rfl) hss rt rt0 rt1 t ht
     exact ⟨l,us,.ref t,rfl,rfl,(aK.upd ht) _ _ ((aK.upd hpl) _ _ hl'),by omega,_,_,_,_,_,_,_,ds',rfl,g1,g2,g3,aB,g4,g5,g6⟩
    ·refine ⟨_,rfl,.inl ⟨rfl,_,SqL.of (hl')⟩,_,rfl,_,rfl,pz,_,0 + (i:Int),.str z,rfl,rfl,SqL.of (hz'),(by rw [Int.zero_add];exact aQ (by rw [List.getElem?_map,ez];rfl)),?_⟩
     refine ⟨_,rfl,_,rfl,p3,_,_,.str za,rfl,rfl,SqL.of (hsd'),iA,_,rfl,_,rfl,p3,_,_,.str zb,rfl,rfl,SqL.of (hsd'),iB,_,rfl,?_⟩
     refine ⟨_,rfl,_,_,rfl,rfl,⟨by decide,by decide,by decide⟩,_,_,rfl,rfl,⟨by decide,by decide⟩,_,rfl,_,rfl,fun rt rt0 rt1=>?_⟩
     refine ⟨_,rfl,aL rfl,fun t ht=>?_⟩
     obtain ⟨us',ds',g1,rfl,g2,g3,g4,g5,g6⟩:=fin .non .non _ S (hz') (hsd') (hl') hi' (fun _=>rfl) rfl rt rt0 rt1 t ht
     exact ⟨l,us,.ref t,rfl,rfl,(aK.upd ht) _ _ (hl'),by omega,_,_,_,_,_,_,_,ds',rfl,g1,g2,g3,aB,g4,g5,g6⟩
   ·refine ⟨_,rfl,.inl ⟨rfl,_,SqL.of (hl')⟩,_,rfl,_,rfl,pz,_,0 + (i:Int),.str z,rfl,rfl,SqL.of (hz'),(by rw [Int.zero_add];exact aQ (by rw [List.getElem?_map,ez];rfl)),?_⟩
    refine ⟨_,rfl,_,rfl,p3,_,_,.str za,rfl,rfl,SqL.of (hsd'),iA,_,rfl,_,rfl,p3,_,_,.str zb,rfl,rfl,SqL.of (hsd'),iB,_,rfl,?_⟩
    refine ⟨_,rfl,_,_,rfl,rfl,⟨by decide,by decide,by decide⟩,_,_,rfl,rfl,⟨by decide,by decide⟩,_,rfl,_,rfl,fun rt rt0 rt1=>?_⟩
    refine ⟨_,rfl,aL rfl,fun t ht=>?_⟩
    obtain ⟨us',ds',g1,rfl,g2,g3,g4,g5,g6⟩:=fin .non .non _ S (hz') (hsd') (hl') hi' (fun _=>rfl) rfl rt rt0 rt1 t ht
    exact ⟨l,us,.ref t,rfl,rfl,(aK.upd ht) _ _ (hl'),by omega,_,_,_,_,_,_,_,ds',rfl,g1,g2,g3,aB,g4,g5,g6⟩
  ·rintro σ H' ⟨v3,v7,v8,v9,v10,v11,us,ds,rfl,S,hz',hsd',hl',hi',en,af⟩
   rw [List.take_of_length_le (Nat.le_refl _)] at en
   have lf:ds.length = zs.length:=by
    have:=congrArg List.length en
    rwa [List.length_map] at this
   refine ⟨_,rfl,q l us ds H' S fl hl' hi' ⟨by omega,by omega,af,by rw [en];exact hz.nd⟩⟩
theorem aFB {fs:List Dv} {n:Nat} (h:Fds fs n) (hn:n ≤ 12):lE (.lst fs) = true:=(qW fs).mpr ⟨h.l1,Nat.le_trans h.l2 hn,h.all,h.nd⟩
theorem aIK {zs:List Str} {ds:List Dv} {n:Nat} (h:Dks zs ds n) (hn:n ≤ 40):nX zs (.lst ds) = true:=(qX zs ds).mpr ⟨h.l1,Nat.le_trans h.l2 hn,h.all,h.nd⟩
theorem pA {z:Str} (h:eS z = true):z.length ≤ 1000:=by
 unfold eS at h
 rw [Bool.and_eq_true,Bool.and_eq_true,Bool.and_eq_true] at h
 have:=of_decide_eq_true h.1.1.2
 omega
theorem aAZ {d:Dv} (h:cD d = true):fD d = true:=by
 obtain ⟨z,g,e,rfl,hz,_⟩:=bW h
 show (decide (3 ≤ 1000) && (decide (z.length ≤ 1000) && (true && (true && true)))) = true
 rw [decide_eq_true (pA hz)]
 rfl
theorem sS {fs:List Dv} (hf:∀ d ∈ fs,cD d = true) {a:Str} (h:a ∈ ("sea" :: fs.map aJ:List Str)):a.length ≤ 1000:=by
 rcases List.mem_cons.mp h with rfl | h
 ·decide +kernel
 ·obtain ⟨d,m,rfl⟩:=List.mem_map.mp h
  obtain ⟨z,g,e,rfl,hz,_⟩:=bW (hf d m)
  exact pA hz
theorem aCQ {fs:List Dv} (hf:∀ d ∈ fs,cD d = true) {d:Dv} (h:cZ ("sea" :: fs.map aJ) d = true):fD d = true:=by
 obtain ⟨n,a,b,c,r,s,rfl,hn,ha,hb,_,_,_,hs⟩:=cM h
 have e:fD s = true:=by
  cases s with
  | non=>rfl
  | int i=>rfl
  | _=>cases hs
 show (decide (6 ≤ 1000) && (decide (n.length ≤ 1000) && (decide (a.length ≤ 1000) && (decide (b.length ≤ 1000) && (true && (true && (fD s && true))))))) = true
 rw [decide_eq_true (pA hn),decide_eq_true (sS hf ha),decide_eq_true (sS hf hb),e]
 rfl
theorem wF {ds:List Dv} (h:∀ d ∈ ds,fD d = true) (hl:ds.length ≤ 1000):fD (.lst ds) = true:=by
 show (decide (ds.length ≤ 1000) && iM ds) = true
 rw [decide_eq_true hl,vV h]
 rfl
theorem kY {ds:List Dv} (h:∀ d ∈ ds,aO 29 d = true):aO 30 (.lst ds) = true:=by
 have:=jS h
 simpa [aO] using this
theorem jV (zs:List Str):aO 30 (.lst (zs.map Dv.str)) = true:=kY fun d m=>by
 obtain ⟨z,_,rfl⟩:=List.mem_map.mp m
 rfl
theorem aAS {d:Dv} {x y:V} {H:Hp} {Q:VK} (hx:Is H d x) (hy:Is H d y) (f:aO 30 d = true) (q:Q (.bl false) H):aJM true x y H Q:=⟨d,d,hx,hy,f,f,by rw [nO 30 d f];exact q⟩
theorem qC (xs:List V) (k:Nat):iK xs (some (k:Int)) none = xs.drop k:=by
 unfold iK
 rw [HT.sIx_nat,HT.sIx_none]
 by_cases h:k ≤ xs.length
 ·rw [Nat.min_eq_left h,List.take_of_length_le (by rw [List.length_drop];exact Nat.le_refl _)]
 ·rw [Nat.min_eq_right (by omega),Nat.sub_self,List.take_zero,List.drop_eq_nil_of_le (by omega)]
theorem nZ {H:Hp} {l:Addr} {zs:List Str} (h:H l = some (.lst (zs.map V.str))):Is H (.lst (zs.map Dv.str)) (.ref l):=⟨l,_,rfl,h,IsL.strs H zs⟩
def zV:Sp:=sp1 fun x H Q=>∃ c:Int,x = .int c ∧ ∀ m:Int,Q (.int m) H
theorem aAP (T:Txt K mg C):Fc P w K mg base 1 "_law_digits" ["_law_cell"] zV:=by
 refine T.d_l_digits.fc aAB nG (fun f cdv A outer s H vs Q E hr h=>?_)
 obtain ⟨x,rfl,c,rfl,q⟩:=h
 refine ⟨_,(@aH _ _ _ (@aS _ _ _ _ (@aI _ _ _ _ _ _ _ _ aDN (@aI _ _ _ _ _ _ _ _ cF (@aI _ _ _ _ _ _ _ _ cF (@aI _ _ _ _ _ _ _ _ bN (@aI _ _ _ _ _ _ _ _ aX (pv 0) (@aI _ _ _ _ _ _ _ _ dE aD aD)) (@aI _ _ _ _ _ _ _ _ aDN (@aI _ _ _ _ _ _ _ _ dE aD aD) (@aI _ _ _ _ _ _ _ _ dE aD aD))) (@aI _ _ _ _ _ _ _ _ bN (pv 0) (@aI _ _ _ _ _ _ _ _ dE aD aD))) aD) (@aI _ _ _ _ _ _ _ _ dE aD aD)))),?_⟩
 have b1:((10:Int) ^ (60:Int).toNat * 10 ^ (60:Int).toNat) + 10 ^ 31 < 2 ^ 600:=by decide
 have m0:(0:Int) < (10:Int) ^ (60:Int).toNat * 10 ^ (60:Int).toNat:=by decide
 have big2:((10007:Int) ^ (30:Int).toNat).natAbs < 2 ^ 600:=by decide
 have r0:0 ≤ c / 10 ^ (30:Int).toNat % (10 ^ (60:Int).toNat * 10 ^ (60:Int).toNat):=Int.emod_nonneg _ (by decide)
 have r1:c / 10 ^ (30:Int).toNat % (10 ^ (60:Int).toNat * 10 ^ (60:Int).toNat) < 10 ^ (60:Int).toNat * 10 ^ (60:Int).toNat:=Int.emod_lt_of_pos _ m0
 have t0:0 ≤ c % 10 ^ (30:Int).toNat:=Int.emod_nonneg _ (by decide)
 have t1:c % 10 ^ (30:Int).toNat < 10 ^ 30:=Int.emod_lt_of_pos _ (by decide)
 refine ⟨_,rfl,_,_,rfl,rfl,⟨by decide,by decide,by decide⟩,_,_,rfl,rfl,⟨by decide,by decide⟩,_,_,rfl,rfl,⟨by decide,by decide,by decide⟩,_,_,rfl,rfl,⟨by decide,by decide,by decide⟩,_,_,rfl,rfl,⟨by decide,by decide⟩,_,_,rfl,rfl,m0,_,rfl,_,_,rfl,rfl,⟨by decide,by decide,by decide⟩,_,_,rfl,rfl,(dY rfl),_,_,rfl,rfl,_,_,rfl,rfl,_,_,rfl,rfl,⟨by decide,by decide,by decide⟩,_,_,rfl,rfl,?_,q _⟩
 generalize c / 10 ^ (30:Int).toNat % (10 ^ (60:Int).toNat * 10 ^ (60:Int).toNat) = u at *
 generalize c % 10 ^ (30:Int).toNat = v at *
 generalize (10:Int) ^ (60:Int).toNat * 10 ^ (60:Int).toNat = mm at *
 have b600:(2:Nat) ^ 600 < 2 ^ 4096:=by decide
 refine ⟨?_,Nat.lt_trans big2 b600⟩
 refine Nat.lt_trans (m:=2 ^ 600) ?_ b600
 have e:((2:Nat) ^ 600:Int) = 2 ^ 600:=by norm_cast
 show (u + v + 1).natAbs < _
 omega
open Mt53
theorem gT (a b:Int):decide (V.int a = V.int b) = decide (a = b):=by
 by_cases h:a = b
 ·subst h;simp
 ·rw [decide_eq_false h,decide_eq_false (fun c=>h (by cases c;rfl))]
def vT:Sp:=sp2 fun x y H Q=>∃ (t:Addr) (n a b:Str) (c r h:Int) (sv:V),x = .ref t ∧ y = .int h ∧ H t = some (.tup [.str n,.str a,.str b,.int c,.int r,sv]) ∧ 0 ≤ r ∧ r ≤ 1000000 ∧ Q (.int (r * (h - c))) H
theorem vE (T:Txt K mg C):Fc P w K mg base 1 "coins_to" ["dyke","height"] vT:=by
 refine T.d_p_coins_to.fc vA iX (fun f cdv A outer s H vs Q E hr h=>?_)
 obtain ⟨x,y,rfl,t,n,a,b,c,r,h,sv,rfl,rfl,o,r0,r1,q⟩:=h
 refine ⟨_,(@aH _ _ _ (@aS _ _ _ _ (@aI _ _ _ _ _ _ _ _ lK (@aZ _ _ _ _ _ _ _ (@bD _ (K) rfl) (pv 0) aD (fun _ _=>rfl)) (@aI _ _ _ _ _ _ _ _ dU (pv 1) (@aZ _ _ _ _ _ _ _ (@bD _ (K) rfl) (pv 0) aD (fun _ _=>rfl)))))),?_⟩
 exact ⟨_,rfl,t,_,4,.int r,rfl,rfl,SqT.of o,aQ (j:=4) rfl,_,rfl,_,rfl,t,_,3,.int c,rfl,rfl,SqT.of o,aQ (j:=3) rfl,_,_,rfl,rfl,_,_,rfl,rfl,.inl ⟨by omega,by omega⟩,q⟩
open Mt22 MtF
theorem aMB {zs:List Str} {n:Int} (h1:1 ≤ zs.length) (h2:(zs.length:Int) ≤ n):aHL n (.lst (zs.map Dv.str)) = true:=by
 unfold aHL
 simp only [List.length_map]
 rw [decide_eq_true (by omega),decide_eq_true (by omega)]
 rfl
def aFY (C:Addr):Sp:=sp2 fun x y H Q=>∃ (p l:Addr) (fs ds:List Dv) (zs:List Str),x = .ref p ∧ LandAt C H p fs ds ∧ y = .ref l ∧ H l = some (.lst (zs.map V.str)) ∧ 1 ≤ zs.length ∧ zs.Nodup ∧ (∀ z ∈ zs,z ∈ fs.map aJ) ∧ ∀ H',aK H H' → Q (.bl true) H'
theorem nB (T:Txt K mg C):Fc P w K mg base 2 "are_some_fields" ["land","thing"] (aFY C):=by
 have G_land_p_field_names:Mc P w K mg base 1 C "field_names" ["self"] (iL C fun fs _=>fs.map aJ):=cO T
 have G_p_is_list_of:Fc P w K mg base 1 "is_list_of" ["thing","most"] pL:=iN T
 have G_p_is_one_of:Fc P w K mg base 1 "is_one_of" ["thing","names"] (xI K):=mZ T
 refine T.d_p_are_some_fields.fc iC iX (fun f cdv A outer s H vs Q E hr h=>?_)
 obtain ⟨x,y,rfl,p,l,fs,ds,zs,rfl,L,rfl,hl,l1,nd,sub,q⟩:=h
 have big:=cB
 have gf:=(bV L).1
 have f2:=gf.l2
 have lz:zs.length ≤ fs.length:=by
  have:=jP nd sub
  rw [List.length_map] at this
  exact this
 obtain ⟨dx,d1,d2,hx,_⟩:=L.ex
 refine ⟨_,(@aG _ _ _ _ _ (@aU _ _ (2) _ _ _ _ iC.nd rfl (Or.inr rfl) (@kR _ _ _ _ _ _ _ _ _ _ _ T.cl_Land G_land_p_field_names (hr.mono (by decide)) (pv 0) (by rfl)) (by rfl) (by trivial)) (@aG _ _ _ _ _ (@cL _ _ _ _ _ _ _ _ (@PW.pt _ _ _ (@iQ _ _ _ _ _ _ _ (@cR _ _ _ _ (@cK _ _ _ (@bU _ _ _ _ _ _ _ _ _ _ G_p_is_list_of (hr.mono (by decide)) (@aA _ _ _ _ _ (pv 1) (@aA _ _ _ _ _ (@aT _ _ _ _ _ _ _ _ _ (@aY _ (K) rfl) rfl T.n_len bS (@aA _ _ _ _ _ (pv 2) aE (by rfl)) (by decide) (by decide) (by rfl) (by rfl)) aE (by rfl)) (by rfl)) (by rfl) (by decide) (by rfl) (by rfl)) (by intro _;rfl))) (@jL _ _ _ _ (@cR _ _ _ _ (@cK _ _ _ (@aT _ _ _ _ _ _ _ _ _ (@nQ _ rfl) rfl T.n_all lD (@aA _ _ _ _ _ (@bX _ _ _ _ _ _ _ _ _ _ _ ["name","names"] 1 [2] rfl (@bE _ (K) _ _ _ rfl (@bF _ _ _ _ (pv 1))) (fun R=>@aM _ _ (0) _ (show List.Nodup (["name","names"]:List Str) by decide +kernel) rfl (Or.inl rfl) (by trivial)) (@bC _ _ (by decide)) (fun R=>cH) (fun R=>(@bU _ _ _ _ _ _ _ _ _ _ G_p_is_one_of (hr.mono (by decide)) (@aA _ _ _ _ _ (pv 0) (@aA _ _ _ _ _ (pv 1) aE (by rfl)) (by rfl)) (by rfl) (by decide) (by rfl) (by rfl))) (by rfl) (by rfl) (by rfl) (by rfl) (by rfl) (by rfl) (by rfl) (by intro _;rfl)) aE (by rfl)) (by decide) (by decide) (by rfl) (by rfl)) (by intro _;rfl)))))) (@aH _ _ _ (@aS _ _ _ _ jO)) bI) (@aH _ _ _ (@aS _ _ _ _ (@dM _ _ _ _ _ _ _ _ iR (@aT _ _ _ _ _ _ _ _ _ call_len_set rfl T.n_len bS (@aA _ _ _ _ _ (@cI _ _ _ _ _ _ _ _ _ (@oU _ rfl) rfl T.n_set wR (@aA _ _ _ _ _ (pv 1) aE (by rfl)) (by decide) (by decide) (by rfl) (by rfl)) aE (by rfl)) (by decide) (by decide) (by rfl) (by rfl)) (@aT _ _ _ _ _ _ _ _ _ (@aY _ (K) rfl) rfl T.n_len bS (@aA _ _ _ _ _ (pv 1) aE (by rfl)) (by decide) (by decide) (by rfl) (by rfl)) (@bG _ _ (by decide) (by decide))))))),?_⟩
 refine ⟨_,rfl,p,dx,_,rfl,hx,dI _ _ (by decide +kernel) (by decide +kernel),_,rfl,p,fs,ds,rfl,L,fun ln H1 S1 fln hln=>?_⟩
 have hl1:=S1 _ _ hl
 refine ⟨_,rfl,_,rfl,ln,_,rfl,.inl (SqL.of hln),_,_,rfl,.lst (zs.map Dv.str),_,nZ hl1,rfl,_,rfl,?_⟩
 rw [aMB l1 (by rw [List.length_map,List.length_map];omega)]
 refine bR ?_
 refine ⟨_,rfl,l,rfl,⟨_,SqL.of hl1⟩,?_⟩
 refine bH (F:=K) (xs:=zs.map V.str) (by rw [List.length_map];omega) (fun i ys H'=>H1 = H' ∧ ys = (zs.take i).map fun z=>V.bl true) ⟨rfl,rfl⟩ ?_ ?_ ?_
 ·rintro i ys H' hi' ⟨rfl,rfl⟩
  exact ⟨SqL.of hl1,by rw [List.length_map,List.length_take];omega⟩
 ·rintro i xv ys H' K1 K2 hx ⟨rfl,rfl⟩ k1 k2
  obtain ⟨z,ez⟩:∃ z,zs[i]? = some z:=by
   have:=(List.getElem?_eq_some_iff.mp hx).1
   rw [List.length_map] at this
   exact ⟨_,List.getElem?_eq_getElem this⟩
  rw [List.getElem?_map,ez] at hx
  cases hx
  refine ⟨_,rfl,_,rfl,_,_,rfl,.str z,ln,_,rfl,rfl,SqL.of hln,?_⟩
  rw [show rL (fs.map aJ) (.str z) = true from decide_eq_true (sub z (List.mem_of_getElem? ez))]
  refine k1 _ _ ⟨rfl,?_⟩
  rw [List.take_add_one,ez,List.map_append]
  rfl
 rintro ys H' ⟨rfl,rfl⟩
 rw [List.length_map,List.take_of_length_le (Nat.le_refl _)]
 intro p4 hp4
 have S4:=aK.upd (o:=.lst (zs.map fun z=>V.bl true)) hp4
 refine ⟨p4,zs.map fun _=>true,rfl,SqL.of ?_,_,rfl,?_⟩
 ·rw [aB,List.map_map]
  rfl
 rw [show (zs.map fun _=>true).all id = true from List.all_eq_true.mpr fun b m=>by obtain ⟨z,_,rfl⟩:=List.mem_map.mp m;rfl]
 refine bR ?_
 have hl4:=S4 _ _ hl1
 refine ⟨_,rfl,l,zs.map Sum.inr,rfl,SqL.of (by rw [hl4,aDO]),by rw [List.length_map];omega,fun p5 hp5=>?_⟩
 have hle:=aDU (zs.map (Sum.inr:Str → Key))
 rw [List.length_map] at hle
 refine ⟨p5,_,_,rfl,aB,by omega,_,rfl,l,zs.map V.str,rfl,.inl (SqL.of (by rw [aR (bB hl4 hp5)];exact hl4)),rfl,?_⟩
 have e:decide (V.int ((uN (zs.map (Sum.inr:Str → Key))).length:Int) = V.int ((zs.map V.str).length:Int)) = true:=by
  rw [gT,List.length_map,(wN _).mpr ((gA zs).mpr nd),List.length_map]
  first | exact decide_eq_true rfl | exact beq_self_eq_true _
 rw [e]
 exact q _ (S1.trans (S4.trans (aK.upd hp5)))
def zO (C:Addr):Sp:=sp3 fun x y u H Q=>∃ (p l:Addr) (fs ds:List Dv) (zs:List Str) (L:Int),x = .ref p ∧ LandAt C H p fs ds ∧ y = .ref l ∧ H l = some (.lst (zs.map V.str)) ∧ 1 ≤ zs.length ∧ zs.Nodup ∧ (∀ z ∈ zs,z ∈ fs.map aJ) ∧ u = .int L ∧ hgt L = true ∧ ∀ H',aK H H' → Q .non H'
theorem sB (T:Txt K mg C):Fc P w K mg base 3 "check_wish" ["land","fields","height"] (zO C):=by
 have G_p_are_some_fields:Fc P w K mg base 2 "are_some_fields" ["land","thing"] (aFY C):=nB T
 have G_p_is_height:Fc P w K mg base 2 "is_height" ["thing"] mJ:=gQ T
 refine T.d_p_check_wish.fc rW vK (fun f cdv A outer s H vs Q E hr h=>?_)
 obtain ⟨x,y,u,rfl,p,l,fs,ds,zs,lv,rfl,L,rfl,hl,l1,nd,sub,rfl,hL,q⟩:=h
 refine ⟨_,(@aH _ _ _ (@cL _ _ _ _ _ _ _ _ (@PW.pt _ _ _ (@iQ _ _ _ _ _ _ _ (@cR _ _ _ _ (@cK _ _ _ (@bU _ _ _ _ _ _ _ _ _ _ G_p_are_some_fields (hr.mono (by decide)) (@aA _ _ _ _ _ (pv 0) (@aA _ _ _ _ _ (pv 1) aE (by rfl)) (by rfl)) (by rfl) (by decide) (by rfl) (by rfl)) (by intro _;rfl))) (@jL _ _ _ _ (@cR _ _ _ _ (@cK _ _ _ (@bU _ _ _ _ _ _ _ _ _ _ G_p_is_height (hr.mono (by decide)) (@aA _ _ _ _ _ (pv 2) aE (by rfl)) (by rfl) (by decide) (by rfl) (by rfl)) (by intro _;rfl)))))) (@aH _ _ _ tD) bI)),?_⟩
 refine ⟨_,rfl,_,rfl,_,_,rfl,p,l,fs,ds,zs,rfl,L,rfl,hl,l1,nd,sub,fun H1 S1=>⟨_,rfl,bR ?_⟩⟩
 refine ⟨_,rfl,_,rfl,.int lv,rfl,_,rfl,?_⟩
 rw [show iJ (.int lv) = true from hL]
 exact bR (q H1 S1)
open Mt22 MtF Mt51
def aCZ:Sp:=sp1 fun x H Q=>∃ c:Int,x = .int c ∧ ∀ m:Int,hgt m = true → Q (.int m) H
theorem aCD (T:Txt K mg C):Fc P w K mg base 1 "_law_level" ["_law_cell"] aCZ:=by
 refine T.d_l_level.fcD aBV nG (fun f cdv A outer s H vs Q E hr h=>?_)
 obtain ⟨x,rfl,c,rfl,q⟩:=h
 refine ⟨_,(@aH _ _ _ (@aS _ _ _ _ (@aZ _ _ _ _ _ _ _ (@bL _ (K) rfl) (@bM _ _ _ _ (@aA _ _ _ _ _ (@aI _ _ _ _ _ _ _ _ dU (@aI _ _ _ _ _ _ _ _ bN (@aI _ _ _ _ _ _ _ _ aX (pv 0) aD) aD) aD) (@aA _ _ _ _ _ (@aI _ _ _ _ _ _ _ _ dU (@aI _ _ _ _ _ _ _ _ bN (@aI _ _ _ _ _ _ _ _ aX (pv 0) aD) aD) aD) (@aA _ _ _ _ _ (@aI _ _ _ _ _ _ _ _ dU (@aI _ _ _ _ _ _ _ _ bN (@aI _ _ _ _ _ _ _ _ aX (pv 0) aD) aD) (@aI _ _ _ _ _ _ _ _ dE aD aD)) (@aA _ _ _ _ _ (@aI _ _ _ _ _ _ _ _ dU (@aI _ _ _ _ _ _ _ _ dE aD aD) (@aI _ _ _ _ _ _ _ _ bN (@aI _ _ _ _ _ _ _ _ aX (pv 0) aD) aD)) aE (by rfl)) (by rfl)) (by rfl)) (by rfl))) (@aI _ _ _ _ _ _ _ _ bN (pv 0) aD) (fun _ _=>rfl)))),?_⟩
 refine ⟨_,rfl,_,_,rfl,rfl,⟨by decide,by decide⟩,_,_,rfl,rfl,(dY rfl),_,_,rfl,rfl,_,rfl,_,_,rfl,rfl,⟨by decide,by decide⟩,_,_,rfl,rfl,(dY rfl),_,_,rfl,rfl,_,rfl,_,_,rfl,rfl,⟨by decide,by decide⟩,_,_,rfl,rfl,(dY rfl),_,_,rfl,rfl,⟨by decide,by decide,by decide⟩,_,_,rfl,rfl,_,_,rfl,rfl,⟨by decide,by decide,by decide⟩,_,rfl,_,_,rfl,rfl,⟨by decide,by decide⟩,_,_,rfl,rfl,(dY rfl),_,_,rfl,rfl,aL rfl,fun p hp=>?_⟩
 obtain ⟨m,em,hm⟩:=at4 (a:=c / 4 % 11 - 3) (b:=c / 4 % 11 - 2) (c:=c / 4 % 2000001 - 10 ^ (6:Int).toNat) (d:=10 ^ (6:Int).toNat - c / 4 % 2) (i:=c % 4) (Int.emod_nonneg _ (by decide)) (Int.emod_lt_of_pos _ (dY rfl))
 refine ⟨_,rfl,_,_,rfl,rfl,(dY rfl),p,_,_,.int m,rfl,rfl,SqL.of aB,em,dJ.of (gU.lst hp) (q m (aCJ ?_ ?_))⟩
 ·rw [p6] at hm;omega
 ·rw [p6] at hm;omega
def aFX (C:Addr) (K:PySem.W.Frag):Sp:=sp2 fun x y H Q=>∃ (p:Addr) (fs ds:List Dv) (n:Int),x = .ref p ∧ LandAt C H p fs ds ∧ y = .int n ∧
 ∀ (l:Addr) (zs:List Str) (H':Hp),aK H H' → H l = none → H' l = some (.lst (zs.map V.str)) → 1 ≤ zs.length → zs.length ≤ 4 → zs.Nodup → (∀ z ∈ zs,z ∈ fs.map aJ) → Q (.ref l) H'
theorem aEM (T:Txt K mg C):Fc P w K mg base 2 "_law_wish" ["_law_land_here","_law_number"] (aFX C K):=by
 have G_land_p_field_names:Mc P w K mg base 1 C "field_names" ["self"] (iL C fun fs _=>fs.map aJ):=cO T
 refine T.d_l_wish.fc gY iX (fun f cdv A outer s H vs Q E hr h=>?_)
 obtain ⟨x,y,rfl,p,fs,ds,num,rfl,L,rfl,q⟩:=h
 have big:=cB
 have gf:=(bV L).1
 have f1:=gf.l1
 have f2:=gf.l2
 obtain ⟨dx,d1,d2,hx,_⟩:=L.ex
 refine ⟨_,(@aG _ _ _ _ _ (@aU _ _ (2) _ _ _ _ gY.nd rfl (Or.inl rfl) (@kR _ _ _ _ _ _ _ _ _ _ _ T.cl_Land G_land_p_field_names (hr.mono (by decide)) (pv 0) (by rfl)) (by rfl) (by trivial)) (@aG _ _ _ _ _ (@aU _ _ (3) _ _ _ _ gY.nd rfl (Or.inl rfl) (@bM _ _ _ _ aE) (by rfl) (by trivial)) (@aG _ _ _ _ _ (@aU _ _ (4) _ _ _ _ gY.nd rfl (Or.inl rfl) (@aI _ _ _ _ _ _ _ _ cF aD (@aI _ _ _ _ _ _ _ _ bN (pv 1) aD)) (by rfl) (by trivial)) (@aG _ _ _ _ _ (@aU _ _ (1) _ _ _ _ gY.nd rfl (Or.inl rfl) (@aI _ _ _ _ _ _ _ _ aX (pv 1) aD) (by rfl) (by trivial)) (@aG _ _ _ _ _ (@eJ _ _ _ _ _ _ _ _ PassesOwn.never rfl (@kP _ _ _ _ _ _ rfl T.n_range (@aA _ _ _ _ _ (pv 4) aE (by rfl)) (by rfl)) (@aM _ _ (5) _ gY.nd rfl (Or.inl rfl) (by trivial)) (@aG _ _ _ _ _ (@cL _ _ _ _ _ _ _ _ (@bA _ _ _ _ _ _ _ _ (@hX _ (K) rfl) (@aZ _ _ _ _ _ _ _ (@bL _ (K) rfl) (pv 2) (@aI _ _ _ _ _ _ _ _ bN (pv 1) (@aT _ _ _ _ _ _ _ _ _ (@aY _ (K) rfl) rfl T.n_len bS (@aA _ _ _ _ _ (pv 2) aE (by rfl)) (by decide) (by decide) (by rfl) (by rfl))) (fun _ _=>rfl)) (pv 3) (by with_unfolding_all rfl)) (@aH _ _ _ (@hW _ _ _ _ (@pQ _ (K) _ _ _ _ _ rfl (@pS _ _ _ _ _ _ _ _ _ _ _ _ PySem.F.plainAttrs_list PySem.F.slot_list_append PySem.F.type_list_append eZ (pv 3) (@aA _ _ _ _ _ (@aZ _ _ _ _ _ _ _ (@bL _ (K) rfl) (pv 2) (@aI _ _ _ _ _ _ _ _ bN (pv 1) (@aT _ _ _ _ _ _ _ _ _ (@aY _ (K) rfl) rfl T.n_len bS (@aA _ _ _ _ _ (pv 2) aE (by rfl)) (by decide) (by decide) (by rfl) (by rfl))) (fun _ _=>rfl)) aE (by rfl)) (by rfl) (by rfl) (by rfl) (by rfl) (by rfl))) (by rfl))) bI) (@aH _ _ _ (@aU _ _ (1) _ _ _ _ gY.nd rfl (Or.inl rfl) (@aI _ _ _ _ _ _ _ _ aX (pv 1) (@aT _ _ _ _ _ _ _ _ _ (@aY _ (K) rfl) rfl T.n_len bS (@aA _ _ _ _ _ (pv 2) aE (by rfl)) (by decide) (by decide) (by rfl) (by rfl))) (by rfl) (by trivial)))) (by intro _;rfl)) (@aH _ _ _ (@aS _ _ _ _ (pv 3)))))))),?_⟩
 refine ⟨_,rfl,p,dx,_,rfl,hx,dI _ _ (by decide +kernel) (by decide +kernel),_,rfl,p,fs,ds,rfl,L,fun ln H1 S1 fln hln=>?_⟩
 have lsn:((fs.map aJ).map V.str).length = fs.length:=by rw [List.length_map,List.length_map]
 have dv0:(0:Int) < (((fs.map aJ).map V.str).length:Nat):=by omega
 have dv1:((((fs.map aJ).map V.str).length:Nat):Int).natAbs.log2 < 9000:=by
  have hb:(((((fs.map aJ).map V.str).length:Nat):Int)).natAbs < 2 ^ 60:=by omega
  exact Nat.lt_trans ((Nat.log2_lt (by omega)).mpr hb) (by decide)
 refine ⟨aL rfl,fun l hl=>?_⟩
 have S2:=aK.upd (o:=.lst []) hl
 have nl:l ≠ ln:=fun e=>by rw [e,hln] at hl;cases hl
 have n0:0 ≤ num % 4:=Int.emod_nonneg _ (by decide)
 have n1:num % 4 < 4:=Int.emod_lt_of_pos _ (by decide)
 refine ⟨_,rfl,_,_,rfl,rfl,(dY rfl),_,_,rfl,rfl,?_⟩
 refine ⟨_,rfl,_,_,rfl,rfl,⟨by decide,by decide⟩,?_⟩
 refine ⟨_,rfl,_,rfl,by omega,by omega,?_⟩
 refine kX (lo:=0) (n:=(1 + num % 4).toNat) (fun i σ H'=>∃ (n:Int) (v4 v5:Option V) (zs:List Str),σ = [some (.ref p),some (.int n),some (.ref ln),some (.ref l),v4,v5] ∧ aK H H' ∧ H' ln = some (.lst ((fs.map aJ).map V.str)) ∧ H' l = some (.lst (zs.map V.str)) ∧ zs.length ≤ i ∧ (0 < i → 1 ≤ zs.length) ∧ zs.Nodup ∧ (∀ z ∈ zs,z ∈ fs.map aJ))
  ⟨_,_,_,[],rfl,S1.trans S2,S2 _ _ hln,aB,Nat.le_refl _,(fun h=>absurd h (by omega)),by simp,(fun z m=>by cases m)⟩ ?_ ?_
 ·rintro i σ H3 hi ⟨n,v4,v5,zs,rfl,S3,hln3,hl3,lz,lz1,nd,sub⟩
  have k0:0 ≤ n % ((((fs.map aJ).map V.str).length:Nat):Int):=Int.emod_nonneg _ (by omega)
  have k1:n % ((((fs.map aJ).map V.str).length:Nat):Int) < (((fs.map aJ).map V.str).length:Nat):=Int.emod_lt_of_pos _ dv0
  obtain ⟨j,hj⟩:=Int.eq_ofNat_of_zero_le k0
  obtain ⟨z,ez⟩:∃ z,(fs.map aJ)[j]? = some z:=⟨_,List.getElem?_eq_getElem (by rw [List.length_map];omega)⟩
  have ezv:((fs.map aJ).map V.str)[j]? = some (V.str z):=by rw [List.getElem?_map,ez];rfl
  have mz:=List.mem_of_getElem? ez
  refine ⟨_,rfl,_,rfl,_,rfl,ln,_,rfl,.inl (SqL.of hln3),_,_,rfl,rfl,dv0,ln,_,_,.str z,rfl,rfl,SqL.of hln3,(by rw [hj];exact aQ ezv),_,rfl,l,_,rfl,.inl (SqL.of hl3),rfl,gB zs,_,rfl,?_⟩
  rw [if_pos rfl,lR]
  refine dZ (fun fr=>?_) (fun fr=>?_)
  ·have fresh:¬ z ∈ zs:=by
    intro m
    rw [decide_eq_true m] at fr
    cases fr
   refine ⟨_,rfl,.inl ⟨rfl,_,SqL.of hl3⟩,_,rfl,_,rfl,_,rfl,ln,_,rfl,.inl (SqL.of hln3),_,_,rfl,rfl,dv0,ln,_,_,.str z,rfl,rfl,SqL.of hln3,(by rw [hj];exact aQ ezv),l,zs.map V.str,.str z,rfl,rfl,hl3,by rw [List.length_map];omega,?_⟩
   have e5:zs.map V.str ++ [V.str z] = (zs ++ [z]).map V.str:=by rw [List.map_append];rfl
   rw [e5]
   have hln5:upd H3 l (.lst ((zs ++ [z]).map V.str)) ln = some (.lst ((fs.map aJ).map V.str)):=by rw [aR (Ne.symm nl)];exact hln3
   refine ⟨_,rfl,_,rfl,ln,_,rfl,.inl (SqL.of hln5),_,_,rfl,rfl,⟨dv0,dv1⟩,?_⟩
   refine ⟨_,_,_,zs ++ [z],rfl,S3.over (S1.free hl),hln5,aB,by rw [List.length_append];show _ + 1 ≤ _;omega,fun _=>by rw [List.length_append];show 1 ≤ _ + 1;omega,?_,fun y m=>?_⟩
   ·rw [List.nodup_append]
    refine ⟨nd,by simp,fun x hx y hy=>?_⟩
    rw [List.mem_singleton.mp hy]
    exact fun e=>fresh (e ▸ hx)
   ·rcases List.mem_append.mp m with m | m
    ·exact sub y m
    ·rw [List.mem_singleton.mp m];exact mz
  ·have old:z ∈ zs:=by
    by_cases h:z ∈ zs
    ·exact h
    ·rw [decide_eq_false h] at fr
     exact absurd rfl fr
   refine ⟨_,rfl,_,rfl,ln,_,rfl,.inl (SqL.of hln3),_,_,rfl,rfl,⟨dv0,dv1⟩,?_⟩
   exact ⟨_,_,_,zs,rfl,S3,hln3,hl3,by omega,fun _=>List.length_pos_of_mem old,nd,sub⟩
 ·rintro σ H3 ⟨n,v4,v5,zs,rfl,S3,hln3,hl3,lz,lz1,nd,sub⟩
  exact ⟨_,rfl,q l zs H3 S3 (S1.free hl) hl3 (lz1 (by omega)) (by omega) nd sub⟩
def aDB (C:Addr) (K:PySem.W.Frag):Sp:=sp3 fun x y u H Q=>Scr K H x ∧ y = .int 12 ∧ u = .int 40 ∧ ∀ (p:Addr) (fs ds:List Dv) (H':Hp),aK H H' → LandAt C H' p fs ds → Q (.ref p) H'
theorem aEP (T:Txt K mg C):Fc P w K mg base 8 "_law_land" ["_law_script","_law_most","_law_many"] (aDB C K):=by
 have G_l_fields:Fc P w K mg base 3 "_law_fields" ["_law_script","_law_most"] (vS K):=aAO T
 have G_l_dykes:Fc P w K mg base 3 "_law_dykes" ["_law_script","_law_fields_here","_law_most"] (zU K):=aCE T
 have G_land_pinit:Ic P w K mg base 6 C ["self","fields","dykes"] (aGC C):=vF T
 refine T.d_l_land.fc vW vK (fun f cdv A outer s H vs Q E hr h=>?_)
 obtain ⟨x,y,u,rfl,scr,rfl,rfl,q⟩:=h
 have hu:=gR hr
 refine ⟨_,(@aG _ _ _ _ _ (@aU _ _ (3) _ _ _ _ vW.nd rfl (Or.inl rfl) (@bU _ _ _ _ _ _ _ _ _ _ G_l_fields (hr.mono (by decide)) (@aA _ _ _ _ _ (pv 0) (@aA _ _ _ _ _ (pv 1) aE (by rfl)) (by rfl)) (by rfl) (by decide) (by rfl) (by rfl)) (by rfl) (by trivial)) (@aH _ _ _ (@aS _ _ _ _ (@aNS _ _ _ _ _ _ _ _ _ _ _ T.mg_Land G_land_pinit (hr.mono (by decide)) (@aA _ _ _ _ _ (pv 3) (@aA _ _ _ _ _ (@bU _ _ _ _ _ _ _ _ _ _ G_l_dykes (hr.mono (by decide)) (@aA _ _ _ _ _ (pv 0) (@aA _ _ _ _ _ (pv 3) (@aA _ _ _ _ _ (pv 2) aE (by rfl)) (by rfl)) (by rfl)) (by rfl) (by decide) (by rfl) (by rfl)) aE (by rfl)) (by rfl)) (by rfl) (by decide) (by rfl) (by rfl))))),?_⟩
 refine ⟨_,rfl,_,rfl,_,_,rfl,12,scr,rfl,by decide,by decide,fun lf vf fs H1 S1 fl1 hf0 hif0 gf=>?_⟩
 refine ⟨_,rfl,_,rfl,_,rfl,_,rfl,_,_,_,rfl,40,lf,vf,fs,12,scr.same S1,rfl,hf0,hif0,gf,by decide,rfl,by decide,by decide,fun ld vd ds H2 S2 fl2 hd hid gd=>?_⟩
 intro p dx np ndx nex
 have S3':aK H2 (upd (upd H2 dx (.own p)) p (.ins C dx [])):=fun b o e=>by
  rw [aR (bB e np),aR (bB e ndx)]
  exact e
 have hf:=S2 _ _ hf0
 have hif:=IsL.same S2 _ _ hif0
 have f2:=gf.l2
 have d2:=gd.l2
 have smf:fD (.lst fs) = true:=wF (fun d m=>aAZ (gf.all d m)) (by omega)
 have smd:fD (.lst ds) = true:=wF (fun d m=>aCQ gf.all (gd.all d m)) (by omega)
 refine ⟨_,_,_,rfl,p,dx,fs,ds,rfl,aB,⟨lf,vf,rfl,S3' _ _ hf,IsL.same S3' _ _ hif⟩,⟨ld,vd,rfl,S3' _ _ hd,IsL.same S3' _ _ hid⟩,smf,smd,aFB gf (by decide),aIK gd (by decide),fun H3 L fr=>⟨rfl,?_⟩⟩
 exact q p fs ds H3 (S1.trans (S2.trans fun b o e=>fr b o (S3' _ _ e) (bB e np))) L
theorem aIA (g:Gp):aAX (eA g) = true:=rfl
def aDC (C:Addr):Sp:=sp2 fun x y H Q=>∃ (p:Addr) (fs ds:List Dv) (L:Int),x = .ref p ∧ LandAt C H p fs ds ∧ y = .int L ∧
 ∀ (l:Addr) (us:List V) (H':Hp),aK H H' → H l = none → H' l = some (.lst us) → IsL H' ((gapsD fs ds L).map eA) us → Q (.ref l) H'
theorem aEQ (T:Txt K mg C):Fc P w K mg base 2 "_law_gaps" ["_law_land_here","_law_height_here"] (aDC C):=by
 have G_land_p_dykes:Mc P w K mg base 1 C "dykes" ["self"] (qE C fun _ ds=>ds):=mC T
 have G_land_p_fields:Mc P w K mg base 1 C "fields" ["self"] (qE C fun fs _=>fs):=qP T
 refine T.d_l_gaps.fc eW iX (fun f cdv A outer s H vs Q E hr h=>?_)
 obtain ⟨x,y,rfl,p,fs,ds,lv,rfl,L,rfl,q⟩:=h
 have big:=cB
 have gf:=(bV L).1
 have gd:=(bV L).2
 have d2:=gd.l2
 have f2:=gf.l2
 refine ⟨_,(@aG _ _ _ _ _ (@aU _ _ (2) _ _ _ _ eW.nd rfl (Or.inl rfl) (@aI _ _ _ _ _ _ _ _ eR (@bM _ _ _ _ (@aA _ _ _ _ _ jN aE (by rfl))) (@bX _ _ _ _ _ _ _ _ _ _ _ ["_law_name","_law_bottom","_law_many","_law_height_here"] 3 [1] rfl (@bE _ (K) _ _ _ rfl (@bF _ _ _ _ (@kR _ _ _ _ _ _ _ _ _ _ _ T.cl_Land G_land_p_fields (hr.mono (by decide)) (pv 0) (by rfl)))) (fun R=>@sH _ _ _ _ _ (3) (K) rfl rfl (@aW _ _ _ _ _ (@aM _ _ (0) _ (show List.Nodup (["_law_name","_law_bottom","_law_many","_law_height_here"]:List Str) by decide +kernel) rfl (Or.inl rfl) (by trivial)) (@aW _ _ _ _ _ (@aM _ _ (1) _ (show List.Nodup (["_law_name","_law_bottom","_law_many","_law_height_here"]:List Str) by decide +kernel) rfl (Or.inl rfl) (by trivial)) (@aW _ _ _ _ _ (@aM _ _ (2) _ (show List.Nodup (["_law_name","_law_bottom","_law_many","_law_height_here"]:List Str) by decide +kernel) rfl (Or.inl rfl) (by trivial)) eY (by rfl)) (by rfl)) (by rfl)) (by rfl) (by rfl)) (@oI _ _ _ _ (@cT _ _ _ (by decide) (@cT _ _ _ (by decide) (@cT _ _ _ (by decide) lU)))) (fun R=>@fU _ _ _ (@bA _ _ _ _ _ _ _ _ mY (pv 1) (pv 3) (@bG _ _ (by decide) (by decide)))) (fun R=>(pv 0)) (by rfl) (by rfl) (by rfl) (by rfl) (by rfl) (by rfl) (by rfl) (by intro _;rfl))) (by rfl) (by trivial)) (@aG _ _ _ _ _ (@aU _ _ (3) _ _ _ _ eW.nd rfl (Or.inl rfl) (@bM _ _ _ _ aE) (by rfl) (by trivial)) (@aG _ _ _ _ _ (@eJ _ _ _ _ _ _ _ _ PassesOwn.never rfl (@bE _ (K) _ _ _ rfl (@bF _ _ _ _ (@kR _ _ _ _ _ _ _ _ _ _ _ T.cl_Land G_land_p_dykes (hr.mono (by decide)) (pv 0) (by rfl)))) (@lI _ (K) _ _ _ _ _ rfl 6 rfl (@jZ _ _ _ _ _ _ rfl (@aW _ _ _ _ _ (@aM _ _ (4) _ eW.nd rfl (Or.inl rfl) (by trivial)) (@aW _ _ _ _ _ (@aM _ _ (5) _ eW.nd rfl (Or.inl rfl) (by trivial)) (@aW _ _ _ _ _ (@aM _ _ (6) _ eW.nd rfl (Or.inl rfl) (by trivial)) (@aW _ _ _ _ _ (@aM _ _ (7) _ eW.nd rfl (Or.inl rfl) (by trivial)) (@aW _ _ _ _ _ (@aM _ _ (8) _ eW.nd rfl (Or.inl rfl) (by trivial)) (@aW _ _ _ _ _ (@aM _ _ (9) _ eW.nd rfl (Or.inl rfl) (by trivial)) eY (by rfl)) (by rfl)) (by rfl)) (by rfl)) (by rfl)) (by rfl)) (by rfl) (by rfl))) (@aH _ _ _ (@cL _ _ _ _ _ _ _ _ (@PW.pt _ _ _ (@jM _ _ _ _ _ _ _ (@bA _ _ _ _ _ _ _ _ mY (pv 7) (pv 1) (@bG _ _ (by decide) (by decide))) (@jM _ _ _ _ _ _ _ (@bA _ _ _ _ _ _ _ _ (@lL _ (K) rfl) (pv 5) (pv 2) (by with_unfolding_all rfl)) (@lH _ _ _ _ (@bA _ _ _ _ _ _ _ _ (@lL _ (K) rfl) (pv 6) (pv 2) (by with_unfolding_all rfl)))))) (@aH _ _ _ (@hW _ _ _ _ (@pQ _ (K) _ _ _ _ _ rfl (@pS _ _ _ _ _ _ _ _ _ _ _ _ PySem.F.plainAttrs_list PySem.F.slot_list_append PySem.F.type_list_append eZ (pv 3) (@aA _ _ _ _ _ (@cA _ _ _ _ _ (@aA _ _ _ _ _ (pv 4) (@aA _ _ _ _ _ (pv 5) (@aA _ _ _ _ _ (pv 6) (@aA _ _ _ _ _ (@aI _ _ _ _ _ _ _ _ lK (pv 8) (@aI _ _ _ _ _ _ _ _ dU (pv 1) (pv 7))) aE (by rfl)) (by rfl)) (by rfl)) (by rfl))) aE (by rfl)) (by rfl) (by rfl) (by rfl) (by rfl) (by rfl))) (by rfl))) bI)) (by intro _;rfl)) (@aH _ _ _ (@aS _ _ _ _ (pv 3)))))),?_⟩
 refine ⟨aL rfl,fun q1 hq1=>?_⟩
 have S1:=aK.upd (o:=.lst [.str "sea"]) hq1
 have hq1':upd H q1 (.lst [.str "sea"]) q1 = some (.lst [.str "sea"]):=aB
 generalize upd H q1 (.lst [.str "sea"]) = H1 at S1 hq1'
 have L1:=L.same S1
 obtain ⟨dx,d1,d2',hx,_⟩:=L1.ex
 refine ⟨_,rfl,p,dx,_,rfl,hx,dI _ _ (by decide +kernel) (by decide +kernel),_,rfl,p,fs,ds,rfl,L1,fun lf vf H2 S2 flf hlf hif=>?_⟩
 have lvf:vf.length = fs.length:=hif.length
 refine ⟨lf,rfl,⟨_,SqL.of hlf⟩,?_⟩
 refine bH (F:=K) (xs:=vf) (by omega) (fun i ys H'=>H2 = H' ∧ ys = (((fs.take i).filter fun d=>decide (eD d < lv)).map aJ).map V.str ∧ ys.length ≤ i) ⟨rfl,rfl,Nat.le_refl _⟩ ?_ ?_ ?_
 ·rintro i ys H' hi' ⟨rfl,rfl,l⟩
  exact ⟨SqL.of hlf,l⟩
 ·rintro i xv ys H' K1 K2 hx' ⟨rfl,rfl,ll⟩ k1 k2
  have hil:i < vf.length:=(List.getElem?_eq_some_iff.mp hx').1
  obtain ⟨d,ed⟩:∃ d,fs[i]? = some d:=⟨_,List.getElem?_eq_getElem (by omega)⟩
  obtain ⟨v,ev,iv⟩:=(show IsL H2 fs vf from hif).get ed
  rw [hx'] at ev
  cases ev
  obtain ⟨z,g,e,rfl,_⟩:=bW (gf.all d (List.mem_of_getElem? ed))
  obtain ⟨t,rfl,o⟩:=lA iv
  refine ⟨t,_,rfl,SqT.of o,rfl,_,_,rfl,_,_,rfl,_,_,rfl,rfl,?_⟩
  refine ⟨_,rfl,_,rfl,_,_,rfl,rfl,_,rfl,?_⟩
  have ell:(((fs.take i).filter fun d=>decide (eD d < lv)).map aJ).map V.str = (((fs.take i).filter fun d=>decide (eD d < lv)).map aJ).map V.str:=rfl
  refine dZ (fun h1=>?_) (fun h1=>?_)
  ·refine ⟨_,rfl,k1 _ _ ⟨rfl,?_,by rw [List.length_append];show _ + 1 ≤ _;omega⟩⟩
   rw [List.take_add_one,ed,List.filter_append]
   show _ = (((_ ++ [Dv.tup [.str z,.int g,.int e]].filter _).map aJ).map V.str)
   rw [List.filter_cons_of_pos (p:=fun d=>decide (eD d < lv)) (a:=.tup [.str z,.int g,.int e]) h1,List.filter_nil,List.map_append,List.map_append]
   rfl
  ·refine k2 _ ⟨rfl,?_,by omega⟩
   rw [List.take_add_one,ed,List.filter_append]
   show _ = (((_ ++ [Dv.tup [.str z,.int g,.int e]].filter _).map aJ).map V.str)
   rw [List.filter_cons_of_neg (p:=fun d=>decide (eD d < lv)) (a:=.tup [.str z,.int g,.int e]) h1,List.filter_nil,List.append_nil]
 rintro ys H' ⟨rfl,rfl,ll⟩
 rw [List.take_of_length_le (by omega)] at *
 intro p1 hp1
 have S3:=aK.upd (o:=.lst (((fs.filter fun d=>decide (eD d < lv)).map aJ).map V.str)) hp1
 refine ⟨q1,p1,_,_,rfl,rfl,(S2.trans S3) _ _ hq1',aB,by simp only [List.length_singleton];omega,fun lo hlo=>?_⟩
 have S4:=aK.upd (o:=.lst ([V.str "sea"] ++ ((fs.filter fun d=>decide (eD d < lv)).map aJ).map V.str)) hlo
 have hlo4:upd (upd H2 p1 (.lst (((fs.filter fun d=>decide (eD d < lv)).map aJ).map V.str))) lo (.lst ([V.str "sea"] ++ ((fs.filter fun d=>decide (eD d < lv)).map aJ).map V.str)) lo = some (.lst ((lowS fs lv).map V.str)):=aB
 have T4:=S1.trans (S2.trans (S3.trans S4))
 generalize upd (upd H2 p1 (.lst (((fs.filter fun d=>decide (eD d < lv)).map aJ).map V.str))) lo (.lst ([V.str "sea"] ++ ((fs.filter fun d=>decide (eD d < lv)).map aJ).map V.str)) = H4 at hlo4 T4
 refine ⟨aL rfl,fun l hl=>?_⟩
 have S5:=aK.upd (o:=.lst []) hl
 have hl5:upd H4 l (.lst []) l = some (.lst []):=aB
 have nlo:l ≠ lo:=fun e=>by rw [e,hlo4] at hl;cases hl
 have hlo5:=S5 _ _ hlo4
 have T5:=T4.trans S5
 have hl0:=T4.free hl
 generalize upd H4 l (.lst []) = H5 at S5 hl5 hlo5 T5
 have L5:=L.same T5
 obtain ⟨dx5,x1,x2,hx5,_⟩:=L5.ex
 refine ⟨_,rfl,p,dx5,_,rfl,hx5,dI _ _ (by decide +kernel) (by decide +kernel),_,rfl,p,fs,ds,rfl,L5,fun lb vb H6 S6 flb hlb hib=>?_⟩
 have lvb:vb.length = ds.length:=hib.length
 have nlb:l ≠ lb:=bB hl5 flb
 have hds:uG ds = true:=kU fun d m=>wL (gd.all d m)
 refine ⟨lb,rfl,⟨_,SqL.of hlb⟩,dW (K:=K) (a:=lb) (xs:=vb)
  (fun i σ H'=>∃ (v4 v5 v6 v7 v8 v9:Option V) (us:List V),σ = [some (.ref p),some (.int lv),some (.ref lo),some (.ref l),v4,v5,v6,v7,v8,v9] ∧ aK H H' ∧ H' lb = some (.lst vb) ∧ IsL H' ds vb ∧ H' lo = some (.lst ((lowS fs lv).map V.str)) ∧ H' l = some (.lst us) ∧ us.length ≤ i ∧ IsL H' ((gapsD fs (ds.take i) lv).map eA) us)
  ⟨_,_,_,_,_,_,[],rfl,T5.trans S6,hlb,hib,S6 _ _ hlo5,S6 _ _ hl5,Nat.le_refl _,rfl⟩ (fun i σ H' _ ⟨_,_,_,_,_,_,_,_,_,e,_⟩=>SqL.of e) ?_ ?_⟩
 ·rintro i xv σ H7 hi ⟨v4,v5,v6,v7,v8,v9,us,rfl,S7,hlb7,hib7,hlo7,hl7,lus,ius⟩
  have hil:i < vb.length:=(List.getElem?_eq_some_iff.mp hi).1
  obtain ⟨d,ed⟩:∃ d,ds[i]? = some d:=⟨_,List.getElem?_eq_getElem (by omega)⟩
  obtain ⟨v,ev,iv⟩:=hib7.get ed
  rw [hi] at ev
  cases ev
  have md:=List.mem_of_getElem? ed
  have eapp:gapsD fs (ds.take (i + 1)) lv = gapsD fs (ds.take i) lv ++ (if pZ fs lv d = true then [zK lv d] else []):=by
   unfold gapsD
   rw [List.take_add_one,ed,List.filter_append,List.map_append]
   congr 1
   show ([d].filter (pZ fs lv)).map (zK lv) = _
   by_cases hg:pZ fs lv d = true
   ·rw [if_pos hg,List.filter_cons_of_pos hg];rfl
   ·rw [if_neg hg,List.filter_cons_of_neg hg];rfl
  obtain ⟨n,a',b',c,r,sl,rfl,_,ha,hb,_,_,hr',_⟩:=cM (gd.all d md)
  obtain ⟨t,sv,rfl,o,isv⟩:=nN iv
  have hr0:0 ≤ r ∧ r ≤ 1000000:=by
   have:=Bool.and_eq_true_iff.mp hr'
   exact ⟨of_decide_eq_true this.1,of_decide_eq_true this.2⟩
  refine ⟨t,_,rfl,SqT.of o,rfl,_,_,rfl,_,_,rfl,_,_,rfl,_,_,rfl,_,_,rfl,_,_,rfl,rfl,?_⟩
  have stay:pZ fs lv (.tup [.str n,.str a',.str b',.int c,.int r,sl]) = false → gapsD fs (ds.take (i + 1)) lv = gapsD fs (ds.take i) lv:=fun h=>by
   rw [eapp,h,if_neg Bool.false_ne_true,List.append_nil]
  refine ⟨_,rfl,_,rfl,_,_,rfl,rfl,_,rfl,?_⟩
  refine dZ (fun h1=>?_) (fun h1=>?_)
  ·refine ⟨_,rfl,_,rfl,lo,_,rfl,.inl (SqL.of hlo7),rfl,gB _,_,rfl,?_⟩
   rw [if_neg Bool.false_ne_true,lR]
   refine dZ (fun h2=>?_) (fun h2=>?_)
   ·refine ⟨_,rfl,_,rfl,lo,_,rfl,.inl (SqL.of hlo7),rfl,gB _,_,rfl,?_⟩
    rw [if_neg Bool.false_ne_true,lR]
    refine dZ (fun h3=>?_) (fun h3=>?_)
    ·have hg:pZ fs lv (.tup [.str n,.str a',.str b',.int c,.int r,sl]) = true:=by
      show (decide (c < lv) && (decide (a' ∈ lowS fs lv) && decide (b' ∈ lowS fs lv))) = true
      rw [h1,h2,h3]
      rfl
     refine ⟨_,rfl,.inl ⟨rfl,_,SqL.of hl7⟩,_,rfl,_,rfl,_,rfl,_,rfl,_,rfl,_,rfl,_,_,rfl,rfl,_,_,rfl,rfl,.inl ⟨by omega,by omega⟩,aL rfl,fun pt hpt=>?_⟩
     have R6:=aK.upd (o:=.tup [.str n,.str a',.str b',.int (r * (lv - c))]) hpt
     have hl8:=R6 _ _ hl7
     have KT:=rS.lst (o:=.lst (us ++ [.ref pt])) hl8
     refine ⟨l,us,.ref pt,rfl,rfl,hl8,by omega,?_⟩
     refine ⟨_,_,_,_,_,_,us ++ [.ref pt],rfl,(S7.trans R6).over hl0,?_,IsL.keep KT _ _ hds (IsL.same R6 _ _ hib7),?_,aB,by rw [List.length_append];show _ + 1 ≤ _;omega,IsL.keep KT _ _ ?_ ?_⟩
     ·rw [aR (Ne.symm nlb)];exact R6 _ _ hlb7
     ·rw [aR (Ne.symm nlo)];exact R6 _ _ hlo7
     ·refine kU fun d m=>?_
      obtain ⟨g,_,rfl⟩:=List.mem_map.mp m
      exact aIA g
     ·rw [eapp,if_pos hg,List.map_append]
      exact IsL.snoc (d:=eA (zK lv (.tup [.str n,.str a',.str b',.int c,.int r,sl]))) (v:=.ref pt) ⟨pt,_,rfl,aB,_,_,rfl,rfl,_,_,rfl,rfl,_,_,rfl,rfl,_,_,rfl,rfl,rfl⟩ (IsL.same R6 _ _ ius)
    ·refine ⟨_,_,_,_,_,_,us,rfl,S7,hlb7,hib7,hlo7,hl7,by omega,?_⟩
     rw [stay ?_]
     ·exact ius
     ·show (decide (c < lv) && (decide (a' ∈ lowS fs lv) && decide (b' ∈ lowS fs lv))) = false
      rw [show decide (b' ∈ lowS fs lv) = false by simpa using h3,Bool.and_false,Bool.and_false]
   ·refine ⟨_,_,_,_,_,_,us,rfl,S7,hlb7,hib7,hlo7,hl7,by omega,?_⟩
    rw [stay ?_]
    ·exact ius
    ·show (decide (c < lv) && (decide (a' ∈ lowS fs lv) && decide (b' ∈ lowS fs lv))) = false
     rw [show decide (a' ∈ lowS fs lv) = false by simpa using h2,Bool.false_and,Bool.and_false]
  ·refine ⟨_,_,_,_,_,_,us,rfl,S7,hlb7,hib7,hlo7,hl7,by omega,?_⟩
   rw [stay ?_]
   ·exact ius
   ·show (decide (c < lv) && (decide (a' ∈ lowS fs lv) && decide (b' ∈ lowS fs lv))) = false
    rw [show decide (c < lv) = false by simpa using h1,Bool.false_and]
 ·rintro σ H7 ⟨v4,v5,v6,v7,v8,v9,us,rfl,S7,hlb7,hib7,hlo7,hl7,lus,ius⟩
  rw [List.take_of_length_le (by omega)] at ius
  exact ⟨_,rfl,q l us H7 S7 hl0 hl7 ius⟩
open Mt53 Mt22 MtF Mt31 Mt61
def lowS (fs:List Dv) (L:Int) (z:Str):Bool:=decide (z = "sea") || decide (kW fs z < L)
def gOf (L:Int):Dv → Gap
 | .tup [.str n,.str a,.str b,.int c,.int r,_]=>⟨n,a,b,r * (L - c)⟩
 | _=>⟨"","","",0⟩
def isG (fs:List Dv) (L:Int):Dv → Bool
 | .tup [.str _,.str a,.str b,.int c,.int _,_]=>decide (c < L) && (lowS fs L a && lowS fs L b)
 | _=>false
def gapsD (fs ds:List Dv) (L:Int):List Gap:=(ds.filter (isG fs L)).map (gOf L)
def fA (G:List Gap):List (Key × V):=G.map fun g=>(Sum.inr g.nm,V.int g.cap)
theorem aCN {zs:List Str} {d:Dv} (h:cZ zs d = true) (L:Int):(gOf L d).nm = aJ d:=by
 obtain ⟨n,a,b,c,r,s,rfl,_⟩:=cM h
 rfl
theorem lW {fs ds:List Dv} (gf:GoodF fs) (gd:GoodD ("sea" :: fs.map aJ) ds) (L:Int):Gaps ("sea" :: fs.map aJ) (gapsD fs ds L):=by
 have mem:∀ g ∈ gapsD fs ds L,∃ d ∈ ds,isG fs L d = true ∧ g = gOf L d:=fun g m=>by
  obtain ⟨d,md,rfl⟩:=List.mem_map.mp m
  rw [List.mem_filter] at md
  exact ⟨d,md.1,md.2,rfl⟩
 refine ⟨?_,fun g m=>?_,fun g m=>?_,?_,List.mem_cons_self⟩
 ·have e:(gapsD fs ds L).map (·.nm) = (ds.filter (isG fs L)).map aJ:=by
   unfold gapsD
   rw [List.map_map]
   refine List.map_congr_left fun d md=>?_
   exact aCN (gd.all d (List.mem_filter.mp md).1) L
  rw [e]
  exact List.Nodup.sublist (List.Sublist.map _ List.filter_sublist) gd.nd
 ·obtain ⟨d,md,_,rfl⟩:=mem g m
  obtain ⟨n,a,b,c,r,s,rfl,_,ha,hb,hab,_⟩:=cM (gd.all d md)
  exact ⟨ha,hb,hab⟩
 ·obtain ⟨d,md,hg,rfl⟩:=mem g m
  obtain ⟨n,a,b,c,r,s,rfl,_,ha,hb,hab,hc,hr,_⟩:=cM (gd.all d md)
  have h1:c < L:=of_decide_eq_true (Bool.and_eq_true_iff.mp (show (decide (c < L) && (lowS fs L a && lowS fs L b)) = true from hg)).1
  have h2:0 ≤ r:=by
   have:=Bool.and_eq_true_iff.mp (show (decide (0 ≤ r) && decide (r ≤ 1000000)) = true from hr)
   exact of_decide_eq_true this.1
  show 0 ≤ r * (L - c)
  exact Int.mul_nonneg h2 (by omega)
 ·rw [List.nodup_cons]
  refine ⟨fun m=>?_,gf.nd⟩
  obtain ⟨d,md,e⟩:=List.mem_map.mp m
  obtain ⟨z,g,u,rfl,hz,_⟩:=bW (gf.all d md)
  exact oE hz e
def aLA (C:Addr):Sp:=sp3 fun x y u H Q=>∃ (p:Addr) (fs ds:List Dv) (z:Str) (L:Int),x = .ref p ∧ LandAt C H p fs ds ∧ y = .str z ∧ z ∈ (("sea":Str) :: fs.map aJ) ∧ u = .int L ∧ Q (.bl (lowS fs L z)) H
theorem aAL (T:Txt K mg C):Fc P w K mg base 2 "is_low" ["land","side","height"] (aLA C):=by
 have G_land_p_ground:Mc P w K mg base 1 C "ground" ["self","field"] (zS C):=qO T
 refine T.d_p_is_low.fc zZ vK (fun f cdv A outer s H vs Q E hr h=>?_)
 obtain ⟨x,y,u,rfl,p,fs,ds,z,lv,rfl,L,rfl,mz,rfl,q⟩:=h
 obtain ⟨dx,d1,d2,hx,_⟩:=L.ex
 have gf:=(bV L).1
 refine ⟨_,(@aH _ _ _ (@aS _ _ _ _ (@aGX _ _ _ _ _ _ _ (@dM _ _ _ _ _ _ _ _ iR (pv 1) (@tF _ _ _ _ T.g_SEA (by rfl) (by decide)) (@bG _ _ (by decide) (by decide))) (@eB _ _ _ _ _ (@dM _ _ _ _ _ _ _ _ mY (@aNT _ _ _ _ _ _ _ _ _ _ _ _ _ _ T.cl_Land G_land_p_ground (hr.mono (by decide)) (pv 0) (@aA _ _ _ _ _ (pv 1) aE (by rfl)) (by rfl) (by rfl) (by rfl)) (pv 2) (@bG _ _ (by decide) (by decide))))))),?_⟩
 refine ⟨_,rfl,rfl,?_⟩
 by_cases hz:z = "sea"
 ·subst hz
  rw [decide_eq_true rfl]
  exact ⟨_,rfl,cP q⟩
 ·rw [decide_eq_false (fun c=>hz (V.str.inj c))]
  have mf:z ∈ fs.map aJ:=by
   rcases List.mem_cons.mp mz with h | h
   ·exact absurd h hz
   ·exact h
  obtain ⟨d,md,e⟩:=List.mem_map.mp mf
  obtain ⟨z',g,u,rfl,hz',_⟩:=bW (gf.all d md)
  have e':z' = z:=e
  subst e'
  have eg:kW fs z' = g:=qV gf.nd md
  refine ⟨_,rfl,bR ?_⟩
  refine ⟨_,rfl,p,dx,_,rfl,hx,dI _ _ (by decide +kernel) (by decide +kernel),_,rfl,_,_,rfl,p,fs,ds,z',g,u,rfl,rfl,L,md,_,rfl,_,_,rfl,rfl,?_⟩
  have:lowS fs lv z' = decide (g < lv):=by
   unfold lowS
   rw [decide_eq_false hz,eg]
   rfl
  show Q (V.bl (decide (g < lv))) H
  rw [← this]
  exact q
def aLB (C:Addr):Sp:=sp3 fun x y u H Q=>∃ (p:Addr) (fs ds:List Dv) (d:Dv) (L:Int),x = .ref p ∧ LandAt C H p fs ds ∧ Is H d y ∧ d ∈ ds ∧ u = .int L ∧ Q (.bl (isG fs L d)) H
theorem aAM (T:Txt K mg C):Fc P w K mg base 3 "is_gap" ["land","dyke","height"] (aLB C):=by
 have G_p_is_low:Fc P w K mg base 2 "is_low" ["land","side","height"] (aLA C):=aAL T
 refine T.d_p_is_gap.fc aAA vK (fun f cdv A outer s H vs Q E hr h=>?_)
 obtain ⟨x,y,u,rfl,p,fs,ds,d,lv,rfl,L,hd,md,rfl,q⟩:=h
 have gd:=(bV L).2
 obtain ⟨n,a,b,c,r,sl,rfl,_,ha,hb,hab,hc,hr',_⟩:=cM (gd.all d md)
 obtain ⟨t,sv,rfl,o,isv⟩:=nN hd
 refine ⟨_,(@aH _ _ _ (@aS _ _ _ _ (@dL _ _ _ _ _ _ _ (@dM _ _ _ _ _ _ _ _ mY (@aZ _ _ _ _ _ _ _ (@bD _ (K) rfl) (pv 1) aD (fun _ _=>rfl)) (pv 2) (@bG _ _ (by decide) (by decide))) (@dL _ _ _ _ _ _ _ (@bU _ _ _ _ _ _ _ _ _ _ G_p_is_low (hr.mono (by decide)) (@aA _ _ _ _ _ (pv 0) (@aA _ _ _ _ _ (@aZ _ _ _ _ _ _ _ (@bD _ (K) rfl) (pv 1) aD (fun _ _=>rfl)) (@aA _ _ _ _ _ (pv 2) aE (by rfl)) (by rfl)) (by rfl)) (by rfl) (by decide) (by rfl) (by rfl)) (@eB _ _ _ _ _ (@bU _ _ _ _ _ _ _ _ _ _ G_p_is_low (hr.mono (by decide)) (@aA _ _ _ _ _ (pv 0) (@aA _ _ _ _ _ (@aZ _ _ _ _ _ _ _ (@bD _ (K) rfl) (pv 1) aD (fun _ _=>rfl)) (@aA _ _ _ _ _ (pv 2) aE (by rfl)) (by rfl)) (by rfl)) (by rfl) (by decide) (by rfl) (by rfl))))))),?_⟩
 refine ⟨_,rfl,t,_,3,.int c,rfl,rfl,SqT.of o,aQ (j:=3) rfl,_,rfl,_,_,rfl,rfl,?_⟩
 have q:Q (.bl (decide (c < lv) && (lowS fs lv a && lowS fs lv b))) H:=q
 refine ⟨_,rfl,?_⟩
 cases h1:decide (c < lv) with
 | false =>
  rw [h1] at q
  exact bR q
 | true =>
  rw [h1] at q
  refine cP ?_
  refine ⟨_,rfl,_,rfl,t,_,1,.str a,rfl,rfl,SqT.of o,aQ (j:=1) rfl,_,rfl,_,_,_,rfl,p,fs,ds,a,lv,rfl,L,rfl,ha,rfl,?_⟩
  refine ⟨_,rfl,?_⟩
  cases h2:lowS fs lv a with
  | false =>
   rw [h2] at q
   exact bR q
  | true =>
   rw [h2] at q
   refine cP ?_
   exact ⟨_,rfl,_,rfl,t,_,2,.str b,rfl,rfl,SqT.of o,aQ (j:=2) rfl,_,rfl,_,_,_,rfl,p,fs,ds,b,lv,rfl,L,rfl,hb,rfl,q⟩
theorem oK (G:List Gap):(fA G).length = G.length:=List.length_map _
theorem aCM (G:List Gap):(fA G).map (·.1) = (G.map (·.nm)).map Sum.inr:=by
 unfold fA
 rw [List.map_map,List.map_map]
 rfl
theorem jR (fs ds:List Dv) (L:Int):(gapsD fs ds L).length ≤ ds.length:=by
 unfold gapsD
 rw [List.length_map]
 exact List.length_filter_le _ _
def aGD (C:Addr):Sp:=sp2 fun x y H Q=>∃ (p:Addr) (fs ds:List Dv) (L:Int),x = .ref p ∧ LandAt C H p fs ds ∧ y = .int L ∧ ∀ (cd:Addr) (H':Hp),aK H H' → H cd = none → H' cd = some (.dK (fA (gapsD fs ds L))) → Q (.ref cd) H'
theorem tQ (T:Txt K mg C):Fc P w K mg base 4 "gap_coins" ["land","height"] (aGD C):=by
 have G_p_is_gap:Fc P w K mg base 3 "is_gap" ["land","dyke","height"] (aLB C):=aAM T
 have G_p_coins_to:Fc P w K mg base 1 "coins_to" ["dyke","height"] vT:=vE T
 have G_land_p_dykes:Mc P w K mg base 1 C "dykes" ["self"] (qE C fun _ ds=>ds):=mC T
 refine T.d_p_gap_coins.fc sW iX (fun f cdv A outer s H vs Q E hr h=>?_)
 obtain ⟨x,y,rfl,p,fs,ds,lv,rfl,L,rfl,q⟩:=h
 have big:=cB
 have gf:=(bV L).1
 have gd:=(bV L).2
 have d2:=gd.l2
 have GG:=lW gf gd lv
 have gl:=jR fs ds lv
 obtain ⟨dx,d1,d2',hx,_⟩:=L.ex
 refine ⟨_,(@aH _ _ _ (@aS _ _ _ _ (@cI _ _ _ _ _ _ _ _ _ (@dA _ rfl) rfl T.n_dict fY (@aA _ _ _ _ _ (@bX _ _ _ _ _ _ _ _ _ _ _ ["dyke","land","height"] 1 [0,1] rfl (@bE _ (K) _ _ _ rfl (@bF _ _ _ _ (@kR _ _ _ _ _ _ _ _ _ _ _ T.cl_Land G_land_p_dykes (hr.mono (by decide)) (pv 0) (by rfl)))) (fun R=>@aM _ _ (0) _ (show List.Nodup (["dyke","land","height"]:List Str) by decide +kernel) rfl (Or.inl rfl) (by trivial)) (@bC _ _ (by decide)) (fun R=>@fU _ _ _ (@cK _ _ _ (@bU _ _ _ _ _ _ _ _ _ _ G_p_is_gap (hr.mono (by decide)) (@aA _ _ _ _ _ (pv 1) (@aA _ _ _ _ _ (pv 0) (@aA _ _ _ _ _ (pv 2) aE (by rfl)) (by rfl)) (by rfl)) (by rfl) (by decide) (by rfl) (by rfl)) (by intro _;rfl))) (fun R=>(@cA _ _ _ _ _ (@aA _ _ _ _ _ (@aZ _ _ _ _ _ _ _ (@bD _ (K) rfl) (pv 0) aD (fun _ _=>rfl)) (@aA _ _ _ _ _ (@bU _ _ _ _ _ _ _ _ _ _ G_p_coins_to (hr.mono (by decide)) (@aA _ _ _ _ _ (pv 0) (@aA _ _ _ _ _ (pv 2) aE (by rfl)) (by rfl)) (by rfl) (by decide) (by rfl) (by rfl)) aE (by rfl)) (by rfl)))) (by rfl) (by rfl) (by rfl) (by rfl) (by rfl) (by rfl) (by rfl) (by intro _;rfl)) aE (by rfl)) (by decide) (by decide) (by rfl) (by rfl)))),?_⟩
 refine ⟨_,rfl,p,dx,_,rfl,hx,dI _ _ (by decide +kernel) (by decide +kernel),_,rfl,p,fs,ds,rfl,L,fun lb vb H2 S2 flb hlb hib=>?_⟩
 have lvb:vb.length = ds.length:=hib.length
 refine ⟨lb,rfl,⟨_,SqL.of hlb⟩,?_⟩
 refine bH (F:=K) (xs:=vb) (by omega) (fun i ys H'=>aK H2 H' ∧ bZ H' ys (fA (gapsD fs (ds.take i) lv))) ⟨aK.refl _,bZ.nil _⟩ ?_ ?_ ?_
 ·rintro i ys H' hi' ⟨S',pa⟩
  have:=pa.len
  have:=jR fs (ds.take i) lv
  rw [oK] at *
  rw [List.length_take] at this
  exact ⟨SqL.of (S' _ _ hlb),by omega⟩
 ·rintro i xv ys H' K1 K2 hx' ⟨S',pa⟩ k1 k2
  have hil:i < vb.length:=(List.getElem?_eq_some_iff.mp hx').1
  obtain ⟨d,ed⟩:∃ d,ds[i]? = some d:=⟨_,List.getElem?_eq_getElem (by omega)⟩
  obtain ⟨v,ev,iv⟩:=hib.get ed
  rw [hx'] at ev
  cases ev
  have md:=List.mem_of_getElem? ed
  have iv':=Is.same S' _ _ iv
  refine ⟨_,rfl,_,rfl,_,rfl,_,_,_,rfl,p,fs,ds,d,lv,rfl,L.same (S2.trans S'),iv',md,rfl,_,rfl,?_⟩
  have et:gapsD fs (ds.take (i + 1)) lv = gapsD fs (ds.take i) lv ++ (if isG fs lv d = true then [gOf lv d] else []):=by
   unfold gapsD
   rw [List.take_add_one,ed,List.filter_append,List.map_append]
   cases h:isG fs lv d <;> simp [h]
  cases hg:isG fs lv d with
  | false =>
   rw [hg] at et
   refine bR (k2 _ ⟨S',?_⟩)
   rw [et]
   simpa using pa
  | true =>
   rw [hg] at et
   refine cP ?_
   obtain ⟨n,a,b,c,r,sl,rfl,_,ha,hb,hab,hc,hr',_⟩:=cM (gd.all d md)
   obtain ⟨t,sv,rfl,o,isv⟩:=nN iv'
   have h2:=Bool.and_eq_true_iff.mp (show (decide (0 ≤ r) && decide (r ≤ 1000000)) = true from hr')
   refine ⟨_,rfl,t,_,0,.str n,rfl,rfl,SqT.of o,aQ (j:=0) rfl,_,rfl,_,rfl,_,_,rfl,t,n,a,b,c,r,lv,sv,rfl,rfl,o,of_decide_eq_true h2.1,of_decide_eq_true h2.2,aL rfl,fun p3 hp3=>k1 _ _ ⟨S'.trans (aK.upd hp3),?_⟩⟩
   rw [et]
   have e2:fA (gapsD fs (ds.take i) lv ++ [gOf lv (.tup [.str n,.str a,.str b,.int c,.int r,sl])]) = fA (gapsD fs (ds.take i) lv) ++ [(Sum.inr n,V.int (r * (lv - c)))]:=by
    unfold fA
    rw [List.map_append]
    rfl
   rw [if_pos rfl,e2]
   exact bZ.snoc (k:=Sum.inr n) pa hp3
 rintro ys H3 ⟨S3,pa⟩
 rw [List.take_of_length_le (by omega)] at pa
 intro p4 hp4
 have S4:=aK.upd (o:=.lst ys) hp4
 refine ⟨p4,ys,fA (gapsD fs ds lv),rfl,SqL.of aB,pa.same S4,by rw [oK];omega,by rw [aCM];exact (gA _).mpr GG.nd,fun cd hcd=>?_⟩
 have T4:=S2.trans (S3.trans S4)
 exact q cd _ (T4.trans (aK.upd hcd)) (T4.free hcd) aB
open Mt53 Mt22 MtF Mt31 Mt61
theorem aHP {f:Gap → V}:∀ {G:List Gap} {g:Gap},(G.map (·.nm)).Nodup → g ∈ G → gC (G.map fun g=>((Sum.inr g.nm:Key),f g)) (Sum.inr g.nm) = some (f g)
 | e :: G,g,nd,m=>by
  rw [List.map_cons] at nd ⊢
  rw [List.nodup_cons] at nd
  rcases List.mem_cons.mp m with rfl | m
  ·exact jA rfl
  ·rw [gD (fun c=>nd.1 (by rw [Sum.inr.inj c];exact List.mem_map.mpr ⟨g,m,rfl⟩))]
   exact aHP nd.2 m
def dQ (G:List Gap) (f:Fl):List (Key × V):=G.map fun g=>(Sum.inr g.nm,V.int (f g.nm))
theorem cW {H:Hp} {ds:List Dv} {us:List V} (h:IsL H ds us):ds.length = us.length:=by have:=h.length;omega
theorem aIF {G:List Gap} {f:Fl} {n:Str} {x:Int} (m:n ∈ G.map (·.nm)):gW (dQ G f) (Sum.inr n) (.int x) = dQ G (fun k=>if k = n then x else f k):=by
 unfold gW
 have ha:((dQ G f).any fun kv=>decide (kv.1 = (Sum.inr n:Key))) = true:=by
  obtain ⟨g,mg,e⟩:=List.mem_map.mp m
  refine List.any_eq_true.mpr ⟨_,List.mem_map.mpr ⟨g,mg,rfl⟩,?_⟩
  rw [← e]
  exact decide_eq_true rfl
 rw [if_pos ha]
 unfold dQ
 rw [List.map_map]
 refine List.map_congr_left fun g _=>?_
 show (if (Sum.inr g.nm:Key) = Sum.inr n then ((Sum.inr g.nm:Key),V.int x) else (Sum.inr g.nm,V.int (f g.nm))) = (Sum.inr g.nm,V.int (if g.nm = n then x else f g.nm))
 by_cases e:g.nm = n
 ·rw [if_pos (by rw [e]),if_pos e]
 ·rw [if_neg (fun c=>e (Sum.inr.inj c)),if_neg e]
theorem aIG (G:List Gap) (f:Fl):(dQ G f).length = G.length:=List.length_map _
theorem aEZ (G:List Gap) (f:Fl):(dQ G f).map (·.1) = (G.map (·.nm)).map Sum.inr:=by
 unfold dQ
 rw [List.map_map,List.map_map]
 rfl
theorem aIB {fs ds:List Dv} {L:Int} {zs:List Str} (gd:GoodD zs ds) {g:Gap} (m:g ∈ gapsD fs ds L):∃ d ∈ ds,isG fs L d = true ∧ g = gOf L d ∧ aJ d = g.nm:=by
 obtain ⟨d,md,rfl⟩:=List.mem_map.mp m
 rw [List.mem_filter] at md
 exact ⟨d,md.1,md.2,rfl,(aCN (gd.all d md.1) L).symm⟩
theorem oM {α:Type} {P:α → Bool} {xs:List α} {i:Nat} {x:α} (e:xs[i]? = some x):(xs.take (i + 1)).filter P = (xs.take i).filter P ++ (if P x = true then [x] else []):=by
 rw [List.take_add_one,e,List.filter_append]
 cases h:P x <;> simp [h]
def aIW (f:Fl) (g:Gap):Dv:=.tup [.str g.nm,.int (f g.nm)]
def jT (G:List Gap) (f:Fl):List Dv:=(G.filter fun g=>!decide (f g.nm = 0)).map (aIW f)
theorem pF {ns ms:List Str} (h:ns.Sublist ms) (nd:ms.Nodup):ms.filter (fun z=>decide (z ∈ ns)) = ns:=by
 induction h with
 | slnil=>rfl
 | cons a h ih =>
  rw [List.nodup_cons] at nd
  rw [List.filter_cons_of_neg (by simpa using fun m=>nd.1 (h.subset m)),ih nd.2]
 | cons_cons a h ih =>
  rw [List.nodup_cons] at nd
  rw [List.filter_cons_of_pos (by simp)]
  congr 1
  rw [← ih nd.2]
  refine List.filter_congr fun z mz=>?_
  have hz:z ≠ a:=fun e=>nd.1 (e ▸ mz)
  rw [ih nd.2]
  simp [hz]
theorem aAY {fs ds:List Dv} {zs:List Str} (gd:GoodD zs ds) (L:Int):((gapsD fs ds L).map (·.nm)).Sublist (ds.map aJ):=by
 unfold gapsD
 rw [List.map_map]
 have e:(ds.filter (isG fs L)).map ((fun g:Gap=>g.nm) ∘ gOf L) = (ds.filter (isG fs L)).map aJ:=List.map_congr_left fun d m=>aCN (gd.all d (List.mem_filter.mp m).1) L
 rw [e]
 exact List.Sublist.map _ List.filter_sublist
theorem aJG {α:Type} {F:α → Int} {xs:List α} {i:Nat} {x:α} (e:xs[i]? = some x):sm (xs.take (i + 1)) F = sm (xs.take i) F + F x:=by
 rw [List.take_add_one,e,aGI]
 show _ + sm [x] F = _
 rw [cJ,aGG]
 omega
theorem tY (G:List Gap) (f:Fl) (z:Str):sm (G.filter fun g=>!decide (f g.nm = 0)) (vJ f z) = net G f z:=by
 rw [iZ]
 refine gF fun g _=>?_
 by_cases h:f g.nm = 0
 ·rw [decide_eq_true h,if_neg (by decide)]
  unfold vJ
  rw [h]
  simp
 ·rw [decide_eq_false h,if_pos (by decide)]
theorem aGH {V0:List Str} (nv:V0.Nodup) (F:Str → Int):∀ {zs:List Str},zs.Nodup → (∀ z ∈ zs,z ∈ V0) → sm (V0.filter fun v=>decide (v ∈ zs)) F = sm zs F
 | [],_,_=>by
  rw [List.filter_eq_nil_iff.mpr (fun a _=>by simp)]
 | z :: zs,nz,sub=>by
  rw [List.nodup_cons] at nz
  have ih:=aGH nv F nz.2 fun y m=>sub y (List.mem_cons_of_mem _ m)
  have pk:=sG (V:=V0) (fun _=>true) (F z) nv (sub z List.mem_cons_self)
  rw [List.filter_eq_self.mpr (fun _ _=>rfl),if_pos rfl] at pk
  rw [cJ,← ih,← pk,iZ,iZ,← xL]
  refine gF fun x _=>?_
  by_cases h:z = x
  ·subst h
   rw [decide_eq_true List.mem_cons_self,decide_eq_false nz.1,if_pos rfl,if_pos rfl,if_neg (by decide)]
   omega
  ·rw [if_neg h]
   have h':¬ x = z:=fun e=>h e.symm
   by_cases m:x ∈ zs
   ·rw [decide_eq_true m,decide_eq_true (List.mem_cons_of_mem _ m)]
    omega
   ·rw [decide_eq_false m,decide_eq_false (by simp [h',m])]
    omega
theorem aFL {V0:List Str} {G:List Gap} (GG:Gaps V0 G) {ws:List Str} {f:Fl} (st:Stream V0 G ws f) (nz:ws.Nodup) (sub:∀ z ∈ ws,z ∈ V0) (ns:Mt22.sea ∉ ws):sm ws (net G f) = val G f:=by
 rw [← aGH GG.vnd (net G f) nz sub,yE GG]
 exact aFM GG (decide_eq_false ns) fun v mv hs hx=>st.zero v mv hs (of_decide_eq_false hx)
theorem aGP {H:Hp} {t:Addr} {n:Str} {k:Int} (h:H t = some (.tup [.str n,.int k])):Is H (.tup [.str n,.int k]) (.ref t):=⟨t,_,rfl,h,_,_,rfl,rfl,_,_,rfl,rfl,rfl⟩
def bO (nk:Str × Int):Dv:=.tup [.str nk.1,.int nk.2]
theorem qJ {H:Hp} {nk:Str × Int} {v:V} (h:Is H (bO nk) v):∃ t,v = .ref t ∧ H t = some (.tup [.str nk.1,.int nk.2]):=by
 obtain ⟨t,us,rfl,o,va,r1,rfl,ha,vb,r2,rfl,hb,h0⟩:=h
 cases (show r2 = [] from h0)
 cases (show va = _ from ha)
 cases (show vb = _ from hb)
 exact ⟨t,rfl,o⟩
theorem aKR {H:Hp} {G:List Gap} {f:Fl} {us:List V} {i:Nat} {xv:V} (ius:IsL H (jT G f) us) (hx:us[i]? = some xv):∃ g t,(G.filter fun g=>!decide (f g.nm = 0))[i]? = some g ∧ g ∈ G ∧ f g.nm ≠ 0 ∧ xv = .ref t ∧ H t = some (.tup [.str g.nm,.int (f g.nm)]):=by
 have hil:i < us.length:=(List.getElem?_eq_some_iff.mp hx).1
 have ll:=cW ius
 unfold jT at ll ius
 rw [List.length_map] at ll
 obtain ⟨g,eg⟩:∃ g,(G.filter fun g=>!decide (f g.nm = 0))[i]? = some g:=⟨_,List.getElem?_eq_getElem (by omega)⟩
 obtain ⟨v,ev,iv⟩:=ius.get (show ((G.filter fun g=>!decide (f g.nm = 0)).map (aIW f))[i]? = some (aIW f g) by rw [List.getElem?_map,eg];rfl)
 rw [hx] at ev
 cases ev
 obtain ⟨t,rfl,o⟩:=qJ (nk:=(g.nm,f g.nm)) iv
 have mg:=List.mem_filter.mp (List.mem_of_getElem? eg)
 exact ⟨g,t,eg,mg.1,by simpa using mg.2,rfl,o⟩
def cN (V0:List Str):List Gap:=V0.map fun z=>⟨z,z,z,0⟩
theorem xN (V0:List Str):(cN V0).map (·.nm) = V0:=by
 unfold cN
 rw [List.map_map]
 exact List.map_id V0
theorem jC (V0:List Str) (h:Fl):(dQ (cN V0) h).length = V0.length:=by
 rw [aIG]
 exact List.length_map _
theorem fF {V0:List Str} {z:Str} (nd:V0.Nodup) (m:z ∈ V0) (h:Fl):gC (dQ (cN V0) h) (Sum.inr z) = some (.int (h z)) :=
 aHP (f:=fun g=>V.int (h g.nm)) (G:=cN V0) (g:=⟨z,z,z,0⟩) (by rw [xN];exact nd) (List.mem_map.mpr ⟨z,m,rfl⟩)
theorem pM {V0:List Str} {z:Str} (m:z ∈ V0) (h:Fl) (x:Int):gW (dQ (cN V0) h) (Sum.inr z) (.int x) = dQ (cN V0) (fun k=>if k = z then x else h k) :=
 aIF (by rw [xN];exact m)
def mD (xs:List Gap) (f:Fl):Fl:=fun z=>sm xs (vJ f z)
theorem wK {xs:List Gap} {i:Nat} {g:Gap} (e:xs[i]? = some g) (f:Fl) (ne:g.a ≠ g.b):(fun k=>if k = g.b then (if g.b = g.a then mD (xs.take i) f g.a - f g.nm else mD (xs.take i) f g.b) + f g.nm else if k = g.a then mD (xs.take i) f g.a - f g.nm else mD (xs.take i) f k) = mD (xs.take (i + 1)) f:=by
 funext k
 show _ = sm (xs.take (i + 1)) (vJ f k)
 rw [aJG e]
 show _ = mD (xs.take i) f k + vJ f k g
 unfold vJ
 rw [if_neg (show ¬ g.b = g.a from Ne.symm ne)]
 by_cases hb:k = g.b
 ·subst hb
  rw [if_pos rfl,if_pos rfl,if_neg (show ¬ g.a = g.b from ne)]
  omega
 ·rw [if_neg (show ¬ k = g.b from hb),if_neg (show ¬ g.b = k from fun c=>hb c.symm)]
  by_cases ha:k = g.a
  ·subst ha
   rw [if_pos rfl,if_pos rfl]
   omega
  ·rw [if_neg (show ¬ k = g.a from ha),if_neg (show ¬ g.a = k from fun c=>ha c.symm)]
   omega
def aDD (C:Addr):Sp:=sp2 fun x y H Q=>∃ (p l:Addr) (fs ds:List Dv) (L:Int) (us:List V) (f:Fl),x = .ref p ∧ LandAt C H p fs ds ∧ y = .ref l ∧ H l = some (.lst us) ∧ IsL H (jT (gapsD fs ds L) f) us ∧ ∀ (d:Addr) (H':Hp),aK H H' → H d = none → H' d = some (.dK (dQ (cN ("sea" :: fs.map aJ)) (net (gapsD fs ds L) f))) → Q (.ref d) H'
theorem vD (T:Txt K mg C):Fc P w K mg base 2 "gains_by" ["land","stream"] (aDD C):=by
 have G_land_p_field_names:Mc P w K mg base 1 C "field_names" ["self"] (iL C fun fs _=>fs.map aJ):=cO T
 have G_land_p_dyke:Mc P w K mg base 1 C "dyke" ["self","name"] (aDH C):=tT T
 refine T.d_p_gains_by.fc fH iX (fun f cdv A outer s H vs Q E hr h=>?_)
 obtain ⟨x,y,rfl,p,l,fs,ds,lv,us,fl,rfl,L,rfl,hl,ius,q⟩:=h
 have big:=cB
 have hu:=gR hr
 have gf:=(bV L).1
 have gd:=(bV L).2
 have d2:=gd.l2
 have f2:=gf.l2
 have GG:=lW gf gd lv
 have gl:=jR fs ds lv
 have lus:=cW ius
 have lam:(jT (gapsD fs ds lv) fl).length ≤ 40:=by
  unfold jT
  rw [List.length_map]
  exact Nat.le_trans (List.length_filter_le _ _) (by omega)
 refine ⟨_,(@aG _ _ _ _ _ (@aU _ _ (2) _ _ _ _ fH.nd rfl (Or.inl rfl) (@cI _ _ _ _ _ _ _ _ _ (@dA _ rfl) rfl T.n_dict fY (@aA _ _ _ _ _ (@bX _ _ _ _ _ _ _ _ _ _ _ ["side"] 1 [] rfl (@bE _ (K) _ _ _ rfl (@bF _ _ _ _ (@aI _ _ _ _ _ _ _ _ eR (@bM _ _ _ _ (@aA _ _ _ _ _ (@tF _ _ _ _ T.g_SEA (by rfl) (by decide)) aE (by rfl))) (@kR _ _ _ _ _ _ _ _ _ _ _ T.cl_Land G_land_p_field_names (hr.mono (by decide)) (pv 0) (by rfl))))) (fun R=>@aM _ _ (0) _ (show List.Nodup (["side"]:List Str) by decide +kernel) rfl (Or.inl rfl) (by trivial)) (@bC _ _ (by decide)) (fun R=>cH) (fun R=>(@cA _ _ _ _ _ (@aA _ _ _ _ _ (pv 0) (@aA _ _ _ _ _ aD aE (by rfl)) (by rfl)))) (by rfl) (by rfl) (by rfl) (by rfl) (by rfl) (by rfl) (by rfl) (by intro _;rfl)) aE (by rfl)) (by decide) (by decide) (by rfl) (by rfl)) (by rfl) (by trivial)) (@aG _ _ _ _ _ (@eJ _ _ _ _ _ _ _ _ PassesOwn.never rfl (@bE _ (K) _ _ _ rfl (@bF _ _ _ _ (pv 1))) (@lI _ (K) _ _ _ _ _ rfl 2 rfl (@jZ _ _ _ _ _ _ rfl (@aW _ _ _ _ _ (@aM _ _ (3) _ fH.nd rfl (Or.inl rfl) (by trivial)) (@aW _ _ _ _ _ (@aM _ _ (4) _ fH.nd rfl (Or.inl rfl) (by trivial)) eY (by rfl)) (by rfl)) (by rfl) (by rfl))) (@aG _ _ _ _ _ (@aU _ _ (5) _ _ _ _ fH.nd rfl (Or.inl rfl) (@aNT _ _ _ _ _ _ _ _ _ _ _ _ _ _ T.cl_Land G_land_p_dyke (hr.mono (by decide)) (pv 0) (@aA _ _ _ _ _ (pv 3) aE (by rfl)) (by rfl) (by rfl) (by rfl)) (by rfl) (by trivial)) (@aG _ _ _ _ _ (@aDK _ _ _ _ _ _ _ _ _ _ _ hu (pv 2) (@aZ _ _ _ _ _ _ _ (@bD _ (K) rfl) (pv 5) aD (fun _ _=>rfl)) (pv 4) aMM (fun _ _ _=>rfl)) (@aH _ _ _ (@aDK _ _ _ _ _ _ _ _ _ _ _ hu (pv 2) (@aZ _ _ _ _ _ _ _ (@bD _ (K) rfl) (pv 5) aD (fun _ _=>rfl)) (pv 4) aMN (fun _ _ _=>rfl))))) (by intro _;rfl)) (@aH _ _ _ (@aS _ _ _ _ (pv 2))))),?_⟩
 refine ⟨aL rfl,fun q1 hq1=>?_⟩
 have S1:=aK.upd (o:=.lst [.str "sea"]) hq1
 have hq1':upd H q1 (.lst [.str "sea"]) q1 = some (.lst [.str "sea"]):=aB
 generalize upd H q1 (.lst [.str "sea"]) = H1 at S1 hq1'
 have L1:=L.same S1
 obtain ⟨dx,d1,d2',hx,_⟩:=L1.ex
 refine ⟨_,rfl,p,dx,_,rfl,hx,dI _ _ (by decide +kernel) (by decide +kernel),_,rfl,p,fs,ds,rfl,L1,fun ln H2 S2 fln hln=>?_⟩
 refine ⟨q1,ln,_,_,rfl,rfl,S2 _ _ hq1',hln,by rw [List.length_map,List.length_map];simp only [List.length_singleton];omega,fun lo hlo=>?_⟩
 have S3:=aK.upd (o:=.lst ([V.str "sea"] ++ (fs.map aJ).map V.str)) hlo
 have r3:upd H2 lo (.lst ([V.str "sea"] ++ (fs.map aJ).map V.str)) lo = some (.lst ((("sea":Str) :: fs.map aJ).map V.str)):=aB
 generalize upd H2 lo (.lst ([V.str "sea"] ++ (fs.map aJ).map V.str)) = H3 at S3 r3
 have T3:=S1.trans (S2.trans S3)
 have nV:=GG.vnd
 have lV:(("sea":Str) :: fs.map aJ).length ≤ 13:=by rw [List.length_cons,List.length_map];omega
 have eV:∀ g ∈ gapsD fs ds lv,g.a ∈ (("sea":Str) :: fs.map aJ) ∧ g.b ∈ (("sea":Str) :: fs.map aJ) ∧ g.a ≠ g.b:=GG.ends
 have q':=q
 generalize hVV:(("sea":Str) :: fs.map aJ) = VV at r3 nV lV eV q'
 refine ⟨lo,rfl,⟨_,SqL.of r3⟩,?_⟩
 refine bH (F:=K) (xs:=VV.map V.str) (by rw [List.length_map];omega) (fun i ys H'=>aK H3 H' ∧ bZ H' ys (dQ (cN (VV.take i)) fun _=>0)) ⟨aK.refl _,bZ.nil _⟩ ?_ ?_ ?_
 ·rintro i ys H' hi ⟨S',pa⟩
  have:=pa.len
  rw [jC,List.length_take] at this
  exact ⟨SqL.of (S' _ _ r3),by omega⟩
 ·rintro i xv ys H' K1 K2 hx' ⟨S',pa⟩ k1 k2
  rw [List.getElem?_map] at hx'
  obtain ⟨z,ez,rfl⟩:=Option.map_eq_some_iff.mp hx'
  refine ⟨_,rfl,aL rfl,fun p3 hp3=>k1 _ _ ⟨S'.trans (aK.upd hp3),?_⟩⟩
  have e2:dQ (cN (VV.take (i + 1))) (fun _=>0) = dQ (cN (VV.take i)) (fun _=>0) ++ [(Sum.inr z,V.int 0)]:=by
   unfold dQ cN
   rw [List.take_add_one,ez,List.map_append,List.map_append]
   rfl
  rw [e2]
  exact bZ.snoc (k:=Sum.inr z) pa hp3
 rintro ys H4 ⟨S4,pa⟩
 rw [List.length_map,List.take_of_length_le (Nat.le_refl _)] at pa
 intro p4 hp4
 have S5:=aK.upd (o:=.lst ys) hp4
 refine ⟨p4,ys,dQ (cN VV) fun _=>0,rfl,SqL.of aB,pa.same S5,by rw [jC];omega,by rw [aEZ,xN];exact (gA _).mpr nV,fun de hde=>?_⟩
 have S6:=aK.upd (o:=.dK (dQ (cN VV) fun _=>0)) hde
 have T6:=T3.trans (S4.trans (S5.trans S6))
 have nde:=(T3.trans (S4.trans S5)).free hde
 have he6:upd (upd H4 p4 (.lst ys)) de (.dK (dQ (cN VV) fun _=>0)) de = some (.dK (dQ (cN VV) fun _=>0)):=aB
 generalize upd (upd H4 p4 (.lst ys)) de (.dK (dQ (cN VV) fun _=>0)) = H6 at S6 T6 he6
 refine ⟨_,rfl,l,rfl,⟨_,SqL.of (T6 _ _ hl)⟩,dW (K:=K) (a:=l) (xs:=us) (fun i σ H'=>∃ v3 v4 v5,σ = [some (.ref p),some (.ref l),some (.ref de),v3,v4,v5] ∧ aK H H' ∧ H' de = some (.dK (dQ (cN VV) (mD (((gapsD fs ds lv).filter fun g=>!decide (fl g.nm = 0)).take i) fl)))) ⟨_,_,_,rfl,T6,he6⟩ ?_ ?_ ?_⟩
 ·rintro i σ H' hi ⟨v3,v4,v5,rfl,S',he'⟩
  exact SqL.of (S' _ _ hl)
 ·rintro i xv σ H' hx' ⟨v3,v4,v5,rfl,S',he'⟩
  obtain ⟨g,t,eg,mg',f0,rfl,ot⟩:=aKR (IsL.same S' _ _ ius) hx'
  obtain ⟨ma,mb,nab⟩:=eV g mg'
  have gs:=wK eg fl nab
  refine ⟨t,_,rfl,SqT.of ot,rfl,_,_,rfl,_,_,rfl,rfl,?_⟩
  obtain ⟨dk,mdk,hg,rfl,en⟩:=aIB gd mg'
  have L':=L.same S'
  obtain ⟨dx',d1',d2'',hx2,_⟩:=L'.ex
  obtain ⟨n,a,b,c,r,sl,rfl,_⟩:=cM (gd.all dk mdk)
  rw [show fl (gOf lv (.tup [.str n,.str a,.str b,.int c,.int r,sl])).nm = fl n from rfl]
  refine ⟨_,rfl,p,dx',_,rfl,hx2,dI _ _ (by decide +kernel) (by decide +kernel),_,rfl,_,_,rfl,p,fs,ds,_,rfl,rfl,L',mdk,fun v iv=>?_⟩
  obtain ⟨t2,sv,rfl,ot2,isv⟩:=nN iv
  have ma':a ∈ VV:=ma
  have mb':b ∈ VV:=mb
  generalize hh:mD (((gapsD fs ds lv).filter fun g=>!decide (fl g.nm = 0)).take i) fl = h0 at he' gs
  refine ⟨_,rfl,_,rfl,t2,_,1,.str a,rfl,rfl,SqT.of ot2,aQ (j:=1) rfl,de,_,rfl,.inl ⟨_,Sum.inr a,.inl he',rfl,(fF nV ma' _).symm⟩,?_⟩
  refine ⟨_,rfl,_,_,rfl,rfl,_,.inl ⟨_,Sum.inr a,he',rfl,by rw [jC];omega,rfl⟩,?_⟩
  rw [pM ma']
  have S1':=S'.over (o:=.dK (dQ (cN VV) fun k=>if k = a then h0 a - fl n else h0 k)) nde
  have o1:upd H' de (.dK (dQ (cN VV) fun k=>if k = a then h0 a - fl n else h0 k)) t2 = _:=(aR (rO ot2 he' (by intro c;cases c))).trans ot2
  have e1:upd H' de (.dK (dQ (cN VV) fun k=>if k = a then h0 a - fl n else h0 k)) de = some (.dK (dQ (cN VV) fun k=>if k = a then h0 a - fl n else h0 k)):=aB
  generalize upd H' de (.dK (dQ (cN VV) fun k=>if k = a then h0 a - fl n else h0 k)) = H8 at S1' o1 e1
  refine ⟨_,rfl,_,rfl,t2,_,2,.str b,rfl,rfl,SqT.of o1,aQ (j:=2) rfl,de,_,rfl,.inl ⟨_,Sum.inr b,.inl e1,rfl,(fF nV mb' _).symm⟩,?_⟩
  refine ⟨_,rfl,_,_,rfl,rfl,_,.inl ⟨_,Sum.inr b,e1,rfl,by rw [jC];omega,rfl⟩,?_⟩
  rw [pM mb']
  refine ⟨_,_,_,rfl,S1'.over nde,?_⟩
  rw [aB,← gs]
  rfl
 ·rintro σ H' ⟨v3,v4,v5,rfl,S',he'⟩
  have lf:((gapsD fs ds lv).filter fun g=>!decide (fl g.nm = 0)).length = us.length:=by
   rw [← lus]
   unfold jT
   rw [List.length_map]
  rw [List.take_of_length_le (by omega)] at he'
  refine ⟨_,rfl,q' de H' S' nde ?_⟩
  rw [he',show mD ((gapsD fs ds lv).filter fun g=>!decide (fl g.nm = 0)) fl = net (gapsD fs ds lv) fl from funext fun z=>tY _ _ _]
def eI (G:List Gap) (n:Str):Option Int:=(G.find? fun g=>decide (g.nm = n)).map (·.cap)
theorem yX {n:Str}:∀ {G:List Gap},gC (fA G) (Sum.inr n) = (eI G n).map V.int
 | []=>rfl
 | g :: G=>by
  have ih:=yX (n:=n) (G:=G)
  unfold fA eI at ih ⊢
  rw [List.map_cons,List.find?_cons]
  by_cases e:g.nm = n
  ·rw [jA (by rw [e]),decide_eq_true e]
   rfl
  ·rw [gD (fun c=>e (Sum.inr.inj c)),decide_eq_false e,ih]
theorem aBE {n:Str} {c:Int} {G:List Gap} (h:eI G n = some c):∃ g ∈ G,g.nm = n ∧ g.cap = c:=by
 unfold eI at h
 obtain ⟨g,eg,ec⟩:=Option.map_eq_some_iff.mp h
 have h2:=List.find?_some eg
 exact ⟨g,List.mem_of_find?_eq_some eg,by simpa using h2,ec⟩
theorem aCR {G:List Gap} (nd:(G.map (·.nm)).Nodup) {g:Gap} (m:g ∈ G):eI G g.nm = some g.cap:=by
 have:=yX (n:=g.nm) (G:=G)
 rw [show gC (fA G) (Sum.inr g.nm) = some (.int g.cap) from aHP (f:=fun g=>V.int g.cap) nd m] at this
 cases h:eI G g.nm with
 | none=>rw [h] at this;cases this
 | some c=>rw [h] at this;cases this;rfl
def cX (G:List Gap):Dv → Bool
 | .tup [.str n,.int k]=>match eI G n with
  | some c=>decide (k ≠ 0) && (decide (-c ≤ k) && decide (k ≤ c))
  | none=>false
 | _=>false
def jQ (G:List Gap):Dv → Bool
 | .lst es=>es.all (cX G) && decide (es.map aJ = (G.map (·.nm)).filter fun z=>decide (z ∈ es.map aJ))
 | _=>false
def aNN:Dv → Str × Int
 | .tup [.str n,.int k]=>(n,k)
 | _=>("",0)
theorem eU {G:List Gap} {d:Dv} (h:cX G d = true):∃ n k c,d = bO (n,k) ∧ eI G n = some c ∧ k ≠ 0 ∧ -c ≤ k ∧ k ≤ c:=by
 unfold cX at h
 split at h
 ·rename_i n k
  split at h
  ·rename_i c ec
   rw [Bool.and_eq_true,Bool.and_eq_true] at h
   exact ⟨n,k,c,rfl,ec,of_decide_eq_true h.1,of_decide_eq_true h.2.1,of_decide_eq_true h.2.2⟩
  ·cases h
 ·cases h
theorem aKH {G:List Gap} {n:Str} {k c:Int} (ec:eI G n = some c) (h0:k ≠ 0) (h1:-c ≤ k) (h2:k ≤ c):cX G (bO (n,k)) = true:=by
 show (match eI G n with | some c=>decide (k ≠ 0) && (decide (-c ≤ k) && decide (k ≤ c)) | none=>false) = true
 rw [ec]
 show (decide (k ≠ 0) && (decide (-c ≤ k) && decide (k ≤ c))) = true
 rw [decide_eq_true h0,decide_eq_true h1,decide_eq_true h2]
 rfl
def flE (es:List Dv):Fl:=fun n=>match es.find? fun e=>decide (aJ e = n) with
 | some e=>(aNN e).2
 | none=>0
theorem yS:∀ {es:List Dv} {n:Str} {k:Int},(es.map aJ).Nodup → bO (n,k) ∈ es → flE es n = k
 | e :: es,n,k,nd,m=>by
  unfold flE
  rw [List.find?_cons]
  rw [List.map_cons,List.nodup_cons] at nd
  rcases List.mem_cons.mp m with h | h
  ·subst h
   rw [show decide (aJ (bO (n,k)) = n) = true from decide_eq_true rfl]
   rfl
  ·have:¬ aJ e = n:=fun c=>nd.1 (by rw [c];exact List.mem_map.mpr ⟨_,h,rfl⟩)
   rw [decide_eq_false this]
   exact yS nd.2 h
theorem yR:∀ {es:List Dv} {n:Str},n ∉ es.map aJ → flE es n = 0
 | [],_,_=>rfl
 | e :: es,n,h=>by
  unfold flE
  rw [List.find?_cons,decide_eq_false (fun c=>h (by rw [← c];exact List.mem_cons_self))]
  exact yR (es:=es) fun m=>h (List.mem_cons_of_mem _ m)
theorem vR {V0:List Str} {G:List Gap} {es:List Dv} (GG:Gaps V0 G) (h:jQ G (.lst es) = true):es = jT G (flE es) ∧ aIZ G (flE es) ∧ es.length ≤ G.length:=by
 have nd:=GG.nd
 have h:=Bool.and_eq_true_iff.mp (show (es.all (cX G) && decide (es.map aJ = (G.map (·.nm)).filter fun z=>decide (z ∈ es.map aJ))) = true from h)
 have ha:∀ e ∈ es,cX G e = true:=List.all_eq_true.mp h.1
 have hn:=of_decide_eq_true h.2
 have ndn:(es.map aJ).Nodup:=by rw [hn];exact List.Nodup.sublist List.filter_sublist nd
 have at_:∀ e ∈ es,e = bO (aJ e,flE es (aJ e)) ∧ flE es (aJ e) ≠ 0 ∧ ∃ c,eI G (aJ e) = some c ∧ -c ≤ flE es (aJ e) ∧ flE es (aJ e) ≤ c:=fun e m=>by
  obtain ⟨n,k,c,rfl,ec,k0,k1,k2⟩:=eU (ha e m)
  have:flE es n = k:=yS ndn m
  show bO (n,k) = bO (n,flE es n) ∧ flE es n ≠ 0 ∧ ∃ c,eI G n = some c ∧ -c ≤ flE es n ∧ flE es n ≤ c
  rw [this]
  exact ⟨rfl,k0,c,ec,k1,k2⟩
 have key:∀ g ∈ G,(!decide (flE es g.nm = 0)) = decide (g.nm ∈ es.map aJ):=fun g mg=>by
  by_cases m:g.nm ∈ es.map aJ
  ·obtain ⟨e,me,ee⟩:=List.mem_map.mp m
   have:=(at_ e me).2.1
   rw [ee] at this
   rw [decide_eq_true m,decide_eq_false this]
   rfl
  ·rw [decide_eq_false m,yR m]
   rfl
 refine ⟨?_,fun g mg=>?_,?_⟩
 ·have e1:(G.filter fun g=>!decide (flE es g.nm = 0)).map (·.nm) = es.map aJ:=by
   rw [List.filter_congr key]
   have hn':=hn
   rw [List.filter_map] at hn'
   exact hn'.symm
  have e2:jT G (flE es) = ((G.filter fun g=>!decide (flE es g.nm = 0)).map (·.nm)).map fun n=>bO (n,flE es n):=by
   unfold jT
   rw [List.map_map]
   rfl
  rw [e2,e1,List.map_map]
  conv=>lhs;rw [← List.map_id es]
  exact List.map_congr_left fun e m=>(at_ e m).1
 ·by_cases m:g.nm ∈ es.map aJ
  ·obtain ⟨e,me,ee⟩:=List.mem_map.mp m
   obtain ⟨c,ec,h1,h2⟩:=(at_ e me).2.2
   rw [ee] at ec h1 h2
   rw [aCR nd mg] at ec
   cases ec
   exact ⟨h1,h2⟩
  ·have:=GG.cap g mg
   rw [yR m]
   omega
 ·have:=congrArg List.length hn
  rw [List.length_map] at this
  have l2:=List.length_filter_le (fun z=>decide (z ∈ es.map aJ)) (G.map (·.nm))
  rw [List.length_map] at l2
  omega
open Mt53 Mt22 MtF Mt31 Mt61
def oW (p:Addr) (H H':Hp):Prop:=∀ b o,H b = some o → b ≠ p → H' b = some o
theorem oW.then {p:Addr} {H H' H'':Hp} (X:oW p H H') (S:aK H' H''):oW p H H'':=fun b o e n=>S _ _ (X b o e n)
theorem oW.put {p:Addr} {H H':Hp} {o:HO} (X:oW p H H'):oW p H (upd H' p o):=fun b o' e n=>by rw [aR n];exact X b o' e n
theorem aK.x {p:Addr} {H H':Hp} (S:aK H H'):oW p H H':=fun b o e _=>S _ _ e
def aOE (G:List Gap):Dv → Bool
 | .str z=>(eI G z).isSome
 | _=>false
def zR:Sp:=sp2 fun x y H Q=>∃ (d:Dv) (dm:Addr) (G:List Gap),Is H d x ∧ y = .ref dm ∧ Rd H dm (.dK (fA G)) ∧ Q (.bl (aOE G d)) H
theorem aDS {H:Hp} {dm:Addr} {G:List Gap} {z:Str} (h:Rd H dm (.dK (fA G))):pK H dm (.str z) ((eI G z).map V.int):=.inl ⟨_,Sum.inr z,h,rfl,yX.symm⟩
theorem sA (T:Txt K mg C):Fc P w K mg base 1 "is_one_of" ["thing","names"] zR:=by
 refine T.d_p_is_one_of.fc mN iX (fun f cdv A outer s H vs Q E hr h=>?_)
 obtain ⟨x,y,rfl,d,dm,G,hd,rfl,hm,q⟩:=h
 have hu:=gR hr
 obtain ⟨t,ty,e1,e2,e3,_⟩:=jU K hd
 refine ⟨_,(aH (aS (dL (aT (bY (K:=K) rfl) rfl T.n_isinstance bP (aA (pv 0) (aA (kQ T.n_str oQ) aE))) (eB (aLU (aBX hu (pv 0) (pv 1))))))),?_⟩
 refine ⟨_,rfl,_,_,_,t,_,rfl,rfl,ty,e3,_,rfl,?_⟩
 cases d with
 | str z =>
  cases (show x = .str z from hd)
  refine cP ⟨_,rfl,_,rfl,dm,_,rfl,aDS hm,?_⟩
  have q:Q (.bl (eI G z).isSome) H:=q
  rw [Option.isSome_map]
  exact q
 | _=>exact bR q
def aDE:Sp:=sp2 fun x y H Q=>∃ (d:Dv) (dm:Addr) (G:List Gap),Is H d x ∧ y = .ref dm ∧ Rd H dm (.dK (fA G)) ∧ Q (.bl (cX G d)) H
theorem aON {d:Dv} (h:zJ 2 d = true):∃ a b,d = .tup [a,b]:=by
 cases d with
 | tup ds =>
  have h:decide ((ds.length:Int) = 2) = true:=h
  have h2:ds.length = 2:=by have:=of_decide_eq_true h;omega
  match ds,h2 with
  | [a,b],_=>exact ⟨a,b,rfl⟩
 | _=>cases h
theorem yA (T:Txt K mg C):Fc P w K mg base 2 "is_flow" ["thing","most"] aDE:=by
 have G_p_is_tuple_of:Fc P w K mg base 1 "is_tuple_of" ["thing","length"] sF:=hE T
 have G_p_is_one_of:Fc P w K mg base 1 "is_one_of" ["thing","names"] zR:=sA T
 have G_p_is_whole:Fc P w K mg base 1 "is_whole" ["thing"] sE:=kA T
 refine T.d_p_is_flow.fc xQ iX (fun f cdv A outer s H vs Q E hr h=>?_)
 obtain ⟨x,y,rfl,d,dm,G,hd,rfl,hm,q⟩:=h
 have hu:=gR hr
 refine ⟨_,(@aG _ _ _ _ _ (@cL _ _ _ _ _ _ _ _ (@PW.pt _ _ _ (@iQ _ _ _ _ _ _ _ (@cR _ _ _ _ (@cK _ _ _ (@bU _ _ _ _ _ _ _ _ _ _ G_p_is_tuple_of (hr.mono (by decide)) (@aA _ _ _ _ _ (pv 0) (@aA _ _ _ _ _ aD aE (by rfl)) (by rfl)) (by rfl) (by decide) (by rfl) (by rfl)) (by intro _;rfl))) (@iQ _ _ _ _ _ _ _ (@cR _ _ _ _ (@cK _ _ _ (@bU _ _ _ _ _ _ _ _ _ _ G_p_is_one_of (hr.mono (by decide)) (@aA _ _ _ _ _ (@aZ _ _ _ _ _ _ _ (@bD _ (K) rfl) (pv 0) aD (fun _ _=>rfl)) (@aA _ _ _ _ _ (pv 1) aE (by rfl)) (by rfl)) (by rfl) (by decide) (by rfl) (by rfl)) (by intro _;rfl))) (@jL _ _ _ _ (@cR _ _ _ _ (@cK _ _ _ (@bU _ _ _ _ _ _ _ _ _ _ G_p_is_whole (hr.mono (by decide)) (@aA _ _ _ _ _ (@aZ _ _ _ _ _ _ _ (@bD _ (K) rfl) (pv 0) aD (fun _ _=>rfl)) aE (by rfl)) (by rfl) (by decide) (by rfl) (by rfl)) (by intro _;rfl))))))) (@aH _ _ _ (@aS _ _ _ _ jO)) bI) (@aH _ _ _ (@aS _ _ _ _ (@pR _ _ _ _ _ _ _ _ _ _ _ _ mY pU aD (@aT _ _ _ _ _ _ _ _ _ uV rfl T.n_abs rG (@aA _ _ _ _ _ (@aZ _ _ _ _ _ _ _ (@bD _ (K) rfl) (pv 0) aD (fun _ _=>rfl)) aE (by rfl)) (by decide) (by decide) (by rfl) (by rfl)) (@dR _ _ _ _ _ _ hu (pv 1) (@aZ _ _ _ _ _ _ _ (@bD _ (K) rfl) (pv 0) aD (fun _ _=>rfl)) (fun _ _=>rfl)) (by with_unfolding_all rfl))))),?_⟩
 refine ⟨_,rfl,_,_,rfl,d,2,hd,rfl,_,rfl,?_⟩
 cases h2:zJ 2 d with
 | false =>
  refine cP ?_
  have:cX G d = false:=by
   cases e:cX G d with
   | false=>rfl
   | true =>
    obtain ⟨n,k,c,rfl,_⟩:=eU e
    cases h2
  rw [this] at q
  exact q
 | true =>
  obtain ⟨a,b,rfl⟩:=aON h2
  obtain ⟨t,us,rfl,ot,va,r1,rfl,ia,vb,r2,rfl,ib,r0⟩:=hd
  cases (show r2 = [] from r0)
  refine bR ?_
  refine ⟨_,rfl,t,_,0,va,rfl,rfl,SqT.of ot,aQ (j:=0) rfl,_,rfl,_,_,rfl,a,dm,G,ia,rfl,hm,_,rfl,?_⟩
  cases hn:aOE G a with
  | false =>
   refine cP ?_
   have:cX G (.tup [a,b]) = false:=by
    cases e:cX G (.tup [a,b]) with
    | false=>rfl
    | true =>
     obtain ⟨n,k,c,e',ec,_⟩:=eU e
     cases e'
     have:(eI G n).isSome = false:=hn
     rw [ec] at this
     cases this
   rw [this] at q
   exact q
  | true =>
   refine bR ?_
   refine ⟨_,rfl,t,_,1,vb,rfl,rfl,SqT.of ot,aQ (j:=1) rfl,_,rfl,b,ib,_,rfl,?_⟩
   cases hi:isInt b with
   | false =>
    refine cP ?_
    have:cX G (.tup [a,b]) = false:=by
     cases e:cX G (.tup [a,b]) with
     | false=>rfl
     | true =>
      obtain ⟨n,k,c,e',ec,_⟩:=eU e
      cases e'
      cases hi
    rw [this] at q
    exact q
   | true =>
    refine bR ?_
    obtain ⟨k,rfl⟩:∃ k,b = .int k:=by cases b <;> first | exact ⟨_,rfl⟩ | cases hi
    obtain ⟨n,rfl⟩:∃ n,a = .str n:=by cases a <;> first | exact ⟨_,rfl⟩ | cases hn
    cases (show vb = .int k from ib)
    cases (show va = .str n from ia)
    have hn:(eI G n).isSome = true:=hn
    obtain ⟨c,ec⟩:=Option.isSome_iff_exists.mp hn
    have gc:=aDS (z:=n) hm
    rw [ec] at gc
    have q:Q (.bl (match eI G n with | some c=>decide (k ≠ 0) && (decide (-c ≤ k) && decide (k ≤ c)) | none=>false)) H:=q
    rw [ec] at q
    have q:Q (.bl (decide (k ≠ 0) && (decide (-c ≤ k) && decide (k ≤ c)))) H:=q
    refine ⟨_,rfl,t,_,1,.int k,rfl,rfl,SqT.of ot,aQ (j:=1) rfl,k,rfl,_,_,rfl,rfl,_,rfl,?_⟩
    by_cases k0:k = 0
    ·subst k0
     exact bR q
    ·have p0:0 < (if k < 0 then -k else k):=by split <;> omega
     rw [decide_eq_true p0]
     refine cP ⟨_,rfl,_,rfl,t,_,0,.str n,rfl,rfl,SqT.of ot,aQ (j:=0) rfl,dm,_,rfl,gc,_,_,rfl,rfl,?_⟩
     show Q (.bl (decide ((if k < 0 then -k else k) ≤ c))) H
     have:decide ((if k < 0 then -k else k) ≤ c) = (decide (k ≠ 0) && (decide (-c ≤ k) && decide (k ≤ c))):=by
      rw [decide_eq_true k0,Bool.true_and,← Bool.decide_and]
      congr 1
      rw [eq_iff_iff]
      split <;> omega
     rw [this]
     exact q
def wG (d:Dv):Prop:=∀ es,d = .lst es → es.length ≤ 1000
theorem wM:∀ ns ms:List Str,pH (ns.map Dv.str) (ms.map Dv.str) = decide (ns = ms)
 | [],[]=>rfl
 | [],_ :: _=>rfl
 | _ :: _,[]=>rfl
 | n :: ns,m :: ms=>by
  show ((n == m) && pH (ns.map Dv.str) (ms.map Dv.str)) = _
  rw [wM ns ms]
  by_cases h:n = m
  ·subst h
   by_cases h2:ns = ms
   ·subst h2
    simp
   ·rw [decide_eq_false h2,decide_eq_false (fun c=>h2 (List.cons.inj c).2),Bool.and_false]
  ·rw [beq_eq_false_iff_ne.mpr h,decide_eq_false (fun c=>h (List.cons.inj c).1),Bool.false_and]
theorem aBB (ns ms:List Str):deq (.lst (ns.map Dv.str)) (.lst (ms.map Dv.str)) = decide (ns = ms):=wM ns ms
def aCX:Sp:=sp2 fun x y H Q=>∃ (d:Dv) (dm:Addr) (V0:List Str) (G:List Gap),Is H d x ∧ wG d ∧ y = .ref dm ∧ H dm = some (.dK (fA G)) ∧ G.length ≤ 40 ∧ (G.map (·.nm)).Nodup ∧ ∀ H',oW dm H H' → Q (.bl (jQ G d)) H'
theorem tP (T:Txt K mg C):Fc P w K mg base 3 "is_stream" ["thing","most"] aCX:=by
 have G_p_is_flow:Fc P w K mg base 2 "is_flow" ["thing","most"] aDE:=yA T
 refine T.d_p_is_stream.fc mL iX (fun f cdv A outer s H vs Q E hr h=>?_)
 obtain ⟨x,y,rfl,d,dm,V0,G,hd,sm,rfl,hm,g40,nd,q⟩:=h
 have big:=cB
 have hu:=gR hr
 refine ⟨_,(@aG _ _ _ _ _ (@cL _ _ _ _ _ _ _ _ (@PW.pt _ _ _ (@iQ _ _ _ _ _ _ _ (@cR _ _ _ _ (@cK _ _ _ (@aT _ _ _ _ _ _ _ _ _ (@bY _ (K) rfl) rfl T.n_isinstance bP (@aA _ _ _ _ _ (pv 0) (@aA _ _ _ _ _ (@kQ _ _ _ _ T.n_list dP (by rfl) (by decide) (by decide)) aE (by rfl)) (by rfl)) (by decide) (by decide) (by rfl) (by rfl)) (by intro _;rfl))) (@jL _ _ _ _ (@cR _ _ _ _ (@cK _ _ _ (@aT _ _ _ _ _ _ _ _ _ (@nQ _ rfl) rfl T.n_all lD (@aA _ _ _ _ _ (@bX _ _ _ _ _ _ _ _ _ _ _ ["flow","most"] 1 [1] rfl (@bE _ (K) _ _ _ rfl (@bF _ _ _ _ (pv 0))) (fun R=>@aM _ _ (0) _ (show List.Nodup (["flow","most"]:List Str) by decide +kernel) rfl (Or.inl rfl) (by trivial)) (@bC _ _ (by decide)) (fun R=>cH) (fun R=>(@bU _ _ _ _ _ _ _ _ _ _ G_p_is_flow (hr.mono (by decide)) (@aA _ _ _ _ _ (pv 0) (@aA _ _ _ _ _ (pv 1) aE (by rfl)) (by rfl)) (by rfl) (by decide) (by rfl) (by rfl))) (by rfl) (by rfl) (by rfl) (by rfl) (by rfl) (by rfl) (by rfl) (by intro _;rfl)) aE (by rfl)) (by decide) (by decide) (by rfl) (by rfl)) (by intro _;rfl)))))) (@aH _ _ _ (@aS _ _ _ _ jO)) bI) (@aG _ _ _ _ _ (@aU _ _ (2) _ _ _ _ mL.nd rfl (Or.inr rfl) (@bX _ _ _ _ _ _ _ _ _ _ _ ["flow"] 1 [] rfl (@bE _ (K) _ _ _ rfl (@bF _ _ _ _ (pv 0))) (fun R=>@aM _ _ (0) _ (show List.Nodup (["flow"]:List Str) by decide +kernel) rfl (Or.inl rfl) (by trivial)) (@bC _ _ (by decide)) (fun R=>cH) (fun R=>(@aZ _ _ _ _ _ _ _ (@bD _ (K) rfl) (pv 0) aD (fun _ _=>rfl))) (by rfl) (by rfl) (by rfl) (by rfl) (by rfl) (by rfl) (by rfl) (by intro _;rfl)) (by rfl) (by trivial)) (@aH _ _ _ (@aS _ _ _ _ (@dM _ _ _ _ _ _ _ _ (@tN _ hr.units) (pv 2) (@bX _ _ _ _ _ _ _ _ _ _ _ ["name","names"] 1 [2] rfl (@aJQ _ _ _ _ (pv 1)) (fun R=>@aM _ _ (0) _ (show List.Nodup (["name","names"]:List Str) by decide +kernel) rfl (Or.inl rfl) (by trivial)) (@bC _ _ (by decide)) (fun R=>@fU _ _ _ (@bA _ _ _ _ _ _ _ _ (@lL _ (K) rfl) (pv 0) (pv 1) (by with_unfolding_all rfl))) (fun R=>(pv 0)) (by rfl) (by rfl) (by rfl) (by rfl) (by rfl) (by rfl) (by rfl) (by intro _;rfl)) (@bG _ _ (by decide) (by decide))))))),?_⟩
 obtain ⟨ty,hty,e1,e2,e3,e4,_⟩:=jU K hd
 refine ⟨_,rfl,_,_,_,ty,_,rfl,rfl,hty,e4,_,rfl,?_⟩
 cases d with
 | lst es =>
  refine bR ?_
  obtain ⟨l,us,rfl,hl,ius⟩:=hd
  have lus:=cW ius
  have les:es.length ≤ 1000:=sm es rfl
  refine ⟨_,rfl,l,rfl,⟨_,SqL.of hl⟩,?_⟩
  refine bH (F:=K) (xs:=us) (by omega) (fun i ys H'=>H = H' ∧ ys = ((es.take i).map (cX G)).map V.bl) ⟨rfl,rfl⟩ ?_ ?_ ?_
  ·rintro i ys H' hi ⟨rfl,rfl⟩
   exact ⟨SqL.of hl,by rw [List.length_map,List.length_map,List.length_take];omega⟩
  ·rintro i xv ys H' K1 K2 hx ⟨rfl,rfl⟩ k1 k2
   have hil:i < us.length:=(List.getElem?_eq_some_iff.mp hx).1
   obtain ⟨e,ee⟩:∃ e,es[i]? = some e:=⟨_,List.getElem?_eq_getElem (by omega)⟩
   obtain ⟨v,ev,iv⟩:=ius.get ee
   rw [hx] at ev
   cases ev
   refine ⟨_,rfl,_,rfl,_,_,rfl,e,dm,G,iv,rfl,.inl hm,k1 _ _ ⟨rfl,?_⟩⟩
   rw [List.take_add_one,ee,List.map_append,List.map_append]
   rfl
  rintro ys H1 ⟨rfl,rfl⟩
  rw [List.take_of_length_le (by omega)]
  intro la hla
  have S1:=aK.upd (o:=.lst ((es.map (cX G)).map V.bl)) hla
  have r1:upd H la (.lst ((es.map (cX G)).map V.bl)) la = some (.lst ((es.map (cX G)).map V.bl)):=aB
  generalize upd H la (.lst ((es.map (cX G)).map V.bl)) = H1 at S1 r1
  refine ⟨la,es.map (cX G),rfl,SqL.of r1,_,rfl,?_⟩
  have eall:(es.map (cX G)).all id = es.all (cX G):=by rw [List.all_map];rfl
  rw [eall]
  cases ha:es.all (cX G) with
  | false =>
   refine cP ?_
   have:jQ G (.lst es) = false:=by
    show (es.all (cX G) && _) = false
    rw [ha]
    rfl
   rw [this] at q
   exact q _ (aK.x S1)
  | true =>
   refine bR ?_
   have hl1:=S1 _ _ hl
   have ius1:=IsL.same S1 _ _ ius
   have hd1:=S1 _ _ hm
   have fl:=List.all_eq_true.mp ha
   refine ⟨_,rfl,l,rfl,⟨_,SqL.of hl1⟩,?_⟩
   refine bH (F:=K) (xs:=us) (by omega) (fun i ys H'=>H1 = H' ∧ ys = ((es.take i).map aJ).map V.str) ⟨rfl,rfl⟩ ?_ ?_ ?_
   ·rintro i ys H' hi ⟨rfl,rfl⟩
    exact ⟨SqL.of hl1,by rw [List.length_map,List.length_map,List.length_take];omega⟩
   ·rintro i xv ys H' K1 K2 hx ⟨rfl,rfl⟩ k1 k2
    have hil:i < us.length:=(List.getElem?_eq_some_iff.mp hx).1
    obtain ⟨e,ee⟩:∃ e,es[i]? = some e:=⟨_,List.getElem?_eq_getElem (by omega)⟩
    obtain ⟨v,ev,iv⟩:=ius1.get ee
    rw [hx] at ev
    cases ev
    obtain ⟨n,k,c,rfl,_⟩:=eU (fl e (List.mem_of_getElem? ee))
    obtain ⟨t,rfl,ot⟩:=qJ iv
    refine ⟨_,rfl,t,_,0,.str n,rfl,rfl,SqT.of ot,aQ (j:=0) rfl,k1 _ _ ⟨rfl,?_⟩⟩
    rw [List.take_add_one,ee,List.map_append,List.map_append]
    rfl
   rintro ys H2 ⟨rfl,rfl⟩
   rw [List.take_of_length_le (by omega)]
   have q:∀ H',oW dm H H' → Q (.bl (decide (es.map aJ = (G.map (·.nm)).filter fun z=>decide (z ∈ es.map aJ)))) H':=by
    have:jQ G (.lst es) = decide (es.map aJ = (G.map (·.nm)).filter fun z=>decide (z ∈ es.map aJ)):=by
     show (es.all (cX G) && _) = _
     rw [ha,Bool.true_and]
    rw [this] at q
    exact q
   generalize es.map aJ = ns at q
   intro ln hln
   have S2:=aK.upd (o:=.lst (ns.map V.str)) hln
   have r2:upd H1 ln (.lst (ns.map V.str)) ln = some (.lst (ns.map V.str)):=aB
   generalize upd H1 ln (.lst (ns.map V.str)) = H2 at S2 r2
   have hd2:=S2 _ _ hd1
   refine ⟨_,rfl,_,rfl,dm,_,rfl,hd2,fun o=>?_⟩
   have dF:upd H2 dm (.frz o (.dK (fA G))) dm = some (.frz o (.dK (fA G))):=aB
   have r3:upd H2 dm (.frz o (.dK (fA G))) ln = some (.lst (ns.map V.str)):=by rw [aR (rO r2 hd2 (by intro c;cases c))];exact r2
   have X3:oW dm H (upd H2 dm (.frz o (.dK (fA G)))):=(aK.x (S1.trans S2)).put
   generalize upd H2 dm (.frz o (.dK (fA G))) = H3 at dF r3 X3
   refine aFD (by rw [oK];omega) (fun i ys H'=>H3 = H' ∧ ys = (((G.take i).map (·.nm)).filter fun z=>decide (z ∈ ns)).map V.str) ⟨rfl,rfl⟩ ?_ ?_ ?_
   ·rintro i ys H' hi ⟨rfl,rfl⟩
    refine ⟨dF,?_⟩
    have:=List.length_filter_le (fun z=>decide (z ∈ ns)) ((G.take i).map (·.nm))
    rw [List.length_map,List.length_take] at this
    rw [List.length_map]
    omega
   ·rintro i kv ys H' K1 K2 hk ⟨rfl,rfl⟩ k1 k2
    unfold fA at hk
    rw [List.getElem?_map] at hk
    obtain ⟨g,eg,ekv⟩:=Option.map_eq_some_iff.mp hk
    have ek:kV kv.1 = V.str g.nm:=by rw [← ekv];rfl
    rw [ek]
    refine ⟨_,rfl,_,rfl,ln,_,rfl,.inl (SqL.of r3),rfl,gB ns,_,rfl,?_⟩
    rw [if_neg Bool.false_ne_true,lR]
    have et:(((G.take (i + 1)).map (·.nm)).filter fun z=>decide (z ∈ ns)) = (((G.take i).map (·.nm)).filter fun z=>decide (z ∈ ns)) ++ [g.nm].filter fun z=>decide (z ∈ ns):=by
     rw [List.take_add_one,eg,List.map_append,List.filter_append]
     rfl
    refine dZ (fun h1=>?_) (fun h1=>?_)
    ·refine ⟨_,rfl,k1 _ _ ⟨rfl,?_⟩⟩
     rw [et,List.filter_cons_of_pos (p:=fun z=>decide (z ∈ ns)) h1,List.filter_nil,List.map_append]
     rfl
    ·refine k2 _ ⟨rfl,?_⟩
     rw [et,List.filter_cons_of_neg (p:=fun z=>decide (z ∈ ns)) h1,List.filter_nil,List.append_nil]
   rintro ys H4 ⟨rfl,rfl⟩
   rw [oK,List.take_of_length_le (Nat.le_refl _)]
   generalize (G.map (·.nm)).filter (fun z=>decide (z ∈ ns)) = ms at q
   intro lc hlc
   have S4:=aK.upd (o:=.lst (ms.map V.str)) hlc
   refine ⟨.lst (ns.map Dv.str),.lst (ms.map Dv.str),nZ (S4 _ _ r3),nZ aB,jV _,jV _,?_⟩
   show Q (.bl (deq _ _)) _
   rw [aBB]
   exact q _ (X3.then S4)
 | _=>exact cP (q _ (aK.x (aK.refl _)))
open Mt53 Mt22 MtF Mt31 Mt61
def aDP:Dv → List Dv
 | .lst es=>es
 | _=>[]
def mX (ns zs:List Str) (G:List Gap) (f:Fl):Option Int:=if (((ns.filter fun z=>!decide (z ∈ zs)).map fun z=>!decide (net G f z = 0)).any id || (zs.map fun z=>decide (net G f z < 0)).any id) = true then none else some (zs.map (net G f)).sum
def iV (ns zs:List Str) (G:List Gap) (d:Dv):Option Int:=if jQ G d = true then mX ns zs G (flE (aDP d)) else none
def tK:Option Int → V
 | none=>.non
 | some i=>.int i
def sQ (C:Addr):Sp:=fun vs H Q _=>∃ (x y u v:V) (p l:Addr) (fs ds:List Dv) (zs:List Str) (L:Int) (d:Dv),vs = [x,y,u,v] ∧ x = .ref p ∧ LandAt C H p fs ds ∧ y = .ref l ∧ H l = some (.lst (zs.map V.str)) ∧ 1 ≤ zs.length ∧ zs.Nodup ∧ (∀ z ∈ zs,z ∈ fs.map aJ) ∧ u = .int L ∧ hgt L = true ∧ Is H d v ∧ wG d ∧ ∀ H',aK H H' → Q (tK (iV (fs.map aJ) zs (gapsD fs ds L) d)) H'
theorem aHN:∀ vs H Q E,sQ C vs H Q E → vs.length = 4:=fun vs H Q E ⟨x,y,u,v,p,l,fs,ds,zs,L,d,e,_⟩=>by rw [e];rfl
theorem tO (T:Txt K mg C):Fc P w K mg base 5 "paper_for" ["land","fields","height","stream"] (sQ C):=by
 have G_p_check_wish:Fc P w K mg base 3 "check_wish" ["land","fields","height"] (zO C):=sB T
 have G_p_gap_coins:Fc P w K mg base 4 "gap_coins" ["land","height"] (aGD C):=tQ T
 have G_p_is_stream:Fc P w K mg base 3 "is_stream" ["thing","most"] aCX:=tP T
 have G_p_gains_by:Fc P w K mg base 2 "gains_by" ["land","stream"] (aDD C):=vD T
 have G_land_p_field_names:Mc P w K mg base 1 C "field_names" ["self"] (iL C fun fs _=>fs.map aJ):=cO T
 refine T.d_p_paper_for.fc jD aHN (fun f cdv A outer s H vs Q E hr h=>?_)
 obtain ⟨x,y,u,v,p,l,fs,ds,zs,lv,d,rfl,rfl,L,rfl,hl,l1,nd,sub,rfl,hL,hd,sm,q⟩:=h
 have big:=cB
 have hu:=gR hr
 have gf:=(bV L).1
 have gd:=(bV L).2
 have d2:=gd.l2
 have f2:=gf.l2
 have GG:=lW gf gd lv
 have gl:=jR fs ds lv
 have ns:Mt22.sea ∉ zs:=fun m=>by
  obtain ⟨d,md,e⟩:=List.mem_map.mp (sub _ m)
  obtain ⟨z,g,u,rfl,hz,_⟩:=bW (gf.all d md)
  exact oE hz e
 have nf:Mt22.sea ∉ fs.map aJ:=fun m=>by
  obtain ⟨d,md,e⟩:=List.mem_map.mp m
  obtain ⟨z,g,u,rfl,hz,_⟩:=bW (gf.all d md)
  exact oE hz e
 have lz:zs.length ≤ fs.length:=by
  have:=jP nd sub
  rw [List.length_map] at this
  exact this
 refine ⟨_,(@aG _ _ _ _ _ (@hW _ _ _ _ (@bU _ _ _ _ _ _ _ _ _ _ G_p_check_wish (hr.mono (by decide)) (@aA _ _ _ _ _ (pv 0) (@aA _ _ _ _ _ (pv 1) (@aA _ _ _ _ _ (pv 2) aE (by rfl)) (by rfl)) (by rfl)) (by rfl) (by decide) (by rfl) (by rfl)) (by rfl)) (@aG _ _ _ _ _ (@cL _ _ _ _ _ _ _ _ (@cR _ _ _ _ (@cK _ _ _ (@bU _ _ _ _ _ _ _ _ _ _ G_p_is_stream (hr.mono (by decide)) (@aA _ _ _ _ _ (pv 3) (@aA _ _ _ _ _ (@bU _ _ _ _ _ _ _ _ _ _ G_p_gap_coins (hr.mono (by decide)) (@aA _ _ _ _ _ (pv 0) (@aA _ _ _ _ _ (pv 2) aE (by rfl)) (by rfl)) (by rfl) (by decide) (by rfl) (by rfl)) aE (by rfl)) (by rfl)) (by rfl) (by decide) (by rfl) (by rfl)) (by intro _;rfl))) (@aH _ _ _ (@aS _ _ _ _ gZ)) bI) (@aG _ _ _ _ _ (@aU _ _ (4) _ _ _ _ jD.nd rfl (Or.inr rfl) (@bU _ _ _ _ _ _ _ _ _ _ G_p_gains_by (hr.mono (by decide)) (@aA _ _ _ _ _ (pv 0) (@aA _ _ _ _ _ (pv 3) aE (by rfl)) (by rfl)) (by rfl) (by decide) (by rfl) (by rfl)) (by rfl) (by trivial)) (@aG _ _ _ _ _ (@oZ _ (5) _ _ _ _ _ _ _ _ _ _ _ _ _ jD.nd rfl ["name","fields"] 1 [1] rfl (@bE _ (K) _ _ _ rfl (@bF _ _ _ _ (@kR _ _ _ _ _ _ _ _ _ _ _ T.cl_Land G_land_p_field_names (hr.mono (by decide)) (pv 0) (by rfl)))) (fun R=>@aM _ _ (0) _ (show List.Nodup (["name","fields"]:List Str) by decide +kernel) rfl (Or.inl rfl) (by trivial)) (@bC _ _ (by decide)) (fun R=>@fU _ _ _ (@bA _ _ _ _ _ _ _ _ (@hX _ (K) rfl) (pv 0) (pv 1) (by with_unfolding_all rfl))) (fun R=>(pv 0)) (by exact Or.inl rfl) (by trivial) (by rfl) (by rfl) (by rfl) (by rfl) (by rfl) (by rfl) (by rfl) (by rfl) (by intro _;rfl)) (@aG _ _ _ _ _ (@cL _ _ _ _ _ _ _ _ (@PW.pt _ _ _ (@iQ _ _ _ _ _ _ _ (@cK _ _ _ (@aT _ _ _ _ _ _ _ _ _ (aBG rfl) rfl T.n_any wU (@aA _ _ _ _ _ (@bX _ _ _ _ _ _ _ _ _ _ _ ["name","gains"] 1 [4] rfl (@bE _ (K) _ _ _ rfl (@bF _ _ _ _ (pv 5))) (fun R=>@aM _ _ (0) _ (show List.Nodup (["name","gains"]:List Str) by decide +kernel) rfl (Or.inl rfl) (by trivial)) (@bC _ _ (by decide)) (fun R=>cH) (fun R=>(@dM _ _ _ _ _ _ _ _ tM (@dR _ _ _ _ _ _ hu (pv 1) (pv 0) (fun _ _=>rfl)) aD (@bG _ _ (by decide) (by decide)))) (by rfl) (by rfl) (by rfl) (by rfl) (by rfl) (by rfl) (by rfl) (by intro _;rfl)) aE (by rfl)) (by decide) (by decide) (by rfl) (by rfl)) (by intro _;rfl)) (@jL _ _ _ _ (@cK _ _ _ (@aT _ _ _ _ _ _ _ _ _ (aBG rfl) rfl T.n_any wU (@aA _ _ _ _ _ (@bX _ _ _ _ _ _ _ _ _ _ _ ["name","gains"] 1 [4] rfl (@bE _ (K) _ _ _ rfl (@bF _ _ _ _ (pv 1))) (fun R=>@aM _ _ (0) _ (show List.Nodup (["name","gains"]:List Str) by decide +kernel) rfl (Or.inl rfl) (by trivial)) (@bC _ _ (by decide)) (fun R=>cH) (fun R=>(@dM _ _ _ _ _ _ _ _ mY (@dR _ _ _ _ _ _ hu (pv 1) (pv 0) (fun _ _=>rfl)) aD (@bG _ _ (by decide) (by decide)))) (by rfl) (by rfl) (by rfl) (by rfl) (by rfl) (by rfl) (by rfl) (by intro _;rfl)) aE (by rfl)) (by decide) (by decide) (by rfl) (by rfl)) (by intro _;rfl))))) (@aH _ _ _ (@aS _ _ _ _ gZ)) bI) (@aH _ _ _ (@aS _ _ _ _ (@aT _ _ _ _ _ _ _ _ _ (uU rfl) rfl T.n_sum rF (@aA _ _ _ _ _ (@bX _ _ _ _ _ _ _ _ _ _ _ ["name","gains"] 1 [4] rfl (@bE _ (K) _ _ _ rfl (@bF _ _ _ _ (pv 1))) (fun R=>@aM _ _ (0) _ (show List.Nodup (["name","gains"]:List Str) by decide +kernel) rfl (Or.inl rfl) (by trivial)) (@bC _ _ (by decide)) (fun R=>cH) (fun R=>(@dR _ _ _ _ _ _ hu (pv 1) (pv 0) (fun _ _=>rfl))) (by rfl) (by rfl) (by rfl) (by rfl) (by rfl) (by rfl) (by rfl) (by intro _;rfl)) aE (by rfl)) (by decide) (by decide) (by rfl) (by rfl))))))))),?_⟩
 refine ⟨_,rfl,_,rfl,_,rfl,_,_,_,rfl,p,l,fs,ds,zs,lv,rfl,L,rfl,hl,l1,nd,sub,rfl,hL,fun H1 S1=>?_⟩
 refine ⟨_,rfl,_,rfl,_,rfl,_,_,rfl,p,fs,ds,lv,rfl,L.same S1,rfl,fun dm H2 S2 nm2 hm2=>?_⟩
 have T2:=S1.trans S2
 refine ⟨_,_,rfl,d,dm,[],gapsD fs ds lv,Is.same T2 _ _ hd,sm,rfl,hm2,by omega,GG.nd,fun H3 X3=>⟨_,rfl,?_⟩⟩
 have nmH:H dm = none:=S1.free nm2
 have T3:aK H H3:=fun b u e=>X3 _ _ (T2 _ _ e) (bB e nmH)
 cases hs:jQ (gapsD fs ds lv) d with
 | false =>
  refine cP ?_
  have:iV (fs.map aJ) zs (gapsD fs ds lv) d = none:=by unfold iV;rw [hs,if_neg Bool.false_ne_true]
  rw [this] at q
  exact q _ T3
 | true =>
 refine bR ?_
 have q:∀ H',aK H H' → Q (tK (mX (fs.map aJ) zs (gapsD fs ds lv) (flE (aDP d)))) H':=by
  have:iV (fs.map aJ) zs (gapsD fs ds lv) d = mX (fs.map aJ) zs (gapsD fs ds lv) (flE (aDP d)):=by unfold iV;rw [hs,if_pos rfl]
  rw [this] at q
  exact q
 obtain ⟨es,rfl⟩:∃ es,d = .lst es:=by cases d <;> first | exact ⟨_,rfl⟩ | cases hs
 obtain ⟨eam,_,_⟩:=vR GG hs
 obtain ⟨la,ua,rfl,hla,iua⟩:=hd
 have iua:IsL H (jT (gapsD fs ds lv) (flE es)) ua:=by rw [← eam];exact iua
 have q:∀ H',aK H H' → Q (tK (mX (fs.map aJ) zs (gapsD fs ds lv) (flE es))) H':=q
 generalize flE es = fl at iua q
 refine ⟨_,rfl,_,rfl,_,_,rfl,p,la,fs,ds,lv,ua,fl,rfl,L.same T3,rfl,T3 _ _ hla,IsL.same T3 _ _ iua,fun de H4 S4 nde hde=>?_⟩
 have T4:=T3.trans S4
 have L4:=L.same T4
 obtain ⟨dx,d1,d2',hx,_⟩:=L4.ex
 refine ⟨_,rfl,p,dx,_,rfl,hx,dI _ _ (by decide +kernel) (by decide +kernel),_,rfl,p,fs,ds,rfl,L4,fun ln H5 S5 fln hln=>?_⟩
 have T5:=T4.trans S5
 have hl5:=T5 _ _ hl
 have hde5:=S5 _ _ hde
 have lfn:(fs.map aJ).length = fs.length:=List.length_map _
 refine ⟨ln,rfl,⟨_,SqL.of hln⟩,?_⟩
 refine bH (F:=K) (xs:=(fs.map aJ).map V.str) (by rw [List.length_map];omega) (fun i ys H'=>H5 = H' ∧ ys = (((fs.map aJ).take i).filter fun z=>!decide (z ∈ zs)).map V.str) ⟨rfl,rfl⟩ ?_ ?_ ?_
 ·rintro i ys H' hi ⟨rfl,rfl⟩
  refine ⟨SqL.of hln,?_⟩
  have:=List.length_filter_le (fun z=>!decide (z ∈ zs)) ((fs.map aJ).take i)
  rw [List.length_take] at this
  rw [List.length_map]
  omega
 ·rintro i xv ys H' K1 K2 hx' ⟨rfl,rfl⟩ k1 k2
  rw [List.getElem?_map] at hx'
  obtain ⟨z,ez,rfl⟩:=Option.map_eq_some_iff.mp hx'
  refine ⟨_,rfl,_,rfl,l,_,rfl,.inl (SqL.of hl5),rfl,gB zs,_,rfl,?_⟩
  rw [if_pos rfl,lR]
  have et:=oM (P:=fun z=>!decide (z ∈ zs)) ez
  cases hz:(!decide (z ∈ zs)) with
  | true =>
   rw [hz] at et
   refine cP ⟨_,rfl,k1 _ _ ⟨rfl,?_⟩⟩
   rw [et,if_pos rfl,List.map_append]
   rfl
  | false =>
   rw [hz] at et
   refine bR (k2 _ ⟨rfl,?_⟩)
   rw [et,if_neg (by decide),List.append_nil]
 rintro ys H' ⟨rfl,rfl⟩
 rw [List.length_map,List.take_of_length_le (Nat.le_refl _)]
 have hos:∀ z ∈ (fs.map aJ).filter (fun z=>!decide (z ∈ zs)),z ∈ fs.map aJ:=fun z m=>(List.mem_filter.mp m).1
 have los:=List.length_filter_le (fun z=>!decide (z ∈ zs)) (fs.map aJ)
 unfold mX at q
 generalize (fs.map aJ).filter (fun z=>!decide (z ∈ zs)) = os at hos los q
 intro lo hlo
 have S6:=aK.upd (o:=.lst (os.map V.str)) hlo
 have r6:upd H5 lo (.lst (os.map V.str)) lo = some (.lst (os.map V.str)):=aB
 generalize upd H5 lo (.lst (os.map V.str)) = H6 at S6 r6
 have hde6:=S6 _ _ hde5
 refine ⟨_,rfl,lo,rfl,⟨_,SqL.of r6⟩,?_⟩
 refine bH (F:=K) (xs:=os.map V.str) (by rw [List.length_map];omega) (fun i ys H'=>H6 = H' ∧ ys = ((os.take i).map fun z=>!decide (net (gapsD fs ds lv) fl z = 0)).map V.bl) ⟨rfl,rfl⟩ ?_ ?_ ?_
 ·rintro i ys H' hi ⟨rfl,rfl⟩
  exact ⟨SqL.of r6,by rw [List.length_map,List.length_map,List.length_take];omega⟩
 ·rintro i xv ys H' K1 K2 hx' ⟨rfl,rfl⟩ k1 k2
  rw [List.getElem?_map] at hx'
  obtain ⟨z,ez,rfl⟩:=Option.map_eq_some_iff.mp hx'
  have mz:=hos z (List.mem_of_getElem? ez)
  refine ⟨_,rfl,_,rfl,de,_,rfl,.inl ⟨_,Sum.inr z,.inl hde6,rfl,(fF GG.vnd (List.mem_cons_of_mem _ mz) _).symm⟩,rfl,?_⟩
  refine k1 _ _ ⟨rfl,?_⟩
  rw [List.take_add_one,ez,List.map_append,List.map_append]
  show _ ++ [V.bl (!decide (V.int _ = V.int _))] = _
  rw [gT]
  rfl
 rintro ys H' ⟨rfl,rfl⟩
 rw [List.length_map,List.take_of_length_le (Nat.le_refl _)]
 intro l7 h7
 have S7:=aK.upd (o:=.lst ((os.map fun z=>!decide (net (gapsD fs ds lv) fl z = 0)).map V.bl)) h7
 have r7:upd H6 l7 (.lst ((os.map fun z=>!decide (net (gapsD fs ds lv) fl z = 0)).map V.bl)) l7 = some (.lst ((os.map fun z=>!decide (net (gapsD fs ds lv) fl z = 0)).map V.bl)):=aB
 generalize upd H6 l7 (.lst ((os.map fun z=>!decide (net (gapsD fs ds lv) fl z = 0)).map V.bl)) = H7 at S7 r7
 refine ⟨l7,_,rfl,SqL.of r7,_,rfl,?_⟩
 have T7:=T5.trans (S6.trans S7)
 cases ho:(os.map fun z=>!decide (net (gapsD fs ds lv) fl z = 0)).any id with
 | true =>
  refine cP ?_
  rw [ho,Bool.true_or,if_pos rfl] at q
  exact q _ T7
 | false =>
 rw [ho,Bool.false_or] at q
 refine bR ?_
 have hl7:=T7 _ _ hl
 have hde7:=S7 _ _ hde6
 refine ⟨_,rfl,l,rfl,⟨_,SqL.of hl7⟩,?_⟩
 refine bH (F:=K) (xs:=zs.map V.str) (by rw [List.length_map];omega) (fun i ys H'=>H7 = H' ∧ ys = ((zs.take i).map fun z=>decide (net (gapsD fs ds lv) fl z < 0)).map V.bl) ⟨rfl,rfl⟩ ?_ ?_ ?_
 ·rintro i ys H' hi ⟨rfl,rfl⟩
  exact ⟨SqL.of hl7,by rw [List.length_map,List.length_map,List.length_take];omega⟩
 ·rintro i xv ys H' K1 K2 hx' ⟨rfl,rfl⟩ k1 k2
  rw [List.getElem?_map] at hx'
  obtain ⟨z,ez,rfl⟩:=Option.map_eq_some_iff.mp hx'
  have mz:=List.mem_of_getElem? ez
  refine ⟨_,rfl,_,rfl,de,_,rfl,.inl ⟨_,Sum.inr z,.inl hde7,rfl,(fF GG.vnd (List.mem_cons_of_mem _ (sub z mz)) _).symm⟩,_,_,rfl,rfl,?_⟩
  refine k1 _ _ ⟨rfl,?_⟩
  rw [List.take_add_one,ez,List.map_append,List.map_append]
  rfl
 rintro ys H' ⟨rfl,rfl⟩
 rw [List.length_map,List.take_of_length_le (Nat.le_refl _)]
 intro l8 h8
 have S8:=aK.upd (o:=.lst ((zs.map fun z=>decide (net (gapsD fs ds lv) fl z < 0)).map V.bl)) h8
 have r8:upd H7 l8 (.lst ((zs.map fun z=>decide (net (gapsD fs ds lv) fl z < 0)).map V.bl)) l8 = some (.lst ((zs.map fun z=>decide (net (gapsD fs ds lv) fl z < 0)).map V.bl)):=aB
 generalize upd H7 l8 (.lst ((zs.map fun z=>decide (net (gapsD fs ds lv) fl z < 0)).map V.bl)) = H8 at S8 r8
 refine ⟨l8,_,rfl,SqL.of r8,_,rfl,?_⟩
 cases hw:(zs.map fun z=>decide (net (gapsD fs ds lv) fl z < 0)).any id with
 | true =>
  refine cP ?_
  rw [hw,if_pos rfl] at q
  exact q _ (T7.trans S8)
 | false =>
 rw [hw,if_neg Bool.false_ne_true] at q
 refine bR ?_
 have hl8:=S8 _ _ hl7
 have hde8:=S8 _ _ hde7
 refine ⟨_,rfl,l,rfl,⟨_,SqL.of hl8⟩,?_⟩
 refine bH (F:=K) (xs:=zs.map V.str) (by rw [List.length_map];omega) (fun i ys H'=>H8 = H' ∧ ys = ((zs.take i).map (net (gapsD fs ds lv) fl)).map V.int) ⟨rfl,rfl⟩ ?_ ?_ ?_
 ·rintro i ys H' hi ⟨rfl,rfl⟩
  exact ⟨SqL.of hl8,by rw [List.length_map,List.length_map,List.length_take];omega⟩
 ·rintro i xv ys H' K1 K2 hx' ⟨rfl,rfl⟩ k1 k2
  rw [List.getElem?_map] at hx'
  obtain ⟨z,ez,rfl⟩:=Option.map_eq_some_iff.mp hx'
  have mz:=List.mem_of_getElem? ez
  refine ⟨_,rfl,_,rfl,de,_,rfl,.inl ⟨_,Sum.inr z,.inl hde8,rfl,(fF GG.vnd (List.mem_cons_of_mem _ (sub z mz)) _).symm⟩,?_⟩
  refine k1 _ _ ⟨rfl,?_⟩
  rw [List.take_add_one,ez,List.map_append,List.map_append]
  rfl
 rintro ys H' ⟨rfl,rfl⟩
 rw [List.length_map,List.take_of_length_le (Nat.le_refl _)]
 intro l9 h9
 have S9:=aK.upd (o:=.lst ((zs.map (net (gapsD fs ds lv) fl)).map V.int)) h9
 refine ⟨l9,zs.map (net (gapsD fs ds lv) fl),rfl,SqL.of aB,?_⟩
 exact q _ (T7.trans (S8.trans S9))
open Mt53 Mt22 MtF Mt31 Mt61
mutual
theorem dH:∀ (n:Nat) (d:Dv),aO n d = true → aO (n + 1) d = true
 | 0,.lst ds,h=>by simp [aO] at h
 | 0,.tup ds,h=>by simp [aO] at h
 | n + 1,.lst ds,h=>pE n ds h
 | n + 1,.tup ds,h=>pE n ds h
 | n,.dct _ _,h=>by cases n <;> simp [aO] at h
 | n,.non,_=>rfl
 | n,.bl _,_=>rfl
 | n,.int _,_=>rfl
 | n,.str _,_=>rfl
theorem pE:∀ (n:Nat) (ds:List Dv),bT n ds = true → bT (n + 1) ds = true
 | n,[],_=>rfl
 | n,d :: ds,h=>by
  obtain ⟨x1,x2⟩:=Bool.and_eq_true_iff.mp (show (aO n d && bT n ds) = true from h)
  show (aO (n + 1) d && bT (n + 1) ds) = true
  rw [dH n d x1,pE n ds x2]
  rfl
end
theorem aDT {d:Dv} (h:aO 28 d = true):aO 29 d = true ∧ aO 30 d = true:=⟨dH _ _ h,dH _ _ (dH _ _ h)⟩
def hdD:Dv → Dv
 | .tup (a :: _)=>a
 | _=>.non
def qK:Dv → Bool
 | .tup [_,b]=>isInt b
 | _=>false
def kC (dn:List Str) (hs:List Dv):List Str:=dn.filter fun z=>hs.any fun e=>deq e (.str z)
def aEJ (dn:List Str):Dv → Bool
 | .lst es=>es.all qK && deq (.lst (es.map hdD)) (.lst ((kC dn (es.map hdD)).map Dv.str))
 | _=>false
def flatL (d:Dv):Prop:=∀ es,d = .lst es → aO 30 d = true
def sO:Sp:=sp1 fun x H Q=>∃ d,Is H d x ∧ Q (.bl (isInt d)) H
theorem tU (T:Txt K mg C):Fc P w K mg base 1 "_law_whole" ["_law_found"] sO:=by
 refine T.d_l_whole.fc aBT nG (fun f cdv A outer s H vs Q E hr h=>?_)
 obtain ⟨x,rfl,d,hd,q⟩:=h
 obtain ⟨t,ty,e1,e2,_⟩:=jU K hd
 refine ⟨_,(@aH _ _ _ (@aS _ _ _ _ (@dL _ _ _ _ _ _ _ (@aT _ _ _ _ _ _ _ _ _ (@bY _ (K) rfl) rfl T.n_isinstance bP (@aA _ _ _ _ _ (pv 0) (@aA _ _ _ _ _ (@kQ _ _ _ _ T.n_int wT (by rfl) (by decide) (by decide)) aE (by rfl)) (by rfl)) (by decide) (by decide) (by rfl) (by rfl)) (@eB _ _ _ _ _ (@aGY _ _ _ _ (@aT _ _ _ _ _ _ _ _ _ (@bY _ (K) rfl) rfl T.n_isinstance bP (@aA _ _ _ _ _ (pv 0) (@aA _ _ _ _ _ (@kQ _ _ _ _ T.n_bool uW (by rfl) (by decide) (by decide)) aE (by rfl)) (by rfl)) (by decide) (by decide) (by rfl) (by rfl))))))),?_⟩
 refine ⟨_,rfl,_,_,_,t,_,rfl,rfl,ty,e1,_,rfl,?_⟩
 cases d with
 | int i=>exact cP ⟨_,rfl,_,_,_,t,_,rfl,rfl,ty,e2,_,rfl,q⟩
 | bl b=>exact cP ⟨_,rfl,_,_,_,t,_,rfl,rfl,ty,e2,_,rfl,q⟩
 | _=>exact bR q
def zQ (C:Addr):Sp:=sp2 fun x y H Q=>∃ (p:Addr) (fs ds:List Dv) (d:Dv),x = .ref p ∧ LandAt C H p fs ds ∧ Is H d y ∧ wG d ∧ flatL d ∧ ∀ H',aK H H' → Q (.bl (aEJ (ds.map aJ) d)) H'
theorem vH (T:Txt K mg C):Fc P w K mg base 2 "_law_in_order" ["_law_land_here","_law_steps"] (zQ C):=by
 have G_l_whole:Fc P w K mg base 1 "_law_whole" ["_law_found"] sO:=tU T
 have G_land_p_dyke_names:Mc P w K mg base 1 C "dyke_names" ["self"] (iL C fun _ ds=>ds.map aJ):=dN T
 refine T.d_l_in_order.fc jY iX (fun f cdv A outer s H vs Q E hr h=>?_)
 obtain ⟨x,y,rfl,p,fs,ds,d,rfl,L,hd,sm,flt,q⟩:=h
 have big:=cB
 have hu:=gR hr
 have gd:=(bV L).2
 have d2:=gd.l2
 refine ⟨_,(@aG _ _ _ _ _ (@cL _ _ _ _ _ _ _ _ (@cR _ _ _ _ (@cK _ _ _ (@aT _ _ _ _ _ _ _ _ _ (@bY _ (K) rfl) rfl T.n_isinstance bP (@aA _ _ _ _ _ (pv 1) (@aA _ _ _ _ _ (@kQ _ _ _ _ T.n_list dP (by rfl) (by decide) (by decide)) aE (by rfl)) (by rfl)) (by decide) (by decide) (by rfl) (by rfl)) (by intro _;rfl))) (@aH _ _ _ (@aS _ _ _ _ jO)) bI) (@aG _ _ _ _ _ (@eJ _ _ _ _ _ _ _ _ PassesOwn.never rfl (@bE _ (K) _ _ _ rfl (@bF _ _ _ _ (pv 1))) (@aM _ _ (2) _ jY.nd rfl (Or.inl rfl) (by trivial)) (@aH _ _ _ (@cL _ _ _ _ _ _ _ _ (@PW.pt _ _ _ (@iQ _ _ _ _ _ _ _ (@cR _ _ _ _ (@cK _ _ _ (@aT _ _ _ _ _ _ _ _ _ (@bY _ (K) rfl) rfl T.n_isinstance bP (@aA _ _ _ _ _ (pv 2) (@aA _ _ _ _ _ (@kQ _ _ _ _ T.n_tuple nR (by rfl) (by decide) (by decide)) aE (by rfl)) (by rfl)) (by decide) (by decide) (by rfl) (by rfl)) (by intro _;rfl))) (@iQ _ _ _ _ _ _ _ (@bA _ _ _ _ _ _ _ _ tM (@aT _ _ _ _ _ _ _ _ _ (@aY _ (K) rfl) rfl T.n_len bS (@aA _ _ _ _ _ (pv 2) aE (by rfl)) (by decide) (by decide) (by rfl) (by rfl)) aD (@bG _ _ (by decide) (by decide))) (@jL _ _ _ _ (@cR _ _ _ _ (@cK _ _ _ (@bU _ _ _ _ _ _ _ _ _ _ G_l_whole (hr.mono (by decide)) (@aA _ _ _ _ _ (@aZ _ _ _ _ _ _ _ (@bD _ (K) rfl) (pv 2) aD (fun _ _=>rfl)) aE (by rfl)) (by rfl) (by decide) (by rfl) (by rfl)) (by intro _;rfl))))))) (@aH _ _ _ (@aS _ _ _ _ jO)) bI)) (by intro _;rfl)) (@aG _ _ _ _ _ (@aU _ _ (3) _ _ _ _ jY.nd rfl (Or.inr rfl) (@bX _ _ _ _ _ _ _ _ _ _ _ ["_law_step"] 1 [] rfl (@bE _ (K) _ _ _ rfl (@bF _ _ _ _ (pv 1))) (fun R=>@aM _ _ (0) _ (show List.Nodup (["_law_step"]:List Str) by decide +kernel) rfl (Or.inl rfl) (by trivial)) (@bC _ _ (by decide)) (fun R=>cH) (fun R=>(@aZ _ _ _ _ _ _ _ (@bD _ (K) rfl) (pv 0) aD (fun _ _=>rfl))) (by rfl) (by rfl) (by rfl) (by rfl) (by rfl) (by rfl) (by rfl) (by intro _;rfl)) (by rfl) (by trivial)) (@aH _ _ _ (@aS _ _ _ _ (@dM _ _ _ _ _ _ _ _ (@tN _ hr.units) (pv 3) (@bX _ _ _ _ _ _ _ _ _ _ _ ["_law_name","_law_told_here"] 1 [3] rfl (@bE _ (K) _ _ _ rfl (@bF _ _ _ _ (@kR _ _ _ _ _ _ _ _ _ _ _ T.cl_Land G_land_p_dyke_names (hr.mono (by decide)) (pv 0) (by rfl)))) (fun R=>@aM _ _ (0) _ (show List.Nodup (["_law_name","_law_told_here"]:List Str) by decide +kernel) rfl (Or.inl rfl) (by trivial)) (@bC _ _ (by decide)) (fun R=>@fU _ _ _ (@bA _ _ _ _ _ _ _ _ (aLW hr.units) (pv 0) (pv 1) (by with_unfolding_all rfl))) (fun R=>(pv 0)) (by rfl) (by rfl) (by rfl) (by rfl) (by rfl) (by rfl) (by rfl) (by intro _;rfl)) (@bG _ _ (by decide) (by decide)))))))),?_⟩
 obtain ⟨ty,hty,e1,e2,e3,e4,_⟩:=jU K hd
 refine ⟨_,rfl,_,_,_,ty,_,rfl,rfl,hty,e4,_,rfl,?_⟩
 cases d with
 | lst es =>
  refine bR ?_
  obtain ⟨l,us,rfl,hl,ius⟩:=hd
  have lus:=cW ius
  have les:es.length ≤ 1000:=sm es rfl
  have f30:bT 29 es = true:=by have:=flt es rfl;simpa [aO] using this
  refine ⟨_,rfl,l,rfl,⟨_,SqL.of hl⟩,dW (K:=K) (a:=l) (xs:=us) (fun i σ H'=>∃ v2,σ = [some (.ref p),some (.ref l),v2,none] ∧ H = H' ∧ (es.take i).all qK = true) ⟨_,rfl,rfl,rfl⟩ ?_ ?_ ?_⟩
  ·rintro i σ H' hi ⟨v2,rfl,rfl,_⟩
   exact SqL.of hl
  ·rintro i xv σ H' hx ⟨v2,rfl,rfl,al⟩
   have hil:i < us.length:=(List.getElem?_eq_some_iff.mp hx).1
   obtain ⟨e,ee⟩:∃ e,es[i]? = some e:=⟨_,List.getElem?_eq_getElem (by omega)⟩
   obtain ⟨v,ev,iv⟩:=ius.get ee
   rw [hx] at ev
   cases ev
   have me:=List.mem_of_getElem? ee
   have bad:qK e = false → Q (.bl false) H:=fun hb=>by
    have:aEJ (ds.map aJ) (.lst es) = false:=by
     show (es.all qK && _) = false
     rw [show es.all qK = false by rw [List.all_eq_false];exact ⟨e,me,by rw [hb];decide⟩]
     rfl
    rw [this] at q
    exact q _ (aK.refl _)
   obtain ⟨ty2,hty2,x1,x2,x3,x4,x5⟩:=jU K iv
   refine ⟨_,rfl,_,_,_,ty2,_,rfl,rfl,hty2,x5,_,rfl,?_⟩
   cases e with
   | tup as =>
    refine bR ?_
    obtain ⟨t,ws,rfl,ot,iw⟩:=iv
    have lw:=cW iw
    refine ⟨_,rfl,t,_,rfl,.inr (SqT.of ot),rfl,_,rfl,?_⟩
    rw [show (!decide (V.int (ws.length:Nat) = V.int 2)) = !decide (as.length = 2) by rw [gT];congr 1;rw [decide_eq_decide];omega]
    by_cases h2:as.length = 2
    ·rw [decide_eq_true h2]
     refine bR ?_
     match as,h2 with
     | [a,b],_ =>
      obtain ⟨va,r1,rfl,ia,vb,r2,rfl,ib,r0⟩:=iw
      cases (show r2 = [] from r0)
      refine ⟨_,rfl,t,_,1,vb,rfl,rfl,SqT.of ot,aQ (j:=1) rfl,_,rfl,b,ib,_,rfl,?_⟩
      cases hi:isInt b with
      | false=>exact cP (bad hi)
      | true =>
       refine bR ⟨_,rfl,rfl,?_⟩
       rw [List.take_add_one,ee,List.all_append,al]
       show (true && (qK (.tup [a,b]) && true)) = true
       rw [show qK (.tup [a,b]) = isInt b from rfl,hi]
       rfl
    ·rw [decide_eq_false h2]
     refine cP (bad ?_)
     unfold qK
     split
     ·rename_i a b heq
      cases heq
      exact absurd rfl h2
     ·rfl
   | _=>exact cP (bad rfl)
  rintro σ H' ⟨v2,rfl,rfl,al⟩
  rw [List.take_of_length_le (by omega)] at al
  have rb:=List.all_eq_true.mp al
  have shp:∀ e ∈ es,∃ a k,e = .tup [a,.int k]:=fun e m=>by
   have:=rb e m
   unfold qK at this
   split at this
   ·rename_i a b
    cases b <;> first | exact ⟨a,_,rfl⟩ | cases this
   ·cases this
  have q:∀ H',aK H H' → Q (.bl (deq (.lst (es.map hdD)) (.lst ((kC (ds.map aJ) (es.map hdD)).map Dv.str)))) H':=by
   have:aEJ (ds.map aJ) (.lst es) = deq (.lst (es.map hdD)) (.lst ((kC (ds.map aJ) (es.map hdD)).map Dv.str)):=by
    show (es.all qK && _) = _
    rw [al,Bool.true_and]
   rw [this] at q
   exact q
  have fh:∀ e ∈ es.map hdD,aO 28 e = true:=fun e m=>by
   obtain ⟨e',me,rfl⟩:=List.mem_map.mp m
   obtain ⟨a,k,rfl⟩:=shp e' me
   have:=qZ f30 _ me
   have:(aO 28 a && bT 28 [.int k]) = true:=by simpa [aO,bT] using this
   exact (Bool.and_eq_true_iff.mp this).1
  refine ⟨_,rfl,l,rfl,⟨_,SqL.of hl⟩,?_⟩
  refine bH (F:=K) (xs:=us) (by omega) (fun i ys H'=>H = H' ∧ IsL H ((es.take i).map hdD) ys) ⟨rfl,rfl⟩ ?_ ?_ ?_
  ·rintro i ys H' hi ⟨rfl,iy⟩
   have:=cW iy
   rw [List.length_map,List.length_take] at this
   exact ⟨SqL.of hl,by omega⟩
  ·rintro i xv ys H' K1 K2 hx ⟨rfl,iy⟩ k1 k2
   have hil:i < us.length:=(List.getElem?_eq_some_iff.mp hx).1
   obtain ⟨e,ee⟩:∃ e,es[i]? = some e:=⟨_,List.getElem?_eq_getElem (by omega)⟩
   obtain ⟨v,ev,iv⟩:=ius.get ee
   rw [hx] at ev
   cases ev
   obtain ⟨a,k,rfl⟩:=shp e (List.mem_of_getElem? ee)
   obtain ⟨t,ws,rfl,ot,va,r1,rfl,ia,vb,r2,rfl,ib,r0⟩:=iv
   cases (show r2 = [] from r0)
   refine ⟨_,rfl,t,_,0,va,rfl,rfl,SqT.of ot,aQ (j:=0) rfl,k1 _ _ ⟨rfl,?_⟩⟩
   rw [List.take_add_one,ee,List.map_append]
   exact IsL.snoc ia iy
  rintro ys H' ⟨rfl,iy⟩
  rw [List.take_of_length_le (by omega)] at iy
  generalize es.map hdD = hs at q iy fh
  have lhs:=cW iy
  intro ln hln
  have S2:=aK.upd (o:=.lst ys) hln
  have r2:upd H ln (.lst ys) ln = some (.lst ys):=aB
  have iy2:=IsL.same S2 _ _ iy
  generalize upd H ln (.lst ys) = H2 at S2 r2 iy2
  have L2':=L.same S2
  obtain ⟨dx,d1,d2',hx,_⟩:=L2'.ex
  refine ⟨_,rfl,_,rfl,p,dx,_,rfl,hx,dI _ _ (by decide +kernel) (by decide +kernel),_,rfl,p,fs,ds,rfl,L2',fun ld H3 S3 fld hld=>?_⟩
  have r3:=S3 _ _ r2
  have iy3:=IsL.same S3 _ _ iy2
  have ldn:(ds.map aJ).length = ds.length:=List.length_map _
  refine ⟨ld,rfl,⟨_,SqL.of hld⟩,?_⟩
  refine bH (F:=K) (xs:=(ds.map aJ).map V.str) (by rw [List.length_map];omega) (fun i ys H'=>H3 = H' ∧ ys = (kC ((ds.map aJ).take i) hs).map V.str) ⟨rfl,rfl⟩ ?_ ?_ ?_
  ·rintro i ys H' hi ⟨rfl,rfl⟩
   refine ⟨SqL.of hld,?_⟩
   have:=List.length_filter_le (fun z=>hs.any fun e=>deq e (.str z)) ((ds.map aJ).take i)
   rw [List.length_take] at this
   rw [List.length_map]
   unfold kC
   omega
  ·rintro i xv ys H' K1 K2 hx' ⟨rfl,rfl⟩ k1 k2
   rw [List.getElem?_map] at hx'
   obtain ⟨z,ez,rfl⟩:=Option.map_eq_some_iff.mp hx'
   refine ⟨_,rfl,_,rfl,.str z,ln,_,hs,.inl r3,rfl,rfl,iy3,rfl,jS fun e m=>(aDT (fh e m)).2,_,rfl,?_⟩
   rw [if_neg Bool.false_ne_true]
   have et:=oM (P:=fun z=>hs.any fun e=>deq e (.str z)) ez
   have et:kC ((ds.map aJ).take (i + 1)) hs = kC ((ds.map aJ).take i) hs ++ (if (hs.any fun e=>deq e (.str z)) = true then [z] else []):=et
   cases hz:hs.any fun e=>deq e (.str z) with
   | true =>
    rw [hz] at et
    refine cP ⟨_,rfl,k1 _ _ ⟨rfl,?_⟩⟩
    rw [et,if_pos rfl,List.map_append]
    rfl
   | false =>
    rw [hz] at et
    refine bR (k2 _ ⟨rfl,?_⟩)
    rw [et,if_neg (by decide),List.append_nil]
  rintro ys' H' ⟨rfl,rfl⟩
  rw [List.length_map,List.take_of_length_le (Nat.le_refl _)]
  intro lc hlc
  have S4:=aK.upd (o:=.lst ((kC (ds.map aJ) hs).map V.str)) hlc
  refine ⟨.lst hs,.lst ((kC (ds.map aJ) hs).map Dv.str),⟨ln,_,rfl,S4 _ _ r3,IsL.same S4 _ _ iy3⟩,nZ aB,kY fun e m=>(aDT (fh e m)).1,jV _,?_⟩
  exact q _ (S2.trans (S3.trans S4))
 | _=>exact cP (q _ (aK.refl _))
open Mt53 Mt22 MtF Mt31 Mt61 Mt51
def toG (g:Gp):Gap:=⟨g.nm,g.one,g.other,g.coins⟩
theorem oJ {fs ds:List Dv} (gf:GoodF fs) (gd:GoodD ("sea" :: fs.map aJ) ds) (L:Int):(Mt51.gapsD fs ds L).map toG = gapsD fs ds L:=by
 unfold Mt51.gapsD gapsD
 rw [List.map_map]
 have e:ds.filter (pZ fs L) = ds.filter (isG fs L):=by
  refine List.filter_congr fun d md=>?_
  obtain ⟨n,a,b,c,r,s,rfl,_,ha,hb,_⟩:=cM (gd.all d md)
  have low:∀ z:Str,z ∈ (("sea":Str) :: fs.map aJ) → decide (z ∈ Mt51.lowS fs L) = lowS fs L z:=fun z mz=>by
   unfold lowS
   by_cases hz:z = "sea"
   ·rw [decide_eq_true hz,decide_eq_true (show z ∈ Mt51.lowS fs L by rw [hz];exact List.mem_cons_self)]
    rfl
   ·have mf:z ∈ fs.map aJ:=by
     rcases List.mem_cons.mp mz with h | h
     ·exact absurd h hz
     ·exact h
    rw [decide_eq_false hz,Bool.false_or]
    by_cases hm:z ∈ Mt51.lowS fs L
    ·rw [decide_eq_true hm,decide_eq_true (aCH gf hm hz)]
    ·rw [decide_eq_false hm,decide_eq_false fun h=>hm (aCK gf mf h)]
  show (decide (c < L) && (decide (a ∈ Mt51.lowS fs L) && decide (b ∈ Mt51.lowS fs L))) = (decide (c < L) && (lowS fs L a && lowS fs L b))
  rw [low a ha,low b hb]
 rw [e]
 refine List.map_congr_left fun d md=>?_
 obtain ⟨n,a,b,c,r,s,rfl,_⟩:=cM (gd.all d (List.mem_filter.mp md).1)
 rfl
theorem qA {H:Hp} {g:Gp} {v:V} (h:Is H (eA g) v):∃ t,v = .ref t ∧ H t = some (.tup [.str g.nm,.str g.one,.str g.other,.int g.coins]):=by
 obtain ⟨t,us,rfl,o,v0,r0,rfl,i0,v1,r1,rfl,i1,v2,r2,rfl,i2,v3,r3,rfl,i3,h0⟩:=h
 cases (show r3 = [] from h0)
 cases (show v0 = _ from i0)
 cases (show v1 = _ from i1)
 cases (show v2 = _ from i2)
 cases (show v3 = _ from i3)
 exact ⟨t,rfl,o⟩
theorem aCO {GP:List Gp} (nd:(GP.map (·.nm)).Nodup) {gp:Gp} (m:gp ∈ GP):(GP.filter fun x=>decide (x.nm = gp.nm)) = [gp]:=by
 induction GP with
 | nil=>cases m
 | cons x GP ih =>
  rw [List.map_cons,List.nodup_cons] at nd
  rcases List.mem_cons.mp m with rfl | m
  ·rw [List.filter_cons_of_pos (by simp),List.filter_eq_nil_iff.mpr fun y my=>?_]
   intro c
   exact nd.1 (of_decide_eq_true c ▸ List.mem_map.mpr ⟨y,my,rfl⟩)
  ·rw [List.filter_cons_of_neg,ih nd.2 m]
   intro c
   exact nd.1 (of_decide_eq_true c ▸ List.mem_map.mpr ⟨gp,m,rfl⟩)
theorem aGK {V0:List Str} {z:Str} (n:z ∉ V0):gW (dQ (cN V0) fun _=>0) (Sum.inr z) (.int 0) = dQ (cN (V0 ++ [z])) fun _=>0:=by
 unfold gW
 have ha:¬ ((dQ (cN V0) fun _=>0).any fun kv=>decide (kv.1 = (Sum.inr z:Key))) = true:=by
  intro c
  obtain ⟨kv,mk,e⟩:=List.any_eq_true.mp c
  obtain ⟨g,mg,rfl⟩:=List.mem_map.mp mk
  obtain ⟨y,my,rfl⟩:=List.mem_map.mp mg
  have:(Sum.inr y:Key) = Sum.inr z:=of_decide_eq_true e
  exact n (Sum.inr.inj this ▸ my)
 rw [if_neg ha]
 unfold dQ cN
 rw [List.map_append,List.map_append]
 rfl
theorem rR:∀ {hs:List Dv} {ms:List Str},pH hs (ms.map Dv.str) = true → hs = ms.map Dv.str
 | [],[],_=>rfl
 | [],_ :: _,h=>by cases h
 | _ :: _,[],h=>by cases h
 | e :: hs,m :: ms,h=>by
  have h:=Bool.and_eq_true_iff.mp (show (deq e (.str m) && pH hs (ms.map Dv.str)) = true from h)
  rw [List.map_cons,rR h.2]
  congr 1
  cases e with
  | str z =>
   have:(z == m) = true:=h.1
   rw [beq_iff_eq.mp this]
  | _=>cases h.1
theorem aIS (ms:List Str) (z:Str):((ms.map Dv.str).any fun e=>deq e (.str z)) = decide (z ∈ ms):=by
 induction ms with
 | nil=>rfl
 | cons m ms ih =>
  rw [List.map_cons,List.any_cons,ih]
  show ((m == z) || decide (z ∈ ms)) = _
  by_cases h:m = z
  ·subst h
   simp
  ·rw [beq_eq_false_iff_ne.mpr h,Bool.false_or]
   congr 1
   rw [List.mem_cons,eq_iff_iff]
   exact ⟨fun k=>.inr k,fun k=>k.resolve_left fun e=>h e.symm⟩
theorem sN (dn ms:List Str):kC dn (ms.map Dv.str) = dn.filter fun z=>decide (z ∈ ms):=List.filter_congr fun z _=>aIS ms z
theorem aAK {dn:List Str} {es:List Dv} (h:aEJ dn (.lst es) = true):(∀ e ∈ es,∃ n k,e = bO (n,k)) ∧ es.map aJ = dn.filter fun z=>decide (z ∈ es.map aJ):=by
 have h:=Bool.and_eq_true_iff.mp (show (es.all qK && deq (.lst (es.map hdD)) (.lst ((kC dn (es.map hdD)).map Dv.str))) = true from h)
 have rb:=List.all_eq_true.mp h.1
 have eh:=rR (show pH (es.map hdD) ((kC dn (es.map hdD)).map Dv.str) = true from h.2)
 have shp:∀ e ∈ es,∃ n k,e = bO (n,k):=fun e m=>by
  have:=rb e m
  unfold qK at this
  split at this
  ·rename_i a b
   have ma:a ∈ es.map hdD:=List.mem_map.mpr ⟨_,m,rfl⟩
   rw [eh] at ma
   obtain ⟨n,_,rfl⟩:=List.mem_map.mp ma
   cases b <;> first | exact ⟨n,_,rfl⟩ | cases this
  ·cases this
 have e1:es.map hdD = (es.map aJ).map Dv.str:=by
  rw [List.map_map]
  exact List.map_congr_left fun e m=>by
   obtain ⟨n,k,rfl⟩:=shp e m
   rfl
 refine ⟨shp,?_⟩
 rw [e1,sN] at eh
 have inj:∀ {a b:List Str},a.map Dv.str = b.map Dv.str → a = b:=fun {a b} h=>by
  have:=congrArg (List.map fun d=>match d with | Dv.str z=>z | _=>"") h
  rw [List.map_map,List.map_map] at this
  have id':∀ l:List Str,List.map ((fun d=>match d with | Dv.str z=>z | _=>"") ∘ Dv.str) l = l:=fun l=>List.map_id l
  rwa [id',id'] at this
 exact inj eh
theorem tJ {dn:List Str} {G:List Gap} {es:List Dv} (sub:(G.map (·.nm)).Sublist dn) (nd:dn.Nodup):jQ G (.lst es) = (aEJ dn (.lst es) && es.all (cX G)):=by
 rw [Bool.eq_iff_iff]
 constructor
 ·intro h
  have h:=Bool.and_eq_true_iff.mp (show (es.all (cX G) && decide (es.map aJ = (G.map (·.nm)).filter fun z=>decide (z ∈ es.map aJ))) = true from h)
  have hn:=of_decide_eq_true h.2
  have fl:=List.all_eq_true.mp h.1
  rw [h.1,Bool.and_true]
  have sb:(es.map aJ).Sublist dn:=by
   have:(es.map aJ).Sublist (G.map (·.nm)):=by rw [hn];exact List.filter_sublist
   exact this.trans sub
  have e1:es.map hdD = (es.map aJ).map Dv.str:=by
   rw [List.map_map]
   exact List.map_congr_left fun e m=>by
    obtain ⟨n,k,c,rfl,_⟩:=eU (fl e m)
    rfl
  show (es.all qK && deq (.lst (es.map hdD)) (.lst ((kC dn (es.map hdD)).map Dv.str))) = true
  rw [e1,sN,pF sb nd,aBB,decide_eq_true rfl,Bool.and_true,List.all_eq_true]
  intro e m
  obtain ⟨n,k,c,rfl,_⟩:=eU (fl e m)
  rfl
 ·intro h
  have h:=Bool.and_eq_true_iff.mp h
  have fl:=List.all_eq_true.mp h.2
  obtain ⟨_,hn⟩:=aAK h.1
  show (es.all (cX G) && decide (es.map aJ = (G.map (·.nm)).filter fun z=>decide (z ∈ es.map aJ))) = true
  rw [h.2,Bool.true_and]
  refine decide_eq_true ?_
  conv=>rhs;rw [← pF sub nd,List.filter_filter]
  have hin:∀ z ∈ es.map aJ,z ∈ G.map (·.nm):=fun z m=>by
   obtain ⟨e,me,rfl⟩:=List.mem_map.mp m
   obtain ⟨n,k,c,rfl,ec,_⟩:=eU (fl e me)
   obtain ⟨g,mg,en,_⟩:=aBE ec
   exact List.mem_map.mpr ⟨g,mg,en⟩
  have e2:(dn.filter fun z=>decide (z ∈ es.map aJ) && decide (z ∈ G.map (·.nm))) = dn.filter fun z=>decide (z ∈ es.map aJ):=List.filter_congr fun z _=>by
   by_cases m:z ∈ es.map aJ
   ·rw [decide_eq_true m,decide_eq_true (hin z m)]
    rfl
   ·rw [decide_eq_false m]
    rfl
  rw [e2]
  exact hn
def gN (G:List Gap) (n:Str):Gap:=(G.find? fun g=>decide (g.nm = n)).getD ⟨n,n,n,0⟩
theorem aID:∀ {G:List Gap} {g:Gap},(G.map (·.nm)).Nodup → g ∈ G → gN G g.nm = g
 | x :: G,g,nd,m=>by
  rw [List.map_cons,List.nodup_cons] at nd
  unfold gN
  rw [List.find?_cons]
  rcases List.mem_cons.mp m with rfl | h
  ·rw [show decide (g.nm = g.nm) = true from decide_eq_true rfl]
   rfl
  ·rw [decide_eq_false (fun c=>nd.1 (by rw [c];exact List.mem_map.mpr ⟨_,h,rfl⟩))]
   exact aID nd.2 h
theorem aMO {V0:List Str} {G:List Gap} {es:List Dv} (GG:Gaps V0 G) (h:jQ G (.lst es) = true):mD (es.map fun e=>gN G (aJ e)) (flE es) = net G (flE es):=by
 obtain ⟨ea,_,_⟩:=vR GG h
 generalize hf:flE es = f at *
 have:(es.map fun e=>gN G (aJ e)) = G.filter fun g=>!decide (f g.nm = 0):=by
  conv=>lhs;rw [ea]
  unfold jT
  rw [List.map_map]
  conv=>rhs;rw [← List.map_id (G.filter fun g=>!decide (f g.nm = 0))]
  exact List.map_congr_left fun g m=>aID GG.nd (List.mem_filter.mp m).1
 rw [this]
 funext z
 exact tY G f z
theorem aHB {ns zs:List Str} {G:List Gap} {f:Fl} {z:Str} (m:z ∈ ns) (sub:∀ z ∈ zs,z ∈ ns) (h:net G f z < 0 ∨ (z ∉ zs ∧ net G f z ≠ 0)):mX ns zs G f = none:=by
 unfold mX
 rw [if_pos]
 rw [Bool.or_eq_true]
 by_cases mz:z ∈ zs
 ·rcases h with h | h
  ·exact .inr (List.any_eq_true.mpr ⟨true,List.mem_map.mpr ⟨z,mz,decide_eq_true h⟩,rfl⟩)
  ·exact absurd mz h.1
 ·refine .inl (List.any_eq_true.mpr ⟨true,List.mem_map.mpr ⟨z,List.mem_filter.mpr ⟨m,by simpa using mz⟩,?_⟩,rfl⟩)
  have:net G f z ≠ 0:=by rcases h with h | h <;> first | omega | exact h.2
  rw [decide_eq_false this]
  rfl
theorem vZ {ns zs:List Str} {G:List Gap} {f:Fl} (sub:∀ z ∈ zs,z ∈ ns) (h:∀ z ∈ ns,¬ (net G f z < 0 ∨ (z ∉ zs ∧ net G f z ≠ 0))):mX ns zs G f = some (zs.map (net G f)).sum:=by
 unfold mX
 rw [if_neg]
 intro c
 rw [Bool.or_eq_true] at c
 rcases c with c | c
 ·obtain ⟨b,mb,hb⟩:=List.any_eq_true.mp c
  obtain ⟨z,mz,rfl⟩:=List.mem_map.mp mb
  have mz:=List.mem_filter.mp mz
  exact h z mz.1 (.inr ⟨by simpa using mz.2,by simpa using hb⟩)
 ·obtain ⟨b,mb,hb⟩:=List.any_eq_true.mp c
  obtain ⟨z,mz,rfl⟩:=List.mem_map.mp mb
  exact h z (sub z mz) (.inl (by simpa using hb))
def qF (C:Addr) (K:PySem.W.Frag):Sp:=fun vs H Q _=>∃ (x y u v:V) (p lg l:Addr) (fs ds:List Dv) (zs:List Str) (L:Int) (gus:List V) (d:Dv),vs = [x,y,u,v] ∧ x = .ref p ∧ LandAt C H p fs ds ∧ y = .ref lg ∧ H lg = some (.lst gus) ∧ IsL H ((Mt51.gapsD fs ds L).map eA) gus ∧ u = .ref l ∧ H l = some (.lst (zs.map V.str)) ∧ zs.Nodup ∧ (∀ z ∈ zs,z ∈ fs.map aJ) ∧ Is H d v ∧ wG d ∧ flatL d ∧ ∀ H',aK H H' → Q (tK (iV (fs.map aJ) zs (gapsD fs ds L) d)) H'
theorem aEU:∀ vs H Q E,qF C K vs H Q E → vs.length = 4:=fun vs H Q E ⟨x,y,u,v,p,lg,l,fs,ds,zs,L,gus,d,e,_⟩=>by rw [e];rfl
theorem aCC (T:Txt K mg C):Fc P w K mg base 3 "_law_paper" ["_law_land_here","_law_gaps_here","_law_wish_here","_law_stream_here"] (qF C K):=by
 have G_l_in_order:Fc P w K mg base 2 "_law_in_order" ["_law_land_here","_law_steps"] (zQ C):=vH T
 have G_land_p_field_names:Mc P w K mg base 1 C "field_names" ["self"] (iL C fun fs _=>fs.map aJ):=cO T
 refine T.d_l_paper.fc fX aEU (fun f cdv A outer s H vs Q E hr h=>?_)
 obtain ⟨x,y,u,v,p,lg,l,fs,ds,zs,lv,gus,d,rfl,rfl,L,rfl,hg,ig,rfl,hl,nd,sub,hd,sm,flt,q⟩:=h
 have big:=cB
 have hu:=gR hr
 have gf:=(bV L).1
 have gd:=(bV L).2
 have d2:=gd.l2
 have f2:=gf.l2
 have GG:=lW gf gd lv
 have gl:=jR fs ds lv
 have gsm:=oJ gf gd lv
 have nf:Mt22.sea ∉ fs.map aJ:=fun m=>by
  obtain ⟨d,md,e⟩:=List.mem_map.mp m
  obtain ⟨z,g,u,rfl,hz,_⟩:=bW (gf.all d md)
  exact oE hz e
 have ns:Mt22.sea ∉ zs:=fun m=>nf (sub _ m)
 have lz:zs.length ≤ fs.length:=by
  have:=jP nd sub
  rw [List.length_map] at this
  exact this
 refine ⟨_,(@aG _ _ _ _ _ (@cL _ _ _ _ _ _ _ _ (@cR _ _ _ _ (@cK _ _ _ (@bU _ _ _ _ _ _ _ _ _ _ G_l_in_order (hr.mono (by decide)) (@aA _ _ _ _ _ (pv 0) (@aA _ _ _ _ _ (pv 3) aE (by rfl)) (by rfl)) (by rfl) (by decide) (by rfl) (by rfl)) (by intro _;rfl))) (@aH _ _ _ (@aS _ _ _ _ gZ)) bI) (@aG _ _ _ _ _ (@aU _ _ (4) _ _ _ _ fX.nd rfl (Or.inr rfl) (@xW _ _ _ _ _ (@tE _ _ _ _ _ _ _ _ _ jN aD xU) rfl rfl (by simp) (Nat.le_of_ble_eq_true rfl)) (by rfl) (by trivial)) (@aG _ _ _ _ _ (@eJ _ _ _ _ _ _ _ _ PassesOwn.never rfl (@bE _ (K) _ _ _ rfl (@bF _ _ _ _ (@kR _ _ _ _ _ _ _ _ _ _ _ T.cl_Land G_land_p_field_names (hr.mono (by decide)) (pv 0) (by rfl)))) (@aM _ _ (5) _ fX.nd rfl (Or.inr rfl) (by trivial)) (@aH _ _ _ (@oG _ _ _ _ _ _ _ _ _ hu (pv 4) (pv 5) aD rfl)) (by intro _;rfl)) (@aG _ _ _ _ _ (@eJ _ _ _ _ _ _ _ _ PassesOwn.never rfl (@bE _ (K) _ _ _ rfl (@bF _ _ _ _ (pv 3))) (@lI _ (K) _ _ _ _ _ rfl 2 rfl (@jZ _ _ _ _ _ _ rfl (@aW _ _ _ _ _ (@aM _ _ (5) _ fX.nd rfl (Or.inr rfl) (by trivial)) (@aW _ _ _ _ _ (@aM _ _ (6) _ fX.nd rfl (Or.inl rfl) (by trivial)) eY (by rfl)) (by rfl)) (by rfl) (by rfl))) (@aG _ _ _ _ _ (@oZ _ (7) _ _ _ _ _ _ _ _ _ _ _ _ _ fX.nd rfl ["_law_gap","_law_name"] 1 [5] rfl (@bE _ (K) _ _ _ rfl (@bF _ _ _ _ (pv 1))) (fun R=>@aM _ _ (0) _ (show List.Nodup (["_law_gap","_law_name"]:List Str) by decide +kernel) rfl (Or.inl rfl) (by trivial)) (@bC _ _ (by decide)) (fun R=>@fU _ _ _ (@bA _ _ _ _ _ _ _ _ iR (@aZ _ _ _ _ _ _ _ (@bD _ (K) rfl) (pv 0) aD (fun _ _=>rfl)) (pv 1) (@bG _ _ (by decide) (by decide)))) (fun R=>(pv 0)) (by exact Or.inl rfl) (by trivial) (by rfl) (by rfl) (by rfl) (by rfl) (by rfl) (by rfl) (by rfl) (by rfl) (by intro _;rfl)) (@aG _ _ _ _ _ (@cL _ _ _ _ _ _ _ _ (@PW.pt _ _ _ (@iQ _ _ _ _ _ _ _ (@bA _ _ _ _ _ _ _ _ (@tN _ hr.units) (pv 7) (@bM _ _ _ _ aE) (@bG _ _ (by decide) (by decide))) (@iQ _ _ _ _ _ _ _ (@bA _ _ _ _ _ _ _ _ iR (pv 6) aD (@bG _ _ (by decide) (by decide))) (@jL _ _ _ _ (@bA _ _ _ _ _ _ _ _ wA (@aT _ _ _ _ _ _ _ _ _ uV rfl T.n_abs rG (@aA _ _ _ _ _ (pv 6) aE (by rfl)) (by decide) (by decide) (by rfl) (by rfl)) (@aZ _ _ _ _ _ _ _ (@bD _ (K) rfl) (@aZ _ _ _ _ _ _ _ (@bL _ (K) rfl) (pv 7) aD (fun _ _=>rfl)) aD (fun _ _=>rfl)) (@bG _ _ (by decide) (by decide))))))) (@aH _ _ _ (@aS _ _ _ _ gZ)) bI) (@aG _ _ _ _ _ (@oG _ _ _ _ _ _ _ _ _ hu (pv 4) (@aZ _ _ _ _ _ _ _ (@bD _ (K) rfl) (@aZ _ _ _ _ _ _ _ (@bL _ (K) rfl) (pv 7) aD (fun _ _=>rfl)) aD (fun _ _=>rfl)) (@aI _ _ _ _ _ _ _ _ dU (@dR _ _ _ _ _ _ hu (pv 4) (@aZ _ _ _ _ _ _ _ (@bD _ (K) rfl) (@aZ _ _ _ _ _ _ _ (@bL _ (K) rfl) (pv 7) aD (fun _ _=>rfl)) aD (fun _ _=>rfl)) (fun _ _=>rfl)) (pv 6)) rfl) (@aH _ _ _ (@oG _ _ _ _ _ _ _ _ _ hu (pv 4) (@aZ _ _ _ _ _ _ _ (@bD _ (K) rfl) (@aZ _ _ _ _ _ _ _ (@bL _ (K) rfl) (pv 7) aD (fun _ _=>rfl)) aD (fun _ _=>rfl)) (@aI _ _ _ _ _ _ _ _ cF (@dR _ _ _ _ _ _ hu (pv 4) (@aZ _ _ _ _ _ _ _ (@bD _ (K) rfl) (@aZ _ _ _ _ _ _ _ (@bL _ (K) rfl) (pv 7) aD (fun _ _=>rfl)) aD (fun _ _=>rfl)) (fun _ _=>rfl)) (pv 6)) rfl))))) (by intro _;rfl)) (@aG _ _ _ _ _ (@eJ _ _ _ _ _ _ _ _ PassesOwn.never rfl (@bE _ (K) _ _ _ rfl (@bF _ _ _ _ (@kR _ _ _ _ _ _ _ _ _ _ _ T.cl_Land G_land_p_field_names (hr.mono (by decide)) (pv 0) (by rfl)))) (@aM _ _ (5) _ fX.nd rfl (Or.inr rfl) (by trivial)) (@aH _ _ _ (@cL _ _ _ _ _ _ _ _ (@PW.pt _ _ _ (@iQ _ _ _ _ _ _ _ (@bA _ _ _ _ _ _ _ _ mY (@dR _ _ _ _ _ _ hu (pv 4) (pv 5) (fun _ _=>rfl)) aD (@bG _ _ (by decide) (by decide))) (@jL _ _ _ _ (@PW.pt _ _ _ (@jM _ _ _ _ _ _ _ (@bA _ _ _ _ _ _ _ _ (@hX _ (K) rfl) (pv 5) (pv 2) (by with_unfolding_all rfl)) (@lH _ _ _ _ (@bA _ _ _ _ _ _ _ _ tM (@dR _ _ _ _ _ _ hu (pv 4) (pv 5) (fun _ _=>rfl)) aD (@bG _ _ (by decide) (by decide))))))))) (@aH _ _ _ (@aS _ _ _ _ gZ)) bI)) (by intro _;rfl)) (@aH _ _ _ (@aS _ _ _ _ (@aT _ _ _ _ _ _ _ _ _ (uU rfl) rfl T.n_sum rF (@aA _ _ _ _ _ (@bX _ _ _ _ _ _ _ _ _ _ _ ["_law_name","_law_gains"] 1 [4] rfl (@bE _ (K) _ _ _ rfl (@bF _ _ _ _ (pv 2))) (fun R=>@aM _ _ (0) _ (show List.Nodup (["_law_name","_law_gains"]:List Str) by decide +kernel) rfl (Or.inl rfl) (by trivial)) (@bC _ _ (by decide)) (fun R=>cH) (fun R=>(@dR _ _ _ _ _ _ hu (pv 1) (pv 0) (fun _ _=>rfl))) (by rfl) (by rfl) (by rfl) (by rfl) (by rfl) (by rfl) (by rfl) (by intro _;rfl)) aE (by rfl)) (by decide) (by decide) (by rfl) (by rfl))))))))),?_⟩
 refine ⟨_,rfl,_,rfl,_,_,rfl,p,fs,ds,d,rfl,L,hd,sm,flt,fun H1 S1=>⟨_,rfl,?_⟩⟩
 have sbl:=aAY (fs:=fs) gd lv
 cases ho:aEJ (ds.map aJ) d with
 | false =>
  refine cP ?_
  have:iV (fs.map aJ) zs (gapsD fs ds lv) d = none:=by
   unfold iV
   rw [if_neg]
   cases d with
   | lst es=>rw [tJ sbl gd.nd,ho,Bool.false_and];exact Bool.false_ne_true
   | _=>exact Bool.false_ne_true
  rw [this] at q
  exact q _ S1
 | true =>
 refine bR ?_
 obtain ⟨es,rfl⟩:∃ es,d = .lst es:=by cases d <;> first | exact ⟨_,rfl⟩ | cases ho
 obtain ⟨la,ua,rfl,hla,iua⟩:=hd
 obtain ⟨shp,hns⟩:=aAK ho
 have ndn:(es.map aJ).Nodup:=by rw [hns];exact List.Nodup.sublist List.filter_sublist gd.nd
 have les:es.length ≤ 40:=by
  have e1:=congrArg List.length hns
  rw [List.length_map] at e1
  have e2:=List.length_filter_le (fun z=>decide (z ∈ es.map aJ)) (ds.map aJ)
  rw [List.length_map] at e2
  omega
 have lua:=cW iua
 have rowi:∀ {i:Nat} {e:Dv},es[i]? = some e → e = bO (aJ e,flE es (aJ e)):=fun {i e} ee=>by
  have m:=List.mem_of_getElem? ee
  obtain ⟨n,k,rfl⟩:=shp e m
  show bO (n,k) = bO (n,flE es n)
  rw [yS ndn m]
 have bad:∀ {e:Dv} {H':Hp},e ∈ es → cX (gapsD fs ds lv) e = false → aK H H' → Q .non H':=fun {e H'} m hb S=>by
  have:iV (fs.map aJ) zs (gapsD fs ds lv) (.lst es) = none:=by
   unfold iV
   rw [if_neg]
   rw [tJ sbl gd.nd,show es.all (cX (gapsD fs ds lv)) = false by rw [List.all_eq_false];exact ⟨e,m,by rw [hb];decide⟩,Bool.and_false]
   decide
  rw [this] at q
  exact q _ S
 generalize hfl:flE es = fl at rowi
 intro de hde0
 refine ⟨aB,[(Sum.inr "sea",.int 0)],rfl,by decide,?_⟩
 have S2:aK H1 (upd (upd H1 de (.dK [])) de (.dK (fC [] [(Sum.inr "sea",V.int 0)]))):=(aK.upd hde0).over hde0
 have e2:upd (upd H1 de (.dK [])) de (.dK (fC [] [(Sum.inr "sea",V.int 0)])) de = some (.dK (dQ (cN ["sea"]) fun _=>0)):=aB
 generalize upd (upd H1 de (.dK [])) de (.dK (fC [] [(Sum.inr "sea",V.int 0)])) = H2 at S2 e2
 have nde:=S1.free hde0
 have T2:=S1.trans S2
 have L2':=L.same T2
 obtain ⟨dx,d1,d2',hx,_⟩:=L2'.ex
 refine ⟨_,rfl,p,dx,_,rfl,hx,dI _ _ (by decide +kernel) (by decide +kernel),_,rfl,p,fs,ds,rfl,L2',fun ln H3 S3 fln hln=>?_⟩
 have nld:ln ≠ de:=fun c=>by rw [c,e2] at fln;cases fln
 have lfn:(fs.map aJ).length = fs.length:=List.length_map _
 refine ⟨ln,rfl,⟨_,SqL.of hln⟩,dW (K:=K) (a:=ln) (xs:=(fs.map aJ).map V.str) (fun i σ H'=>∃ v5,σ = [some (.ref p),some (.ref lg),some (.ref l),some (.ref la),some (.ref de),v5,none,none] ∧ aK H H' ∧ H' ln = some (.lst ((fs.map aJ).map V.str)) ∧ H' de = some (.dK (dQ (cN ("sea" :: (fs.map aJ).take i)) fun _=>0))) ⟨_,rfl,T2.trans S3,hln,S3 _ _ e2⟩ ?_ ?_ ?_⟩
 ·rintro i σ H' hi ⟨v5,rfl,S',hn',he'⟩
  exact SqL.of hn'
 ·rintro i xv σ H' hx' ⟨v5,rfl,S',hn',he'⟩
  rw [List.getElem?_map] at hx'
  obtain ⟨z,ez,rfl⟩:=Option.map_eq_some_iff.mp hx'
  have hil:=(List.getElem?_eq_some_iff.mp ez).1
  have nz:z ∉ (("sea":Str) :: (fs.map aJ).take i):=fun m=>by
   rcases List.mem_cons.mp m with h | h
   ·have mz:=List.mem_of_getElem? ez
    rw [h] at mz
    exact nf mz
   ·have nn:=gf.nd
    have e3:(fs.map aJ).take (i + 1) = (fs.map aJ).take i ++ [z]:=by rw [List.take_add_one,ez];rfl
    have n3:=List.Nodup.sublist (List.take_sublist (i + 1) (fs.map aJ)) nn
    rw [e3,List.nodup_append] at n3
    exact n3.2.2 z h z (List.mem_singleton.mpr rfl) rfl
  refine ⟨_,rfl,_,rfl,de,_,rfl,.inl ⟨_,Sum.inr z,he',rfl,by rw [jC,List.length_cons,List.length_take];omega,rfl⟩,?_⟩
  refine ⟨_,rfl,S'.over nde,by rw [aR nld];exact hn',?_⟩
  rw [aB,aGK nz,List.take_add_one,ez]
  rfl
 rintro σ H4 ⟨v5,rfl,T4,hn4,he4⟩
 rw [List.length_map,List.take_of_length_le (Nat.le_refl _)] at he4
 have nV:=GG.vnd
 have lV:(("sea":Str) :: fs.map aJ).length ≤ 13:=by rw [List.length_cons,List.length_map];omega
 have eV:∀ g ∈ gapsD fs ds lv,g.a ∈ (("sea":Str) :: fs.map aJ) ∧ g.b ∈ (("sea":Str) :: fs.map aJ) ∧ g.a ≠ g.b:=GG.ends
 have mV:∀ z ∈ fs.map aJ,z ∈ (("sea":Str) :: fs.map aJ):=fun z m=>List.mem_cons_of_mem _ m
 generalize hVV:(("sea":Str) :: fs.map aJ) = VV at he4 nV lV eV mV
 have lgu:=cW ig
 have ndP:((Mt51.gapsD fs ds lv).map (·.nm)).Nodup:=by
  have:=GG.nd
  rw [← gsm,List.map_map] at this
  exact this
 have lGP:(Mt51.gapsD fs ds lv).length ≤ 40:=by
  have:=congrArg List.length gsm
  rw [List.length_map] at this
  omega
 rw [List.length_map] at lgu
 refine ⟨_,rfl,la,rfl,⟨_,SqL.of (T4 _ _ hla)⟩,dW (K:=K) (a:=la) (xs:=ua) (fun i σ H'=>∃ v5 v6 v7,σ = [some (.ref p),some (.ref lg),some (.ref l),some (.ref la),some (.ref de),v5,v6,v7] ∧ aK H H' ∧ (es.take i).all (cX (gapsD fs ds lv)) = true ∧ H' de = some (.dK (dQ (cN VV) (mD ((es.map fun e=>gN (gapsD fs ds lv) (aJ e)).take i) fl)))) ⟨_,_,_,rfl,T4,rfl,he4⟩ ?_ ?_ ?_⟩
 ·rintro i σ H' hi ⟨v3,v4,v5,rfl,S',al,he'⟩
  exact SqL.of (S' _ _ hla)
 ·rintro i xv σ H' hx' ⟨v3,v4,v5,rfl,S',al,he'⟩
  have hil:i < ua.length:=(List.getElem?_eq_some_iff.mp hx').1
  obtain ⟨e,ee⟩:∃ e,es[i]? = some e:=⟨_,List.getElem?_eq_getElem (by omega)⟩
  obtain ⟨v,ev,iv⟩:=(IsL.same S' _ _ iua).get ee
  rw [hx'] at ev
  cases ev
  have me:=List.mem_of_getElem? ee
  have er:=rowi ee
  generalize hn:aJ e = n at er
  rw [er] at iv
  obtain ⟨t,rfl,ot⟩:=qJ iv
  refine ⟨t,_,rfl,SqT.of ot,rfl,_,_,rfl,_,_,rfl,rfl,?_⟩
  have hg':=S' _ _ hg
  have ig':=IsL.same S' _ _ ig
  refine ⟨_,rfl,lg,rfl,⟨_,SqL.of hg'⟩,?_⟩
  refine bH (F:=K) (xs:=gus) (by omega) (fun i ys H2=>H' = H2 ∧ IsL H' ((((Mt51.gapsD fs ds lv).take i).filter fun x=>decide (x.nm = n)).map eA) ys) ⟨rfl,rfl⟩ ?_ ?_ ?_
  ·rintro i ys H2 hi ⟨rfl,iy⟩
   refine ⟨SqL.of hg',?_⟩
   have l1:=cW iy
   have l2:=List.length_filter_le (fun x:Gp=>decide (x.nm = n)) ((Mt51.gapsD fs ds lv).take i)
   rw [List.length_map] at l1
   rw [List.length_take] at l2
   omega
  ·rintro i xv ys H2 K1 K2 hx2 ⟨rfl,iy⟩ k1 k2
   have hil:i < gus.length:=(List.getElem?_eq_some_iff.mp hx2).1
   obtain ⟨g2,eg2⟩:∃ g2,(Mt51.gapsD fs ds lv)[i]? = some g2:=⟨_,List.getElem?_eq_getElem (by omega)⟩
   obtain ⟨v,ev,iv⟩:=ig'.get (show ((Mt51.gapsD fs ds lv).map eA)[i]? = some (eA g2) by rw [List.getElem?_map,eg2];rfl)
   rw [hx2] at ev
   cases ev
   obtain ⟨t2,rfl,ot2⟩:=qA iv
   have et:=oM (P:=fun x:Gp=>decide (x.nm = n)) eg2
   refine ⟨_,rfl,t2,_,0,.str g2.nm,rfl,rfl,SqT.of ot2,aQ (j:=0) rfl,_,rfl,rfl,_,rfl,?_⟩
   show if decide (V.str g2.nm = V.str n) = true then _ else _
   by_cases hz:g2.nm = n
   ·rw [decide_eq_true (show V.str g2.nm = V.str n by rw [hz])]
    refine cP ⟨_,rfl,k1 _ _ ⟨rfl,?_⟩⟩
    rw [et,if_pos (decide_eq_true hz),List.map_append]
    exact IsL.snoc iv iy
   ·rw [decide_eq_false (show ¬ V.str g2.nm = V.str n from fun c=>hz (V.str.inj c))]
    refine bR (k2 _ ⟨rfl,?_⟩)
    rw [et,if_neg (by simpa using hz),List.append_nil]
    exact iy
  rintro ys H2 ⟨rfl,iy⟩
  rw [← lgu,List.take_of_length_le (Nat.le_refl _)] at iy
  by_cases hmem:n ∈ (Mt51.gapsD fs ds lv).map (·.nm)
  case neg =>
   have e0:((Mt51.gapsD fs ds lv).filter fun x=>decide (x.nm = n)) = []:=List.filter_eq_nil_iff.mpr fun x mx c=>hmem (by rw [← of_decide_eq_true c];exact List.mem_map.mpr ⟨x,mx,rfl⟩)
   rw [e0] at iy
   cases (show ys = [] from iy)
   intro l7 h7
   have S7:=aK.upd (o:=.lst []) h7
   refine ⟨_,rfl,aL rfl,fun pe hpe=>?_⟩
   have S8:=aK.upd (o:=.lst []) hpe
   refine ⟨.lst [],.lst [],⟨l7,[],rfl,S8 _ _ aB,rfl⟩,⟨pe,[],rfl,aB,rfl⟩,rfl,rfl,_,rfl,cP ?_⟩
   refine bad me ?_ (S'.trans (S7.trans S8))
   rw [er]
   have:eI (gapsD fs ds lv) n = none:=by
    cases ec:eI (gapsD fs ds lv) n with
    | none=>rfl
    | some c =>
     obtain ⟨g,mg',en,_⟩:=aBE ec
     rw [← gsm] at mg'
     obtain ⟨gp,mp,rfl⟩:=List.mem_map.mp mg'
     exact absurd (List.mem_map.mpr ⟨gp,mp,en⟩) hmem
   show (match eI (gapsD fs ds lv) n with | some c=>decide (fl n ≠ 0) && (decide (-c ≤ fl n) && decide (fl n ≤ c)) | none=>false) = false
   rw [this]
  obtain ⟨gp,mp,rfl⟩:=List.mem_map.mp hmem
  have mg':toG gp ∈ gapsD fs ds lv:=by rw [← gsm];exact List.mem_map.mpr ⟨gp,mp,rfl⟩
  obtain ⟨ma,mb,nab⟩:=eV (toG gp) mg'
  have ecap:eI (gapsD fs ds lv) gp.nm = some gp.coins:=aCR GG.nd mg'
  have eg:(es.map fun e=>gN (gapsD fs ds lv) (aJ e))[i]? = some (toG gp):=by
   rw [List.getElem?_map,ee]
   show some (gN (gapsD fs ds lv) (aJ e)) = _
   rw [hn]
   exact congrArg some (aID GG.nd mg')
  have gs:=wK eg fl nab
  rw [aCO ndP mp] at iy
  obtain ⟨v3',r3,rfl,iv3,er3⟩:=iy
  cases (show r3 = [] from er3)
  obtain ⟨t3,rfl,ot3⟩:=qA iv3
  intro l7 h7
  have S7:=aK.upd (o:=.lst [.ref t3]) h7
  have r7:upd H' l7 (.lst [.ref t3]) l7 = some (.lst [.ref t3]):=aB
  generalize upd H' l7 (.lst [.ref t3]) = H7 at S7 r7
  have he7:=S7 _ _ he'
  have o7:=S7 _ _ ot3
  refine ⟨_,rfl,aL rfl,fun pe hpe=>?_⟩
  have S8:=aK.upd (o:=.lst []) hpe
  have i8:Is (upd H7 pe (.lst [])) (.lst [eA gp]) (.ref l7):=⟨l7,_,rfl,S8 _ _ r7,_,_,rfl,Is.same (S7.trans S8) _ _ iv3,rfl⟩
  have n8:Is (upd H7 pe (.lst [])) (.lst []) (.ref pe):=⟨pe,[],rfl,aB,rfl⟩
  have r8:=S8 _ _ r7
  have he8:=S8 _ _ he7
  have o8:=S8 _ _ o7
  generalize upd H7 pe (.lst []) = H8 at S8 i8 n8 r8 he8 o8
  refine ⟨_,_,i8,n8,rfl,rfl,_,rfl,bR ?_⟩
  have efl:cX (gapsD fs ds lv) e = (decide (fl gp.nm ≠ 0) && (decide (-gp.coins ≤ fl gp.nm) && decide (fl gp.nm ≤ gp.coins))):=by
   rw [er]
   show (match eI (gapsD fs ds lv) gp.nm with | some c=>decide (fl gp.nm ≠ 0) && (decide (-c ≤ fl gp.nm) && decide (fl gp.nm ≤ c)) | none=>false) = _
   rw [ecap]
  refine ⟨_,rfl,rfl,_,rfl,?_⟩
  show if decide (V.int (fl gp.nm) = V.int 0) = true then _ else _
  rw [gT]
  by_cases f0:fl gp.nm = 0
  ·rw [decide_eq_true f0]
   refine cP (bad me ?_ (S'.trans (S7.trans S8)))
   rw [efl,f0]
   rfl
  rw [decide_eq_false f0]
  refine bR ?_
  refine ⟨_,rfl,_,rfl,_,rfl,l7,_,0,.ref t3,rfl,rfl,SqL.of r8,aQ (j:=0) rfl,t3,_,3,.int gp.coins,rfl,rfl,SqT.of o8,aQ (j:=3) rfl,_,_,rfl,rfl,_,rfl,?_⟩
  show if decide (gp.coins < (if fl gp.nm < 0 then -fl gp.nm else fl gp.nm)) = true then _ else _
  by_cases ab:gp.coins < (if fl gp.nm < 0 then -fl gp.nm else fl gp.nm)
  ·rw [decide_eq_true ab]
   refine cP (bad me ?_ (S'.trans (S7.trans S8)))
   rw [efl]
   by_cases h1:-gp.coins ≤ fl gp.nm
   ·have h2:¬ fl gp.nm ≤ gp.coins:=by revert ab;split <;> omega
    rw [decide_eq_false h2,Bool.and_false,Bool.and_false]
   ·rw [decide_eq_false h1,Bool.false_and,Bool.and_false]
  rw [decide_eq_false ab]
  refine bR ?_
  have good:cX (gapsD fs ds lv) e = true:=by
   rw [efl,decide_eq_true f0,decide_eq_true (show -gp.coins ≤ fl gp.nm by revert ab;split <;> omega),decide_eq_true (show fl gp.nm ≤ gp.coins by revert ab;split <;> omega)]
   rfl
  have ma':gp.one ∈ VV:=ma
  have mb':gp.other ∈ VV:=mb
  have S8':=S'.trans (S7.trans S8)
  generalize hh:mD ((es.map fun e=>gN (gapsD fs ds lv) (aJ e)).take i) fl = h0 at he8 gs
  refine ⟨_,rfl,_,rfl,l7,_,0,.ref t3,rfl,rfl,SqL.of r8,aQ (j:=0) rfl,t3,_,1,.str gp.one,rfl,rfl,SqT.of o8,aQ (j:=1) rfl,de,_,rfl,.inl ⟨_,Sum.inr gp.one,.inl he8,rfl,(fF nV ma' _).symm⟩,_,rfl,_,_,rfl,rfl,?_⟩
  refine ⟨_,rfl,_,rfl,l7,_,0,.ref t3,rfl,rfl,SqL.of r8,aQ (j:=0) rfl,t3,_,1,.str gp.one,rfl,rfl,SqT.of o8,aQ (j:=1) rfl,de,upd H8 de (.dK (dQ (cN VV) fun k=>if k = gp.one then h0 gp.one - fl gp.nm else h0 k)),rfl,.inl ⟨_,Sum.inr gp.one,he8,rfl,by rw [jC];omega,congrArg (fun x=>upd H8 de (.dK x)) (pM ma' h0 (h0 gp.one - fl gp.nm)).symm⟩,?_⟩
  have S9:=S8'.over (o:=.dK (dQ (cN VV) fun k=>if k = gp.one then h0 gp.one - fl gp.nm else h0 k)) nde
  have o9:upd H8 de (.dK (dQ (cN VV) fun k=>if k = gp.one then h0 gp.one - fl gp.nm else h0 k)) t3 = _:=(aR (rO o8 he8 (by intro c;cases c))).trans o8
  have r9:upd H8 de (.dK (dQ (cN VV) fun k=>if k = gp.one then h0 gp.one - fl gp.nm else h0 k)) l7 = _:=(aR (rO r8 he8 (by intro c;cases c))).trans r8
  have e9:upd H8 de (.dK (dQ (cN VV) fun k=>if k = gp.one then h0 gp.one - fl gp.nm else h0 k)) de = some (.dK (dQ (cN VV) fun k=>if k = gp.one then h0 gp.one - fl gp.nm else h0 k)):=aB
  generalize upd H8 de (.dK (dQ (cN VV) fun k=>if k = gp.one then h0 gp.one - fl gp.nm else h0 k)) = H9 at S9 o9 r9 e9
  generalize hh1:(fun k=>if k = gp.one then h0 gp.one - fl gp.nm else h0 k) = h1 at e9
  refine ⟨_,rfl,_,rfl,l7,_,0,.ref t3,rfl,rfl,SqL.of r9,aQ (j:=0) rfl,t3,_,2,.str gp.other,rfl,rfl,SqT.of o9,aQ (j:=2) rfl,de,_,rfl,.inl ⟨_,Sum.inr gp.other,.inl e9,rfl,(fF nV mb' _).symm⟩,_,rfl,_,_,rfl,rfl,?_⟩
  refine ⟨_,rfl,_,rfl,l7,_,0,.ref t3,rfl,rfl,SqL.of r9,aQ (j:=0) rfl,t3,_,2,.str gp.other,rfl,rfl,SqT.of o9,aQ (j:=2) rfl,de,upd H9 de (.dK (dQ (cN VV) fun k=>if k = gp.other then h1 gp.other + fl gp.nm else h1 k)),rfl,.inl ⟨_,Sum.inr gp.other,e9,rfl,by rw [jC];omega,congrArg (fun x=>upd H9 de (.dK x)) (pM mb' h1 (h1 gp.other + fl gp.nm)).symm⟩,?_⟩
  refine ⟨_,_,_,rfl,S9.over nde,?_,?_⟩
  ·rw [List.take_add_one,ee,List.all_append,al]
   show (true && (cX _ e && true)) = true
   rw [good]
   rfl
  rw [aB,← gs,← hh1]
  rfl
 rintro σ H5 ⟨v5,v6,v7,rfl,T5,al,he5⟩
 rw [List.take_of_length_le (by omega)] at al
 rw [List.take_of_length_le (by rw [List.length_map];omega)] at he5
 have hs:jQ (gapsD fs ds lv) (.lst es) = true:=by rw [tJ sbl gd.nd,ho,al];rfl
 have gn:=aMO GG hs
 rw [hfl] at gn
 rw [gn] at he5
 have q:∀ H',aK H H' → Q (tK (mX (fs.map aJ) zs (gapsD fs ds lv) fl)) H':=by
  have:iV (fs.map aJ) zs (gapsD fs ds lv) (.lst es) = mX (fs.map aJ) zs (gapsD fs ds lv) fl:=by
   unfold iV
   rw [hs,if_pos rfl,← hfl]
   rfl
  rw [this] at q
  exact q
 have L5:=L.same T5
 obtain ⟨dx5,d15,d25,hx5,_⟩:=L5.ex
 refine ⟨_,rfl,p,dx5,_,rfl,hx5,dI _ _ (by decide +kernel) (by decide +kernel),_,rfl,p,fs,ds,rfl,L5,fun ln6 H6 S6 fln6 hln6=>?_⟩
 have he6:=S6 _ _ he5
 have T6:=T5.trans S6
 have hl6:=T6 _ _ hl
 refine ⟨ln6,rfl,⟨_,SqL.of hln6⟩,dW (K:=K) (a:=ln6) (xs:=(fs.map aJ).map V.str) (fun i σ H'=>∃ v5,σ = [some (.ref p),some (.ref lg),some (.ref l),some (.ref la),some (.ref de),v5,v6,v7] ∧ H6 = H' ∧ ∀ z ∈ (fs.map aJ).take i,¬ (net (gapsD fs ds lv) fl z < 0 ∨ (z ∉ zs ∧ net (gapsD fs ds lv) fl z ≠ 0))) ⟨_,rfl,rfl,fun z m=>by cases m⟩ ?_ ?_ ?_⟩
 ·rintro i σ H' hi ⟨v5,rfl,rfl,_⟩
  exact SqL.of hln6
 ·rintro i xv σ H' hx' ⟨v5,rfl,rfl,gd6⟩
  rw [List.getElem?_map] at hx'
  obtain ⟨z,ez,rfl⟩:=Option.map_eq_some_iff.mp hx'
  have mz:=List.mem_of_getElem? ez
  have mzV:=mV z mz
  have nx:¬ (net (gapsD fs ds lv) fl z < 0 ∨ (z ∉ zs ∧ net (gapsD fs ds lv) fl z ≠ 0)) → ∀ y ∈ (fs.map aJ).take (i + 1),¬ (net (gapsD fs ds lv) fl y < 0 ∨ (y ∉ zs ∧ net (gapsD fs ds lv) fl y ≠ 0)):=fun hz y my=>by
   rw [List.take_add_one,ez,List.mem_append] at my
   rcases my with my | my
   ·exact gd6 y my
   ·rw [show y = z by simpa using my]
    exact hz
  have none':(net (gapsD fs ds lv) fl z < 0 ∨ (z ∉ zs ∧ net (gapsD fs ds lv) fl z ≠ 0)) → Q .non H6:=fun hb=>by
   rw [aHB mz sub hb] at q
   exact q _ T6
  refine ⟨_,rfl,_,rfl,de,_,rfl,.inl ⟨_,Sum.inr z,.inl he6,rfl,(fF nV mzV _).symm⟩,_,_,rfl,rfl,_,rfl,?_⟩
  show if decide (net (gapsD fs ds lv) fl z < 0) = true then _ else _
  by_cases n0:net (gapsD fs ds lv) fl z < 0
  ·rw [decide_eq_true n0]
   exact cP (none' (.inl n0))
  rw [decide_eq_false n0]
  refine bR ⟨_,rfl,_,rfl,l,_,rfl,.inl (SqL.of hl6),rfl,gB zs,_,rfl,?_⟩
  rw [if_pos rfl,lR]
  by_cases h:z ∈ zs
  ·rw [decide_eq_true h]
   exact bR ⟨_,rfl,rfl,nx fun c=>c.elim n0 fun c=>c.1 h⟩
  ·rw [decide_eq_false h]
   refine cP ⟨_,rfl,_,rfl,de,_,rfl,.inl ⟨_,Sum.inr z,.inl he6,rfl,(fF nV mzV _).symm⟩,rfl,_,rfl,?_⟩
   show if (!decide (V.int _ = V.int _)) = true then _ else _
   rw [gT]
   by_cases nz:net (gapsD fs ds lv) fl z = 0
   ·rw [decide_eq_true nz]
    exact bR ⟨_,rfl,rfl,nx fun c=>c.elim n0 fun c=>c.2 nz⟩
   ·rw [decide_eq_false nz]
    exact cP (none' (.inr ⟨h,nz⟩))
 rintro σ H' ⟨v5',rfl,rfl,gd6⟩
 rw [List.length_map,List.take_of_length_le (Nat.le_refl _)] at gd6
 rw [vZ sub gd6] at q
 refine ⟨_,rfl,l,rfl,⟨_,SqL.of hl6⟩,?_⟩
 refine bH (F:=K) (xs:=zs.map V.str) (by rw [List.length_map];omega) (fun i ys H'=>H6 = H' ∧ ys = ((zs.take i).map (net (gapsD fs ds lv) fl)).map V.int) ⟨rfl,rfl⟩ ?_ ?_ ?_
 ·rintro i ys H' hi ⟨rfl,rfl⟩
  exact ⟨SqL.of hl6,by rw [List.length_map,List.length_map,List.length_take];omega⟩
 ·rintro i xv ys H' K1 K2 hx' ⟨rfl,rfl⟩ k1 k2
  rw [List.getElem?_map] at hx'
  obtain ⟨z,ez,rfl⟩:=Option.map_eq_some_iff.mp hx'
  have mz:=List.mem_of_getElem? ez
  refine ⟨_,rfl,_,rfl,de,_,rfl,.inl ⟨_,Sum.inr z,.inl he6,rfl,(fF nV (mV z (sub z mz)) _).symm⟩,?_⟩
  refine k1 _ _ ⟨rfl,?_⟩
  rw [List.take_add_one,ez,List.map_append,List.map_append]
  rfl
 rintro ys H' ⟨rfl,rfl⟩
 rw [List.length_map,List.take_of_length_le (Nat.le_refl _)]
 intro l9 h9
 have S9:=aK.upd (o:=.lst ((zs.map (net (gapsD fs ds lv) fl)).map V.int)) h9
 refine ⟨l9,zs.map (net (gapsD fs ds lv) fl),rfl,SqL.of aB,?_⟩
 exact q _ (T6.trans S9)
open Mt53 Mt22 MtF Mt31 Mt61
def aHG (d:Dv):Prop:=aO 30 d = true ∨ ∃ ks js,d = .dct ks (List.map Dv.int js)
theorem aHG.flatL {d:Dv} (h:aHG d):flatL d:=fun es e=>by
 rcases h with h | ⟨ks,js,h⟩
 ·exact h
 ·rw [h] at e;cases e
theorem uE {H:Hp}:∀ {js:List Int} {vs:List V},IsL H (js.map Dv.int) vs → ∀ v ∈ vs,xV v = true
 | [],_,h,v,m=>by
  cases (show _ = [] from h)
  cases m
 | j :: js,_,⟨w,r,rfl,hw,t⟩,v,m=>by
  rcases List.mem_cons.mp m with rfl | m
  ·cases (show v = _ from hw)
   rfl
  ·exact uE t v m
theorem gσ {i:Nat} {v:V} {σ σ':L2.St} {H:Hp} {Q:L2.St → Hp → Prop} (e:σ.set i (some v) = σ') (h:Q σ' H):uI i v σ H Q:=by
 subst e
 exact h
theorem nxσ {f:L2.St → Hp → Prop} {σ σ':L2.St} {H:Hp} (e:σ = σ') (h:f σ' H):f σ H:=e ▸ h
def sP (C:Addr):Sp:=fun vs H Q _=>∃ (x y u v w:V) (p l:Addr) (fs ds:List Dv) (zs:List Str) (L:Int) (d:Dv),vs = [x,y,u,v,w] ∧ x = .ref p ∧ LandAt C H p fs ds ∧ y = .ref l ∧ H l = some (.lst (zs.map V.str)) ∧ 1 ≤ zs.length ∧ zs.Nodup ∧ (∀ z ∈ zs,z ∈ fs.map aJ) ∧ u = .int L ∧ hgt L = true ∧ Is H d v ∧ wG d ∧ aHG d ∧ w = tK (iV (fs.map aJ) zs (gapsD fs ds L) d) ∧ ∀ H',aK H H' → Q (.bl true) H'
theorem aKB:∀ vs H Q E,sP C vs H Q E → vs.length = 5:=fun vs H Q E ⟨x,y,u,v,w,p,l,fs,ds,zs,L,d,e,_⟩=>by rw [e];rfl
theorem aEN (T:Txt K mg C):Fc P w K mg base 6 "_law_told" ["_law_land_here","_law_wish_here","_law_height_here","_law_stream_here","_law_due"] (sP C):=by
 have G_l_whole:Fc P w K mg base 1 "_law_whole" ["_law_found"] sO:=tU T
 have G_p_paper_for:Fc P w K mg base 5 "paper_for" ["land","fields","height","stream"] (sQ C):=tO T
 refine T.d_l_told.fc kF aKB (fun f cdv A outer s H vs Q E hr h=>?_)
 obtain ⟨x,y,u,v,w',p,l,fs,ds,zs,lv,d,rfl,rfl,L,rfl,hl,l1,nd,sub,rfl,hL,hd,sm,nk,rfl,q⟩:=h
 have big:=cB
 have hu:=gR hr
 refine ⟨_,(@aG _ _ _ _ _ (@aU _ _ (5) _ _ _ _ kF.nd rfl (Or.inl rfl) (pv 3) (by rfl) (by trivial)) (@aG _ _ _ _ _ (@cL _ _ _ _ _ _ _ _ (@cK _ _ _ (@aT _ _ _ _ _ _ _ _ _ (@bY _ (K) rfl) rfl T.n_isinstance bP (@aA _ _ _ _ _ (pv 3) (@aA _ _ _ _ _ (@kQ _ _ _ _ T.n_list dP (by rfl) (by decide) (by decide)) aE (by rfl)) (by rfl)) (by decide) (by decide) (by rfl) (by rfl)) (by intro _;rfl)) (@aH _ _ _ (@aU _ _ (5) _ _ _ _ kF.nd rfl (Or.inl rfl) (@cI _ _ _ _ _ _ _ _ _ (@oV _ (K) rfl) rfl T.n_list dP (@aA _ _ _ _ _ (pv 3) aE (by rfl)) (by decide) (by decide) (by rfl) (by rfl)) (by rfl) (by trivial))) bI) (@aG _ _ _ _ _ (@aU _ _ (6) _ _ _ _ kF.nd rfl (Or.inl rfl) (@cI _ _ _ _ _ _ _ _ _ (@oV _ (K) rfl) rfl T.n_list dP (@aA _ _ _ _ _ (pv 1) aE (by rfl)) (by decide) (by decide) (by rfl) (by rfl)) (by rfl) (by trivial)) (@aG _ _ _ _ _ (@aU _ _ (7) _ _ _ _ kF.nd rfl (Or.inl rfl) (@bU _ _ _ _ _ _ _ _ _ _ G_p_paper_for (hr.mono (by decide)) (@aA _ _ _ _ _ (pv 0) (@aA _ _ _ _ _ (pv 6) (@aA _ _ _ _ _ (pv 2) (@aA _ _ _ _ _ (pv 5) aE (by rfl)) (by rfl)) (by rfl)) (by rfl)) (by rfl) (by decide) (by rfl) (by rfl)) (by rfl) (by trivial)) (@aG _ _ _ _ _ (@cL _ _ _ _ _ _ _ _ (@PW.pt _ _ _ (@iQ _ _ _ _ _ _ _ (@bA _ _ _ _ _ _ _ _ (aLV hr.units) (pv 5) (pv 3) (@bG _ _ (by decide) (by decide))) (@iQ _ _ _ _ _ _ _ (@bA _ _ _ _ _ _ _ _ (@tL _ hr.units) (pv 6) (pv 1) (@bG _ _ (by decide) (by decide))) (@jL _ _ _ _ (@bA _ _ _ _ _ _ _ _ tM (pv 7) (pv 4) (@bG _ _ (by decide) (by decide))))))) (@aH _ _ _ (@aS _ _ _ _ jO)) bI) (@aH _ _ _ (@aS _ _ _ _ (@aGX _ _ _ _ _ _ _ (@dM _ _ _ _ _ _ _ _ aHD (pv 4) gZ (@bG _ _ (by decide) (by decide))) (@eB _ _ _ _ _ (@bU _ _ _ _ _ _ _ _ _ _ G_l_whole (hr.mono (by decide)) (@aA _ _ _ _ _ (pv 7) aE (by rfl)) (by rfl) (by decide) (by rfl) (by rfl))))))))))),?_⟩
 refine mK fun u1 hu1=>?_
 have key:∀ (vh:V) (H1:Hp),aK H H1 → Is H1 d vh → (aO 30 d = true ∨ vh = v) → u1 { nx:=fun _ H'=>Q .non H',rt:=Q } [some (.ref p),some (.ref l),some (.int lv),some v,some (tK (iV (fs.map aJ) zs (gapsD fs ds lv) d)),some vh,none,none] H1:=fun vh H1 S1 ih eq=>by
  refine hu1 _ _ _ ?_
  refine ⟨_,rfl,l,_,rfl,.inl (SqL.of (S1 _ _ hl)),fun l2 hl2=>?_⟩
  have A2:=aK.upd (o:=.lst (zs.map V.str)) hl2
  have h2:upd H1 l2 (.lst (zs.map V.str)) l2 = some (.lst (zs.map V.str)):=aB
  have S2:=S1.trans A2
  have ih2:=Is.same A2 _ _ ih
  generalize upd H1 l2 (.lst (zs.map V.str)) = H2 at A2 h2 S2 ih2 ⊢
  refine gσ (σ':=[some (.ref p),some (.ref l),some (.int lv),some v,some (tK (iV (fs.map aJ) zs (gapsD fs ds lv) d)),some vh,some (.ref l2),none]) rfl ?_
  refine ⟨_,rfl,_,rfl,_,rfl,_,rfl,_,_,_,_,p,l2,fs,ds,zs,lv,d,rfl,rfl,L.same S2,rfl,h2,l1,nd,sub,rfl,hL,ih2,sm,fun H3 S3=>?_⟩
  have T3:=S2.trans S3
  refine gσ (σ':=[some (.ref p),some (.ref l),some (.int lv),some v,some (tK (iV (fs.map aJ) zs (gapsD fs ds lv) d)),some vh,some (.ref l2),some (tK (iV (fs.map aJ) zs (gapsD fs ds lv) d))]) rfl ?_
  have fin:∀ R:VK,R (.bl false) H3 → aNQ vh v H3 R:=fun R r=>by
   rcases nk with f30 | ⟨ks,js,rfl⟩
   ·exact .inl (aAS (Is.same S3 _ _ ih2) (Is.same T3 _ _ hd) f30 r)
   ·rcases eq with eq | rfl
    ·cases eq
    ·obtain ⟨a,ws,rfl,ha,lw,iw⟩:=Is.same T3 _ _ hd
     refine .inr ⟨a,a,_,rfl,rfl,.inl ha,.inl ha,fun kv m=>uE iw _ ?_,r⟩
     exact (List.of_mem_zip m).2
  refine ⟨_,rfl,_,rfl,fin _ ⟨_,rfl,bR ?_⟩⟩
  refine ⟨_,rfl,_,rfl,aAS (d:=.lst (zs.map Dv.str)) (nZ (S3 _ _ h2)) (nZ (T3 _ _ hl)) (jV _) ⟨_,rfl,bR ?_⟩⟩
  have q:=q _ T3
  generalize iV (fs.map aJ) zs (gapsD fs ds lv) d = o
  cases o with
  | none=>exact ⟨_,rfl,_,rfl,rfl,_,rfl,bR ⟨_,rfl,rfl,_,rfl,cP q⟩⟩
  | some i =>
   refine ⟨_,rfl,_,rfl,rfl,_,rfl,?_⟩
   show if (!decide (V.int i = V.int i)) = true then _ else _
   rw [decide_eq_true rfl]
   exact bR ⟨_,rfl,rfl,_,rfl,bR ⟨_,rfl,_,rfl,.int i,rfl,q⟩⟩
 obtain ⟨t,ty,e1,e2,e3,e4,_⟩:=jU K hd
 refine ⟨_,rfl,_,rfl,_,_,_,t,_,rfl,rfl,ty,e4,_,rfl,?_⟩
 cases d with
 | lst es =>
  obtain ⟨lx,us,rfl,hx,iu⟩:=id hd
  refine cP ⟨_,rfl,lx,_,rfl,.inl (SqL.of hx),fun l1 hl1=>?_⟩
  have A1:=aK.upd (o:=.lst us) hl1
  exact key _ _ A1 ⟨l1,us,rfl,aB,IsL.same A1 _ _ iu⟩ (.inl (nk.flatL _ rfl))
 | _=>exact bR (key _ _ (aK.refl _) hd (.inr rfl))
open Mt53 Mt22 MtF Mt31 Mt61 Mt51
def nr (s:Gp × Bool):Str:=if s.2 = true then s.1.one else s.1.other
def fr' (s:Gp × Bool):Str:=if s.2 = true then s.1.other else s.1.one
def wy (b:Bool):Int:=if b = true then 1 else -1
def stD (s:Gp × Bool):Dv:=.tup [.str s.1.nm,.int (wy s.2),.int s.1.coins]
inductive Pth (G:List Gp) (st:Str):List (Gp × Bool) → Str → Prop
 | nil:Pth G st [] st
 | snoc {P:List (Gp × Bool)} {h:Str} {g:Gp} {b:Bool} (p:Pth G st P h) (m:g ∈ G) (c:0 < g.coins) (e:nr (g,b) = h) (n:fr' (g,b) ∉ st :: P.map fr'):Pth G st (P ++ [(g,b)]) (fr' (g,b))
abbrev Cmp:=List (Str × List (Gp × Bool))
structure Bfs (G:List Gp) (V0:List Str) (st:Str) (cm:Cmp):Prop where
 nd:(cm.map (·.1)).Nodup
 sub:∀ z ∈ cm.map (·.1),z ∈ V0
 pth:∀ c ∈ cm,Pth G st c.2 c.1 ∧ ∀ z ∈ st :: c.2.map fr',z ∈ cm.map (·.1)
theorem Bfs.init {G:List Gp} {V0:List Str} {st:Str} (m:st ∈ V0):Bfs G V0 st [(st,[])] :=
 ⟨by simp,fun z h=>by rw [show z = st by simpa using h];exact m,fun c h=>by
  rw [show c = (st,[]) by simpa using h]
  exact ⟨.nil,fun z hz=>by simpa using hz⟩⟩
theorem Bfs.snoc {G:List Gp} {V0:List Str} {st:Str} {cm:Cmp} (B:Bfs G V0 st cm) {h:Str} {P:List (Gp × Bool)} (mc:(h,P) ∈ cm) {g:Gp} {b:Bool} (mg:g ∈ G) (c:0 < g.coins) (e:nr (g,b) = h) (n:fr' (g,b) ∉ cm.map (·.1)) (v:fr' (g,b) ∈ V0):Bfs G V0 st (cm ++ [(fr' (g,b),P ++ [(g,b)])]):=by
 obtain ⟨p1,p2⟩:=B.pth _ mc
 refine ⟨?_,fun z hz=>?_,fun d hd=>?_⟩
 ·rw [List.map_append,List.nodup_append]
  refine ⟨B.nd,by simp,fun a ma b' mb=>?_⟩
  rw [show b' = fr' (g,b) by simpa using mb]
  exact fun e=>n (e ▸ ma)
 ·rw [List.map_append,List.mem_append] at hz
  rcases hz with hz | hz
  ·exact B.sub z hz
  ·rw [show z = fr' (g,b) by simpa using hz]
   exact v
 ·rw [List.map_append]
  rcases List.mem_append.mp hd with hd | hd
  ·exact ⟨(B.pth d hd).1,fun z hz=>List.mem_append_left _ ((B.pth d hd).2 z hz)⟩
  ·rw [show d = (fr' (g,b),P ++ [(g,b)]) by simpa using hd]
   refine ⟨.snoc p1 mg c e fun m=>n (p2 _ m),fun z hz=>?_⟩
   rw [List.map_append,← List.cons_append,List.mem_append] at hz
   rcases hz with hz | hz
   ·exact List.mem_append_left _ (p2 z hz)
   ·exact List.mem_append_right _ (by simpa using hz)
def oR (a b:Addr) (H:Hp):Hp:=fun x=>if x = a ∨ x = b then none else H x
theorem rD {a b:Addr} {H:Hp}:aK (oR a b H) H:=fun x o e=>by
 unfold oR at e
 split at e
 ·cases e
 ·exact e
theorem gS {a b x:Addr} {H:Hp} {o:HO} (e:H x = some o) (n1:x ≠ a) (n2:x ≠ b):oR a b H x = some o:=by
 unfold oR
 rw [if_neg (fun h=>h.elim n1 n2)]
 exact e
theorem yV {a b:Addr} {H:Hp}:oR a b H a = none:=by unfold oR;rw [if_pos (.inl rfl)]
theorem yU {a b:Addr} {H:Hp}:oR a b H b = none:=by unfold oR;rw [if_pos (.inr rfl)]
def qM (P:List (Gp × Bool)):Dv:=.lst (P.map stD)
structure CmAt (H:Hp) (dc lr:Addr) (cm:Cmp):Prop where
 ex:∃ kvs Hs,H dc = some (.dK kvs) ∧ kvs.map (·.1) = (cm.map (·.1)).map (Sum.inr:Str → Key) ∧ aK Hs H ∧ Hs dc = none ∧ Hs lr = none ∧ IsL Hs (cm.map fun c=>qM c.2) (kvs.map (·.2))
 row:H lr = some (.lst ((cm.map (·.1)).map V.str))
theorem CmAt.same {H H':Hp} {dc lr:Addr} {cm:Cmp} (S:aK H H') (c:CmAt H dc lr cm):CmAt H' dc lr cm:=by
 obtain ⟨⟨kvs,Hs,h1,h2,h3,h4,h5,h6⟩,r⟩:=c
 exact ⟨⟨kvs,Hs,S _ _ h1,h2,h3.trans S,h4,h5,h6⟩,S _ _ r⟩
theorem pI {H:Hp}:∀ {cm:Cmp} {kvs:List (Key × V)} {h:Str},kvs.map (·.1) = (cm.map (·.1)).map (Sum.inr:Str → Key) → IsL H (cm.map fun c=>qM c.2) (kvs.map (·.2)) → h ∈ cm.map (·.1) → ∃ P v,(h,P) ∈ cm ∧ gC kvs (Sum.inr h) = some v ∧ Is H (qM P) v
 | [],_,_,_,_,m=>by cases m
 | _ :: _,[],_,e,_,_=>by cases e
 | c :: cm,kv :: kvs,h,e,i,m=>by
  rw [List.map_cons,List.map_cons,List.map_cons] at e
  obtain ⟨e1,e2⟩:=List.cons.inj e
  obtain ⟨v,r,ev,iv,ir⟩:=i
  rw [List.map_cons] at ev
  obtain ⟨rfl,rfl⟩:=List.cons.inj ev
  by_cases hc:c.1 = h
  ·subst hc
   exact ⟨c.2,kv.2,List.mem_cons_self,jA e1,iv⟩
  ·have m':h ∈ cm.map (·.1):=by
    rcases List.mem_cons.mp m with k | k
    ·exact absurd k.symm hc
    ·exact k
   obtain ⟨P,v,mp,ev,ip⟩:=pI e2 ir m'
   exact ⟨P,v,List.mem_cons_of_mem _ mp,by rw [gD (fun k=>hc (Sum.inr.inj (e1.symm.trans k)))];exact ev,ip⟩
theorem oP:∀ {cm:Cmp} {kvs:List (Key × V)} {h:Str},kvs.map (·.1) = (cm.map (·.1)).map (Sum.inr:Str → Key) → h ∉ cm.map (·.1) → gC kvs (Sum.inr h) = none
 | [],[],_,_,_=>rfl
 | [],_ :: _,_,e,_=>by cases e
 | _ :: _,[],_,e,_=>by cases e
 | c :: cm,kv :: kvs,h,e,n=>by
  rw [List.map_cons,List.map_cons,List.map_cons] at e
  obtain ⟨e1,e2⟩:=List.cons.inj e
  rw [gD (fun k=>n (by rw [← Sum.inr.inj (e1.symm.trans k)];exact List.mem_cons_self))]
  exact oP e2 fun m=>n (List.mem_cons_of_mem _ m)
theorem CmAt.snoc {H H1:Hp} {dc lr ln:Addr} {cm:Cmp} {there:Str} {P:List (Gp × Bool)} {kvs:List (Key × V)} (c:CmAt H dc lr cm) (S:aK H H1) (hk:H dc = some (.dK kvs)) (hP:Is (oR dc lr H1) (qM P) (.ref ln)) (nw:there ∉ cm.map (·.1)) (ne:dc ≠ lr) :
  CmAt (upd (upd H1 dc (.dK (gW kvs (Sum.inr there) (.ref ln)))) lr (.lst ((cm.map (·.1)).map V.str ++ [.str there]))) dc lr (cm ++ [(there,P)]):=by
 obtain ⟨⟨kvs',Hs,h1,h2,h3,h4,h5,h6⟩,r⟩:=c
 rw [hk] at h1
 cases h1
 refine ⟨⟨kvs ++ [(Sum.inr there,.ref ln)],oR dc lr H1,?_,?_,fun b o e=>?_,yV,yU,?_⟩,?_⟩
 ·rw [aR ne,aB,aAF _ (oP h2 nw)]
 ·rw [List.map_append,List.map_append,List.map_append,h2]
  rfl
 ·have n1:b ≠ dc:=fun z=>by rw [z,yV] at e;cases e
  have n2:b ≠ lr:=fun z=>by rw [z,yU] at e;cases e
  rw [aR n2,aR n1]
  exact rD _ _ e
 ·rw [List.map_append,List.map_append]
  refine IsL.snoc hP (IsL.same (fun b o e=>?_) _ _ h6)
  exact gS (S _ _ (h3 _ _ e)) (fun z=>by rw [z,h4] at e;cases e) (fun z=>by rw [z,h5] at e;cases e)
 ·rw [aB,List.map_append,List.map_append]
  rfl
open Mt53 Mt22 MtF Mt31 Mt61 Mt51
theorem oN (a b:Str):decide (V.str a = V.str b) = decide (a = b):=by
 by_cases h:a = b
 ·rw [h,decide_eq_true rfl,decide_eq_true rfl]
 ·rw [decide_eq_false h,decide_eq_false fun e=>h (V.str.inj e)]
theorem aFW {H:Hp} {t:Addr} {g:Gp} {b:Bool} (h:H t = some (.tup [.str g.nm,.int (wy b),.int g.coins])):Is H (stD (g,b)) (.ref t):=⟨t,_,rfl,h,_,_,rfl,rfl,_,_,rfl,rfl,_,_,rfl,rfl,rfl⟩
def aGA:Sp:=sp2 fun x y H Q=>∃ (lg l:Addr) (us:List V) (G:List Gp) (V0 zs:List Str),x = .ref lg ∧ H lg = some (.lst us) ∧ IsL H (G.map eA) us ∧ G.length ≤ 40 ∧ V0.length ≤ 13 ∧ Mt22.sea ∈ V0 ∧ (∀ g ∈ G,g.one ∈ V0 ∧ g.other ∈ V0) ∧ y = .ref l ∧ H l = some (.lst (zs.map V.str)) ∧ zs.length ≤ 100 ∧
 ∀ (v:V) (P:List (Gp × Bool)) (H':Hp),aK H H' → Is H' (qM P) v → P.length ≤ 13 → (P ≠ [] → ∃ e ∈ zs,Pth G Mt22.sea P e) → Q v H'
theorem aJP {G:List Gp} {st:Str} {P:List (Gp × Bool)} {e:Str} (p:Pth G st P e):(st :: P.map fr').Nodup:=by
 induction p with
 | nil=>simp
 | snoc p m c e n ih =>
  rw [List.map_append,← List.cons_append,List.nodup_append]
  refine ⟨ih,by simp,fun a ma b mb=>?_⟩
  rw [show b = fr' _ by simpa using mb]
  exact fun z=>n (z ▸ ma)
theorem Bfs.len {G:List Gp} {V0:List Str} {st:Str} {cm:Cmp} (B:Bfs G V0 st cm) {c:Str × List (Gp × Bool)} (m:c ∈ cm) (l:V0.length ≤ 13):c.2.length ≤ 12:=by
 obtain ⟨p,s⟩:=B.pth c m
 have:=jP (aJP p) (fun z hz=>B.sub z (s z hz))
 rw [List.length_cons,List.length_map] at this
 omega
theorem aEO (T:Txt K mg C):Fc P w K mg base 1 "_law_road" ["_law_gaps_here","_law_wish_here"] aGA:=by
 refine T.d_l_road.fc cV iX (fun f cdv A outer s H vs Q E hr h=>?_)
 obtain ⟨x,y,rfl,lg,l,us,G,V0,zs,rfl,hlg,ius,lG,lV,sV,sub,rfl,hl,lzs,q⟩:=h
 have big:=cB
 have hu:=gR hr
 have lus:=ius.length
 rw [List.length_map] at lus
 refine ⟨_,(@aG _ _ _ _ _ (@aU _ _ (2) _ _ _ _ cV.nd rfl (Or.inr rfl) (@xW _ _ _ _ _ (@tE _ _ _ _ _ _ _ _ _ jN (@bM _ _ _ _ aE) xU) rfl rfl (by simp) (Nat.le_of_ble_eq_true rfl)) (by rfl) (by trivial)) (@aG _ _ _ _ _ (@aU _ _ (3) _ _ _ _ cV.nd rfl (Or.inl rfl) (@bM _ _ _ _ (@aA _ _ _ _ _ jN aE (by rfl))) (by rfl) (by trivial)) (@aG _ _ _ _ _ (@aU _ _ (4) _ _ _ _ cV.nd rfl (Or.inl rfl) aD (by rfl) (by trivial)) (@aG _ _ _ _ _ (@aAH _ _ _ _ _ _ PassesOwn.never (@bA _ _ _ _ _ _ _ _ mY (pv 4) (@aT _ _ _ _ _ _ _ _ _ (@aY _ (K) rfl) rfl T.n_len bS (@aA _ _ _ _ _ (pv 3) aE (by rfl)) (by decide) (by decide) (by rfl) (by rfl)) (@bG _ _ (by decide) (by decide))) (@aG _ _ _ _ _ (@aU _ _ (5) _ _ _ _ cV.nd rfl (Or.inl rfl) (@aZ _ _ _ _ _ _ _ (@bL _ (K) rfl) (pv 3) (pv 4) (fun _ _=>rfl)) (by rfl) (by trivial)) (@aG _ _ _ _ _ (@aU _ _ (4) _ _ _ _ cV.nd rfl (Or.inl rfl) (@aI _ _ _ _ _ _ _ _ cF (pv 4) aD) (by rfl) (by trivial)) (@aH _ _ _ (@eJ _ _ _ _ _ _ _ _ PassesOwn.never rfl (@bE _ (K) _ _ _ rfl (@bF _ _ _ _ (pv 0))) (@lI _ (K) _ _ _ _ _ rfl 4 rfl (@jZ _ _ _ _ _ _ rfl (@aW _ _ _ _ _ (@aM _ _ (6) _ cV.nd rfl (Or.inl rfl) (by trivial)) (@aW _ _ _ _ _ (@aM _ _ (7) _ cV.nd rfl (Or.inl rfl) (by trivial)) (@aW _ _ _ _ _ (@aM _ _ (8) _ cV.nd rfl (Or.inl rfl) (by trivial)) (@aW _ _ _ _ _ (@aM _ _ (9) _ cV.nd rfl (Or.inl rfl) (by trivial)) eY (by rfl)) (by rfl)) (by rfl)) (by rfl)) (by rfl) (by rfl))) (@aH _ _ _ (@eJ _ _ _ _ _ _ _ _ PassesOwn.never rfl (@bE _ (K) _ _ _ rfl (@bF _ _ _ _ (@bM _ _ _ _ (@aA _ _ _ _ _ (@cA _ _ _ _ _ (@aA _ _ _ _ _ (pv 7) (@aA _ _ _ _ _ (pv 8) (@aA _ _ _ _ _ aD aE (by rfl)) (by rfl)) (by rfl))) (@aA _ _ _ _ _ (@cA _ _ _ _ _ (@aA _ _ _ _ _ (pv 8) (@aA _ _ _ _ _ (pv 7) (@aA _ _ _ _ _ (@aAI _ _ _ _ _ _ sL aD) aE (by rfl)) (by rfl)) (by rfl))) aE (by rfl)) (by rfl))))) (@lI _ (K) _ _ _ _ _ rfl 3 rfl (@jZ _ _ _ _ _ _ rfl (@aW _ _ _ _ _ (@aM _ _ (10) _ cV.nd rfl (Or.inl rfl) (by trivial)) (@aW _ _ _ _ _ (@aM _ _ (11) _ cV.nd rfl (Or.inl rfl) (by trivial)) (@aW _ _ _ _ _ (@aM _ _ (12) _ cV.nd rfl (Or.inl rfl) (by trivial)) eY (by rfl)) (by rfl)) (by rfl)) (by rfl) (by rfl))) (@aH _ _ _ (@cL _ _ _ _ _ _ _ _ (@PW.pt _ _ _ (@jM _ _ _ _ _ _ _ (@bA _ _ _ _ _ _ _ _ iR (pv 10) (pv 5) (@bG _ _ (by decide) (by decide))) (@jM _ _ _ _ _ _ _ (@xT _ _ _ _ _ _ (@vY _ _ _ _ _ hu (pv 11) (pv 2)) (by first | exact nobehind _ (by decide) (by decide) | rfl)) (@jM _ _ _ _ _ _ _ (@bA _ _ _ _ _ _ _ _ (@hX _ (K) rfl) (pv 5) (pv 1) (by with_unfolding_all rfl)) (@lH _ _ _ _ (@bA _ _ _ _ _ _ _ _ wA (pv 9) aD (@bG _ _ (by decide) (by decide)))))))) (@aG _ _ _ _ _ (@oG _ _ _ _ _ _ _ _ _ hu (pv 2) (pv 11) (@aI _ _ _ _ _ _ _ _ eR (@dR _ _ _ _ _ _ hu (pv 2) (pv 5) (fun _ _=>rfl)) (@bM _ _ _ _ (@aA _ _ _ _ _ (@cA _ _ _ _ _ (@aA _ _ _ _ _ (pv 6) (@aA _ _ _ _ _ (pv 12) (@aA _ _ _ _ _ (pv 9) aE (by rfl)) (by rfl)) (by rfl))) aE (by rfl)))) rfl) (@aH _ _ _ (@hW _ _ _ _ (@pQ _ (K) _ _ _ _ _ rfl (@pS _ _ _ _ _ _ _ _ _ _ _ _ PySem.F.plainAttrs_list PySem.F.slot_list_append PySem.F.type_list_append eZ (pv 3) (@aA _ _ _ _ _ (pv 11) aE (by rfl)) (by rfl) (by rfl) (by rfl) (by rfl) (by rfl))) (by rfl)))) bI)) (by intro _;rfl))) (by intro _;rfl)))))) (@aG _ _ _ _ _ (@oZ _ (13) _ _ _ _ _ _ _ _ _ _ _ _ _ cV.nd rfl ["_law_name","_law_come_here"] 1 [2] rfl (@bE _ (K) _ _ _ rfl (@bF _ _ _ _ (pv 1))) (fun R=>@aM _ _ (0) _ (show List.Nodup (["_law_name","_law_come_here"]:List Str) by decide +kernel) rfl (Or.inl rfl) (by trivial)) (@bC _ _ (by decide)) (fun R=>@fU _ _ _ (@xT _ _ _ _ _ _ (@aBX _ _ _ _ _ hu (pv 0) (pv 1)) (by first | exact nobehind _ (by decide) (by decide) | rfl))) (fun R=>(@dR _ _ _ _ _ _ hu (pv 1) (pv 0) (fun _ _=>rfl))) (by exact Or.inl rfl) (by trivial) (by rfl) (by rfl) (by rfl) (by rfl) (by rfl) (by rfl) (by rfl) (by rfl) (by intro _;rfl)) (@aH _ _ _ (@aS _ _ _ _ (@aZ _ _ _ _ _ _ _ (@bL _ (K) rfl) (@aI _ _ _ _ _ _ _ _ eR (pv 13) (@bM _ _ _ _ (@aA _ _ _ _ _ (@bM _ _ _ _ aE) aE (by rfl)))) aD (fun _ _=>rfl))))))))),?_⟩
 refine zY fun u1 hu1=>?_
 intro dc hdc
 refine ⟨aL rfl,fun le hle=>?_⟩
 have A0:=aK.upd (o:=.lst []) hle
 refine ⟨A0 _ _ aB,[(Sum.inr "sea",.ref le)],rfl,by show 1 ≤ 15;decide,?_⟩
 have S1:aK H (upd (upd (upd H dc (.dK [])) le (.lst [])) dc (.dK (fC [] [(Sum.inr "sea",V.ref le)]))):=((aK.upd hdc).trans A0).over hdc
 have nel:le ≠ dc:=fun z=>by rw [z,aB] at hle;cases hle
 have d1:upd (upd (upd H dc (.dK [])) le (.lst [])) dc (.dK (fC [] [(Sum.inr "sea",V.ref le)])) dc = some (.dK [(Sum.inr "sea",.ref le)]):=aB
 have e1:upd (upd (upd H dc (.dK [])) le (.lst [])) dc (.dK (fC [] [(Sum.inr "sea",V.ref le)])) le = some (.lst []):=by rw [aR nel,aB]
 generalize upd (upd (upd H dc (.dK [])) le (.lst [])) dc (.dK (fC [] [(Sum.inr "sea",V.ref le)])) = H1 at S1 d1 e1 ⊢
 refine gσ (σ':=[some (.ref lg),some (.ref l),some (.ref dc),none,none,none,none,none,none,none,none,none,none,none]) rfl ?_
 refine ⟨aL rfl,fun lr hlr=>?_⟩
 have A1:=aK.upd (o:=.lst [.str "sea"]) hlr
 have r2:upd H1 lr (.lst [.str "sea"]) lr = some (.lst [.str "sea"]):=aB
 have nHl:H lr = none:=S1.free hlr
 have ndl:dc ≠ lr:=fun z=>by rw [← z,d1] at hlr;cases hlr
 have nll:le ≠ lr:=fun z=>by rw [← z,e1] at hlr;cases hlr
 have S2:=S1.trans A1
 have d2:=A1 _ _ d1
 have e2:=A1 _ _ e1
 generalize upd H1 lr (.lst [.str "sea"]) = H2 at A1 r2 S2 d2 e2 ⊢
 refine gσ (σ':=[some (.ref lg),some (.ref l),some (.ref dc),some (.ref lr),none,none,none,none,none,none,none,none,none,none]) rfl ?_
 refine gσ (σ':=[some (.ref lg),some (.ref l),some (.ref dc),some (.ref lr),some (.int 0),none,none,none,none,none,none,none,none,none]) rfl ?_
 refine hu1 _ _ _ ?_
 have c0:CmAt H2 dc lr [(Mt22.sea,[])]:=⟨⟨_,oR dc lr H2,d2,rfl,rD,yV,yU,_,_,rfl,⟨le,[],rfl,gS e2 nel nll,rfl⟩,rfl⟩,r2⟩
 refine cG fun u2 hu2=>?_
 refine zH (fun σ H'=>∃ (k:Nat) (cm:Cmp) (v5 v6 v7 v8 v9 v10 v11 v12:Option V),σ = [some (.ref lg),some (.ref l),some (.ref dc),some (.ref lr),some (.int k),v5,v6,v7,v8,v9,v10,v11,v12,none] ∧ aK H H' ∧ CmAt H' dc lr cm ∧ Bfs G V0 Mt22.sea cm ∧ k ≤ cm.length)
  (fun σ _=>match σ with | [_,_,_,_,some (.int k),_,_,_,_,_,_,_,_,_]=>14 - k.toNat | _=>0) ⟨0,[(Mt22.sea,[])],_,_,_,_,_,_,_,_,rfl,S2,c0,Bfs.init sV,Nat.zero_le _⟩ ?_ ?_
 ·rintro σ H3 ⟨k,cm,v5,v6,v7,v8,v9,v10,v11,v12,rfl,S3,c3,B3,hk⟩
  have lcm:cm.length ≤ 13:=by
   have:=jP B3.nd B3.sub
   rw [List.length_map] at this
   omega
  refine ⟨_,rfl,_,rfl,lr,_,rfl,.inl (SqL.of c3.row),_,_,rfl,rfl,_,rfl,?_⟩
  rw [List.length_map,List.length_map]
  refine dZ (fun c1=>?_) (fun c1=>?_)
  ·have hk1:k < cm.length:=by
    have:=of_decide_eq_true c1
    omega
   obtain ⟨u,eu⟩:∃ u,(cm.map (·.1))[k]? = some u:=⟨_,List.getElem?_eq_getElem (by rw [List.length_map];exact hk1)⟩
   have mu:=List.mem_of_getElem? eu
   refine ⟨_,rfl,_,rfl,lr,_,_,.str u,rfl,rfl,SqL.of c3.row,aQ (by rw [List.getElem?_map,eu];rfl),?_⟩
   refine gσ (σ':=[some (.ref lg),some (.ref l),some (.ref dc),some (.ref lr),some (.int k),some (.str u),v6,v7,v8,v9,v10,v11,v12,none]) rfl ?_
   refine ⟨_,rfl,_,_,rfl,rfl,?_⟩
   refine gσ (σ':=[some (.ref lg),some (.ref l),some (.ref dc),some (.ref lr),some (.int ((k:Int) + 1)),some (.str u),v6,v7,v8,v9,v10,v11,v12,none]) rfl ?_
   refine ⟨_,rfl,lg,rfl,⟨_,SqL.of (S3 _ _ hlg)⟩,dW (K:=K) (a:=lg) (xs:=us)
    (fun i σ H'=>∃ (v6 v7 v8 v9 v10 v11 v12:Option V) (cm:Cmp),σ = [some (.ref lg),some (.ref l),some (.ref dc),some (.ref lr),some (.int ((k:Int) + 1)),some (.str u),v6,v7,v8,v9,v10,v11,v12,none] ∧ aK H H' ∧ CmAt H' dc lr cm ∧ Bfs G V0 Mt22.sea cm ∧ k < cm.length ∧ u ∈ cm.map (·.1))
    ⟨_,_,_,_,_,_,_,cm,rfl,S3,c3,B3,hk1,mu⟩ (fun i σ H' _ ⟨_,_,_,_,_,_,_,_,_,S,_⟩=>SqL.of (S _ _ hlg)) ?_ ?_⟩
   ·clear c3 B3 lcm c1 hk1 eu mu
    rintro i xv σ H4 hi ⟨v6,v7,v8,v9,v10,v11,v12,cm,rfl,S4,c4,B4,hk4,mu4⟩
    have hil:i < us.length:=(List.getElem?_eq_some_iff.mp hi).1
    obtain ⟨g,eg⟩:∃ g,G[i]? = some g:=⟨_,List.getElem?_eq_getElem (by omega)⟩
    obtain ⟨v,ev,iv⟩:=ius.get (show (G.map eA)[i]? = some (eA g) by rw [List.getElem?_map,eg];rfl)
    rw [hi] at ev
    cases ev
    have mg':=List.mem_of_getElem? eg
    obtain ⟨t,rfl,o⟩:=qA iv
    refine ⟨t,_,rfl,SqT.of (S4 _ _ o),rfl,_,_,rfl,_,_,rfl,_,_,rfl,_,_,rfl,rfl,?_⟩
    refine nxσ (σ':=[some (.ref lg),some (.ref l),some (.ref dc),some (.ref lr),some (.int ((k:Int) + 1)),some (.str u),some (.str g.nm),some (.str g.one),some (.str g.other),some (.int g.coins),v10,v11,v12,none]) rfl ?_
    refine ⟨_,rfl,_,rfl,aL rfl,fun q1 hq1=>?_⟩
    have R1:=aK.upd (o:=.tup [.str g.one,.str g.other,.int 1]) hq1
    refine ⟨_,rfl,_,rfl,_,rfl,aL rfl,fun q2 hq2=>?_⟩
    have R2:=aK.upd (o:=.tup [.str g.other,.str g.one,.int (-1)]) hq2
    refine ⟨aL rfl,fun q3 hq3=>?_⟩
    have R3:=aK.upd (o:=.lst [.ref q1,.ref q2]) hq3
    have R:=R1.trans (R2.trans R3)
    have g1:=(R2.trans R3) _ _ (aB (H:=H4) (a:=q1) (o:=.tup [.str g.one,.str g.other,.int 1]))
    have g2:=R3 _ _ (aB (H:=upd H4 q1 (.tup [.str g.one,.str g.other,.int 1])) (a:=q2) (o:=.tup [.str g.other,.str g.one,.int (-1)]))
    have g3:=aB (H:=upd (upd H4 q1 (.tup [.str g.one,.str g.other,.int 1])) q2 (.tup [.str g.other,.str g.one,.int (-1)])) (a:=q3) (o:=.lst [.ref q1,.ref q2])
    have n1:H4 q1 = none:=hq1
    have n2:H4 q2 = none:=R1.free hq2
    have n3:H4 q3 = none:=(R1.trans R2).free hq3
    have S5:=S4.trans R
    have c5:=c4.same R
    generalize upd (upd (upd H4 q1 (.tup [.str g.one,.str g.other,.int 1])) q2 (.tup [.str g.other,.str g.one,.int (-1)])) q3 (.lst [.ref q1,.ref q2]) = H5 at g1 g2 g3 S5 c5 ⊢
    obtain ⟨⟨kv4,Hs4,dk4,_⟩,rr4⟩:=c4
    have w1:q1 ≠ dc ∧ q1 ≠ lr:=⟨(fun z=>by rw [z,dk4] at n1;cases n1),(fun z=>by rw [z,rr4] at n1;cases n1)⟩
    have w2:q2 ≠ dc ∧ q2 ≠ lr:=⟨(fun z=>by rw [z,dk4] at n2;cases n2),(fun z=>by rw [z,rr4] at n2;cases n2)⟩
    have w3:q3 ≠ dc ∧ q3 ≠ lr:=⟨(fun z=>by rw [z,dk4] at n3;cases n3),(fun z=>by rw [z,rr4] at n3;cases n3)⟩
    clear R1 R2 R3 R hq1 hq2 hq3 n1 n2 n3 S4
    refine ⟨q3,rfl,⟨_,SqL.of g3⟩,dW (K:=K) (a:=q3) (xs:=[.ref q1,.ref q2])
     (fun j σ H'=>∃ (v10 v11 v12:Option V) (cm:Cmp),σ = [some (.ref lg),some (.ref l),some (.ref dc),some (.ref lr),some (.int ((k:Int) + 1)),some (.str u),some (.str g.nm),some (.str g.one),some (.str g.other),some (.int g.coins),v10,v11,v12,none] ∧ aK H H' ∧ CmAt H' dc lr cm ∧ Bfs G V0 Mt22.sea cm ∧ k < cm.length ∧ u ∈ cm.map (·.1) ∧ H' q1 = some (.tup [.str g.one,.str g.other,.int 1]) ∧ H' q2 = some (.tup [.str g.other,.str g.one,.int (-1)]) ∧ H' q3 = some (.lst [.ref q1,.ref q2]))
     ⟨_,_,_,cm,rfl,S5,c5,B4,hk4,mu4,g1,g2,g3⟩ (fun j σ H' _ ⟨_,_,_,_,_,_,_,_,_,_,_,_,e⟩=>SqL.of e) ?_ ?_⟩
    ·clear c5 B4 hk4 mu4 g1 g2 g3 S5
     rintro j yv σ H6 hj ⟨x10,x11,x12,cm,rfl,S6,c6,B6,hk6,mu6,g1,g2,g3⟩
     have hj2:j < 2:=(List.getElem?_eq_some_iff.mp hj).1
     obtain ⟨qq,b,rfl,hq⟩:∃ (qq:Addr) (b:Bool),yv = .ref qq ∧ H6 qq = some (.tup [.str (nr (g,b)),.str (fr' (g,b)),.int (wy b)]):=by
      match j,hj2 with
      | 0,_ =>
       cases hj
       exact ⟨q1,true,rfl,g1⟩
      | 1,_ =>
       cases hj
       exact ⟨q2,false,rfl,g2⟩
     refine ⟨qq,_,rfl,SqT.of hq,rfl,_,_,rfl,_,_,rfl,_,_,rfl,rfl,?_⟩
     refine nxσ (σ':=[some (.ref lg),some (.ref l),some (.ref dc),some (.ref lr),some (.int ((k:Int) + 1)),some (.str u),some (.str g.nm),some (.str g.one),some (.str g.other),some (.int g.coins),some (.str (nr (g,b))),some (.str (fr' (g,b))),some (.int (wy b)),none]) rfl ?_
     have same:∃ (v10 v11 v12:Option V) (cm:Cmp),([some (.ref lg),some (.ref l),some (.ref dc),some (.ref lr),some (.int ((k:Int) + 1)),some (.str u),some (.str g.nm),some (.str g.one),some (.str g.other),some (.int g.coins),some (.str (nr (g,b))),some (.str (fr' (g,b))),some (.int (wy b)),none]:L2.St) = [some (.ref lg),some (.ref l),some (.ref dc),some (.ref lr),some (.int ((k:Int) + 1)),some (.str u),some (.str g.nm),some (.str g.one),some (.str g.other),some (.int g.coins),v10,v11,v12,none] ∧ aK H H6 ∧ CmAt H6 dc lr cm ∧ Bfs G V0 Mt22.sea cm ∧ k < cm.length ∧ u ∈ cm.map (·.1) ∧ H6 q1 = some (.tup [.str g.one,.str g.other,.int 1]) ∧ H6 q2 = some (.tup [.str g.other,.str g.one,.int (-1)]) ∧ H6 q3 = some (.lst [.ref q1,.ref q2]):=⟨_,_,_,cm,rfl,S6,c6,B6,hk6,mu6,g1,g2,g3⟩
     refine ⟨_,rfl,_,rfl,rfl,_,rfl,?_⟩
     rw [oN]
     refine dZ (fun c2=>?_) (fun _=>same)
     have eu:nr (g,b) = u:=of_decide_eq_true c2
     obtain ⟨⟨kvs,Hs,hk0,ek,Ss,sd,sl,ik⟩,rr⟩:=id c6
     have hk0r:Rd H6 dc (.dK kvs):=.inl hk0
     refine ⟨_,rfl,_,rfl,dc,_,rfl,.inl ⟨_,Sum.inr (fr' (g,b)),hk0r,rfl,rfl⟩,_,rfl,?_⟩
     by_cases new:fr' (g,b) ∈ cm.map (·.1)
     ·obtain ⟨_,w0,_,e0,_⟩:=pI ek ik new
      rw [e0]
      exact bR same
     rw [oP ek new]
     refine cP ?_
     refine ⟨_,rfl,_,rfl,l,_,rfl,.inl (SqL.of (S6 _ _ hl)),rfl,gB _,_,rfl,?_⟩
     refine dZ (fun _=>?_) (fun _=>same)
     refine ⟨_,rfl,_,_,rfl,rfl,_,rfl,?_⟩
     refine dZ (fun c4=>?_) (fun _=>same)
     have cpos:0 < g.coins:=of_decide_eq_true c4
     obtain ⟨P0,pv,mP,eP,iP⟩:=pI ek ik mu6
     obtain ⟨la,ua,rfl,hla,iua⟩:=id iP
     have lua:=iua.length
     rw [List.length_map] at lua
     have lP:=B6.len mP lV
     have lP:P0.length ≤ 12:=lP
     refine ⟨_,rfl,_,rfl,dc,_,rfl,.inl ⟨_,Sum.inr u,hk0r,rfl,eP.symm⟩,?_⟩
     refine ⟨_,rfl,_,rfl,_,rfl,aL rfl,fun t1 ht1=>?_⟩
     have R1:=aK.upd (o:=.tup [.str g.nm,.int (wy b),.int g.coins]) ht1
     refine ⟨aL rfl,fun t2 ht2=>?_⟩
     have R2:=aK.upd (o:=.lst [.ref t1]) ht2
     refine ⟨la,t2,_,_,rfl,rfl,R2 _ _ (R1 _ _ (Ss _ _ hla)),aB,by show _ + 1 ≤ _;omega,fun ln hln=>?_⟩
     have R3:=aK.upd (o:=.lst (ua ++ [.ref t1])) hln
     have R:=R1.trans (R2.trans R3)
     have j1:=(R2.trans R3) _ _ (aB (H:=H6) (a:=t1) (o:=.tup [.str g.nm,.int (wy b),.int g.coins]))
     have j3:=aB (H:=upd (upd H6 t1 (.tup [.str g.nm,.int (wy b),.int g.coins])) t2 (.lst [.ref t1])) (a:=ln) (o:=.lst (ua ++ [.ref t1]))
     have m1:H6 t1 = none:=ht1
     have m3:H6 ln = none:=(R1.trans R2).free hln
     generalize upd (upd (upd H6 t1 (.tup [.str g.nm,.int (wy b),.int g.coins])) t2 (.lst [.ref t1])) ln (.lst (ua ++ [.ref t1])) = H7 at R j1 j3 ⊢
     have z1:t1 ≠ dc ∧ t1 ≠ lr:=⟨(fun z=>by rw [z,hk0] at m1;cases m1),(fun z=>by rw [z,rr] at m1;cases m1)⟩
     have z3:ln ≠ dc ∧ ln ≠ lr:=⟨(fun z=>by rw [z,hk0] at m3;cases m3),(fun z=>by rw [z,rr] at m3;cases m3)⟩
     have Sd:aK Hs (oR dc lr H7):=fun b o e=>gS (R _ _ (Ss _ _ e)) (fun z=>by rw [z,sd] at e;cases e) (fun z=>by rw [z,sl] at e;cases e)
     have hP:Is (oR dc lr H7) (qM (P0 ++ [(g,b)])) (.ref ln):=by
      refine ⟨ln,_,rfl,gS j3 z3.1 z3.2,?_⟩
      rw [List.map_append]
      exact IsL.snoc (aFW (gS j1 z1.1 z1.2)) (IsL.same Sd _ _ iua)
     have c7:=c6.snoc R hk0 hP new ndl
     have B7:=B6.snoc mP mg' cpos eu new (by unfold fr';split <;> first | exact (sub g mg').2 | exact (sub g mg').1)
     refine ⟨_,rfl,_,rfl,dc,_,rfl,.inl ⟨kvs,Sum.inr (fr' (g,b)),R _ _ hk0,rfl,?_,rfl⟩,?_⟩
     ·have:=congrArg List.length ek
      rw [List.length_map,List.length_map,List.length_map] at this
      have:=jP B6.nd B6.sub
      rw [List.length_map] at this
      omega
     have rr8:upd H7 dc (.dK (gW kvs (Sum.inr (fr' (g,b))) (.ref ln))) lr = some (.lst ((cm.map (·.1)).map V.str)):=by rw [aR ndl.symm];exact R _ _ rr
     refine ⟨_,rfl,.inl ⟨rfl,_,SqL.of rr8⟩,_,rfl,lr,_,.str (fr' (g,b)),rfl,rfl,rr8,?_,?_⟩
     ·rw [List.length_map,List.length_map]
      have:=jP B6.nd B6.sub
      rw [List.length_map] at this
      omega
     refine ⟨_,_,_,cm ++ [(fr' (g,b),P0 ++ [(g,b)])],rfl,((S6.trans R).over hdc).over nHl,c7,B7,by rw [List.length_append];omega,by rw [List.map_append];exact List.mem_append_left _ mu6,?_,?_,?_⟩
     ·rw [aR w1.2,aR w1.1];exact R _ _ g1
     ·rw [aR w2.2,aR w2.1];exact R _ _ g2
     ·rw [aR w3.2,aR w3.1];exact R _ _ g3
    ·rintro σ H6 ⟨x10,x11,x12,cm,rfl,S6,c6,B6,hk6,mu6,_⟩
     exact ⟨_,_,_,_,_,_,_,cm,rfl,S6,c6,B6,hk6,mu6⟩
   ·rintro σ H4 ⟨v6,v7,v8,v9,v10,v11,v12,cm,rfl,S4,c4,B4,hk4,mu4⟩
    refine ⟨⟨k + 1,cm,_,_,_,_,_,_,_,_,rfl,S4,c4,B4,hk4⟩,?_⟩
    show 14 - ((k:Int) + 1).toNat < 14 - (k:Int).toNat
    omega
  ·refine hu2 _ _ _ ?_
   obtain ⟨⟨kvs,Hs,hk0,ek,Ss,sd,sl,ik⟩,rr⟩:=id c3
   refine ⟨_,rfl,l,rfl,⟨_,SqL.of (S3 _ _ hl)⟩,?_⟩
   refine bH (F:=K) (xs:=zs.map V.str) (by rw [List.length_map];omega) (fun i ys H'=>H3 = H' ∧ ys.length ≤ i ∧ ∃ ps:Cmp,IsL Hs (ps.map fun c=>qM c.2) ys ∧ ∀ c ∈ ps,c ∈ cm ∧ c.1 ∈ zs) ⟨rfl,Nat.le_refl _,[],rfl,fun c m=>by cases m⟩ ?_ ?_ ?_
   ·rintro i ys H' hi ⟨rfl,ly,_⟩
    exact ⟨SqL.of (S3 _ _ hl),ly⟩
   ·rintro i xv ys H' K1 K2 hx ⟨rfl,ly,ps,ips,hps⟩ k1 k2
    rw [List.getElem?_map] at hx
    obtain ⟨z,ez,rfl⟩:=Option.map_eq_some_iff.mp hx
    refine ⟨_,rfl,_,rfl,dc,_,rfl,.inl ⟨_,Sum.inr z,.inl hk0,rfl,rfl⟩,_,rfl,?_⟩
    by_cases mz:z ∈ cm.map (·.1)
    ·obtain ⟨P0,pv,mP,eP,iP⟩:=pI ek ik mz
     rw [eP]
     refine cP ⟨_,rfl,_,rfl,dc,_,rfl,.inl ⟨_,Sum.inr z,.inl hk0,rfl,eP.symm⟩,k1 _ _ ⟨rfl,by rw [List.length_append,List.length_singleton];omega,ps ++ [(z,P0)],?_,fun c m=>?_⟩⟩
     ·rw [List.map_append]
      exact IsL.snoc iP ips
     ·rcases List.mem_append.mp m with m | m
      ·exact hps c m
      ·rw [show c = (z,P0) by simpa using m]
       exact ⟨mP,List.mem_of_getElem? ez⟩
    ·rw [oP ek mz]
     exact bR (k2 _ ⟨rfl,by omega,ps,ips,hps⟩)
   rintro ys H' ⟨rfl,ly,ps,ips,hps⟩
   rw [List.length_map] at ly
   intro l1 hl1
   have A1':=aK.upd (o:=.lst ys) hl1
   have y1:upd H3 l1 (.lst ys) l1 = some (.lst ys):=aB
   generalize upd H3 l1 (.lst ys) = H4 at A1' y1 ⊢
   refine gσ (σ':=[some (.ref lg),some (.ref l),some (.ref dc),some (.ref lr),some (.int k),v5,v6,v7,v8,v9,v10,v11,v12,some (.ref l1)]) rfl ?_
   refine ⟨_,rfl,aL rfl,fun l2 hl2=>?_⟩
   have A2':=aK.upd (o:=.lst []) hl2
   refine ⟨aL rfl,fun l3 hl3=>?_⟩
   have A3':=aK.upd (o:=.lst [.ref l2]) hl3
   refine ⟨l1,l3,_,_,rfl,rfl,A3' _ _ (A2' _ _ y1),aB,by show _ + 1 ≤ _;omega,fun l4 hl4=>?_⟩
   have A4':=aK.upd (o:=.lst (ys ++ [.ref l2])) hl4
   have TT:=A2'.trans (A3'.trans A4')
   have y2:=(A3'.trans A4') _ _ (aB (H:=H4) (a:=l2) (o:=.lst []))
   have y4:=aB (H:=upd (upd H4 l2 (.lst [])) l3 (.lst [.ref l2])) (a:=l4) (o:=.lst (ys ++ [.ref l2]))
   generalize upd (upd (upd H4 l2 (.lst [])) l3 (.lst [.ref l2])) l4 (.lst (ys ++ [.ref l2])) = H5 at TT y2 y4 ⊢
   have TF:=A1'.trans TT
   cases ps with
   | nil =>
    cases (show ys = [] from ips)
    exact ⟨l4,_,0,.ref l2,rfl,rfl,SqL.of y4,aQ (j:=0) rfl,q _ [] _ (S3.trans TF) ⟨l2,[],rfl,y2,rfl⟩ (Nat.zero_le _) (fun h=>absurd rfl h)⟩
   | cons c ps =>
    obtain ⟨v,r,rfl,iv,_⟩:=ips
    obtain ⟨mc,me⟩:=hps c List.mem_cons_self
    have:=B3.len mc lV
    exact ⟨l4,_,0,v,rfl,rfl,SqL.of y4,aQ (j:=0) rfl,q _ c.2 _ (S3.trans TF) (Is.same (Ss.trans TF) _ _ iv) (by omega) (fun _=>⟨c.1,me,(B3.pth c mc).1⟩)⟩
 ·intro σ H Q Q' h hc
  obtain ⟨v,e,w,e2,p,ys,e3,hq,i,j,e4,e5,k,e6,q⟩:=hc
  exact ⟨v,e,w,e2,p,ys,e3,hq,i,j,e4,e5,k,e6,h _ _ q⟩
open Mt53 Mt22 MtF Mt31 Mt61 Mt51
theorem pP {G:List Gp} {st:Str} {P:List (Gp × Bool)} {e:Str} (p:Pth G st P e):∀ s ∈ P,s.1 ∈ G ∧ 0 < s.1.coins:=by
 induction p with
 | nil=>intro s m;cases m
 | snoc p m c e n ih =>
  intro s ms
  rcases List.mem_append.mp ms with ms | ms
  ·exact ih s ms
  ·rw [show s = _ by simpa using ms]
   exact ⟨m,c⟩
def aKZ:Sp:=sp3 fun x y z H Q=>∃ (lg:Addr) (us:List V) (G:List Gp) (V0:List Str) (st go:Str),x = .ref lg ∧ H lg = some (.lst us) ∧ IsL H (G.map eA) us ∧ G.length ≤ 40 ∧ V0.length ≤ 13 ∧ st ∈ V0 ∧ (∀ g ∈ G,g.one ∈ V0 ∧ g.other ∈ V0) ∧ y = .str st ∧ z = .str go ∧
 ∀ (v:V) (P:List (Gp × Bool)) (H':Hp),aK H H' → Is H' (qM P) v → P.length ≤ 13 → (∀ s ∈ P,s.1 ∈ G) → Q v H'
theorem aHF (T:Txt K mg C):Fc P w K mg base 1 "_law_way" ["_law_gaps_here","_law_start","_law_goal"] aKZ:=by
 refine T.d_l_way.fc dS vK (fun f cdv A outer s H vs Q E hr h=>?_)
 obtain ⟨x,y,z,rfl,lg,us,G,V0,st,go,rfl,hlg,ius,lG,lV,sV,sub,rfl,rfl,q⟩:=h
 have big:=cB
 have hu:=gR hr
 have lus:=ius.length
 rw [List.length_map] at lus
 refine ⟨_,(@aG _ _ _ _ _ (@aU _ _ (3) _ _ _ _ dS.nd rfl (Or.inl rfl) (@xW _ _ _ _ _ (@tE _ _ _ _ _ _ _ _ _ (pv 1) (@bM _ _ _ _ aE) xU) rfl rfl (by simp) (Nat.le_of_ble_eq_true rfl)) (by rfl) (by trivial)) (@aG _ _ _ _ _ (@aU _ _ (4) _ _ _ _ dS.nd rfl (Or.inl rfl) (@bM _ _ _ _ (@aA _ _ _ _ _ (pv 1) aE (by rfl))) (by rfl) (by trivial)) (@aG _ _ _ _ _ (@aU _ _ (5) _ _ _ _ dS.nd rfl (Or.inl rfl) aD (by rfl) (by trivial)) (@aG _ _ _ _ _ (@aAH _ _ _ _ _ _ PassesOwn.never (@bA _ _ _ _ _ _ _ _ mY (pv 5) (@aT _ _ _ _ _ _ _ _ _ (@aY _ (K) rfl) rfl T.n_len bS (@aA _ _ _ _ _ (pv 4) aE (by rfl)) (by decide) (by decide) (by rfl) (by rfl)) (@bG _ _ (by decide) (by decide))) (@aG _ _ _ _ _ (@aU _ _ (6) _ _ _ _ dS.nd rfl (Or.inl rfl) (@aZ _ _ _ _ _ _ _ (@bL _ (K) rfl) (pv 4) (pv 5) (fun _ _=>rfl)) (by rfl) (by trivial)) (@aG _ _ _ _ _ (@aU _ _ (5) _ _ _ _ dS.nd rfl (Or.inl rfl) (@aI _ _ _ _ _ _ _ _ cF (pv 5) aD) (by rfl) (by trivial)) (@aH _ _ _ (@eJ _ _ _ _ _ _ _ _ PassesOwn.never rfl (@bE _ (K) _ _ _ rfl (@bF _ _ _ _ (pv 0))) (@lI _ (K) _ _ _ _ _ rfl 4 rfl (@jZ _ _ _ _ _ _ rfl (@aW _ _ _ _ _ (@aM _ _ (7) _ dS.nd rfl (Or.inl rfl) (by trivial)) (@aW _ _ _ _ _ (@aM _ _ (8) _ dS.nd rfl (Or.inl rfl) (by trivial)) (@aW _ _ _ _ _ (@aM _ _ (9) _ dS.nd rfl (Or.inl rfl) (by trivial)) (@aW _ _ _ _ _ (@aM _ _ (10) _ dS.nd rfl (Or.inl rfl) (by trivial)) eY (by rfl)) (by rfl)) (by rfl)) (by rfl)) (by rfl) (by rfl))) (@aH _ _ _ (@eJ _ _ _ _ _ _ _ _ PassesOwn.never rfl (@bE _ (K) _ _ _ rfl (@bF _ _ _ _ (@bM _ _ _ _ (@aA _ _ _ _ _ (@cA _ _ _ _ _ (@aA _ _ _ _ _ (pv 8) (@aA _ _ _ _ _ (pv 9) (@aA _ _ _ _ _ aD aE (by rfl)) (by rfl)) (by rfl))) (@aA _ _ _ _ _ (@cA _ _ _ _ _ (@aA _ _ _ _ _ (pv 9) (@aA _ _ _ _ _ (pv 8) (@aA _ _ _ _ _ (@aAI _ _ _ _ _ _ sL aD) aE (by rfl)) (by rfl)) (by rfl))) aE (by rfl)) (by rfl))))) (@lI _ (K) _ _ _ _ _ rfl 3 rfl (@jZ _ _ _ _ _ _ rfl (@aW _ _ _ _ _ (@aM _ _ (11) _ dS.nd rfl (Or.inl rfl) (by trivial)) (@aW _ _ _ _ _ (@aM _ _ (12) _ dS.nd rfl (Or.inl rfl) (by trivial)) (@aW _ _ _ _ _ (@aM _ _ (13) _ dS.nd rfl (Or.inl rfl) (by trivial)) eY (by rfl)) (by rfl)) (by rfl)) (by rfl) (by rfl))) (@aH _ _ _ (@cL _ _ _ _ _ _ _ _ (@PW.pt _ _ _ (@jM _ _ _ _ _ _ _ (@bA _ _ _ _ _ _ _ _ iR (pv 11) (pv 6) (@bG _ _ (by decide) (by decide))) (@jM _ _ _ _ _ _ _ (@xT _ _ _ _ _ _ (@vY _ _ _ _ _ hu (pv 12) (pv 3)) (by first | exact nobehind _ (by decide) (by decide) | rfl)) (@lH _ _ _ _ (@bA _ _ _ _ _ _ _ _ wA (pv 10) aD (@bG _ _ (by decide) (by decide))))))) (@aG _ _ _ _ _ (@oG _ _ _ _ _ _ _ _ _ hu (pv 3) (pv 12) (@aI _ _ _ _ _ _ _ _ eR (@dR _ _ _ _ _ _ hu (pv 3) (pv 6) (fun _ _=>rfl)) (@bM _ _ _ _ (@aA _ _ _ _ _ (@cA _ _ _ _ _ (@aA _ _ _ _ _ (pv 7) (@aA _ _ _ _ _ (pv 13) (@aA _ _ _ _ _ (pv 10) aE (by rfl)) (by rfl)) (by rfl))) aE (by rfl)))) rfl) (@aH _ _ _ (@hW _ _ _ _ (@pQ _ (K) _ _ _ _ _ rfl (@pS _ _ _ _ _ _ _ _ _ _ _ _ PySem.F.plainAttrs_list PySem.F.slot_list_append PySem.F.type_list_append eZ (pv 4) (@aA _ _ _ _ _ (pv 12) aE (by rfl)) (by rfl) (by rfl) (by rfl) (by rfl) (by rfl))) (by rfl)))) bI)) (by intro _;rfl))) (by intro _;rfl)))))) (@aH _ _ _ (@aS _ _ _ _ (@tG _ _ _ _ _ _ _ _ _ hu (pv 3) (pv 2) (@bM _ _ _ _ aE) ⟨rfl,rfl,rfl,rfl⟩))))))),?_⟩
 refine zY fun u1 hu1=>?_
 intro dc hdc
 refine ⟨_,rfl,aL rfl,fun le hle=>?_⟩
 have A0:=aK.upd (o:=.lst []) hle
 refine ⟨A0 _ _ aB,[(Sum.inr st,.ref le)],rfl,by show 1 ≤ 15;decide,?_⟩
 have S1:aK H (upd (upd (upd H dc (.dK [])) le (.lst [])) dc (.dK (fC [] [(Sum.inr st,V.ref le)]))):=((aK.upd hdc).trans A0).over hdc
 have nel:le ≠ dc:=fun z=>by rw [z,aB] at hle;cases hle
 have d1:upd (upd (upd H dc (.dK [])) le (.lst [])) dc (.dK (fC [] [(Sum.inr st,V.ref le)])) dc = some (.dK [(Sum.inr st,.ref le)]):=aB
 have e1:upd (upd (upd H dc (.dK [])) le (.lst [])) dc (.dK (fC [] [(Sum.inr st,V.ref le)])) le = some (.lst []):=by rw [aR nel,aB]
 generalize upd (upd (upd H dc (.dK [])) le (.lst [])) dc (.dK (fC [] [(Sum.inr st,V.ref le)])) = H1 at S1 d1 e1 ⊢
 refine gσ (σ':=[some (.ref lg),some (.str st),some (.str go),some (.ref dc),none,none,none,none,none,none,none,none,none,none]) rfl ?_
 refine ⟨_,rfl,aL rfl,fun lr hlr=>?_⟩
 have A1:=aK.upd (o:=.lst [.str st]) hlr
 have r2:upd H1 lr (.lst [.str st]) lr = some (.lst [.str st]):=aB
 have nHl:H lr = none:=S1.free hlr
 have ndl:dc ≠ lr:=fun z=>by rw [← z,d1] at hlr;cases hlr
 have nll:le ≠ lr:=fun z=>by rw [← z,e1] at hlr;cases hlr
 have S2:=S1.trans A1
 have d2:=A1 _ _ d1
 have e2:=A1 _ _ e1
 generalize upd H1 lr (.lst [.str st]) = H2 at A1 r2 S2 d2 e2 ⊢
 refine gσ (σ':=[some (.ref lg),some (.str st),some (.str go),some (.ref dc),some (.ref lr),none,none,none,none,none,none,none,none,none]) rfl ?_
 refine gσ (σ':=[some (.ref lg),some (.str st),some (.str go),some (.ref dc),some (.ref lr),some (.int 0),none,none,none,none,none,none,none,none]) rfl ?_
 refine hu1 _ _ _ ?_
 have c0:CmAt H2 dc lr [(st,[])]:=⟨⟨_,oR dc lr H2,d2,rfl,rD,yV,yU,_,_,rfl,⟨le,[],rfl,gS e2 nel nll,rfl⟩,rfl⟩,r2⟩
 refine cG fun u2 hu2=>?_
 refine zH (fun σ H'=>∃ (k:Nat) (cm:Cmp) (v5 v6 v7 v8 v9 v10 v11 v12:Option V),σ = [some (.ref lg),some (.str st),some (.str go),some (.ref dc),some (.ref lr),some (.int k),v5,v6,v7,v8,v9,v10,v11,v12] ∧ aK H H' ∧ CmAt H' dc lr cm ∧ Bfs G V0 st cm ∧ k ≤ cm.length)
  (fun σ _=>match σ with | [_,_,_,_,_,some (.int k),_,_,_,_,_,_,_,_]=>14 - k.toNat | _=>0) ⟨0,[(st,[])],_,_,_,_,_,_,_,_,rfl,S2,c0,Bfs.init sV,Nat.zero_le _⟩ ?_ ?_
 ·rintro σ H3 ⟨k,cm,v5,v6,v7,v8,v9,v10,v11,v12,rfl,S3,c3,B3,hk⟩
  have lcm:cm.length ≤ 13:=by
   have:=jP B3.nd B3.sub
   rw [List.length_map] at this
   omega
  refine ⟨_,rfl,_,rfl,lr,_,rfl,.inl (SqL.of c3.row),_,_,rfl,rfl,_,rfl,?_⟩
  rw [List.length_map,List.length_map]
  refine dZ (fun c1=>?_) (fun c1=>?_)
  ·have hk1:k < cm.length:=by
    have:=of_decide_eq_true c1
    omega
   obtain ⟨u,eu⟩:∃ u,(cm.map (·.1))[k]? = some u:=⟨_,List.getElem?_eq_getElem (by rw [List.length_map];exact hk1)⟩
   have mu:=List.mem_of_getElem? eu
   refine ⟨_,rfl,_,rfl,lr,_,_,.str u,rfl,rfl,SqL.of c3.row,aQ (by rw [List.getElem?_map,eu];rfl),?_⟩
   refine gσ (σ':=[some (.ref lg),some (.str st),some (.str go),some (.ref dc),some (.ref lr),some (.int k),some (.str u),v6,v7,v8,v9,v10,v11,v12]) rfl ?_
   refine ⟨_,rfl,_,_,rfl,rfl,?_⟩
   refine gσ (σ':=[some (.ref lg),some (.str st),some (.str go),some (.ref dc),some (.ref lr),some (.int ((k:Int) + 1)),some (.str u),v6,v7,v8,v9,v10,v11,v12]) rfl ?_
   refine ⟨_,rfl,lg,rfl,⟨_,SqL.of (S3 _ _ hlg)⟩,dW (K:=K) (a:=lg) (xs:=us)
    (fun i σ H'=>∃ (v6 v7 v8 v9 v10 v11 v12:Option V) (cm:Cmp),σ = [some (.ref lg),some (.str st),some (.str go),some (.ref dc),some (.ref lr),some (.int ((k:Int) + 1)),some (.str u),v6,v7,v8,v9,v10,v11,v12] ∧ aK H H' ∧ CmAt H' dc lr cm ∧ Bfs G V0 st cm ∧ k < cm.length ∧ u ∈ cm.map (·.1))
    ⟨_,_,_,_,_,_,_,cm,rfl,S3,c3,B3,hk1,mu⟩ (fun i σ H' _ ⟨_,_,_,_,_,_,_,_,_,S,_⟩=>SqL.of (S _ _ hlg)) ?_ ?_⟩
   ·clear c3 B3 lcm c1 hk1 eu mu
    rintro i xv σ H4 hi ⟨v6,v7,v8,v9,v10,v11,v12,cm,rfl,S4,c4,B4,hk4,mu4⟩
    have hil:i < us.length:=(List.getElem?_eq_some_iff.mp hi).1
    obtain ⟨g,eg⟩:∃ g,G[i]? = some g:=⟨_,List.getElem?_eq_getElem (by omega)⟩
    obtain ⟨v,ev,iv⟩:=ius.get (show (G.map eA)[i]? = some (eA g) by rw [List.getElem?_map,eg];rfl)
    rw [hi] at ev
    cases ev
    have mg':=List.mem_of_getElem? eg
    obtain ⟨t,rfl,o⟩:=qA iv
    refine ⟨t,_,rfl,SqT.of (S4 _ _ o),rfl,_,_,rfl,_,_,rfl,_,_,rfl,_,_,rfl,rfl,?_⟩
    refine nxσ (σ':=[some (.ref lg),some (.str st),some (.str go),some (.ref dc),some (.ref lr),some (.int ((k:Int) + 1)),some (.str u),some (.str g.nm),some (.str g.one),some (.str g.other),some (.int g.coins),v10,v11,v12]) rfl ?_
    refine ⟨_,rfl,_,rfl,aL rfl,fun q1 hq1=>?_⟩
    have R1:=aK.upd (o:=.tup [.str g.one,.str g.other,.int 1]) hq1
    refine ⟨_,rfl,_,rfl,_,rfl,aL rfl,fun q2 hq2=>?_⟩
    have R2:=aK.upd (o:=.tup [.str g.other,.str g.one,.int (-1)]) hq2
    refine ⟨aL rfl,fun q3 hq3=>?_⟩
    have R3:=aK.upd (o:=.lst [.ref q1,.ref q2]) hq3
    have R:=R1.trans (R2.trans R3)
    have g1:=(R2.trans R3) _ _ (aB (H:=H4) (a:=q1) (o:=.tup [.str g.one,.str g.other,.int 1]))
    have g2:=R3 _ _ (aB (H:=upd H4 q1 (.tup [.str g.one,.str g.other,.int 1])) (a:=q2) (o:=.tup [.str g.other,.str g.one,.int (-1)]))
    have g3:=aB (H:=upd (upd H4 q1 (.tup [.str g.one,.str g.other,.int 1])) q2 (.tup [.str g.other,.str g.one,.int (-1)])) (a:=q3) (o:=.lst [.ref q1,.ref q2])
    have n1:H4 q1 = none:=hq1
    have n2:H4 q2 = none:=R1.free hq2
    have n3:H4 q3 = none:=(R1.trans R2).free hq3
    have S5:=S4.trans R
    have c5:=c4.same R
    generalize upd (upd (upd H4 q1 (.tup [.str g.one,.str g.other,.int 1])) q2 (.tup [.str g.other,.str g.one,.int (-1)])) q3 (.lst [.ref q1,.ref q2]) = H5 at g1 g2 g3 S5 c5 ⊢
    obtain ⟨⟨kv4,Hs4,dk4,_⟩,rr4⟩:=c4
    have w1:q1 ≠ dc ∧ q1 ≠ lr:=⟨(fun z=>by rw [z,dk4] at n1;cases n1),(fun z=>by rw [z,rr4] at n1;cases n1)⟩
    have w2:q2 ≠ dc ∧ q2 ≠ lr:=⟨(fun z=>by rw [z,dk4] at n2;cases n2),(fun z=>by rw [z,rr4] at n2;cases n2)⟩
    have w3:q3 ≠ dc ∧ q3 ≠ lr:=⟨(fun z=>by rw [z,dk4] at n3;cases n3),(fun z=>by rw [z,rr4] at n3;cases n3)⟩
    clear R1 R2 R3 R hq1 hq2 hq3 n1 n2 n3 S4
    refine ⟨q3,rfl,⟨_,SqL.of g3⟩,dW (K:=K) (a:=q3) (xs:=[.ref q1,.ref q2])
     (fun j σ H'=>∃ (v10 v11 v12:Option V) (cm:Cmp),σ = [some (.ref lg),some (.str st),some (.str go),some (.ref dc),some (.ref lr),some (.int ((k:Int) + 1)),some (.str u),some (.str g.nm),some (.str g.one),some (.str g.other),some (.int g.coins),v10,v11,v12] ∧ aK H H' ∧ CmAt H' dc lr cm ∧ Bfs G V0 st cm ∧ k < cm.length ∧ u ∈ cm.map (·.1) ∧ H' q1 = some (.tup [.str g.one,.str g.other,.int 1]) ∧ H' q2 = some (.tup [.str g.other,.str g.one,.int (-1)]) ∧ H' q3 = some (.lst [.ref q1,.ref q2]))
     ⟨_,_,_,cm,rfl,S5,c5,B4,hk4,mu4,g1,g2,g3⟩ (fun j σ H' _ ⟨_,_,_,_,_,_,_,_,_,_,_,_,e⟩=>SqL.of e) ?_ ?_⟩
    ·clear c5 B4 hk4 mu4 g1 g2 g3 S5
     rintro j yv σ H6 hj ⟨x10,x11,x12,cm,rfl,S6,c6,B6,hk6,mu6,g1,g2,g3⟩
     have hj2:j < 2:=(List.getElem?_eq_some_iff.mp hj).1
     obtain ⟨qq,b,rfl,hq⟩:∃ (qq:Addr) (b:Bool),yv = .ref qq ∧ H6 qq = some (.tup [.str (nr (g,b)),.str (fr' (g,b)),.int (wy b)]):=by
      match j,hj2 with
      | 0,_ =>
       cases hj
       exact ⟨q1,true,rfl,g1⟩
      | 1,_ =>
       cases hj
       exact ⟨q2,false,rfl,g2⟩
     refine ⟨qq,_,rfl,SqT.of hq,rfl,_,_,rfl,_,_,rfl,_,_,rfl,rfl,?_⟩
     refine nxσ (σ':=[some (.ref lg),some (.str st),some (.str go),some (.ref dc),some (.ref lr),some (.int ((k:Int) + 1)),some (.str u),some (.str g.nm),some (.str g.one),some (.str g.other),some (.int g.coins),some (.str (nr (g,b))),some (.str (fr' (g,b))),some (.int (wy b))]) rfl ?_
     have same:∃ (v10 v11 v12:Option V) (cm:Cmp),([some (.ref lg),some (.str st),some (.str go),some (.ref dc),some (.ref lr),some (.int ((k:Int) + 1)),some (.str u),some (.str g.nm),some (.str g.one),some (.str g.other),some (.int g.coins),some (.str (nr (g,b))),some (.str (fr' (g,b))),some (.int (wy b))]:L2.St) = [some (.ref lg),some (.str st),some (.str go),some (.ref dc),some (.ref lr),some (.int ((k:Int) + 1)),some (.str u),some (.str g.nm),some (.str g.one),some (.str g.other),some (.int g.coins),v10,v11,v12] ∧ aK H H6 ∧ CmAt H6 dc lr cm ∧ Bfs G V0 st cm ∧ k < cm.length ∧ u ∈ cm.map (·.1) ∧ H6 q1 = some (.tup [.str g.one,.str g.other,.int 1]) ∧ H6 q2 = some (.tup [.str g.other,.str g.one,.int (-1)]) ∧ H6 q3 = some (.lst [.ref q1,.ref q2]):=⟨_,_,_,cm,rfl,S6,c6,B6,hk6,mu6,g1,g2,g3⟩
     refine ⟨_,rfl,_,rfl,rfl,_,rfl,?_⟩
     rw [oN]
     refine dZ (fun c2=>?_) (fun _=>same)
     have eu:nr (g,b) = u:=of_decide_eq_true c2
     obtain ⟨⟨kvs,Hs,hk0,ek,Ss,sd,sl,ik⟩,rr⟩:=id c6
     have hk0r:Rd H6 dc (.dK kvs):=.inl hk0
     refine ⟨_,rfl,_,rfl,dc,_,rfl,.inl ⟨_,Sum.inr (fr' (g,b)),hk0r,rfl,rfl⟩,_,rfl,?_⟩
     by_cases new:fr' (g,b) ∈ cm.map (·.1)
     ·obtain ⟨_,w0,_,e0,_⟩:=pI ek ik new
      rw [e0]
      exact bR same
     rw [oP ek new]
     refine cP ?_
     refine ⟨_,rfl,_,_,rfl,rfl,_,rfl,?_⟩
     refine dZ (fun c4=>?_) (fun _=>same)
     have cpos:0 < g.coins:=of_decide_eq_true c4
     obtain ⟨P0,pv,mP,eP,iP⟩:=pI ek ik mu6
     obtain ⟨la,ua,rfl,hla,iua⟩:=id iP
     have lua:=iua.length
     rw [List.length_map] at lua
     have lP:=B6.len mP lV
     have lP:P0.length ≤ 12:=lP
     refine ⟨_,rfl,_,rfl,dc,_,rfl,.inl ⟨_,Sum.inr u,hk0r,rfl,eP.symm⟩,?_⟩
     refine ⟨_,rfl,_,rfl,_,rfl,aL rfl,fun t1 ht1=>?_⟩
     have R1:=aK.upd (o:=.tup [.str g.nm,.int (wy b),.int g.coins]) ht1
     refine ⟨aL rfl,fun t2 ht2=>?_⟩
     have R2:=aK.upd (o:=.lst [.ref t1]) ht2
     refine ⟨la,t2,_,_,rfl,rfl,R2 _ _ (R1 _ _ (Ss _ _ hla)),aB,by show _ + 1 ≤ _;omega,fun ln hln=>?_⟩
     have R3:=aK.upd (o:=.lst (ua ++ [.ref t1])) hln
     have R:=R1.trans (R2.trans R3)
     have j1:=(R2.trans R3) _ _ (aB (H:=H6) (a:=t1) (o:=.tup [.str g.nm,.int (wy b),.int g.coins]))
     have j3:=aB (H:=upd (upd H6 t1 (.tup [.str g.nm,.int (wy b),.int g.coins])) t2 (.lst [.ref t1])) (a:=ln) (o:=.lst (ua ++ [.ref t1]))
     have m1:H6 t1 = none:=ht1
     have m3:H6 ln = none:=(R1.trans R2).free hln
     generalize upd (upd (upd H6 t1 (.tup [.str g.nm,.int (wy b),.int g.coins])) t2 (.lst [.ref t1])) ln (.lst (ua ++ [.ref t1])) = H7 at R j1 j3 ⊢
     have z1:t1 ≠ dc ∧ t1 ≠ lr:=⟨(fun z=>by rw [z,hk0] at m1;cases m1),(fun z=>by rw [z,rr] at m1;cases m1)⟩
     have z3:ln ≠ dc ∧ ln ≠ lr:=⟨(fun z=>by rw [z,hk0] at m3;cases m3),(fun z=>by rw [z,rr] at m3;cases m3)⟩
     have Sd:aK Hs (oR dc lr H7):=fun b o e=>gS (R _ _ (Ss _ _ e)) (fun z=>by rw [z,sd] at e;cases e) (fun z=>by rw [z,sl] at e;cases e)
     have hP:Is (oR dc lr H7) (qM (P0 ++ [(g,b)])) (.ref ln):=by
      refine ⟨ln,_,rfl,gS j3 z3.1 z3.2,?_⟩
      rw [List.map_append]
      exact IsL.snoc (aFW (gS j1 z1.1 z1.2)) (IsL.same Sd _ _ iua)
     have c7:=c6.snoc R hk0 hP new ndl
     have B7:=B6.snoc mP mg' cpos eu new (by unfold fr';split <;> first | exact (sub g mg').2 | exact (sub g mg').1)
     refine ⟨_,rfl,_,rfl,dc,_,rfl,.inl ⟨kvs,Sum.inr (fr' (g,b)),R _ _ hk0,rfl,?_,rfl⟩,?_⟩
     ·have:=congrArg List.length ek
      rw [List.length_map,List.length_map,List.length_map] at this
      have:=jP B6.nd B6.sub
      rw [List.length_map] at this
      omega
     have rr8:upd H7 dc (.dK (gW kvs (Sum.inr (fr' (g,b))) (.ref ln))) lr = some (.lst ((cm.map (·.1)).map V.str)):=by rw [aR ndl.symm];exact R _ _ rr
     refine ⟨_,rfl,.inl ⟨rfl,_,SqL.of rr8⟩,_,rfl,lr,_,.str (fr' (g,b)),rfl,rfl,rr8,?_,?_⟩
     ·rw [List.length_map,List.length_map]
      have:=jP B6.nd B6.sub
      rw [List.length_map] at this
      omega
     refine ⟨_,_,_,cm ++ [(fr' (g,b),P0 ++ [(g,b)])],rfl,((S6.trans R).over hdc).over nHl,c7,B7,by rw [List.length_append];omega,by rw [List.map_append];exact List.mem_append_left _ mu6,?_,?_,?_⟩
     ·rw [aR w1.2,aR w1.1];exact R _ _ g1
     ·rw [aR w2.2,aR w2.1];exact R _ _ g2
     ·rw [aR w3.2,aR w3.1];exact R _ _ g3
    ·rintro σ H6 ⟨x10,x11,x12,cm,rfl,S6,c6,B6,hk6,mu6,_⟩
     exact ⟨_,_,_,_,_,_,_,cm,rfl,S6,c6,B6,hk6,mu6⟩
   ·rintro σ H4 ⟨v6,v7,v8,v9,v10,v11,v12,cm,rfl,S4,c4,B4,hk4,mu4⟩
    refine ⟨⟨k + 1,cm,_,_,_,_,_,_,_,_,rfl,S4,c4,B4,hk4⟩,?_⟩
    show 14 - ((k:Int) + 1).toNat < 14 - (k:Int).toNat
    omega
  ·refine hu2 _ _ _ ?_
   obtain ⟨⟨kvs,Hs,hk0,ek,Ss,sd,sl,ik⟩,rr⟩:=id c3
   refine ⟨_,rfl,dc,rfl,.inl ⟨_,.inl hk0⟩,_,rfl,aL rfl,fun l2 hl2=>?_⟩
   have A2':=aK.upd (o:=.lst []) hl2
   refine ⟨_,.inl ⟨_,Sum.inr go,.inl (A2' _ _ hk0),rfl,rfl⟩,?_⟩
   by_cases mz:go ∈ cm.map (·.1)
   ·obtain ⟨P0,pv,mP,eP,iP⟩:=pI ek ik mz
    rw [eP]
    have l0:P0.length ≤ 12:=B3.len mP lV
    exact q pv P0 _ (S3.trans A2') (Is.same (Ss.trans A2') _ _ iP) (by omega) fun s m=>(pP (B3.pth _ mP).1 s m).1
   ·rw [oP ek mz]
    exact q (.ref l2) [] _ (S3.trans A2') ⟨l2,[],rfl,aB,rfl⟩ (Nat.zero_le _) (fun s m=>by cases m)
 ·intro σ H Q Q' h hc
  obtain ⟨v,e,w,e2,p,ys,e3,hq,i,j,e4,e5,k,e6,q⟩:=hc
  exact ⟨v,e,w,e2,p,ys,e3,hq,i,j,e4,e5,k,e6,h _ _ q⟩
open Mt53 Mt22 MtF Mt31 Mt61 Mt51
def toS (s:Gp × Bool):Mt22.St:=if s.2 = true then up (toG s.1) else dn (toG s.1)
theorem aFO (s:Gp × Bool):(toS s).nm = s.1.nm:=by obtain ⟨g,b⟩:=s;cases b <;> rfl
theorem aFP (s:Gp × Bool):(toS s).near = nr s:=by obtain ⟨g,b⟩:=s;cases b <;> rfl
theorem aJC (s:Gp × Bool):(toS s).far = fr' s:=by obtain ⟨g,b⟩:=s;cases b <;> rfl
theorem aNA (s:Gp × Bool):(toS s).h = wy s.2:=by obtain ⟨g,b⟩:=s;cases b <;> rfl
theorem aJB {GP:List Gp} {s:Gp × Bool} (m:s.1 ∈ GP):toS s ∈ Mt61.stepsOf (GP.map toG):=wE.mpr ⟨toG s.1,List.mem_map.mpr ⟨_,m,rfl⟩,by obtain ⟨g,b⟩:=s;cases b <;> first | exact .inr rfl | exact .inl rfl⟩
def flP (a:Int) (P:List (Gp × Bool)):Fl:=(P.map toS).foldl (oS a) fun _=>0
theorem aIE (a:Int) (P:List (Gp × Bool)) (s:Gp × Bool):flP a (P ++ [s]) = oS a (flP a P) (toS s):=by
 unfold flP
 rw [List.map_append,List.foldl_append]
 rfl
theorem aAR (G:List Gap) (v:Str):net G (fun _=>0) v = 0:=oB fun g _=>by unfold vJ;simp
theorem aJO {V0:List Str} {GP:List Gp} (GG:Gaps V0 (GP.map toG)) {st e:Str} {P:List (Gp × Bool)} (p:Pth GP st P e) (a:Int) (v:Str):net (GP.map toG) (flP a P) v = (if e = v then a else 0) - (if st = v then a else 0):=by
 induction p with
 | nil =>
  show net _ (fun _=>0) v = _
  rw [aAR]
  omega
 | snoc p m c e n ih =>
  rename_i P h g b
  rw [aIE,aKA GG (aJB (s:=(g,b)) m),ih,aFP,aJC,e]
  omega
theorem aEH {GP:List Gp} {st e:Str} {P:List (Gp × Bool)} (p:Pth GP st P e):e ∈ st :: P.map fr' ∧ ∀ s ∈ P,nr s ∈ st :: P.map fr' ∧ fr' s ∈ st :: P.map fr':=by
 induction p with
 | nil=>exact ⟨List.mem_cons_self,fun s m=>by cases m⟩
 | snoc p m c e n ih =>
  rename_i P h g b
  have inc:∀ z ∈ st :: P.map fr',z ∈ st :: (P ++ [(g,b)]).map fr':=fun z mz=>by
   rw [List.map_append,← List.cons_append]
   exact List.mem_append_left _ mz
  have last:fr' (g,b) ∈ st :: (P ++ [(g,b)]).map fr':=by
   rw [List.map_append,← List.cons_append]
   exact List.mem_append_right _ (List.mem_singleton.mpr rfl)
  refine ⟨last,fun s ms=>?_⟩
  rcases List.mem_append.mp ms with ms | ms
  ·exact ⟨inc _ (ih.2 s ms).1,inc _ (ih.2 s ms).2⟩
  ·rw [show s = (g,b) by simpa using ms]
   exact ⟨inc _ (e ▸ ih.1),last⟩
theorem aHY {GP:List Gp} (nd:(GP.map (·.nm)).Nodup):∀ {g g':Gp},g ∈ GP → g' ∈ GP → g.nm = g'.nm → g = g':=by
 induction GP with
 | nil=>intro g g' m;cases m
 | cons x GP ih =>
  intro g g' m m' e
  rw [List.map_cons,List.nodup_cons] at nd
  rcases List.mem_cons.mp m with h1 | h1
  ·rcases List.mem_cons.mp m' with h2 | h2
   ·rw [h1,h2]
   ·exact absurd (List.mem_map.mpr ⟨g',h2,by rw [← e,h1]⟩) nd.1
  ·rcases List.mem_cons.mp m' with h2 | h2
   ·exact absurd (List.mem_map.mpr ⟨g,h1,by rw [e,h2]⟩) nd.1
   ·exact ih nd.2 h1 h2 e
theorem qL {GP:List Gp} (nd:(GP.map (·.nm)).Nodup) {st e:Str} {P:List (Gp × Bool)} (p:Pth GP st P e):(P.map fun s=>s.1.nm).Nodup:=by
 induction p with
 | nil=>simp
 | snoc p m c e n ih =>
  rename_i P h g b
  rw [List.map_append,List.nodup_append]
  refine ⟨ih,by simp,fun x mx y my=>?_⟩
  rw [show y = g.nm by simpa using my]
  intro exy
  obtain ⟨s,ms,es⟩:=List.mem_map.mp mx
  have hs:s.1 = g:=aHY nd (pP p s ms).1 m (es.trans exy)
  obtain ⟨h1,h2⟩:=(aEH p).2 s ms
  apply n
  obtain ⟨g',b'⟩:=s
  have hs:g' = g:=hs
  subst hs
  cases b <;> cases b' <;> first | exact h2 | exact h1
theorem yQ {a:Int}:∀ {P:List (Gp × Bool)} {f:Fl},(P.map fun s=>s.1.nm).Nodup → (∀ s ∈ P,((P.map toS).foldl (oS a) f) s.1.nm = f s.1.nm + wy s.2 * a) ∧ ∀ n,n ∉ P.map (fun s=>s.1.nm) → ((P.map toS).foldl (oS a) f) n = f n
 | [],f,_=>⟨(fun s m=>by cases m),fun n _=>rfl⟩
 | s :: P,f,nd=>by
  rw [List.map_cons,List.nodup_cons] at nd
  obtain ⟨h1,h2⟩:=yQ (a:=a) (P:=P) (f:=oS a f (toS s)) nd.2
  have at0:∀ n,n ≠ s.1.nm → oS a f (toS s) n = f n:=fun n hn=>by
   unfold oS
   rw [aFO,if_neg hn]
  have at1:oS a f (toS s) s.1.nm = f s.1.nm + wy s.2 * a:=by
   unfold oS
   rw [aFO,if_pos rfl,aNA]
  refine ⟨fun r mr=>?_,fun n hn=>?_⟩
  ·show (P.map toS).foldl (oS a) (oS a f (toS s)) r.1.nm = _
   rcases List.mem_cons.mp mr with rfl | mr
   ·rw [h2 _ nd.1,at1]
   ·rw [h1 r mr,at0]
    exact fun e=>nd.1 (e ▸ List.mem_map.mpr ⟨r,mr,rfl⟩)
  ·show (P.map toS).foldl (oS a) (oS a f (toS s)) n = _
   rw [h2 n fun m=>hn (List.mem_cons_of_mem _ m),at0]
   exact fun e=>hn (by rw [e];exact List.mem_cons_self)
theorem aES {G:List Gap} {f f':Fl} (h:∀ g ∈ G,f g.nm = f' g.nm) (z:Str):net G f z = net G f' z:=gF fun g m=>by
 unfold vJ
 rw [h g m]
theorem aBY {ns zs:List Str} {G:List Gap} {f f':Fl} (h:∀ g ∈ G,f g.nm = f' g.nm):mX ns zs G f = mX ns zs G f':=by
 unfold mX
 rw [show net G f = net G f' from funext (aES h)]
theorem zD (G:List Gap) (f:Fl):(jT G f).map aJ = (G.map (·.nm)).filter fun z=>!decide (f z = 0):=by
 unfold jT
 rw [List.map_map,List.filter_map]
 rfl
theorem aIT {V0:List Str} {G:List Gap} {f:Fl} (GG:Gaps V0 G) (ft:aIZ G f):jQ G (.lst (jT G f)) = true:=by
 show ((jT G f).all (cX G) && decide ((jT G f).map aJ = (G.map (·.nm)).filter fun z=>decide (z ∈ (jT G f).map aJ))) = true
 rw [Bool.and_eq_true]
 constructor
 ·rw [List.all_eq_true]
  intro e m
  obtain ⟨g,mg,rfl⟩:=List.mem_map.mp m
  have mg:=List.mem_filter.mp mg
  exact aKH (aCR GG.nd mg.1) (by simpa using mg.2) (ft g mg.1).1 (ft g mg.1).2
 ·refine decide_eq_true ?_
  rw [zD]
  refine List.filter_congr fun z mz=>?_
  rw [Bool.eq_iff_iff,decide_eq_true_iff,List.mem_filter]
  exact ⟨fun h=>⟨mz,h⟩,fun h=>h.2⟩
theorem aIV {V0:List Str} {G:List Gap} {f:Fl} (GG:Gaps V0 G):∀ g ∈ G,flE (jT G f) g.nm = f g.nm:=fun g m=>by
 have nd:((jT G f).map aJ).Nodup:=by rw [zD];exact List.Nodup.sublist List.filter_sublist GG.nd
 by_cases h:f g.nm = 0
 ·rw [h]
  refine yR fun c=>?_
  rw [zD,List.mem_filter] at c
  have:=c.2
  rw [h] at this
  simp at this
 ·refine yS nd (List.mem_map.mpr ⟨g,List.mem_filter.mpr ⟨m,?_⟩,rfl⟩)
  rw [decide_eq_false h]
  rfl
theorem aIU {V0:List Str} {G:List Gap} {f:Fl} (GG:Gaps V0 G) (ft:aIZ G f) (ns zs:List Str):iV ns zs G (.lst (jT G f)) = mX ns zs G f:=by
 unfold iV
 rw [aIT GG ft,if_pos rfl]
 exact aBY (aIV GG)
theorem vX {V0:List Str} {GP:List Gp} (GG:Gaps V0 (GP.map toG)) {st e:Str} {P:List (Gp × Bool)} (p:Pth GP st P e) {a:Int} (a0:0 ≤ a) (ha:∀ s ∈ P,a ≤ s.1.coins) (ndP:(GP.map (·.nm)).Nodup):aIZ (GP.map toG) (flP a P):=by
 intro g mg
 obtain ⟨gp,mp,rfl⟩:=List.mem_map.mp mg
 have hc:=GG.cap _ mg
 obtain ⟨h1,h2⟩:=yQ (a:=a) (f:=fun _=>0) (qL ndP p)
 by_cases m:gp.nm ∈ P.map fun s=>s.1.nm
 ·obtain ⟨s,ms,es⟩:=List.mem_map.mp m
  have:=h1 s ms
  rw [es] at this
  have hs:s.1 = gp:=aHY ndP (pP p s ms).1 mp es
  have h3:=ha s ms
  rw [hs] at h3
  show -gp.coins ≤ flP a P gp.nm ∧ flP a P gp.nm ≤ gp.coins
  rw [show flP a P gp.nm = 0 + wy s.2 * a from this]
  unfold wy
  split <;> omega
 ·have:=h2 gp.nm m
  show -gp.coins ≤ flP a P gp.nm ∧ flP a P gp.nm ≤ gp.coins
  have hc:0 ≤ gp.coins:=hc
  rw [show flP a P gp.nm = 0 from this]
  omega
theorem aGR {ns zs:List Str} {GP:List Gp} (GG:Gaps ("sea" :: ns) (GP.map toG)) {e:Str} {P:List (Gp × Bool)} (p:Pth GP Mt22.sea P e) {a:Int} (a0:0 ≤ a) (ha:∀ s ∈ P,a ≤ s.1.coins) (ndP:(GP.map (·.nm)).Nodup) (me:e ∈ zs) (sub:∀ z ∈ zs,z ∈ ns) (nz:zs.Nodup) (nf:Mt22.sea ∉ ns):mX ns zs (GP.map toG) (flP a P) = some a:=by
 have ne:e ≠ Mt22.sea:=fun h=>nf (h ▸ sub e me)
 have nt:=aJO GG p a
 have hz:∀ z ∈ ns,net (GP.map toG) (flP a P) z = if e = z then a else 0:=fun z mz=>by
  rw [nt z,if_neg (show ¬ Mt22.sea = z from fun h=>nf (h ▸ mz))]
  omega
 have st:Stream ("sea" :: ns) (GP.map toG) zs (flP a P):=⟨vX GG p a0 ha ndP,fun v mv hs hw=>by
  have mv:v ∈ ns:=by
   rcases List.mem_cons.mp mv with h | h
   ·exact absurd h hs
   ·exact h
  rw [hz v mv,if_neg (show ¬ e = v from fun h=>hw (h ▸ me))],fun v mv=>by
  rw [hz v (sub v mv)]
  split <;> omega⟩
 rw [vZ sub fun z mz c=>?_]
 ·have:=aFL GG st nz (fun z m=>List.mem_cons_of_mem _ (sub z m)) (fun m=>nf (sub _ m))
  unfold sm at this
  rw [this]
  unfold val
  rw [nt,if_neg ne,if_pos rfl]
  congr 1
  omega
 ·rw [hz z mz] at c
  by_cases h:e = z
  ·rw [if_pos h] at c
   rcases c with c | c
   ·omega
   ·exact c.1 (h ▸ me)
  ·rw [if_neg h] at c
   rcases c with c | c
   ·omega
   ·exact c.2 rfl
theorem aEG {V0 dn:List Str} {GP:List Gp} (GG:Gaps V0 (GP.map toG)) (sbl:((GP.map toG).map (·.nm)).Sublist dn) (ndd:dn.Nodup) {st e:Str} {P:List (Gp × Bool)} (p:Pth GP st P e) {a:Int} (a0:0 < a) (ndP:(GP.map (·.nm)).Nodup):((dn.filter fun z=>decide (z ∈ P.map fun s=>s.1.nm)).map fun n=>bO (n,flP a P n)) = jT (GP.map toG) (flP a P):=by
 obtain ⟨h1,h2⟩:=yQ (a:=a) (f:=fun _=>0) (qL ndP p)
 have key:∀ z,(!decide (flP a P z = 0)) = decide (z ∈ P.map fun s=>s.1.nm):=fun z=>by
  by_cases m:z ∈ P.map fun s=>s.1.nm
  ·obtain ⟨s,ms,es⟩:=List.mem_map.mp m
   have:=h1 s ms
   rw [es] at this
   have nz:flP a P z ≠ 0:=by
    rw [show flP a P z = 0 + wy s.2 * a from this]
    unfold wy
    split <;> omega
   rw [decide_eq_true m,decide_eq_false nz]
   rfl
  ·rw [decide_eq_false m,show flP a P z = 0 from h2 z m]
   rfl
 have e1:jT (GP.map toG) (flP a P) = (((GP.map toG).map (·.nm)).filter fun z=>!decide (flP a P z = 0)).map fun n=>bO (n,flP a P n):=by
  unfold jT
  rw [List.filter_map (f:=fun g:Gap=>g.nm),List.map_map]
  rfl
 rw [e1]
 congr 1
 conv=>rhs;rw [← pF sbl ndd,List.filter_filter]
 refine List.filter_congr fun z _=>?_
 rw [key z]
 by_cases m:z ∈ P.map fun s=>s.1.nm
 ·obtain ⟨s,ms,es⟩:=List.mem_map.mp m
  have:z ∈ (GP.map toG).map (·.nm):=by
   rw [← es]
   exact List.mem_map.mpr ⟨toG s.1,List.mem_map.mpr ⟨_,(pP p s ms).1,rfl⟩,rfl⟩
  rw [decide_eq_true m,decide_eq_true this]
  rfl
 ·rw [decide_eq_false m]
  rfl
open Mt53 Mt22 MtF Mt31 Mt61 Mt51
theorem aIP {fs ds:List Dv} {zs:List Str} {L:Int} (gd:GoodD zs ds) (hL:hgt L = true) {g:Gp} (m:g ∈ Mt51.gapsD fs ds L):g.coins ≤ 2000000000000:=by
 obtain ⟨d,md,c1,_,_,rfl⟩:=aHJ.mp m
 obtain ⟨n,a,b,c,r,s,rfl,_,_,_,_,hc,hr,_⟩:=cM (gd.all d md)
 have h1:=Bool.and_eq_true_iff.mp (show (decide (-1000000 ≤ c) && decide (c ≤ 1000000)) = true from hc)
 have h2:=Bool.and_eq_true_iff.mp (show (decide (0 ≤ r) && decide (r ≤ 1000000)) = true from hr)
 have h3:=Bool.and_eq_true_iff.mp (show (decide (-1000000 ≤ L) && decide (L ≤ 1000000)) = true from hL)
 have c0:=of_decide_eq_true h1.1
 have r0:=of_decide_eq_true h2.1
 have r1:=of_decide_eq_true h2.2
 have l1:=of_decide_eq_true h3.2
 have c1:c < L:=c1
 show r * (L - c) ≤ 2000000000000
 have x1:r * (L - c) ≤ 1000000 * (L - c):=Int.mul_le_mul_of_nonneg_right r1 (by omega)
 omega
def zP (C:Addr):Sp:=sp3 fun x y z H Q=>∃ (p:Addr) (fs ds:List Dv) (L:Int) (zs:List Str) (P:List (Gp × Bool)) (c:Int),x = .ref p ∧ LandAt C H p fs ds ∧ hgt L = true ∧ Is H (qM P) y ∧ P.length ≤ 13 ∧ (P ≠ [] → ∃ e ∈ zs,Pth (Mt51.gapsD fs ds L) Mt22.sea P e) ∧ zs.Nodup ∧ (∀ z ∈ zs,z ∈ fs.map aJ) ∧ z = .int c ∧
 ∀ (l:Addr) (us:List V) (rs:List (Str × Int)) (a:Int) (H':Hp),aK H H' → H' l = some (.lst us) → IsL H' (rs.map bO) us → rs.length ≤ 40 → (rs.map (·.1)).Nodup → (∀ r ∈ rs,r.1 ∈ ds.map aJ ∧ (if r.2 < 0 then -r.2 else r.2) = a) → (rs = [] → a = 0) → 0 ≤ a → a ≤ 2000000000000 → iV (fs.map aJ) zs (gapsD fs ds L) (.lst (rs.map bO)) = some a → Q (.ref l) H'
theorem yT {ds:List Dv}:deq (.lst ds) (.lst []) = decide (ds = []):=by
 cases ds with
 | nil=>rfl
 | cons d r=>rfl
theorem aDM (ns zs:List Str) (G:List Gap):iV ns zs G (.lst []) = some 0:=by
 have h:jQ G (.lst []) = true:=by
  show (true && decide ([] = (G.map (·.nm)).filter fun z=>decide (z ∈ ([]:List Str)))) = true
  rw [Bool.true_and]
  refine decide_eq_true (List.filter_eq_nil_iff.mpr fun z _=>by simp).symm
 unfold iV
 rw [h,if_pos rfl]
 have e:net G (flE (aDP (.lst []))) = fun _=>0:=funext fun z=>aAR G z
 unfold mX
 rw [e]
 have s0:(zs.map fun _=>(0:Int)).sum = 0:=oB (f:=fun _=>0) (xs:=zs) fun _ _=>rfl
 rw [if_neg,s0]
 intro c
 rw [Bool.or_eq_true] at c
 rcases c with c | c
 ·obtain ⟨b,mb,hb⟩:=List.any_eq_true.mp c
  obtain ⟨z,_,rfl⟩:=List.mem_map.mp mb
  exact absurd (show (!decide ((0:Int) = 0)) = true from hb) (by decide)
 ·obtain ⟨b,mb,hb⟩:=List.any_eq_true.mp c
  obtain ⟨z,_,rfl⟩:=List.mem_map.mp mb
  exact absurd (show decide ((0:Int) < 0) = true from hb) (by decide)
theorem aAG (P:List (Gp × Bool)):aO 30 (qM P) = true:=kY fun d m=>by
 obtain ⟨s,_,rfl⟩:=List.mem_map.mp m
 rfl
theorem aBN {H:Hp} {s:Gp × Bool} {v:V} (h:Is H (stD s) v):∃ t,v = .ref t ∧ H t = some (.tup [.str s.1.nm,.int (wy s.2),.int s.1.coins]):=by
 obtain ⟨t,us,rfl,o,v0,r0,rfl,i0,v1,r1,rfl,i1,v2,r2,rfl,i2,h0⟩:=h
 cases (show r2 = [] from h0)
 cases (show v0 = _ from i0)
 cases (show v1 = _ from i1)
 cases (show v2 = _ from i2)
 exact ⟨t,rfl,o⟩
def pKV (a:Int) (P:List (Gp × Bool)):List (Key × V):=P.map fun s=>(Sum.inr s.1.nm,V.int (wy s.2 * a))
theorem xX {a:Int}:∀ {P:List (Gp × Bool)} {s:Gp × Bool},(P.map fun s=>s.1.nm).Nodup → s ∈ P → gC (pKV a P) (Sum.inr s.1.nm) = some (.int (wy s.2 * a))
 | r :: P,s,nd,m=>by
  rw [List.map_cons,List.nodup_cons] at nd
  unfold pKV
  rw [List.map_cons]
  rcases List.mem_cons.mp m with rfl | m
  ·exact jA rfl
  ·rw [gD (fun c=>nd.1 (by rw [Sum.inr.inj c];exact List.mem_map.mpr ⟨s,m,rfl⟩))]
   exact xX nd.2 m
theorem aHC {a:Int}:∀ {P:List (Gp × Bool)} {n:Str},n ∉ P.map (fun s=>s.1.nm) → gC (pKV a P) (Sum.inr n) = none
 | [],_,_=>rfl
 | r :: P,n,h=>by
  unfold pKV
  rw [List.map_cons,gD (fun c=>h (by rw [← Sum.inr.inj c];exact List.mem_cons_self))]
  exact aHC fun m=>h (List.mem_cons_of_mem _ m)
theorem aAN (T:Txt K mg C):Fc P w K mg base 2 "_law_stream" ["_law_land_here","_law_road_here","_law_cell"] (zP C):=by
 have G_land_p_dyke_names:Mc P w K mg base 1 C "dyke_names" ["self"] (iL C fun _ ds=>ds.map aJ):=dN T
 refine T.d_l_stream.fc iD vK (fun f cdv A outer s H vs Q E hr h=>?_)
 obtain ⟨x,y,z,rfl,p,fs,ds,lv,zs,P,c,rfl,L,hL,iP,lP,hP,nz,sub,rfl,q⟩:=h
 have big:=cB
 have hu:=gR hr
 have gf:=(bV L).1
 have gd:=(bV L).2
 have d2:=gd.l2
 have GG:=lW gf gd lv
 have gsm:=oJ gf gd lv
 have sbl:=aAY (fs:=fs) gd lv
 have ndP:((Mt51.gapsD fs ds lv).map (·.nm)).Nodup:=by
  have:=GG.nd
  rw [← gsm,List.map_map] at this
  exact this
 have nf:Mt22.sea ∉ fs.map aJ:=fun m=>by
  obtain ⟨d,md,e⟩:=List.mem_map.mp m
  obtain ⟨z,g,u,rfl,hz,_⟩:=bW (gf.all d md)
  exact oE hz e
 refine ⟨_,(@aG _ _ _ _ _ (@cL _ _ _ _ _ _ _ _ (@bA _ _ _ _ _ _ _ _ (@tN _ hr.units) (pv 1) (@bM _ _ _ _ aE) (@bG _ _ (by decide) (by decide))) (@aH _ _ _ (@aS _ _ _ _ (@bM _ _ _ _ aE))) bI) (@aG _ _ _ _ _ (@aU _ _ (3) _ _ _ _ iD.nd rfl (Or.inl rfl) (@aT _ _ _ _ _ _ _ _ _ (aFG rfl) rfl T.n_min aFH (@aA _ _ _ _ _ (@bX _ _ _ _ _ _ _ _ _ _ _ ["_law_name","_law_way_here","_law_coins"] 3 [] rfl (@bE _ (K) _ _ _ rfl (@bF _ _ _ _ (pv 1))) (fun R=>@sH _ _ _ _ _ (3) (K) rfl rfl (@aW _ _ _ _ _ (@aM _ _ (0) _ (show List.Nodup (["_law_name","_law_way_here","_law_coins"]:List Str) by decide +kernel) rfl (Or.inl rfl) (by trivial)) (@aW _ _ _ _ _ (@aM _ _ (1) _ (show List.Nodup (["_law_name","_law_way_here","_law_coins"]:List Str) by decide +kernel) rfl (Or.inl rfl) (by trivial)) (@aW _ _ _ _ _ (@aM _ _ (2) _ (show List.Nodup (["_law_name","_law_way_here","_law_coins"]:List Str) by decide +kernel) rfl (Or.inl rfl) (by trivial)) eY (by rfl)) (by rfl)) (by rfl)) (by rfl) (by rfl)) (@oI _ _ _ _ (@cT _ _ _ (by decide) (@cT _ _ _ (by decide) (@cT _ _ _ (by decide) lU)))) (fun R=>cH) (fun R=>(pv 2)) (by rfl) (by rfl) (by rfl) (by rfl) (by rfl) (by rfl) (by rfl) (by intro _;rfl)) aE (by rfl)) (by decide) (by decide) (by rfl) (by rfl)) (by rfl) (by trivial)) (@aG _ _ _ _ _ (@aU _ _ (4) _ _ _ _ iD.nd rfl (Or.inr rfl) (@aI _ _ _ _ _ _ _ _ cF aD (@aI _ _ _ _ _ _ _ _ bN (@aI _ _ _ _ _ _ _ _ aX (pv 2) aD) (pv 3))) (by rfl) (by trivial)) (@aG _ _ _ _ _ (@cL _ _ _ _ _ _ _ _ (@bA _ _ _ _ _ _ _ _ iR (@aI _ _ _ _ _ _ _ _ bN (pv 2) aD) aD (@bG _ _ (by decide) (by decide))) (@aH _ _ _ (@aU _ _ (4) _ _ _ _ iD.nd rfl (Or.inr rfl) (pv 3) (by rfl) (by trivial))) bI) (@aG _ _ _ _ _ (@aU _ _ (5) _ _ _ _ iD.nd rfl (Or.inr rfl) (@cI _ _ _ _ _ _ _ _ _ (@dA _ rfl) rfl T.n_dict fY (@aA _ _ _ _ _ (@bX _ _ _ _ _ _ _ _ _ _ _ ["_law_name","_law_way_here","_law_coins","_law_amount_here"] 3 [4] rfl (@bE _ (K) _ _ _ rfl (@bF _ _ _ _ (pv 1))) (fun R=>@sH _ _ _ _ _ (3) (K) rfl rfl (@aW _ _ _ _ _ (@aM _ _ (0) _ (show List.Nodup (["_law_name","_law_way_here","_law_coins","_law_amount_here"]:List Str) by decide +kernel) rfl (Or.inl rfl) (by trivial)) (@aW _ _ _ _ _ (@aM _ _ (1) _ (show List.Nodup (["_law_name","_law_way_here","_law_coins","_law_amount_here"]:List Str) by decide +kernel) rfl (Or.inl rfl) (by trivial)) (@aW _ _ _ _ _ (@aM _ _ (2) _ (show List.Nodup (["_law_name","_law_way_here","_law_coins","_law_amount_here"]:List Str) by decide +kernel) rfl (Or.inl rfl) (by trivial)) eY (by rfl)) (by rfl)) (by rfl)) (by rfl) (by rfl)) (@oI _ _ _ _ (@cT _ _ _ (by decide) (@cT _ _ _ (by decide) (@cT _ _ _ (by decide) lU)))) (fun R=>cH) (fun R=>(@cA _ _ _ _ _ (@aA _ _ _ _ _ (pv 0) (@aA _ _ _ _ _ (@aI _ _ _ _ _ _ _ _ lK (pv 1) (pv 3)) aE (by rfl)) (by rfl)))) (by rfl) (by rfl) (by rfl) (by rfl) (by rfl) (by rfl) (by rfl) (by intro _;rfl)) aE (by rfl)) (by decide) (by decide) (by rfl) (by rfl)) (by rfl) (by trivial)) (@aH _ _ _ (@aS _ _ _ _ (@bX _ _ _ _ _ _ _ _ _ _ _ ["_law_name","_law_steps"] 1 [5] rfl (@bE _ (K) _ _ _ rfl (@bF _ _ _ _ (@kR _ _ _ _ _ _ _ _ _ _ _ T.cl_Land G_land_p_dyke_names (hr.mono (by decide)) (pv 0) (by rfl)))) (fun R=>@aM _ _ (0) _ (show List.Nodup (["_law_name","_law_steps"]:List Str) by decide +kernel) rfl (Or.inl rfl) (by trivial)) (@bC _ _ (by decide)) (fun R=>@fU _ _ _ (@xT _ _ _ _ _ _ (@aBX _ _ _ _ _ hu (pv 0) (pv 1)) (by first | exact nobehind _ (by decide) (by decide) | rfl))) (fun R=>(@cA _ _ _ _ _ (@aA _ _ _ _ _ (pv 0) (@aA _ _ _ _ _ (@dR _ _ _ _ _ _ hu (pv 1) (pv 0) (fun _ _=>rfl)) aE (by rfl)) (by rfl)))) (by rfl) (by rfl) (by rfl) (by rfl) (by rfl) (by rfl) (by rfl) (by intro _;rfl))))))))),?_⟩
 refine cG fun u1 hu1=>?_
 refine ⟨_,rfl,aL rfl,fun le hle=>?_⟩
 have A0:=aK.upd (o:=.lst []) hle
 refine ⟨qM P,.lst [],Is.same A0 _ _ iP,⟨le,[],rfl,aB,rfl⟩,aAG P,rfl,_,rfl,?_⟩
 rw [if_neg Bool.false_ne_true]
 show if deq (.lst (P.map stD)) (.lst []) = true then _ else _
 rw [yT]
 by_cases hp0:P = []
 ·subst hp0
  rw [show decide (List.map stD [] = []) = true from rfl]
  refine cP ⟨aL rfl,fun l2 hl2=>?_⟩
  have A1:=aK.upd (o:=.lst []) hl2
  exact q l2 [] [] 0 _ (A0.trans A1) aB rfl (Nat.zero_le _) List.nodup_nil (fun r m=>by cases m) (fun _=>rfl) (by decide) (by decide) (aDM _ _ _)
 rw [decide_eq_false (fun e=>hp0 (List.map_eq_nil_iff.mp e))]
 refine bR ?_
 obtain ⟨e,me,pth⟩:=hP hp0
 have pm:=pP pth
 have pn:=qL ndP pth
 have iP:=Is.same A0 _ _ iP
 have L0:=L.same A0
 generalize upd H le (.lst []) = H0 at A0 iP L0 ⊢
 obtain ⟨lp,up',rfl,hlp,iup⟩:=iP
 have lup:=cW iup
 rw [List.length_map] at lup
 refine hu1 _ _ _ ?_
 refine cG fun u2 hu2=>?_
 refine ⟨_,rfl,lp,rfl,⟨_,SqL.of hlp⟩,?_⟩
 refine bH (F:=K) (xs:=up') (by omega) (fun i ys H'=>H0 = H' ∧ ys = ((P.take i).map fun s=>s.1.coins).map V.int) ⟨rfl,rfl⟩ ?_ ?_ ?_
 ·rintro i ys H' hi ⟨rfl,rfl⟩
  exact ⟨SqL.of hlp,by rw [List.length_map,List.length_map,List.length_take];omega⟩
 ·rintro i xv ys H' K1 K2 hx ⟨rfl,rfl⟩ k1 k2
  have hil:i < up'.length:=(List.getElem?_eq_some_iff.mp hx).1
  obtain ⟨s,es⟩:∃ s,P[i]? = some s:=⟨_,List.getElem?_eq_getElem (by omega)⟩
  obtain ⟨v,ev,iv⟩:=iup.get (show (P.map stD)[i]? = some (stD s) by rw [List.getElem?_map,es];rfl)
  rw [hx] at ev
  cases ev
  obtain ⟨t,rfl,ot⟩:=aBN iv
  refine ⟨t,_,rfl,SqT.of ot,rfl,_,_,rfl,_,_,rfl,_,_,rfl,rfl,_,rfl,k1 _ _ ⟨rfl,?_⟩⟩
  rw [List.take_add_one,es,List.map_append,List.map_append]
  rfl
 rintro ys H' ⟨rfl,rfl⟩
 rw [List.take_of_length_le (by omega)]
 intro l1 hl1
 have A1:=aK.upd (o:=.lst ((P.map fun s=>s.1.coins).map V.int)) hl1
 have y1:upd H0 l1 (.lst ((P.map fun s=>s.1.coins).map V.int)) l1 = some (.lst ((P.map fun s=>s.1.coins).map V.int)):=aB
 have S1:=A0.trans A1
 have hlp1:=A1 _ _ hlp
 have iup1:=IsL.same A1 _ _ iup
 have L1:=L0.same A1
 generalize upd H0 l1 (.lst ((P.map fun s=>s.1.coins).map V.int)) = H1 at A1 y1 S1 hlp1 iup1 L1 ⊢
 refine ⟨l1,P.map fun s=>s.1.coins,rfl,SqL.of y1,by rw [List.length_map];exact List.length_pos_iff.mpr hp0,fun M mM hM=>?_⟩
 have hM':∀ s ∈ P,M ≤ s.1.coins:=fun s m=>hM _ (List.mem_map.mpr ⟨s,m,rfl⟩)
 obtain ⟨sM,msM,eM⟩:=List.mem_map.mp mM
 have M0:0 < M:=by rw [← eM];exact (pm sM msM).2
 have M1:M ≤ 2000000000000:=by rw [← eM];exact aIP gd hL (pm sM msM).1
 refine gσ (σ':=[some (.ref p),some (.ref lp),some (.int c),some (.int M),none,none]) rfl ?_
 refine hu2 _ _ _ ?_
 refine cG fun u3 hu3=>?_
 refine ⟨_,rfl,_,_,rfl,rfl,⟨by decide,by decide⟩,_,rfl,_,_,rfl,rfl,M0,_,_,rfl,rfl,?_⟩
 refine gσ (σ':=[some (.ref p),some (.ref lp),some (.int c),some (.int M),some (.int (1 + c / 3 % M)),none]) rfl ?_
 refine hu3 _ _ _ ?_
 refine cG fun u4 hu4=>?_
 have key:∀ a:Int,0 < a → a ≤ M → u4 { nx:=fun _ H'=>Q .non H',rt:=Q } [some (.ref p),some (.ref lp),some (.int c),some (.int M),some (.int a),none] H1:=fun a a0 a1=>by
  refine hu4 _ _ _ ?_
  have lpk:(pKV a P).length = P.length:=List.length_map ..
  refine cG fun u5 hu5=>?_
  refine ⟨_,rfl,lp,rfl,⟨_,SqL.of hlp1⟩,?_⟩
  refine bH (F:=K) (xs:=up') (by omega) (fun i ys H'=>aK H1 H' ∧ bZ H' ys (pKV a (P.take i))) ⟨aK.refl _,bZ.nil _⟩ ?_ ?_ ?_
  ·rintro i ys H' hi ⟨S,pr⟩
   have:=pr.len
   rw [show (pKV a (P.take i)).length = (P.take i).length from List.length_map ..,List.length_take] at this
   exact ⟨SqL.of (S _ _ hlp1),by omega⟩
  ·rintro i xv ys H' K1 K2 hx ⟨S,pr⟩ k1 k2
   have hil:i < up'.length:=(List.getElem?_eq_some_iff.mp hx).1
   obtain ⟨s,es⟩:∃ s,P[i]? = some s:=⟨_,List.getElem?_eq_getElem (by omega)⟩
   obtain ⟨v,ev,iv⟩:=(IsL.same S _ _ iup1).get (show (P.map stD)[i]? = some (stD s) by rw [List.getElem?_map,es];rfl)
   rw [hx] at ev
   cases ev
   obtain ⟨t,rfl,ot⟩:=aBN iv
   refine ⟨t,_,rfl,SqT.of ot,rfl,_,_,rfl,_,_,rfl,_,_,rfl,rfl,?_⟩
   have wb:-(2 ^ 64) < wy s.2 ∧ wy s.2 < 2 ^ 64:=by unfold wy;split <;> decide
   refine ⟨_,rfl,_,rfl,_,rfl,_,_,rfl,rfl,.inl wb,aL rfl,fun t1 ht1=>k1 _ _ ⟨S.trans (aK.upd ht1),?_⟩⟩
   have e2:pKV a (P.take (i + 1)) = pKV a (P.take i) ++ [(Sum.inr s.1.nm,V.int (wy s.2 * a))]:=by
    unfold pKV
    rw [List.take_add_one,es,List.map_append]
    rfl
   rw [e2]
   exact pr.snoc (k:=Sum.inr s.1.nm) ht1
  rintro ys H2 ⟨S2,pr⟩
  rw [List.take_of_length_le (by omega)] at pr
  intro l2 hl2
  have A2:=aK.upd (o:=.lst ys) hl2
  refine ⟨l2,ys,pKV a P,rfl,SqL.of aB,pr.same A2,by omega,?_,fun dp hdp=>?_⟩
  ·have e3:(pKV a P).map (·.1) = (P.map fun s=>s.1.nm).map (Sum.inr:Str → Key):=by
    unfold pKV
    rw [List.map_map,List.map_map]
    rfl
   rw [e3,gA]
   exact pn
  have A3:=aK.upd (o:=.dK (pKV a P)) hdp
  have S3:=S2.trans (A2.trans A3)
  have d3:upd (upd H2 l2 (.lst ys)) dp (.dK (pKV a P)) dp = some (.dK (pKV a P)):=aB
  generalize upd (upd H2 l2 (.lst ys)) dp (.dK (pKV a P)) = H3 at A3 S3 d3 ⊢
  refine gσ (σ':=[some (.ref p),some (.ref lp),some (.int c),some (.int M),some (.int a),some (.ref dp)]) rfl ?_
  refine hu5 _ _ _ ?_
  have L3:=L1.same S3
  obtain ⟨dx,d1,d2',hx3,_⟩:=L3.ex
  refine ⟨_,rfl,p,dx,_,rfl,hx3,dI _ _ (by decide +kernel) (by decide +kernel),_,rfl,p,fs,ds,rfl,L3,fun ld H4 S4 fld hld=>?_⟩
  have d4:=S4 _ _ d3
  have hld:H4 ld = some (.lst ((ds.map aJ).map V.str)):=hld
  have ldn:(ds.map aJ).length = ds.length:=List.length_map _
  obtain ⟨h1,h2⟩:=yQ (a:=a) (f:=fun _=>0) pn
  refine ⟨ld,rfl,⟨_,SqL.of hld⟩,?_⟩
  refine bH (F:=K) (xs:=(ds.map aJ).map V.str) (by rw [List.length_map];omega) (fun i ys H'=>aK H4 H' ∧ ys.length ≤ i ∧ IsL H' ((((ds.map aJ).take i).filter fun z=>decide (z ∈ P.map fun s=>s.1.nm)).map fun n=>bO (n,flP a P n)) ys) ⟨aK.refl _,Nat.le_refl _,rfl⟩ ?_ ?_ ?_
  ·rintro i ys H' hi ⟨S,ly,_⟩
   exact ⟨SqL.of (S _ _ hld),ly⟩
  ·rintro i xv ys H' K1 K2 hx ⟨S,ly,iy⟩ k1 k2
   rw [List.getElem?_map] at hx
   obtain ⟨z,ez,rfl⟩:=Option.map_eq_some_iff.mp hx
   have et:=oM (P:=fun z=>decide (z ∈ P.map fun s=>s.1.nm)) ez
   refine ⟨_,rfl,_,rfl,dp,_,rfl,.inl ⟨_,Sum.inr z,.inl (S _ _ d4),rfl,rfl⟩,_,rfl,?_⟩
   by_cases mz:z ∈ P.map fun s=>s.1.nm
   ·obtain ⟨s,ms,rfl⟩:=List.mem_map.mp mz
    rw [xX pn ms]
    refine cP ⟨_,rfl,_,rfl,_,rfl,dp,_,rfl,.inl ⟨_,Sum.inr s.1.nm,.inl (S _ _ d4),rfl,(xX pn ms).symm⟩,aL rfl,fun t1 ht1=>k1 _ _ ⟨S.trans (aK.upd ht1),by rw [List.length_append,List.length_singleton];omega,?_⟩⟩
    rw [et,if_pos (decide_eq_true mz),List.map_append]
    have ef:flP a P s.1.nm = wy s.2 * a:=by
     have:=h1 s ms
     rw [show flP a P s.1.nm = 0 + wy s.2 * a from this]
     omega
    have ir:Is (upd H' t1 (.tup [.str s.1.nm,.int (wy s.2 * a)])) (bO (s.1.nm,flP a P s.1.nm)) (.ref t1):=by
     rw [ef]
     exact aGP aB
    exact IsL.snoc ir (IsL.same (aK.upd ht1) _ _ iy)
   ·rw [aHC mz]
    refine bR (k2 _ ⟨S,by omega,?_⟩)
    rw [et,if_neg (by simpa using mz),List.append_nil]
    exact iy
  rintro ys' H5 ⟨S5,ly,iy⟩
  rw [List.length_map,List.take_of_length_le (Nat.le_refl _)] at iy
  intro l6 hl6
  have A6:=aK.upd (o:=.lst ys') hl6
  have am:=aEG (P:=P) (by rw [gsm];exact GG) (by rw [gsm];exact sbl) gd.nd pth a0 ndP
  have mem:∀ {n:Str},n ∈ (ds.map aJ).filter (fun z=>decide (z ∈ P.map fun s=>s.1.nm)) → ∃ s ∈ P,s.1.nm = n:=fun {n} m=>List.mem_map.mp (of_decide_eq_true (List.mem_filter.mp m).2)
  refine q l6 ys' (((ds.map aJ).filter fun z=>decide (z ∈ P.map fun s=>s.1.nm)).map fun n=>(n,flP a P n)) a _ (S1.trans (S3.trans (S4.trans (S5.trans A6)))) aB ?_ ?_ ?_ ?_ ?_ (by omega) (by omega) ?_
  ·rw [List.map_map]
   exact IsL.same A6 _ _ iy
  ·rw [List.length_map]
   have:=List.length_filter_le (fun z=>decide (z ∈ P.map fun s=>s.1.nm)) (ds.map aJ)
   omega
  ·rw [List.map_map]
   exact (List.Nodup.sublist List.filter_sublist gd.nd:((ds.map aJ).filter fun z=>decide (z ∈ P.map fun s=>s.1.nm)).Nodup) |> fun h=>by rw [show ((fun x:Str × Int=>x.1) ∘ fun n=>(n,flP a P n)) = id from rfl,List.map_id];exact h
  ·intro r mr
   obtain ⟨n,mn,rfl⟩:=List.mem_map.mp mr
   obtain ⟨s,ms,es⟩:=mem mn
   refine ⟨(List.mem_filter.mp mn).1,?_⟩
   have:=h1 s ms
   rw [es] at this
   show (if flP a P n < 0 then -flP a P n else flP a P n) = a
   rw [show flP a P n = 0 + wy s.2 * a from this]
   unfold wy
   split <;> split <;> omega
  ·intro e0
   have e0:=List.map_eq_nil_iff.mp e0
   obtain ⟨s,ms⟩:=List.exists_mem_of_ne_nil P hp0
   have hm:s.1.nm ∈ (ds.map aJ).filter (fun z=>decide (z ∈ P.map fun s=>s.1.nm)):=by
    refine List.mem_filter.mpr ⟨sbl.subset ?_,decide_eq_true (List.mem_map.mpr ⟨s,ms,rfl⟩)⟩
    rw [← gsm]
    exact List.mem_map.mpr ⟨toG s.1,List.mem_map.mpr ⟨_,(pm s ms).1,rfl⟩,rfl⟩
   rw [e0] at hm
   cases hm
  ·rw [List.map_map]
   show iV _ _ _ (.lst (((ds.map aJ).filter fun z=>decide (z ∈ P.map fun s=>s.1.nm)).map fun n=>bO (n,flP a P n))) = some a
   rw [am,gsm]
   have ft:=vX (by rw [gsm];exact GG) pth (by omega) (fun s m=>Int.le_trans a1 (hM' s m)) ndP
   rw [gsm] at ft
   rw [aIU GG ft]
   have rp:=aGR (ns:=fs.map aJ) (zs:=zs) (by rw [gsm];exact GG) pth (by omega) (fun s m=>Int.le_trans a1 (hM' s m)) ndP me sub nz nf
   rw [gsm] at rp
   exact rp
 have m0:=Int.emod_nonneg (c / 3) (show M ≠ 0 by omega)
 have m1:=Int.emod_lt_of_pos (c / 3) M0
 refine ⟨_,rfl,_,_,rfl,rfl,dY rfl,rfl,_,rfl,dZ (fun _=>?_) (fun _=>key _ (by omega) (by omega))⟩
 exact ⟨_,rfl,key M M0 (by omega)⟩
open Mt53 Mt22 MtF Mt31 Mt61 Mt51
def dX (zs:List Str) (cnt:Str → Int):List (Key × V):=zs.map fun z=>(Sum.inr z,V.int (cnt z))
theorem oO {c:Str → Int}:∀ {zs:List Str} {g:Str},g ∈ zs → gC (dX zs c) (Sum.inr g) = some (.int (c g))
 | [],_,m=>by cases m
 | z :: zs,g,m=>by
  unfold gC dX
  by_cases e:z = g
  ·subst e
   simp
  ·have m':g ∈ zs:=by
    rcases List.mem_cons.mp m with h | h
    ·exact absurd h.symm e
    ·exact h
   have:=oO (c:=c) (zs:=zs) m'
   unfold gC dX at this
   rw [List.map_cons,List.find?_cons_of_neg (by simp [e])]
   exact this
theorem lY {c:Str → Int}:∀ {zs:List Str} {g:Str},g ∉ zs → gC (dX zs c) (Sum.inr g) = none
 | [],_,_=>rfl
 | z :: zs,g,m=>by
  have h1:¬ z = g:=fun e=>m (by rw [e];exact List.mem_cons_self)
  have:=lY (c:=c) (zs:=zs) (g:=g) (fun h=>m (List.mem_cons_of_mem _ h))
  unfold gC dX at this ⊢
  rw [List.map_cons,List.find?_cons_of_neg (by simp [h1])]
  exact this
theorem aIQ {c c':Str → Int} {zs:List Str} (h:∀ z ∈ zs,c z = c' z):dX zs c = dX zs c':=by
 unfold dX
 exact List.map_congr_left fun z m=>by rw [h z m]
theorem aFF {c:Str → Int} {zs:List Str} {g:Str} {b:Int} (m:g ∉ zs):gW (dX zs c) (Sum.inr g) (.int b) = dX (zs ++ [g]) fun z=>if z = g then b else c z:=by
 rw [aAF _ (lY m),aIQ (c':=fun z=>if z = g then b else c z) (fun z mz=>by simp only [if_neg (show ¬ z = g from fun e=>m (e ▸ mz))])]
 unfold dX
 rw [List.map_append,List.map_singleton]
 simp only [if_true]
theorem aFE {zs:List Str} {c:Str → Int} {g:Str} {b:Int} (m:g ∈ zs):gW (dX zs c) (Sum.inr g) (.int b) = dX zs fun z=>if z = g then b else c z:=by
 unfold gW
 have:((dX zs c).any fun kv=>decide (kv.1 = (Sum.inr g:Key))) = true:=List.any_eq_true.mpr ⟨_,List.mem_map.mpr ⟨g,m,rfl⟩,decide_eq_true rfl⟩
 rw [if_pos this]
 unfold dX
 rw [List.map_map]
 refine List.map_congr_left fun z _=>?_
 show (if (Sum.inr z:Key) = Sum.inr g then ((Sum.inr z:Key),V.int b) else (Sum.inr z,V.int (c z))) = (Sum.inr z,V.int (if z = g then b else c z))
 by_cases e:z = g
 ·rw [if_pos (by rw [e]),if_pos e]
 ·rw [if_neg (fun k=>e (Sum.inr.inj k)),if_neg e]
theorem oY {H:Hp}:∀ {rs:List (Str × Int)} {us:List V},IsL H (rs.map bO) us → bZ H us (rs.map fun r=>(Sum.inr r.1,V.int r.2))
 | [],_,h=>by
  cases (show _ = [] from h)
  exact bZ.nil _
 | r :: rs,_,⟨v,us,rfl,h,t⟩=>by
  obtain ⟨a,rfl,o⟩:=qJ h
  exact .cons ⟨a,rfl,o⟩ (oY t)
def aAE (rs:List (Str × Int)):Str → Int:=fun n=>((rs.find? fun r=>decide (r.1 = n)).map (·.2)).getD 0
theorem aDJ:∀ {rs:List (Str × Int)} {r:Str × Int},(rs.map (·.1)).Nodup → r ∈ rs → aAE rs r.1 = r.2
 | x :: rs,r,nd,m=>by
  unfold aAE
  rw [List.find?_cons]
  rw [List.map_cons,List.nodup_cons] at nd
  rcases List.mem_cons.mp m with rfl | h
  ·rw [show decide (r.1 = r.1) = true from decide_eq_true rfl]
   rfl
  ·rw [decide_eq_false (fun c=>nd.1 (by rw [c];exact List.mem_map.mpr ⟨_,h,rfl⟩))]
   exact aDJ nd.2 h
theorem aGO {rs:List (Str × Int)} (nd:(rs.map (·.1)).Nodup):(rs.map fun r=>((Sum.inr r.1:Key),V.int r.2)) = dX (rs.map (·.1)) (aAE rs):=by
 unfold dX
 rw [List.map_map]
 exact List.map_congr_left fun r m=>by
  show _ = (Sum.inr r.1,V.int (aAE rs r.1))
  rw [aDJ nd m]
theorem aKN (zs:List Str) (c:Str → Int):(dX zs c).length = zs.length:=List.length_map ..
theorem aKO (zs:List Str) (c:Str → Int) (n:Str):gC (dX zs c) (Sum.inr n) = if n ∈ zs then some (.int (c n)) else none:=by
 by_cases h:n ∈ zs
 ·rw [oO h,if_pos h]
 ·rw [lY h,if_neg h]
theorem aKM (zs:List Str) (c:Str → Int) (n:Str) (b:Int):∃ zs' c',gW (dX zs c) (Sum.inr n) (.int b) = dX zs' c' ∧ zs'.length ≤ zs.length + 1:=by
 by_cases h:n ∈ zs
 ·exact ⟨zs,_,aFE h,by omega⟩
 ·exact ⟨zs ++ [n],_,aFF h,by rw [List.length_append,List.length_singleton];omega⟩
def aBP (C:Addr):Sp:=fun vs H Q _=>∃ (x y z u:V) (p l l2:Addr) (us us2:List V) (fs ds:List Dv) (rs:List (Str × Int)) (P:List (Gp × Bool)) (a:Int),vs = [x,y,z,u] ∧ x = .ref p ∧ LandAt C H p fs ds ∧ y = .ref l ∧ H l = some (.lst us) ∧ IsL H (rs.map bO) us ∧ rs.length ≤ 40 ∧ (rs.map (·.1)).Nodup ∧ z = .ref l2 ∧ H l2 = some (.lst us2) ∧ IsL H (P.map stD) us2 ∧ P.length ≤ 20 ∧ u = .int a ∧
 ∀ (l':Addr) (us':List V) (rs':List (Str × Int)) (H':Hp),aK H H' → H l' = none → H' l' = some (.lst us') → IsL H' (rs'.map bO) us' → rs'.length ≤ 40 → Q (.ref l') H'
theorem aKC:∀ vs H Q E,aBP C vs H Q E → vs.length = 4:=fun vs H Q E ⟨x,y,z,u,p,l,l2,us,us2,fs,ds,rs,P,a,e,_⟩=>by rw [e];rfl
theorem vI (T:Txt K mg C):Fc P w K mg base 2 "_law_and_more" ["_law_land_here","_law_stream_here","_law_steps","_law_amount_here"] (aBP C):=by
 have G_land_p_dyke_names:Mc P w K mg base 1 C "dyke_names" ["self"] (iL C fun _ ds=>ds.map aJ):=dN T
 refine T.d_l_and_more.fc fJ aKC (fun f cdv A outer s H vs Q E hr h=>?_)
 obtain ⟨x,y,z,u,p,l,l2,us,us2,fs,ds,rs,P,a,rfl,rfl,L,rfl,hl,ius,lrs,nd,rfl,hl2,ius2,lP,rfl,q⟩:=h
 have big:=cB
 have hu:=gR hr
 have gd:=(bV L).2
 have d2:=gd.l2
 have lu2:=cW ius2
 rw [List.length_map] at lu2
 refine ⟨_,(@aG _ _ _ _ _ (@aU _ _ (4) _ _ _ _ fJ.nd rfl (Or.inr rfl) (@cI _ _ _ _ _ _ _ _ _ (@dA _ rfl) rfl T.n_dict fY (@aA _ _ _ _ _ (pv 1) aE (by rfl)) (by decide) (by decide) (by rfl) (by rfl)) (by rfl) (by trivial)) (@aG _ _ _ _ _ (@eJ _ _ _ _ _ _ _ _ PassesOwn.never rfl (@bE _ (K) _ _ _ rfl (@bF _ _ _ _ (pv 2))) (@lI _ (K) _ _ _ _ _ rfl 3 rfl (@jZ _ _ _ _ _ _ rfl (@aW _ _ _ _ _ (@aM _ _ (5) _ fJ.nd rfl (Or.inl rfl) (by trivial)) (@aW _ _ _ _ _ (@aM _ _ (6) _ fJ.nd rfl (Or.inl rfl) (by trivial)) (@aW _ _ _ _ _ (@aM _ _ (7) _ fJ.nd rfl (Or.inl rfl) (by trivial)) eY (by rfl)) (by rfl)) (by rfl)) (by rfl) (by rfl))) (@aH _ _ _ (@oG _ _ _ _ _ _ _ _ _ hu (pv 4) (pv 5) (@aI _ _ _ _ _ _ _ _ cF (@tG _ _ _ _ _ _ _ _ _ hu (pv 4) (pv 5) aD ⟨rfl,rfl,rfl,rfl⟩) (@aI _ _ _ _ _ _ _ _ lK (pv 6) (pv 3))) rfl)) (by intro _;rfl)) (@aH _ _ _ (@aS _ _ _ _ (@bX _ _ _ _ _ _ _ _ _ _ _ ["_law_name","_law_amounts"] 1 [4] rfl (@bE _ (K) _ _ _ rfl (@bF _ _ _ _ (@kR _ _ _ _ _ _ _ _ _ _ _ T.cl_Land G_land_p_dyke_names (hr.mono (by decide)) (pv 0) (by rfl)))) (fun R=>@aM _ _ (0) _ (show List.Nodup (["_law_name","_law_amounts"]:List Str) by decide +kernel) rfl (Or.inl rfl) (by trivial)) (@bC _ _ (by decide)) (fun R=>@fU _ _ _ (@bA _ _ _ _ _ _ _ _ tM (@tG _ _ _ _ _ _ _ _ _ hu (pv 1) (pv 0) aD ⟨rfl,rfl,rfl,rfl⟩) aD (@bG _ _ (by decide) (by decide)))) (fun R=>(@cA _ _ _ _ _ (@aA _ _ _ _ _ (pv 0) (@aA _ _ _ _ _ (@dR _ _ _ _ _ _ hu (pv 1) (pv 0) (fun _ _=>rfl)) aE (by rfl)) (by rfl)))) (by rfl) (by rfl) (by rfl) (by rfl) (by rfl) (by rfl) (by rfl) (by intro _;rfl)))))),?_⟩
 refine cG fun u0 hu0=>?_
 refine ⟨_,rfl,l,us,_,rfl,SqL.of hl,oY ius,by rw [List.length_map];omega,?_,fun de hde=>?_⟩
 ·rw [List.map_map,show ((fun x:Key × V=>x.1) ∘ fun r:Str × Int=>((Sum.inr r.1:Key),V.int r.2)) = (Sum.inr:Str → Key) ∘ (fun r:Str × Int=>r.1) from rfl,← List.map_map,gA]
  exact nd
 rw [aGO nd]
 have A1:=aK.upd (o:=.dK (dX (rs.map (·.1)) (aAE rs))) hde
 have e1:upd H de (.dK (dX (rs.map (·.1)) (aAE rs))) de = some (.dK (dX (rs.map (·.1)) (aAE rs))):=aB
 generalize upd H de (.dK (dX (rs.map (·.1)) (aAE rs))) = H1 at A1 e1 ⊢
 refine gσ (σ':=[some (.ref p),some (.ref l),some (.ref l2),some (.int a),some (.ref de),none,none,none]) rfl ?_
 refine hu0 _ _ _ ?_
 refine cG fun u1 hu1=>?_
 refine ⟨_,rfl,l2,rfl,⟨_,SqL.of (A1 _ _ hl2)⟩,dW (K:=K) (a:=l2) (xs:=us2) (fun i σ H'=>∃ (v5 v6 v7:Option V) (ns:List Str) (c:Str → Int),σ = [some (.ref p),some (.ref l),some (.ref l2),some (.int a),some (.ref de),v5,v6,v7] ∧ aK H H' ∧ H' de = some (.dK (dX ns c)) ∧ ns.length ≤ 40 + i) ⟨_,_,_,_,_,rfl,A1,e1,by rw [List.length_map];omega⟩ ?_ ?_ ?_⟩
 ·rintro i σ H' hi ⟨v5,v6,v7,ns,c,rfl,S,he,ln⟩
  exact SqL.of (S _ _ hl2)
 ·rintro i xv σ H' hx ⟨v5,v6,v7,ns,c,rfl,S,he,ln⟩
  have hil:i < us2.length:=(List.getElem?_eq_some_iff.mp hx).1
  obtain ⟨s,es⟩:∃ s,P[i]? = some s:=⟨_,List.getElem?_eq_getElem (by omega)⟩
  obtain ⟨v,ev,iv⟩:=(IsL.same S _ _ ius2).get (show (P.map stD)[i]? = some (stD s) by rw [List.getElem?_map,es];rfl)
  rw [hx] at ev
  cases ev
  obtain ⟨t,rfl,ot⟩:=aBN iv
  refine ⟨t,_,rfl,SqT.of ot,rfl,_,_,rfl,_,_,rfl,_,_,rfl,rfl,?_⟩
  have wb:-(2 ^ 64) < wy s.2 ∧ wy s.2 < 2 ^ 64:=by unfold wy;split <;> decide
  obtain ⟨k,ek⟩:∃ k:Int,(gC (dX ns c) (Sum.inr s.1.nm)).getD (.int 0) = .int k:=by
   rw [aKO]
   split
   ·exact ⟨_,rfl⟩
   ·exact ⟨_,rfl⟩
  refine ⟨_,rfl,de,rfl,.inl ⟨_,.inl he⟩,_,rfl,_,.inl ⟨_,Sum.inr s.1.nm,.inl he,rfl,rfl⟩,?_⟩
  rw [ek]
  obtain ⟨ns',c',ep,lp⟩:=aKM ns c s.1.nm (k + wy s.2 * a)
  refine ⟨_,rfl,_,rfl,_,_,rfl,rfl,.inl wb,_,_,rfl,rfl,_,rfl,_,rfl,de,_,rfl,.inl ⟨_,Sum.inr s.1.nm,he,rfl,by rw [aKN];omega,rfl⟩,?_⟩
  refine ⟨_,_,_,ns',c',rfl,S.over hde,?_,by omega⟩
  rw [aB]
  exact congrArg (fun x=>some (HO.dK x)) ep
 ·rintro σ H2 ⟨v5,v6,v7,ns,c,rfl,S2,he2,ln⟩
  refine hu1 _ _ _ ?_
  have L2':=L.same S2
  obtain ⟨dx,d1,d2',hx3,_⟩:=L2'.ex
  refine ⟨_,rfl,p,dx,_,rfl,hx3,dI _ _ (by decide +kernel) (by decide +kernel),_,rfl,p,fs,ds,rfl,L2',fun ld H3 S3 fld hld=>?_⟩
  have he3:=S3 _ _ he2
  have hld:H3 ld = some (.lst ((ds.map aJ).map V.str)):=hld
  have ldn:(ds.map aJ).length = ds.length:=List.length_map _
  refine ⟨ld,rfl,⟨_,SqL.of hld⟩,?_⟩
  refine bH (F:=K) (xs:=(ds.map aJ).map V.str) (by rw [List.length_map];omega) (fun i ys H'=>aK H3 H' ∧ ys.length ≤ i ∧ ∃ rs':List (Str × Int),IsL H' (rs'.map bO) ys) ⟨aK.refl _,Nat.le_refl _,[],rfl⟩ ?_ ?_ ?_
  ·rintro i ys H' hi ⟨S,ly,_⟩
   exact ⟨SqL.of (S _ _ hld),ly⟩
  ·rintro i xv ys H' K1 K2 hx ⟨S,ly,rs',iy⟩ k1 k2
   rw [List.getElem?_map] at hx
   obtain ⟨n,en,rfl⟩:=Option.map_eq_some_iff.mp hx
   have he':=S _ _ he3
   refine ⟨_,rfl,de,rfl,.inl ⟨_,.inl he'⟩,_,rfl,_,.inl ⟨_,Sum.inr n,.inl he',rfl,rfl⟩,?_⟩
   by_cases mn:n ∈ ns
   ·rw [oO mn]
    refine ⟨rfl,_,rfl,dZ (fun _=>?_) (fun _=>k2 _ ⟨S,by omega,rs',iy⟩)⟩
    refine ⟨_,rfl,_,rfl,_,rfl,de,_,rfl,.inl ⟨_,Sum.inr n,.inl he',rfl,(oO mn).symm⟩,aL rfl,fun t1 ht1=>k1 _ _ ⟨S.trans (aK.upd ht1),by rw [List.length_append,List.length_singleton];omega,rs' ++ [(n,c n)],?_⟩⟩
    rw [List.map_append]
    exact IsL.snoc (aGP aB) (IsL.same (aK.upd ht1) _ _ iy)
   ·rw [lY mn]
    exact ⟨rfl,_,rfl,bR (k2 _ ⟨S,by omega,rs',iy⟩)⟩
  rintro ys H4 ⟨S4,ly,rs',iy⟩
  rw [List.length_map] at ly
  have lr:=cW iy
  rw [List.length_map] at lr
  intro l6 hl6
  have A6:=aK.upd (o:=.lst ys) hl6
  exact q l6 ys rs' _ (S2.trans (S3.trans (S4.trans A6))) ((S2.trans (S3.trans S4)).free hl6) aB (IsL.same A6 _ _ iy) (by omega)
open Mt53 Mt22 MtF Mt31 Mt61 Mt51
theorem aKQ {xs:List V} {v:V} (h:xs[xs.length - 1]? = some v) (hl:0 < xs.length):atI xs (-1) = some v:=by
 unfold atI ixN
 rw [if_neg (by omega),if_pos (by omega)]
 have e:((-1:Int) + (xs.length:Int)).toNat = xs.length - 1:=by omega
 show xs[((-1:Int) + (xs.length:Int)).toNat]? = some v
 rw [e]
 exact h
def rsD (rs:List (Str × Int)):Dv:=.lst (rs.map bO)
structure FndAt (H:Hp) (lf:Addr) (rss:List (List (Str × Int))):Prop where
 ex:∃ us Hs,H lf = some (.lst us) ∧ aK Hs H ∧ Hs lf = none ∧ IsL Hs (rss.map rsD) us
 all:∀ rs ∈ rss,rs.length ≤ 40
theorem FndAt.same {H H':Hp} {lf:Addr} {rss:List (List (Str × Int))} (S:aK H H') (h:FndAt H lf rss):FndAt H' lf rss:=by
 obtain ⟨⟨us,Hs,h1,h2,h3,h4⟩,a⟩:=h
 exact ⟨⟨us,Hs,S _ _ h1,h2.trans S,h3,h4⟩,a⟩
theorem FndAt.snoc {H H':Hp} {lf l:Addr} {us ws:List V} {rss:List (List (Str × Int))} {rs:List (Str × Int)} (h:FndAt H lf rss) (hu:H lf = some (.lst us)) (S:aK H H') (n:H l = none) (e:H' l = some (.lst ws)) (i:IsL H' (rs.map bO) ws) (lr:rs.length ≤ 40):FndAt (upd H' lf (.lst (us ++ [.ref l]))) lf (rss ++ [rs]):=by
 obtain ⟨⟨us',Hs,h1,h2,h3,h4⟩,a⟩:=h
 rw [hu] at h1
 cases h1
 have kt:rS H' (fun b=>if b = lf then none else H' b):=fun b xs eb=>by
  show (if b = lf then none else H' b) = _
  rw [if_neg (fun z=>by rw [z,S _ _ hu] at eb;cases eb)]
  exact eb
 have hard':uG (rs.map bO) = true:=kU fun d m=>by
  obtain ⟨r,_,rfl⟩:=List.mem_map.mp m
  rfl
 refine ⟨⟨us ++ [.ref l],fun b=>if b = lf then none else H' b,aB,fun b o eb=>?_,if_pos rfl,?_⟩,fun r m=>?_⟩
 ·have eb:(if b = lf then none else H' b) = some o:=eb
  by_cases hb:b = lf
  ·rw [if_pos hb] at eb;cases eb
  ·rw [if_neg hb] at eb
   rw [aR hb]
   exact eb
 ·rw [List.map_append]
  have it:Is (fun b=>if b = lf then none else H' b) (rsD rs) (.ref l):=by
   refine ⟨l,ws,rfl,?_,IsL.keep kt _ _ hard' i⟩
   show (if l = lf then none else H' l) = _
   rw [if_neg (fun z=>by rw [z,hu] at n;cases n)]
   exact e
  refine IsL.snoc it (IsL.same (fun b o eb=>?_) _ _ h4)
  show (if b = lf then none else H' b) = _
  rw [if_neg (fun z=>by rw [z,h3] at eb;cases eb)]
  exact S _ _ (h2 _ _ eb)
 ·rcases List.mem_append.mp m with m | m
  ·exact a r m
  ·rw [show r = rs by simpa using m]
   exact lr
def xH (C:Addr):Sp:=fun vs H Q _=>∃ (x y z u v:V) (p lg l lw:Addr) (gus us:List V) (fs ds:List Dv) (zs:List Str) (L:Int) (rs:List (Str × Int)) (c:Int),vs = [x,y,z,u,v] ∧ x = .ref p ∧ LandAt C H p fs ds ∧ y = .ref lg ∧ H lg = some (.lst gus) ∧ IsL H ((Mt51.gapsD fs ds L).map eA) gus ∧ z = .ref lw ∧ H lw = some (.lst (zs.map V.str)) ∧ 1 ≤ zs.length ∧ (∀ z ∈ zs,z ∈ fs.map aJ) ∧ u = .ref l ∧ H l = some (.lst us) ∧ IsL H (rs.map bO) us ∧ rs.length ≤ 40 ∧ (rs.map (·.1)).Nodup ∧ v = .int c ∧
 ∀ (lf:Addr) (us':List V) (rss:List (List (Str × Int))) (H':Hp),aK H H' → H lf = none → H' lf = some (.lst us') → IsL H' (rss.map rsD) us' → (∀ r ∈ rss,r.length ≤ 40) → rss.length ≤ 3 → Q (.ref lf) H'
theorem aHM:∀ vs H Q E,xH C vs H Q E → vs.length = 5:=fun vs H Q E ⟨x,y,z,u,v,p,lg,l,lw,gus,us,fs,ds,zs,L,rs,c,e,_⟩=>by rw [e];rfl
theorem aHX (G:List Gp):aO 30 (.lst (G.map eA)) = true:=kY fun d m=>by
 obtain ⟨g,_,rfl⟩:=List.mem_map.mp m
 rfl
theorem aCB (T:Txt K mg C):Fc P w K mg base 3 "_law_rings" ["_law_land_here","_law_gaps_here","_law_wish_here","_law_stream_here","_law_cell"] (xH C):=by
 have G_l_way:Fc P w K mg base 1 "_law_way" ["_law_gaps_here","_law_start","_law_goal"] aKZ:=aHF T
 have G_l_and_more:Fc P w K mg base 2 "_law_and_more" ["_law_land_here","_law_stream_here","_law_steps","_law_amount_here"] (aBP C):=vI T
 refine T.d_l_rings.fc lF aHM (fun f cdv A outer s H vs Q E hr h=>?_)
 obtain ⟨x,y,z,u,v,p,lg,l,lw,gus,us,fs,ds,zs,lv,rs,c,rfl,rfl,L,rfl,hlg,igu,rfl,hlw,l1,sub,rfl,hl,ius,lrs,nd,rfl,q⟩:=h
 have big:=cB
 have hu:=gR hr
 have gf:=(bV L).1
 have gd:=(bV L).2
 have f2:=gf.l2
 have d2:=gd.l2
 have GG:=lW gf gd lv
 have gsm:=oJ gf gd lv
 have lgp:(Mt51.gapsD fs ds lv).length ≤ 40:=by
  have:=jR fs ds lv
  rw [← gsm,List.length_map] at this
  omega
 have lgu:=cW igu
 rw [List.length_map] at lgu
 have ends:∀ g ∈ Mt51.gapsD fs ds lv,g.one ∈ (("sea":Str) :: fs.map aJ) ∧ g.other ∈ (("sea":Str) :: fs.map aJ):=fun g m=>by
  obtain ⟨h1,h2,_⟩:=GG.ends (toG g) (by rw [← gsm];exact List.mem_map.mpr ⟨g,m,rfl⟩)
  exact ⟨h1,h2⟩
 have lV:(("sea":Str) :: fs.map aJ).length ≤ 13:=by rw [List.length_cons,List.length_map];omega
 obtain ⟨za,eza⟩:∃ za,zs[0]? = some za:=⟨_,List.getElem?_eq_getElem (by omega)⟩
 obtain ⟨zb,ezb⟩:∃ zb,zs[zs.length - 1]? = some zb:=⟨_,List.getElem?_eq_getElem (by omega)⟩
 have ma:za ∈ (("sea":Str) :: fs.map aJ):=List.mem_cons_of_mem _ (sub _ (List.mem_of_getElem? eza))
 have mb:zb ∈ (("sea":Str) :: fs.map aJ):=List.mem_cons_of_mem _ (sub _ (List.mem_of_getElem? ezb))
 have ata:atI (zs.map V.str) 0 = some (.str za):=aQ (j:=0) (by rw [List.getElem?_map,eza];rfl)
 have atb:atI (zs.map V.str) (-1) = some (.str zb):=aKQ (by rw [List.length_map,List.getElem?_map,ezb];rfl) (by rw [List.length_map];omega)
 refine ⟨_,(@aG _ _ _ _ _ (@aU _ _ (5) _ _ _ _ lF.nd rfl (Or.inl rfl) (@bM _ _ _ _ (@aA _ _ _ _ _ (@bU _ _ _ _ _ _ _ _ _ _ G_l_and_more (hr.mono (by decide)) (@aA _ _ _ _ _ (pv 0) (@aA _ _ _ _ _ (pv 3) (@aA _ _ _ _ _ (@bU _ _ _ _ _ _ _ _ _ _ G_l_way (hr.mono (by decide)) (@aA _ _ _ _ _ (pv 1) (@aA _ _ _ _ _ (@aZ _ _ _ _ _ _ _ (@bL _ (K) rfl) (pv 2) aD (fun _ _=>rfl)) (@aA _ _ _ _ _ (@aZ _ _ _ _ _ _ _ (@bL _ (K) rfl) (pv 2) (@aAI _ _ _ _ _ _ sL aD) (fun _ _=>rfl)) aE (by rfl)) (by rfl)) (by rfl)) (by rfl) (by decide) (by rfl) (by rfl)) (@aA _ _ _ _ _ (@aI _ _ _ _ _ _ _ _ cF aD (@aI _ _ _ _ _ _ _ _ bN (pv 4) aD)) aE (by rfl)) (by rfl)) (by rfl)) (by rfl)) (by rfl) (by decide) (by rfl) (by rfl)) aE (by rfl))) (by rfl) (by trivial)) (@aG _ _ _ _ _ (@hW _ _ _ _ (@pQ _ (K) _ _ _ _ _ rfl (@pS _ _ _ _ _ _ _ _ _ _ _ _ PySem.F.plainAttrs_list PySem.F.slot_list_append PySem.F.type_list_append eZ (pv 5) (@aA _ _ _ _ _ (@bU _ _ _ _ _ _ _ _ _ _ G_l_and_more (hr.mono (by decide)) (@aA _ _ _ _ _ (pv 0) (@aA _ _ _ _ _ (pv 3) (@aA _ _ _ _ _ (@bU _ _ _ _ _ _ _ _ _ _ G_l_way (hr.mono (by decide)) (@aA _ _ _ _ _ (pv 1) (@aA _ _ _ _ _ (@aZ _ _ _ _ _ _ _ (@bL _ (K) rfl) (pv 2) (@aAI _ _ _ _ _ _ sL aD) (fun _ _=>rfl)) (@aA _ _ _ _ _ (@aZ _ _ _ _ _ _ _ (@bL _ (K) rfl) (pv 2) aD (fun _ _=>rfl)) aE (by rfl)) (by rfl)) (by rfl)) (by rfl) (by decide) (by rfl) (by rfl)) (@aA _ _ _ _ _ (@aI _ _ _ _ _ _ _ _ cF aD (@aI _ _ _ _ _ _ _ _ bN (pv 4) aD)) aE (by rfl)) (by rfl)) (by rfl)) (by rfl)) (by rfl) (by decide) (by rfl) (by rfl)) aE (by rfl)) (by rfl) (by rfl) (by rfl) (by rfl) (by rfl))) (by rfl)) (@aG _ _ _ _ _ (@cL _ _ _ _ _ _ _ _ (@bA _ _ _ _ _ _ _ _ (@tL _ hr.units) (pv 1) (@bM _ _ _ _ aE) (@bG _ _ (by decide) (by decide))) (@aG _ _ _ _ _ (@aU _ _ (6) _ _ _ _ lF.nd rfl (Or.inr rfl) (@aZ _ _ _ _ _ _ _ (@bL _ (K) rfl) (pv 1) (@aI _ _ _ _ _ _ _ _ bN (@aI _ _ _ _ _ _ _ _ aX (pv 4) aD) (@aT _ _ _ _ _ _ _ _ _ (@aY _ (K) rfl) rfl T.n_len bS (@aA _ _ _ _ _ (pv 1) aE (by rfl)) (by decide) (by decide) (by rfl) (by rfl))) (fun _ _=>rfl)) (by rfl) (by trivial)) (@aG _ _ _ _ _ (@aU _ _ (7) _ _ _ _ lF.nd rfl (Or.inl rfl) (@bU _ _ _ _ _ _ _ _ _ _ G_l_way (hr.mono (by decide)) (@aA _ _ _ _ _ (@bX _ _ _ _ _ _ _ _ _ _ _ ["_law_other","_law_gap"] 1 [6] rfl (@bE _ (K) _ _ _ rfl (@bF _ _ _ _ (pv 1))) (fun R=>@aM _ _ (0) _ (show List.Nodup (["_law_other","_law_gap"]:List Str) by decide +kernel) rfl (Or.inl rfl) (by trivial)) (@bC _ _ (by decide)) (fun R=>@fU _ _ _ (@bA _ _ _ _ _ _ _ _ (@tL _ hr.units) (pv 0) (pv 1) (@bG _ _ (by decide) (by decide)))) (fun R=>(pv 0)) (by rfl) (by rfl) (by rfl) (by rfl) (by rfl) (by rfl) (by rfl) (by intro _;rfl)) (@aA _ _ _ _ _ (@aZ _ _ _ _ _ _ _ (@bD _ (K) rfl) (pv 6) aD (fun _ _=>rfl)) (@aA _ _ _ _ _ (@aZ _ _ _ _ _ _ _ (@bD _ (K) rfl) (pv 6) aD (fun _ _=>rfl)) aE (by rfl)) (by rfl)) (by rfl)) (by rfl) (by decide) (by rfl) (by rfl)) (by rfl) (by trivial)) (@aH _ _ _ (@cL _ _ _ _ _ _ _ _ (@PW.pt _ _ _ (@jM _ _ _ _ _ _ _ (@bA _ _ _ _ _ _ _ _ (@tL _ hr.units) (pv 7) (@bM _ _ _ _ aE) (@bG _ _ (by decide) (by decide))) (@lH _ _ _ _ (@bA _ _ _ _ _ _ _ _ wA (@aZ _ _ _ _ _ _ _ (@bD _ (K) rfl) (pv 6) aD (fun _ _=>rfl)) aD (@bG _ _ (by decide) (by decide)))))) (@aH _ _ _ (@hW _ _ _ _ (@pQ _ (K) _ _ _ _ _ rfl (@pS _ _ _ _ _ _ _ _ _ _ _ _ PySem.F.plainAttrs_list PySem.F.slot_list_append PySem.F.type_list_append eZ (pv 5) (@aA _ _ _ _ _ (@bU _ _ _ _ _ _ _ _ _ _ G_l_and_more (hr.mono (by decide)) (@aA _ _ _ _ _ (pv 0) (@aA _ _ _ _ _ (pv 3) (@aA _ _ _ _ _ (@aI _ _ _ _ _ _ _ _ eR (@bM _ _ _ _ (@aA _ _ _ _ _ (@cA _ _ _ _ _ (@aA _ _ _ _ _ (@aZ _ _ _ _ _ _ _ (@bD _ (K) rfl) (pv 6) aD (fun _ _=>rfl)) (@aA _ _ _ _ _ aD (@aA _ _ _ _ _ (@aZ _ _ _ _ _ _ _ (@bD _ (K) rfl) (pv 6) aD (fun _ _=>rfl)) aE (by rfl)) (by rfl)) (by rfl))) aE (by rfl))) (pv 7)) (@aA _ _ _ _ _ (@aI _ _ _ _ _ _ _ _ cF aD (@aI _ _ _ _ _ _ _ _ bN (@aI _ _ _ _ _ _ _ _ aX (pv 4) aD) aD)) aE (by rfl)) (by rfl)) (by rfl)) (by rfl)) (by rfl) (by decide) (by rfl) (by rfl)) aE (by rfl)) (by rfl) (by rfl) (by rfl) (by rfl) (by rfl))) (by rfl))) bI)))) bI) (@aH _ _ _ (@aS _ _ _ _ (pv 5)))))),?_⟩
 refine mK fun u1 hu1=>?_
 refine ⟨_,rfl,_,rfl,_,rfl,_,rfl,lw,_,0,.str za,rfl,rfl,SqL.of hlw,ata,_,rfl,_,rfl,lw,_,-1,.str zb,rfl,rfl,SqL.of hlw,atb,_,_,_,rfl,lg,gus,Mt51.gapsD fs ds lv,"sea" :: fs.map aJ,za,zb,rfl,hlg,igu,lgp,lV,ma,ends,rfl,rfl,fun vP P H1 S1 iP lP _=>?_⟩
 obtain ⟨lq,uq,rfl,hlq,iq⟩:=iP
 refine ⟨_,rfl,_,_,rfl,rfl,dY rfl,_,_,rfl,rfl,_,_,_,_,p,l,lq,us,uq,fs,ds,rs,P,_,rfl,rfl,L.same S1,rfl,S1 _ _ hl,IsL.same S1 _ _ ius,lrs,nd,rfl,hlq,iq,by omega,rfl,fun lm wm rm H2 S2 nlm hlm im lm40=>?_⟩
 refine ⟨aL rfl,fun lf hlf=>?_⟩
 have A3:=aK.upd (o:=.lst [.ref lm]) hlf
 have S3:=S1.trans (S2.trans A3)
 have nf:H lf = none:=(S1.trans S2).free hlf
 have f3:FndAt (upd H2 lf (.lst [.ref lm])) lf [rm]:=⟨⟨_,H2,aB,A3,hlf,_,_,rfl,⟨lm,wm,rfl,hlm,im⟩,rfl⟩,fun r m=>by rw [show r = rm by simpa using m];exact lm40⟩
 have e3:upd H2 lf (.lst [.ref lm]) lf = some (.lst [.ref lm]):=aB
 generalize upd H2 lf (.lst [.ref lm]) = H3 at A3 S3 f3 e3 ⊢
 refine gσ (σ':=[some (.ref p),some (.ref lg),some (.ref lw),some (.ref l),some (.int c),some (.ref lf),none,none]) rfl ?_
 refine ⟨_,rfl,.inl ⟨rfl,_,SqL.of e3⟩,?_⟩
 refine ⟨_,rfl,_,rfl,_,rfl,_,rfl,_,rfl,lw,_,-1,.str zb,rfl,rfl,SqL.of (S3 _ _ hlw),atb,_,rfl,lw,_,0,.str za,rfl,rfl,SqL.of (S3 _ _ hlw),ata,_,_,_,rfl,lg,gus,Mt51.gapsD fs ds lv,"sea" :: fs.map aJ,zb,za,rfl,S3 _ _ hlg,IsL.same S3 _ _ igu,lgp,lV,mb,ends,rfl,rfl,fun vP P H4 S4 iP lP _=>?_⟩
 obtain ⟨lq,uq,rfl,hlq,iq⟩:=iP
 have T4:=S3.trans S4
 refine ⟨_,rfl,_,_,rfl,rfl,dY rfl,_,_,rfl,rfl,_,_,_,_,p,l,lq,us,uq,fs,ds,rs,P,_,rfl,rfl,L.same T4,rfl,T4 _ _ hl,IsL.same T4 _ _ ius,lrs,nd,rfl,hlq,iq,by omega,rfl,fun lm2 wm2 rm2 H5 S5 nlm2 hlm2 im2 lm240=>?_⟩
 have T5:=T4.trans S5
 refine ⟨lf,_,.ref lm2,rfl,rfl,(S4.trans S5) _ _ e3,by show 1 < sizeLine;omega,?_⟩
 have f6:=f3.snoc e3 (S4.trans S5) (S4.free nlm2) hlm2 im2 lm240
 have S6:=T5.over (o:=.lst ([.ref lm] ++ [.ref lm2])) nf
 have e6:upd H5 lf (.lst ([.ref lm] ++ [.ref lm2])) lf = some (.lst ([.ref lm] ++ [.ref lm2])):=aB
 generalize upd H5 lf (.lst ([.ref lm] ++ [.ref lm2])) = H6 at f6 S6 e6 ⊢
 refine hu1 _ _ _ ?_
 have fin:∀ (σ:L2.St) (rss:List (List (Str × Int))) (H':Hp),aK H H' → FndAt H' lf rss → rss.length ≤ 3 → σ[5]? = some (some (.ref lf)) → Q (.ref lf) H':=fun σ rss H' S ff lr _=>by
  obtain ⟨⟨us',Hs,h1,h2,h3,h4⟩,al⟩:=ff
  exact q lf us' rss H' S nf h1 (IsL.same h2 _ _ h4) al lr
 refine cG fun u2 hu2=>?_
 refine ⟨_,rfl,aL rfl,fun le hle=>?_⟩
 have A7:=aK.upd (o:=.lst []) hle
 have S7:=S6.trans A7
 have f7:=f6.same A7
 have e7:=A7 _ _ e6
 refine ⟨.lst ((Mt51.gapsD fs ds lv).map eA),.lst [],⟨lg,gus,rfl,S7 _ _ hlg,IsL.same S7 _ _ igu⟩,⟨le,[],rfl,aB,rfl⟩,aHX _,rfl,_,rfl,?_⟩
 generalize upd H6 le (.lst []) = H7 at A7 S7 f7 e7 ⊢
 rw [if_pos rfl,yT]
 by_cases hg0:Mt51.gapsD fs ds lv = []
 ·rw [decide_eq_true (by rw [hg0];rfl)]
  refine bR (hu2 _ _ _ ⟨_,rfl,?_⟩)
  exact fin [none,none,none,none,none,some (.ref lf)] _ _ S7 f7 (by show 2 ≤ 3;decide) rfl
 rw [decide_eq_false (fun e=>hg0 (List.map_eq_nil_iff.mp e))]
 refine cP ?_
 have g0:0 < (Mt51.gapsD fs ds lv).length:=List.length_pos_iff.mpr hg0
 have pgu:(0:Int) < ((gus.length:Nat):Int):=by omega
 obtain ⟨k,hk⟩:=Int.eq_ofNat_of_zero_le (Int.emod_nonneg (c / 3) (show ((gus.length:Nat):Int) ≠ 0 by omega))
 have hk2:k < gus.length:=by have:=Int.emod_lt_of_pos (c / 3) pgu;omega
 obtain ⟨gp,egp⟩:∃ gp,(Mt51.gapsD fs ds lv)[k]? = some gp:=⟨_,List.getElem?_eq_getElem (by omega)⟩
 have mgp:=List.mem_of_getElem? egp
 obtain ⟨vg,evg,ivg⟩:=(IsL.same S7 _ _ igu).get (show ((Mt51.gapsD fs ds lv).map eA)[k]? = some (eA gp) by rw [List.getElem?_map,egp];rfl)
 have ivg0:=ivg
 obtain ⟨tg,rfl,otg⟩:=qA ivg
 have hlg7:=S7 _ _ hlg
 refine ⟨_,rfl,_,rfl,_,_,rfl,rfl,⟨by decide,by decide⟩,_,rfl,lg,gus,rfl,.inl (SqL.of hlg7),_,_,rfl,rfl,pgu,lg,gus,_,.ref tg,rfl,rfl,SqL.of hlg7,by rw [hk];exact aQ evg,?_⟩
 refine gσ (σ':=[some (.ref p),some (.ref lg),some (.ref lw),some (.ref l),some (.int c),some (.ref lf),some (.ref tg),none]) rfl ?_
 refine ⟨_,rfl,lg,rfl,⟨_,SqL.of hlg7⟩,?_⟩
 have igu7:=IsL.same S7 _ _ igu
 refine bH (F:=K) (xs:=gus) (by omega) (fun i ys H'=>H7 = H' ∧ ys.length ≤ i ∧ ∃ G':List Gp,IsL H7 (G'.map eA) ys ∧ ∀ g ∈ G',g ∈ Mt51.gapsD fs ds lv) ⟨rfl,Nat.le_refl _,[],rfl,fun g m=>by cases m⟩ ?_ ?_ ?_
 ·rintro i ys H' hi ⟨rfl,ly,_⟩
  exact ⟨SqL.of hlg7,ly⟩
 ·rintro i xv ys H' K1 K2 hx ⟨rfl,ly,G',iy,hG⟩ k1 k2
  have hil:i < gus.length:=(List.getElem?_eq_some_iff.mp hx).1
  obtain ⟨g2,eg2⟩:∃ g2,(Mt51.gapsD fs ds lv)[i]? = some g2:=⟨_,List.getElem?_eq_getElem (by omega)⟩
  obtain ⟨v2,ev2,iv2⟩:=igu7.get (show ((Mt51.gapsD fs ds lv).map eA)[i]? = some (eA g2) by rw [List.getElem?_map,eg2];rfl)
  rw [hx] at ev2
  cases ev2
  refine ⟨_,rfl,_,rfl,eA g2,eA gp,iv2,ivg0,rfl,rfl,_,rfl,dZ (fun _=>?_) (fun _=>k2 _ ⟨rfl,by omega,G',iy,hG⟩)⟩
  refine ⟨_,rfl,k1 _ _ ⟨rfl,by rw [List.length_append,List.length_singleton];omega,G' ++ [g2],?_,fun g m=>?_⟩⟩
  ·rw [List.map_append]
   exact IsL.snoc iv2 iy
  ·rcases List.mem_append.mp m with m | m
   ·exact hG g m
   ·rw [show g = g2 by simpa using m]
    exact List.mem_of_getElem? eg2
 rintro ys H' ⟨rfl,ly,G',iy,hG⟩
 intro lo hlo
 have A8:=aK.upd (o:=.lst ys) hlo
 have S8:=S7.trans A8
 have lG':=cW iy
 rw [List.length_map] at lG'
 obtain ⟨en1,en2⟩:=ends gp mgp
 refine ⟨_,rfl,tg,_,2,.str gp.other,rfl,rfl,SqT.of (A8 _ _ otg),aQ (j:=2) rfl,_,rfl,tg,_,1,.str gp.one,rfl,rfl,SqT.of (A8 _ _ otg),aQ (j:=1) rfl,_,_,_,rfl,lo,ys,G',"sea" :: fs.map aJ,gp.other,gp.one,rfl,aB,IsL.same A8 _ _ iy,by omega,lV,en2,fun g m=>ends g (hG g m),rfl,rfl,fun vP P H9 S9 iP lP _=>?_⟩
 have T9:=S8.trans S9
 have f9:=(f7.same A8).same S9
 have e9:=(A8.trans S9) _ _ e7
 have ot9:=(A8.trans S9) _ _ otg
 generalize upd H7 lo (.lst ys) = H8 at A8 S8 S9
 refine gσ (σ':=[some (.ref p),some (.ref lg),some (.ref lw),some (.ref l),some (.int c),some (.ref lf),some (.ref tg),some vP]) rfl ?_
 refine ⟨_,rfl,aL rfl,fun le2 hle2=>?_⟩
 have A10:=aK.upd (o:=.lst []) hle2
 have T10:=T9.trans A10
 have f10:=f9.same A10
 have e10:=A10 _ _ e9
 have ot10:=A10 _ _ ot9
 have iP10:=Is.same A10 _ _ iP
 refine ⟨qM P,.lst [],iP10,⟨le2,[],rfl,aB,rfl⟩,aAG P,rfl,_,rfl,?_⟩
 generalize upd H9 le2 (.lst []) = H10 at A10 T10 f10 e10 ot10 iP10 ⊢
 refine dZ (fun _=>?_) (fun _=>?_)
 ·refine ⟨_,rfl,tg,_,3,.int gp.coins,rfl,rfl,SqT.of ot10,aQ (j:=3) rfl,_,_,rfl,rfl,_,rfl,dZ (fun _=>?_) (fun _=>?_)⟩
  ·obtain ⟨lq,uq,rfl,hlq,iq⟩:=iP10
   have luq:=cW iq
   rw [List.length_map] at luq
   refine ⟨_,rfl,.inl ⟨rfl,_,SqL.of e10⟩,?_⟩
   refine ⟨_,rfl,_,rfl,_,rfl,tg,_,0,.str gp.nm,rfl,rfl,SqT.of ot10,aQ (j:=0) rfl,_,rfl,tg,_,3,.int gp.coins,rfl,rfl,SqT.of ot10,aQ (j:=3) rfl,aL rfl,fun t1 ht1=>?_⟩
   have B1:=aK.upd (o:=.tup [.str gp.nm,.int 1,.int gp.coins]) ht1
   refine ⟨aL rfl,fun t2 ht2=>?_⟩
   have B2:=aK.upd (o:=.lst [.ref t1]) ht2
   refine ⟨_,rfl,t2,lq,_,_,rfl,rfl,aB,(B1.trans B2) _ _ hlq,by show 1 + _ ≤ _;omega,fun t3 ht3=>?_⟩
   have B3:=aK.upd (o:=.lst ([.ref t1] ++ uq)) ht3
   have BB:=B1.trans (B2.trans B3)
   have i3:IsL (upd (upd (upd H10 t1 (.tup [.str gp.nm,.int 1,.int gp.coins])) t2 (.lst [.ref t1])) t3 (.lst ([.ref t1] ++ uq))) (((gp,true) :: P).map stD) ([.ref t1] ++ uq):=⟨_,_,rfl,aFW (b:=true) ((B2.trans B3) _ _ aB),IsL.same BB _ _ iq⟩
   have T11:=T10.trans BB
   refine ⟨_,rfl,_,_,rfl,rfl,⟨by decide,by decide⟩,_,_,rfl,rfl,dY rfl,_,_,rfl,rfl,_,_,_,_,p,l,t3,us,_,fs,ds,rs,(gp,true) :: P,_,rfl,rfl,L.same T11,rfl,T11 _ _ hl,IsL.same T11 _ _ ius,lrs,nd,rfl,aB,i3,by rw [List.length_cons];omega,rfl,fun lm3 wm3 rm3 H12 S12 nlm3 hlm3 im3 lm340=>?_⟩
   refine ⟨lf,_,.ref lm3,rfl,rfl,(BB.trans S12) _ _ e10,by show 2 < sizeLine;omega,?_⟩
   have f13:=f10.snoc e10 (BB.trans S12) (BB.free nlm3) hlm3 im3 lm340
   have S13:=(T11.trans S12).over (o:=.lst ([.ref lm] ++ [.ref lm2] ++ [.ref lm3])) nf
   refine hu2 _ _ _ ⟨_,rfl,?_⟩
   exact fin [none,none,none,none,none,some (.ref lf)] _ _ S13 f13 (by show 3 ≤ 3;decide) rfl
  ·refine hu2 _ _ _ ⟨_,rfl,?_⟩
   exact fin [none,none,none,none,none,some (.ref lf)] _ _ T10 f10 (by show 2 ≤ 3;decide) rfl
 ·refine hu2 _ _ _ ⟨_,rfl,?_⟩
  exact fin [none,none,none,none,none,some (.ref lf)] _ _ T10 f10 (by show 2 ≤ 3;decide) rfl
open Mt53 Mt22 MtF Mt31 Mt61 Mt51
theorem iY {H:Hp}:∀ {ds:List Dv} {vs:List V} {es:List Dv} {us:List V},IsL H ds vs → IsL H es us → IsL H (ds ++ es) (vs ++ us)
 | [],_,_,_,h,k=>by
  cases (show _ = [] from h)
  exact k
 | d :: ds,_,_,_,⟨v,r,e,h,t⟩,k=>by
  subst e
  exact ⟨v,_,rfl,h,iY t k⟩
theorem yL {H:Hp} {ds:List Dv} {vs:List V} (h:IsL H ds vs) {i:Int} (h0:0 ≤ i) (h1:i < ds.length):∃ d v,d ∈ ds ∧ atI vs i = some v ∧ Is H d v:=by
 obtain ⟨k,rfl⟩:=Int.eq_ofNat_of_zero_le h0
 obtain ⟨d,ed⟩:∃ d,ds[k]? = some d:=⟨_,List.getElem?_eq_getElem (by omega)⟩
 obtain ⟨v,ev,iv⟩:=h.get ed
 exact ⟨d,v,List.mem_of_getElem? ed,aQ ev,iv⟩
theorem aMC {k:Int} (h:k.natAbs < 2 ^ 64):k.natAbs.log2 < 1920:=by
 by_cases h0:k.natAbs = 0
 ·rw [h0];decide
 ·rw [Nat.log2_lt h0]
  exact Nat.lt_of_lt_of_le h (Nat.pow_le_pow_right (by decide) (by decide))
def aLZ (n:Str) (k:Int):List Dv:=[.tup [.str n,.int 0],.tup [.str n,.bl true],.tup [.str n,.str (Str.ofString (toString k))],.tup [.str n,.int (0 - k)],.tup [.str n,.int (k + 1)],.tup [.str n,.int (k - 1)],.tup [.str n],.tup [.str n,.int k,.int k],.lst [.str n,.int k],.tup [.str "s",.int k],.tup [.str "sea",.int k],.tup [.non,.int k],.str n,.non,.tup [.str n,.int (k * 10 ^ (13:Int).toNat)],.tup [.lst [.str n],.int k]]
theorem aER (n:Str) (k:Int):∀ d ∈ aLZ n k,aO 20 d = true:=by
 intro d m
 unfold aLZ at m
 simp only [List.mem_cons,List.not_mem_nil,or_false] at m
 rcases m with rfl | rfl | rfl | rfl | rfl | rfl | rfl | rfl | rfl | rfl | rfl | rfl | rfl | rfl | rfl | rfl <;> rfl
theorem kD {H:Hp} {t:Addr} {a b:Dv} {x y:V} (h:H t = some (.tup [x,y])) (ha:Is H a x) (hb:Is H b y):Is H (.tup [a,b]) (.ref t):=⟨t,_,rfl,h,_,_,rfl,ha,_,_,rfl,hb,rfl⟩
def aGB:Sp:=sp2 fun x y H Q=>∃ (t:Addr) (n:Str) (k c:Int),x = .ref t ∧ H t = some (.tup [.str n,.int k]) ∧ k.natAbs < 2 ^ 62 ∧ y = .int c ∧ ∀ (v:V) (d:Dv) (H':Hp),aK H H' → Is H' d v → aO 20 d = true → Q v H'
theorem vG (T:Txt K mg C):Fc P w K mg base 1 "_law_odd_step" ["_law_step","_law_cell"] aGB:=by
 refine T.d_l_odd_step.fc fI iX (fun f cdv A outer s H vs Q E hr h=>?_)
 obtain ⟨x,y,rfl,t,n,k,c,rfl,ot,kb,rfl,q⟩:=h
 have big:=cB
 have hu:=gR hr
 refine ⟨_,(@aG _ _ _ _ _ (@aLR _ _ _ _ _ _ (pv 0) (@lI _ (K) _ _ _ _ _ rfl 2 rfl (@jZ _ _ _ _ _ _ rfl (@aW _ _ _ _ _ (@aM _ _ (2) _ fI.nd rfl (Or.inl rfl) (by trivial)) (@aW _ _ _ _ _ (@aM _ _ (3) _ fI.nd rfl (Or.inl rfl) (by trivial)) eY (by rfl)) (by rfl)) (by rfl) (by rfl))) (by rfl) (by rfl) (by rfl)) (@aG _ _ _ _ _ (@aU _ _ (4) _ _ _ _ fI.nd rfl (Or.inl rfl) (@bM _ _ _ _ (@aA _ _ _ _ _ (@cA _ _ _ _ _ (@aA _ _ _ _ _ (pv 2) (@aA _ _ _ _ _ aD aE (by rfl)) (by rfl))) (@aA _ _ _ _ _ (@cA _ _ _ _ _ (@aA _ _ _ _ _ (pv 2) (@aA _ _ _ _ _ jO aE (by rfl)) (by rfl))) (@aA _ _ _ _ _ (@cA _ _ _ _ _ (@aA _ _ _ _ _ (pv 2) (@aA _ _ _ _ _ (@cI _ _ _ _ _ _ _ _ _ yY rfl T.n_str oQ (@aA _ _ _ _ _ (pv 3) aE (by rfl)) (by decide) (by decide) (by rfl) (by rfl)) aE (by rfl)) (by rfl))) (@aA _ _ _ _ _ (@cA _ _ _ _ _ (@aA _ _ _ _ _ (pv 2) (@aA _ _ _ _ _ (@aI _ _ _ _ _ _ _ _ dU aD (pv 3)) aE (by rfl)) (by rfl))) (@aA _ _ _ _ _ (@cA _ _ _ _ _ (@aA _ _ _ _ _ (pv 2) (@aA _ _ _ _ _ (@aI _ _ _ _ _ _ _ _ cF (pv 3) aD) aE (by rfl)) (by rfl))) (@aA _ _ _ _ _ (@cA _ _ _ _ _ (@aA _ _ _ _ _ (pv 2) (@aA _ _ _ _ _ (@aI _ _ _ _ _ _ _ _ dU (pv 3) aD) aE (by rfl)) (by rfl))) aE (by rfl)) (by rfl)) (by rfl)) (by rfl)) (by rfl)) (by rfl))) (by rfl) (by trivial)) (@aG _ _ _ _ _ (@aU _ _ (4) _ _ _ _ fI.nd rfl (Or.inl rfl) (@aI _ _ _ _ _ _ _ _ eR (pv 4) (@bM _ _ _ _ (@aA _ _ _ _ _ (@cA _ _ _ _ _ (@aA _ _ _ _ _ (pv 2) aE (by rfl))) (@aA _ _ _ _ _ (@cA _ _ _ _ _ (@aA _ _ _ _ _ (pv 2) (@aA _ _ _ _ _ (pv 3) (@aA _ _ _ _ _ (pv 3) aE (by rfl)) (by rfl)) (by rfl))) (@aA _ _ _ _ _ (@bM _ _ _ _ (@aA _ _ _ _ _ (pv 2) (@aA _ _ _ _ _ (pv 3) aE (by rfl)) (by rfl))) (@aA _ _ _ _ _ (@cA _ _ _ _ _ (@aA _ _ _ _ _ jN (@aA _ _ _ _ _ (pv 3) aE (by rfl)) (by rfl))) (@aA _ _ _ _ _ (@cA _ _ _ _ _ (@aA _ _ _ _ _ jN (@aA _ _ _ _ _ (pv 3) aE (by rfl)) (by rfl))) (@aA _ _ _ _ _ (@cA _ _ _ _ _ (@aA _ _ _ _ _ gZ (@aA _ _ _ _ _ (pv 3) aE (by rfl)) (by rfl))) aE (by rfl)) (by rfl)) (by rfl)) (by rfl)) (by rfl)) (by rfl)))) (by rfl) (by trivial)) (@aH _ _ _ (@aS _ _ _ _ (@aZ _ _ _ _ _ _ _ (@bL _ (K) rfl) (@aI _ _ _ _ _ _ _ _ eR (pv 4) (@bM _ _ _ _ (@aA _ _ _ _ _ (pv 2) (@aA _ _ _ _ _ gZ (@aA _ _ _ _ _ (@cA _ _ _ _ _ (@aA _ _ _ _ _ (pv 2) (@aA _ _ _ _ _ (@aI _ _ _ _ _ _ _ _ lK (pv 3) (@aI _ _ _ _ _ _ _ _ dE aD aD)) aE (by rfl)) (by rfl))) (@aA _ _ _ _ _ (@cA _ _ _ _ _ (@aA _ _ _ _ _ (@bM _ _ _ _ (@aA _ _ _ _ _ (pv 2) aE (by rfl))) (@aA _ _ _ _ _ (pv 3) aE (by rfl)) (by rfl))) aE (by rfl)) (by rfl)) (by rfl)) (by rfl)))) (@aI _ _ _ _ _ _ _ _ bN (pv 1) aD) (fun _ _=>rfl))))))),?_⟩
 refine mK fun u1 hu1=>?_
 refine ⟨_,rfl,t,_,rfl,SqT.of ot,rfl,_,_,rfl,_,_,rfl,rfl,?_⟩
 refine nxσ (σ':=[some (.ref t),some (.int c),some (.str n),some (.int k),none]) rfl ?_
 refine ⟨_,rfl,aL rfl,fun t1 h1=>?_⟩
 have A1:=aK.upd (o:=.tup [.str n,.int 0]) h1
 refine ⟨_,rfl,aL rfl,fun t2 h2=>?_⟩
 have A2:=aK.upd (o:=.tup [.str n,.bl true]) h2
 refine ⟨_,rfl,_,rfl,k,rfl,aMC (by omega),aL rfl,fun t3 h3=>?_⟩
 have A3:=aK.upd (o:=.tup [.str n,.str (Str.ofString (toString k))]) h3
 refine ⟨_,rfl,_,rfl,_,_,rfl,rfl,aL rfl,fun t4 h4=>?_⟩
 have A4:=aK.upd (o:=.tup [.str n,.int (0 - k)]) h4
 refine ⟨_,rfl,_,rfl,_,_,rfl,rfl,aL rfl,fun t5 h5=>?_⟩
 have A5:=aK.upd (o:=.tup [.str n,.int (k + 1)]) h5
 refine ⟨_,rfl,_,rfl,_,_,rfl,rfl,aL rfl,fun t6 h6=>?_⟩
 have A6:=aK.upd (o:=.tup [.str n,.int (k - 1)]) h6
 refine ⟨aL rfl,fun l1 g1=>?_⟩
 have B1:=aK.upd (o:=.lst [.ref t1,.ref t2,.ref t3,.ref t4,.ref t5,.ref t6]) g1
 have AA:=A1.trans (A2.trans (A3.trans (A4.trans (A5.trans (A6.trans B1)))))
 have i1:IsL (upd (upd (upd (upd (upd (upd (upd H t1 (.tup [.str n,.int 0])) t2 (.tup [.str n,.bl true])) t3 (.tup [.str n,.str (Str.ofString (toString k))])) t4 (.tup [.str n,.int (0 - k)])) t5 (.tup [.str n,.int (k + 1)])) t6 (.tup [.str n,.int (k - 1)])) l1 (.lst [.ref t1,.ref t2,.ref t3,.ref t4,.ref t5,.ref t6])) [.tup [.str n,.int 0],.tup [.str n,.bl true],.tup [.str n,.str (Str.ofString (toString k))],.tup [.str n,.int (0 - k)],.tup [.str n,.int (k + 1)],.tup [.str n,.int (k - 1)]] [.ref t1,.ref t2,.ref t3,.ref t4,.ref t5,.ref t6] :=
  ⟨_,_,rfl,kD ((A2.trans (A3.trans (A4.trans (A5.trans (A6.trans B1))))) _ _ aB) rfl rfl,_,_,rfl,kD ((A3.trans (A4.trans (A5.trans (A6.trans B1)))) _ _ aB) rfl rfl,_,_,rfl,kD ((A4.trans (A5.trans (A6.trans B1))) _ _ aB) rfl rfl,_,_,rfl,kD ((A5.trans (A6.trans B1)) _ _ aB) rfl rfl,_,_,rfl,kD ((A6.trans B1) _ _ aB) rfl rfl,_,_,rfl,kD (B1 _ _ aB) rfl rfl,rfl⟩
 have e1:upd (upd (upd (upd (upd (upd (upd H t1 (.tup [.str n,.int 0])) t2 (.tup [.str n,.bl true])) t3 (.tup [.str n,.str (Str.ofString (toString k))])) t4 (.tup [.str n,.int (0 - k)])) t5 (.tup [.str n,.int (k + 1)])) t6 (.tup [.str n,.int (k - 1)])) l1 (.lst [.ref t1,.ref t2,.ref t3,.ref t4,.ref t5,.ref t6]) l1 = some (.lst [.ref t1,.ref t2,.ref t3,.ref t4,.ref t5,.ref t6]):=aB
 generalize upd (upd (upd (upd (upd (upd (upd H t1 (.tup [.str n,.int 0])) t2 (.tup [.str n,.bl true])) t3 (.tup [.str n,.str (Str.ofString (toString k))])) t4 (.tup [.str n,.int (0 - k)])) t5 (.tup [.str n,.int (k + 1)])) t6 (.tup [.str n,.int (k - 1)])) l1 (.lst [.ref t1,.ref t2,.ref t3,.ref t4,.ref t5,.ref t6]) = H1 at AA i1 e1 ⊢
 clear A1 A2 A3 A4 A5 A6 B1 h1 h2 h3 h4 h5 h6 g1
 refine gσ (σ':=[some (.ref t),some (.int c),some (.str n),some (.int k),some (.ref l1)]) rfl ?_
 refine hu1 _ _ _ ?_
 refine cG fun u2 hu2=>?_
 refine ⟨_,rfl,_,rfl,aL rfl,fun s1 h1=>?_⟩
 have A1:=aK.upd (o:=.tup [.str n]) h1
 refine ⟨_,rfl,_,rfl,_,rfl,aL rfl,fun s2 h2=>?_⟩
 have A2:=aK.upd (o:=.tup [.str n,.int k,.int k]) h2
 refine ⟨_,rfl,_,rfl,aL rfl,fun s3 h3=>?_⟩
 have A3:=aK.upd (o:=.lst [.str n,.int k]) h3
 refine ⟨_,rfl,aL rfl,fun s4 h4=>?_⟩
 have A4:=aK.upd (o:=.tup [.str "s",.int k]) h4
 refine ⟨_,rfl,aL rfl,fun s5 h5=>?_⟩
 have A5:=aK.upd (o:=.tup [.str "sea",.int k]) h5
 refine ⟨_,rfl,aL rfl,fun s6 h6=>?_⟩
 have A6:=aK.upd (o:=.tup [.non,.int k]) h6
 refine ⟨aL rfl,fun l2 g2=>?_⟩
 have B1:=aK.upd (o:=.lst [.ref s1,.ref s2,.ref s3,.ref s4,.ref s5,.ref s6]) g2
 refine ⟨l1,l2,_,_,rfl,rfl,(A1.trans (A2.trans (A3.trans (A4.trans (A5.trans (A6.trans B1)))))) _ _ e1,aB,by show 6 + 6 ≤ _;omega,fun l3 g3=>?_⟩
 have B2:=aK.upd (o:=.lst ([.ref t1,.ref t2,.ref t3,.ref t4,.ref t5,.ref t6] ++ [.ref s1,.ref s2,.ref s3,.ref s4,.ref s5,.ref s6])) g3
 have C6:=B1.trans B2
 have C5:=A6.trans C6
 have C4:=A5.trans C5
 have C3:=A4.trans C4
 have C2:=A3.trans C3
 have C1:=A2.trans C2
 have CC:=A1.trans C1
 have e2:=aB (H:=upd (upd (upd (upd (upd (upd (upd H1 s1 (.tup [.str n])) s2 (.tup [.str n,.int k,.int k])) s3 (.lst [.str n,.int k])) s4 (.tup [.str "s",.int k])) s5 (.tup [.str "sea",.int k])) s6 (.tup [.non,.int k])) l2 (.lst [.ref s1,.ref s2,.ref s3,.ref s4,.ref s5,.ref s6])) (a:=l3) (o:=.lst ([.ref t1,.ref t2,.ref t3,.ref t4,.ref t5,.ref t6] ++ [.ref s1,.ref s2,.ref s3,.ref s4,.ref s5,.ref s6]))
 have i2:IsL (upd (upd (upd (upd (upd (upd (upd (upd H1 s1 (.tup [.str n])) s2 (.tup [.str n,.int k,.int k])) s3 (.lst [.str n,.int k])) s4 (.tup [.str "s",.int k])) s5 (.tup [.str "sea",.int k])) s6 (.tup [.non,.int k])) l2 (.lst [.ref s1,.ref s2,.ref s3,.ref s4,.ref s5,.ref s6])) l3 (.lst ([.ref t1,.ref t2,.ref t3,.ref t4,.ref t5,.ref t6] ++ [.ref s1,.ref s2,.ref s3,.ref s4,.ref s5,.ref s6]))) [.tup [.str n],.tup [.str n,.int k,.int k],.lst [.str n,.int k],.tup [.str "s",.int k],.tup [.str "sea",.int k],.tup [.non,.int k]] [.ref s1,.ref s2,.ref s3,.ref s4,.ref s5,.ref s6] :=
  ⟨_,_,rfl,⟨s1,_,rfl,C1 _ _ aB,_,_,rfl,rfl,rfl⟩,_,_,rfl,⟨s2,_,rfl,C2 _ _ aB,_,_,rfl,rfl,_,_,rfl,rfl,_,_,rfl,rfl,rfl⟩,_,_,rfl,⟨s3,_,rfl,C3 _ _ aB,_,_,rfl,rfl,_,_,rfl,rfl,rfl⟩,_,_,rfl,kD (C4 _ _ aB) rfl rfl,_,_,rfl,kD (C5 _ _ aB) rfl rfl,_,_,rfl,kD (C6 _ _ aB) rfl rfl,rfl⟩
 generalize upd (upd (upd (upd (upd (upd (upd (upd H1 s1 (.tup [.str n])) s2 (.tup [.str n,.int k,.int k])) s3 (.lst [.str n,.int k])) s4 (.tup [.str "s",.int k])) s5 (.tup [.str "sea",.int k])) s6 (.tup [.non,.int k])) l2 (.lst [.ref s1,.ref s2,.ref s3,.ref s4,.ref s5,.ref s6])) l3 (.lst ([.ref t1,.ref t2,.ref t3,.ref t4,.ref t5,.ref t6] ++ [.ref s1,.ref s2,.ref s3,.ref s4,.ref s5,.ref s6])) = H2 at CC e2 i2 ⊢
 have T2:=AA.trans CC
 have i12:=iY (IsL.same CC _ _ i1) i2
 clear A1 A2 A3 A4 A5 A6 B1 B2 C1 C2 C3 C4 C5 C6 h1 h2 h3 h4 h5 h6 g2 g3 i1 i2 e1
 generalize ([.ref t1,.ref t2,.ref t3,.ref t4,.ref t5,.ref t6] ++ [.ref s1,.ref s2,.ref s3,.ref s4,.ref s5,.ref s6]:List V) = us at e2 i12
 have lus:=cW i12
 refine gσ (σ':=[some (.ref t),some (.int c),some (.str n),some (.int k),some (.ref l3)]) rfl ?_
 refine hu2 _ _ _ ?_
 refine ⟨_,rfl,_,rfl,_,rfl,_,rfl,_,_,rfl,rfl,⟨by decide,by decide,by decide⟩,_,_,rfl,rfl,.inl (by omega),aL rfl,fun w1 h1=>?_⟩
 have A1:=aK.upd (o:=.tup [.str n,.int (k * 10 ^ (13:Int).toNat)]) h1
 refine ⟨_,rfl,aL rfl,fun w2 h2=>?_⟩
 have A2:=aK.upd (o:=.lst [.str n]) h2
 refine ⟨_,rfl,aL rfl,fun w3 h3=>?_⟩
 have A3:=aK.upd (o:=.tup [.ref w2,.int k]) h3
 refine ⟨aL rfl,fun l4 g4=>?_⟩
 have A4:=aK.upd (o:=.lst [.str n,.non,.ref w1,.ref w3]) g4
 have D3:=A3.trans A4
 have D2:=A2.trans D3
 have DD:=A1.trans D2
 refine ⟨l3,l4,_,_,rfl,rfl,DD _ _ e2,aB,by rw [← lus];show 12 + 4 ≤ _;omega,fun l5 g5=>?_⟩
 have A5:=aK.upd (o:=.lst (us ++ [.str n,.non,.ref w1,.ref w3])) g5
 have i3:IsL (upd (upd (upd (upd (upd H2 w1 (.tup [.str n,.int (k * 10 ^ (13:Int).toNat)])) w2 (.lst [.str n])) w3 (.tup [.ref w2,.int k])) l4 (.lst [.str n,.non,.ref w1,.ref w3])) l5 (.lst (us ++ [.str n,.non,.ref w1,.ref w3]))) [.str n,.non,.tup [.str n,.int (k * 10 ^ (13:Int).toNat)],.tup [.lst [.str n],.int k]] [.str n,.non,.ref w1,.ref w3] :=
  ⟨_,_,rfl,rfl,_,_,rfl,rfl,_,_,rfl,kD ((D2.trans A5) _ _ aB) rfl rfl,_,_,rfl,kD ((A4.trans A5) _ _ aB) ⟨w2,_,rfl,(D3.trans A5) _ _ aB,_,_,rfl,rfl,rfl⟩ rfl,rfl⟩
 have iall:IsL (upd (upd (upd (upd (upd H2 w1 (.tup [.str n,.int (k * 10 ^ (13:Int).toNat)])) w2 (.lst [.str n])) w3 (.tup [.ref w2,.int k])) l4 (.lst [.str n,.non,.ref w1,.ref w3])) l5 (.lst (us ++ [.str n,.non,.ref w1,.ref w3]))) (aLZ n k) (us ++ [.str n,.non,.ref w1,.ref w3]):=iY (IsL.same (DD.trans A5) _ _ i12) i3
 obtain ⟨d,v,md,ev,iv⟩:=yL iall (i:=c % 16) (Int.emod_nonneg _ (by decide)) (Int.emod_lt_of_pos _ (by decide))
 exact ⟨_,rfl,_,_,rfl,rfl,dY rfl,l5,_,_,v,rfl,rfl,SqL.of aB,ev,q v d _ (T2.trans (DD.trans A5)) iv (aER n k d md)⟩
open Mt53 Mt22 MtF Mt31 Mt61 Mt51
theorem nK {H:Hp}:∀ (k:Nat) {ds:List Dv} {vs:List V},IsL H ds vs → IsL H (ds.drop k) (vs.drop k)
 | 0,_,_,h=>h
 | k + 1,[],_,h=>by
  cases (show _ = [] from h)
  rfl
 | k + 1,d :: ds,_,⟨v,r,e,h,t⟩=>by
  subst e
  exact nK k t
theorem kS {H:Hp}:∀ (k:Nat) {ds:List Dv} {vs:List V},IsL H ds vs → IsL H (ds.take k) (vs.take k)
 | 0,_,_,h=>rfl
 | k + 1,[],_,h=>by
  cases (show _ = [] from h)
  rfl
 | k + 1,d :: ds,_,⟨v,r,e,h,t⟩=>by
  subst e
  exact ⟨v,_,rfl,h,kS k t⟩
theorem lB (xs:List V) (k:Nat):iK xs none (some (k:Int)) = xs.take k:=by
 unfold iK
 rw [HT.sIx_nat,HT.sIx_none,List.drop_zero,Nat.sub_zero]
 by_cases h:k ≤ xs.length
 ·rw [Nat.min_eq_left h]
 ·rw [Nat.min_eq_right (by omega),List.take_of_length_le (Nat.le_refl _),List.take_of_length_le (by omega)]
theorem aKI {d:Dv} (h:aO 20 d = true):aO 29 d = true:=dH _ _ (dH _ _ (dH _ _ (dH _ _ (dH _ _ (dH _ _ (dH _ _ (dH _ _ (dH _ _ h))))))))
def wok (d:Dv):Prop:=wG d ∧ aHG d
theorem hU {es:List Dv} (l:es.length ≤ 1000) (h:∀ e ∈ es,aO 29 e = true):wok (.lst es):=⟨fun es' e=>by cases e;exact l,.inl (kY h)⟩
theorem mH {d:Dv} (n:aLE d = false) (h:aHG d):wok d:=⟨(fun es' e=>by rw [e] at n;cases n),h⟩
def aCW (C:Addr):Sp:=sp3 fun x y z H Q=>∃ (p l:Addr) (us:List V) (fs ds:List Dv) (rs:List (Str × Int)) (c:Int),x = .ref p ∧ LandAt C H p fs ds ∧ y = .ref l ∧ H l = some (.lst us) ∧ IsL H (rs.map bO) us ∧ rs.length ≤ 40 ∧ (rs.map (·.1)).Nodup ∧ (∀ r ∈ rs,r.2.natAbs < 2 ^ 62) ∧ z = .int c ∧ ∀ (v:V) (d:Dv) (H':Hp),aK H H' → Is H' d v → wok d → Q v H'
theorem aMP {H:Hp} {a:Addr} {rs:List (Str × Int)} (h:H a = some (.dK (rs.map fun r=>(Sum.inr r.1,V.int r.2)))):Is H (.dct (rs.map fun r=>Sum.inr r.1) ((rs.map (·.2)).map Dv.int)) (.ref a):=by
 refine ⟨a,(rs.map (·.2)).map V.int,rfl,?_,by rw [List.length_map,List.length_map,List.length_map],?_⟩
 ·rw [h,List.map_map]
  congr 2
  rw [List.zip_map,List.zip_eq_zipWith,List.zipWith_self,List.map_map]
  rfl
 ·generalize rs.map (·.2) = js
  induction js with
  | nil=>rfl
  | cons j js ih=>exact ⟨_,_,rfl,rfl,ih⟩
theorem aCA (T:Txt K mg C):Fc P w K mg base 2 "_law_wrong" ["_law_land_here","_law_stream_here","_law_cell"] (aCW C):=by
 have G_l_odd_step:Fc P w K mg base 1 "_law_odd_step" ["_law_step","_law_cell"] aGB:=vG T
 have G_land_p_dyke_names:Mc P w K mg base 1 C "dyke_names" ["self"] (iL C fun _ ds=>ds.map aJ):=dN T
 refine T.d_l_wrong.fc oX vK (fun f cdv A outer s H vs Q E hr h=>?_)
 obtain ⟨x,y,z,rfl,p,l,us,fs,ds,rs,c,rfl,L,rfl,hl,ius,lrs,nd,kb,rfl,q⟩:=h
 have big:=cB
 have hu:=gR hr
 have gd:=(bV L).2
 have d1:=gd.l1
 have lus:=cW ius
 rw [List.length_map] at lus
 have rfl29:∀ e ∈ rs.map bO,aO 29 e = true:=fun e m=>by
  obtain ⟨r,_,rfl⟩:=List.mem_map.mp m
  rfl
 refine ⟨_,(@aG _ _ _ _ _ (@cL _ _ _ _ _ _ _ _ (@bA _ _ _ _ _ _ _ _ (@tN _ hr.units) (pv 1) (@bM _ _ _ _ aE) (@bG _ _ (by decide) (by decide))) (@aH _ _ _ (@aS _ _ _ _ (@aZ _ _ _ _ _ _ _ (@bL _ (K) rfl) (@bM _ _ _ _ (@aA _ _ _ _ _ gZ (@aA _ _ _ _ _ (@cA _ _ _ _ _ aE) (@aA _ _ _ _ _ jN (@aA _ _ _ _ _ aD (@aA _ _ _ _ _ (@bM _ _ _ _ (@aA _ _ _ _ _ gZ aE (by rfl))) (@aA _ _ _ _ _ (@bM _ _ _ _ (@aA _ _ _ _ _ (@cA _ _ _ _ _ (@aA _ _ _ _ _ jN (@aA _ _ _ _ _ aD aE (by rfl)) (by rfl))) aE (by rfl))) (@aA _ _ _ _ _ (@bM _ _ _ _ (@aA _ _ _ _ _ (@cA _ _ _ _ _ (@aA _ _ _ _ _ (@aZ _ _ _ _ _ _ _ (@bL _ (K) rfl) (@kR _ _ _ _ _ _ _ _ _ _ _ T.cl_Land G_land_p_dyke_names (hr.mono (by decide)) (pv 0) (by rfl)) aD (fun _ _=>rfl)) (@aA _ _ _ _ _ aD aE (by rfl)) (by rfl))) aE (by rfl))) aE (by rfl)) (by rfl)) (by rfl)) (by rfl)) (by rfl)) (by rfl)) (by rfl))) (@aI _ _ _ _ _ _ _ _ bN (pv 2) aD) (fun _ _=>rfl)))) bI) (@aG _ _ _ _ _ (@aU _ _ (3) _ _ _ _ oX.nd rfl (Or.inl rfl) (@aI _ _ _ _ _ _ _ _ bN (@aI _ _ _ _ _ _ _ _ aX (pv 2) aD) (@aT _ _ _ _ _ _ _ _ _ (@aY _ (K) rfl) rfl T.n_len bS (@aA _ _ _ _ _ (pv 1) aE (by rfl)) (by decide) (by decide) (by rfl) (by rfl))) (by rfl) (by trivial)) (@aG _ _ _ _ _ (@aU _ _ (4) _ _ _ _ oX.nd rfl (Or.inl rfl) (@aI _ _ _ _ _ _ _ _ bN (pv 2) aD) (by rfl) (by trivial)) (@aG _ _ _ _ _ (@cL _ _ _ _ _ _ _ _ (@bA _ _ _ _ _ _ _ _ iR (pv 4) aD (@bG _ _ (by decide) (by decide))) (@aH _ _ _ (@aS _ _ _ _ (@aZ _ _ _ _ _ _ _ (@bL _ (K) rfl) (@bM _ _ _ _ (@aA _ _ _ _ _ (@cI _ _ _ _ _ _ _ _ _ vN rfl T.n_tuple nR (@aA _ _ _ _ _ (pv 1) aE (by rfl)) (by decide) (by decide) (by rfl) (by rfl)) (@aA _ _ _ _ _ gZ (@aA _ _ _ _ _ (@cI _ _ _ _ _ _ _ _ _ (@dA _ rfl) rfl T.n_dict fY (@aA _ _ _ _ _ (pv 1) aE (by rfl)) (by decide) (by decide) (by rfl) (by rfl)) (@aA _ _ _ _ _ (@aZ _ _ _ _ _ _ _ (@bL _ (K) rfl) (pv 1) aD (fun _ _=>rfl)) (@aA _ _ _ _ _ (@bM _ _ _ _ (@aA _ _ _ _ _ (pv 1) aE (by rfl))) aE (by rfl)) (by rfl)) (by rfl)) (by rfl)) (by rfl))) (@aI _ _ _ _ _ _ _ _ bN (@aI _ _ _ _ _ _ _ _ aX (pv 2) aD) aD) (fun _ _=>rfl)))) bI) (@aG _ _ _ _ _ (@cL _ _ _ _ _ _ _ _ (@bA _ _ _ _ _ _ _ _ iR (pv 4) aD (@bG _ _ (by decide) (by decide))) (@aH _ _ _ (@aS _ _ _ _ (@aI _ _ _ _ _ _ _ _ eR (@fV _ _ _ _ _ _ _ _ _ _ (@fE _ (K) rfl) (pv 1) iU (@gP _ _ _ (pv 3))) (@fV _ _ _ _ _ _ _ _ _ _ (@fE _ (K) rfl) (pv 1) (@gP _ _ _ (@aI _ _ _ _ _ _ _ _ cF (pv 3) aD)) iU)))) bI) (@aG _ _ _ _ _ (@cL _ _ _ _ _ _ _ _ (@bA _ _ _ _ _ _ _ _ iR (pv 4) aD (@bG _ _ (by decide) (by decide))) (@aH _ _ _ (@aS _ _ _ _ (@aI _ _ _ _ _ _ _ _ eR (@aI _ _ _ _ _ _ _ _ eR (@fV _ _ _ _ _ _ _ _ _ _ (@fE _ (K) rfl) (pv 1) iU (@gP _ _ _ (pv 3))) (@bM _ _ _ _ (@aA _ _ _ _ _ (@aZ _ _ _ _ _ _ _ (@bL _ (K) rfl) (pv 1) (pv 3) (fun _ _=>rfl)) (@aA _ _ _ _ _ (@aZ _ _ _ _ _ _ _ (@bL _ (K) rfl) (pv 1) (pv 3) (fun _ _=>rfl)) aE (by rfl)) (by rfl)))) (@fV _ _ _ _ _ _ _ _ _ _ (@fE _ (K) rfl) (pv 1) (@gP _ _ _ (@aI _ _ _ _ _ _ _ _ cF (pv 3) aD)) iU)))) bI) (@aG _ _ _ _ _ (@cL _ _ _ _ _ _ _ _ (@PW.pt _ _ _ (@jM _ _ _ _ _ _ _ (@bA _ _ _ _ _ _ _ _ iR (pv 4) aD (@bG _ _ (by decide) (by decide))) (@lH _ _ _ _ (@bA _ _ _ _ _ _ _ _ wA (@aT _ _ _ _ _ _ _ _ _ (@aY _ (K) rfl) rfl T.n_len bS (@aA _ _ _ _ _ (pv 1) aE (by rfl)) (by decide) (by decide) (by rfl) (by rfl)) aD (@bG _ _ (by decide) (by decide)))))) (@aH _ _ _ (@aS _ _ _ _ (@aI _ _ _ _ _ _ _ _ eR (@fV _ _ _ _ _ _ _ _ _ _ (@fE _ (K) rfl) (pv 1) (@gP _ _ _ aD) iU) (@fV _ _ _ _ _ _ _ _ _ _ (@fE _ (K) rfl) (pv 1) iU (@gP _ _ _ aD))))) bI) (@aH _ _ _ (@aS _ _ _ _ (@aI _ _ _ _ _ _ _ _ eR (@aI _ _ _ _ _ _ _ _ eR (@fV _ _ _ _ _ _ _ _ _ _ (@fE _ (K) rfl) (pv 1) iU (@gP _ _ _ (pv 3))) (@bM _ _ _ _ (@aA _ _ _ _ _ (@bU _ _ _ _ _ _ _ _ _ _ G_l_odd_step (hr.mono (by decide)) (@aA _ _ _ _ _ (@aZ _ _ _ _ _ _ _ (@bL _ (K) rfl) (pv 1) (pv 3) (fun _ _=>rfl)) (@aA _ _ _ _ _ (@aI _ _ _ _ _ _ _ _ aX (pv 2) aD) aE (by rfl)) (by rfl)) (by rfl) (by decide) (by rfl) (by rfl)) aE (by rfl)))) (@fV _ _ _ _ _ _ _ _ _ _ (@fE _ (K) rfl) (pv 1) (@gP _ _ _ (@aI _ _ _ _ _ _ _ _ cF (pv 3) aD)) iU))))))))))),?_⟩
 refine cG fun u1 hu1=>?_
 refine ⟨_,rfl,aL rfl,fun le hle=>?_⟩
 have A0:=aK.upd (o:=.lst []) hle
 refine ⟨.lst (rs.map bO),.lst [],⟨l,us,rfl,A0 _ _ hl,IsL.same A0 _ _ ius⟩,⟨le,[],rfl,aB,rfl⟩,kY rfl29,rfl,_,rfl,?_⟩
 rw [if_neg Bool.false_ne_true,yT]
 have L0:=L.same A0
 have hl0:=A0 _ _ hl
 have ius0:=IsL.same A0 _ _ ius
 generalize upd H le (.lst []) = H0 at A0 L0 hl0 ius0 ⊢
 by_cases hr0:rs = []
 ·subst hr0
  rw [show decide (List.map bO [] = []) = true from rfl]
  refine cP ?_
  refine ⟨aL rfl,fun t1 h1=>?_⟩
  have A1:=aK.upd (o:=.tup []) h1
  refine ⟨aL rfl,fun t2 h2=>?_⟩
  have A2:=aK.upd (o:=.lst [.non]) h2
  refine ⟨aL rfl,fun t3 h3=>?_⟩
  have A3:=aK.upd (o:=.tup [.str "s",.int 1]) h3
  refine ⟨aL rfl,fun t4 h4=>?_⟩
  have A4:=aK.upd (o:=.lst [.ref t3]) h4
  have B4:=A1.trans (A2.trans (A3.trans A4))
  have L4:=L0.same B4
  obtain ⟨dx,e1,e2,hx,_⟩:=L4.ex
  obtain ⟨d0,ed0⟩:∃ d0,(ds.map aJ)[0]? = some d0:=⟨_,List.getElem?_eq_getElem (by rw [List.length_map];omega)⟩
  refine ⟨_,rfl,p,dx,_,rfl,hx,dI _ _ (by decide +kernel) (by decide +kernel),_,rfl,p,fs,ds,rfl,L4,fun ln H5 S5 nln hln=>?_⟩
  have hln:H5 ln = some (.lst ((ds.map aJ).map V.str)):=hln
  refine ⟨ln,_,0,.str d0,rfl,rfl,SqL.of hln,aQ (j:=0) (by rw [List.getElem?_map,ed0];rfl),aL rfl,fun t6 h6=>?_⟩
  have A6:=aK.upd (o:=.tup [.str d0,.int 0]) h6
  refine ⟨aL rfl,fun t7 h7=>?_⟩
  have A7:=aK.upd (o:=.lst [.ref t6]) h7
  refine ⟨aL rfl,fun t8 h8=>?_⟩
  have A8:=aK.upd (o:=.lst [.non,.ref t1,.str "b",.int 5,.ref t2,.ref t4,.ref t7]) h8
  have C7:=A7.trans A8
  have C6:=A6.trans C7
  have C5:=S5.trans C6
  have C4:=A4.trans C5
  have C3:=A3.trans C4
  have C2:=A2.trans C3
  have CC:=A1.trans C2
  have iall:IsL (upd (upd (upd H5 t6 (.tup [.str d0,.int 0])) t7 (.lst [.ref t6])) t8 (.lst [.non,.ref t1,.str "b",.int 5,.ref t2,.ref t4,.ref t7])) [.non,.tup [],.str "b",.int 5,.lst [.non],.lst [.tup [.str "s",.int 1]],.lst [.tup [.str d0,.int 0]]] [.non,.ref t1,.str "b",.int 5,.ref t2,.ref t4,.ref t7] :=
   ⟨_,_,rfl,rfl,_,_,rfl,⟨t1,[],rfl,C2 _ _ aB,rfl⟩,_,_,rfl,rfl,_,_,rfl,rfl,_,_,rfl,⟨t2,_,rfl,C3 _ _ aB,_,_,rfl,rfl,rfl⟩,_,_,rfl,⟨t4,_,rfl,C5 _ _ aB,_,_,rfl,kD (C4 _ _ aB) rfl rfl,rfl⟩,_,_,rfl,⟨t7,_,rfl,A8 _ _ aB,_,_,rfl,kD (C7 _ _ aB) rfl rfl,rfl⟩,rfl⟩
  obtain ⟨d,v,md,ev,iv⟩:=yL iall (i:=c % 7) (Int.emod_nonneg _ (by decide)) (Int.emod_lt_of_pos _ (by decide))
  refine ⟨_,rfl,_,_,rfl,rfl,dY rfl,t8,_,_,v,rfl,rfl,SqL.of aB,ev,q v d _ (A0.trans CC) iv ?_⟩
  simp only [List.mem_cons,List.not_mem_nil,or_false] at md
  rcases md with rfl | rfl | rfl | rfl | rfl | rfl | rfl
  ·exact mH rfl (.inl rfl)
  ·exact mH rfl (.inl rfl)
  ·exact mH rfl (.inl rfl)
  ·exact mH rfl (.inl rfl)
  ·exact hU (by decide) (by decide)
  ·exact hU (by decide) (by decide)
  ·exact hU (by show 1 ≤ 1000;decide) (fun e m=>by rw [show e = _ from List.mem_singleton.mp m];rfl)
 rw [decide_eq_false (fun e=>hr0 (List.map_eq_nil_iff.mp e))]
 refine bR (hu1 _ _ _ ?_)
 have lr0:0 < rs.length:=List.length_pos_iff.mpr hr0
 have pus:(0:Int) < ((us.length:Nat):Int):=by omega
 obtain ⟨k,hk⟩:=Int.eq_ofNat_of_zero_le (Int.emod_nonneg (c / 20) (show ((us.length:Nat):Int) ≠ 0 by omega))
 have hk2:k < us.length:=by have:=Int.emod_lt_of_pos (c / 20) pus;omega
 obtain ⟨r,er⟩:∃ r,rs[k]? = some r:=⟨_,List.getElem?_eq_getElem (by omega)⟩
 obtain ⟨vk,evk,ivk⟩:=ius0.get (show (rs.map bO)[k]? = some (bO r) by rw [List.getElem?_map,er];rfl)
 refine mK fun u2 hu2=>?_
 refine ⟨_,rfl,_,_,rfl,rfl,⟨by decide,by decide⟩,_,rfl,l,us,rfl,.inl (SqL.of hl0),_,_,rfl,rfl,pus,?_⟩
 refine gσ (σ':=[some (.ref p),some (.ref l),some (.int c),some (.int k),none]) (by show [some (V.ref p),some (V.ref l),some (V.int c),some (V.int (c / 20 % ((us.length:Nat):Int))),none] = _;rw [hk]) ?_
 refine ⟨_,rfl,_,_,rfl,rfl,dY rfl,?_⟩
 refine gσ (σ':=[some (.ref p),some (.ref l),some (.int c),some (.int k),some (.int (c % 5))]) rfl ?_
 refine hu2 _ _ _ ?_
 refine cG fun u3 hu3=>?_
 refine ⟨_,rfl,rfl,_,rfl,dZ (fun _=>?_) (fun _=>?_)⟩
 ·obtain ⟨r0,er0⟩:∃ r0,rs[0]? = some r0:=⟨_,List.getElem?_eq_getElem lr0⟩
  obtain ⟨v0,ev0,iv0⟩:=ius0.get (show (rs.map bO)[0]? = some (bO r0) by rw [List.getElem?_map,er0];rfl)
  refine ⟨_,rfl,l,us,rfl,.inl ⟨SqL.of hl0,fun t1 h1=>?_⟩⟩
  have A1:=aK.upd (o:=.tup us) h1
  refine ⟨_,rfl,l,us,_,rfl,SqL.of (A1 _ _ hl0),oY (IsL.same A1 _ _ ius0),by rw [List.length_map];omega,?_,fun t2 h2=>?_⟩
  ·rw [List.map_map,show ((fun x:Key × V=>x.1) ∘ fun r:Str × Int=>((Sum.inr r.1:Key),V.int r.2)) = (Sum.inr:Str → Key) ∘ (fun r:Str × Int=>r.1) from rfl,← List.map_map,gA]
   exact nd
  have A2:=aK.upd (o:=.dK (rs.map fun r=>((Sum.inr r.1:Key),V.int r.2))) h2
  refine ⟨_,rfl,l,us,0,v0,rfl,rfl,SqL.of ((A1.trans A2) _ _ hl0),aQ (j:=0) ev0,?_⟩
  refine ⟨_,rfl,aL rfl,fun t3 h3=>?_⟩
  have A3:=aK.upd (o:=.lst [.ref l]) h3
  refine ⟨aL rfl,fun t4 h4=>?_⟩
  have A4:=aK.upd (o:=.lst [.ref t1,.non,.ref t2,v0,.ref t3]) h4
  have C3:=A3.trans A4
  have C2:=A2.trans C3
  have CC:=A1.trans C2
  have iall:IsL (upd (upd (upd (upd H0 t1 (.tup us)) t2 (.dK (rs.map fun r=>((Sum.inr r.1:Key),V.int r.2)))) t3 (.lst [.ref l])) t4 (.lst [.ref t1,.non,.ref t2,v0,.ref t3])) [.tup (rs.map bO),.non,.dct (rs.map fun r=>Sum.inr r.1) ((rs.map (·.2)).map Dv.int),bO r0,.lst [.lst (rs.map bO)]] [.ref t1,.non,.ref t2,v0,.ref t3] :=
   ⟨_,_,rfl,⟨t1,us,rfl,C2 _ _ aB,IsL.same CC _ _ ius0⟩,_,_,rfl,rfl,_,_,rfl,aMP (C3 _ _ aB),_,_,rfl,Is.same CC _ _ iv0,_,_,rfl,⟨t3,_,rfl,A4 _ _ aB,_,_,rfl,⟨l,us,rfl,CC _ _ hl0,IsL.same CC _ _ ius0⟩,rfl⟩,rfl⟩
  obtain ⟨d,v,md,ev,iv⟩:=yL iall (i:=c / 5 % 5) (Int.emod_nonneg _ (by decide)) (Int.emod_lt_of_pos _ (by decide))
  refine ⟨_,rfl,_,_,rfl,rfl,⟨by decide,by decide⟩,_,_,rfl,rfl,dY rfl,t4,_,_,v,rfl,rfl,SqL.of aB,ev,q v d _ (A0.trans CC) iv ?_⟩
  simp only [List.mem_cons,List.not_mem_nil,or_false] at md
  have f29:bT 28 (rs.map bO) = true:=jS fun e m=>by
   obtain ⟨r,_,rfl⟩:=List.mem_map.mp m
   rfl
  rcases md with rfl | rfl | rfl | rfl | rfl
  ·exact mH rfl (.inl (show bT 29 (rs.map bO) = true from jS rfl29))
  ·exact mH rfl (.inl rfl)
  ·exact mH rfl (.inr ⟨_,_,rfl⟩)
  ·exact mH rfl (.inl rfl)
  ·exact hU (by show 1 ≤ 1000;decide) (fun e m=>by rw [show e = _ from List.mem_singleton.mp m];exact f29)
 refine hu3 _ _ _ ?_
 have ek1:(k:Int) + 1 = ((k + 1:Nat):Int):=by omega
 refine cG fun u4 hu4=>?_
 refine ⟨_,rfl,rfl,_,rfl,dZ (fun _=>?_) (fun _=>?_)⟩
 ·refine ⟨_,rfl,_,rfl,_,rfl,l,us,rfl,SqL.of hl0,fun t1 h1=>?_⟩
  rw [lB]
  have A1:=aK.upd (o:=.lst (us.take k)) h1
  refine ⟨_,rfl,_,rfl,_,_,rfl,rfl,_,rfl,l,us,rfl,SqL.of (A1 _ _ hl0),fun t2 h2=>?_⟩
  rw [show iK us (some ((k:Int) + 1)) none = us.drop (k + 1) by rw [ek1];exact qC us (k + 1)]
  have A2:=aK.upd (o:=.lst (us.drop (k + 1))) h2
  refine ⟨t1,t2,_,_,rfl,rfl,A2 _ _ aB,aB,by rw [List.length_take,List.length_drop];omega,fun t3 h3=>?_⟩
  have A3:=aK.upd (o:=.lst (us.take k ++ us.drop (k + 1))) h3
  have CC:=A1.trans (A2.trans A3)
  have ii:=IsL.same CC _ _ ius0
  refine q (.ref t3) (.lst ((rs.map bO).take k ++ (rs.map bO).drop (k + 1))) _ (A0.trans CC) ⟨t3,_,rfl,aB,iY (kS k ii) (nK (k + 1) ii)⟩ (hU ?_ fun e m=>?_)
  ·rw [List.length_append,List.length_take,List.length_drop,List.length_map]
   omega
  ·rcases List.mem_append.mp m with m | m
   ·exact rfl29 e (List.mem_of_mem_take m)
   ·exact rfl29 e (List.mem_of_mem_drop m)
 refine hu4 _ _ _ ?_
 have tk:∀ e ∈ (rs.map bO).take k,aO 29 e = true:=fun e m=>rfl29 e (List.mem_of_mem_take m)
 have dr:∀ e ∈ (rs.map bO).drop (k + 1),aO 29 e = true:=fun e m=>rfl29 e (List.mem_of_mem_drop m)
 refine cG fun u5 hu5=>?_
 refine ⟨_,rfl,rfl,_,rfl,dZ (fun _=>?_) (fun _=>?_)⟩
 ·refine ⟨_,rfl,_,rfl,_,rfl,l,us,rfl,SqL.of hl0,fun t1 h1=>?_⟩
  rw [lB]
  have A1:=aK.upd (o:=.lst (us.take k)) h1
  refine ⟨_,rfl,_,rfl,l,us,_,vk,rfl,rfl,SqL.of (A1 _ _ hl0),aQ evk,_,rfl,_,rfl,l,us,_,vk,rfl,rfl,SqL.of (A1 _ _ hl0),aQ evk,aL rfl,fun t2 h2=>?_⟩
  have A2:=aK.upd (o:=.lst [vk,vk]) h2
  refine ⟨t1,t2,_,_,rfl,rfl,A2 _ _ aB,aB,by rw [List.length_take];show _ + 2 ≤ _;omega,fun t3 h3=>?_⟩
  have A3:=aK.upd (o:=.lst (us.take k ++ [vk,vk])) h3
  have B3:=A1.trans (A2.trans A3)
  refine ⟨_,rfl,_,rfl,_,_,rfl,rfl,_,rfl,l,us,rfl,SqL.of (B3 _ _ hl0),fun t4 h4=>?_⟩
  rw [show iK us (some ((k:Int) + 1)) none = us.drop (k + 1) by rw [ek1];exact qC us (k + 1)]
  have A4:=aK.upd (o:=.lst (us.drop (k + 1))) h4
  refine ⟨t3,t4,_,_,rfl,rfl,A4 _ _ aB,aB,by rw [List.length_append,List.length_take,List.length_drop];show _ + 2 + _ ≤ _;omega,fun t5 h5=>?_⟩
  have A5:=aK.upd (o:=.lst (us.take k ++ [vk,vk] ++ us.drop (k + 1))) h5
  have CC:=B3.trans (A4.trans A5)
  have ii:=IsL.same CC _ _ ius0
  have iv:=Is.same CC _ _ ivk
  refine q (.ref t5) (.lst ((rs.map bO).take k ++ [bO r,bO r] ++ (rs.map bO).drop (k + 1))) _ (A0.trans CC) ⟨t5,_,rfl,aB,iY (iY (kS k ii) ⟨_,_,rfl,iv,_,_,rfl,iv,rfl⟩) (nK (k + 1) ii)⟩ (hU ?_ fun e m=>?_)
  ·rw [List.length_append,List.length_append,List.length_take,List.length_drop,List.length_map]
   show _ + 2 + _ ≤ _
   omega
  ·rcases List.mem_append.mp m with m | m
   ·rcases List.mem_append.mp m with m | m
    ·exact tk e m
    ·rw [show e = bO r by simpa using m]
     rfl
   ·exact dr e m
 refine hu5 _ _ _ ?_
 have last:aNC (tOp aLQ (tOp aLQ (tSl (aJL K) (xC 1) xD (aFR (xC 3))) (aNF (aCV (aFU aGB [] E0 (aCV (tOp (aLP K) (xC 1) (xC 3)) (aCV (tOp (rI (fun x j=>0 < j ∧ j.natAbs.log2 < 9000) fun i j=>V.int (i / j)) (xC 2) (tC (V.int 100))) aFS))) aFS))) (tSl (aJL K) (xC 1) (aFR (tOp (rI0 fun i j=>V.int (i + j)) (xC 3) (tC (V.int 1)))) xD)) { nx:=fun _ H'=>Q .non H',rt:=Q } [some (.ref p),some (.ref l),some (.int c),some (.int k),some (.int (c % 5))] H0:=by
  obtain ⟨tv,rfl,otv⟩:=qJ ivk
  refine ⟨_,rfl,_,rfl,_,rfl,l,us,rfl,SqL.of hl0,fun t1 h1=>?_⟩
  rw [lB]
  have A1:=aK.upd (o:=.lst (us.take k)) h1
  refine ⟨_,rfl,_,rfl,l,us,_,.ref tv,rfl,rfl,SqL.of (A1 _ _ hl0),aQ evk,_,rfl,_,_,rfl,rfl,⟨by decide,by decide⟩,_,_,rfl,tv,r.1,r.2,_,rfl,A1 _ _ otv,kb r (List.mem_of_getElem? er),rfl,fun vo dO H2 S2 iO fO=>?_⟩
  refine ⟨aL rfl,fun t2 h2=>?_⟩
  have A2:=aK.upd (o:=.lst [vo]) h2
  refine ⟨t1,t2,_,_,rfl,rfl,A2 _ _ (S2 _ _ aB),aB,by rw [List.length_take];show _ + 1 ≤ _;omega,fun t3 h3=>?_⟩
  have A3:=aK.upd (o:=.lst (us.take k ++ [vo])) h3
  have B3:=A1.trans (S2.trans (A2.trans A3))
  refine ⟨_,rfl,_,rfl,_,_,rfl,rfl,_,rfl,l,us,rfl,SqL.of (B3 _ _ hl0),fun t4 h4=>?_⟩
  rw [show iK us (some ((k:Int) + 1)) none = us.drop (k + 1) by rw [ek1];exact qC us (k + 1)]
  have A4:=aK.upd (o:=.lst (us.drop (k + 1))) h4
  refine ⟨t3,t4,_,_,rfl,rfl,A4 _ _ aB,aB,by rw [List.length_append,List.length_take,List.length_drop];show _ + 1 + _ ≤ _;omega,fun t5 h5=>?_⟩
  have A5:=aK.upd (o:=.lst (us.take k ++ [vo] ++ us.drop (k + 1))) h5
  have CC:=B3.trans (A4.trans A5)
  have ii:=IsL.same CC _ _ ius0
  have iv:=Is.same (A2.trans (A3.trans (A4.trans A5))) _ _ iO
  refine q (.ref t5) (.lst ((rs.map bO).take k ++ [dO] ++ (rs.map bO).drop (k + 1))) _ (A0.trans CC) ⟨t5,_,rfl,aB,iY (iY (kS k ii) ⟨_,_,rfl,iv,rfl⟩) (nK (k + 1) ii)⟩ (hU ?_ fun e m=>?_)
  ·rw [List.length_append,List.length_append,List.length_take,List.length_drop,List.length_map]
   show _ + 1 + _ ≤ _
   omega
  ·rcases List.mem_append.mp m with m | m
   ·rcases List.mem_append.mp m with m | m
    ·exact tk e m
    ·rw [show e = dO by simpa using m]
     exact aKI fO
   ·exact dr e m
 refine ⟨_,rfl,rfl,_,rfl,dZ (fun _=>?_) (fun _=>last)⟩
 refine ⟨_,rfl,l,us,rfl,.inl (SqL.of hl0),_,_,rfl,rfl,_,rfl,dZ (fun _=>?_) (fun _=>last)⟩
 refine ⟨_,rfl,_,rfl,l,us,rfl,SqL.of hl0,fun t1 h1=>?_⟩
 rw [show iK us (some 1) none = us.drop 1 from qC us 1]
 have A1:=aK.upd (o:=.lst (us.drop 1)) h1
 refine ⟨_,rfl,_,rfl,l,us,rfl,SqL.of (A1 _ _ hl0),fun t2 h2=>?_⟩
 rw [show iK us none (some 1) = us.take 1 from lB us 1]
 have A2:=aK.upd (o:=.lst (us.take 1)) h2
 refine ⟨t1,t2,_,_,rfl,rfl,A2 _ _ aB,aB,by rw [List.length_take,List.length_drop];omega,fun t3 h3=>?_⟩
 have A3:=aK.upd (o:=.lst (us.drop 1 ++ us.take 1)) h3
 have CC:=A1.trans (A2.trans A3)
 have ii:=IsL.same CC _ _ ius0
 refine q (.ref t3) (.lst ((rs.map bO).drop 1 ++ (rs.map bO).take 1)) _ (A0.trans CC) ⟨t3,_,rfl,aB,iY (nK 1 ii) (kS 1 ii)⟩ (hU ?_ fun e m=>?_)
 ·rw [List.length_append,List.length_take,List.length_drop,List.length_map]
  omega
 ·rcases List.mem_append.mp m with m | m
  ·exact rfl29 e (List.mem_of_mem_drop m)
  ·exact rfl29 e (List.mem_of_mem_take m)
open Mt53 Mt22 MtF Mt31 Mt61 Mt51
theorem aLY {f:Addr} {fd:FuncData} (T:Txt K mg C) (F:Fun K "law" "law" oF f fd):FnOk P w K mg base CX0 12 f fd ["_law_script"] (aDA K):=by
 have G_l_land:Fc P w K mg base 8 "_law_land" ["_law_script","_law_most","_law_many"] (aDB C K):=aEP T
 have G_l_wish:Fc P w K mg base 2 "_law_wish" ["_law_land_here","_law_number"] (aFX C K):=aEM T
 have G_l_level:Fc P w K mg base 1 "_law_level" ["_law_cell"] aCZ:=aCD T
 have G_l_gaps:Fc P w K mg base 2 "_law_gaps" ["_law_land_here","_law_height_here"] (aDC C):=aEQ T
 have G_l_road:Fc P w K mg base 1 "_law_road" ["_law_gaps_here","_law_wish_here"] aGA:=aEO T
 have G_l_stream:Fc P w K mg base 2 "_law_stream" ["_law_land_here","_law_road_here","_law_cell"] (zP C):=aAN T
 have G_l_told:Fc P w K mg base 6 "_law_told" ["_law_land_here","_law_wish_here","_law_height_here","_law_stream_here","_law_due"] (sP C):=aEN T
 have G_l_wrong:Fc P w K mg base 2 "_law_wrong" ["_law_land_here","_law_stream_here","_law_cell"] (aCW C):=aCA T
 have G_l_paper:Fc P w K mg base 3 "_law_paper" ["_law_land_here","_law_gaps_here","_law_wish_here","_law_stream_here"] (qF C K):=aCC T
 have G_l_rings:Fc P w K mg base 3 "_law_rings" ["_law_land_here","_law_gaps_here","_law_wish_here","_law_stream_here","_law_cell"] (xH C):=aCB T
 have G_l_cell_at:Fc P w K mg base 1 "_law_cell_at" ["_law_script","_law_k"] (aBQ K):=pX T
 have G_l_digits:Fc P w K mg base 1 "_law_digits" ["_law_cell"] zV:=aAP T
 refine F.ok fG nG (fun cdv A outer s H vs Q E hr h=>?_)
 obtain ⟨x,rfl,a,ns,rfl,hS,hns,q⟩:=h
 have big:=cB
 have hu:=gR hr
 have scr:Scr K H (.ref a):=⟨a,ns,rfl,hS,hns⟩
 refine ⟨_,(@aG _ _ _ _ _ (@aU _ _ (1) _ _ _ _ fG.nd rfl (Or.inl rfl) (@bU _ _ _ _ _ _ _ _ _ _ G_l_land (hr.mono (by decide)) (@aA _ _ _ _ _ (pv 0) (@aA _ _ _ _ _ aD (@aA _ _ _ _ _ aD aE (by rfl)) (by rfl)) (by rfl)) (by rfl) (by decide) (by rfl) (by rfl)) (by rfl) (by trivial)) (@aG _ _ _ _ _ (@eJ _ _ _ _ _ _ _ _ PassesOwn.never rfl (@bE _ (K) _ _ _ rfl (@bF _ _ _ _ (@aI _ _ _ _ _ _ _ _ eR (@bM _ _ _ _ (@aA _ _ _ _ _ (@bU _ _ _ _ _ _ _ _ _ _ G_l_cell_at (hr.mono (by decide)) (@aA _ _ _ _ _ (pv 0) (@aA _ _ _ _ _ aD aE (by rfl)) (by rfl)) (by rfl) (by decide) (by rfl) (by rfl)) aE (by rfl))) (@fV _ _ _ _ _ _ _ _ _ _ (@fE _ (K) rfl) (pv 0) (@gP _ _ _ aD) (@gP _ _ _ aD))))) (@aM _ _ (2) _ fG.nd rfl (Or.inl rfl) (by trivial)) (@aG _ _ _ _ _ (@aU _ _ (3) _ _ _ _ fG.nd rfl (Or.inl rfl) (@bU _ _ _ _ _ _ _ _ _ _ G_l_digits (hr.mono (by decide)) (@aA _ _ _ _ _ (pv 2) aE (by rfl)) (by rfl) (by decide) (by rfl) (by rfl)) (by rfl) (by trivial)) (@aG _ _ _ _ _ (@aU _ _ (4) _ _ _ _ fG.nd rfl (Or.inl rfl) (@bU _ _ _ _ _ _ _ _ _ _ G_l_wish (hr.mono (by decide)) (@aA _ _ _ _ _ (pv 1) (@aA _ _ _ _ _ (pv 3) aE (by rfl)) (by rfl)) (by rfl) (by decide) (by rfl) (by rfl)) (by rfl) (by trivial)) (@aG _ _ _ _ _ (@aU _ _ (5) _ _ _ _ fG.nd rfl (Or.inl rfl) (@bU _ _ _ _ _ _ _ _ _ _ G_l_level (hr.mono (by decide)) (@aA _ _ _ _ _ (@aI _ _ _ _ _ _ _ _ aX (pv 3) (@aI _ _ _ _ _ _ _ _ dE aD aD)) aE (by rfl)) (by rfl) (by decide) (by rfl) (by rfl)) (by rfl) (by trivial)) (@aG _ _ _ _ _ (@aU _ _ (6) _ _ _ _ fG.nd rfl (Or.inl rfl) (@bU _ _ _ _ _ _ _ _ _ _ G_l_gaps (hr.mono (by decide)) (@aA _ _ _ _ _ (pv 1) (@aA _ _ _ _ _ (pv 5) aE (by rfl)) (by rfl)) (by rfl) (by decide) (by rfl) (by rfl)) (by rfl) (by trivial)) (@aG _ _ _ _ _ (@aU _ _ (7) _ _ _ _ fG.nd rfl (Or.inl rfl) (@bU _ _ _ _ _ _ _ _ _ _ G_l_stream (hr.mono (by decide)) (@aA _ _ _ _ _ (pv 1) (@aA _ _ _ _ _ (@bU _ _ _ _ _ _ _ _ _ _ G_l_road (hr.mono (by decide)) (@aA _ _ _ _ _ (pv 6) (@aA _ _ _ _ _ (pv 4) aE (by rfl)) (by rfl)) (by rfl) (by decide) (by rfl) (by rfl)) (@aA _ _ _ _ _ (@aI _ _ _ _ _ _ _ _ aX (pv 3) (@aI _ _ _ _ _ _ _ _ dE aD aD)) aE (by rfl)) (by rfl)) (by rfl)) (by rfl) (by decide) (by rfl) (by rfl)) (by rfl) (by trivial)) (@aG _ _ _ _ _ (@cL _ _ _ _ _ _ _ _ (@cR _ _ _ _ (@cK _ _ _ (@bU _ _ _ _ _ _ _ _ _ _ G_l_told (hr.mono (by decide)) (@aA _ _ _ _ _ (pv 1) (@aA _ _ _ _ _ (pv 4) (@aA _ _ _ _ _ (pv 5) (@aA _ _ _ _ _ (pv 7) (@aA _ _ _ _ _ (@aT _ _ _ _ _ _ _ _ _ (uU rfl) rfl T.n_sum rF (@aA _ _ _ _ _ (@bX _ _ _ _ _ _ _ _ _ _ _ ["_law_name","_law_amount_here"] 2 [] rfl (@bE _ (K) _ _ _ rfl (@bF _ _ _ _ (@fV _ _ _ _ _ _ _ _ _ _ (@fE _ (K) rfl) (pv 7) iU (@gP _ _ _ aD)))) (fun R=>@sH _ _ _ _ _ (2) (K) rfl rfl (@aW _ _ _ _ _ (@aM _ _ (0) _ (show List.Nodup (["_law_name","_law_amount_here"]:List Str) by decide +kernel) rfl (Or.inl rfl) (by trivial)) (@aW _ _ _ _ _ (@aM _ _ (1) _ (show List.Nodup (["_law_name","_law_amount_here"]:List Str) by decide +kernel) rfl (Or.inl rfl) (by trivial)) eY (by rfl)) (by rfl)) (by rfl) (by rfl)) (@oI _ _ _ _ (@cT _ _ _ (by decide) (@cT _ _ _ (by decide) lU))) (fun R=>cH) (fun R=>(@aT _ _ _ _ _ _ _ _ _ uV rfl T.n_abs rG (@aA _ _ _ _ _ (pv 1) aE (by rfl)) (by decide) (by decide) (by rfl) (by rfl))) (by rfl) (by rfl) (by rfl) (by rfl) (by rfl) (by rfl) (by rfl) (by intro _;rfl)) aE (by rfl)) (by decide) (by decide) (by rfl) (by rfl)) aE (by rfl)) (by rfl)) (by rfl)) (by rfl)) (by rfl)) (by rfl) (by decide) (by rfl) (by rfl)) (by intro _;rfl))) (@aH _ _ _ (@aS _ _ _ _ jO)) bI) (@aG _ _ _ _ _ (@aU _ _ (8) _ _ _ _ fG.nd rfl (Or.inl rfl) (@bU _ _ _ _ _ _ _ _ _ _ G_l_wrong (hr.mono (by decide)) (@aA _ _ _ _ _ (pv 1) (@aA _ _ _ _ _ (pv 7) (@aA _ _ _ _ _ (@aI _ _ _ _ _ _ _ _ aX (pv 3) (@aI _ _ _ _ _ _ _ _ dE aD aD)) aE (by rfl)) (by rfl)) (by rfl)) (by rfl) (by decide) (by rfl) (by rfl)) (by rfl) (by trivial)) (@aG _ _ _ _ _ (@cL _ _ _ _ _ _ _ _ (@cR _ _ _ _ (@cK _ _ _ (@bU _ _ _ _ _ _ _ _ _ _ G_l_told (hr.mono (by decide)) (@aA _ _ _ _ _ (pv 1) (@aA _ _ _ _ _ (pv 4) (@aA _ _ _ _ _ (pv 5) (@aA _ _ _ _ _ (pv 8) (@aA _ _ _ _ _ (@bU _ _ _ _ _ _ _ _ _ _ G_l_paper (hr.mono (by decide)) (@aA _ _ _ _ _ (pv 1) (@aA _ _ _ _ _ (pv 6) (@aA _ _ _ _ _ (pv 4) (@aA _ _ _ _ _ (pv 8) aE (by rfl)) (by rfl)) (by rfl)) (by rfl)) (by rfl) (by decide) (by rfl) (by rfl)) aE (by rfl)) (by rfl)) (by rfl)) (by rfl)) (by rfl)) (by rfl) (by decide) (by rfl) (by rfl)) (by intro _;rfl))) (@aH _ _ _ (@aS _ _ _ _ jO)) bI) (@aG _ _ _ _ _ (@cL _ _ _ _ _ _ _ _ (@cR _ _ _ _ (@cK _ _ _ (@bU _ _ _ _ _ _ _ _ _ _ G_l_told (hr.mono (by decide)) (@aA _ _ _ _ _ (pv 1) (@aA _ _ _ _ _ (pv 4) (@aA _ _ _ _ _ (pv 5) (@aA _ _ _ _ _ (@bM _ _ _ _ aE) (@aA _ _ _ _ _ aD aE (by rfl)) (by rfl)) (by rfl)) (by rfl)) (by rfl)) (by rfl) (by decide) (by rfl) (by rfl)) (by intro _;rfl))) (@aH _ _ _ (@aS _ _ _ _ jO)) bI) (@aH _ _ _ (@eJ _ _ _ _ _ _ _ _ PassesOwn.never rfl (@bE _ (K) _ _ _ rfl (@bF _ _ _ _ (@bU _ _ _ _ _ _ _ _ _ _ G_l_rings (hr.mono (by decide)) (@aA _ _ _ _ _ (pv 1) (@aA _ _ _ _ _ (pv 6) (@aA _ _ _ _ _ (pv 4) (@aA _ _ _ _ _ (pv 7) (@aA _ _ _ _ _ (@aI _ _ _ _ _ _ _ _ aX (pv 3) (@aI _ _ _ _ _ _ _ _ dE aD aD)) aE (by rfl)) (by rfl)) (by rfl)) (by rfl)) (by rfl)) (by rfl) (by decide) (by rfl) (by rfl)))) (@aM _ _ (9) _ fG.nd rfl (Or.inl rfl) (by trivial)) (@aH _ _ _ (@cL _ _ _ _ _ _ _ _ (@cR _ _ _ _ (@cK _ _ _ (@bU _ _ _ _ _ _ _ _ _ _ G_l_told (hr.mono (by decide)) (@aA _ _ _ _ _ (pv 1) (@aA _ _ _ _ _ (pv 4) (@aA _ _ _ _ _ (pv 5) (@aA _ _ _ _ _ (pv 9) (@aA _ _ _ _ _ (@bU _ _ _ _ _ _ _ _ _ _ G_l_paper (hr.mono (by decide)) (@aA _ _ _ _ _ (pv 1) (@aA _ _ _ _ _ (pv 6) (@aA _ _ _ _ _ (pv 4) (@aA _ _ _ _ _ (pv 9) aE (by rfl)) (by rfl)) (by rfl)) (by rfl)) (by rfl) (by decide) (by rfl) (by rfl)) aE (by rfl)) (by rfl)) (by rfl)) (by rfl)) (by rfl)) (by rfl) (by decide) (by rfl) (by rfl)) (by intro _;rfl))) (@aH _ _ _ (@aS _ _ _ _ jO)) bI)) (by intro _;rfl)))))))))))) (by intro _;rfl)) (@aH _ _ _ (@aS _ _ _ _ jO)))),?_⟩
 refine cG fun u0 hu0=>?_
 refine ⟨_,rfl,_,_,_,rfl,scr,rfl,rfl,fun p fs ds H3 S3 L3=>?_⟩
 refine gσ (σ':=[some (.ref a),some (.ref p),none,none,none,none,none,none,none,none]) rfl ?_
 refine hu0 _ _ _ ?_
 have gf:=(bV L3).1
 have gd:=(bV L3).2
 have f2:=gf.l2
 have d2:=gd.l2
 have sq3:=S3.seq hS
 have cutl:(iK (ns.map V.int) (some 3) (some 32)).length ≤ 63:=by
  unfold iK
  rw [List.length_take,List.length_drop,List.length_map]
  omega
 have cutm:∀ x ∈ V.int (ns.getD (Int.toNat 2) 0) :: iK (ns.map V.int) (some 3) (some 32),∃ n:Int,x = .int n:=fun x m=>by
  rcases List.mem_cons.mp m with rfl | m
  ·exact ⟨_,rfl⟩
  ·unfold iK at m
   obtain ⟨n,_,rfl⟩:=List.mem_map.mp (List.mem_of_mem_drop (List.mem_of_mem_take m))
   exact ⟨_,rfl⟩
 refine cG fun u1 hu1=>?_
 refine ⟨_,rfl,_,_,rfl,a,ns,2,rfl,rfl,sq3,hns,by decide,aL rfl,fun q1 hq1=>?_⟩
 have Z1:=aK.upd (o:=.lst [.int (ns.getD (Int.toNat 2) 0)]) hq1
 refine ⟨_,rfl,_,rfl,_,rfl,a,_,rfl,Z1.seq sq3,fun q2 hq2=>?_⟩
 have Z2:=aK.upd (o:=.lst (iK (ns.map V.int) (some 3) (some 32))) hq2
 refine ⟨q1,q2,_,_,rfl,rfl,Z2 _ _ aB,aB,(by simp only [List.length_singleton];omega),fun q3 hq3=>?_⟩
 have Z3:=aK.upd (o:=.lst ([V.int (ns.getD (Int.toNat 2) 0)] ++ iK (ns.map V.int) (some 3) (some 32))) hq3
 have hq10:upd (upd (upd H3 q1 (.lst [.int (ns.getD (Int.toNat 2) 0)])) q2 (.lst (iK (ns.map V.int) (some 3) (some 32)))) q3 (.lst ([V.int (ns.getD (Int.toNat 2) 0)] ++ iK (ns.map V.int) (some 3) (some 32))) q3 = some (.lst (V.int (ns.getD (Int.toNat 2) 0) :: iK (ns.map V.int) (some 3) (some 32))):=aB
 have Z:=Z1.trans (Z2.trans Z3)
 generalize upd (upd (upd H3 q1 (.lst [.int (ns.getD (Int.toNat 2) 0)])) q2 (.lst (iK (ns.map V.int) (some 3) (some 32)))) q3 (.lst ([V.int (ns.getD (Int.toNat 2) 0)] ++ iK (ns.map V.int) (some 3) (some 32))) = H10 at hq10 Z ⊢
 clear Z1 Z2 Z3 hq1 hq2 hq3
 generalize V.int (ns.getD (Int.toNat 2) 0) :: iK (ns.map V.int) (some 3) (some 32) = cells at cutm hq10
 refine ⟨q3,rfl,⟨_,SqL.of hq10⟩,dW (K:=K) (a:=q3) (xs:=cells) (fun i σ H'=>∃ v2 v3 v4 v5 v6 v7 v8 v9,σ = [some (.ref a),some (.ref p),v2,v3,v4,v5,v6,v7,v8,v9] ∧ aK H10 H') ⟨_,_,_,_,_,_,_,_,rfl,aK.refl _⟩ (fun i σ H' _ ⟨_,_,_,_,_,_,_,_,_,e⟩=>SqL.of (e _ _ hq10)) ?_ ?_⟩
 ·rintro i yv σ H0 hi ⟨v2,v3,v4,v5,v6,v7,v8,v9,rfl,S⟩
  obtain ⟨n,rfl⟩:=cutm yv (List.mem_of_getElem? hi)
  have L4:=L3.same (Z.trans S)
  have GG:∀ lv,Gaps ("sea" :: fs.map aJ) (gapsD fs ds lv):=fun lv=>lW gf gd lv
  refine aOG fun D1 hD1=>?_
  refine aGM fun u2 hu2=>?_
  refine ⟨_,rfl,_,rfl,n,rfl,fun num=>?_⟩
  refine ⟨_,rfl,_,rfl,_,_,rfl,p,fs,ds,num,rfl,L4,rfl,fun lw zs X1 A1 flw hw z1 z4 nd sub=>?_⟩
  refine ⟨_,rfl,_,_,rfl,rfl,⟨by decide,by decide,by decide⟩,_,_,rfl,rfl,⟨dY rfl,by decide +kernel⟩,_,rfl,_,rfl,fun lv hL=>?_⟩
  have L5:=L4.same A1
  refine ⟨_,rfl,_,rfl,_,_,rfl,p,fs,ds,lv,rfl,L5,rfl,fun lg gus X2 A2 nlg hlg igu=>?_⟩
  refine gσ (σ':=[some (.ref a),some (.ref p),some (.int n),some (.int num),some (.ref lw),some (.int lv),some (.ref lg),v7,v8,v9]) rfl ?_
  refine hu2 _ _ _ ?_
  refine cG fun u3 hu3=>?_
  have S2:=S.trans (A1.trans A2)
  have L2:=L5.same A2
  have hw2:=A2 _ _ hw
  have gsm:=oJ gf gd lv
  have lgp:(Mt51.gapsD fs ds lv).length ≤ 40:=by
   have:=jR fs ds lv
   rw [← gsm,List.length_map] at this
   omega
  have ends:∀ g ∈ Mt51.gapsD fs ds lv,g.one ∈ (("sea":Str) :: fs.map aJ) ∧ g.other ∈ (("sea":Str) :: fs.map aJ):=fun g m=>by
   obtain ⟨h1,h2,_⟩:=(GG lv).ends (toG g) (by rw [← gsm];exact List.mem_map.mpr ⟨g,m,rfl⟩)
   exact ⟨h1,h2⟩
  have lV:(("sea":Str) :: fs.map aJ).length ≤ 13:=by rw [List.length_cons,List.length_map];omega
  refine ⟨_,rfl,_,rfl,_,rfl,_,_,rfl,lg,lw,gus,Mt51.gapsD fs ds lv,"sea" :: fs.map aJ,zs,rfl,hlg,igu,lgp,lV,List.mem_cons_self,ends,rfl,hw2,by omega,fun vP P X3 A3 iP lP hP=>?_⟩
  refine ⟨_,rfl,_,_,rfl,rfl,⟨by decide,by decide,by decide⟩,_,_,rfl,rfl,⟨dY rfl,by decide +kernel⟩,_,_,_,rfl,p,fs,ds,lv,zs,P,_,rfl,L2.same A3,hL,iP,lP,hP,nd,sub,rfl,fun ls us rs am X4 A4 hls ius lrs ndr rall r0 am0 am1 pap=>?_⟩
  refine gσ (σ':=[some (.ref a),some (.ref p),some (.int n),some (.int num),some (.ref lw),some (.int lv),some (.ref lg),some (.ref ls),v8,v9]) rfl ?_
  refine hu3 _ _ _ ?_
  have S4:=S2.trans (A3.trans A4)
  have L4':=L2.same (A3.trans A4)
  have hw4:=(A3.trans A4) _ _ hw2
  have hlg4:=(A3.trans A4) _ _ hlg
  have igu4:=IsL.same (A3.trans A4) _ _ igu
  have lus:=cW ius
  rw [List.length_map] at lus
  clear A1 A2 A3 A4 L5 L2 hw hw2 hlg igu S2 iP hP
  have rok:wok (.lst (rs.map bO)):=hU (by rw [List.length_map];omega) fun e m=>by
   obtain ⟨r,_,rfl⟩:=List.mem_map.mp m
   rfl
  refine cG fun u4 hu4=>?_
  refine ⟨_,rfl,_,rfl,_,rfl,_,rfl,_,rfl,_,rfl,ls,us,rfl,SqL.of hls,fun lt hlt=>?_⟩
  rw [show iK us none (some 1) = us.take 1 from lB us 1]
  have A5:=aK.upd (o:=.lst (us.take 1)) hlt
  have e5:upd X4 lt (.lst (us.take 1)) lt = some (.lst (us.take 1)):=aB
  generalize upd X4 lt (.lst (us.take 1)) = X5 at A5 e5 ⊢
  refine ⟨lt,rfl,⟨_,SqL.of e5⟩,?_⟩
  have it5:IsL X5 ((rs.take 1).map bO) (us.take 1):=by
   rw [List.map_take]
   exact kS 1 (IsL.same A5 _ _ ius)
  have lt5:(us.take 1).length = (rs.take 1).length:=by rw [List.length_take,List.length_take,lus]
  have l1r:(rs.take 1).length ≤ 1:=by rw [List.length_take];omega
  generalize hr1:rs.take 1 = r1 at it5 lt5 l1r
  refine bH (F:=K) (xs:=us.take 1) (by omega) (fun i ys H'=>X5 = H' ∧ ys = ((r1.take i).map fun r=>if r.2 < 0 then -r.2 else r.2).map V.int) ⟨rfl,rfl⟩ ?_ ?_ ?_
  ·rintro i ys H' hi' ⟨rfl,rfl⟩
   exact ⟨SqL.of e5,by rw [List.length_map,List.length_map,List.length_take];omega⟩
  ·rintro i xv ys H' K1 K2 hx ⟨rfl,rfl⟩ k1 k2
   have hil:=(List.getElem?_eq_some_iff.mp hx).1
   obtain ⟨r,er⟩:∃ r,r1[i]? = some r:=⟨_,List.getElem?_eq_getElem (by omega)⟩
   obtain ⟨v,ev,iv⟩:=it5.get (show (r1.map bO)[i]? = some (bO r) by rw [List.getElem?_map,er];rfl)
   rw [hx] at ev
   cases ev
   obtain ⟨t,rfl,ot⟩:=qJ iv
   refine ⟨t,_,rfl,SqT.of ot,rfl,_,_,rfl,_,_,rfl,rfl,_,rfl,r.2,rfl,k1 _ _ ⟨rfl,?_⟩⟩
   rw [List.take_add_one,er,List.map_append,List.map_append]
   rfl
  rintro ys X5' ⟨rfl,rfl⟩
  rw [List.take_of_length_le (by omega)]
  intro l6 hl6
  have A6:=aK.upd (o:=.lst ((r1.map fun r=>if r.2 < 0 then -r.2 else r.2).map V.int)) hl6
  have S6:=S4.trans (A5.trans A6)
  have B6:=A5.trans A6
  refine ⟨l6,r1.map fun r=>if r.2 < 0 then -r.2 else r.2,rfl,SqL.of aB,?_⟩
  have esum:(r1.map fun r=>if r.2 < 0 then -r.2 else r.2).sum = am:=by
   rw [← hr1]
   cases rs with
   | nil=>exact (r0 rfl).symm
   | cons r rs' =>
    show (if r.2 < 0 then -r.2 else r.2) + 0 = am
    rw [(rall r List.mem_cons_self).2]
    omega
  rw [esum]
  generalize upd X5 l6 (.lst ((r1.map fun r=>if r.2 < 0 then -r.2 else r.2).map V.int)) = X6 at A6 S6 B6 ⊢
  refine ⟨_,_,_,_,_,p,lw,fs,ds,zs,lv,.lst (rs.map bO),rfl,rfl,L4'.same B6,rfl,B6 _ _ hw4,z1,nd,sub,rfl,hL,⟨ls,us,rfl,B6 _ _ hls,IsL.same B6 _ _ ius⟩,rok.1,rok.2,by rw [pap];rfl,fun X7 A7=>⟨_,rfl,bR ?_⟩⟩
  refine hu4 _ _ _ ?_
  have C7:=B6.trans A7
  refine mK fun u5 hu5=>?_
  have kb:∀ r ∈ rs,r.2.natAbs < 2 ^ 62:=fun r m=>by
   have:=(rall r m).2
   revert this
   split <;> omega
  refine ⟨_,rfl,_,rfl,_,rfl,_,_,rfl,rfl,⟨by decide,by decide,by decide⟩,_,_,rfl,rfl,⟨dY rfl,by decide +kernel⟩,_,_,_,rfl,p,ls,us,fs,ds,rs,_,rfl,L4'.same C7,rfl,C7 _ _ hls,IsL.same C7 _ _ ius,lrs,ndr,kb,rfl,fun vw dw X8 A8 iw wo=>?_⟩
  refine gσ (σ':=[some (.ref a),some (.ref p),some (.int n),some (.int num),some (.ref lw),some (.int lv),some (.ref lg),some (.ref ls),some vw,v9]) rfl ?_
  have C8:=C7.trans A8
  refine ⟨_,rfl,_,rfl,_,rfl,_,rfl,_,rfl,_,rfl,_,rfl,_,rfl,_,_,_,_,p,lg,lw,fs,ds,zs,lv,gus,dw,rfl,rfl,L4'.same C8,rfl,C8 _ _ hlg4,IsL.same C8 _ _ igu4,rfl,C8 _ _ hw4,nd,sub,iw,wo.1,wo.2.flatL,fun X9 A9=>?_⟩
  have C9:=C8.trans A9
  refine ⟨_,_,_,_,_,p,lw,fs,ds,zs,lv,dw,rfl,rfl,L4'.same C9,rfl,C9 _ _ hw4,z1,nd,sub,rfl,hL,Is.same A9 _ _ iw,wo.1,wo.2,rfl,fun Xa Aa=>⟨_,rfl,bR ?_⟩⟩
  refine hu5 _ _ _ ?_
  have Ca:=C9.trans Aa
  refine cG fun u6 hu6=>?_
  refine ⟨_,rfl,_,rfl,_,rfl,aL rfl,fun le hle=>?_⟩
  have Ab:=aK.upd (o:=.lst []) hle
  have Cb:=Ca.trans Ab
  refine ⟨_,_,_,_,_,p,lw,fs,ds,zs,lv,.lst [],rfl,rfl,L4'.same Cb,rfl,Cb _ _ hw4,z1,nd,sub,rfl,hL,⟨le,[],rfl,aB,rfl⟩,(fun es e=>by cases e;decide),.inl rfl,by rw [aDM];rfl,fun Xc Ac=>⟨_,rfl,bR ?_⟩⟩
  refine hu6 _ _ _ ?_
  have Cc:=Cb.trans Ac
  refine ⟨_,rfl,_,rfl,_,rfl,_,rfl,_,rfl,_,_,rfl,rfl,⟨by decide,by decide,by decide⟩,_,_,rfl,rfl,⟨dY rfl,by decide +kernel⟩,_,_,_,_,_,p,lg,ls,lw,gus,us,fs,ds,zs,lv,rs,_,rfl,rfl,L4'.same Cc,rfl,Cc _ _ hlg4,IsL.same Cc _ _ igu4,rfl,Cc _ _ hw4,z1,sub,rfl,Cc _ _ hls,IsL.same Cc _ _ ius,lrs,ndr,rfl,fun lf uf rss Xd Ad nlf hlf irs rss40 lrss=>?_⟩
  have Cd:=Cc.trans Ad
  have luf:=cW irs
  rw [List.length_map] at luf
  refine ⟨lf,rfl,⟨_,SqL.of hlf⟩,dW (K:=K) (a:=lf) (xs:=uf) (fun j σ H'=>∃ v9,σ = [some (.ref a),some (.ref p),some (.int n),some (.int num),some (.ref lw),some (.int lv),some (.ref lg),some (.ref ls),some vw,v9] ∧ aK Xd H') ⟨_,rfl,aK.refl _⟩ (fun j σ H' _ ⟨_,_,e⟩=>SqL.of (e _ _ hlf)) ?_ ?_⟩
  ·rintro j xv σ He hj ⟨v9,rfl,Ae⟩
   have hjl:=(List.getElem?_eq_some_iff.mp hj).1
   obtain ⟨ro,ero⟩:∃ ro,rss[j]? = some ro:=⟨_,List.getElem?_eq_getElem (by omega)⟩
   obtain ⟨vo,evo,ivo⟩:=(IsL.same Ae _ _ irs).get (show (rss.map rsD)[j]? = some (rsD ro) by rw [List.getElem?_map,ero];rfl)
   rw [hj] at evo
   cases evo
   have Ce:=Cd.trans Ae
   have l40:=rss40 ro (List.mem_of_getElem? ero)
   have wo2:wok (rsD ro):=hU (by rw [List.length_map];omega) fun e m=>by
    obtain ⟨r,_,rfl⟩:=List.mem_map.mp m
    rfl
   refine gσ (σ':=[some (.ref a),some (.ref p),some (.int n),some (.int num),some (.ref lw),some (.int lv),some (.ref lg),some (.ref ls),some vw,some xv]) rfl ?_
   refine ⟨_,rfl,_,rfl,_,rfl,_,rfl,_,rfl,_,rfl,_,rfl,_,rfl,_,_,_,_,p,lg,lw,fs,ds,zs,lv,gus,rsD ro,rfl,rfl,L4'.same Ce,rfl,Ce _ _ hlg4,IsL.same Ce _ _ igu4,rfl,Ce _ _ hw4,nd,sub,ivo,wo2.1,wo2.2.flatL,fun Xf Af=>?_⟩
   have Cf:=Ce.trans Af
   refine ⟨_,_,_,_,_,p,lw,fs,ds,zs,lv,rsD ro,rfl,rfl,L4'.same Cf,rfl,Cf _ _ hw4,z1,nd,sub,rfl,hL,Is.same Af _ _ ivo,wo2.1,wo2.2,rfl,fun Xg Ag=>⟨_,rfl,bR ?_⟩⟩
   exact ⟨_,rfl,Ae.trans (Af.trans Ag)⟩
  ·rintro σ He ⟨v9,rfl,Ae⟩
   exact hD1 _ _ ⟨_,_,_,_,_,_,_,_,rfl,S4.trans (Cd.trans Ae)⟩
 ·rintro σ H' ⟨v2,v3,v4,v5,v6,v7,v8,v9,rfl,S⟩
  refine hu1 _ _ _ ?_
  exact q H'
theorem law_mk {fa:Addr} (hmg:mg "law" = some (.ref fa)) (T:Txt K mg C) :
  ∃ fd:FuncData,(∀ (s:Shared) (u:Value),BindsTo s fd ⟨[u],[]⟩ [("_law_script",u)]) ∧ ∀ base:Heap,K.In base → base.Ns mainGlobals mg → FnOk P w K mg base CX0 12 fa fd ["_law_script"] (aDA K):=by
 obtain ⟨f,fd,F,b,m⟩:=T.d_p_law.ex
 rw [hmg] at m
 cases m
 refine ⟨fd,fun s u=>?_,fun base _ _=>aLY T F⟩
 obtain ⟨oc,od,kV,doc,pm,an,cdv,ct,osl,rfl,lk,hcd⟩:=F.ex
 exact .of_eq rfl
end
theorem txt_mk {K:PySem.W.Frag} {h:Heap} {mg:Str → Option Value} (X:K.In h) (G:h.Ns mainGlobals mg)
    {C:Addr}
    {fm16:Addr} {ocm16 kVm16 docm16 pmm16 cdm16 ctm16:Value} {odm16 anm16:Option Addr} {slm16:Array (Option Value)}
    {fm17:Addr} {ocm17 kVm17 docm17 pmm17 cdm17 ctm17:Value} {odm17 anm17:Option Addr} {slm17:Array (Option Value)}
    {fm18:Addr} {ocm18 kVm18 docm18 pmm18 cdm18 ctm18:Value} {odm18 anm18:Option Addr} {slm18:Array (Option Value)}
    {fm19:Addr} {ocm19 kVm19 docm19 pmm19 cdm19 ctm19:Value} {odm19 anm19:Option Addr} {slm19:Array (Option Value)}
    {fm20:Addr} {ocm20 kVm20 docm20 pmm20 cdm20 ctm20:Value} {odm20 anm20:Option Addr} {slm20:Array (Option Value)}
    {fm21:Addr} {ocm21 kVm21 docm21 pmm21 cdm21 ctm21:Value} {odm21 anm21:Option Addr} {slm21:Array (Option Value)}
    {fm22:Addr} {ocm22 kVm22 docm22 pmm22 cdm22 ctm22:Value} {odm22 anm22:Option Addr} {slm22:Array (Option Value)}
    {fm23:Addr} {ocm23 kVm23 docm23 pmm23 cdm23 ctm23:Value} {odm23 anm23:Option Addr} {slm23:Array (Option Value)}
    {fm24:Addr} {ocm24 kVm24 docm24 pmm24 cdm24 ctm24:Value} {odm24 anm24:Option Addr} {slm24:Array (Option Value)}
    {fm25:Addr} {ocm25 kVm25 docm25 pmm25 cdm25 ctm25:Value} {odm25 anm25:Option Addr} {slm25:Array (Option Value)}
    {f0:Addr} {oc0 kV0 doc0 pm0 cd0 ct0:Value} {od0 an0:Option Addr} {sl0:Array (Option Value)}
    {f1:Addr} {oc1 kV1 doc1 pm1 cd1 ct1:Value} {od1 an1:Option Addr} {sl1:Array (Option Value)}
    {f2:Addr} {oc2 kV2 doc2 pm2 cd2 ct2:Value} {od2 an2:Option Addr} {sl2:Array (Option Value)}
    {f3:Addr} {oc3 kV3 doc3 pm3 cd3 ct3:Value} {od3 an3:Option Addr} {sl3:Array (Option Value)}
    {f4:Addr} {oc4 kV4 doc4 pm4 cd4 ct4:Value} {od4 an4:Option Addr} {sl4:Array (Option Value)}
    {f5:Addr} {oc5 kV5 doc5 pm5 cd5 ct5:Value} {od5 an5:Option Addr} {sl5:Array (Option Value)}
    {f6:Addr} {oc6 kV6 doc6 pm6 cd6 ct6:Value} {od6 an6:Option Addr} {sl6:Array (Option Value)}
    {f7:Addr} {oc7 kV7 doc7 pm7 cd7 ct7:Value} {od7 an7:Option Addr} {sl7:Array (Option Value)}
    {f8:Addr} {oc8 kV8 doc8 pm8 cd8 ct8:Value} {od8 an8:Option Addr} {sl8:Array (Option Value)}
    {f9:Addr} {oc9 kV9 doc9 pm9 cd9 ct9:Value} {od9 an9:Option Addr} {sl9:Array (Option Value)}
    {f10:Addr} {oc10 kV10 doc10 pm10 cd10 ct10:Value} {od10 an10:Option Addr} {sl10:Array (Option Value)}
    {f11:Addr} {oc11 kV11 doc11 pm11 cd11 ct11:Value} {od11 an11:Option Addr} {sl11:Array (Option Value)}
    {f12:Addr} {oc12 kV12 doc12 pm12 cd12 ct12:Value} {od12 an12:Option Addr} {sl12:Array (Option Value)}
    {f13:Addr} {oc13 kV13 doc13 pm13 cd13 ct13:Value} {od13 an13:Option Addr} {sl13:Array (Option Value)}
    {f14:Addr} {oc14 kV14 doc14 pm14 cd14 ct14:Value} {od14 an14:Option Addr} {sl14:Array (Option Value)}
    {f15:Addr} {oc15 kV15 doc15 pm15 cd15 ct15:Value} {od15 an15:Option Addr} {sl15:Array (Option Value)}
    {f16:Addr} {oc16 kV16 doc16 pm16 cd16 ct16:Value} {od16 an16:Option Addr} {sl16:Array (Option Value)}
    {f17:Addr} {oc17 kV17 doc17 pm17 cd17 ct17:Value} {od17 an17:Option Addr} {sl17:Array (Option Value)}
    {f18:Addr} {oc18 kV18 doc18 pm18 cd18 ct18:Value} {od18 an18:Option Addr} {sl18:Array (Option Value)}
    {f19:Addr} {oc19 kV19 doc19 pm19 cd19 ct19:Value} {od19 an19:Option Addr} {sl19:Array (Option Value)}
    {f20:Addr} {oc20 kV20 doc20 pm20 cd20 ct20:Value} {od20 an20:Option Addr} {sl20:Array (Option Value)}
    {f21:Addr} {oc21 kV21 doc21 pm21 cd21 ct21:Value} {od21 an21:Option Addr} {sl21:Array (Option Value)}
    {f22:Addr} {oc22 kV22 doc22 pm22 cd22 ct22:Value} {od22 an22:Option Addr} {sl22:Array (Option Value)}
    {f23:Addr} {oc23 kV23 doc23 pm23 cd23 ct23:Value} {od23 an23:Option Addr} {sl23:Array (Option Value)}
    {f24:Addr} {oc24 kV24 doc24 pm24 cd24 ct24:Value} {od24 an24:Option Addr} {sl24:Array (Option Value)}
    {f25:Addr} {oc25 kV25 doc25 pm25 cd25 ct25:Value} {od25 an25:Option Addr} {sl25:Array (Option Value)}
    {f26:Addr} {oc26 kV26 doc26 pm26 cd26 ct26:Value} {od26 an26:Option Addr} {sl26:Array (Option Value)}
    {f27:Addr} {oc27 kV27 doc27 pm27 cd27 ct27:Value} {od27 an27:Option Addr} {sl27:Array (Option Value)}
    {f28:Addr} {oc28 kV28 doc28 pm28 cd28 ct28:Value} {od28 an28:Option Addr} {sl28:Array (Option Value)}
    {f29:Addr} {oc29 kV29 doc29 pm29 cd29 ct29:Value} {od29 an29:Option Addr} {sl29:Array (Option Value)}
    {f30:Addr} {oc30 kV30 doc30 pm30 cd30 ct30:Value} {od30 an30:Option Addr} {sl30:Array (Option Value)}
    {f31:Addr} {oc31 kV31 doc31 pm31 cd31 ct31:Value} {od31 an31:Option Addr} {sl31:Array (Option Value)}
    {f32:Addr} {oc32 kV32 doc32 pm32 cd32 ct32:Value} {od32 an32:Option Addr} {sl32:Array (Option Value)}
    {f33:Addr} {oc33 kV33 doc33 pm33 cd33 ct33:Value} {od33 an33:Option Addr} {sl33:Array (Option Value)}
    {f34:Addr} {oc34 kV34 doc34 pm34 cd34 ct34:Value} {od34 an34:Option Addr} {sl34:Array (Option Value)}
    {f35:Addr} {oc35 kV35 doc35 pm35 cd35 ct35:Value} {od35 an35:Option Addr} {sl35:Array (Option Value)}
    {f36:Addr} {oc36 kV36 doc36 pm36 cd36 ct36:Value} {od36 an36:Option Addr} {sl36:Array (Option Value)}
    {f37:Addr} {oc37 kV37 doc37 pm37 cd37 ct37:Value} {od37 an37:Option Addr} {sl37:Array (Option Value)}
    {f38:Addr} {oc38 kV38 doc38 pm38 cd38 ct38:Value} {od38 an38:Option Addr} {sl38:Array (Option Value)}
    {f39:Addr} {oc39 kV39 doc39 pm39 cd39 ct39:Value} {od39 an39:Option Addr} {sl39:Array (Option Value)}
    {f40:Addr} {oc40 kV40 doc40 pm40 cd40 ct40:Value} {od40 an40:Option Addr} {sl40:Array (Option Value)}
    {f41:Addr} {oc41 kV41 doc41 pm41 cd41 ct41:Value} {od41 an41:Option Addr} {sl41:Array (Option Value)}
    {f42:Addr} {oc42 kV42 doc42 pm42 cd42 ct42:Value} {od42 an42:Option Addr} {sl42:Array (Option Value)}
    {f43:Addr} {oc43 kV43 doc43 pm43 cd43 ct43:Value} {od43 an43:Option Addr} {sl43:Array (Option Value)}
    {f44:Addr} {oc44 kV44 doc44 pm44 cd44 ct44:Value} {od44 an44:Option Addr} {sl44:Array (Option Value)}
    {f45:Addr} {oc45 kV45 doc45 pm45 cd45 ct45:Value} {od45 an45:Option Addr} {sl45:Array (Option Value)}
    {f46:Addr} {oc46 kV46 doc46 pm46 cd46 ct46:Value} {od46 an46:Option Addr} {sl46:Array (Option Value)}
    {f47:Addr} {oc47 kV47 doc47 pm47 cd47 ct47:Value} {od47 an47:Option Addr} {sl47:Array (Option Value)}
    {f48:Addr} {oc48 kV48 doc48 pm48 cd48 ct48:Value} {od48 an48:Option Addr} {sl48:Array (Option Value)}
    {u0:Value}
    {u1:Value}
    {u2:Value}
    {u3:Value}
    {u4:Value}
    {u5:Value}
    {u6:Value}
    (aC:PySem.W.nsIn K mainGlobals "Land" = some (some (.ref C))) (pgC:PySem.W.plainGet K C Str.empty = true) (hdC:PySem.W.hasDictIn K C = true) (poC:PySem.W.plainOver K C = true) (saC:PySem.W.findIn K (.ref C) "__setattr__" = some (some (.builtin "object.__setattr__"))) (mkC:PySem.W.makesIn K C = true) (kpC:PySem.W.keepIn K (.ref C) = true)
    (n_field_rows:PySem.W.findIn K (.ref C) "field_rows" = some none)
    (n_dyke_rows:PySem.W.findIn K (.ref C) "dyke_rows" = some none)
    (iha:PySem.W.findIn K (.ref C) "__class__" = some (some (.builtin "object.__class__"))) (ihn:PySem.W.specialIn K (.builtin "object.__class__") "__get__" = some (some (.builtin "getset_descriptor.__get__"))) (iht:PySem.W.takesIn K (.builtin "object.__class__") = some true) (ihm:PySem.W.mroIn K C (.type "object") = some true)
    (ma16:PySem.W.findIn K (.ref C) "__init__" = some (some (.ref fm16))) (mi16:PySem.W.isFn K (.ref fm16) = true) (ml16:K.lookup fm16 = some ⟨ocm16,odm16,.func (PySem.W.fnOf "__init__" "Land.__init__" (aP gK) (aN gK) (aF gK) .none kVm16 docm16 pmm16 anm16 cdm16 ctm16),slm16⟩) (mc16:PySem.W.codeIn K cdm16 "Land.__init__" = true) (mk16:PySem.W.keepIn K (.ref fm16) = true)
    (ma17:PySem.W.findIn K (.ref C) "fields" = some (some (.ref fm17))) (mi17:PySem.W.isFn K (.ref fm17) = true) (ml17:K.lookup fm17 = some ⟨ocm17,odm17,.func (PySem.W.fnOf "fields" "Land.fields" (aP eG) (aN eG) (aF eG) .none kVm17 docm17 pmm17 anm17 cdm17 ctm17),slm17⟩) (mc17:PySem.W.codeIn K cdm17 "Land.fields" = true) (mk17:PySem.W.keepIn K (.ref fm17) = true)
    (ma18:PySem.W.findIn K (.ref C) "dykes" = some (some (.ref fm18))) (mi18:PySem.W.isFn K (.ref fm18) = true) (ml18:K.lookup fm18 = some ⟨ocm18,odm18,.func (PySem.W.fnOf "dykes" "Land.dykes" (aP eQ) (aN eQ) (aF eQ) .none kVm18 docm18 pmm18 anm18 cdm18 ctm18),slm18⟩) (mc18:PySem.W.codeIn K cdm18 "Land.dykes" = true) (mk18:PySem.W.keepIn K (.ref fm18) = true)
    (ma19:PySem.W.findIn K (.ref C) "field_names" = some (some (.ref fm19))) (mi19:PySem.W.isFn K (.ref fm19) = true) (ml19:K.lookup fm19 = some ⟨ocm19,odm19,.func (PySem.W.fnOf "field_names" "Land.field_names" (aP cQ) (aN cQ) (aF cQ) .none kVm19 docm19 pmm19 anm19 cdm19 ctm19),slm19⟩) (mc19:PySem.W.codeIn K cdm19 "Land.field_names" = true) (mk19:PySem.W.keepIn K (.ref fm19) = true)
    (ma20:PySem.W.findIn K (.ref C) "dyke_names" = some (some (.ref fm20))) (mi20:PySem.W.isFn K (.ref fm20) = true) (ml20:K.lookup fm20 = some ⟨ocm20,odm20,.func (PySem.W.fnOf "dyke_names" "Land.dyke_names" (aP dC) (aN dC) (aF dC) .none kVm20 docm20 pmm20 anm20 cdm20 ctm20),slm20⟩) (mc20:PySem.W.codeIn K cdm20 "Land.dyke_names" = true) (mk20:PySem.W.keepIn K (.ref fm20) = true)
    (ma21:PySem.W.findIn K (.ref C) "sluices" = some (some (.ref fm21))) (mi21:PySem.W.isFn K (.ref fm21) = true) (ml21:K.lookup fm21 = some ⟨ocm21,odm21,.func (PySem.W.fnOf "sluices" "Land.sluices" (aP eX) (aN eX) (aF eX) .none kVm21 docm21 pmm21 anm21 cdm21 ctm21),slm21⟩) (mc21:PySem.W.codeIn K cdm21 "Land.sluices" = true) (mk21:PySem.W.keepIn K (.ref fm21) = true)
    (ma22:PySem.W.findIn K (.ref C) "ground" = some (some (.ref fm22))) (mi22:PySem.W.isFn K (.ref fm22) = true) (ml22:K.lookup fm22 = some ⟨ocm22,odm22,.func (PySem.W.fnOf "ground" "Land.ground" (aP eF) (aN eF) (aF eF) .none kVm22 docm22 pmm22 anm22 cdm22 ctm22),slm22⟩) (mc22:PySem.W.codeIn K cdm22 "Land.ground" = true) (mk22:PySem.W.keepIn K (.ref fm22) = true)
    (ma23:PySem.W.findIn K (.ref C) "dues" = some (some (.ref fm23))) (mi23:PySem.W.isFn K (.ref fm23) = true) (ml23:K.lookup fm23 = some ⟨ocm23,odm23,.func (PySem.W.fnOf "dues" "Land.dues" (aP hV) (aN hV) (aF hV) .none kVm23 docm23 pmm23 anm23 cdm23 ctm23),slm23⟩) (mc23:PySem.W.codeIn K cdm23 "Land.dues" = true) (mk23:PySem.W.keepIn K (.ref fm23) = true)
    (ma24:PySem.W.findIn K (.ref C) "dyke" = some (some (.ref fm24))) (mi24:PySem.W.isFn K (.ref fm24) = true) (ml24:K.lookup fm24 = some ⟨ocm24,odm24,.func (PySem.W.fnOf "dyke" "Land.dyke" (aP fT) (aN fT) (aF fT) .none kVm24 docm24 pmm24 anm24 cdm24 ctm24),slm24⟩) (mc24:PySem.W.codeIn K cdm24 "Land.dyke" = true) (mk24:PySem.W.keepIn K (.ref fm24) = true)
    (ma25:PySem.W.findIn K (.ref C) "raised" = some (some (.ref fm25))) (mi25:PySem.W.isFn K (.ref fm25) = true) (ml25:K.lookup fm25 = some ⟨ocm25,odm25,.func (PySem.W.fnOf "raised" "Land.raised" (aP fW) (aN fW) (aF fW) .none kVm25 docm25 pmm25 anm25 cdm25 ctm25),slm25⟩) (mc25:PySem.W.codeIn K cdm25 "Land.raised" = true) (mk25:PySem.W.keepIn K (.ref fm25) = true)
    (a0:PySem.W.nsIn K mainGlobals "_wall" = some (some (.ref f0))) (l0:K.lookup f0 = some ⟨oc0,od0,.func (PySem.W.fnOf "_wall" "_wall" (aP pN) (aN pN) (aF pN) .none kV0 doc0 pm0 an0 cd0 ct0),sl0⟩) (c0:PySem.W.codeIn K cd0 "_wall" = true) (k0:PySem.W.keepIn K (.ref f0) = true)
    (a1:PySem.W.nsIn K mainGlobals "is_whole" = some (some (.ref f1))) (l1:K.lookup f1 = some ⟨oc1,od1,.func (PySem.W.fnOf "is_whole" "is_whole" (aP gG) (aN gG) (aF gG) .none kV1 doc1 pm1 an1 cd1 ct1),sl1⟩) (c1:PySem.W.codeIn K cd1 "is_whole" = true) (k1:PySem.W.keepIn K (.ref f1) = true)
    (a2:PySem.W.nsIn K mainGlobals "is_name" = some (some (.ref f2))) (l2:K.lookup f2 = some ⟨oc2,od2,.func (PySem.W.fnOf "is_name" "is_name" (aP iF) (aN iF) (aF iF) .none kV2 doc2 pm2 an2 cd2 ct2),sl2⟩) (c2:PySem.W.codeIn K cd2 "is_name" = true) (k2:PySem.W.keepIn K (.ref f2) = true)
    (a3:PySem.W.nsIn K mainGlobals "is_height" = some (some (.ref f3))) (l3:K.lookup f3 = some ⟨oc3,od3,.func (PySem.W.fnOf "is_height" "is_height" (aP fN) (aN fN) (aF fN) .none kV3 doc3 pm3 an3 cd3 ct3),sl3⟩) (c3:PySem.W.codeIn K cd3 "is_height" = true) (k3:PySem.W.keepIn K (.ref f3) = true)
    (a4:PySem.W.nsIn K mainGlobals "is_amount" = some (some (.ref f4))) (l4:K.lookup f4 = some ⟨oc4,od4,.func (PySem.W.fnOf "is_amount" "is_amount" (aP fP) (aN fP) (aF fP) .none kV4 doc4 pm4 an4 cd4 ct4),sl4⟩) (c4:PySem.W.codeIn K cd4 "is_amount" = true) (k4:PySem.W.keepIn K (.ref f4) = true)
    (a5:PySem.W.nsIn K mainGlobals "is_one_of" = some (some (.ref f5))) (l5:K.lookup f5 = some ⟨oc5,od5,.func (PySem.W.fnOf "is_one_of" "is_one_of" (aP fM) (aN fM) (aF fM) .none kV5 doc5 pm5 an5 cd5 ct5),sl5⟩) (c5:PySem.W.codeIn K cd5 "is_one_of" = true) (k5:PySem.W.keepIn K (.ref f5) = true)
    (a6:PySem.W.nsIn K mainGlobals "is_list_of" = some (some (.ref f6))) (l6:K.lookup f6 = some ⟨oc6,od6,.func (PySem.W.fnOf "is_list_of" "is_list_of" (aP eL) (aN eL) (aF eL) .none kV6 doc6 pm6 an6 cd6 ct6),sl6⟩) (c6:PySem.W.codeIn K cd6 "is_list_of" = true) (k6:PySem.W.keepIn K (.ref f6) = true)
    (a7:PySem.W.nsIn K mainGlobals "is_tuple_of" = some (some (.ref f7))) (l7:K.lookup f7 = some ⟨oc7,od7,.func (PySem.W.fnOf "is_tuple_of" "is_tuple_of" (aP eE) (aN eE) (aF eE) .none kV7 doc7 pm7 an7 cd7 ct7),sl7⟩) (c7:PySem.W.codeIn K cd7 "is_tuple_of" = true) (k7:PySem.W.keepIn K (.ref f7) = true)
    (a8:PySem.W.nsIn K mainGlobals "none_twice" = some (some (.ref f8))) (l8:K.lookup f8 = some ⟨oc8,od8,.func (PySem.W.fnOf "none_twice" "none_twice" (aP eK) (aN eK) (aF eK) .none kV8 doc8 pm8 an8 cd8 ct8),sl8⟩) (c8:PySem.W.codeIn K cd8 "none_twice" = true) (k8:PySem.W.keepIn K (.ref f8) = true)
    (a9:PySem.W.nsIn K mainGlobals "is_field" = some (some (.ref f9))) (l9:K.lookup f9 = some ⟨oc9,od9,.func (PySem.W.fnOf "is_field" "is_field" (aP gH) (aN gH) (aF gH) .none kV9 doc9 pm9 an9 cd9 ct9),sl9⟩) (c9:PySem.W.codeIn K cd9 "is_field" = true) (k9:PySem.W.keepIn K (.ref f9) = true)
    (a10:PySem.W.nsIn K mainGlobals "are_fields" = some (some (.ref f10))) (l10:K.lookup f10 = some ⟨oc10,od10,.func (PySem.W.fnOf "are_fields" "are_fields" (aP eO) (aN eO) (aF eO) .none kV10 doc10 pm10 an10 cd10 ct10),sl10⟩) (c10:PySem.W.codeIn K cd10 "are_fields" = true) (k10:PySem.W.keepIn K (.ref f10) = true)
    (a11:PySem.W.nsIn K mainGlobals "are_sides" = some (some (.ref f11))) (l11:K.lookup f11 = some ⟨oc11,od11,.func (PySem.W.fnOf "are_sides" "are_sides" (aP fR) (aN fR) (aF fR) .none kV11 doc11 pm11 an11 cd11 ct11),sl11⟩) (c11:PySem.W.codeIn K cd11 "are_sides" = true) (k11:PySem.W.keepIn K (.ref f11) = true)
    (a12:PySem.W.nsIn K mainGlobals "is_sill" = some (some (.ref f12))) (l12:K.lookup f12 = some ⟨oc12,od12,.func (PySem.W.fnOf "is_sill" "is_sill" (aP iE) (aN iE) (aF iE) .none kV12 doc12 pm12 an12 cd12 ct12),sl12⟩) (c12:PySem.W.codeIn K cd12 "is_sill" = true) (k12:PySem.W.keepIn K (.ref f12) = true)
    (a13:PySem.W.nsIn K mainGlobals "is_dyke" = some (some (.ref f13))) (l13:K.lookup f13 = some ⟨oc13,od13,.func (PySem.W.fnOf "is_dyke" "is_dyke" (aP iH) (aN iH) (aF iH) .none kV13 doc13 pm13 an13 cd13 ct13),sl13⟩) (c13:PySem.W.codeIn K cd13 "is_dyke" = true) (k13:PySem.W.keepIn K (.ref f13) = true)
    (a14:PySem.W.nsIn K mainGlobals "are_dykes" = some (some (.ref f14))) (l14:K.lookup f14 = some ⟨oc14,od14,.func (PySem.W.fnOf "are_dykes" "are_dykes" (aP fS) (aN fS) (aF fS) .none kV14 doc14 pm14 an14 cd14 ct14),sl14⟩) (c14:PySem.W.codeIn K cd14 "are_dykes" = true) (k14:PySem.W.keepIn K (.ref f14) = true)
    (a15:PySem.W.nsIn K mainGlobals "are_some_fields" = some (some (.ref f15))) (l15:K.lookup f15 = some ⟨oc15,od15,.func (PySem.W.fnOf "are_some_fields" "are_some_fields" (aP dB) (aN dB) (aF dB) .none kV15 doc15 pm15 an15 cd15 ct15),sl15⟩) (c15:PySem.W.codeIn K cd15 "are_some_fields" = true) (k15:PySem.W.keepIn K (.ref f15) = true)
    (a16:PySem.W.nsIn K mainGlobals "check_wish" = some (some (.ref f16))) (l16:K.lookup f16 = some ⟨oc16,od16,.func (PySem.W.fnOf "check_wish" "check_wish" (aP eN) (aN eN) (aF eN) .none kV16 doc16 pm16 an16 cd16 ct16),sl16⟩) (c16:PySem.W.codeIn K cd16 "check_wish" = true) (k16:PySem.W.keepIn K (.ref f16) = true)
    (a17:PySem.W.nsIn K mainGlobals "coins_to" = some (some (.ref f17))) (l17:K.lookup f17 = some ⟨oc17,od17,.func (PySem.W.fnOf "coins_to" "coins_to" (aP gJ) (aN gJ) (aF gJ) .none kV17 doc17 pm17 an17 cd17 ct17),sl17⟩) (c17:PySem.W.codeIn K cd17 "coins_to" = true) (k17:PySem.W.keepIn K (.ref f17) = true)
    (a18:PySem.W.nsIn K mainGlobals "is_low" = some (some (.ref f18))) (l18:K.lookup f18 = some ⟨oc18,od18,.func (PySem.W.fnOf "is_low" "is_low" (aP jE) (aN jE) (aF jE) .none kV18 doc18 pm18 an18 cd18 ct18),sl18⟩) (c18:PySem.W.codeIn K cd18 "is_low" = true) (k18:PySem.W.keepIn K (.ref f18) = true)
    (a19:PySem.W.nsIn K mainGlobals "is_gap" = some (some (.ref f19))) (l19:K.lookup f19 = some ⟨oc19,od19,.func (PySem.W.fnOf "is_gap" "is_gap" (aP jF) (aN jF) (aF jF) .none kV19 doc19 pm19 an19 cd19 ct19),sl19⟩) (c19:PySem.W.codeIn K cd19 "is_gap" = true) (k19:PySem.W.keepIn K (.ref f19) = true)
    (a20:PySem.W.nsIn K mainGlobals "gap_coins" = some (some (.ref f20))) (l20:K.lookup f20 = some ⟨oc20,od20,.func (PySem.W.fnOf "gap_coins" "gap_coins" (aP fQ) (aN fQ) (aF fQ) .none kV20 doc20 pm20 an20 cd20 ct20),sl20⟩) (c20:PySem.W.codeIn K cd20 "gap_coins" = true) (k20:PySem.W.keepIn K (.ref f20) = true)
    (a21:PySem.W.nsIn K mainGlobals "is_flow" = some (some (.ref f21))) (l21:K.lookup f21 = some ⟨oc21,od21,.func (PySem.W.fnOf "is_flow" "is_flow" (aP iG) (aN iG) (aF iG) .none kV21 doc21 pm21 an21 cd21 ct21),sl21⟩) (c21:PySem.W.codeIn K cd21 "is_flow" = true) (k21:PySem.W.keepIn K (.ref f21) = true)
    (a22:PySem.W.nsIn K mainGlobals "is_stream" = some (some (.ref f22))) (l22:K.lookup f22 = some ⟨oc22,od22,.func (PySem.W.fnOf "is_stream" "is_stream" (aP fL) (aN fL) (aF fL) .none kV22 doc22 pm22 an22 cd22 ct22),sl22⟩) (c22:PySem.W.codeIn K cd22 "is_stream" = true) (k22:PySem.W.keepIn K (.ref f22) = true)
    (a23:PySem.W.nsIn K mainGlobals "gains_by" = some (some (.ref f23))) (l23:K.lookup f23 = some ⟨oc23,od23,.func (PySem.W.fnOf "gains_by" "gains_by" (aP gI) (aN gI) (aF gI) .none kV23 doc23 pm23 an23 cd23 ct23),sl23⟩) (c23:PySem.W.codeIn K cd23 "gains_by" = true) (k23:PySem.W.keepIn K (.ref f23) = true)
    (a24:PySem.W.nsIn K mainGlobals "paper_for" = some (some (.ref f24))) (l24:K.lookup f24 = some ⟨oc24,od24,.func (PySem.W.fnOf "paper_for" "paper_for" (aP fK) (aN fK) (aF fK) .none kV24 doc24 pm24 an24 cd24 ct24),sl24⟩) (c24:PySem.W.codeIn K cd24 "paper_for" = true) (k24:PySem.W.keepIn K (.ref f24) = true)
    (a25:PySem.W.nsIn K mainGlobals "_law_cell_at" = some (some (.ref f25))) (l25:K.lookup f25 = some ⟨oc25,od25,.func (PySem.W.fnOf "_law_cell_at" "_law_cell_at" (aP iI) (aN iI) (aF iI) .none kV25 doc25 pm25 an25 cd25 ct25),sl25⟩) (c25:PySem.W.codeIn K cd25 "_law_cell_at" = true) (k25:PySem.W.keepIn K (.ref f25) = true)
    (a26:PySem.W.nsIn K mainGlobals "_law_whole" = some (some (.ref f26))) (l26:K.lookup f26 = some ⟨oc26,od26,.func (PySem.W.fnOf "_law_whole" "_law_whole" (aP kH) (aN kH) (aF kH) .none kV26 doc26 pm26 an26 cd26 ct26),sl26⟩) (c26:PySem.W.codeIn K cd26 "_law_whole" = true) (k26:PySem.W.keepIn K (.ref f26) = true)
    (a27:PySem.W.nsIn K mainGlobals "_law_names" = some (some (.ref f27))) (l27:K.lookup f27 = some ⟨oc27,od27,.func (PySem.W.fnOf "_law_names" "_law_names" (aP kK) (aN kK) (aF kK) .none kV27 doc27 pm27 an27 cd27 ct27),sl27⟩) (c27:PySem.W.codeIn K cd27 "_law_names" = true) (k27:PySem.W.keepIn K (.ref f27) = true)
    (a28:PySem.W.nsIn K mainGlobals "_law_mixed" = some (some (.ref f28))) (l28:K.lookup f28 = some ⟨oc28,od28,.func (PySem.W.fnOf "_law_mixed" "_law_mixed" (aP kL) (aN kL) (aF kL) .none kV28 doc28 pm28 an28 cd28 ct28),sl28⟩) (c28:PySem.W.codeIn K cd28 "_law_mixed" = true) (k28:PySem.W.keepIn K (.ref f28) = true)
    (a29:PySem.W.nsIn K mainGlobals "_law_digits" = some (some (.ref f29))) (l29:K.lookup f29 = some ⟨oc29,od29,.func (PySem.W.fnOf "_law_digits" "_law_digits" (aP jJ) (aN jJ) (aF jJ) .none kV29 doc29 pm29 an29 cd29 ct29),sl29⟩) (c29:PySem.W.codeIn K cd29 "_law_digits" = true) (k29:PySem.W.keepIn K (.ref f29) = true)
    (a30:PySem.W.nsIn K mainGlobals "_law_height" = some (some (.ref f30))) (l30:K.lookup f30 = some ⟨oc30,od30,.func (PySem.W.fnOf "_law_height" "_law_height" (aP jH) (aN jH) (aF jH) .none kV30 doc30 pm30 an30 cd30 ct30),sl30⟩) (c30:PySem.W.codeIn K cd30 "_law_height" = true) (k30:PySem.W.keepIn K (.ref f30) = true)
    (a31:PySem.W.nsIn K mainGlobals "_law_amount" = some (some (.ref f31))) (l31:K.lookup f31 = some ⟨oc31,od31,.func (PySem.W.fnOf "_law_amount" "_law_amount" (aP jK) (aN jK) (aF jK) .none kV31 doc31 pm31 an31 cd31 ct31),sl31⟩) (c31:PySem.W.codeIn K cd31 "_law_amount" = true) (k31:PySem.W.keepIn K (.ref f31) = true)
    (a32:PySem.W.nsIn K mainGlobals "_law_fields" = some (some (.ref f32))) (l32:K.lookup f32 = some ⟨oc32,od32,.func (PySem.W.fnOf "_law_fields" "_law_fields" (aP jI) (aN jI) (aF jI) .none kV32 doc32 pm32 an32 cd32 ct32),sl32⟩) (c32:PySem.W.codeIn K cd32 "_law_fields" = true) (k32:PySem.W.keepIn K (.ref f32) = true)
    (a33:PySem.W.nsIn K mainGlobals "_law_dykes" = some (some (.ref f33))) (l33:K.lookup f33 = some ⟨oc33,od33,.func (PySem.W.fnOf "_law_dykes" "_law_dykes" (aP kN) (aN kN) (aF kN) .none kV33 doc33 pm33 an33 cd33 ct33),sl33⟩) (c33:PySem.W.codeIn K cd33 "_law_dykes" = true) (k33:PySem.W.keepIn K (.ref f33) = true)
    (a34:PySem.W.nsIn K mainGlobals "_law_wish" = some (some (.ref f34))) (l34:K.lookup f34 = some ⟨oc34,od34,.func (PySem.W.fnOf "_law_wish" "_law_wish" (aP mQ) (aN mQ) (aF mQ) .none kV34 doc34 pm34 an34 cd34 ct34),sl34⟩) (c34:PySem.W.codeIn K cd34 "_law_wish" = true) (k34:PySem.W.keepIn K (.ref f34) = true)
    (a35:PySem.W.nsIn K mainGlobals "_law_level" = some (some (.ref f35))) (l35:K.lookup f35 = some ⟨oc35,od35,.func (PySem.W.fnOf "_law_level" "_law_level" (aP kM) (aN kM) (aF kM) .none kV35 doc35 pm35 an35 cd35 ct35),sl35⟩) (c35:PySem.W.codeIn K cd35 "_law_level" = true) (k35:PySem.W.keepIn K (.ref f35) = true)
    (a36:PySem.W.nsIn K mainGlobals "_law_land" = some (some (.ref f36))) (l36:K.lookup f36 = some ⟨oc36,od36,.func (PySem.W.fnOf "_law_land" "_law_land" (aP mT) (aN mT) (aF mT) .none kV36 doc36 pm36 an36 cd36 ct36),sl36⟩) (c36:PySem.W.codeIn K cd36 "_law_land" = true) (k36:PySem.W.keepIn K (.ref f36) = true)
    (a37:PySem.W.nsIn K mainGlobals "_law_gaps" = some (some (.ref f37))) (l37:K.lookup f37 = some ⟨oc37,od37,.func (PySem.W.fnOf "_law_gaps" "_law_gaps" (aP mU) (aN mU) (aF mU) .none kV37 doc37 pm37 an37 cd37 ct37),sl37⟩) (c37:PySem.W.codeIn K cd37 "_law_gaps" = true) (k37:PySem.W.keepIn K (.ref f37) = true)
    (a38:PySem.W.nsIn K mainGlobals "_law_in_order" = some (some (.ref f38))) (l38:K.lookup f38 = some ⟨oc38,od38,.func (PySem.W.fnOf "_law_in_order" "_law_in_order" (aP gM) (aN gM) (aF gM) .none kV38 doc38 pm38 an38 cd38 ct38),sl38⟩) (c38:PySem.W.codeIn K cd38 "_law_in_order" = true) (k38:PySem.W.keepIn K (.ref f38) = true)
    (a39:PySem.W.nsIn K mainGlobals "_law_paper" = some (some (.ref f39))) (l39:K.lookup f39 = some ⟨oc39,od39,.func (PySem.W.fnOf "_law_paper" "_law_paper" (aP kJ) (aN kJ) (aF kJ) .none kV39 doc39 pm39 an39 cd39 ct39),sl39⟩) (c39:PySem.W.codeIn K cd39 "_law_paper" = true) (k39:PySem.W.keepIn K (.ref f39) = true)
    (a40:PySem.W.nsIn K mainGlobals "_law_road" = some (some (.ref f40))) (l40:K.lookup f40 = some ⟨oc40,od40,.func (PySem.W.fnOf "_law_road" "_law_road" (aP mS) (aN mS) (aF mS) .none kV40 doc40 pm40 an40 cd40 ct40),sl40⟩) (c40:PySem.W.codeIn K cd40 "_law_road" = true) (k40:PySem.W.keepIn K (.ref f40) = true)
    (a41:PySem.W.nsIn K mainGlobals "_law_way" = some (some (.ref f41))) (l41:K.lookup f41 = some ⟨oc41,od41,.func (PySem.W.fnOf "_law_way" "_law_way" (aP pO) (aN pO) (aF pO) .none kV41 doc41 pm41 an41 cd41 ct41),sl41⟩) (c41:PySem.W.codeIn K cd41 "_law_way" = true) (k41:PySem.W.keepIn K (.ref f41) = true)
    (a42:PySem.W.nsIn K mainGlobals "_law_and_more" = some (some (.ref f42))) (l42:K.lookup f42 = some ⟨oc42,od42,.func (PySem.W.fnOf "_law_and_more" "_law_and_more" (aP gO) (aN gO) (aF gO) .none kV42 doc42 pm42 an42 cd42 ct42),sl42⟩) (c42:PySem.W.codeIn K cd42 "_law_and_more" = true) (k42:PySem.W.keepIn K (.ref f42) = true)
    (a43:PySem.W.nsIn K mainGlobals "_law_rings" = some (some (.ref f43))) (l43:K.lookup f43 = some ⟨oc43,od43,.func (PySem.W.fnOf "_law_rings" "_law_rings" (aP kI) (aN kI) (aF kI) .none kV43 doc43 pm43 an43 cd43 ct43),sl43⟩) (c43:PySem.W.codeIn K cd43 "_law_rings" = true) (k43:PySem.W.keepIn K (.ref f43) = true)
    (a44:PySem.W.nsIn K mainGlobals "_law_stream" = some (some (.ref f44))) (l44:K.lookup f44 = some ⟨oc44,od44,.func (PySem.W.fnOf "_law_stream" "_law_stream" (aP jG) (aN jG) (aF jG) .none kV44 doc44 pm44 an44 cd44 ct44),sl44⟩) (c44:PySem.W.codeIn K cd44 "_law_stream" = true) (k44:PySem.W.keepIn K (.ref f44) = true)
    (a45:PySem.W.nsIn K mainGlobals "_law_odd_step" = some (some (.ref f45))) (l45:K.lookup f45 = some ⟨oc45,od45,.func (PySem.W.fnOf "_law_odd_step" "_law_odd_step" (aP gL) (aN gL) (aF gL) .none kV45 doc45 pm45 an45 cd45 ct45),sl45⟩) (c45:PySem.W.codeIn K cd45 "_law_odd_step" = true) (k45:PySem.W.keepIn K (.ref f45) = true)
    (a46:PySem.W.nsIn K mainGlobals "_law_wrong" = some (some (.ref f46))) (l46:K.lookup f46 = some ⟨oc46,od46,.func (PySem.W.fnOf "_law_wrong" "_law_wrong" (aP kG) (aN kG) (aF kG) .none kV46 doc46 pm46 an46 cd46 ct46),sl46⟩) (c46:PySem.W.codeIn K cd46 "_law_wrong" = true) (k46:PySem.W.keepIn K (.ref f46) = true)
    (a47:PySem.W.nsIn K mainGlobals "_law_told" = some (some (.ref f47))) (l47:K.lookup f47 = some ⟨oc47,od47,.func (PySem.W.fnOf "_law_told" "_law_told" (aP mR) (aN mR) (aF mR) .none kV47 doc47 pm47 an47 cd47 ct47),sl47⟩) (c47:PySem.W.codeIn K cd47 "_law_told" = true) (k47:PySem.W.keepIn K (.ref f47) = true)
    (a48:PySem.W.nsIn K mainGlobals "law" = some (some (.ref f48))) (l48:K.lookup f48 = some ⟨oc48,od48,.func (PySem.W.fnOf "law" "law" (aP oF) (aN oF) (aF oF) .none kV48 doc48 pm48 an48 cd48 ct48),sl48⟩) (c48:PySem.W.codeIn K cd48 "law" = true) (k48:PySem.W.keepIn K (.ref f48) = true)
    (g0:PySem.W.nsIn K mainGlobals "SEA" = some (some u0)) (r0:bK (.str "sea") u0)
    (g1:PySem.W.nsIn K mainGlobals "LETTERS" = some (some u1)) (r1:bK (.str "abcdefghijklmnopqrstuvwxyz") u1)
    (g2:PySem.W.nsIn K mainGlobals "MOST_LETTERS" = some (some u2)) (r2:bK (.int 8) u2)
    (g3:PySem.W.nsIn K mainGlobals "MOST_HEIGHT" = some (some u3)) (r3:bK (.int 1000000) u3)
    (g4:PySem.W.nsIn K mainGlobals "MOST_AMOUNT" = some (some u4)) (r4:bK (.int 1000000) u4)
    (g5:PySem.W.nsIn K mainGlobals "MOST_FIELDS" = some (some u5)) (r5:bK (.int 12) u5)
    (g6:PySem.W.nsIn K mainGlobals "MOST_DYKES" = some (some u6)) (r6:bK (.int 40) u6)
    (z0:PySem.W.nsIn K mainGlobals "abs" = some none)
    (z1:PySem.W.nsIn K mainGlobals "all" = some none)
    (z2:PySem.W.nsIn K mainGlobals "any" = some none)
    (z3:PySem.W.nsIn K mainGlobals "bool" = some none)
    (z4:PySem.W.nsIn K mainGlobals "dict" = some none)
    (z5:PySem.W.nsIn K mainGlobals "int" = some none)
    (z6:PySem.W.nsIn K mainGlobals "isinstance" = some none)
    (z7:PySem.W.nsIn K mainGlobals "len" = some none)
    (z8:PySem.W.nsIn K mainGlobals "list" = some none)
    (z9:PySem.W.nsIn K mainGlobals "max" = some none)
    (z10:PySem.W.nsIn K mainGlobals "min" = some none)
    (z11:PySem.W.nsIn K mainGlobals "range" = some none)
    (z12:PySem.W.nsIn K mainGlobals "set" = some none)
    (z13:PySem.W.nsIn K mainGlobals "str" = some none)
    (z14:PySem.W.nsIn K mainGlobals "sum" = some none)
    (z15:PySem.W.nsIn K mainGlobals "tuple" = some none)  :Txt K mg C :=
  ⟨⟨pgC,hdC,poC,saC⟩,
   PySem.W.mg_of X G aC,
   n_field_rows,
   n_dyke_rows,
   ⟨iha,ihn,iht,ihm⟩,
   aKF ma16 mi16 ml16 mc16 mk16 mkC kpC (fun _ _ _ _ _ _ us hl=>match us,hl with | [_,_,_],_=>rfl),
   iW ma17 mi17 ml17 mc17 mk17 (fun _ _ _ _ _ _ us hl=>match us,hl with | [_],_=>rfl),
   iW ma18 mi18 ml18 mc18 mk18 (fun _ _ _ _ _ _ us hl=>match us,hl with | [_],_=>rfl),
   iW ma19 mi19 ml19 mc19 mk19 (fun _ _ _ _ _ _ us hl=>match us,hl with | [_],_=>rfl),
   iW ma20 mi20 ml20 mc20 mk20 (fun _ _ _ _ _ _ us hl=>match us,hl with | [_],_=>rfl),
   iW ma21 mi21 ml21 mc21 mk21 (fun _ _ _ _ _ _ us hl=>match us,hl with | [_],_=>rfl),
   iW ma22 mi22 ml22 mc22 mk22 (fun _ _ _ _ _ _ us hl=>match us,hl with | [_,_],_=>rfl),
   iW ma23 mi23 ml23 mc23 mk23 (fun _ _ _ _ _ _ us hl=>match us,hl with | [_,_],_=>rfl),
   iW ma24 mi24 ml24 mc24 mk24 (fun _ _ _ _ _ _ us hl=>match us,hl with | [_,_],_=>rfl),
   iW ma25 mi25 ml25 mc25 mk25 (fun _ _ _ _ _ _ us hl=>match us,hl with | [_,_],_=>rfl),
   bJ X G a0 l0 c0 k0 (fun _ _ _ _ _ _ us hl=>match us,hl with | [_],_=>rfl),
   bJ X G a1 l1 c1 k1 (fun _ _ _ _ _ _ us hl=>match us,hl with | [_],_=>rfl),
   bJ X G a2 l2 c2 k2 (fun _ _ _ _ _ _ us hl=>match us,hl with | [_],_=>rfl),
   bJ X G a3 l3 c3 k3 (fun _ _ _ _ _ _ us hl=>match us,hl with | [_],_=>rfl),
   bJ X G a4 l4 c4 k4 (fun _ _ _ _ _ _ us hl=>match us,hl with | [_],_=>rfl),
   bJ X G a5 l5 c5 k5 (fun _ _ _ _ _ _ us hl=>match us,hl with | [_,_],_=>rfl),
   bJ X G a6 l6 c6 k6 (fun _ _ _ _ _ _ us hl=>match us,hl with | [_,_],_=>rfl),
   bJ X G a7 l7 c7 k7 (fun _ _ _ _ _ _ us hl=>match us,hl with | [_,_],_=>rfl),
   bJ X G a8 l8 c8 k8 (fun _ _ _ _ _ _ us hl=>match us,hl with | [_],_=>rfl),
   bJ X G a9 l9 c9 k9 (fun _ _ _ _ _ _ us hl=>match us,hl with | [_],_=>rfl),
   bJ X G a10 l10 c10 k10 (fun _ _ _ _ _ _ us hl=>match us,hl with | [_],_=>rfl),
   bJ X G a11 l11 c11 k11 (fun _ _ _ _ _ _ us hl=>match us,hl with | [_,_,_],_=>rfl),
   bJ X G a12 l12 c12 k12 (fun _ _ _ _ _ _ us hl=>match us,hl with | [_,_],_=>rfl),
   bJ X G a13 l13 c13 k13 (fun _ _ _ _ _ _ us hl=>match us,hl with | [_,_],_=>rfl),
   bJ X G a14 l14 c14 k14 (fun _ _ _ _ _ _ us hl=>match us,hl with | [_,_],_=>rfl),
   bJ X G a15 l15 c15 k15 (fun _ _ _ _ _ _ us hl=>match us,hl with | [_,_],_=>rfl),
   bJ X G a16 l16 c16 k16 (fun _ _ _ _ _ _ us hl=>match us,hl with | [_,_,_],_=>rfl),
   bJ X G a17 l17 c17 k17 (fun _ _ _ _ _ _ us hl=>match us,hl with | [_,_],_=>rfl),
   bJ X G a18 l18 c18 k18 (fun _ _ _ _ _ _ us hl=>match us,hl with | [_,_,_],_=>rfl),
   bJ X G a19 l19 c19 k19 (fun _ _ _ _ _ _ us hl=>match us,hl with | [_,_,_],_=>rfl),
   bJ X G a20 l20 c20 k20 (fun _ _ _ _ _ _ us hl=>match us,hl with | [_,_],_=>rfl),
   bJ X G a21 l21 c21 k21 (fun _ _ _ _ _ _ us hl=>match us,hl with | [_,_],_=>rfl),
   bJ X G a22 l22 c22 k22 (fun _ _ _ _ _ _ us hl=>match us,hl with | [_,_],_=>rfl),
   bJ X G a23 l23 c23 k23 (fun _ _ _ _ _ _ us hl=>match us,hl with | [_,_],_=>rfl),
   bJ X G a24 l24 c24 k24 (fun _ _ _ _ _ _ us hl=>match us,hl with | [_,_,_,_],_=>rfl),
   bJ X G a25 l25 c25 k25 (fun _ _ _ _ _ _ us hl=>match us,hl with | [_,_],_=>rfl),
   bJ X G a26 l26 c26 k26 (fun _ _ _ _ _ _ us hl=>match us,hl with | [_],_=>rfl),
   bJ X G a27 l27 c27 k27 (fun _ _ _ _ _ _ us hl=>match us,hl with | [_,_],_=>rfl),
   bJ X G a28 l28 c28 k28 (fun _ _ _ _ _ _ us hl=>match us,hl with | [_,_],_=>rfl),
   bJ X G a29 l29 c29 k29 (fun _ _ _ _ _ _ us hl=>match us,hl with | [_],_=>rfl),
   bJ X G a30 l30 c30 k30 (fun _ _ _ _ _ _ us hl=>match us,hl with | [_],_=>rfl),
   bJ X G a31 l31 c31 k31 (fun _ _ _ _ _ _ us hl=>match us,hl with | [_],_=>rfl),
   bJ X G a32 l32 c32 k32 (fun _ _ _ _ _ _ us hl=>match us,hl with | [_,_],_=>rfl),
   bJ X G a33 l33 c33 k33 (fun _ _ _ _ _ _ us hl=>match us,hl with | [_,_,_],_=>rfl),
   bJ X G a34 l34 c34 k34 (fun _ _ _ _ _ _ us hl=>match us,hl with | [_,_],_=>rfl),
   bJ X G a35 l35 c35 k35 (fun _ _ _ _ _ _ us hl=>match us,hl with | [_],_=>rfl),
   bJ X G a36 l36 c36 k36 (fun _ _ _ _ _ _ us hl=>match us,hl with | [_,_,_],_=>rfl),
   bJ X G a37 l37 c37 k37 (fun _ _ _ _ _ _ us hl=>match us,hl with | [_,_],_=>rfl),
   bJ X G a38 l38 c38 k38 (fun _ _ _ _ _ _ us hl=>match us,hl with | [_,_],_=>rfl),
   bJ X G a39 l39 c39 k39 (fun _ _ _ _ _ _ us hl=>match us,hl with | [_,_,_,_],_=>rfl),
   bJ X G a40 l40 c40 k40 (fun _ _ _ _ _ _ us hl=>match us,hl with | [_,_],_=>rfl),
   bJ X G a41 l41 c41 k41 (fun _ _ _ _ _ _ us hl=>match us,hl with | [_,_,_],_=>rfl),
   bJ X G a42 l42 c42 k42 (fun _ _ _ _ _ _ us hl=>match us,hl with | [_,_,_,_],_=>rfl),
   bJ X G a43 l43 c43 k43 (fun _ _ _ _ _ _ us hl=>match us,hl with | [_,_,_,_,_],_=>rfl),
   bJ X G a44 l44 c44 k44 (fun _ _ _ _ _ _ us hl=>match us,hl with | [_,_,_],_=>rfl),
   bJ X G a45 l45 c45 k45 (fun _ _ _ _ _ _ us hl=>match us,hl with | [_,_],_=>rfl),
   bJ X G a46 l46 c46 k46 (fun _ _ _ _ _ _ us hl=>match us,hl with | [_,_,_],_=>rfl),
   bJ X G a47 l47 c47 k47 (fun _ _ _ _ _ _ us hl=>match us,hl with | [_,_,_,_,_],_=>rfl),
   bJ X G a48 l48 c48 k48 (fun _ _ _ _ _ _ us hl=>match us,hl with | [_],_=>rfl),
   lT X G g0 r0,
   lT X G g1 r1,
   lT X G g2 r2,
   lT X G g3 r3,
   lT X G g4 r4,
   lT X G g5 r5,
   lT X G g6 r6,
   PySem.W.mg_none_of X G z0,
   PySem.W.mg_none_of X G z1,
   PySem.W.mg_none_of X G z2,
   PySem.W.mg_none_of X G z3,
   PySem.W.mg_none_of X G z4,
   PySem.W.mg_none_of X G z5,
   PySem.W.mg_none_of X G z6,
   PySem.W.mg_none_of X G z7,
   PySem.W.mg_none_of X G z8,
   PySem.W.mg_none_of X G z9,
   PySem.W.mg_none_of X G z10,
   PySem.W.mg_none_of X G z11,
   PySem.W.mg_none_of X G z12,
   PySem.W.mg_none_of X G z13,
   PySem.W.mg_none_of X G z14,
   PySem.W.mg_none_of X G z15⟩
end K56
namespace PySem.W.Fast
def tw13601706833107816430 := 0
def tw724316934649332576 := 0
def tw18266229229523524584 := 0
def tw732851204248972515 := 0
def tw4049965740824687781 := 0
def tw11465284013637868512 := 0
def tw18242753498913040232 := 0
def tw2424487436066408866 := 0
def tw6348478323462465798 := 0
def tw8933299012405139252 := 0
def tw2245370401184726263 := 0
def tw17218114713108419663 := 0
def tw3722210857598280258 := 0
def tw4887845157715063812 := 0
def tw17325291501199242767 := 0
def tw4420499211392285833 := 0
def tw11030848988297674994 := 0
def tw8353194992854487566 := 0
def tw6863321758654868205 := 0
def tw17824669741305478524 := 0
def tw17134519401140913060 := 0
def tw295873940412891781 := 0
def tw4544968888281470914 := 0
def tw16220096972951249003 := 0
def tw17336866776873149092 := 0
def tw6893119612812907357 := 0
def tw4498666748317288062 := 0
def tw8117741633136079552 := 0
def tw10082859765186465820 := 0
def tw14091317310048644706 := 0
def tw6510418968773182102 := 0
def tw12094933811362074744 := 0
def tw4959214639579539444 := 0
def tw15378676279191287861 := 0
def tw2243372870532725163 := 0
def tw6278464920681431696 := 0
def tw17637161858601811794 := 0
def tw5692550326257005747 := 0
def tw8768182721030949664 := 0
def tw11976603287240490087 := 0
def tw8783857783061825522 := 0
def tw18306529291127299453 := 0
def tw11873394807614614720 := 0
def tw10139932158757292196 := 0
def tw15256611234804559647 := 0
def tw8730578789890628167 := 0
def tw89372868805071492 := 0
def tw15424739521239351808 := 0
def tw6739259387463694089 := 0
def tw2142339405121579376 := 0
def tw12906682949127806105 := 0
def tw14031012902823780959 := 0
def tw9613188016468581115 := 0
def tw12451896817584065718 := 0
def tw1520074268732776422 := 0
def tw1694808477442590548 := 0
def tw537944919163722706 := 0
def tw3798324887512004892 := 0
def tw11066420538117301837 := 0
def tw16147608330194934800 := 0
def tw13847157726688156120 := 0
def tw16132325579180492884 := 0
def tw1998812416407204900 := 0
def tw17772666751909242703 := 0
def tw7226818307395378953 := 0
def tw17552723696381968301 := 0
def tw10869986329865959273 := 0
def tw2038724598487523157 := 0
def tw7184594637913215067 := 0
def tw17915019558704233324 := 0
def tw17268942946746821179 := 0
def tw1432014243632687902 := 0
def tw2479942393347495444 := 0
def tw13750953534054443039 := 0
def tw80888474599855893 := 0
def tw17522149388715772533 := 0
def tw14261544321473809383 := 0
def tw6606446203493587721 := 0
def tw6857662007260974053 := 0
def tw14062118214389530380 := 0
def tw10432604787988512305 := 0
def tw16305873772507567849 := 0
def tw16777191474130023661 := 0
def tw1583102668011799541 := 0
def tw5921474826130706958 := 0
def tw15655173954388923876 := 0
def tw13453593839688118374 := 0
def tw6230135424425519688 := 0
def tw11413174935281630396 := 0
def tw11864033908311441284 := 0
def tw7584763556812359092 := 0
def tw13858910921698076468 := 0
def tw8733133897421213426 := 0
def tw7925681658986868621 := 0
def tw16947559617831369368 := 0
def tw4416007001349987485 := 0
def tw15712308644244333832 := 0
def tw9720714253845288348 := 0
def tw12949292244310097199 := 0
def tw1718913034849047704 := 0
end PySem.W.Fast
open PySem PySem.W PyProof.Rows
set_option maxRecDepth 100000 in
set_option maxHeartbeats 0 in
theorem PySem.Challenge.cw_dykemoot_k56_papers_for_streams_holds : PySem.Challenge.rw_dykemoot_k56_papers_for_streams.Holds := by
 w_on; o_law; k_head; (case hw => w_witness2)
 k_fill
 refine L2.walk_law (l := PySem.Challenge.rw_dykemoot_k56_papers_for_streams) 12 ⟨rfl, by decide, by decide⟩ rfl rfl (fun w h Y => PySem.W.kIn_of Y) ?F
 case F =>
  intro w mg fa h KX G hmg
  refine' K56.law_mk hmg (K56.txt_mk KX G ?xaC ?xpgC ?xhdC ?xpoC ?xsaC ?xmkC ?xkpC ?xn_field_rows ?xn_dyke_rows ?xiha ?xihn ?xiht ?xihm ?xma16 ?xmi16 ?xml16 ?xmc16 ?xmk16 ?xma17 ?xmi17 ?xml17 ?xmc17 ?xmk17 ?xma18 ?xmi18 ?xml18 ?xmc18 ?xmk18 ?xma19 ?xmi19 ?xml19 ?xmc19 ?xmk19 ?xma20 ?xmi20 ?xml20 ?xmc20 ?xmk20 ?xma21 ?xmi21 ?xml21 ?xmc21 ?xmk21 ?xma22 ?xmi22 ?xml22 ?xmc22 ?xmk22 ?xma23 ?xmi23 ?xml23 ?xmc23 ?xmk23 ?xma24 ?xmi24 ?xml24 ?xmc24 ?xmk24 ?xma25 ?xmi25 ?xml25 ?xmc25 ?xmk25 ?xa0 ?xl0 ?xc0 ?xk0 ?xa1 ?xl1 ?xc1 ?xk1 ?xa2 ?xl2 ?xc2 ?xk2 ?xa3 ?xl3 ?xc3 ?xk3 ?xa4 ?xl4 ?xc4 ?xk4 ?xa5 ?xl5 ?xc5 ?xk5 ?xa6 ?xl6 ?xc6 ?xk6 ?xa7 ?xl7 ?xc7 ?xk7 ?xa8 ?xl8 ?xc8 ?xk8 ?xa9 ?xl9 ?xc9 ?xk9 ?xa10 ?xl10 ?xc10 ?xk10 ?xa11 ?xl11 ?xc11 ?xk11 ?xa12 ?xl12 ?xc12 ?xk12 ?xa13 ?xl13 ?xc13 ?xk13 ?xa14 ?xl14 ?xc14 ?xk14 ?xa15 ?xl15 ?xc15 ?xk15 ?xa16 ?xl16 ?xc16 ?xk16 ?xa17 ?xl17 ?xc17 ?xk17 ?xa18 ?xl18 ?xc18 ?xk18 ?xa19 ?xl19 ?xc19 ?xk19 ?xa20 ?xl20 ?xc20 ?xk20 ?xa21 ?xl21 ?xc21 ?xk21 ?xa22 ?xl22 ?xc22 ?xk22 ?xa23 ?xl23 ?xc23 ?xk23 ?xa24 ?xl24 ?xc24 ?xk24 ?xa25 ?xl25 ?xc25 ?xk25 ?xa26 ?xl26 ?xc26 ?xk26 ?xa27 ?xl27 ?xc27 ?xk27 ?xa28 ?xl28 ?xc28 ?xk28 ?xa29 ?xl29 ?xc29 ?xk29 ?xa30 ?xl30 ?xc30 ?xk30 ?xa31 ?xl31 ?xc31 ?xk31 ?xa32 ?xl32 ?xc32 ?xk32 ?xa33 ?xl33 ?xc33 ?xk33 ?xa34 ?xl34 ?xc34 ?xk34 ?xa35 ?xl35 ?xc35 ?xk35 ?xa36 ?xl36 ?xc36 ?xk36 ?xa37 ?xl37 ?xc37 ?xk37 ?xa38 ?xl38 ?xc38 ?xk38 ?xa39 ?xl39 ?xc39 ?xk39 ?xa40 ?xl40 ?xc40 ?xk40 ?xa41 ?xl41 ?xc41 ?xk41 ?xa42 ?xl42 ?xc42 ?xk42 ?xa43 ?xl43 ?xc43 ?xk43 ?xa44 ?xl44 ?xc44 ?xk44 ?xa45 ?xl45 ?xc45 ?xk45 ?xa46 ?xl46 ?xc46 ?xk46 ?xa47 ?xl47 ?xc47 ?xk47 ?xa48 ?xl48 ?xc48 ?xk48 ?xg0 ?xr0 ?xg1 ?xr1 ?xg2 ?xr2 ?xg3 ?xr3 ?xg4 ?xr4 ?xg5 ?xr5 ?xg6 ?xr6 ?xz0 ?xz1 ?xz2 ?xz3 ?xz4 ?xz5 ?xz6 ?xz7 ?xz8 ?xz9 ?xz10 ?xz11 ?xz12 ?xz13 ?xz14 ?xz15)
  (case xaC => k_is)
  (case xpgC => k_is)
  (case xhdC => k_is)
  (case xpoC => k_is)
  (case xsaC => k_is)
  (case xmkC => k_is)
  (case xkpC => k_is)
  (case xn_field_rows => k_is)
  (case xn_dyke_rows => k_is)
  (case xiha => k_is)
  (case xihn => k_is)
  (case xiht => k_is)
  (case xihm => k_is)
  (case xma16 => k_is)
  (case xmi16 => k_is)
  (case xml16 => k_is)
  (case xmc16 => k_is)
  (case xmk16 => k_is)
  (case xma17 => k_is)
  (case xmi17 => k_is)
  (case xml17 => k_is)
  (case xmc17 => k_is)
  (case xmk17 => k_is)
  (case xma18 => k_is)
  (case xmi18 => k_is)
  (case xml18 => k_is)
  (case xmc18 => k_is)
  (case xmk18 => k_is)
  (case xma19 => k_is)
  (case xmi19 => k_is)
  (case xml19 => k_is)
  (case xmc19 => k_is)
  (case xmk19 => k_is)
  (case xma20 => k_is)
  (case xmi20 => k_is)
  (case xml20 => k_is)
  (case xmc20 => k_is)
  (case xmk20 => k_is)
  (case xma21 => k_is)
  (case xmi21 => k_is)
  (case xml21 => k_is)
  (case xmc21 => k_is)
  (case xmk21 => k_is)
  (case xma22 => k_is)
  (case xmi22 => k_is)
  (case xml22 => k_is)
  (case xmc22 => k_is)
  (case xmk22 => k_is)
  (case xma23 => k_is)
  (case xmi23 => k_is)
  (case xml23 => k_is)
  (case xmc23 => k_is)
  (case xmk23 => k_is)
  (case xma24 => k_is)
  (case xmi24 => k_is)
  (case xml24 => k_is)
  (case xmc24 => k_is)
  (case xmk24 => k_is)
  (case xma25 => k_is)
  (case xmi25 => k_is)
  (case xml25 => k_is)
  (case xmc25 => k_is)
  (case xmk25 => k_is)
  (case xa0 => k_is)
  (case xl0 => k_is)
  (case xc0 => k_is)
  (case xk0 => k_is)
  (case xa1 => k_is)
  (case xl1 => k_is)
  (case xc1 => k_is)
  (case xk1 => k_is)
  (case xa2 => k_is)
  (case xl2 => k_is)
  (case xc2 => k_is)
  (case xk2 => k_is)
  (case xa3 => k_is)
  (case xl3 => k_is)
  (case xc3 => k_is)
  (case xk3 => k_is)
  (case xa4 => k_is)
  (case xl4 => k_is)
  (case xc4 => k_is)
  (case xk4 => k_is)
  (case xa5 => k_is)
  (case xl5 => k_is)
  (case xc5 => k_is)
  (case xk5 => k_is)
  (case xa6 => k_is)
  (case xl6 => k_is)
  (case xc6 => k_is)
  (case xk6 => k_is)
  (case xa7 => k_is)
  (case xl7 => k_is)
  (case xc7 => k_is)
  (case xk7 => k_is)
  (case xa8 => k_is)
  (case xl8 => k_is)
  (case xc8 => k_is)
  (case xk8 => k_is)
  (case xa9 => k_is)
  (case xl9 => k_is)
  (case xc9 => k_is)
  (case xk9 => k_is)
  (case xa10 => k_is)
  (case xl10 => k_is)
  (case xc10 => k_is)
  (case xk10 => k_is)
  (case xa11 => k_is)
  (case xl11 => k_is)
  (case xc11 => k_is)
  (case xk11 => k_is)
  (case xa12 => k_is)
  (case xl12 => k_is)
  (case xc12 => k_is)
  (case xk12 => k_is)
  (case xa13 => k_is)
  (case xl13 => k_is)
  (case xc13 => k_is)
  (case xk13 => k_is)
  (case xa14 => k_is)
  (case xl14 => k_is)
  (case xc14 => k_is)
  (case xk14 => k_is)
  (case xa15 => k_is)
  (case xl15 => k_is)
  (case xc15 => k_is)
  (case xk15 => k_is)
  (case xa16 => k_is)
  (case xl16 => k_is)
  (case xc16 => k_is)
  (case xk16 => k_is)
  (case xa17 => k_is)
  (case xl17 => k_is)
  (case xc17 => k_is)
  (case xk17 => k_is)
  (case xa18 => k_is)
  (case xl18 => k_is)
  (case xc18 => k_is)
  (case xk18 => k_is)
  (case xa19 => k_is)
  (case xl19 => k_is)
  (case xc19 => k_is)
  (case xk19 => k_is)
  (case xa20 => k_is)
  (case xl20 => k_is)
  (case xc20 => k_is)
  (case xk20 => k_is)
  (case xa21 => k_is)
  (case xl21 => k_is)
  (case xc21 => k_is)
  (case xk21 => k_is)
  (case xa22 => k_is)
  (case xl22 => k_is)
  (case xc22 => k_is)
  (case xk22 => k_is)
  (case xa23 => k_is)
  (case xl23 => k_is)
  (case xc23 => k_is)
  (case xk23 => k_is)
  (case xa24 => k_is)
  (case xl24 => k_is)
  (case xc24 => k_is)
  (case xk24 => k_is)
  (case xa25 => k_is)
  (case xl25 => k_is)
  (case xc25 => k_is)
  (case xk25 => k_is)
  (case xa26 => k_is)
  (case xl26 => k_is)
  (case xc26 => k_is)
  (case xk26 => k_is)
  (case xa27 => k_is)
  (case xl27 => k_is)
  (case xc27 => k_is)
  (case xk27 => k_is)
  (case xa28 => k_is)
  (case xl28 => k_is)
  (case xc28 => k_is)
  (case xk28 => k_is)
  (case xa29 => k_is)
  (case xl29 => k_is)
  (case xc29 => k_is)
  (case xk29 => k_is)
  (case xa30 => k_is)
  (case xl30 => k_is)
  (case xc30 => k_is)
  (case xk30 => k_is)
  (case xa31 => k_is)
  (case xl31 => k_is)
  (case xc31 => k_is)
  (case xk31 => k_is)
  (case xa32 => k_is)
  (case xl32 => k_is)
  (case xc32 => k_is)
  (case xk32 => k_is)
  (case xa33 => k_is)
  (case xl33 => k_is)
  (case xc33 => k_is)
  (case xk33 => k_is)
  (case xa34 => k_is)
  (case xl34 => k_is)
  (case xc34 => k_is)
  (case xk34 => k_is)
  (case xa35 => k_is)
  (case xl35 => k_is)
  (case xc35 => k_is)
  (case xk35 => k_is)
  (case xa36 => k_is)
  (case xl36 => k_is)
  (case xc36 => k_is)
  (case xk36 => k_is)
  (case xa37 => k_is)
  (case xl37 => k_is)
  (case xc37 => k_is)
  (case xk37 => k_is)
  (case xa38 => k_is)
  (case xl38 => k_is)
  (case xc38 => k_is)
  (case xk38 => k_is)
  (case xa39 => k_is)
  (case xl39 => k_is)
  (case xc39 => k_is)
  (case xk39 => k_is)
  (case xa40 => k_is)
  (case xl40 => k_is)
  (case xc40 => k_is)
  (case xk40 => k_is)
  (case xa41 => k_is)
  (case xl41 => k_is)
  (case xc41 => k_is)
  (case xk41 => k_is)
  (case xa42 => k_is)
  (case xl42 => k_is)
  (case xc42 => k_is)
  (case xk42 => k_is)
  (case xa43 => k_is)
  (case xl43 => k_is)
  (case xc43 => k_is)
  (case xk43 => k_is)
  (case xa44 => k_is)
  (case xl44 => k_is)
  (case xc44 => k_is)
  (case xk44 => k_is)
  (case xa45 => k_is)
  (case xl45 => k_is)
  (case xc45 => k_is)
  (case xk45 => k_is)
  (case xa46 => k_is)
  (case xl46 => k_is)
  (case xc46 => k_is)
  (case xk46 => k_is)
  (case xa47 => k_is)
  (case xl47 => k_is)
  (case xc47 => k_is)
  (case xk47 => k_is)
  (case xa48 => k_is)
  (case xl48 => k_is)
  (case xc48 => k_is)
  (case xk48 => k_is)
  (case xg0 => k_is)
  (case xr0 => exact ⟨_, rfl⟩)
  (case xg1 => k_is)
  (case xr1 => exact ⟨_, rfl⟩)
  (case xg2 => k_is)
  (case xr2 => exact ⟨_, rfl⟩)
  (case xg3 => k_is)
  (case xr3 => exact ⟨_, rfl⟩)
  (case xg4 => k_is)
  (case xr4 => exact ⟨_, rfl⟩)
  (case xg5 => k_is)
  (case xr5 => exact ⟨_, rfl⟩)
  (case xg6 => k_is)
  (case xr6 => exact ⟨_, rfl⟩)
  (case xz0 => k_is)
  (case xz1 => k_is)
  (case xz2 => k_is)
  (case xz3 => k_is)
  (case xz4 => k_is)
  (case xz5 => k_is)
  (case xz6 => k_is)
  (case xz7 => k_is)
  (case xz8 => k_is)
  (case xz9 => k_is)
  (case xz10 => k_is)
  (case xz11 => k_is)
  (case xz12 => k_is)
  (case xz13 => k_is)
  (case xz14 => k_is)
  (case xz15 => k_is)
